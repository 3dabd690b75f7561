/- The document's reader: an end with its ports. -/
import Derived.Test.YtbmmgjmmooakpaaGreatDoorRv4
import Derived.Deep.CutBlock
namespace Go.Proofs.YtbmmgjmmooakpaaGreatDoor.Ru
open Go.RowKit
set_option linter.unusedVariables false
set_option maxRecDepth 100000

theorem end_nil' : endOf false (txt []) = none := by decide

theorem inner_cut {x : ByteArray} (h : 2 < x.size) : x.extract 1 (x.size - 1) = inner x := by
  rw [extract_text x 1 (x.size - 1) (by omega) (by omega)]
  unfold inner txt
  rw [List.dropLast_eq_take, List.length_tail, text_len, List.drop_one]

theorem byteEq (c d : UInt8) : ((c.toNat : Int) == (d.toNat : Int)) = (c == d) := by
  rw [Bool.eq_iff_iff]
  simp only [beq_iff_eq]
  constructor
  · intro h; exact UInt8.toNat_inj.1 (by omega)
  · rintro rfl; rfl

theorem isTab_at {x : ByteArray} (h : 2 < x.size) : isTab x = ((((x[0]'(by omega)).toNat : Int) == 60) && (((x[x.size - 1]'(by omega)).toNat : Int) == 62)) := by
  unfold isTab
  rw [decide_eq_true h, Bool.true_and]
  have h0 := text_at? x 0 (by omega)
  have h1 := text_at? x (x.size - 1) (by omega)
  rw [List.head?_eq_getElem?, h0, List.getLast?_eq_getElem?, text_len, h1]
  rw [show (60 : Int) = ((60 : UInt8).toNat : Int) from rfl, show (62 : Int) = ((62 : UInt8).toNat : Int) from rfl, byteEq, byteEq]
  rfl

theorem prefix_size : (Tryz.prog.info? 24).map (·.size) = some 2 := by kernel_rfl

theorem parsePE_all (l : List UInt8) : ∃ (a n : Nat) (er : Int), parsePE l = .returned (.tuple #[.agg #[.int .u32 (a : Int), .int .i64 (n : Int)], .int .i64 er]) ∧ a < 4294967296 ∧ (er == 0) = (parsePV l).isSome ∧ ((parsePV l).isSome = true → parsePV l = some (a, n)) := by
  unfold parsePE
  cases h : parsePV l with
  | none => exact ⟨0, 0, 2, rfl, by decide, rfl, by simp⟩
  | some q => exact ⟨q.1, q.2, 0, rfl, parsePV_bd h, rfl, by simp⟩

theorem ports_nil' : portsOf (txt []) = none := by decide

theorem portsOf_one {y A : ByteArray} (h : splitL 58 y.data.toList = [A.data.toList]) : numB A.data.toList 65535 = (portsOf y).isSome ∧ ((portsOf y).isSome = true → portsOf y = some (valT A, valT A)) := by
  have hn : numIn (txt A.data.toList) 0 65535 = numB A.data.toList 65535 := by
    unfold numIn; rw [list_txt]; simp
  unfold portsOf
  rw [h]
  simp only [hn, show valT (txt A.data.toList) = valT A by unfold valT; rw [list_txt]]
  cases numB A.data.toList 65535 <;> simp

theorem portsOf_two {y A B : ByteArray} (h : splitL 58 y.data.toList = [A.data.toList, B.data.toList]) : (numB A.data.toList 65535 && (numB B.data.toList 65535 && !(valT A == valT B))) = (portsOf y).isSome ∧ ((portsOf y).isSome = true → portsOf y = some (valT A, valT B)) := by
  have hn : ∀ A : ByteArray, numIn (txt A.data.toList) 0 65535 = numB A.data.toList 65535 := fun A => by
    unfold numIn; rw [list_txt]; simp
  have hv : ∀ A : ByteArray, valT (txt A.data.toList) = valT A := fun A => by unfold valT; rw [list_txt]
  unfold portsOf
  rw [h]
  simp only [hn, hv]
  cases (numB A.data.toList 65535 && (numB B.data.toList 65535 && !(valT A == valT B))) <;> simp

theorem portsOf_more {y : ByteArray} (h : 2 < (splitL 58 y.data.toList).length) : portsOf y = none := by
  unfold portsOf
  match hs : splitL 58 y.data.toList with
  | [] => rfl
  | [l] => rw [hs] at h; simp at h
  | [l, m] => rw [hs] at h; simp at h
  | _ :: _ :: _ :: _ => rfl

theorem RAt.open {w : World} {q : Nat} {L : WL} {b : Bool} (h : RAt w q L b) : ∃ a n c, w.heap[q]? = some (.cells #[.slice a n c, .bool b] 56 (0, 0)) ∧ ∀ w' b', ExtX q w w' → w'.heap[q]? = some (.cells #[.slice a n c, .bool b'] 56 (0, 0)) → RAt w' q L b' := by
  have h0 := h
  obtain ⟨a, n, c, h1, _⟩ := h
  refine ⟨a, n, c, h1, fun w' b' hx hh => RAt.set h0 hx fun a2 n2 c2 h2 => ?_⟩
  rw [h1] at h2
  simp at h2
  obtain ⟨rfl, rfl, rfl⟩ := h2
  exact hh

theorem list_one {α : Type} {P : List α} {x : α} (h : P.length = 1) (h0 : P[0]? = some x) : P = [x] := by
  match P, h with
  | [y], _ => simpa using h0

theorem list_two {α : Type} {P : List α} {x y : α} (h : P.length = 2) (h0 : P[0]? = some x) (h1 : P[1]? = some y) : P = [x, y] := by
  match P, h with
  | [u, v], _ => simp at h0 h1; rw [h0, h1]

theorem bad_em {b em g : Bool} (h : em = true → g = false) : ((b || em) || !g) = (b || !g) := by
  cases em
  · rw [Bool.or_false]
  · rw [h rfl]; cases b <;> rfl

theorem bad_two {b em ga gb g : Bool} {va vb : Int} {xa xb : Int} (h : em = true → g = false) (hg : (ga && (gb && !(xa == xb))) = g) (h1 : ga = true → va = xa) (h2 : gb = true → vb = xb) : (((b || em) || !ga) || !gb || (vb == va)) = (b || !g) := by
  subst hg
  cases ga
  · generalize (vb == va) = c
    cases b <;> cases em <;> cases gb <;> cases c <;> rfl
  · cases gb
    · generalize (vb == va) = c
      cases b <;> cases em <;> cases c <;> rfl
    · obtain rfl := h1 rfl
      obtain rfl := h2 rfl
      rw [show (vb == va) = (va == vb) from by rw [Bool.eq_iff_iff, beq_iff_eq, beq_iff_eq]; exact eq_comm]
      generalize (va == vb) = c at *
      cases b <;> cases em <;> cases c <;> first | rfl | (exact absurd (h rfl) (by decide))

/-- The document's parts of a text: a row of the call's own. -/
theorem split_new (s : ByteArray) (c : UInt8) (w : World) (hs : s.size ≤ 1000000) :
    Calls Tryz.prog 29 #[.string s, .int .u8 c.toNat] w fun e w' => ∃ g cap, e = .returned (.slice (some ⟨g, 0, none⟩) (splitL c s.data.toList).length cap) ∧ w.heap.size ≤ g ∧ Texts w' g (splitL c s.data.toList).length (splitL c s.data.toList) ∧ Ext w w' := by
  refine (split_any s c w hs).mono ?_
  rintro e w' ⟨v, rfl, hown, hx⟩
  have hn := split_len c s.data.toList
  obtain ⟨g, cap, rfl, ht, hc⟩ := owns_texts hown hn
  obtain ⟨hl, h⟩ := hown
  rcases h with ⟨h1, _⟩ | ⟨g', cap', cur, h2, hb, _⟩
  · omega
  · simp only [Value.slice.injEq, Option.some.injEq, Addr.mk.injEq] at h2
    obtain ⟨⟨rfl, _⟩, _⟩ := h2
    exact ⟨g, cap, rfl, hb, ht, hx⟩

theorem ExtX.cellX {x : Nat} {A B : World} (h : ExtX x A B) {g k : Nat} {v : Value} (hg : g ≠ x) (hc : A.cell? ⟨g, k, none⟩ = some v) : B.cell? ⟨g, k, none⟩ = some v := by
  rw [← hc]
  unfold World.cell?
  rw [h.block g (block_lt hc) hg]

/-- Where a side stands behind its end. -/
def EndAtD (q g : Nat) (W : World) (L : WL) (b : Bool) (wx : World) : Prop :=
  ∃ any tab a n b2, Stp (sEnd false L) b ⟨any, tab, a, n, 0, 0⟩ b2 L.tail ∧ SideOk ⟨any, tab, a, n, 0, 0⟩ ∧ RAt wx q L.tail b2 ∧ Two q g W wx ∧ wx.heap[g]? = some (.cells #[.bool any, .string tab, .int .u32 a, .int .i64 n, .int .i64 0, .int .i64 65535] 28 (0, 0))

set_option maxHeartbeats 4000000 in
theorem dend_any (q : Nat) (L : WL) (b : Bool) (w : World) (h : RAt w q L b) :
    Calls Tryz.prog 28 #[.pointer (some ⟨q, 0, none⟩)] w (DAns encS SideOk (sEndP L) q b w) := by
  obtain ⟨W, hW0⟩ : ∃ W, (w.alloc (.cells #[.bool false, .string ⟨#[]⟩, .int .u32 0, .int .i64 0, .int .i64 0, .int .i64 0] 28)).alloc (.cells #[.bool false, .string ⟨#[]⟩, .int .u32 0, .int .i64 0, .int .i64 0, .int .i64 65535] 28) = W := ⟨_, rfl⟩
  have hx0 : Ext w W := hW0 ▸ ((Ext.refl w).alloc _).alloc _
  have hR : W.heap[w.heap.size]? = some (.cells #[.bool false, .string ⟨#[]⟩, .int .u32 0, .int .i64 0, .int .i64 0, .int .i64 0] 28 (0, 0)) := hW0 ▸ Ext.heap ((Ext.refl _).alloc _) (heap_new w _)
  have hG : W.heap[w.heap.size + 1]? = some (.cells #[.bool false, .string ⟨#[]⟩, .int .u32 0, .int .i64 0, .int .i64 0, .int .i64 65535] 28 (0, 0)) := by
    have := heap_new (w.alloc (.cells #[.bool false, .string ⟨#[]⟩, .int .u32 0, .int .i64 0, .int .i64 0, .int .i64 0] 28)) (.cells #[.bool false, .string ⟨#[]⟩, .int .u32 0, .int .i64 0, .int .i64 0, .int .i64 65535] 28)
    rwa [show (w.alloc (.cells #[.bool false, .string ⟨#[]⟩, .int .u32 0, .int .i64 0, .int .i64 0, .int .i64 0] 28)).heap.size = w.heap.size + 1 by simp, hW0] at this
  have hpl := h.lt
  have hpg : w.heap.size + 1 ≠ q := by omega
  have hpg' : q < w.heap.size + 1 := by omega
  have hsz := rheadW_size h
  have HA : Hid (∀ v b' L' w' w5, SideOk v → Stp (sEndP L) b v b' L' → RAt w' q L' b' → Two q (w.heap.size + 1) W w' → ExtX w.heap.size w' w5 → DAns encS SideOk (sEndP L) q b w (.returned (encS v)) w5) := fun v b' L' w' w5 h1 h2 h3 h4 h5 =>
    ⟨v, b', L', rfl, h1, h2, h3.laterX h5 (by omega), extX_own (Two.extX hx0 h4 (by omega)) h5 (Nat.le_refl _)⟩
  have HR : Hid (∀ w', Two q (w.heap.size + 1) W w' → w'.heap[w.heap.size]? = some (.cells #[.bool false, .string ⟨#[]⟩, .int .u32 0, .int .i64 0, .int .i64 0, .int .i64 0] 28 (0, 0))) := fun w' hx => (hx.block _ (heap_lt hR) (by omega) (by omega)).trans hR
  have HXZ : Hid _ := hsz
  have hT := Two.refl q (w.heap.size + 1) W
  have c1 := dnext_any q L b W (h.later hx0)
  have KG : Hid (W.heap[w.heap.size + 1]? = some (.cells #[.bool false, .string ⟨#[]⟩, .int .u32 0, .int .i64 0, .int .i64 0, .int .i64 65535] 28 (0, 0))) := hG
  have HLS : Hid (∀ w', RAt w' q L.tail (b || L.isEmpty) → True) := fun _ _ => trivial
  generalize DAns encS SideOk _ q b w = An at *
  clear h hx0 hR hG hpl
  go_enter Tryz.func28, Tryz.ntmps28
  go_upto_block 0 with (go_at_call 25; refine c1.mono ?_; rintro e w1 ⟨rfl, hR1, hy⟩; clear c1; have KG : Hid (w1.heap[w.heap.size + 1]? = some (.cells #[.bool false, .string ⟨#[]⟩, .int .u32 0, .int .i64 0, .int .i64 0, .int .i64 65535] 28 (0, 0))) := extX_heap hy hpg KG.out; replace hT := hT.one hy; clear hy)
  go_cut [] from 4 (fun wx => EndAtD q (w.heap.size + 1) W L b wx)
  case first =>
    have HST : Hid (∀ s b2, b2 = (b || !(endOf false (headW L)).isSome) → ((endOf false (headW L)).isSome = true → endOf false (headW L) = some s) → Stp (sEnd false L) b s b2 L.tail) := fun s b2 h1 h2 => head_stp' end_nil' rfl h2 h1
    have HM : Hid (L.isEmpty = true → headW L = txt []) := by
      cases L with
      | nil => intro _; rfl
      | cons => intro h; cases h
    have HAT : Hid (∀ any tab a n b2 wx, Stp (sEnd false L) b ⟨any, tab, a, n, 0, 0⟩ b2 L.tail → SideOk ⟨any, tab, a, n, 0, 0⟩ → RAt wx q L.tail b2 → Two q (w.heap.size + 1) W wx → wx.heap[w.heap.size + 1]? = some (.cells #[.bool any, .string tab, .int .u32 a, .int .i64 n, .int .i64 0, .int .i64 65535] 28 (0, 0)) → EndAtD q (w.heap.size + 1) W L b wx) := fun any tab a n b2 wx h1 h2 h3 h4 h5 => ⟨any, tab, a, n, b2, h1, h2, h3, h4, h5⟩
    generalize EndAtD q (w.heap.size + 1) W L b = PP at *
    generalize headW L = x at *
    generalize L.isEmpty = em at *
    generalize L.tail = M at *
    generalize sEnd false L = O at *
    have eq : (x.toList == [97, 110, 121]) = decide (x = tAny) := by have := eqT x tAny; rwa [show tAny.toList = [97, 110, 121] by rw [ByteArray.toList_eq]] at this
    clear HA HR
    by_cases ha : x = tAny
    · rw [decide_eq_true ha] at eq
      have HE : Hid (endOf false x = some ⟨true, txt [], 0, 0, 0, 0⟩) := by unfold endOf; rw [if_pos ha]; rfl
      have HM2 : Hid (em = false) := by
        cases em
        · rfl
        · have h0 := HM.out rfl
          rw [h0] at ha
          exact absurd ha (by decide)
      clear ha
      go_wp2_with (refine wpl_put (by rfl) 4 _ _ rfl rfl (w.heap.size + 1) 0 [.bool true] _ _ rfl rfl KG.out bool_size (Nat.le_of_ble_eq_true rfl) (by simp [Value.oneCell']) ?_; intro w2 hy ky; have KG : Hid (w2.heap[w.heap.size + 1]? = some (.cells #[.bool true, .string ⟨#[]⟩, .int .u32 0, .int .i64 0, .int .i64 0, .int .i64 65535] 28 (0, 0))) := ky; clear ky; replace hT := hT.two hy; have hR2 := hR1.laterX hy hpg'; clear hy)
      go_meet
      case rel => exact HAT.out true (txt []) 0 0 _ _ (HST.out _ _ (by rw [HM2.out, HE.out]; simp) (fun _ => HE.out)) ⟨by rw [txt_size]; simp, by decide, by decide⟩ hR2 hT KG.out
    · rw [decide_eq_false ha] at eq
      have HE : Hid (isTab x = true → endOf false x = some ⟨false, inner x, 0, 0, 0, 0⟩) := fun h => by unfold endOf; rw [if_neg ha, if_pos h]; rfl
      have HP : Hid (isTab x = false → endOf false x = (parsePV x.data.toList).map fun q => ⟨false, txt [], q.1, q.2, 0, 0⟩) := fun h => by unfold endOf; rw [if_neg ha, if_neg (by rw [h]; decide)]
      clear ha
      obtain ⟨A, N, er, hE, hA4, hg0, hv⟩ := parsePE_all x.data.toList
      have c4 := fun w => refParsePrefix_any x w hsz
      rw [hE] at c4
      obtain ⟨g, hg⟩ : ∃ g, (parsePV x.data.toList).isSome = g := ⟨_, rfl⟩
      rw [hg] at hg0 hv
      obtain ⟨S, hS⟩ : ∃ S, (b || em) = S := ⟨_, rfl⟩
      have HB : Hid ((S || !g) = (b || !g)) := by
        rw [← hS]
        cases em
        · rw [Bool.or_false]; rfl
        · have h0 := HM.out rfl
          have : g = false := by rw [← hg, h0, list_txt]; decide
          rw [this]; cases b <;> rfl
      rw [hS] at hR1
      have HV : Hid _ := hv
      have HG : Hid _ := hg
      have HG0 : Hid ((er != 0) = !g) := by unfold bne; rw [hg0]; rfl
      have HA4 : Hid _ := hA4
      have HSS : Hid _ := hS
      clear hE hv hA4 hg hS
      by_cases hl : 2 < x.size
      · have ht := isTab_at hl
        have hin := inner_cut hl
        have hiz : (inner x).size ≤ x.size := by
          rw [← hin, ByteArray.size_extract]; omega
        have HIZ : Hid _ := hiz
        clear hiz
        cases h0 : ((((x[0]'(by omega)).toNat : Int)) == 60) with
        | true =>
          cases h1 : ((((x[x.size - 1]'(by omega)).toNat : Int)) == 62) with
          | true =>
            have hq : isTab x = true := by rw [ht, h0, h1]; rfl
            have HQ : Hid (endOf false x = some ⟨false, inner x, 0, 0, 0, 0⟩) := HE.out hq
            have HM2 : Hid (S = b) := by
              rw [← HSS.out]
              cases em
              · rw [Bool.or_false]; rfl
              · have h0 := HM.out rfl
                rw [h0, txt_size] at hl
                simp at hl
            clear HP HE HM ht hq hg0 c4 HB
            go_wp2_with (refine wpl_put (by rfl) 9 _ _ rfl rfl (w.heap.size + 1) 1 [.string (inner x)] _ _ rfl rfl KG.out text_size (Nat.le_of_ble_eq_true rfl) (by simp [Value.oneCell']) ?_; intro w2 hy ky; have KG : Hid (w2.heap[w.heap.size + 1]? = some (.cells #[.bool false, .string (inner x), .int .u32 0, .int .i64 0, .int .i64 0, .int .i64 65535] 28 (0, 0))) := ky; clear ky; replace hT := hT.two hy; have hR2 := hR1.laterX hy hpg'; clear hy)
            go_meet
            case rel => exact HAT.out false (inner x) 0 0 b _ (HST.out _ _ (by rw [HQ.out]; simp) (fun _ => HQ.out)) ⟨Nat.le_trans (Nat.le_trans HIZ.out HXZ.out) (by decide), by dsimp only; omega, by dsimp only; omega⟩ (by rw [HM2.out] at hR2; exact hR2) hT KG.out
          | false =>
            have hq : isTab x = false := by rw [ht, h0, h1]; rfl
            clear ht hin
            have HQ : Hid _ := HP.out hq
            clear HP HE hq
            go_upto_region 3 with fail
            cases S
            all_goals (
              go_wp2_with (first
                | (go_at_call 62; refine (c4 _).mono ?_; rintro e w2 ⟨rfl, hx2⟩; have hxa := hx2.alloc (.cells #[.int .u32 (A : Int), .int .i64 (N : Int)] 24); have hR3 := hR1.later hxa; replace hT := hT.one (hxa.but q); have KG : Hid ((w2.alloc (.cells #[.int .u32 (A : Int), .int .i64 (N : Int)] 24)).heap[w.heap.size + 1]? = some (.cells #[.bool false, .string ⟨#[]⟩, .int .u32 0, .int .i64 0, .int .i64 0, .int .i64 65535] 28 (0, 0))) := Ext.heap hxa KG.out; have kP := heap_new w2 (.cells #[.int .u32 (A : Int), .int .i64 (N : Int)] 24); clear hx2 hxa hR1)
                | (refine wpl_load (by rfl) 24 _ rfl w2.heap.size _ _ _ rfl kP Tryz.underlying24 rfl prefix_size ?_)
                | (refine wpl_put (by rfl) 24 _ _ rfl rfl (w.heap.size + 1) 2 [.int .u32 (A : Int), .int .i64 (N : Int)] _ _ rfl rfl KG.out prefix_size (Nat.le_of_ble_eq_true rfl) (by simp [Value.oneCell']) ?_; intro w4 hy ky; have KG : Hid (w4.heap[w.heap.size + 1]? = some (.cells #[.bool false, .string ⟨#[]⟩, .int .u32 (A : Int), .int .i64 (N : Int), .int .i64 0, .int .i64 65535] 28 (0, 0))) := ky; clear ky; replace hT := hT.two hy; have hR4 := hR3.laterX hy hpg'; have HR4 : Hid _ := hR4; obtain ⟨d1, f1⟩ := hR4.cells; clear hy hR4 hR3 kP))
              go_meet
              case rel => exact HAT.out false (txt []) (A : Int) (N : Int) _ _ (HST.out _ _ (by rw [HQ.out, Option.isSome_map, HG.out]; first | exact HB.out | exact HG0.out.trans HB.out) (fun h => by rw [HQ.out, Option.isSome_map, HG.out] at h; rw [HQ.out, HV.out h]; rfl)) ⟨by rw [txt_size]; simp, by dsimp only; omega, by have := HA4.out; dsimp only; omega⟩ (RAt.bad HR4.out _) (hT.one (putX _ _ _ _)) (extX_heap (putX _ _ _ _) hpg KG.out))
        | false =>
          have hq : isTab x = false := by rw [ht, h0]; rfl
          clear ht hin
          have HQ : Hid _ := HP.out hq
          clear HP HE hq
          go_upto_region 3 with fail
          cases S
          all_goals (
            go_wp2_with (first
              | (go_at_call 62; refine (c4 _).mono ?_; rintro e w2 ⟨rfl, hx2⟩; have hxa := hx2.alloc (.cells #[.int .u32 (A : Int), .int .i64 (N : Int)] 24); have hR3 := hR1.later hxa; replace hT := hT.one (hxa.but q); have KG : Hid ((w2.alloc (.cells #[.int .u32 (A : Int), .int .i64 (N : Int)] 24)).heap[w.heap.size + 1]? = some (.cells #[.bool false, .string ⟨#[]⟩, .int .u32 0, .int .i64 0, .int .i64 0, .int .i64 65535] 28 (0, 0))) := Ext.heap hxa KG.out; have kP := heap_new w2 (.cells #[.int .u32 (A : Int), .int .i64 (N : Int)] 24); clear hx2 hxa hR1)
              | (refine wpl_load (by rfl) 24 _ rfl w2.heap.size _ _ _ rfl kP Tryz.underlying24 rfl prefix_size ?_)
              | (refine wpl_put (by rfl) 24 _ _ rfl rfl (w.heap.size + 1) 2 [.int .u32 (A : Int), .int .i64 (N : Int)] _ _ rfl rfl KG.out prefix_size (Nat.le_of_ble_eq_true rfl) (by simp [Value.oneCell']) ?_; intro w4 hy ky; have KG : Hid (w4.heap[w.heap.size + 1]? = some (.cells #[.bool false, .string ⟨#[]⟩, .int .u32 (A : Int), .int .i64 (N : Int), .int .i64 0, .int .i64 65535] 28 (0, 0))) := ky; clear ky; replace hT := hT.two hy; have hR4 := hR3.laterX hy hpg'; have HR4 : Hid _ := hR4; obtain ⟨d1, f1⟩ := hR4.cells; clear hy hR4 hR3 kP))
            go_meet
            case rel => exact HAT.out false (txt []) (A : Int) (N : Int) _ _ (HST.out _ _ (by rw [HQ.out, Option.isSome_map, HG.out]; first | exact HB.out | exact HG0.out.trans HB.out) (fun h => by rw [HQ.out, Option.isSome_map, HG.out] at h; rw [HQ.out, HV.out h]; rfl)) ⟨by rw [txt_size]; simp, by dsimp only; omega, by have := HA4.out; dsimp only; omega⟩ (RAt.bad HR4.out _) (hT.one (putX _ _ _ _)) (extX_heap (putX _ _ _ _) hpg KG.out))
      · have hq : isTab x = false := by unfold isTab; rw [decide_eq_false hl]; rfl
        have HQ : Hid _ := HP.out hq
        clear HP HE hq
        go_upto_region 3 with fail
        cases S
        all_goals (
          go_wp2_with (first
            | (go_at_call 62; refine (c4 _).mono ?_; rintro e w2 ⟨rfl, hx2⟩; have hxa := hx2.alloc (.cells #[.int .u32 (A : Int), .int .i64 (N : Int)] 24); have hR3 := hR1.later hxa; replace hT := hT.one (hxa.but q); have KG : Hid ((w2.alloc (.cells #[.int .u32 (A : Int), .int .i64 (N : Int)] 24)).heap[w.heap.size + 1]? = some (.cells #[.bool false, .string ⟨#[]⟩, .int .u32 0, .int .i64 0, .int .i64 0, .int .i64 65535] 28 (0, 0))) := Ext.heap hxa KG.out; have kP := heap_new w2 (.cells #[.int .u32 (A : Int), .int .i64 (N : Int)] 24); clear hx2 hxa hR1)
            | (refine wpl_load (by rfl) 24 _ rfl w2.heap.size _ _ _ rfl kP Tryz.underlying24 rfl prefix_size ?_)
            | (refine wpl_put (by rfl) 24 _ _ rfl rfl (w.heap.size + 1) 2 [.int .u32 (A : Int), .int .i64 (N : Int)] _ _ rfl rfl KG.out prefix_size (Nat.le_of_ble_eq_true rfl) (by simp [Value.oneCell']) ?_; intro w4 hy ky; have KG : Hid (w4.heap[w.heap.size + 1]? = some (.cells #[.bool false, .string ⟨#[]⟩, .int .u32 (A : Int), .int .i64 (N : Int), .int .i64 0, .int .i64 65535] 28 (0, 0))) := ky; clear ky; replace hT := hT.two hy; have hR4 := hR3.laterX hy hpg'; have HR4 : Hid _ := hR4; obtain ⟨d1, f1⟩ := hR4.cells; clear hy hR4 hR3 kP))
          go_meet
          case rel => exact HAT.out false (txt []) (A : Int) (N : Int) _ _ (HST.out _ _ (by rw [HQ.out, Option.isSome_map, HG.out]; first | exact HB.out | exact HG0.out.trans HB.out) (fun h => by rw [HQ.out, Option.isSome_map, HG.out] at h; rw [HQ.out, HV.out h]; rfl)) ⟨by rw [txt_size]; simp, by dsimp only; omega, by have := HA4.out; dsimp only; omega⟩ (RAt.bad HR4.out _) (hT.one (putX _ _ _ _)) (extX_heap (putX _ _ _ _) hpg KG.out))
  obtain ⟨any, tab, a, n, b2, stE, okE, hRc, hTc, kgc⟩ := hcut
  have STE : Hid (Stp (sEnd false L) b ⟨any, tab, a, n, 0, 0⟩ b2 L.tail) := stE
  have OKE : Hid (SideOk ⟨any, tab, a, n, 0, 0⟩) := okE
  have hT := hTc
  have KG : Hid (wc.heap[w.heap.size + 1]? = some (.cells #[.bool any, .string tab, .int .u32 a, .int .i64 n, .int .i64 0, .int .i64 65535] 28 (0, 0))) := kgc
  replace HA : Hid (∀ lo hi b' L' w' w5, Stp (sPorts L.tail) b2 (lo, hi) b' L' → RAt w' q L' b' → Two q (w.heap.size + 1) W w' → ExtX w.heap.size w' w5 → An (.returned (encS ⟨any, tab, a, n, lo, hi⟩)) w5) := fun lo hi b' L' w' w5 h1 h2 h3 h4 =>
    HA.out ⟨any, tab, a, n, lo, hi⟩ b' L' w' w5 ⟨OKE.out.table, OKE.out.a0, OKE.out.a1⟩ (Stp.bind STE.out (Stp.bind h1 Stp.some)) h2 h3 h4
  clear stE okE hTc kgc hR1 hsz STE OKE
  generalize L.tail = M at *
  have hsN : ∀ w', RAt w' q M b2 → (headW M.tail).size ≤ 1000000 := fun w' h => rtail_size h
  have hz := hsN _ hRc
  have c3 := dis_any tPort q M b2 wc hRc
  unfold sPorts at HA
  cases hq : isW tPort M with
  | false =>
    rw [hq] at HA c3
    have he : aftW tPort M = M := by unfold aftW; rw [if_neg (by rw [hq]; decide)]
    rw [he] at c3
    clear he hq hz hsN hRc HXZ HLS
    go_wp2_with (first
      | (go_at_call 26; refine c3.mono ?_; rintro e w1 ⟨rfl, hR1, hy⟩; have KG : Hid (w1.heap[w.heap.size + 1]? = some (.cells #[.bool any, .string tab, .int .u32 a, .int .i64 n, .int .i64 0, .int .i64 65535] 28 (0, 0))) := extX_heap hy hpg KG.out; replace hT := hT.one hy; clear hy)
      | (refine wpl_load (by rfl) 28 _ rfl (w.heap.size + 1) _ _ _ rfl KG.out Tryz.underlying28 rfl side_size ?_)
      | (refine wpl_store (by rfl) 28 _ _ rfl rfl 6 w.heap.size _ _ _ rfl rfl (HR.out _ hT) side_size rfl rfl (by simp [Value.oneCell']) ?_; intro w5 hx5 k5))
    exact bodyPost_ret (results_one Tryz.results28 _ rfl k5 Tryz.underlying28 rfl side_size) rfl (HA.out 0 65535 _ _ _ _ Stp.some hR1 hT hx5)
  | true =>
    rw [hq, if_pos rfl] at HA
    rw [hq] at c3
    have he : aftW tPort M = M.tail := by unfold aftW; rw [if_pos hq]
    rw [he] at c3
    generalize M.tail = N at *
    have c4 := fun w h => dnext_any q N b2 w h
    have hHA : ∀ lo hi b' w' w5, b' = (b2 || !(portsOf (headW N)).isSome) → ((portsOf (headW N)).isSome = true → portsOf (headW N) = some (lo, hi)) → RAt w' q N.tail b' → Two q (w.heap.size + 1) W w' → ExtX w.heap.size w' w5 → An (.returned (encS ⟨any, tab, a, n, lo, hi⟩)) w5 := fun lo hi b' w' w5 h1 h2 h3 h4 h5 =>
      HA.out lo hi b' _ w' w5 (head_stp' ports_nil' rfl h2 h1) h3 h4 h5
    have hem : N.isEmpty = true → (portsOf (headW N)).isSome = false := by
      cases N with
      | nil => intro _; decide
      | cons => intro h; cases h
    clear HA he hq hsN hRc HXZ HLS
    have HA : Hid _ := hHA
    have HEM : Hid _ := hem
    clear hHA hem
    have c5 := fun w => split_new (headW N) 58 w hz
    have hpt := fun w g (ht : Texts w g (splitL 58 (headW N).data.toList).length (splitL 58 (headW N).data.toList)) k hk => part_text (k := k) hz rfl ht hk
    have hlen := split_len 58 (headW N).data.toList
    have c6 := fun A w hz b h => dnum_any A 65535 q N.tail b w hz (by omega) h
    have HY : Hid (∀ P, splitL 58 (headW N).data.toList = P → P.length ≠ 1 → P.length ≠ 2 → portsOf (headW N) = none) := fun P h h1 h2 => portsOf_more (by have := split_len 58 (headW N).data.toList; rw [h] at this ⊢; omega)
    have HY1 : Hid (∀ A : ByteArray, splitL 58 (headW N).data.toList = [A.data.toList] → numB A.data.toList 65535 = (portsOf (headW N)).isSome ∧ ((portsOf (headW N)).isSome = true → portsOf (headW N) = some (valT A, valT A))) := fun A h => portsOf_one h
    have HY2 : Hid (∀ A B : ByteArray, splitL 58 (headW N).data.toList = [A.data.toList, B.data.toList] → (numB A.data.toList 65535 && (numB B.data.toList 65535 && !(valT A == valT B))) = (portsOf (headW N)).isSome ∧ ((portsOf (headW N)).isSome = true → portsOf (headW N) = some (valT A, valT B))) := fun A B h => portsOf_two h
    generalize portsOf (headW N) = R at *
    obtain ⟨P, hP⟩ : ∃ P, splitL 58 (headW N).data.toList = P := ⟨_, rfl⟩
    rw [hP] at c5 hlen hpt HY HY1 HY2
    have HPP : Hid _ := hP
    clear hP hz
    generalize headW N = y at *
    generalize N.tail = N2 at *
    generalize N.isEmpty = em at *
    have hpl2 : q ≠ w.heap.size + 1 := Ne.symm hpg
    by_cases h1 : P.length = 1
    · rw [h1] at c5 hpt
      have HL : Hid (P.length = 1) := h1
      clear h1 hlen HY HY2
      go_upto_region 17 with (first
        | (go_at_call 26; refine c3.mono ?_; rintro e w1 ⟨rfl, hR1, hy⟩; have KG : Hid (w1.heap[w.heap.size + 1]? = some (.cells #[.bool any, .string tab, .int .u32 a, .int .i64 n, .int .i64 0, .int .i64 65535] 28 (0, 0))) := extX_heap hy hpg KG.out; replace hT := hT.one hy; clear hy c3)
        | (go_at_call 25; refine (c4 _ hR1).mono ?_; rintro e w2 ⟨rfl, hR2, hy⟩; have KG : Hid (w2.heap[w.heap.size + 1]? = some (.cells #[.bool any, .string tab, .int .u32 a, .int .i64 n, .int .i64 0, .int .i64 65535] 28 (0, 0))) := extX_heap hy hpg KG.out; replace hT := hT.one hy; clear hy hR1 c4)
        | (go_at_call 29; refine (c5 _).mono ?_; rintro e w3 ⟨g2, cap, rfl, hg2, ht, hx3⟩; clear c5; have hgs : w.heap.size + 1 < g2 := Nat.lt_of_lt_of_le (heap_lt KG.out) hg2; have hgq : g2 ≠ q := Nat.ne_of_gt (Nat.lt_trans hpg' hgs); have hgw : g2 ≠ w.heap.size + 1 := Nat.ne_of_gt hgs; obtain ⟨A, hA, hpA, hsA⟩ := hpt _ _ ht 0 (by omega); have HPA : Hid (P[0]? = some A.data.toList) := hpA; clear hpA; have hR3 := hR2.later hx3; have KG : Hid (w3.heap[w.heap.size + 1]? = some (.cells #[.bool any, .string tab, .int .u32 a, .int .i64 n, .int .i64 0, .int .i64 65535] 28 (0, 0))) := Ext.heap hx3 KG.out; replace hT := hT.one (hx3.but q); clear hR2 hx3 ht hg2 hgs)
        | (go_at_call 31; refine (c6 A _ hsA _ hR3).mono ?_; rintro e w4 ⟨v0, rfl, hv, hR4, hy⟩; have HVA : Hid (numB A.data.toList 65535 = true → v0 = valT A) := hv; clear hv; have KG : Hid (w4.heap[w.heap.size + 1]? = some (.cells #[.bool any, .string tab, .int .u32 a, .int .i64 n, .int .i64 0, .int .i64 65535] 28 (0, 0))) := extX_heap hy hpg KG.out; replace hT := hT.one hy; clear hy hR3 hA hsA)
        | (refine wpl_put (by rfl) 3 _ _ rfl rfl (w.heap.size + 1) 4 [.int .i64 v0] _ _ rfl rfl KG.out int_size (Nat.le_of_ble_eq_true rfl) (by simp [Value.oneCell']) ?_; intro w5 hy ky; have KG : Hid (w5.heap[w.heap.size + 1]? = some (.cells #[.bool any, .string tab, .int .u32 a, .int .i64 n, .int .i64 v0, .int .i64 65535] 28 (0, 0))) := ky; clear ky; replace hT := hT.two hy; have hR5 := hR4.laterX hy hpg'; have y4 : w5.cell? ⟨w.heap.size + 1, 4, none⟩ = some (.int .i64 v0) := heap_cell KG.out; have y5 : w5.cell? ⟨w.heap.size + 1, 5, none⟩ = some (.int .i64 65535) := heap_cell KG.out; clear hy hR4)
        | (refine wpl_put (by rfl) 3 _ _ rfl rfl (w.heap.size + 1) 5 [.int .i64 v0] _ _ rfl rfl KG.out int_size (Nat.le_of_ble_eq_true rfl) (by simp [Value.oneCell']) ?_; intro w6 hy ky; have KG : Hid (w6.heap[w.heap.size + 1]? = some (.cells #[.bool any, .string tab, .int .u32 a, .int .i64 n, .int .i64 v0, .int .i64 v0] 28 (0, 0))) := ky; clear ky; replace hT := hT.two hy; have hR6 := hR5.laterX hy hpg'; clear hy hR5))
      obtain ⟨Sx, hS⟩ : ∃ Sx, ((b2 || em) || !numB A.data.toList 65535) = Sx := ⟨_, rfl⟩
      rw [hS] at hR6
      have hqA := HY1.out A (list_one HL.out HPA.out)
      have HB : Hid (Sx = (b2 || !R.isSome)) := by rw [← hS, hqA.1]; exact bad_em HEM.out
      have HW : Hid (R.isSome = true → R = some (v0, v0)) := fun h => by rw [hqA.2 h, HVA.out (hqA.1.trans h)]
      obtain ⟨d1, f1⟩ := hR6.cells
      clear hS hqA HY1 HEM HPP HVA HPA HL
      have hpq : w.heap.size + 1 ≠ q := hpg
      have HR6 : Hid (RAt w6 q N2 Sx) := hR6
      clear hR6
      cases Sx with
      | true =>
        have hy : ExtX q w6 (w6.setCell ⟨q, 1, none⟩ (.bool true)) := putX _ _ _ _
        have hRz : RAt (w6.setCell ⟨q, 1, none⟩ (.bool true)) q N2 true := RAt.bad HR6.out _
        go_upto_region 18 with fail
        generalize (w6.setCell ⟨q, 1, none⟩ (.bool true)) = wz at *
        have KG : Hid (wz.heap[w.heap.size + 1]? = some (.cells #[.bool any, .string tab, .int .u32 a, .int .i64 n, .int .i64 v0, .int .i64 v0] 28 (0, 0))) := extX_heap hy hpg KG.out
        replace hT := hT.one hy
        go_wp2_with (first
          | (refine wpl_load (by rfl) 28 _ rfl (w.heap.size + 1) _ _ _ rfl KG.out Tryz.underlying28 rfl side_size ?_)
          | (refine wpl_store (by rfl) 28 _ _ rfl rfl 6 w.heap.size _ _ _ rfl rfl (HR.out _ hT) side_size rfl rfl (by simp [Value.oneCell']) ?_; intro w9 hx9 k9))
        exact bodyPost_ret (results_one Tryz.results28 _ rfl k9 Tryz.underlying28 rfl side_size) rfl (HA.out v0 v0 _ _ _ HB.out HW.out hRz hT hx9)
      | false =>
        have hy : ExtX q w6 (w6.setCell ⟨q, 1, none⟩ (.bool false)) := putX _ _ _ _
        have hRz : RAt (w6.setCell ⟨q, 1, none⟩ (.bool false)) q N2 false := RAt.bad HR6.out _
        go_upto_region 18 with fail
        generalize (w6.setCell ⟨q, 1, none⟩ (.bool false)) = wz at *
        have KG : Hid (wz.heap[w.heap.size + 1]? = some (.cells #[.bool any, .string tab, .int .u32 a, .int .i64 n, .int .i64 v0, .int .i64 v0] 28 (0, 0))) := extX_heap hy hpg KG.out
        replace hT := hT.one hy
        go_wp2_with (first
          | (refine wpl_load (by rfl) 28 _ rfl (w.heap.size + 1) _ _ _ rfl KG.out Tryz.underlying28 rfl side_size ?_)
          | (refine wpl_store (by rfl) 28 _ _ rfl rfl 6 w.heap.size _ _ _ rfl rfl (HR.out _ hT) side_size rfl rfl (by simp [Value.oneCell']) ?_; intro w9 hx9 k9))
        exact bodyPost_ret (results_one Tryz.results28 _ rfl k9 Tryz.underlying28 rfl side_size) rfl (HA.out v0 v0 _ _ _ HB.out HW.out hRz hT hx9)
    by_cases h2 : P.length = 2
    · rw [h2] at c5 hpt
      have HL : Hid (P.length = 2) := h2
      clear h1 h2 hlen HY HY1
      have tok1 : Hid True := trivial
      go_upto_region 16 with (first
        | (go_at_call 26; refine c3.mono ?_; rintro e w1 ⟨rfl, hR1, hy⟩; have KG : Hid (w1.heap[w.heap.size + 1]? = some (.cells #[.bool any, .string tab, .int .u32 a, .int .i64 n, .int .i64 0, .int .i64 65535] 28 (0, 0))) := extX_heap hy hpg KG.out; replace hT := hT.one hy; clear hy c3)
        | (go_at_call 25; refine (c4 _ hR1).mono ?_; rintro e w2 ⟨rfl, hR2, hy⟩; have KG : Hid (w2.heap[w.heap.size + 1]? = some (.cells #[.bool any, .string tab, .int .u32 a, .int .i64 n, .int .i64 0, .int .i64 65535] 28 (0, 0))) := extX_heap hy hpg KG.out; replace hT := hT.one hy; clear hy hR1 c4)
        | (go_at_call 29; refine (c5 _).mono ?_; rintro e w3 ⟨g2, cap, rfl, hg2, ht, hx3⟩; clear c5; have hgs : w.heap.size + 1 < g2 := Nat.lt_of_lt_of_le (heap_lt KG.out) hg2; have hgq : g2 ≠ q := Nat.ne_of_gt (Nat.lt_trans hpg' hgs); have hgw : g2 ≠ w.heap.size + 1 := Nat.ne_of_gt hgs; obtain ⟨A, hA, hpA, hsA⟩ := hpt _ _ ht 0 (by omega); have HPA : Hid (P[0]? = some A.data.toList) := hpA; clear hpA; obtain ⟨B, hB, hpB, hsB⟩ := hpt _ _ ht 1 (by omega); have HPB : Hid (P[1]? = some B.data.toList) := hpB; clear hpB; have hR3 := hR2.later hx3; have KG : Hid (w3.heap[w.heap.size + 1]? = some (.cells #[.bool any, .string tab, .int .u32 a, .int .i64 n, .int .i64 0, .int .i64 65535] 28 (0, 0))) := Ext.heap hx3 KG.out; replace hT := hT.one (hx3.but q); clear hR2 hx3 ht hg2 hgs)
        | (go_at_call 31; refine (c6 A _ hsA _ hR3).mono ?_; rintro e w4 ⟨v0, rfl, hv, hR4, hy⟩; have HVA : Hid (numB A.data.toList 65535 = true → v0 = valT A) := hv; clear hv; have KG : Hid (w4.heap[w.heap.size + 1]? = some (.cells #[.bool any, .string tab, .int .u32 a, .int .i64 n, .int .i64 0, .int .i64 65535] 28 (0, 0))) := extX_heap hy hpg KG.out; replace hT := hT.one hy; replace hB := ExtX.cellX hy hgq hB; clear hy hR3 hA hsA)
        | (refine wpl_put (by rfl) 3 _ _ rfl rfl (w.heap.size + 1) 4 [.int .i64 v0] _ _ rfl rfl KG.out int_size (Nat.le_of_ble_eq_true rfl) (by simp [Value.oneCell']) ?_; intro w5 hy ky; have KG : Hid (w5.heap[w.heap.size + 1]? = some (.cells #[.bool any, .string tab, .int .u32 a, .int .i64 n, .int .i64 v0, .int .i64 65535] 28 (0, 0))) := ky; clear ky; replace hT := hT.two hy; have hR5 := hR4.laterX hy hpg'; replace hB := ExtX.cellX hy hgw hB; have y4 : w5.cell? ⟨w.heap.size + 1, 4, none⟩ = some (.int .i64 v0) := heap_cell KG.out; have y5 : w5.cell? ⟨w.heap.size + 1, 5, none⟩ = some (.int .i64 65535) := heap_cell KG.out; clear hy hR4)
        | (refine wpl_put (by rfl) 3 _ _ rfl rfl (w.heap.size + 1) 5 [.int .i64 v0] _ _ rfl rfl KG.out int_size (Nat.le_of_ble_eq_true rfl) (by simp [Value.oneCell']) ?_; intro w6 hy ky; have KG : Hid (w6.heap[w.heap.size + 1]? = some (.cells #[.bool any, .string tab, .int .u32 a, .int .i64 n, .int .i64 v0, .int .i64 v0] 28 (0, 0))) := ky; clear ky; replace hT := hT.two hy; have hR6 := hR5.laterX hy hpg'; replace hB := ExtX.cellX hy hgw hB; clear hy hR5 y4 y5)
        | (go_at_call 31; refine (c6 B _ hsB _ hR6).mono ?_; rintro e w7 ⟨v1, rfl, hv, hR7, hy⟩; have HVB : Hid (numB B.data.toList 65535 = true → v1 = valT B) := hv; clear hv; have KG : Hid (w7.heap[w.heap.size + 1]? = some (.cells #[.bool any, .string tab, .int .u32 a, .int .i64 n, .int .i64 v0, .int .i64 v0] 28 (0, 0))) := extX_heap hy hpg KG.out; replace hT := hT.one hy; clear hy hR6 hB hsB)
        | (refine wpl_put (by rfl) 3 _ _ rfl rfl (w.heap.size + 1) 5 [.int .i64 v1] _ _ rfl rfl KG.out int_size (Nat.le_of_ble_eq_true rfl) (by simp [Value.oneCell']) ?_; intro w8 hy ky; have KG : Hid (w8.heap[w.heap.size + 1]? = some (.cells #[.bool any, .string tab, .int .u32 a, .int .i64 n, .int .i64 v0, .int .i64 v1] 28 (0, 0))) := ky; clear ky; replace hT := hT.two hy; have hR8 := hR7.laterX hy hpg'; have y4 : w8.cell? ⟨w.heap.size + 1, 4, none⟩ = some (.int .i64 v0) := heap_cell KG.out; have y5 : w8.cell? ⟨w.heap.size + 1, 5, none⟩ = some (.int .i64 v1) := heap_cell KG.out; clear hy hR7))
      obtain ⟨Sx, hS⟩ : ∃ Sx, (((b2 || em) || !numB A.data.toList 65535) || !numB B.data.toList 65535) = Sx := ⟨_, rfl⟩
      rw [hS] at hR8
      have hqA := HY2.out A B (list_two HL.out HPA.out HPB.out)
      have HB : Hid ((Sx || (v1 == v0)) = (b2 || !R.isSome)) := by rw [← hS]; exact bad_two HEM.out hqA.1 HVA.out HVB.out
      have HW : Hid (R.isSome = true → R = some (v0, v1)) := fun h => by have h3 := hqA.1.trans h; simp only [Bool.and_eq_true] at h3; rw [hqA.2 h, HVA.out h3.1, HVB.out h3.2.1]
      obtain ⟨d1, f1⟩ := hR8.cells
      clear hS hqA HY2 HEM HPP HVA HPA HVB HPB HL
      have HR8 : Hid (RAt w8 q N2 Sx) := hR8
      clear hR8
      cases Sx with
      | true =>
        rw [Bool.true_or] at HB
        have hy : ExtX q w8 ((w8.setCell ⟨q, 1, none⟩ (.bool true)).setCell ⟨q, 1, none⟩ (.bool true)) := (putX _ _ _ _).trans (putX _ _ _ _)
        have hRz : RAt ((w8.setCell ⟨q, 1, none⟩ (.bool true)).setCell ⟨q, 1, none⟩ (.bool true)) q N2 true := RAt.bad (RAt.bad HR8.out _) _
        go_upto_region 18 with fail
        generalize ((w8.setCell ⟨q, 1, none⟩ (.bool true)).setCell ⟨q, 1, none⟩ (.bool true)) = wz at *
        have KG : Hid (wz.heap[w.heap.size + 1]? = some (.cells #[.bool any, .string tab, .int .u32 a, .int .i64 n, .int .i64 v0, .int .i64 v1] 28 (0, 0))) := extX_heap hy hpg KG.out
        replace hT := hT.one hy
        go_wp2_with (first
          | (refine wpl_load (by rfl) 28 _ rfl (w.heap.size + 1) _ _ _ rfl KG.out Tryz.underlying28 rfl side_size ?_)
          | (refine wpl_store (by rfl) 28 _ _ rfl rfl 6 w.heap.size _ _ _ rfl rfl (HR.out _ hT) side_size rfl rfl (by simp [Value.oneCell']) ?_; intro w9 hx9 k9))
        exact bodyPost_ret (results_one Tryz.results28 _ rfl k9 Tryz.underlying28 rfl side_size) rfl (HA.out v0 v1 _ _ _ HB.out HW.out hRz hT hx9)
      | false =>
        rw [Bool.false_or] at HB
        cases hvv : (v1 == v0) with
        | true =>
          rw [hvv] at HB
          have hy : ExtX q w8 ((w8.setCell ⟨q, 1, none⟩ (.bool true)).setCell ⟨q, 1, none⟩ (.bool true)) := (putX _ _ _ _).trans (putX _ _ _ _)
          have hRz : RAt ((w8.setCell ⟨q, 1, none⟩ (.bool true)).setCell ⟨q, 1, none⟩ (.bool true)) q N2 true := RAt.bad (RAt.bad HR8.out _) _
          go_upto_region 18 with fail
          generalize ((w8.setCell ⟨q, 1, none⟩ (.bool true)).setCell ⟨q, 1, none⟩ (.bool true)) = wz at *
          have KG : Hid (wz.heap[w.heap.size + 1]? = some (.cells #[.bool any, .string tab, .int .u32 a, .int .i64 n, .int .i64 v0, .int .i64 v1] 28 (0, 0))) := extX_heap hy hpg KG.out
          replace hT := hT.one hy
          go_wp2_with (first
            | (refine wpl_load (by rfl) 28 _ rfl (w.heap.size + 1) _ _ _ rfl KG.out Tryz.underlying28 rfl side_size ?_)
            | (refine wpl_store (by rfl) 28 _ _ rfl rfl 6 w.heap.size _ _ _ rfl rfl (HR.out _ hT) side_size rfl rfl (by simp [Value.oneCell']) ?_; intro w9 hx9 k9))
          exact bodyPost_ret (results_one Tryz.results28 _ rfl k9 Tryz.underlying28 rfl side_size) rfl (HA.out v0 v1 _ _ _ HB.out HW.out hRz hT hx9)
        | false =>
          rw [hvv] at HB
          have hy : ExtX q w8 ((w8.setCell ⟨q, 1, none⟩ (.bool false)).setCell ⟨q, 1, none⟩ (.bool false)) := (putX _ _ _ _).trans (putX _ _ _ _)
          have hRz : RAt ((w8.setCell ⟨q, 1, none⟩ (.bool false)).setCell ⟨q, 1, none⟩ (.bool false)) q N2 false := RAt.bad (RAt.bad HR8.out _) _
          go_upto_region 18 with fail
          generalize ((w8.setCell ⟨q, 1, none⟩ (.bool false)).setCell ⟨q, 1, none⟩ (.bool false)) = wz at *
          have KG : Hid (wz.heap[w.heap.size + 1]? = some (.cells #[.bool any, .string tab, .int .u32 a, .int .i64 n, .int .i64 v0, .int .i64 v1] 28 (0, 0))) := extX_heap hy hpg KG.out
          replace hT := hT.one hy
          go_wp2_with (first
            | (refine wpl_load (by rfl) 28 _ rfl (w.heap.size + 1) _ _ _ rfl KG.out Tryz.underlying28 rfl side_size ?_)
            | (refine wpl_store (by rfl) 28 _ _ rfl rfl 6 w.heap.size _ _ _ rfl rfl (HR.out _ hT) side_size rfl rfl (by simp [Value.oneCell']) ?_; intro w9 hx9 k9))
          exact bodyPost_ret (results_one Tryz.results28 _ rfl k9 Tryz.underlying28 rfl side_size) rfl (HA.out v0 v1 _ _ _ HB.out HW.out hRz hT hx9)
    obtain ⟨n3, hn3⟩ : ∃ n3, P.length = n3 := ⟨_, rfl⟩
    have HN : Hid (R = none) := HY.out P rfl h1 h2
    rw [hn3] at c5 hpt hlen h1 h2
    have g1 : (1 : Int) < (n3 : Int) := by omega
    have g2 : (2 : Int) < (n3 : Int) := by omega
    have g3 : 2 < n3 := by omega
    clear h1 h2 hlen HY HY1 HY2 hn3
    go_upto_region 16 with (first
      | (go_at_call 26; refine c3.mono ?_; rintro e w1 ⟨rfl, hR1, hy⟩; have KG : Hid (w1.heap[w.heap.size + 1]? = some (.cells #[.bool any, .string tab, .int .u32 a, .int .i64 n, .int .i64 0, .int .i64 65535] 28 (0, 0))) := extX_heap hy hpg KG.out; replace hT := hT.one hy; clear hy c3)
      | (go_at_call 25; refine (c4 _ hR1).mono ?_; rintro e w2 ⟨rfl, hR2, hy⟩; have KG : Hid (w2.heap[w.heap.size + 1]? = some (.cells #[.bool any, .string tab, .int .u32 a, .int .i64 n, .int .i64 0, .int .i64 65535] 28 (0, 0))) := extX_heap hy hpg KG.out; replace hT := hT.one hy; clear hy hR1 c4)
      | (go_at_call 29; refine (c5 _).mono ?_; rintro e w3 ⟨g2, cap, rfl, hg2, ht, hx3⟩; clear c5; have hgs : w.heap.size + 1 < g2 := Nat.lt_of_lt_of_le (heap_lt KG.out) hg2; have hgq : g2 ≠ q := Nat.ne_of_gt (Nat.lt_trans hpg' hgs); have hgw : g2 ≠ w.heap.size + 1 := Nat.ne_of_gt hgs; obtain ⟨A, hA, hpA, hsA⟩ := hpt _ _ ht 0 (Nat.lt_trans (by decide) g3); have HPA : Hid (P[0]? = some A.data.toList) := hpA; clear hpA; obtain ⟨B, hB, hpB, hsB⟩ := hpt _ _ ht 1 (Nat.lt_trans (by decide) g3); have HPB : Hid (P[1]? = some B.data.toList) := hpB; clear hpB; have hR3 := hR2.later hx3; have KG : Hid (w3.heap[w.heap.size + 1]? = some (.cells #[.bool any, .string tab, .int .u32 a, .int .i64 n, .int .i64 0, .int .i64 65535] 28 (0, 0))) := Ext.heap hx3 KG.out; replace hT := hT.one (hx3.but q); clear hR2 hx3 ht hg2 hgs)
      | (go_at_call 31; refine (c6 A _ hsA _ hR3).mono ?_; rintro e w4 ⟨v0, rfl, hv, hR4, hy⟩; have HVA : Hid (numB A.data.toList 65535 = true → v0 = valT A) := hv; clear hv; have KG : Hid (w4.heap[w.heap.size + 1]? = some (.cells #[.bool any, .string tab, .int .u32 a, .int .i64 n, .int .i64 0, .int .i64 65535] 28 (0, 0))) := extX_heap hy hpg KG.out; replace hT := hT.one hy; replace hB := ExtX.cellX hy hgq hB; clear hy hR3 hA hsA)
      | (refine wpl_put (by rfl) 3 _ _ rfl rfl (w.heap.size + 1) 4 [.int .i64 v0] _ _ rfl rfl KG.out int_size (Nat.le_of_ble_eq_true rfl) (by simp [Value.oneCell']) ?_; intro w5 hy ky; have KG : Hid (w5.heap[w.heap.size + 1]? = some (.cells #[.bool any, .string tab, .int .u32 a, .int .i64 n, .int .i64 v0, .int .i64 65535] 28 (0, 0))) := ky; clear ky; replace hT := hT.two hy; have hR5 := hR4.laterX hy hpg'; replace hB := ExtX.cellX hy hgw hB; have y4 : w5.cell? ⟨w.heap.size + 1, 4, none⟩ = some (.int .i64 v0) := heap_cell KG.out; have y5 : w5.cell? ⟨w.heap.size + 1, 5, none⟩ = some (.int .i64 65535) := heap_cell KG.out; clear hy hR4)
      | (refine wpl_put (by rfl) 3 _ _ rfl rfl (w.heap.size + 1) 5 [.int .i64 v0] _ _ rfl rfl KG.out int_size (Nat.le_of_ble_eq_true rfl) (by simp [Value.oneCell']) ?_; intro w6 hy ky; have KG : Hid (w6.heap[w.heap.size + 1]? = some (.cells #[.bool any, .string tab, .int .u32 a, .int .i64 n, .int .i64 v0, .int .i64 v0] 28 (0, 0))) := ky; clear ky; replace hT := hT.two hy; have hR6 := hR5.laterX hy hpg'; replace hB := ExtX.cellX hy hgw hB; clear hy hR5 y4 y5)
      | (go_at_call 31; refine (c6 B _ hsB _ hR6).mono ?_; rintro e w7 ⟨v1, rfl, hv, hR7, hy⟩; have HVB : Hid (numB B.data.toList 65535 = true → v1 = valT B) := hv; clear hv; have KG : Hid (w7.heap[w.heap.size + 1]? = some (.cells #[.bool any, .string tab, .int .u32 a, .int .i64 n, .int .i64 v0, .int .i64 v0] 28 (0, 0))) := extX_heap hy hpg KG.out; replace hT := hT.one hy; clear hy hR6 hB hsB)
      | (refine wpl_put (by rfl) 3 _ _ rfl rfl (w.heap.size + 1) 5 [.int .i64 v1] _ _ rfl rfl KG.out int_size (Nat.le_of_ble_eq_true rfl) (by simp [Value.oneCell']) ?_; intro w8 hy ky; have KG : Hid (w8.heap[w.heap.size + 1]? = some (.cells #[.bool any, .string tab, .int .u32 a, .int .i64 n, .int .i64 v0, .int .i64 v1] 28 (0, 0))) := ky; clear ky; replace hT := hT.two hy; have hR8 := hR7.laterX hy hpg'; have y4 : w8.cell? ⟨w.heap.size + 1, 4, none⟩ = some (.int .i64 v0) := heap_cell KG.out; have y5 : w8.cell? ⟨w.heap.size + 1, 5, none⟩ = some (.int .i64 v1) := heap_cell KG.out; clear hy hR7))
    obtain ⟨Sx, hS⟩ : ∃ Sx, (((b2 || em) || !numB A.data.toList 65535) || !numB B.data.toList 65535) = Sx := ⟨_, rfl⟩
    rw [hS] at hR8
    have HB : Hid (true = (b2 || !R.isSome)) := by rw [HN.out]; cases b2 <;> rfl
    have HW : Hid (R.isSome = true → R = some (v0, v1)) := fun h => by rw [HN.out] at h; cases h
    obtain ⟨d1, f1⟩ := hR8.cells
    clear hS HEM HPP HVA HPA HVB HPB HN
    have HR8 : Hid (RAt w8 q N2 Sx) := hR8
    clear hR8
    cases Sx with
    | true =>
      have hy : ExtX q w8 ((w8.setCell ⟨q, 1, none⟩ (.bool true)).setCell ⟨q, 1, none⟩ (.bool true)) := (putX _ _ _ _).trans (putX _ _ _ _)
      have hRz : RAt ((w8.setCell ⟨q, 1, none⟩ (.bool true)).setCell ⟨q, 1, none⟩ (.bool true)) q N2 true := RAt.bad (RAt.bad HR8.out _) _
      go_upto_region 18 with fail
      generalize ((w8.setCell ⟨q, 1, none⟩ (.bool true)).setCell ⟨q, 1, none⟩ (.bool true)) = wz at *
      have KG : Hid (wz.heap[w.heap.size + 1]? = some (.cells #[.bool any, .string tab, .int .u32 a, .int .i64 n, .int .i64 v0, .int .i64 v1] 28 (0, 0))) := extX_heap hy hpg KG.out
      replace hT := hT.one hy
      go_wp2_with (first
        | (refine wpl_load (by rfl) 28 _ rfl (w.heap.size + 1) _ _ _ rfl KG.out Tryz.underlying28 rfl side_size ?_)
        | (refine wpl_store (by rfl) 28 _ _ rfl rfl 6 w.heap.size _ _ _ rfl rfl (HR.out _ hT) side_size rfl rfl (by simp [Value.oneCell']) ?_; intro w9 hx9 k9))
      exact bodyPost_ret (results_one Tryz.results28 _ rfl k9 Tryz.underlying28 rfl side_size) rfl (HA.out v0 v1 _ _ _ HB.out HW.out hRz hT hx9)
    | false =>
      cases hvv : (v1 == v0) with
      | true =>
        have hy : ExtX q w8 ((w8.setCell ⟨q, 1, none⟩ (.bool true)).setCell ⟨q, 1, none⟩ (.bool true)) := (putX _ _ _ _).trans (putX _ _ _ _)
        have hRz : RAt ((w8.setCell ⟨q, 1, none⟩ (.bool true)).setCell ⟨q, 1, none⟩ (.bool true)) q N2 true := RAt.bad (RAt.bad HR8.out _) _
        go_upto_region 18 with fail
        generalize ((w8.setCell ⟨q, 1, none⟩ (.bool true)).setCell ⟨q, 1, none⟩ (.bool true)) = wz at *
        have KG : Hid (wz.heap[w.heap.size + 1]? = some (.cells #[.bool any, .string tab, .int .u32 a, .int .i64 n, .int .i64 v0, .int .i64 v1] 28 (0, 0))) := extX_heap hy hpg KG.out
        replace hT := hT.one hy
        go_wp2_with (first
          | (refine wpl_load (by rfl) 28 _ rfl (w.heap.size + 1) _ _ _ rfl KG.out Tryz.underlying28 rfl side_size ?_)
          | (refine wpl_store (by rfl) 28 _ _ rfl rfl 6 w.heap.size _ _ _ rfl rfl (HR.out _ hT) side_size rfl rfl (by simp [Value.oneCell']) ?_; intro w9 hx9 k9))
        exact bodyPost_ret (results_one Tryz.results28 _ rfl k9 Tryz.underlying28 rfl side_size) rfl (HA.out v0 v1 _ _ _ HB.out HW.out hRz hT hx9)
      | false =>
        have hy : ExtX q w8 ((w8.setCell ⟨q, 1, none⟩ (.bool false)).setCell ⟨q, 1, none⟩ (.bool true)) := (putX _ _ _ _).trans (putX _ _ _ _)
        have hRz : RAt ((w8.setCell ⟨q, 1, none⟩ (.bool false)).setCell ⟨q, 1, none⟩ (.bool true)) q N2 true := RAt.bad (RAt.bad HR8.out _) _
        go_upto_region 18 with fail
        generalize ((w8.setCell ⟨q, 1, none⟩ (.bool false)).setCell ⟨q, 1, none⟩ (.bool true)) = wz at *
        have KG : Hid (wz.heap[w.heap.size + 1]? = some (.cells #[.bool any, .string tab, .int .u32 a, .int .i64 n, .int .i64 v0, .int .i64 v1] 28 (0, 0))) := extX_heap hy hpg KG.out
        replace hT := hT.one hy
        go_wp2_with (first
          | (refine wpl_load (by rfl) 28 _ rfl (w.heap.size + 1) _ _ _ rfl KG.out Tryz.underlying28 rfl side_size ?_)
          | (refine wpl_store (by rfl) 28 _ _ rfl rfl 6 w.heap.size _ _ _ rfl rfl (HR.out _ hT) side_size rfl rfl (by simp [Value.oneCell']) ?_; intro w9 hx9 k9))
        exact bodyPost_ret (results_one Tryz.results28 _ rfl k9 Tryz.underlying28 rfl side_size) rfl (HA.out v0 v1 _ _ _ HB.out HW.out hRz hT hx9)
end Go.Proofs.YtbmmgjmmooakpaaGreatDoor.Ru
