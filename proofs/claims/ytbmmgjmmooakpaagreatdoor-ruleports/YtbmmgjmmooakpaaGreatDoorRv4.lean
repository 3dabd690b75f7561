/- The document's reader: a protocol, a pin. -/
import Derived.Test.YtbmmgjmmooakpaaGreatDoorRv2
import Derived.Test.YtbmmgjmmooakpaaGreatDoorRv3
import Derived.Test.YtbmmgjmmooakpaaGreatDoorRuP5
import Derived.Test.YtbmmgjmmooakpaaGreatDoorRuB
import Derived.Deep.Cut
namespace Go.Proofs.YtbmmgjmmooakpaaGreatDoor.Ru
open Go.RowKit
set_option linter.unusedVariables false
set_option maxRecDepth 100000

/-- A reader that was just made of a text's words. -/
theorem owns_reader {w : World} {base : Nat} {v : Value} {s : ByteArray} (h : w.ownsRow base 9 1 v (wordsL s.data.toList).length ((wordsL s.data.toList).map textV)) (hs : s.size ≤ 1000000) :
    RAt (w.alloc (.cells #[v, .bool false] 56)) w.heap.size (wordsB s) false := by
  have hh := heap_new w (.cells #[v, .bool false] 56)
  have hx : Ext w (w.alloc (.cells #[v, .bool false] 56)) := (Ext.refl w).alloc _
  have hw : wordsB s = (wordsL s.data.toList).map txt := rfl
  have hsm : ∀ x ∈ wordsB s, x.size ≤ 1000000 := fun x hx => Nat.le_trans (word_small hx) hs
  generalize wordsB s = L at *
  generalize wordsL s.data.toList = P at *
  subst hw
  obtain ⟨hl, h⟩ := h
  simp only [List.length_map, Nat.mul_one] at hl
  rcases h with ⟨rfl, h0⟩ | ⟨g, cap, cur, rfl, hb, hg, hn, hm, hcs, hc⟩
  · have : P = [] := List.eq_nil_of_length_eq_zero (by omega)
    subst this
    exact ⟨none, 0, 0, hh, rfl, Nat.le_refl _, by omega, hsm, .inl rfl⟩
  · refine ⟨_, P.length, cap, hh, by simp, hn, by unfold maxLen at hm; omega, hsm, .inr ⟨g, 0, rfl, heap_lt hg, fun i hi => ?_⟩⟩
    rw [hx.below.cell (p := ⟨g, 0 + i, none⟩) (heap_lt hg)]
    have e2 : cur.toList[i]? = some (textV (P[i]?.getD [])) := by
      have e3 : (cur.toList.take (P.length * 1))[i]? = (P.map textV)[i]? := by rw [hc]
      rw [List.getElem?_take, if_pos (by omega)] at e3
      rw [e3]; simp [hi]
    have e4 : cur[i]? = some (textV (P[i]?.getD [])) := by simpa using e2
    rw [Nat.zero_add]
    simp only [World.cell?, hg]
    rw [show (((P.map txt)[i]?).getD (txt [])) = txt (P[i]?.getD []) by simp [hi]]
    rw [e4]; rfl

/-- What a step of the document's answers: a value, the words that are left, and that only block q was written. -/
def DAns {α : Type} (enc : α → Value) (ok : α → Prop) (o : Option (α × WL)) (q : Nat) (b : Bool) (w : World) (e : Ending) (w' : World) : Prop :=
  ∃ v b' L', e = .returned (enc v) ∧ ok v ∧ Stp o b v b' L' ∧ RAt w' q L' b' ∧ ExtX q w w'

theorem next_stp {L : WL} {b : Bool} : Stp (sName false L) b (headW L) (b || L.isEmpty) L.tail := by
  cases L with
  | nil =>
    cases b
    · exact .inr (.inl ⟨rfl, rfl, rfl⟩)
    · exact .inl ⟨rfl, rfl⟩
  | cons x r =>
    cases b
    · exact .inr (.inr ⟨rfl, rfl, rfl⟩)
    · exact .inl ⟨rfl, rfl⟩

/-- A step on the next word, whatever it is called where there is none. -/
theorem head_stp' {α : Type} {f : ByteArray → Option α} (h0 : f (txt []) = none) {L : WL} {v : α} {b b' g : Bool} (hg : g = (f (headW L)).isSome) (hv : g = true → f (headW L) = some v) (hb : b' = (b || !g)) :
    Stp ((sHead L).bind fun x => (f x.1).map fun v => (v, x.2)) b v b' L.tail := hb ▸ head_stp h0 hg hv

theorem RAt.cells {w : World} {q : Nat} {L : WL} {b : Bool} (h : RAt w q L b) : w.cell? ⟨q, 1, none⟩ = some (.bool b) ∧ w.frozen? ⟨q, 1, none⟩ = false := by
  obtain ⟨a, n, c, h1, _⟩ := h
  obtain ⟨d0, d1, f0, f1⟩ := cells_two' h1
  exact ⟨d1, f1⟩

theorem RAt.bad {w : World} {q : Nat} {L : WL} {b : Bool} (h : RAt w q L b) (b' : Bool) : RAt (w.setCell ⟨q, 1, none⟩ (.bool b')) q L b' :=
  RAt.set h (putX _ _ _ _) (fun a n c h => heap_set h (k := 1) (.bool b'))

theorem numIn_split (x : ByteArray) : numIn x 1 255 = (numB x.data.toList 255 && !(valT x == 0)) := by
  unfold numIn valT
  rw [show (255 : Int).toNat = 255 from rfl]
  congr 1
  rw [Bool.eq_iff_iff]
  simp
  omega

set_option maxHeartbeats 2000000 in
theorem dproto_any (q : Nat) (L : WL) (b : Bool) (w : World) (h : RAt w q L b) :
    Calls Tryz.prog 27 #[.pointer (some ⟨q, 0, none⟩)] w (DAns encI okT ((sHead L).bind fun x => (protoOf x.1).map fun v => (v, x.2)) q b w) := by
  have c1 := dnext_any q L b w h
  have HA : Hid (∀ v b' w', b' = (b || !(protoOf (headW L)).isSome) → ((protoOf (headW L)).isSome = true → protoOf (headW L) = some v) → RAt w' q L.tail b' → ExtX q w w' → DAns encI okT ((sHead L).bind fun x => (protoOf x.1).map fun v => (v, x.2)) q b w (.returned (.int .i64 v)) w') := fun v b' w' h1 h2 h3 h4 =>
    ⟨v, b', L.tail, rfl, trivial, head_stp' proto_empty rfl h2 h1, h3, h4⟩
  have hem : L.isEmpty = true → headW L = txt [] := by
    cases L with
    | nil => intro _; rfl
    | cons => intro h; cases h
  have hz := rheadW_size h
  generalize DAns encI okT _ q b w = An at *
  generalize headW L = x at *
  generalize L.isEmpty = em at *
  generalize L.tail = M at *
  have HM : Hid _ := hem
  have HE : Hid (∀ t, (t.toList == x.toList) = decide (x = t)) := fun t => by
    rw [eqT]
    by_cases h : x = t
    · rw [decide_eq_true h, decide_eq_true h.symm]
    · rw [decide_eq_false h, decide_eq_false (fun e => h e.symm)]
  have HZ : Hid _ := hz
  clear hem hz h
  go_enter Tryz.func27, Tryz.ntmps27
  go_wp2_with (go_at_call 25; refine c1.mono ?_; rintro e w1 ⟨rfl, hR, hx⟩; clear c1; have HR : Hid (RAt w1 q M (b || em)) := hR; have HX : Hid (ExtX q w w1) := hx; clear hR hx)
  go_loopw [5] (fun i wr => ∃ k : Nat, k ≤ 3 ∧ i = .int .i64 k ∧ Ext w1 wr ∧ Hid (∀ j, j < 3 → wr.cell? ⟨w1.heap.size, j, none⟩ = some (.int .i64 (([1, 6, 17] : List Int)[j]?.getD 0))) ∧ Hid (∀ j, j < k → x ≠ protoT (([1, 6, 17] : List Int)[j]?.getD 0))) (fun i _ => 3 - (intOf i).toNat)
  case atStart => exact ⟨0, Nat.zero_le _, rfl, (Ext.refl _).alloc _, fun j hj => by rcases (by omega : j = 0 ∨ j = 1 ∨ j = 2) with rfl | rfl | rfl <;> (rw [heap_cell (heap_new w1 _)]; rfl), fun j hj => absurd hj (Nat.not_lt_zero _)⟩
  case round =>
    obtain ⟨k, hk, rfl, hxr, HC, HK⟩ := hrel
    by_cases hlt : k < 3
    · have hc := HC.out k hlt
      obtain ⟨n, hn⟩ : ∃ n : Int, ([1, 6, 17] : List Int)[k]?.getD 0 = n := ⟨_, rfl⟩
      have hn' : n = 1 ∨ n = 6 ∨ n = 17 := by
        rcases (by omega : k = 0 ∨ k = 1 ∨ k = 2) with rfl | rfl | rfl <;> simp at hn <;> omega
      rw [hn] at hc
      have c4 := fun w => refProto_any n w (by omega) (by omega)
      have he := HE.out (protoT n)
      by_cases hd : x = protoT n
      · rw [decide_eq_true hd] at he
        have HD : Hid (protoOf x = some n) := by
          unfold protoOf
          rcases hn' with rfl | rfl | rfl
          · rw [hd]; rfl
          · rw [hd]; rfl
          · rw [hd]; rfl
        have HM2 : Hid (em = false) := by
          cases em
          · rfl
          · have h0 := HM.out rfl
            rw [h0, proto_empty] at HD
            cases HD.out
        generalize protoT n = T at *
        clear hn hn' hd HK HM
        go_wp2_with (go_at_call 41; refine (c4 _).mono ?_; rintro e w3 ⟨rfl, hx3⟩; have hc2 := (hx3.cell (block_lt hc)).trans hc; replace hxr := Ext.trans hxr hx3; clear hx3)
        exact HA.out n _ _ (by rw [HD.out, HM2.out]; rfl) (fun _ => HD.out) (HR.out.later hxr) (HX.out.trans (hxr.but q))
      · rw [decide_eq_false hd] at he
        have HN : Hid (∀ j, j < k + 1 → x ≠ protoT (([1, 6, 17] : List Int)[j]?.getD 0)) := fun j hj => by
          rcases Nat.lt_or_ge j k with h1 | h1
          · exact HK.out j h1
          · obtain rfl : j = k := by omega
            rw [hn]; exact hd
        generalize protoT n = T at *
        clear hn hn' hd HK
        go_wp2_with (go_at_call 41; refine (c4 _).mono ?_; rintro e w3 ⟨rfl, hx3⟩; have HC2 : Hid (∀ j, j < 3 → w3.cell? ⟨w1.heap.size, j, none⟩ = some (.int .i64 (([1, 6, 17] : List Int)[j]?.getD 0))) := fun j hj => (hx3.cell (block_lt (HC.out j hj))).trans (HC.out j hj); replace hxr := Ext.trans hxr hx3; clear hx3)
        go_roundw
        case rel => exact ⟨k + 1, by omega, by go_num, hxr, HC2, HN⟩
        case measure => simp [intOf]; omega
    · obtain rfl : k = 3 := by omega
      have HP : Hid (x ≠ tIcmp ∧ x ≠ tTcp ∧ x ≠ tUdp) := ⟨HK.out 0 (by omega), HK.out 1 (by omega), HK.out 2 (by omega)⟩
      have c5 := dnum_any x 255 q M (b || em) wr HZ.out (by omega) (HR.out.later hxr)
      obtain ⟨G, hG⟩ : ∃ G, numB x.data.toList 255 = G := ⟨_, rfl⟩
      have hs := numIn_split x
      unfold DNumAns at c5
      rw [hG] at c5 hs
      have HG : Hid _ := hG
      have HS : Hid _ := hs
      have HV0 : Hid (G = true → valT x = 0 ∨ 1 ≤ valT x ∧ valT x ≤ 255) := fun h => by
        have hb : numB x.data.toList 255 = true := by rw [HG.out]; exact h
        unfold valT
        have := numB_le hb
        omega
      have HT : Hid (numIn x 1 255 = true → (protoOf x).isSome = decide (x = protoT (valT x)) ∧ (decide (x = protoT (valT x)) = true → protoOf x = some (valT x))) := fun h => by
        have := proto_num HP.out.1 HP.out.2.1 HP.out.2.2 (v := valT x) (fun _ => rfl)
        rw [h, Bool.true_and] at this
        exact ⟨this.1.symm, fun h2 => this.2 (this.1 ▸ h2)⟩
      have HF : Hid (numIn x 1 255 = false → (protoOf x).isSome = false) := fun h => by
        have := proto_num HP.out.1 HP.out.2.1 HP.out.2.2 (v := valT x) (fun _ => rfl)
        rw [h, Bool.false_and] at this
        exact this.1.symm
      have HM2 : Hid (em = true → G = false) := fun h => by
        have h0 := HM.out h
        have h1 := HG.out
        rw [h0, list_txt] at h1
        rw [← h1]; decide
      clear hlt HK hk HC hG hs HM HG HP
      go_upto_region 9 with (go_at_call 31; refine c5.mono ?_; rintro e w3 ⟨v, rfl, hv, hR3, hx3⟩; have HR3 : Hid (RAt w3 q M ((b || em) || !G)) := hR3; have HV : Hid (G = true → v = valT x) := hv; have hX3 : ExtX q w w3 := (HX.out.trans (hxr.but q)).trans hx3; have HX3 : Hid _ := hX3; clear c5 hR3 hv hx3 hX3)
      have HVV : Hid ((protoOf x).isSome = true → protoOf x = some v) := fun h => by
        have hg : numIn x 1 255 = true := by
          cases hq : numIn x 1 255
          · rw [HF.out hq] at h; cases h
          · rfl
        have hG : G = true := by
          have h2 := HS.out
          rw [hg] at h2
          cases G
          · cases h2
          · rfl
        rw [HV.out hG]; exact (HT.out hg).2 ((HT.out hg).1 ▸ h)
      obtain ⟨S, hS⟩ : ∃ S, ((b || em) || !G) = S := ⟨_, rfl⟩
      rw [hS] at HR3
      obtain ⟨d1, f1⟩ := HR3.out.cells
      have HSS : Hid _ := hS
      clear hS
      cases S with
      | true =>
        go_wp2
        have hb : true = (b || !(protoOf x).isSome) := by
          have h1 := HSS.out
          cases b
          · have hg : G = false := by
              cases G
              · rfl
              · cases em
                · cases h1
                · exact absurd (HM2.out rfl) (by decide)
            have h2 := HS.out
            rw [hg, Bool.false_and] at h2
            rw [HF.out h2]; rfl
          · rfl
        exact HA.out v true _ hb HVV.out (RAt.bad HR3.out true) (HX3.out.trans (putX _ _ _ _))
      | false =>
        have hb : b = false ∧ G = true := by
          have h1 := HSS.out
          cases b <;> cases em <;> cases G <;> first | exact ⟨rfl, rfl⟩ | cases h1
        obtain ⟨rfl, rfl⟩ := hb
        obtain rfl := HV.out rfl
        have h0 := HV0.out rfl
        generalize valT x = v at *
        by_cases hv0 : v = 0
        · have h2 := HS.out
          rw [hv0] at h2
          subst hv0
          have HB : Hid (true = (false || !(protoOf x).isSome)) := by rw [HF.out h2]; rfl
          clear h2 h0
          go_wp2
          exact HA.out 0 true _ HB.out HVV.out (RAt.bad HR3.out true) (HX3.out.trans (putX _ _ _ _))
        · have h1 : 1 ≤ v ∧ v ≤ 255 := by omega
          have h2 := HS.out
          rw [show (v == 0) = false by simpa using hv0] at h2
          have hT := (HT.out h2).1
          have c6 := fun w => refProto_any v w (by omega) (by omega)
          have he : ((protoT v).toList == x.toList) = decide (x = protoT v) := HE.out _
          have HB : Hid ((!decide (x = protoT v)) = (false || !(protoOf x).isSome)) := by rw [hT, Bool.false_or]; rfl
          generalize decide (x = protoT v) = g at *
          generalize protoT v = T at *
          have hv0' : (v == 0) = false := by simpa using hv0
          clear h2 h0 hT h1
          go_wp2_with (go_at_call 41; refine (c6 _).mono ?_; rintro e w4 ⟨rfl, hx4⟩; have d1' := (hx4.cell (block_lt d1)).trans d1; have hR4 := HR3.out.later hx4; have HR4 : Hid (RAt w4 q M false) := hR4; have HX4 : Hid (ExtX q w w4) := HX3.out.trans (hx4.but q); obtain ⟨d2, f2⟩ := hR4.cells; clear hx4 hR4)
          exact HA.out v _ _ HB.out HVV.out (RAt.bad HR4.out _) (HX4.out.trans (putX _ _ _ _))

theorem daddr_stp {L : WL} {b : Bool} : Stp (sGate L) b (((parseV (headW L).data.toList).getD 0 : Nat) : Int) (b || !(parseV (headW L).data.toList).isSome) L.tail := by
  refine Stp.ask (fun h => ?_) (fun h => ?_)
  · cases L with
    | nil => exact absurd h (by decide)
    | cons x r =>
      unfold headW at h
      simp only [List.headD_cons] at h
      obtain ⟨v, hv⟩ := Option.isSome_iff_exists.1 h
      simp [sGate, sHead, headW, hv]
  · cases L with
    | nil => rfl
    | cons x r =>
      unfold headW at h
      simp only [List.headD_cons, Option.isSome_eq_false_iff, Option.isNone_iff_eq_none] at h
      simp [sGate, sHead, h]

set_option maxHeartbeats 1000000 in
theorem dpin_any (q : Nat) (L : WL) (b : Bool) (w : World) (h : RAt w q L b) :
    Calls Tryz.prog 32 #[.pointer (some ⟨q, 0, none⟩)] w (DAns encN PinOk (dPin L) q b w) := by
  have c1 := fun w h => dnext_any q L b w h
  have c2 := fun w h => daddr_any q L.tail (b || L.isEmpty) w h
  have hz := rheadW_size h
  have hg : ((parseV (headW L.tail).data.toList).getD 0) < 4294967296 := by
    cases hp : parseV (headW L.tail).data.toList with
    | none => simp
    | some v => exact parseV_bd hp
  have hst : Stp (dPin L) b ⟨true, headW L, (((parseV (headW L.tail).data.toList).getD 0 : Nat) : Int)⟩ ((b || L.isEmpty) || !(parseV (headW L.tail).data.toList).isSome) L.tail.tail :=
    Stp.bind next_stp (Stp.bind daddr_stp Stp.some)
  have hpl := h.lt
  have hl := fun (w' : World) (hx : Ext w w') => h.later hx
  have HA : Hid (∀ (v : PinV) b' w', PinOk v → Stp (dPin L) b v b' L.tail.tail → RAt w' q L.tail.tail b' → ExtX q w w' → DAns encN PinOk (dPin L) q b w (.returned (encN v)) w') := fun v b' w' h1 h2 h3 h4 => ⟨v, b', _, rfl, h1, h2, h3, h4⟩
  generalize DAns encN PinOk _ q b w = An at *
  generalize (((parseV (headW L.tail).data.toList).getD 0 : Nat)) = n at *
  generalize (parseV (headW L.tail).data.toList).isSome = g at *
  generalize L.tail.tail = M at *
  generalize L.tail = N at *
  generalize headW L = x at *
  generalize L.isEmpty = em at *
  generalize dPin L = O at *
  have HST : Hid _ := hst
  have HZ : Hid (PinOk ⟨true, x, (n : Int)⟩) := ⟨Nat.le_trans hz (by decide), by dsimp only; omega, by dsimp only; omega⟩
  obtain ⟨W, hW⟩ : ∃ W, w.alloc (.cells #[.bool false, .string ⟨#[]⟩, .int .u32 0] 30) = W := ⟨_, rfl⟩
  have h0 : W.heap[w.heap.size]? = some (.cells #[.bool false, .string ⟨#[]⟩, .int .u32 0] 30 (0, 0)) := hW ▸ heap_new w _
  have hx0 : Ext w W := hW ▸ (Ext.refl w).alloc _
  have HH : Hid (∀ w', ExtX q W w' → w'.heap[w.heap.size]? = some (.cells #[.bool false, .string ⟨#[]⟩, .int .u32 0] 30 (0, 0))) := fun w' hx => extX_heap hx (by omega) h0
  have hszW : w.heap.size < W.heap.size := heap_lt h0
  have H0 : Hid (∀ w' w5, ExtX q W w' → ExtX w.heap.size w' w5 → ExtX q w w5) := fun w' w5 h1 h2 => extX_own ((hx0.but q).trans h1) h2 (Nat.le_refl _)
  replace c1 := c1 W (hl W hx0)
  clear hl h
  clear hst hz hg
  go_enter Tryz.func32, Tryz.ntmps32
  go_wp2_with (first
    | (go_at_call 25; refine c1.mono ?_; rintro e w1 ⟨rfl, hR1, hx1⟩; have hx1' := hx1)
    | (go_at_call 64; refine (c2 _ (hR1.later ((Ext.refl w1).alloc _))).mono ?_; rintro e w3 ⟨rfl, hR3, hx3⟩; have hne : w1.heap.size ≠ q := Nat.ne_of_gt hR1.lt; have KG : Hid (w3.heap[w1.heap.size]? = some (.cells #[.bool true, .string x, .int .u32 0] 30 (0, 0))) := extX_heap hx3 hne (heap_new w1 _); have hx3' : ExtX q W w3 := hx1.trans ((((Ext.refl w1).alloc _).but q).trans hx3); have hs1 := hx1.size; have hqne : q < w1.heap.size := hR1.lt; clear hx3 hne hR1 c2)
    | (refine wpl_put (by rfl) 22 _ _ rfl rfl w1.heap.size 2 [.int .u32 (n : Int)] _ _ rfl rfl KG.out u32_size (Nat.le_of_ble_eq_true rfl) (by simp [Value.oneCell']) ?_; intro w4 hy ky; have KG : Hid (w4.heap[w1.heap.size]? = some (.cells #[.bool true, .string x, .int .u32 (n : Int)] 30 (0, 0))) := ky; clear ky; have hR4 := hR3.laterX hy hqne; have hx4 : ExtX q W w4 := extX_own hx3' hy hs1)
    | (refine wpl_load (by rfl) 30 _ rfl w1.heap.size _ _ _ rfl KG.out Tryz.underlying30 rfl pin_size ?_)
    | (refine wpl_store (by rfl) 30 _ _ rfl rfl 3 w.heap.size _ _ _ rfl rfl (HH.out _ hx4) pin_size rfl rfl (by simp [Value.oneCell']) ?_; intro w5 hx5 k5))
  exact bodyPost_ret (results_one Tryz.results32 _ rfl k5 Tryz.underlying30 rfl pin_size) rfl (HA.out ⟨true, x, (n : Int)⟩ _ _ HZ.out HST.out (hR4.laterX hx5 (by omega)) (H0.out _ _ hx4 hx5))
end Go.Proofs.YtbmmgjmmooakpaaGreatDoor.Ru
