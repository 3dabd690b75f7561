/- Package rule's words: ends and sides. -/
import Derived.Test.YtbmmgjmmooakpaaGreatDoorRu9
namespace Go.Proofs.YtbmmgjmmooakpaaGreatDoor.Ru
open Go.RowKit
set_option linter.unusedVariables false
set_option maxRecDepth 100000

theorem split_first {c d : UInt8} (h : d ≠ c) (l : List UInt8) : ∃ q r, splitL c (d :: l) = (d :: q) :: r := by
  unfold splitL
  rw [if_neg h]
  cases hs : splitL c l with
  | nil => exact absurd hs (split_ne_nil _ _)
  | cons q r => exact ⟨q, r, rfl⟩

theorem parseV_lt (l : List UInt8) : parseV (60 :: l) = none := by
  obtain ⟨q, r, h⟩ := split_first (c := 46) (d := 60) (by decide) l
  unfold parseV
  rw [h]
  split
  · rw [accP, if_neg (by
      intro hn
      have := List.all_eq_true.1 (numB_all hn) 60 (by simp)
      revert this; decide)]
  · rfl

theorem parsePV_lt (l : List UInt8) : parsePV (60 :: l) = none := by
  obtain ⟨q, r, h⟩ := split_first (c := 47) (d := 60) (by decide) l
  unfold parsePV
  rw [h]
  match r with
  | [] => simp [parseV_lt]
  | [b] => simp [parseV_lt]
  | _ :: _ :: _ => rfl

theorem tab_case {x : ByteArray} {y : List UInt8} (hx : x.data.toList = 60 :: y) :
    (Lib.hasSuffix y [62] && nameB (txt (Lib.trimSuffix y [62]))) = (endOf true x).isSome ∧ ((Lib.hasSuffix y [62] && nameB (txt (Lib.trimSuffix y [62]))) = true → endOf true x = some ⟨false, txt (Lib.trimSuffix y [62]), 0, 0, 0, 0⟩) := by
  have ha : x ≠ tAny := by rintro rfl; simp at hx
  have hz : x.size = y.length + 1 := by rw [← text_len x, hx]; simp
  unfold endOf
  rw [if_neg ha]
  cases hs : Lib.hasSuffix y [62] with
  | false =>
    have ht : isTab x = false := by
      unfold isTab
      rw [hx]
      cases hl : (60 :: y).getLast? == some (62 : UInt8) with
      | false => simp
      | true =>
        exfalso
        simp only [beq_iff_eq] at hl
        cases y with
        | nil => simp at hl
        | cons d m =>
          obtain ⟨i, hi⟩ : ∃ i, d :: m = i ++ [62] := by
            have h2 : (d :: m).getLast? = some 62 := by simpa using hl
            exact ⟨(d :: m).dropLast, by have := List.dropLast_concat_getLast (l := d :: m) (by simp); rw [List.getLast?_eq_some_getLast (by simp)] at h2; rw [Option.some.inj h2] at this; exact this.symm⟩
          have : Lib.hasSuffix (d :: m) [62] = true := by
            unfold Lib.hasSuffix; rw [hi]; simp [List.isSuffixOf_iff_suffix]
          rw [this] at hs; cases hs
    rw [if_neg (by rw [ht]; decide), hx, parsePV_lt]
    simp
  | true =>
    obtain ⟨i, hi⟩ : ∃ i, y = i ++ [62] := by
      unfold Lib.hasSuffix at hs
      obtain ⟨i, hi⟩ := List.isSuffixOf_iff_suffix.1 hs
      exact ⟨i, hi.symm⟩
    have htr : Lib.trimSuffix y [62] = i := by
      unfold Lib.trimSuffix; rw [if_pos hs, hi]; simp
    have hin : inner x = txt i := by unfold inner; rw [hx, hi]; simp
    rw [htr, Bool.true_and]
    by_cases h0 : i = []
    · subst h0
      have ht : isTab x = false := by unfold isTab; rw [hz, hi]; simp
      have hn : nameB (txt []) = false := nameB_none (by rw [txt_size]; simp)
      rw [if_neg (by rw [ht]; decide), hx, parsePV_lt, hn]
      simp
    · have ht : isTab x = true := by
        have : 0 < i.length := List.length_pos_iff.2 h0
        have hyl : y.length = i.length + 1 := by rw [hi]; simp
        have hl : (60 :: (i ++ [62]) : List UInt8).getLast? = some 62 := by
          show ((60 :: i) ++ [62] : List UInt8).getLast? = some 62
          rw [List.getLast?_append]; rfl
        unfold isTab
        rw [hz, hyl, hx, hi, hl, show decide (2 < i.length + 1 + 1) = true from decide_eq_true (by omega)]
        rfl
      rw [if_pos ht, hin]
      cases nameB (txt i) <;> simp

theorem pfx_case {x : ByteArray} (ha : x ≠ tAny) (hx : Lib.hasPrefix x.data.toList [60] = false) : endOf true x = (parsePV x.data.toList).map fun q => ⟨false, txt [], q.1, q.2, 0, 0⟩ := by
  unfold endOf
  rw [if_neg ha, if_neg]
  intro ht
  simp only [isTab, Bool.and_eq_true, beq_iff_eq] at ht
  cases hl : x.data.toList with
  | nil => rw [hl] at ht; simp at ht
  | cons d m =>
    rw [hl] at ht hx
    have : d = 60 := by simpa using ht.2.1
    subst this
    simp [Lib.hasPrefix] at hx

theorem parsePV_bd {l : List UInt8} {q : Nat × Nat} (h : parsePV l = some q) : q.1 < 4294967296 := by
  unfold parsePV at h
  split at h
  · obtain ⟨a, ha, rfl⟩ := Option.map_eq_some_iff.1 h
    exact parseV_bd ha
  · split at h
    · obtain ⟨a, ha, rfl⟩ := Option.map_eq_some_iff.1 h
      exact parseV_bd ha
    · cases h
  · cases h

theorem end_nil : endOf true (txt []) = none := by decide

/-- What end answers. -/
def EndAns (x : ByteArray) (p : Nat) (L : WL) (b : Bool) (w : World) (e : Ending) (w' : World) : Prop :=
  ∃ (s : SideV) (g : Bool), e = .returned (.agg #[.bool s.any, .string s.table, .int .u32 s.a, .int .i64 s.n, .int .i64 s.low, .int .i64 s.high]) ∧ SideOk s ∧ g = (endOf true x).isSome ∧ (g = true → endOf true x = some s) ∧ WAt w' p L (b || !g) ∧ ExtX p w w'

abbrev zSide : Array Value := #[.bool false, .string ⟨#[]⟩, .int .u32 0, .int .i64 0, .int .i64 0, .int .i64 0]

set_option maxHeartbeats 1000000 in
theorem wend_any (x : ByteArray) (p : Nat) (L : WL) (b : Bool) (w : World) (hz : x.size ≤ 1000000) (h : WAt w p L b) (hs : Std w) (hp : Abv p) :
    Calls Tryz.prog 82 #[.pointer (some ⟨p, 0, none⟩), .string x] w (EndAns x p L b w) := by
  obtain ⟨W, hW⟩ : ∃ W, w.alloc (.cells #[.bool false, .string ⟨#[]⟩, .int .u32 0, .int .i64 0, .int .i64 0, .int .i64 0] 28) = W := ⟨_, rfl⟩
  have hx0 : Ext w W := hW ▸ (Ext.refl w).alloc _
  have h0 : W.heap[w.heap.size]? = some (.cells zSide 28 (0, 0)) := hW ▸ heap_new w _
  have hpl := h.lt
  have HA : Hid (∀ (s : SideV) (g : Bool) w' w5, SideOk s → g = (endOf true x).isSome → (g = true → endOf true x = some s) → WAt w' p L (b || !g) → ExtX p W w' → ExtX w.heap.size w' w5 → EndAns x p L b w (.returned (.agg #[.bool s.any, .string s.table, .int .u32 s.a, .int .i64 s.n, .int .i64 s.low, .int .i64 s.high])) w5) := fun s g w' w5 h1 h2 h3 h4 h5 h6 =>
    ⟨s, g, rfl, h1, h2, h3, h4.laterX h6 (by omega), extX_own ((hx0.but p).trans h5) h6 (Nat.le_refl _)⟩
  have HH : Hid (∀ w', ExtX p W w' → w'.heap[w.heap.size]? = some (.cells zSide 28 (0, 0))) := fun w' hx => extX_heap hx (by omega) h0
  generalize EndAns x p L b w = An at *
  have HS : Hid (Std W) := hs.later hx0
  have HW : Hid (WAt W p L b) := h.later hx0
  have hxr : ExtX p W W := ExtX.refl _ _
  have eq : (x.toList == [97, 110, 121]) = decide (x = tAny) := by have := eqT x tAny; rwa [show tAny.toList = [97, 110, 121] by rw [ByteArray.toList_eq]] at this
  clear h hs h0 hx0 hpl
  by_cases ha : x = tAny
  · rw [decide_eq_true ha] at eq
    have HE : Hid (endOf true x = some ⟨true, txt [], 0, 0, 0, 0⟩) := by unfold endOf; rw [if_pos ha]; rfl
    clear ha
    go_enter Tryz.func82, Tryz.ntmps82
    go_wp2_with (refine wpl_store (by rfl) 28 _ _ rfl rfl 6 w.heap.size #[.bool true, .string ⟨#[]⟩, .int .u32 0, .int .i64 0, .int .i64 0, .int .i64 0] _ _ rfl rfl (HH.out _ hxr) side_size rfl rfl (by simp [Value.oneCell']) ?_; intro w5 hx5 k5)
    exact bodyPost_ret (results_one Tryz.results82 _ rfl k5 Tryz.underlying28 rfl side_size) rfl (HA.out ⟨true, txt [], 0, 0, 0, 0⟩ true _ _ ⟨by rw [txt_size]; simp, by decide, by decide⟩ (by rw [HE.out]; rfl) (fun _ => HE.out) (by rw [Bool.not_true, Bool.or_false]; exact HW.out) hxr hx5)
  · rw [decide_eq_false ha] at eq
    have cp := fun w => Tryz.strings_CutPrefix x tLt w
    cases hpf : Lib.hasPrefix x.data.toList [60] with
    | true =>
      obtain ⟨y, hy⟩ : ∃ y, x.data.toList = 60 :: y := by
        cases hl : x.data.toList with
        | nil => rw [hl] at hpf; cases hpf
        | cons d m =>
          rw [hl] at hpf
          simp [Lib.hasPrefix] at hpf
          exact ⟨m, by rw [hpf]⟩
      have htp : (⟨(Lib.trimPrefix x.data.toList tLt.data.toList).toArray⟩ : ByteArray) = txt y := by
        rw [show tLt.data.toList = [60] from rfl]
        unfold Lib.trimPrefix; rw [if_pos hpf, hy]; rfl
      rw [htp, show tLt.data.toList = [60] from rfl, hpf] at cp
      have hzy : (txt y).size ≤ 1000000 := by
        rw [txt_size]
        have := text_len x
        rw [hy] at this
        simp at this
        omega
      have cs := fun w => Tryz.strings_CutSuffix (txt y) tGt w (by omega)
      rw [show tGt.data.toList = [62] from rfl, list_txt] at cs
      have hq := tab_case hy
      have hzt : (txt (Lib.trimSuffix y [62])).size ≤ 1000000 := by
        have : (Lib.trimSuffix y [62]).length ≤ y.length := by unfold Lib.trimSuffix; split <;> simp
        rw [txt_size] at hzy ⊢
        omega
      rw [show (⟨(Lib.trimSuffix y [62]).toArray⟩ : ByteArray) = txt (Lib.trimSuffix y [62]) from rfl] at cs
      have c5 := fun g b w h => must_any g p L b w h
      have c6 := fun b w h => named_any (txt (Lib.trimSuffix y [62])) p L b w hzt h
      have HZ : Hid _ := hzt
      generalize txt (Lib.trimSuffix y [62]) = N at *
      generalize Lib.hasSuffix y [62] = ok at *
      generalize txt y = Y at *
      generalize endOf true x = R at *
      have HQ : Hid _ := hq
      clear hq hpf hy ha htp hz hzy hzt
      go_enter Tryz.func82, Tryz.ntmps82
      go_wp2_with (first
        | (go_at_call 101; refine (cp _).mono ?_; rintro e w1 ⟨rfl, hw⟩; obtain rfl := hw.symm; clear hw)
        | (go_at_call 102; refine (cs _).mono ?_; rintro e w1 ⟨rfl, hw⟩; obtain rfl := hw.symm; clear hw)
        | (go_at_call 55; refine (c5 _ _ _ HW.out).mono ?_; rintro e w2 ⟨rfl, hW2, hx2⟩)
        | (go_at_call 80; refine (c6 _ _ hW2).mono ?_; rintro e w3 ⟨rfl, hW3, hx3⟩; replace hx2 := hx2.trans hx3; clear hx3)
        | (refine wpl_store (by rfl) 28 _ _ rfl rfl 6 w.heap.size #[.bool false, .string N, .int .u32 0, .int .i64 0, .int .i64 0, .int .i64 0] _ _ rfl rfl (HH.out _ hx2) side_size rfl rfl (by simp [Value.oneCell']) ?_; intro w5 hx5 k5))
      exact bodyPost_ret (results_one Tryz.results82 _ rfl k5 Tryz.underlying28 rfl side_size) rfl (HA.out ⟨false, N, 0, 0, 0, 0⟩ (ok && nameB N) _ _ ⟨Nat.le_trans HZ.out (by decide), by dsimp only; omega, by dsimp only; omega⟩ HQ.out.1 HQ.out.2 (by rw [Bool.not_and, ← Bool.or_assoc]; exact hW3) hx2 hx5)
    | false =>
      have htp : (⟨(Lib.trimPrefix x.data.toList tLt.data.toList).toArray⟩ : ByteArray) = x := by
        rw [show tLt.data.toList = [60] from rfl]
        unfold Lib.trimPrefix; rw [if_neg (by rw [hpf]; decide)]
      rw [htp, show tLt.data.toList = [60] from rfl, hpf] at cp
      have hq := pfx_case ha hpf
      have c4 := fun w h => parsePrefix_any x w hz h
      have c5 := fun g b w h => must_any g p L b w h
      unfold parsePE at c4
      generalize endOf true x = R at *
      clear hpf ha htp hz
      cases hv : parsePV x.data.toList with
      | none =>
        rw [hv] at c4 hq
        have HQ : Hid _ := hq
        clear hq hv
        go_enter Tryz.func82, Tryz.ntmps82
        go_wp2_with (first
          | (go_at_call 101; refine (cp _).mono ?_; rintro e w1 ⟨rfl, hw⟩; obtain rfl := hw.symm; clear hw)
          | (go_at_call 103; refine (c4 _ HS.out.max).mono ?_; rintro e w1 ⟨rfl, hx1⟩; replace hxr := hxr.trans ((Ext.alloc hx1 (.cells #[.int .u32 0, .int .i64 0] 24)).but p); have hW1 := HW.out.later (Ext.alloc hx1 (.cells #[.int .u32 0, .int .i64 0] 24)); have kP := heap_new w1 (.cells #[.int .u32 0, .int .i64 0] 24); have hlt : p < w1.heap.size := (HW.out.later hx1).lt)
          | (go_at_call 55; refine (c5 _ _ _ hW1).mono ?_; rintro e w2 ⟨rfl, hW2, hx2⟩; replace hxr := hxr.trans hx2; replace kP := extX_heap hx2 (by omega) kP; have y0 : w2.cell? ⟨w1.heap.size, 0, none⟩ = some (.int .u32 0) := heap_cell kP; have y1 : w2.cell? ⟨w1.heap.size, 1, none⟩ = some (.int .i64 0) := heap_cell kP; clear kP hlt)
          | (refine wpl_store (by rfl) 28 _ _ rfl rfl 6 w.heap.size #[.bool false, .string ⟨#[]⟩, .int .u32 0, .int .i64 0, .int .i64 0, .int .i64 0] _ _ rfl rfl (HH.out _ hxr) side_size rfl rfl (by simp [Value.oneCell']) ?_; intro w5 hx5 k5))
        exact bodyPost_ret (results_one Tryz.results82 _ rfl k5 Tryz.underlying28 rfl side_size) rfl (HA.out ⟨false, txt [], 0, 0, 0, 0⟩ false _ _ ⟨by rw [txt_size]; simp, by decide, by decide⟩ (by rw [HQ.out]; rfl) (fun h => by cases h) hW2 hxr hx5)
      | some q =>
        have hb := parsePV_bd hv
        rw [hv] at c4 hq
        have HQ : Hid (R = some ⟨false, txt [], q.1, q.2, 0, 0⟩) := hq
        have HB : Hid (q.1 < 4294967296) := hb
        clear hq hv hb
        go_enter Tryz.func82, Tryz.ntmps82
        go_wp2_with (first
          | (go_at_call 101; refine (cp _).mono ?_; rintro e w1 ⟨rfl, hw⟩; obtain rfl := hw.symm; clear hw)
          | (go_at_call 103; refine (c4 _ HS.out.max).mono ?_; rintro e w1 ⟨rfl, hx1⟩; replace hxr := hxr.trans ((Ext.alloc hx1 (.cells #[.int .u32 q.1, .int .i64 q.2] 24)).but p); have hW1 := HW.out.later (Ext.alloc hx1 (.cells #[.int .u32 q.1, .int .i64 q.2] 24)); have kP := heap_new w1 (.cells #[.int .u32 q.1, .int .i64 q.2] 24); have hlt : p < w1.heap.size := (HW.out.later hx1).lt)
          | (go_at_call 55; refine (c5 _ _ _ hW1).mono ?_; rintro e w2 ⟨rfl, hW2, hx2⟩; replace hxr := hxr.trans hx2; replace kP := extX_heap hx2 (by omega) kP; have y0 : w2.cell? ⟨w1.heap.size, 0, none⟩ = some (.int .u32 q.1) := heap_cell kP; have y1 : w2.cell? ⟨w1.heap.size, 1, none⟩ = some (.int .i64 q.2) := heap_cell kP; clear kP hlt)
          | (refine wpl_store (by rfl) 28 _ _ rfl rfl 6 w.heap.size #[.bool false, .string ⟨#[]⟩, .int .u32 q.1, .int .i64 q.2, .int .i64 0, .int .i64 0] _ _ rfl rfl (HH.out _ hxr) side_size rfl rfl (by simp [Value.oneCell']) ?_; intro w5 hx5 k5))
        exact bodyPost_ret (results_one Tryz.results82 _ rfl k5 Tryz.underlying28 rfl side_size) rfl (HA.out ⟨false, txt [], q.1, q.2, 0, 0⟩ true _ _ ⟨by rw [txt_size]; simp, by have := HB.out; dsimp only; omega, by have := HB.out; dsimp only; omega⟩ (by rw [HQ.out]; rfl) (fun _ => HQ.out) hW2 hxr hx5)

def encS (s : SideV) : Value := (.agg #[.bool s.any, .string s.table, .int .u32 s.a, .int .i64 s.n, .int .i64 s.low, .int .i64 s.high])

set_option maxHeartbeats 1000000 in
theorem wside_any (t : ByteArray) (p : Nat) (L : WL) (b : Bool) (w : World) (ht : t ≠ txt []) (h : WAt w p L b) (hs : Std w) (hp : Abv p) :
    Calls Tryz.prog 58 #[.pointer (some ⟨p, 0, none⟩), .string t] w (Ans encS SideOk (sSide true t L) p b w) := by
  obtain ⟨W, hW⟩ : ∃ W, w.alloc (.cells #[.bool false, .string ⟨#[]⟩, .int .u32 0, .int .i64 0, .int .i64 0, .int .i64 0] 28) = W := ⟨_, rfl⟩
  have hx0 : Ext w W := hW ▸ (Ext.refl w).alloc _
  have h0 : W.heap[w.heap.size]? = some (.cells zSide 28 (0, 0)) := hW ▸ heap_new w _
  have hpl := h.lt
  have hWs : w.heap.size < W.heap.size := heap_lt h0
  have c1 := maybe_any t p L b W ht (h.later hx0) (hs.later hx0)
  unfold aftW at c1
  have HA : Hid (∀ v b' L' w' w5, SideOk v → Stp (sSide true t L) b v b' L' → WAt w' p L' b' → ExtX p W w' → ExtX w.heap.size w' w5 → Ans encS SideOk (sSide true t L) p b w (.returned (encS v)) w5) := fun v b' L' w' w5 h1 h2 h3 h4 h5 =>
    ⟨v, b', L', rfl, h1, h2, h3.laterX h5 (by omega), extX_own ((hx0.but p).trans h4) h5 (Nat.le_refl _)⟩
  have HH : Hid (∀ w', ExtX p W w' → w'.heap[w.heap.size]? = some (.cells zSide 28 (0, 0))) := fun w' hx => extX_heap hx (by omega) h0
  unfold sSide sMust at *
  generalize Ans encS SideOk _ p b w = An at *
  have HS : Hid (Std W) := hs.later hx0
  have HX : Hid (∀ w', ExtX p W w' → Std w') := fun w' hx => (hs.later hx0).laterX hx hp
  have HL : Hid (p < w.heap.size ∧ w.heap.size < W.heap.size) := ⟨hpl, hWs⟩
  have hz1 := headW_size h
  have hz2 := tail_size h
  -- what is left behind the word
  obtain ⟨M, hM⟩ : ∃ M, (if isW t L = true then L.tail else L) = M := ⟨_, rfl⟩
  rw [hM] at c1
  have hz : (headW M).size ≤ 1000000 := by rw [← hM]; split <;> assumption
  have hu : Stp (if isW t L = true then some ((), L.tail) else none) b () (b || !isW t L) M := by
    refine Stp.ask (fun h => ?_) (fun h => ?_)
    · rw [if_pos h] at hM ⊢; rw [hM]
    · rw [if_neg (by rw [h]; decide)]
  have HU : Hid _ := hu
  clear h hs h0 hx0 hpl hWs hz1 hz2 hM hu ht
  generalize isW t L = g at *
  have c2 := fun g b w h => must_any g p M b w h
  have c3 := fun b w h hs => take_any p M b w h hs
  have c4 := fun b w h hs => wend_any (headW M) p M.tail b w hz h hs hp
  have c5 := fun b w h hs => wports_any p M.tail b w h hs hp
  have HE : Hid (∀ v b g, g = (endOf true (headW M)).isSome → (g = true → endOf true (headW M) = some v) → Stp (sEnd true M) b v (b || !g) M.tail) := fun v b g h1 h2 => head_stp end_nil h1 h2
  clear hz
  go_enter Tryz.func58, Tryz.ntmps58
  go_wp2_with (first
    | (go_at_call 54; refine c1.mono ?_; rintro e w1 ⟨rfl, hW1, hx⟩; clear c1)
    | (go_at_call 55; refine (c2 g b _ hW1).mono ?_; rintro e w2 ⟨rfl, hW2, hx2⟩; replace hx := hx.trans hx2; clear hx2 c2)
    | (go_at_call 53; refine (c3 _ _ hW2 (HX.out _ hx)).mono ?_; rintro e w3 ⟨rfl, hW3, hx3⟩; replace hx := hx.trans hx3; clear hx3 c3)
    | (go_at_call 82; refine (c4 _ _ hW3 (HX.out _ hx)).mono ?_; rintro e w4 ⟨⟨any, tab, a, n, lo, hi⟩, g4, rfl, hok, hg4, hv4, hW4, hx4⟩; dsimp only; have HOK : Hid (SideOk ⟨any, tab, a, n, lo, hi⟩) := hok; have HG : Hid (g4 = (endOf true (headW M)).isSome ∧ (g4 = true → endOf true (headW M) = some ⟨any, tab, a, n, lo, hi⟩)) := ⟨hg4, hv4⟩; replace hx := hx.trans hx4; clear hx4 c4 hok hg4 hv4; have hlt : p < w4.heap.size ∧ w.heap.size < w4.heap.size ∧ W.heap.size ≤ w4.heap.size := (by have := hW4.lt; have := hx.size; have := HL.out; omega); have kG := heap_new w4 (.cells #[.bool any, .string tab, .int .u32 a, .int .i64 n, .int .i64 lo, .int .i64 hi] 28); have hxa := (Ext.refl w4).alloc (.cells #[.bool any, .string tab, .int .u32 a, .int .i64 n, .int .i64 lo, .int .i64 hi] 28); replace hW4 := hW4.later hxa; replace hx := hx.trans (hxa.but p); clear hxa)
    | (go_at_call 83; refine (c5 _ _ hW4 (HX.out _ hx)).mono ?_; rintro e w6 ⟨⟨ql, qh⟩, b6, L6, rfl, hq, hst, hW6, hx6⟩; simp only [encP]; have HST : Hid (Stp (sPorts M.tail) _ (ql, qh) b6 L6) := hst; clear hst hq; replace hx := hx.trans hx6; replace kG := extX_heap hx6 (by omega) kG; clear hx6; have y4 := heap_frozen (k := 4) kG; have y5 := heap_frozen (k := 5) kG; have z4 : w6.cell? ⟨w4.heap.size, 4, none⟩ = some (.int .i64 lo) := heap_cell kG; have z5 : w6.cell? ⟨w4.heap.size, 5, none⟩ = some (.int .i64 hi) := heap_cell kG; have hx7 : ExtX w4.heap.size w6 ((w6.setCell ⟨w4.heap.size, 4, none⟩ (.int .i64 ql)).setCell ⟨w4.heap.size, 5, none⟩ (.int .i64 qh)) := (putX _ _ _ _).trans (putX _ _ _ _); have K7 : Hid (((w6.setCell ⟨w4.heap.size, 4, none⟩ (.int .i64 ql)).setCell ⟨w4.heap.size, 5, none⟩ (.int .i64 qh)).heap[w4.heap.size]? = some (.cells #[.bool any, .string tab, .int .u32 a, .int .i64 n, .int .i64 ql, .int .i64 qh] 28 (0, 0))) := heap_set (heap_set kG (k := 4) (.int .i64 ql)) (k := 5) (.int .i64 qh); have K8 : Hid (((w6.setCell ⟨w4.heap.size, 4, none⟩ (.int .i64 ql)).setCell ⟨w4.heap.size, 5, none⟩ (.int .i64 qh)).heap[w.heap.size]? = some (.cells zSide 28 (0, 0))) := extX_heap hx7 (by omega) (HH.out _ hx); have HX7 : Hid (ExtX w4.heap.size w6 ((w6.setCell ⟨w4.heap.size, 4, none⟩ (.int .i64 ql)).setCell ⟨w4.heap.size, 5, none⟩ (.int .i64 qh))) := hx7; clear kG hx7)
    | (refine wpl_load (by rfl) 28 _ rfl w4.heap.size _ _ _ rfl K7.out Tryz.underlying28 rfl side_size ?_)
    | (refine wpl_store (by rfl) 28 _ _ rfl rfl 6 w.heap.size _ _ _ rfl rfl K8.out side_size rfl rfl (by simp [Value.oneCell']) ?_; intro w9 hx9 k9))
  have hW7 := hW6.laterX HX7.out (by omega)
  exact bodyPost_ret (results_one Tryz.results58 _ rfl k9 Tryz.underlying28 rfl side_size) rfl (HA.out (withPorts ⟨any, tab, a, n, lo, hi⟩ (ql, qh)) b6 L6 _ _ ⟨HOK.out.table, HOK.out.a0, HOK.out.a1⟩
    (Stp.bind HU.out (Stp.bind (HE.out _ _ _ HG.out.1 HG.out.2) (Stp.bind HST.out Stp.some))) hW7 (extX_own hx HX7.out (by have := HL.out; have := hx.size; omega)) hx9)
end Go.Proofs.YtbmmgjmmooakpaaGreatDoor.Ru
