/- Texts joined by a program: RibR, RibA, RefC. -/
import Derived.Test.YtkfhkhgiojpfoaaGreatJ5
import Derived.Test.YtkfhkhgiojpfoaaGreatJ6
import Derived.Test.YtkfhkhgiojpfoaaGreatJ7
namespace Go.Proofs.YtkfhkhgiojpfoaaGreat.Rb

open Go.Proofs.YtkfhkhgiojpfoaaGreat

set_option linter.unusedVariables false

set_option linter.unusedSimpArgs false

def tabB (t : Int) (r : Rt) : Bool := decide (r.t = t)

theorem sel_tab (L : List Rt) (t a l : Int) : (L.filter (tabB t)).filter (selB t a l) = L.filter (selB t a l) := by
  rw [List.filter_filter]
  refine List.filter_congr fun x _ => ?_
  unfold selB tabB
  cases decide (x.t = t) <;> simp

theorem bestO_tab (L : List Rt) (t a l : Int) (U : List Bool) : bestO (L.filter (tabB t)) t a l U = bestO L t a l U := by
  unfold bestO
  rw [sel_tab]

theorem Srt.filter {L : List Rt} (h : Srt L) (f : Rt → Bool) : Srt (L.filter f) := List.Pairwise.filter _ h

theorem Srt.drop {L : List Rt} (h : Srt L) (k : Nat) : Srt (L.drop k) := List.Pairwise.sublist (List.drop_sublist _ _) h

theorem tab_of {L : List Rt} {t : Int} : ∀ x ∈ L.filter (tabB t), x.t = t := fun x hx => by
  have := (List.mem_filter.1 hx).2
  simpa [tabB] using this

theorem selB_iff (t a l : Int) (r : Rt) : selB t a l r = true ↔ r.t = t ∧ r.a = a ∧ r.l = l := by simp [selB]

theorem Srt.tab_le {L : List Rt} (h : Srt L) {i j : Nat} {x y : Rt} (hij : i ≤ j) (hx : L[i]? = some x) (hy : L[j]? = some y) : x.t ≤ y.t := by
  rcases Nat.lt_or_ge i j with hlt | hge
  · have := h.get hx hy hlt
    rw [ltB_iff] at this
    unfold Lt5 at this
    omega
  · obtain rfl : i = j := by omega
    rw [hx] at hy; cases hy; exact Int.le_refl _

/-- How many of the first are of the table. -/
def cntT (L : List Rt) (t : Int) (i : Nat) : Nat := ((L.take i).filter (tabB t)).length

theorem cntT_succ {L : List Rt} {t : Int} {i : Nat} {x : Rt} (hx : L[i]? = some x) : cntT L t (i + 1) = cntT L t i + (if tabB t x = true then 1 else 0) := by
  have hi := (List.getElem?_eq_some_iff.1 hx).1
  unfold cntT
  rw [List.take_succ_eq_append_getElem hi, (List.getElem?_eq_some_iff.1 hx).2, List.filter_append, List.length_append]
  congr 1
  split
  · rename_i h; rw [List.filter_cons_of_pos h]; rfl
  · rename_i h; rw [List.filter_cons_of_neg h]; rfl

theorem tab_at {L : List Rt} {t : Int} {i : Nat} {x : Rt} (hx : L[i]? = some x) (ht : tabB t x = true) : (L.filter (tabB t))[cntT L t i]? = some x := by
  have hi := (List.getElem?_eq_some_iff.1 hx).1
  have e : L.filter (tabB t) = (L.take i).filter (tabB t) ++ x :: (L.drop (i + 1)).filter (tabB t) := by
    conv => lhs; rw [← List.take_append_drop i L, List.filter_append, List.drop_eq_getElem_cons hi, (List.getElem?_eq_some_iff.1 hx).2, List.filter_cons_of_pos ht]
  rw [e]
  unfold cntT
  rw [List.getElem?_append_right (Nat.le_refl _), Nat.sub_self]
  rfl

theorem firstB_tab {L : List Rt} {t : Int} (h : Srt L) {i : Nat} {x : Rt} (hx : L[i]? = some x) (ht : tabB t x = true) : firstB L t i = firstB (L.filter (tabB t)) t (cntT L t i) := by
  have hT := tab_at hx ht
  have hxt : x.t = t := by simpa [tabB] using ht
  cases i with
  | zero =>
    have h0 : cntT L t 0 = 0 := by simp [cntT]
    rw [h0] at hT ⊢
    unfold firstB
    rw [hx, hT]
  | succ j =>
    have hj : j < L.length := by have := (List.getElem?_eq_some_iff.1 hx).1; omega
    obtain ⟨q, hq⟩ : ∃ q, L[j]? = some q := ⟨_, List.getElem?_eq_getElem hj⟩
    have hs := cntT_succ (t := t) hq
    by_cases hqt : tabB t q = true
    · rw [if_pos hqt] at hs
      have hQ := tab_at hq hqt
      rw [hs] at hT ⊢
      unfold firstB
      rw [hx, hT]
      simp only [hq, hQ]
    · rw [if_neg hqt, Nat.add_zero] at hs
      have hqn : q.t ≠ t := by simpa [tabB] using hqt
      have h0 : cntT L t (j + 1) = 0 := by
        unfold cntT
        rw [List.length_eq_zero_iff, List.filter_eq_nil_iff]
        intro y hy hyt
        obtain ⟨m, hm, rfl⟩ := List.getElem_of_mem hy
        rw [List.length_take] at hm
        have hmj : m ≤ j := by omega
        have hmL : L[m]? = some L[m] := List.getElem?_eq_getElem (by omega)
        have e1 : (L.take (j + 1))[m] = L[m] := List.getElem_take
        rw [e1] at hyt
        have hyt' : L[m].t = t := by simpa [tabB] using hyt
        have h1 := h.tab_le hmj hmL hq
        have h2 := h.tab_le (Nat.le_succ j) hq hx
        omega
      rw [h0] at hT ⊢
      unfold firstB
      rw [hx, hT]
      have hsq : selB t x.a x.l q = false := by
        cases e : selB t x.a x.l q
        · rfl
        · exact absurd ((selB_iff _ _ _ _).1 e).1 hqn
      simp only [hq, hsq]

theorem actN_tab {L : List Rt} {t : Int} (h : Srt L) (U : List Bool) : ∀ i, i ≤ L.length → actN L t U i = actN (L.filter (tabB t)) t U (cntT L t i)
  | 0, _ => by simp [cntT, actN]
  | i + 1, hi => by
    obtain ⟨x, hx⟩ : ∃ x, L[i]? = some x := ⟨_, List.getElem?_eq_getElem (by omega)⟩
    have ih := actN_tab (t := t) h U i (by omega)
    rw [cntT_succ hx]
    by_cases ht : tabB t x = true
    · rw [if_pos ht]
      conv => lhs; unfold actN
      conv => rhs; unfold actN
      rw [ih, firstB_tab h hx ht, hx, tab_at hx ht]
      simp only [bestO_tab]
    · rw [if_neg ht, Nat.add_zero (cntT L t i), ← ih]
      conv => lhs; unfold actN
      have hf : firstB L t i = false := by
        unfold firstB
        rw [hx]
        have : decide (x.t = t) = false := by simpa [tabB] using ht
        simp [this]
      rw [hf]
      simp

theorem actL_tab {L : List Rt} {t : Int} (h : Srt L) (U : List Bool) : actL L t U = actN (L.filter (tabB t)) t U (L.filter (tabB t)).length := by
  unfold actL
  rw [actN_tab h U L.length (Nat.le_refl _)]
  congr 1
  unfold cntT
  rw [List.take_length]

/-- A place where a prefix begins. -/
def Starts (T : List Rt) (t : Int) (k : Nat) : Prop := ∀ q x, (∃ j, j + 1 = k ∧ T[j]? = some q) → T[k]? = some x → selB t x.a x.l q = false

theorem Starts.zero (T : List Rt) (t : Int) : Starts T t 0 := fun q x ⟨j, hj, _⟩ => by omega

theorem actN_none {T : List Rt} {t : Int} {U : List Bool} {k : Nat} : ∀ c, (∀ j, k ≤ j → j < k + c → firstB T t j = false) → actN T t U (k + c) = actN T t U k
  | 0, _ => rfl
  | c + 1, h => by
    rw [← Nat.add_assoc]
    conv => lhs; unfold actN
    rw [h (k + c) (by omega) (by omega), actN_none c fun j h1 h2 => h j h1 (by omega)]
    simp

/-- The ways of one prefix stand together. -/
theorem alike_first {t a l : Int} : ∀ {R : List Rt}, Srt R → (∀ x ∈ R, x.t = t) → (∃ x, R[0]? = some x ∧ x.a = a ∧ x.l = l) → ∃ M, R = R.filter (selB t a l) ++ M ∧ ∀ y ∈ M, selB t a l y = false := by
  have gen : ∀ {R : List Rt}, Srt R → (∀ x ∈ R, x.t = t) → (∀ x ∈ R, ¬ (x.a < a ∨ (x.a = a ∧ x.l < l))) → ∃ M, R = R.filter (selB t a l) ++ M ∧ ∀ y ∈ M, selB t a l y = false := by
    intro R
    induction R with
    | nil => intro _ _ _; exact ⟨[], rfl, by simp⟩
    | cons x R ih =>
      intro h ht hb
      obtain ⟨h1, h2⟩ := List.pairwise_cons.1 h
      by_cases e : selB t a l x = true
      · obtain ⟨M, hM, hM2⟩ := ih h2 (fun y hy => ht y (by simp [hy])) (fun y hy => hb y (by simp [hy]))
        refine ⟨M, ?_, hM2⟩
        rw [List.filter_cons_of_pos e, List.cons_append, ← hM]
      · refine ⟨x :: R, ?_, ?_⟩
        · have : (x :: R).filter (selB t a l) = [] := by
            rw [List.filter_eq_nil_iff]
            intro y hy hy2
            rcases List.mem_cons.1 hy with rfl | hy
            · exact e hy2
            · have h3 := h1 y hy
              rw [ltB_iff] at h3
              obtain ⟨e1, e2, e3⟩ := (selB_iff _ _ _ _).1 hy2
              have h4 := hb x (by simp)
              have h5 := ht x (by simp)
              have h6 : ¬ (x.t = t ∧ x.a = a ∧ x.l = l) := fun hh => e ((selB_iff _ _ _ _).2 hh)
              unfold Lt5 at h3
              omega
          rw [this, List.nil_append]
        · intro y hy
          cases e2 : selB t a l y
          · rfl
          · exfalso
            rcases List.mem_cons.1 hy with rfl | hy
            · exact e e2
            · have h3 := h1 y hy
              rw [ltB_iff] at h3
              obtain ⟨e1, e2, e3⟩ := (selB_iff _ _ _ _).1 e2
              have h4 := hb x (by simp)
              have h5 := ht x (by simp)
              have h6 : ¬ (x.t = t ∧ x.a = a ∧ x.l = l) := fun hh => e ((selB_iff _ _ _ _).2 hh)
              unfold Lt5 at h3
              omega
  intro R h ht ⟨x, hx, ha, hl⟩
  refine gen h ht fun y hy hlt => ?_
  obtain ⟨m, hm, rfl⟩ := List.getElem_of_mem hy
  rcases Nat.eq_zero_or_pos m with rfl | hpos
  · rw [List.getElem?_eq_getElem hm] at hx
    cases hx
    omega
  · have h3 := h.get hx (List.getElem?_eq_getElem hm) hpos
    rw [ltB_iff] at h3
    have h5 := ht R[m] hy
    have h6 := ht x (List.mem_of_getElem? hx)
    unfold Lt5 at h3
    omega

/-- One round of Active. -/
theorem act_round {T : List Rt} {t : Int} {U : List Bool} (h : Srt T) (ht : ∀ x ∈ T, x.t = t) {k : Nat} {x : Rt} (hx : T[k]? = some x) (hs : Starts T t k) :
    1 ≤ ((T.drop k).filter (selB t x.a x.l)).length ∧ k + ((T.drop k).filter (selB t x.a x.l)).length ≤ T.length ∧ Starts T t (k + ((T.drop k).filter (selB t x.a x.l)).length) ∧
      actN T t U (k + ((T.drop k).filter (selB t x.a x.l)).length) = actN T t U k ++ (bestL U ((T.drop k).filter (selB t x.a x.l))).toList := by
  have hk := (List.getElem?_eq_some_iff.1 hx).1
  have hx0 : (T.drop k)[0]? = some x := by rw [List.getElem?_drop]; exact hx
  obtain ⟨M, hM, hM2⟩ := alike_first (a := x.a) (l := x.l) (h.drop k) (fun y hy => ht y (List.mem_of_mem_drop hy)) ⟨x, hx0, rfl, rfl⟩
  have hxt := ht x (List.mem_of_getElem? hx)
  have hself : selB t x.a x.l x = true := (selB_iff _ _ _ _).2 ⟨hxt, rfl, rfl⟩
  have hall : ∀ (j : Nat) (y : Rt), ((T.drop k).filter (selB t x.a x.l))[j]? = some y → T[k + j]? = some y ∧ selB t x.a x.l y = true := fun j y hj => by
    refine ⟨?_, (List.mem_filter.1 (List.mem_of_getElem? hj)).2⟩
    rw [← List.getElem?_drop, hM, List.getElem?_append_left (List.getElem?_eq_some_iff.1 hj).1]
    exact hj
  have hahead : ∀ y ∈ T.take k, selB t x.a x.l y = false := fun y hy => by
    obtain ⟨m, hm, rfl⟩ := List.getElem_of_mem hy
    rw [List.length_take] at hm
    have e1 : (T.take k)[m] = T[m] := List.getElem_take
    rw [e1]
    cases k with
    | zero => omega
    | succ j =>
      obtain ⟨q, hq⟩ : ∃ q, T[j]? = some q := ⟨_, List.getElem?_eq_getElem (by omega)⟩
      have hqs := hs q x ⟨j, rfl, hq⟩ hx
      cases e : selB t x.a x.l T[m]
      · rfl
      · exfalso
        obtain ⟨_, e2, e3⟩ := (selB_iff _ _ _ _).1 e
        have hqx := h.get hq hx (Nat.lt_succ_self j)
        have hqt := ht q (List.mem_of_getElem? hq)
        rw [ltB_iff] at hqx
        have hn : ¬ (q.t = t ∧ q.a = x.a ∧ q.l = x.l) := fun hh => by rw [(selB_iff _ _ _ _).2 hh] at hqs; cases hqs
        rcases Nat.lt_or_ge m j with hmj | hmj
        · have h3 := h.get (List.getElem?_eq_getElem (show m < T.length by omega)) hq hmj
          have h4 := ht T[m] (List.getElem_mem _)
          rw [ltB_iff] at h3
          unfold Lt5 at h3 hqx
          omega
        · obtain rfl : m = j := by omega
          rw [List.getElem?_eq_getElem (show m < T.length by omega)] at hq
          have hq' : T[m] = q := by simpa using hq
          rw [hq'] at e2 e3
          exact hn ⟨hqt, e2, e3⟩
  have hbest : bestO T t x.a x.l U = bestL U ((T.drop k).filter (selB t x.a x.l)) := by
    unfold bestO
    congr 1
    conv => lhs; rw [← List.take_append_drop k T, List.filter_append]
    rw [show (T.take k).filter (selB t x.a x.l) = [] from List.filter_eq_nil_iff.2 fun y hy => by rw [hahead y hy]; simp, List.nil_append]
  have hfirst : firstB T t k = true := by
    unfold firstB
    rw [hx]
    cases k with
    | zero => simp [hxt]
    | succ j =>
      obtain ⟨q, hq⟩ : ∃ q, T[j]? = some q := ⟨_, List.getElem?_eq_getElem (by omega)⟩
      simp only [hq, hs q x ⟨j, rfl, hq⟩ hx]
      simp [hxt]
  have hlen : 1 ≤ ((T.drop k).filter (selB t x.a x.l)).length := by
    have : x ∈ (T.drop k).filter (selB t x.a x.l) := List.mem_filter.2 ⟨List.mem_of_getElem? hx0, hself⟩
    exact List.length_pos_of_mem this
  have hsum : k + ((T.drop k).filter (selB t x.a x.l)).length + M.length = T.length := by
    have := congrArg List.length hM
    rw [List.length_append, List.length_drop] at this
    omega
  generalize hA : (T.drop k).filter (selB t x.a x.l) = A at *
  refine ⟨hlen, by omega, ?_, ?_⟩
  · rintro q y ⟨j, hj, hq⟩ hy
    obtain ⟨c, hc⟩ : ∃ c, A.length = c + 1 := ⟨A.length - 1, by omega⟩
    obtain ⟨z, hz⟩ : ∃ z, A[c]? = some z := ⟨_, List.getElem?_eq_getElem (by omega)⟩
    obtain ⟨hz1, hz2⟩ := hall c z hz
    have e1 : j = k + c := by omega
    rw [e1, hz1] at hq
    cases hq
    have hyM : M[0]? = some y := by
      rw [← List.getElem?_drop, hM, List.getElem?_append_right (Nat.le_refl _), Nat.sub_self] at hy
      exact hy
    have hyn := hM2 y (List.mem_of_getElem? hyM)
    obtain ⟨s1, s2, s3⟩ := (selB_iff _ _ _ _).1 hz2
    cases e : selB t y.a y.l q
    · rfl
    · obtain ⟨r1, r2, r3⟩ := (selB_iff _ _ _ _).1 e
      have hyt := ht y (List.mem_of_getElem? hy)
      rw [(selB_iff _ _ _ _).2 ⟨hyt, by omega, by omega⟩] at hyn
      cases hyn
  · obtain ⟨c, hc⟩ : ∃ c, A.length = 1 + c := ⟨A.length - 1, by omega⟩
    rw [hc, ← Nat.add_assoc, actN_none c]
    · conv => lhs; unfold actN
      rw [hfirst, hx]
      simp only [if_true, hbest]
    · intro j h1 h2
      obtain ⟨i, rfl⟩ : ∃ i, j = k + i + 1 := ⟨j - k - 1, by omega⟩
      obtain ⟨y, hy⟩ : ∃ y, A[i]? = some y := ⟨_, List.getElem?_eq_getElem (by omega)⟩
      obtain ⟨z, hz⟩ : ∃ z, A[i + 1]? = some z := ⟨_, List.getElem?_eq_getElem (by omega)⟩
      obtain ⟨y1, y2⟩ := hall i y hy
      obtain ⟨z1, z2⟩ := hall (i + 1) z hz
      rw [← Nat.add_assoc] at z1
      unfold firstB
      rw [z1]
      obtain ⟨s1, s2, s3⟩ := (selB_iff _ _ _ _).1 y2
      obtain ⟨r1, r2, r3⟩ := (selB_iff _ _ _ _).1 z2
      have : selB t z.a z.l y = true := (selB_iff _ _ _ _).2 ⟨s1, by omega, by omega⟩
      simp only [y1, this]
      simp
end Go.Proofs.YtkfhkhgiojpfoaaGreat.Rb

namespace Go.Proofs.YtkfhkhgiojpfoaaGreat.Rb

set_option maxRecDepth 100000

open Go.RowKit Go.Proofs.YtkfhkhgiojpfoaaGreat

set_option linter.unusedVariables false

set_option linter.unusedSimpArgs false

theorem Good.up {L : List Rt} (h : Good L) : ∀ x ∈ L, 0 ≤ x.i := fun x hx => ((isR_iff x).1 (h.is x hx)).2.2.2.1

set_option maxHeartbeats 1000000 in
theorem best_of (rb : Nat) (L : List Rt) (F : List Nat) (t a l : Int) (q : Option Addr) (m d : Nat) (U : List Bool) (w : World) (h : RibAt 98 w rb L F) (hg : Good L) (hU : Ups w q m U) :
    Calls Tryz.prog 95 #[.pointer (some ⟨rb, 0, none⟩), .int .i64 t, .agg #[.int .u32 a, .int .i64 l], .slice q m d] w (BestAns w (bestO L t a l U)) := by
  obtain ⟨v, -, hX, hO⟩ := h
  obtain ⟨p, c, rfl, hc1, -, hR⟩ := hO.slice
  have hlen := hg.len
  have hA : Ext w ((w.alloc (.cells #[.int .u32 a, .int .i64 l] 42)).alloc (.cells #[.int .i64 zeroR.t, .int .u32 zeroR.a, .int .i64 zeroR.l, .int .i64 zeroR.i, .int .u32 zeroR.g, .int .i64 zeroR.m] 48)) := ((Ext.refl w).alloc _).alloc _
  have hB1 : ((w.alloc (.cells #[.int .u32 a, .int .i64 l] 42)).alloc (.cells #[.int .i64 zeroR.t, .int .u32 zeroR.a, .int .i64 zeroR.l, .int .i64 zeroR.i, .int .u32 zeroR.g, .int .i64 zeroR.m] 48)).heap[w.heap.size]? = some (.cells #[.int .u32 a, .int .i64 l] 42 (0, 0)) :=
    (Below.heap_alloc (w.alloc (.cells #[.int .u32 a, .int .i64 l] 42)) _ w.heap.size (by simp)).trans (heap_new w _)
  have hB2 : ((w.alloc (.cells #[.int .u32 a, .int .i64 l] 42)).alloc (.cells #[.int .i64 zeroR.t, .int .u32 zeroR.a, .int .i64 zeroR.l, .int .i64 zeroR.i, .int .u32 zeroR.g, .int .i64 zeroR.m] 48)).heap[w.heap.size + 1]? = some (.cells #[.int .i64 zeroR.t, .int .u32 zeroR.a, .int .i64 zeroR.l, .int .i64 zeroR.i, .int .u32 zeroR.g, .int .i64 zeroR.m] 48 (0, 0)) := by
    have := heap_new (w.alloc (.cells #[.int .u32 a, .int .i64 l] 42)) (.cells #[.int .i64 zeroR.t, .int .u32 zeroR.a, .int .i64 zeroR.l, .int .i64 zeroR.i, .int .u32 zeroR.g, .int .i64 zeroR.m] 48)
    rwa [show (w.alloc (.cells #[.int .u32 a, .int .i64 l] 42)).heap.size = w.heap.size + 1 by simp] at this
  have k1 := fun w' (hx : Ext w w') => ofTable_any p L.length c L t w w' hR hx hc1 (by omega) hg.srt
  have k2 := fun w' (hx : Ext w w') p' n' c' (hr : Rd w p' n' c' (L.filter (tabB t))) (h1 : n' ≤ c') => ofPrefix_any p' n' c' (L.filter (tabB t)) t a l w w' hr hx h1 (by have := hr.len; have := List.length_filter_le (tabB t) L; omega) (hg.srt.filter _) tab_of
  have k3 := fun w' (hx : Ext w w') p' n' c' (hr : Rd w p' n' c' ((L.filter (tabB t)).filter (selB t a l))) => best_any p' n' c' ((L.filter (tabB t)).filter (selB t a l)) q m d U w' (hr.ext hx) (by have := hr.len; have := List.length_filter_le (tabB t) L; have := List.length_filter_le (selB t a l) (L.filter (tabB t)); omega) (hU.ext hx) (fun x hx => hg.up x (List.mem_filter.1 (List.mem_filter.1 hx).1).1)
  have ho : bestL U ((L.filter (tabB t)).filter (selB t a l)) = bestO L t a l U := by rw [sel_tab]; rfl
  rw [ho] at k3
  generalize bestO L t a l U = o at *
  have K1 : Hid _ := k1
  have K2 : Hid _ := k2
  have K3 : Hid _ := k3
  have HX : Hid _ := hX
  have HB : Hid _ := hB2
  clear k1 k2 k3 hO hR hg hU ho hX
  have hne : rb ≠ w.heap.size + 1 := by have := heap_lt HX.out; omega
  go_enter Tryz.func95, Tryz.ntmps95
  go_wp2_with fail
  refine wp_region_eagerX (w.heap.size + 1) [(0, false), (1, false), (2, false), (3, false), (4, false), (6, false), (8, false), (5, true), (7, true), (9, true), (10, false), (11, false), (12, true), (13, false)] (by kernel_rfl) (by kernel_rfl) rfl (by kernel_rfl) (fun _ _ _ _ _ h => h) ?_
  have hE : Ext w ((w.alloc (.cells #[.int .u32 a, .int .i64 l] 42)).alloc (.cells #[.int .i64 zeroR.t, .int .u32 zeroR.a, .int .i64 zeroR.l, .int .i64 zeroR.i, .int .u32 zeroR.g, .int .i64 zeroR.m] 48)).drew := hA.drew
  have hB1' : ((w.alloc (.cells #[.int .u32 a, .int .i64 l] 42)).alloc (.cells #[.int .i64 zeroR.t, .int .u32 zeroR.a, .int .i64 zeroR.l, .int .i64 zeroR.i, .int .u32 zeroR.g, .int .i64 zeroR.m] 48)).drew.heap[w.heap.size]? = some (.cells #[.int .u32 a, .int .i64 l] 42 (0, 0)) := hB1
  have HB' : Hid (((w.alloc (.cells #[.int .u32 a, .int .i64 l] 42)).alloc (.cells #[.int .i64 zeroR.t, .int .u32 zeroR.a, .int .i64 zeroR.l, .int .i64 zeroR.i, .int .u32 zeroR.g, .int .i64 zeroR.m] 48)).drew.heap[w.heap.size + 1]? = some (.cells #[.int .i64 zeroR.t, .int .u32 zeroR.a, .int .i64 zeroR.l, .int .i64 zeroR.i, .int .u32 zeroR.g, .int .i64 zeroR.m] 48 (0, 0))) := HB.out
  clear hB1 hB2 HB hA
  change wpE (ExtX (w.heap.size + 1)) Tryz.prog _ _ _ _ _ ((w.alloc (.cells #[.int .u32 a, .int .i64 l] 42)).alloc (.cells #[.int .i64 zeroR.t, .int .u32 zeroR.a, .int .i64 zeroR.l, .int .i64 zeroR.i, .int .u32 zeroR.g, .int .i64 zeroR.m] 48)).drew
  generalize ((w.alloc (.cells #[.int .u32 a, .int .i64 l] 42)).alloc (.cells #[.int .i64 zeroR.t, .int .u32 zeroR.a, .int .i64 zeroR.l, .int .i64 zeroR.i, .int .u32 zeroR.g, .int .i64 zeroR.m] 48)).drew = W at *
  obtain ⟨b0, b1⟩ := box2 hB1' (w.heap.size + 1) (by omega)
  have x0 : ∀ w', ExtX (w.heap.size + 1) W w' → w'.cell? ⟨rb, 0, none⟩ = some (.slice p L.length c) := fun w' h => by
    rw [heap_cell ((h.block rb (heap_lt (hE.heap HX.out)) hne).trans (hE.heap HX.out))]; rfl
  iterate 7 (refine wpE_read (v := ?_) rfl (by rfl) ?_ ?_; rotate_left; (focus (intro w' hx; go_simp; first | done | with_reducible rfl)); simp only [Act.put, List.setIfInBounds_toArray, List.set_cons_zero, List.set_cons_succ])
  clear x0 b0 b1
  refine wpE_call rfl (by rfl) (fun K hK => ?_)
  go_simp
  go_at_call 112
  refine (K1.out _ hE).mono ?_
  rintro e w1 ⟨p1, n1, c1, rfl, h1, hR1, hx1⟩
  refine hK _ _ (hx1.but _) ?_
  clear hK K
  refine wpE_call rfl (by rfl) (fun K hK => ?_)
  go_simp
  go_at_call 113
  refine (K2.out _ (hE.trans hx1) _ _ _ hR1 h1).mono ?_
  rintro e w2 ⟨p2, n2, c2, rfl, h2, hR2, hx2⟩
  refine hK _ _ (hx2.but _) ?_
  clear hK K
  refine wpE_call rfl (by rfl) (fun K hK => ?_)
  go_simp
  go_at_call 114
  refine (K3.out _ (hE.trans (hx1.trans hx2)) _ _ _ hR2).mono ?_
  rintro e w3 ⟨rfl, hx3⟩
  refine hK _ _ (hx3.but _) ?_
  clear hK K
  iterate 2 (refine wpE_read (v := ?_) rfl (by rfl) ?_ ?_; rotate_left; (focus (intro w' hx; go_simp; first | done | with_reducible rfl)); simp only [Act.put, List.setIfInBounds_toArray, List.set_cons_zero, List.set_cons_succ])
  have hx13 := hx1.trans (hx2.trans hx3)
  refine wpE_call rfl (by rfl) (fun K hK => ?_)
  refine wp_store 48 _ _ rfl rfl 6 (w.heap.size + 1) #[.int .i64 (theR o).t, .int .u32 (theR o).a, .int .i64 (theR o).l, .int .i64 (theR o).i, .int .u32 (theR o).g, .int .i64 (theR o).m] _ _ rfl rfl (hx13.heap HB'.out) rt_size rfl rfl (by simp [Value.oneCell']) ?_
  intro w5 hx5 k5
  refine hK _ _ hx5 ?_
  clear hK K
  iterate 1 (refine wpE_read (v := ?_) rfl (by rfl) ?_ ?_; rotate_left; (focus (intro w' hx; go_simp; first | done | with_reducible rfl)); simp only [Act.put, List.setIfInBounds_toArray, List.set_cons_zero, List.set_cons_succ])
  refine wpE_done ?_
  go_wp2_with fail
  exact bodyPost_ret (results_two Tryz.results95 _ rfl k5 Tryz.underlying48 rfl rt_size) rfl ⟨rfl, ExtX.ext (hE.trans hx13) hx5 (by omega)⟩

theorem actN_len (L : List Rt) (t : Int) (U : List Bool) : ∀ k, (actN L t U k).length ≤ k
  | 0 => Nat.le_refl _
  | k + 1 => by
    have ih := actN_len L t U k
    unfold actN
    rw [List.length_append]
    split
    · split
      · simp only [List.length_nil]; omega
      · rename_i r _
        cases bestO L t r.a r.l U <;> simp only [Option.toList_none, Option.toList_some, List.length_nil, List.length_cons] <;> omega
    · simp only [List.length_nil]; omega

theorem Ext.app {w wr w1 : World} {v : Value} {L : List Rt} (hx : Ext w wr) (ho : OwnR wr w.heap.size v L) (hg : wr.grownBy w1 v.ownBlock) : Ext w w1 := Tri.grown_ext hx ho hg

set_option maxHeartbeats 1000000 in
theorem active_any (rb : Nat) (L : List Rt) (F : List Nat) (t : Int) (q : Option Addr) (m d : Nat) (U : List Bool) (w : World) (h : RibAt 98 w rb L F) (hg : Good L) (hU : Ups w q m U) :
    Calls Tryz.prog 92 #[.pointer (some ⟨rb, 0, none⟩), .int .i64 t, .slice q m d] w (RowNew w (actL L t U)) := by
  obtain ⟨v, -, hX, hO⟩ := h
  obtain ⟨p, c, rfl, hc1, -, hR⟩ := hO.slice
  have hlen := hg.len
  have k1 := ofTable_any p L.length c L t w w hR (Ext.refl w) hc1 (by omega) hg.srt
  rw [actL_tab hg.srt U]
  have hT := List.length_filter_le (tabB t) L
  have sT := hg.srt.filter (tabB t)
  have tT : ∀ x ∈ L.filter (tabB t), x.t = t := tab_of
  have uT : ∀ x ∈ L.filter (tabB t), 0 ≤ x.i := fun x hx => hg.up x (List.mem_filter.1 hx).1
  have v0 : w.cell? ⟨rb, 0, none⟩ = some (.slice p L.length c) := by rw [heap_cell hX]; rfl
  change Calls Tryz.prog 112 _ w (PartAns w w (L.filter (tabB t))) at k1
  generalize L.filter (tabB t) = T at *
  have HT : Hid (T.length ≤ 256) := by show T.length ≤ 256; omega
  have HS : Hid (Srt T ∧ (∀ x ∈ T, x.t = t) ∧ ∀ x ∈ T, 0 ≤ x.i) := ⟨sT, tT, uT⟩
  have HU : Hid (Ups w q m U) := hU
  clear hX hO hR hg hU sT tT uT hT hlen
  go_enter Tryz.func92, Tryz.ntmps92
  go_wp2_with (go_at_call 112; refine k1.mono ?_; rintro e w1 ⟨p1, n1, c1, rfl, h1, hR1, hx1⟩)
  clear k1 v0
  go_loopg [7, 8] T.length (fun kx s7 s8 wr => ∃ (v : Value) (p' : Option Addr) (n' c' k : Nat), s7 = v ∧ s8 = .slice p' n' c' ∧ n' ≤ c' ∧ k ≤ T.length ∧ T.length - k ≤ kx ∧ Ext w wr ∧ Hid (Rd w p' n' c' (T.drop k)) ∧ Hid (OwnR wr w.heap.size v (actN T t U k)) ∧ Hid (Starts T t k))
  case atStart => exact ⟨.slice none 0 0, p1, n1, c1, 0, rfl, rfl, h1, Nat.zero_le _, by omega, hx1, hR1, OwnR.nil _ _, Starts.zero T t⟩
  case round =>
    clear hR1
    obtain ⟨v, p', n', c', k, rfl, rfl, hnc, hkT, hkx, hx, HR, HO, HK⟩ := hrel
    have hn' := HR.out.len
    rw [List.length_drop] at hn'
    obtain ⟨pv, cv, hv, hv1, -, -⟩ := HO.out.slice
    subst hv
    by_cases hlt : k < T.length
    · obtain ⟨x, hxk⟩ : ∃ x, T[k]? = some x := ⟨_, List.getElem?_eq_getElem hlt⟩
      have hx0 : (T.drop k)[0]? = some x := by rw [List.getElem?_drop]; exact hxk
      obtain ⟨r1, r2, r3, r4⟩ := act_round (U := U) HS.out.1 HS.out.2.1 hxk HK.out
      obtain ⟨b, off, hp', hb, g0, g1, g2, g3, g4, g5⟩ := (HR.out.ext hx).cell hx0
      subst hp'
      simp only [Nat.zero_mul, Nat.add_zero] at g1 g2
      have hc := HT.out
      have k2 := ofPrefix_any (some ⟨b, off, none⟩) n' c' (T.drop k) t x.a x.l w wr HR.out hx hnc (by omega) (HS.out.1.drop k) (fun y hy => HS.out.2.1 y (List.mem_of_mem_drop hy))
      have hal := actN_len T t U k
      generalize hA : (T.drop k).filter (selB t x.a x.l) = A at *
      have k3 := fun w' (hx : Ext w w') p' n' c' (hr : Rd w p' n' c' A) => best_any p' n' c' A q m d U w' (hr.ext hx) (by have := hr.len; omega) (HU.out.ext hx) (fun y hy => by rw [← hA] at hy; exact HS.out.2.2 y (List.mem_of_mem_drop (List.mem_filter.1 hy).1))
      have HA : Hid _ := hA
      generalize bestL U A = o at *
      have HR3 : Hid (Starts T t (k + A.length)) := r3
      have HR4 : Hid _ := r4
      have hnk : (0 : Int) < (n' : Int) := by omega
      clear hA r3 r4 hx0 hxk g0 g3 g4 g5
      generalize hln : (actN T t U k).length = ln at *
      have HLN : Hid _ := hln
      clear hln
      cases o with
      | none =>
        go_wp2_with (first
          | (go_at_call 113; refine k2.mono ?_; rintro e w2 ⟨p2, n2, c2, rfl, h2, hR2, hx2⟩; have hn2 := hR2.len; have HR2 : Hid (Rd w p2 n2 c2 A) := hR2; clear hR2; have hsl := (fun w => cut_l (some ⟨b, off, none⟩) n' c' n2 (by omega) hnc w); generalize hp3 : (if c' = n2 then (some ⟨b, off, none⟩ : Option Addr) else (some ⟨b, off, none⟩ : Option Addr).map (·.add (n2 * 6))) = p3 at hsl; have HP3 : Hid _ := hp3; clear hp3)
          | (go_at_call 114; refine (k3 _ (hx.trans hx2) _ _ _ HR2.out).mono ?_; rintro e w3 ⟨rfl, hx3⟩))
        go_roundg (T.length - (k + A.length))
        case measure => omega
        case rel =>
          have hcut := HR.out.cut (lo := n2) (hi := n') (by omega) (Nat.le_refl _) hnc
          rw [HP3.out, List.drop_drop, List.take_of_length_le (by rw [List.length_drop]; omega), ← hn2] at hcut
          rw [← hn2]
          have hxE := hx.trans (hx2.trans hx3)
          refine ⟨_, p3, n' - A.length, c' - A.length, k + A.length, rfl, rfl, by omega, by omega, Nat.le_refl _, hxE.trans ((Ext.refl w3).alloc _), hcut, ?_, HR3⟩
          have h9 : actN T t U (k + A.length) = actN T t U k := by rw [HR4.out]; simp
          show OwnR _ _ _ _
          rw [h9]
          exact HO.out.ext (hx2.trans (hx3.trans ((Ext.refl w3).alloc _)))
      | some z =>
        go_wp2_with (first
          | (go_at_call 113; refine k2.mono ?_; rintro e w2 ⟨p2, n2, c2, rfl, h2, hR2, hx2⟩; have hn2 := hR2.len; have HR2 : Hid (Rd w p2 n2 c2 A) := hR2; clear hR2; have hsl := (fun w => cut_l (some ⟨b, off, none⟩) n' c' n2 (by omega) hnc w); generalize hp3 : (if c' = n2 then (some ⟨b, off, none⟩ : Option Addr) else (some ⟨b, off, none⟩ : Option Addr).map (·.add (n2 * 6))) = p3 at hsl; have HP3 : Hid _ := hp3; clear hp3)
          | (go_at_call 114; refine (k3 _ (hx.trans hx2) _ _ _ HR2.out).mono ?_; rintro e w3 ⟨rfl, hx3⟩; obtain ⟨z0, z1, z2, z3, z4, z5⟩ := box_rtE (heap_new w3 (.cells #[.int .i64 (theR (some z)).t, .int .u32 (theR (some z)).a, .int .i64 (theR (some z)).l, .int .i64 (theR (some z)).i, .int .u32 (theR (some z)).g, .int .i64 (theR (some z)).m] 48)); have f0 := z0 _ (Ext.refl _); have f1 := z1 _ (Ext.refl _); have f2 := z2 _ (Ext.refl _); have f3 := z3 _ (Ext.refl _); have f4 := z4 _ (Ext.refl _); have f5 := z5 _ (Ext.refl _); clear z0 z1 z2 z3 z4 z5; have TB : Hid _ := two_boxes w3 #[.int .i64 (theR (some z)).t, .int .u32 (theR (some z)).a, .int .i64 (theR (some z)).l, .int .i64 (theR (some z)).i, .int .u32 (theR (some z)).g, .int .i64 (theR (some z)).m] #[.int .i64 (theR (some z)).t, .int .u32 (theR (some z)).a, .int .i64 (theR (some z)).l, .int .i64 (theR (some z)).i, .int .u32 (theR (some z)).g, .int .i64 (theR (some z)).m] 48; have HX5 : Hid (Ext wr ((w3.alloc (.cells #[.int .i64 (theR (some z)).t, .int .u32 (theR (some z)).a, .int .i64 (theR (some z)).l, .int .i64 (theR (some z)).i, .int .u32 (theR (some z)).g, .int .i64 (theR (some z)).m] 48)).alloc (.cells #[.int .i64 (theR (some z)).t, .int .u32 (theR (some z)).a, .int .i64 (theR (some z)).l, .int .i64 (theR (some z)).i, .int .u32 (theR (some z)).g, .int .i64 (theR (some z)).m] 48))) := hx2.trans (hx3.trans TB.out.1))
          | (at_builtin; refine wpList_want rfl (fun K hK => wp_app_rt (.tmp 36) (.tmp 38) rfl w.heap.size (.slice pv ln cv) (actN T t U k) [z] rfl (HO.out.ext HX5.out) (some ⟨w3.heap.size + 1, 0, none⟩) 1 1 rfl (rd_lit TB.out.2.2) (by rw [HLN.out]; omega) (hx.trans HX5.out).size ?_); intro v6 w6 ho6 hg6 hat6; have HO6 : Hid (OwnR w6 w.heap.size v6 (actN T t U k ++ [z])) := ho6; have hx6 : Ext w w6 := Ext.app (hx.trans HX5.out) (HO.out.ext HX5.out) hg6; refine hK _ _ ?_; clear hK K ho6 hg6 hat6))
        go_roundg (T.length - (k + A.length))
        case measure => omega
        case rel =>
          have hcut := HR.out.cut (lo := n2) (hi := n') (by omega) (Nat.le_refl _) hnc
          rw [HP3.out, List.drop_drop, List.take_of_length_le (by rw [List.length_drop]; omega), ← hn2] at hcut
          rw [← hn2]
          refine ⟨_, p3, n' - A.length, c' - A.length, k + A.length, rfl, rfl, by omega, by omega, Nat.le_refl _, hx6, hcut, ?_, HR3⟩
          show OwnR _ _ _ _
          rw [HR4.out]
          exact HO6.out
    · obtain rfl : k = T.length := by omega
      have hnz : n' = 0 := by omega
      subst hnz
      go_wp2_with fail
      go_ret
      exact ⟨_, rfl, HO.out, hx⟩
end Go.Proofs.YtkfhkhgiojpfoaaGreat.Rb

namespace Go.Proofs.YtkfhkhgiojpfoaaGreat.Rb

set_option maxRecDepth 100000

open Go.RowKit Go.Proofs.YtkfhkhgiojpfoaaGreat

set_option linter.unusedVariables false

set_option linter.unusedSimpArgs false

/-- The place of what was found. -/
def Idx (L : List Rt) (o : Option Rt) (z : Int) : Prop := (o = none ∧ z = -1) ∨ ∃ (j : Nat) (y : Rt), z = j ∧ j < L.length ∧ L[j]? = some y ∧ o = some y

set_option maxHeartbeats 4000000 in
theorem refBest_any (xb : Nat) (L : List Rt) (F : List Nat) (t a l : Int) (q : Option Addr) (m d : Nat) (U : List Bool) (w : World) (h : RibAt 51 w xb L F) (hn : L.length ≤ 1000) (hU : Ups w q m U) :
    Calls Tryz.prog 79 #[.pointer (some ⟨xb, 0, none⟩), .int .i64 t, .agg #[.int .u32 a, .int .i64 l], .slice q m d] w (BestAns w (bestO L t a l U)) := by
  obtain ⟨v, -, hX, hO⟩ := h
  obtain ⟨p, c, hv, hc1, -, hR⟩ := hO.slice
  subst hv
  have hA : Ext w ((w.alloc (.cells #[.int .u32 a, .int .i64 l] 42)).alloc (.cells #[.int .i64 zeroR.t, .int .u32 zeroR.a, .int .i64 zeroR.l, .int .i64 zeroR.i, .int .u32 zeroR.g, .int .i64 zeroR.m] 48)) := ((Ext.refl w).alloc _).alloc _
  have hB1 : ((w.alloc (.cells #[.int .u32 a, .int .i64 l] 42)).alloc (.cells #[.int .i64 zeroR.t, .int .u32 zeroR.a, .int .i64 zeroR.l, .int .i64 zeroR.i, .int .u32 zeroR.g, .int .i64 zeroR.m] 48)).heap[w.heap.size]? = some (.cells #[.int .u32 a, .int .i64 l] 42 (0, 0)) :=
    (Below.heap_alloc (w.alloc (.cells #[.int .u32 a, .int .i64 l] 42)) _ w.heap.size (by simp)).trans (heap_new w _)
  have hB2 : ((w.alloc (.cells #[.int .u32 a, .int .i64 l] 42)).alloc (.cells #[.int .i64 zeroR.t, .int .u32 zeroR.a, .int .i64 zeroR.l, .int .i64 zeroR.i, .int .u32 zeroR.g, .int .i64 zeroR.m] 48)).heap[w.heap.size + 1]? = some (.cells #[.int .i64 zeroR.t, .int .u32 zeroR.a, .int .i64 zeroR.l, .int .i64 zeroR.i, .int .u32 zeroR.g, .int .i64 zeroR.m] 48 (0, 0)) := by
    have := heap_new (w.alloc (.cells #[.int .u32 a, .int .i64 l] 42)) (.cells #[.int .i64 zeroR.t, .int .u32 zeroR.a, .int .i64 zeroR.l, .int .i64 zeroR.i, .int .u32 zeroR.g, .int .i64 zeroR.m] 48)
    rwa [show (w.alloc (.cells #[.int .u32 a, .int .i64 l] 42)).heap.size = w.heap.size + 1 by simp] at this
  have x00 : ((w.alloc (.cells #[.int .u32 a, .int .i64 l] 42)).alloc (.cells #[.int .i64 zeroR.t, .int .u32 zeroR.a, .int .i64 zeroR.l, .int .i64 zeroR.i, .int .u32 zeroR.g, .int .i64 zeroR.m] 48)).cell? ⟨xb, 0, none⟩ = some (.slice p L.length c) := by rw [heap_cell (hA.heap hX)]; rfl
  have HA : Hid (Ext w ((w.alloc (.cells #[.int .u32 a, .int .i64 l] 42)).alloc (.cells #[.int .i64 zeroR.t, .int .u32 zeroR.a, .int .i64 zeroR.l, .int .i64 zeroR.i, .int .u32 zeroR.g, .int .i64 zeroR.m] 48))) := hA
  have HB1 : Hid _ := hB1
  have HB2 : Hid _ := hB2
  have HX : Hid _ := hX
  have HR : Hid (Rd w p L.length c L) := hR
  have HU : Hid (Ups w q m U) := hU
  have ep := fun x y w => eql_prefix x y a l w
  clear hA hB1 hB2 hX hO hR hU
  go_enter Tryz.func79, Tryz.ntmps79
  go_wp2_with fail
  clear x00
  change Code.wp Tryz.prog _ _ _ ((w.alloc (.cells #[.int .u32 a, .int .i64 l] 42)).alloc (.cells #[.int .i64 zeroR.t, .int .u32 zeroR.a, .int .i64 zeroR.l, .int .i64 zeroR.i, .int .u32 zeroR.g, .int .i64 zeroR.m] 48))
  generalize hW0 : ((w.alloc (.cells #[.int .u32 a, .int .i64 l] 42)).alloc (.cells #[.int .i64 zeroR.t, .int .u32 zeroR.a, .int .i64 zeroR.l, .int .i64 zeroR.i, .int .u32 zeroR.g, .int .i64 zeroR.m] 48)) = W0 at *
  clear hW0
  go_loopg [10, 11] L.length (fun kx s10 s11 wr => ∃ (k : Nat) (o : Option Rt) (z : Int), s11 = .int .i64 k ∧ s10 = .int .i64 z ∧ k ≤ L.length ∧ L.length - k ≤ kx ∧ Ext W0 wr ∧ Hid (o = bestO (L.take k) t a l U) ∧ Hid (Idx L o z))
  case atStart => exact ⟨0, none, -1, rfl, rfl, Nat.zero_le _, by omega, Ext.refl _, (rfl : none = bestO (L.take 0) t a l U), (.inl ⟨rfl, rfl⟩ : Idx L none (-1))⟩
  case round =>
    obtain ⟨k, o, z, rfl, rfl, hkn, hkx, hx, HO, HZ⟩ := hrel
    have vr : wr.cell? ⟨xb, 0, none⟩ = some (.slice p L.length c) := by rw [heap_cell ((HA.out.trans hx).heap HX.out)]; rfl
    by_cases hlt : k < L.length
    · obtain ⟨x, hxk⟩ : ∃ x, L[k]? = some x := ⟨_, List.getElem?_eq_getElem hlt⟩
      have hst := bestO_take (U := U) (t := t) (a := a) (l := l) hxk
      rw [← HO.out] at hst
      obtain ⟨b, off, rfl, hb, g0, g1, g2, g3, g4, g5⟩ := (HR.out.ext (HA.out.trans hx)).cell hxk
      have hA : Ext wr (wr.alloc (.cells #[.int .i64 x.t, .int .u32 x.a, .int .i64 x.l, .int .i64 x.i, .int .u32 x.g, .int .i64 x.m] 48)) := (Ext.refl wr).alloc _
      have hxA : Ext W0 (wr.alloc (.cells #[.int .i64 x.t, .int .u32 x.a, .int .i64 x.l, .int .i64 x.i, .int .u32 x.g, .int .i64 x.m] 48)) := hx.trans hA
      have HXK : Hid _ := hxk
      have HT : Hid _ := hst
      have hki : (k : Int) < (L.length : Int) := by omega
      have ko := fun w' (hx : Ext W0 w') => on_any x.i q m d U w' (HU.out.ext (HA.out.trans hx))
      obtain ⟨a0, a1, a2, a3, a4, a5⟩ := box_rtE (heap_new wr (.cells #[.int .i64 x.t, .int .u32 x.a, .int .i64 x.l, .int .i64 x.i, .int .u32 x.g, .int .i64 x.m] 48))
      obtain ⟨e0, e1⟩ := box2E HB1.out
      have hdd : Ext (wr.alloc (.cells #[.int .i64 x.t, .int .u32 x.a, .int .i64 x.l, .int .i64 x.i, .int .u32 x.g, .int .i64 x.m] 48)) (wr.alloc (.cells #[.int .i64 x.t, .int .u32 x.a, .int .i64 x.l, .int .i64 x.i, .int .u32 x.g, .int .i64 x.m] 48)).drew := (Ext.refl _).drew
      have x0 := fun w' h => a0 w' (hdd.trans h)
      have x1 := fun w' h => a1 w' (hdd.trans h)
      have x2 := fun w' h => a2 w' (hdd.trans h)
      have x3 := fun w' h => a3 w' (hdd.trans h)
      have x4 := fun w' h => a4 w' (hdd.trans h)
      have x5 := fun w' h => a5 w' (hdd.trans h)
      have b0 := fun w' h => e0 w' (hxA.trans (hdd.trans h))
      have b1 := fun w' h => e1 w' (hxA.trans (hdd.trans h))
      have v0 : ∀ w', Ext (wr.alloc (.cells #[.int .i64 x.t, .int .u32 x.a, .int .i64 x.l, .int .i64 x.i, .int .u32 x.g, .int .i64 x.m] 48)).drew w' → w'.cell? ⟨xb, 0, none⟩ = some (.slice (some ⟨b, off, none⟩) L.length c) := fun w' h => by rw [heap_cell ((HA.out.trans (hxA.trans (hdd.trans h))).heap HX.out)]; rfl
      clear a0 a1 a2 a3 a4 a5 e0 e1 hdd hst hxk
      have ex := fun w => ep x.a x.l w
      clear ep
      by_cases h1 : x.t = t
      · have h1a : (x.t == t) = true := by simpa using h1
        by_cases h2 : (x.a == a && x.l == l) = true
        · have hsel : selB t a l x = true := by
            simp only [Bool.and_eq_true, beq_iff_eq] at h2
            exact (selB_iff _ _ _ _).2 ⟨h1, h2.1, h2.2⟩
          rw [h2] at ex
          clear h1 h2
          cases hu : upB U x.i with
          | false =>
            rw [hu] at ko
            have ho : (if selB t a l x = true then stepB U o x else o) = o := by rw [if_pos hsel]; unfold stepB; rw [hu]; simp
            clear hsel hu
            go_wp2_with fail
            refine wp_region_eager [(0, false), (1, false), (2, false), (3, false), (4, false), (5, false), (6, false), (7, false), (8, false), (9, false), (10, false), (11, false), (12, false), (13, false), (14, true), (15, false), (16, false), (17, false), (18, false), (19, false), (20, false), (21, false), (22, false), (23, false), (24, false), (25, false), (26, false), (27, false), (28, true), (29, false), (30, false)] (by kernel_rfl) (by kernel_rfl) rfl (by kernel_rfl) (fun _ _ _ _ _ h => h) ?_
            have hWd : Ext W0 (wr.alloc (.cells #[.int .i64 x.t, .int .u32 x.a, .int .i64 x.l, .int .i64 x.i, .int .u32 x.g, .int .i64 x.m] 48)).drew := hxA.drew
            generalize (wr.alloc (.cells #[.int .i64 x.t, .int .u32 x.a, .int .i64 x.l, .int .i64 x.i, .int .u32 x.g, .int .i64 x.m] 48)).drew = W at *
            iterate 14 (refine wpE_read (v := ?_) rfl (by rfl) ?_ ?_; rotate_left; (focus (intro w' hx; go_simp; first | done | with_reducible rfl)); simp only [Act.put, List.setIfInBounds_toArray, List.set_cons_zero, List.set_cons_succ])
            (refine wpE_call rfl (by rfl) (fun K hK => ?_); go_simp; first
                  | (go_at_call 32; refine (ko _ hWd).mono ?_; rintro e w1 ⟨rfl, hx1⟩; refine hK _ _ hx1 ?_; clear hK K))
            iterate 2 (refine wpE_read (v := ?_) rfl (by rfl) ?_ ?_; rotate_left; (focus (intro w' hx; go_simp; first | done | with_reducible rfl)); simp only [Act.put, List.setIfInBounds_toArray, List.set_cons_zero, List.set_cons_succ])
            iterate 13 (rw [wpE_skip_eq _ rfl (by rfl)]; simp only [Act.put, List.setIfInBounds_toArray, List.set_cons_zero, List.set_cons_succ])
            iterate 1 (refine wpE_read (v := ?_) rfl (by rfl) ?_ ?_; rotate_left; (focus (intro w' hx; go_simp; first | done | with_reducible rfl)); simp only [Act.put, List.setIfInBounds_toArray, List.set_cons_zero, List.set_cons_succ])
            refine wpE_done ?_
            go_wp2_with fail
            go_roundg (L.length - (k + 1))
            case measure => omega
            case rel => exact ⟨k + 1, o, z, by go_num, rfl, by omega, Nat.le_refl _, hWd.trans hx1, (by rw [HT.out, ho] : o = bestO (L.take (k + 1)) t a l U), HZ⟩
          | true =>
            rw [hu] at ko
            rcases HZ.out with ⟨ho0, hz⟩ | ⟨j, y, hz, hj, hy, ho0⟩
            · have ho : (if selB t a l x = true then stepB U o x else o) = some x := by rw [if_pos hsel, ho0]; unfold stepB okB; rw [hu]; simp
              subst hz
              clear hsel hu ho0
              go_wp2_with fail
              refine wp_region_eager [(0, false), (1, false), (2, false), (3, false), (4, false), (5, false), (6, false), (7, false), (8, false), (9, false), (10, false), (11, false), (12, false), (13, false), (14, true), (15, false), (16, false), (17, false), (18, false), (19, false), (20, false), (21, false), (22, false), (23, false), (24, false), (25, false), (26, false), (27, false), (28, true), (29, false), (30, false)] (by kernel_rfl) (by kernel_rfl) rfl (by kernel_rfl) (fun _ _ _ _ _ h => h) ?_
              have hWd : Ext W0 (wr.alloc (.cells #[.int .i64 x.t, .int .u32 x.a, .int .i64 x.l, .int .i64 x.i, .int .u32 x.g, .int .i64 x.m] 48)).drew := hxA.drew
              generalize (wr.alloc (.cells #[.int .i64 x.t, .int .u32 x.a, .int .i64 x.l, .int .i64 x.i, .int .u32 x.g, .int .i64 x.m] 48)).drew = W at *
              iterate 14 (refine wpE_read (v := ?_) rfl (by rfl) ?_ ?_; rotate_left; (focus (intro w' hx; go_simp; first | done | with_reducible rfl)); simp only [Act.put, List.setIfInBounds_toArray, List.set_cons_zero, List.set_cons_succ])
              (refine wpE_call rfl (by rfl) (fun K hK => ?_); go_simp; first
                    | (go_at_call 32; refine (ko _ hWd).mono ?_; rintro e w1 ⟨rfl, hx1⟩; refine hK _ _ hx1 ?_; clear hK K))
              iterate 5 (refine wpE_read (v := ?_) rfl (by rfl) ?_ ?_; rotate_left; (focus (intro w' hx; go_simp; first | done | with_reducible rfl)); simp only [Act.put, List.setIfInBounds_toArray, List.set_cons_zero, List.set_cons_succ])
              iterate 9 (rw [wpE_skip_eq _ rfl (by rfl)]; simp only [Act.put, List.setIfInBounds_toArray, List.set_cons_zero, List.set_cons_succ])
              iterate 2 (refine wpE_read (v := ?_) rfl (by rfl) ?_ ?_; rotate_left; (focus (intro w' hx; go_simp; first | done | with_reducible rfl)); simp only [Act.put, List.setIfInBounds_toArray, List.set_cons_zero, List.set_cons_succ])
              refine wpE_done ?_
              go_wp2_with fail
              go_roundg (L.length - (k + 1))
              case measure => omega
              case rel => exact ⟨k + 1, some x, (k : Int), by go_num, rfl, by omega, Nat.le_refl _, hWd.trans hx1, (by rw [HT.out, ho] : some x = bestO (L.take (k + 1)) t a l U), (.inr ⟨k, x, rfl, hlt, HXK.out, rfl⟩ : Idx L (some x) (k : Int))⟩
            · have kb := fun w => refBetter_any x y w
              obtain ⟨b', off', hbo, hb', y0, y1, y2, y3, y4, y5⟩ := (HR.out.ext (HA.out.trans hxA.drew)).cell hy
              cases hbo
              have z0 : ∀ w', Ext (wr.alloc (.cells #[.int .i64 x.t, .int .u32 x.a, .int .i64 x.l, .int .i64 x.i, .int .u32 x.g, .int .i64 x.m] 48)).drew w' → w'.cell? ⟨b, off + j * 6, none⟩ = some (.int .i64 y.t) := fun w' h => by rw [h.below.cell (p := ⟨b, off + j * 6, none⟩) hb']; exact y0
              have z1 : ∀ w', Ext (wr.alloc (.cells #[.int .i64 x.t, .int .u32 x.a, .int .i64 x.l, .int .i64 x.i, .int .u32 x.g, .int .i64 x.m] 48)).drew w' → w'.cell? ⟨b, off + j * 6 + 1, none⟩ = some (.int .u32 y.a) := fun w' h => by rw [h.below.cell (p := ⟨b, off + j * 6 + 1, none⟩) hb']; exact y1
              have z2 : ∀ w', Ext (wr.alloc (.cells #[.int .i64 x.t, .int .u32 x.a, .int .i64 x.l, .int .i64 x.i, .int .u32 x.g, .int .i64 x.m] 48)).drew w' → w'.cell? ⟨b, off + j * 6 + 2, none⟩ = some (.int .i64 y.l) := fun w' h => by rw [h.below.cell (p := ⟨b, off + j * 6 + 2, none⟩) hb']; exact y2
              have z3 : ∀ w', Ext (wr.alloc (.cells #[.int .i64 x.t, .int .u32 x.a, .int .i64 x.l, .int .i64 x.i, .int .u32 x.g, .int .i64 x.m] 48)).drew w' → w'.cell? ⟨b, off + j * 6 + 3, none⟩ = some (.int .i64 y.i) := fun w' h => by rw [h.below.cell (p := ⟨b, off + j * 6 + 3, none⟩) hb']; exact y3
              have z4 : ∀ w', Ext (wr.alloc (.cells #[.int .i64 x.t, .int .u32 x.a, .int .i64 x.l, .int .i64 x.i, .int .u32 x.g, .int .i64 x.m] 48)).drew w' → w'.cell? ⟨b, off + j * 6 + 4, none⟩ = some (.int .u32 y.g) := fun w' h => by rw [h.below.cell (p := ⟨b, off + j * 6 + 4, none⟩) hb']; exact y4
              have z5 : ∀ w', Ext (wr.alloc (.cells #[.int .i64 x.t, .int .u32 x.a, .int .i64 x.l, .int .i64 x.i, .int .u32 x.g, .int .i64 x.m] 48)).drew w' → w'.cell? ⟨b, off + j * 6 + 5, none⟩ = some (.int .i64 y.m) := fun w' h => by rw [h.below.cell (p := ⟨b, off + j * 6 + 5, none⟩) hb']; exact y5
              clear y0 y1 y2 y3 y4 y5
              have hji : (j : Int) < (L.length : Int) := by omega
              subst hz
              cases hbt : betB x y with
              | false =>
                rw [hbt] at kb
                have ho : (if selB t a l x = true then stepB U o x else o) = o := by rw [if_pos hsel, ho0]; unfold stepB okB; rw [hu]; simp [hbt]
                generalize hzj : (j : Int) = z at HZ
                subst hzj
                clear hsel hu ho0 hbt
                go_wp2_with fail
                refine wp_region_eager [(0, false), (1, false), (2, false), (3, false), (4, false), (5, false), (6, false), (7, false), (8, false), (9, false), (10, false), (11, false), (12, false), (13, false), (14, true), (15, false), (16, false), (17, false), (18, false), (19, false), (20, false), (21, false), (22, false), (23, false), (24, false), (25, false), (26, false), (27, false), (28, true), (29, false), (30, false)] (by kernel_rfl) (by kernel_rfl) rfl (by kernel_rfl) (fun _ _ _ _ _ h => h) ?_
                have hWd : Ext W0 (wr.alloc (.cells #[.int .i64 x.t, .int .u32 x.a, .int .i64 x.l, .int .i64 x.i, .int .u32 x.g, .int .i64 x.m] 48)).drew := hxA.drew
                generalize (wr.alloc (.cells #[.int .i64 x.t, .int .u32 x.a, .int .i64 x.l, .int .i64 x.i, .int .u32 x.g, .int .i64 x.m] 48)).drew = W at *
                iterate 14 (refine wpE_read (v := ?_) rfl (by rfl) ?_ ?_; rotate_left; (focus (intro w' hx; go_simp; first | done | with_reducible rfl)); simp only [Act.put, List.setIfInBounds_toArray, List.set_cons_zero, List.set_cons_succ])
                (refine wpE_call rfl (by rfl) (fun K hK => ?_); go_simp; first
                      | (go_at_call 32; refine (ko _ hWd).mono ?_; rintro e w1 ⟨rfl, hx1⟩; refine hK _ _ hx1 ?_; clear hK K))
                replace v0 := fun w' h => v0 w' (hx1.trans h); replace x0 := fun w' h => x0 w' (hx1.trans h); replace x1 := fun w' h => x1 w' (hx1.trans h); replace x2 := fun w' h => x2 w' (hx1.trans h); replace x3 := fun w' h => x3 w' (hx1.trans h); replace x4 := fun w' h => x4 w' (hx1.trans h); replace x5 := fun w' h => x5 w' (hx1.trans h); replace z0 := fun w' h => z0 w' (hx1.trans h); replace z1 := fun w' h => z1 w' (hx1.trans h); replace z2 := fun w' h => z2 w' (hx1.trans h); replace z3 := fun w' h => z3 w' (hx1.trans h); replace z4 := fun w' h => z4 w' (hx1.trans h); replace z5 := fun w' h => z5 w' (hx1.trans h)
                iterate 13 (refine wpE_read (v := ?_) rfl (by rfl) ?_ ?_; rotate_left; (focus (intro w' hx; go_simp; first | done | with_reducible rfl)); simp only [Act.put, List.setIfInBounds_toArray, List.set_cons_zero, List.set_cons_succ])
                (refine wpE_call rfl (by rfl) (fun K hK => ?_); go_simp; first
                      | (go_at_call 105; refine (kb _).mono ?_; rintro e w2 ⟨rfl, hx2⟩; refine hK _ _ hx2 ?_; clear hK K))
                iterate 2 (refine wpE_read (v := ?_) rfl (by rfl) ?_ ?_; rotate_left; (focus (intro w' hx; go_simp; first | done | with_reducible rfl)); simp only [Act.put, List.setIfInBounds_toArray, List.set_cons_zero, List.set_cons_succ])
                refine wpE_done ?_
                go_wp2_with fail
                go_roundg (L.length - (k + 1))
                case measure => omega
                case rel => exact ⟨k + 1, o, (j : Int), by go_num, rfl, by omega, Nat.le_refl _, (hWd.trans hx1).trans hx2, (by rw [HT.out, ho] : o = bestO (L.take (k + 1)) t a l U), HZ⟩
              | true =>
                rw [hbt] at kb
                have ho : (if selB t a l x = true then stepB U o x else o) = some x := by rw [if_pos hsel, ho0]; unfold stepB okB; rw [hu]; simp [hbt]
                clear hsel hu ho0 hbt
                go_wp2_with fail
                refine wp_region_eager [(0, false), (1, false), (2, false), (3, false), (4, false), (5, false), (6, false), (7, false), (8, false), (9, false), (10, false), (11, false), (12, false), (13, false), (14, true), (15, false), (16, false), (17, false), (18, false), (19, false), (20, false), (21, false), (22, false), (23, false), (24, false), (25, false), (26, false), (27, false), (28, true), (29, false), (30, false)] (by kernel_rfl) (by kernel_rfl) rfl (by kernel_rfl) (fun _ _ _ _ _ h => h) ?_
                have hWd : Ext W0 (wr.alloc (.cells #[.int .i64 x.t, .int .u32 x.a, .int .i64 x.l, .int .i64 x.i, .int .u32 x.g, .int .i64 x.m] 48)).drew := hxA.drew
                generalize (wr.alloc (.cells #[.int .i64 x.t, .int .u32 x.a, .int .i64 x.l, .int .i64 x.i, .int .u32 x.g, .int .i64 x.m] 48)).drew = W at *
                iterate 14 (refine wpE_read (v := ?_) rfl (by rfl) ?_ ?_; rotate_left; (focus (intro w' hx; go_simp; first | done | with_reducible rfl)); simp only [Act.put, List.setIfInBounds_toArray, List.set_cons_zero, List.set_cons_succ])
                (refine wpE_call rfl (by rfl) (fun K hK => ?_); go_simp; first
                      | (go_at_call 32; refine (ko _ hWd).mono ?_; rintro e w1 ⟨rfl, hx1⟩; refine hK _ _ hx1 ?_; clear hK K))
                replace v0 := fun w' h => v0 w' (hx1.trans h); replace x0 := fun w' h => x0 w' (hx1.trans h); replace x1 := fun w' h => x1 w' (hx1.trans h); replace x2 := fun w' h => x2 w' (hx1.trans h); replace x3 := fun w' h => x3 w' (hx1.trans h); replace x4 := fun w' h => x4 w' (hx1.trans h); replace x5 := fun w' h => x5 w' (hx1.trans h); replace z0 := fun w' h => z0 w' (hx1.trans h); replace z1 := fun w' h => z1 w' (hx1.trans h); replace z2 := fun w' h => z2 w' (hx1.trans h); replace z3 := fun w' h => z3 w' (hx1.trans h); replace z4 := fun w' h => z4 w' (hx1.trans h); replace z5 := fun w' h => z5 w' (hx1.trans h)
                iterate 13 (refine wpE_read (v := ?_) rfl (by rfl) ?_ ?_; rotate_left; (focus (intro w' hx; go_simp; first | done | with_reducible rfl)); simp only [Act.put, List.setIfInBounds_toArray, List.set_cons_zero, List.set_cons_succ])
                (refine wpE_call rfl (by rfl) (fun K hK => ?_); go_simp; first
                      | (go_at_call 105; refine (kb _).mono ?_; rintro e w2 ⟨rfl, hx2⟩; refine hK _ _ hx2 ?_; clear hK K))
                iterate 2 (refine wpE_read (v := ?_) rfl (by rfl) ?_ ?_; rotate_left; (focus (intro w' hx; go_simp; first | done | with_reducible rfl)); simp only [Act.put, List.setIfInBounds_toArray, List.set_cons_zero, List.set_cons_succ])
                refine wpE_done ?_
                go_wp2_with fail
                go_roundg (L.length - (k + 1))
                case measure => omega
                case rel => exact ⟨k + 1, some x, (k : Int), by go_num, rfl, by omega, Nat.le_refl _, (hWd.trans hx1).trans hx2, (by rw [HT.out, ho] : some x = bestO (L.take (k + 1)) t a l U), (.inr ⟨k, x, rfl, hlt, HXK.out, rfl⟩ : Idx L (some x) (k : Int))⟩
        · have h2' : (x.a == a && x.l == l) = false := by simpa using h2
          have hsel : ¬ selB t a l x = true := fun e => h2 (by obtain ⟨_, e2, e3⟩ := (selB_iff _ _ _ _).1 e; simp [e2, e3])
          have ho : (if selB t a l x = true then stepB U o x else o) = o := by rw [if_neg hsel]
          rw [h2'] at ex
          clear h1 h2 h2' hsel
          go_wp2_with fail
          refine wp_region_eager [(0, false), (1, false), (2, false), (3, false), (4, false), (5, false), (6, false), (7, false), (8, false), (9, false), (10, false), (11, false), (12, false), (13, false), (14, true), (15, false), (16, false), (17, false), (18, false), (19, false), (20, false), (21, false), (22, false), (23, false), (24, false), (25, false), (26, false), (27, false), (28, true), (29, false), (30, false)] (by kernel_rfl) (by kernel_rfl) rfl (by kernel_rfl) (fun _ _ _ _ _ h => h) ?_
          have hWd : Ext W0 (wr.alloc (.cells #[.int .i64 x.t, .int .u32 x.a, .int .i64 x.l, .int .i64 x.i, .int .u32 x.g, .int .i64 x.m] 48)).drew := hxA.drew
          generalize (wr.alloc (.cells #[.int .i64 x.t, .int .u32 x.a, .int .i64 x.l, .int .i64 x.i, .int .u32 x.g, .int .i64 x.m] 48)).drew = W at *
          iterate 11 (refine wpE_read (v := ?_) rfl (by rfl) ?_ ?_; rotate_left; (focus (intro w' hx; go_simp; first | done | with_reducible rfl)); simp only [Act.put, List.setIfInBounds_toArray, List.set_cons_zero, List.set_cons_succ])
          iterate 4 (rw [wpE_skip_eq _ rfl (by rfl)]; simp only [Act.put, List.setIfInBounds_toArray, List.set_cons_zero, List.set_cons_succ])
          iterate 2 (refine wpE_read (v := ?_) rfl (by rfl) ?_ ?_; rotate_left; (focus (intro w' hx; go_simp; first | done | with_reducible rfl)); simp only [Act.put, List.setIfInBounds_toArray, List.set_cons_zero, List.set_cons_succ])
          iterate 13 (rw [wpE_skip_eq _ rfl (by rfl)]; simp only [Act.put, List.setIfInBounds_toArray, List.set_cons_zero, List.set_cons_succ])
          iterate 1 (refine wpE_read (v := ?_) rfl (by rfl) ?_ ?_; rotate_left; (focus (intro w' hx; go_simp; first | done | with_reducible rfl)); simp only [Act.put, List.setIfInBounds_toArray, List.set_cons_zero, List.set_cons_succ])
          refine wpE_done ?_
          go_wp2_with fail
          go_roundg (L.length - (k + 1))
          case measure => omega
          case rel => exact ⟨k + 1, o, z, by go_num, rfl, by omega, Nat.le_refl _, hWd, (by rw [HT.out, ho] : o = bestO (L.take (k + 1)) t a l U), HZ⟩
      · have h1a : (x.t == t) = false := by simpa using h1
        have hsel : ¬ selB t a l x = true := fun e => h1 ((selB_iff _ _ _ _).1 e).1
        have ho : (if selB t a l x = true then stepB U o x else o) = o := by rw [if_neg hsel]
        clear hsel
        go_wp2_with fail
        refine wp_region_eager [(0, false), (1, false), (2, false), (3, false), (4, false), (5, false), (6, false), (7, false), (8, false), (9, false), (10, false), (11, false), (12, false), (13, false), (14, true), (15, false), (16, false), (17, false), (18, false), (19, false), (20, false), (21, false), (22, false), (23, false), (24, false), (25, false), (26, false), (27, false), (28, true), (29, false), (30, false)] (by kernel_rfl) (by kernel_rfl) rfl (by kernel_rfl) (fun _ _ _ _ _ h => h) ?_
        have hWd : Ext W0 (wr.alloc (.cells #[.int .i64 x.t, .int .u32 x.a, .int .i64 x.l, .int .i64 x.i, .int .u32 x.g, .int .i64 x.m] 48)).drew := hxA.drew
        generalize (wr.alloc (.cells #[.int .i64 x.t, .int .u32 x.a, .int .i64 x.l, .int .i64 x.i, .int .u32 x.g, .int .i64 x.m] 48)).drew = W at *
        iterate 5 (refine wpE_read (v := ?_) rfl (by rfl) ?_ ?_; rotate_left; (focus (intro w' hx; go_simp; first | done | with_reducible rfl)); simp only [Act.put, List.setIfInBounds_toArray, List.set_cons_zero, List.set_cons_succ])
        iterate 4 (rw [wpE_skip_eq _ rfl (by rfl)]; simp only [Act.put, List.setIfInBounds_toArray, List.set_cons_zero, List.set_cons_succ])
        iterate 2 (refine wpE_read (v := ?_) rfl (by rfl) ?_ ?_; rotate_left; (focus (intro w' hx; go_simp; first | done | with_reducible rfl)); simp only [Act.put, List.setIfInBounds_toArray, List.set_cons_zero, List.set_cons_succ])
        iterate 4 (rw [wpE_skip_eq _ rfl (by rfl)]; simp only [Act.put, List.setIfInBounds_toArray, List.set_cons_zero, List.set_cons_succ])
        iterate 2 (refine wpE_read (v := ?_) rfl (by rfl) ?_ ?_; rotate_left; (focus (intro w' hx; go_simp; first | done | with_reducible rfl)); simp only [Act.put, List.setIfInBounds_toArray, List.set_cons_zero, List.set_cons_succ])
        iterate 13 (rw [wpE_skip_eq _ rfl (by rfl)]; simp only [Act.put, List.setIfInBounds_toArray, List.set_cons_zero, List.set_cons_succ])
        iterate 1 (refine wpE_read (v := ?_) rfl (by rfl) ?_ ?_; rotate_left; (focus (intro w' hx; go_simp; first | done | with_reducible rfl)); simp only [Act.put, List.setIfInBounds_toArray, List.set_cons_zero, List.set_cons_succ])
        refine wpE_done ?_
        go_wp2_with fail
        go_roundg (L.length - (k + 1))
        case measure => omega
        case rel => exact ⟨k + 1, o, z, by go_num, rfl, by omega, Nat.le_refl _, hWd, (by rw [HT.out, ho] : o = bestO (L.take (k + 1)) t a l U), HZ⟩
    · obtain rfl : k = L.length := by omega
      have hE := HA.out.trans hx
      have HOo : Hid (o = bestO L t a l U) := by show o = _; rw [HO.out, List.take_length]
      clear HO ep
      rcases HZ.out with ⟨ho0, hz⟩ | ⟨j, y, hz, hj, hy, ho0⟩
      · subst hz
        go_wp2_with (refine wpl_store (by rfl) 48 _ _ rfl rfl 6 (w.heap.size + 1) #[.int .i64 zeroR.t, .int .u32 zeroR.a, .int .i64 zeroR.l, .int .i64 zeroR.i, .int .u32 zeroR.g, .int .i64 zeroR.m] _ _ rfl rfl (hx.heap HB2.out) rt_size rfl rfl (by simp [Value.oneCell']) ?_; intro w5 hx5 k5)
        refine bodyPost_ret (results_two Tryz.results79 _ rfl k5 Tryz.underlying48 rfl rt_size) rfl ?_
        rw [← HOo.out, ho0]
        exact ⟨rfl, ExtX.ext hE hx5 (by omega)⟩
      · subst hz
        obtain ⟨b, off, rfl, hb, g0, g1, g2, g3, g4, g5⟩ := (HR.out.ext hE).cell hy
        have hji : (j : Int) < (L.length : Int) := by omega
        go_wp2_with (refine wpl_store (by rfl) 48 _ _ rfl rfl 6 (w.heap.size + 1) #[.int .i64 y.t, .int .u32 y.a, .int .i64 y.l, .int .i64 y.i, .int .u32 y.g, .int .i64 y.m] _ _ rfl rfl (hx.heap HB2.out) rt_size rfl rfl (by simp [Value.oneCell']) ?_; intro w5 hx5 k5)
        refine bodyPost_ret (results_two Tryz.results79 _ rfl k5 Tryz.underlying48 rfl rt_size) rfl ?_
        rw [← HOo.out, ho0]
        exact ⟨rfl, ExtX.ext hE hx5 (by omega)⟩
end Go.Proofs.YtkfhkhgiojpfoaaGreat.Rb
