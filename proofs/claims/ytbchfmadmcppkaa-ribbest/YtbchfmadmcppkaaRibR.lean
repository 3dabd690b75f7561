/- Ways, plainly: what is active, group by group. -/
import Derived.Test.YtbchfmadmcppkaaRibQ
namespace Go.Proofs.Ytbchfmadmcppkaa.Rb
open Go.Proofs.Ytbchfmadmcppkaa
set_option linter.unusedVariables false
set_option linter.unusedSimpArgs false

def tabB (t : Int) (r : Rt) : Bool := decide (r.t = t)

theorem sel_tab (L : List Rt) (t a l : Int) : (L.filter (tabB t)).filter (selB t a l) = L.filter (selB t a l) := by
  rw [List.filter_filter]
  refine List.filter_congr fun x _ => ?_
  unfold selB tabB
  cases decide (x.t = t) <;> simp

theorem bestO_tab (L : List Rt) (t a l : Int) (U : List Bool) : bestO (L.filter (tabB t)) t a l U = bestO L t a l U := by
  unfold bestO
  rw [sel_tab]

theorem Srt.filter {L : List Rt} (h : Srt L) (f : Rt → Bool) : Srt (L.filter f) := List.Pairwise.filter _ h

theorem Srt.drop {L : List Rt} (h : Srt L) (k : Nat) : Srt (L.drop k) := List.Pairwise.sublist (List.drop_sublist _ _) h

theorem tab_of {L : List Rt} {t : Int} : ∀ x ∈ L.filter (tabB t), x.t = t := fun x hx => by
  have := (List.mem_filter.1 hx).2
  simpa [tabB] using this

theorem selB_iff (t a l : Int) (r : Rt) : selB t a l r = true ↔ r.t = t ∧ r.a = a ∧ r.l = l := by simp [selB]

theorem Srt.tab_le {L : List Rt} (h : Srt L) {i j : Nat} {x y : Rt} (hij : i ≤ j) (hx : L[i]? = some x) (hy : L[j]? = some y) : x.t ≤ y.t := by
  rcases Nat.lt_or_ge i j with hlt | hge
  · have := h.get hx hy hlt
    rw [ltB_iff] at this
    unfold Lt5 at this
    omega
  · obtain rfl : i = j := by omega
    rw [hx] at hy; cases hy; exact Int.le_refl _

/-- How many of the first are of the table. -/
def cntT (L : List Rt) (t : Int) (i : Nat) : Nat := ((L.take i).filter (tabB t)).length

theorem cntT_succ {L : List Rt} {t : Int} {i : Nat} {x : Rt} (hx : L[i]? = some x) : cntT L t (i + 1) = cntT L t i + (if tabB t x = true then 1 else 0) := by
  have hi := (List.getElem?_eq_some_iff.1 hx).1
  unfold cntT
  rw [List.take_succ_eq_append_getElem hi, (List.getElem?_eq_some_iff.1 hx).2, List.filter_append, List.length_append]
  congr 1
  split
  · rename_i h; rw [List.filter_cons_of_pos h]; rfl
  · rename_i h; rw [List.filter_cons_of_neg h]; rfl

theorem tab_at {L : List Rt} {t : Int} {i : Nat} {x : Rt} (hx : L[i]? = some x) (ht : tabB t x = true) : (L.filter (tabB t))[cntT L t i]? = some x := by
  have hi := (List.getElem?_eq_some_iff.1 hx).1
  have e : L.filter (tabB t) = (L.take i).filter (tabB t) ++ x :: (L.drop (i + 1)).filter (tabB t) := by
    conv => lhs; rw [← List.take_append_drop i L, List.filter_append, List.drop_eq_getElem_cons hi, (List.getElem?_eq_some_iff.1 hx).2, List.filter_cons_of_pos ht]
  rw [e]
  unfold cntT
  rw [List.getElem?_append_right (Nat.le_refl _), Nat.sub_self]
  rfl

theorem firstB_tab {L : List Rt} {t : Int} (h : Srt L) {i : Nat} {x : Rt} (hx : L[i]? = some x) (ht : tabB t x = true) : firstB L t i = firstB (L.filter (tabB t)) t (cntT L t i) := by
  have hT := tab_at hx ht
  have hxt : x.t = t := by simpa [tabB] using ht
  cases i with
  | zero =>
    have h0 : cntT L t 0 = 0 := by simp [cntT]
    rw [h0] at hT ⊢
    unfold firstB
    rw [hx, hT]
  | succ j =>
    have hj : j < L.length := by have := (List.getElem?_eq_some_iff.1 hx).1; omega
    obtain ⟨q, hq⟩ : ∃ q, L[j]? = some q := ⟨_, List.getElem?_eq_getElem hj⟩
    have hs := cntT_succ (t := t) hq
    by_cases hqt : tabB t q = true
    · rw [if_pos hqt] at hs
      have hQ := tab_at hq hqt
      rw [hs] at hT ⊢
      unfold firstB
      rw [hx, hT]
      simp only [hq, hQ]
    · rw [if_neg hqt, Nat.add_zero] at hs
      have hqn : q.t ≠ t := by simpa [tabB] using hqt
      have h0 : cntT L t (j + 1) = 0 := by
        unfold cntT
        rw [List.length_eq_zero_iff, List.filter_eq_nil_iff]
        intro y hy hyt
        obtain ⟨m, hm, rfl⟩ := List.getElem_of_mem hy
        rw [List.length_take] at hm
        have hmj : m ≤ j := by omega
        have hmL : L[m]? = some L[m] := List.getElem?_eq_getElem (by omega)
        have e1 : (L.take (j + 1))[m] = L[m] := List.getElem_take
        rw [e1] at hyt
        have hyt' : L[m].t = t := by simpa [tabB] using hyt
        have h1 := h.tab_le hmj hmL hq
        have h2 := h.tab_le (Nat.le_succ j) hq hx
        omega
      rw [h0] at hT ⊢
      unfold firstB
      rw [hx, hT]
      have hsq : selB t x.a x.l q = false := by
        cases e : selB t x.a x.l q
        · rfl
        · exact absurd ((selB_iff _ _ _ _).1 e).1 hqn
      simp only [hq, hsq]

theorem actN_tab {L : List Rt} {t : Int} (h : Srt L) (U : List Bool) : ∀ i, i ≤ L.length → actN L t U i = actN (L.filter (tabB t)) t U (cntT L t i)
  | 0, _ => by simp [cntT, actN]
  | i + 1, hi => by
    obtain ⟨x, hx⟩ : ∃ x, L[i]? = some x := ⟨_, List.getElem?_eq_getElem (by omega)⟩
    have ih := actN_tab (t := t) h U i (by omega)
    rw [cntT_succ hx]
    by_cases ht : tabB t x = true
    · rw [if_pos ht]
      conv => lhs; unfold actN
      conv => rhs; unfold actN
      rw [ih, firstB_tab h hx ht, hx, tab_at hx ht]
      simp only [bestO_tab]
    · rw [if_neg ht, Nat.add_zero (cntT L t i), ← ih]
      conv => lhs; unfold actN
      have hf : firstB L t i = false := by
        unfold firstB
        rw [hx]
        have : decide (x.t = t) = false := by simpa [tabB] using ht
        simp [this]
      rw [hf]
      simp

theorem actL_tab {L : List Rt} {t : Int} (h : Srt L) (U : List Bool) : actL L t U = actN (L.filter (tabB t)) t U (L.filter (tabB t)).length := by
  unfold actL
  rw [actN_tab h U L.length (Nat.le_refl _)]
  congr 1
  unfold cntT
  rw [List.take_length]

/-- A place where a prefix begins. -/
def Starts (T : List Rt) (t : Int) (k : Nat) : Prop := ∀ q x, (∃ j, j + 1 = k ∧ T[j]? = some q) → T[k]? = some x → selB t x.a x.l q = false

theorem Starts.zero (T : List Rt) (t : Int) : Starts T t 0 := fun q x ⟨j, hj, _⟩ => by omega

theorem actN_none {T : List Rt} {t : Int} {U : List Bool} {k : Nat} : ∀ c, (∀ j, k ≤ j → j < k + c → firstB T t j = false) → actN T t U (k + c) = actN T t U k
  | 0, _ => rfl
  | c + 1, h => by
    rw [← Nat.add_assoc]
    conv => lhs; unfold actN
    rw [h (k + c) (by omega) (by omega), actN_none c fun j h1 h2 => h j h1 (by omega)]
    simp

/-- The ways of one prefix stand together. -/
theorem alike_first {t a l : Int} : ∀ {R : List Rt}, Srt R → (∀ x ∈ R, x.t = t) → (∃ x, R[0]? = some x ∧ x.a = a ∧ x.l = l) → ∃ M, R = R.filter (selB t a l) ++ M ∧ ∀ y ∈ M, selB t a l y = false := by
  have gen : ∀ {R : List Rt}, Srt R → (∀ x ∈ R, x.t = t) → (∀ x ∈ R, ¬ (x.a < a ∨ (x.a = a ∧ x.l < l))) → ∃ M, R = R.filter (selB t a l) ++ M ∧ ∀ y ∈ M, selB t a l y = false := by
    intro R
    induction R with
    | nil => intro _ _ _; exact ⟨[], rfl, by simp⟩
    | cons x R ih =>
      intro h ht hb
      obtain ⟨h1, h2⟩ := List.pairwise_cons.1 h
      by_cases e : selB t a l x = true
      · obtain ⟨M, hM, hM2⟩ := ih h2 (fun y hy => ht y (by simp [hy])) (fun y hy => hb y (by simp [hy]))
        refine ⟨M, ?_, hM2⟩
        rw [List.filter_cons_of_pos e, List.cons_append, ← hM]
      · refine ⟨x :: R, ?_, ?_⟩
        · have : (x :: R).filter (selB t a l) = [] := by
            rw [List.filter_eq_nil_iff]
            intro y hy hy2
            rcases List.mem_cons.1 hy with rfl | hy
            · exact e hy2
            · have h3 := h1 y hy
              rw [ltB_iff] at h3
              obtain ⟨e1, e2, e3⟩ := (selB_iff _ _ _ _).1 hy2
              have h4 := hb x (by simp)
              have h5 := ht x (by simp)
              have h6 : ¬ (x.t = t ∧ x.a = a ∧ x.l = l) := fun hh => e ((selB_iff _ _ _ _).2 hh)
              unfold Lt5 at h3
              omega
          rw [this, List.nil_append]
        · intro y hy
          cases e2 : selB t a l y
          · rfl
          · exfalso
            rcases List.mem_cons.1 hy with rfl | hy
            · exact e e2
            · have h3 := h1 y hy
              rw [ltB_iff] at h3
              obtain ⟨e1, e2, e3⟩ := (selB_iff _ _ _ _).1 e2
              have h4 := hb x (by simp)
              have h5 := ht x (by simp)
              have h6 : ¬ (x.t = t ∧ x.a = a ∧ x.l = l) := fun hh => e ((selB_iff _ _ _ _).2 hh)
              unfold Lt5 at h3
              omega
  intro R h ht ⟨x, hx, ha, hl⟩
  refine gen h ht fun y hy hlt => ?_
  obtain ⟨m, hm, rfl⟩ := List.getElem_of_mem hy
  rcases Nat.eq_zero_or_pos m with rfl | hpos
  · rw [List.getElem?_eq_getElem hm] at hx
    cases hx
    omega
  · have h3 := h.get hx (List.getElem?_eq_getElem hm) hpos
    rw [ltB_iff] at h3
    have h5 := ht R[m] hy
    have h6 := ht x (List.mem_of_getElem? hx)
    unfold Lt5 at h3
    omega

/-- One round of Active. -/
theorem act_round {T : List Rt} {t : Int} {U : List Bool} (h : Srt T) (ht : ∀ x ∈ T, x.t = t) {k : Nat} {x : Rt} (hx : T[k]? = some x) (hs : Starts T t k) :
    1 ≤ ((T.drop k).filter (selB t x.a x.l)).length ∧ k + ((T.drop k).filter (selB t x.a x.l)).length ≤ T.length ∧ Starts T t (k + ((T.drop k).filter (selB t x.a x.l)).length) ∧
      actN T t U (k + ((T.drop k).filter (selB t x.a x.l)).length) = actN T t U k ++ (bestL U ((T.drop k).filter (selB t x.a x.l))).toList := by
  have hk := (List.getElem?_eq_some_iff.1 hx).1
  have hx0 : (T.drop k)[0]? = some x := by rw [List.getElem?_drop]; exact hx
  obtain ⟨M, hM, hM2⟩ := alike_first (a := x.a) (l := x.l) (h.drop k) (fun y hy => ht y (List.mem_of_mem_drop hy)) ⟨x, hx0, rfl, rfl⟩
  have hxt := ht x (List.mem_of_getElem? hx)
  have hself : selB t x.a x.l x = true := (selB_iff _ _ _ _).2 ⟨hxt, rfl, rfl⟩
  have hall : ∀ (j : Nat) (y : Rt), ((T.drop k).filter (selB t x.a x.l))[j]? = some y → T[k + j]? = some y ∧ selB t x.a x.l y = true := fun j y hj => by
    refine ⟨?_, (List.mem_filter.1 (List.mem_of_getElem? hj)).2⟩
    rw [← List.getElem?_drop, hM, List.getElem?_append_left (List.getElem?_eq_some_iff.1 hj).1]
    exact hj
  have hahead : ∀ y ∈ T.take k, selB t x.a x.l y = false := fun y hy => by
    obtain ⟨m, hm, rfl⟩ := List.getElem_of_mem hy
    rw [List.length_take] at hm
    have e1 : (T.take k)[m] = T[m] := List.getElem_take
    rw [e1]
    cases k with
    | zero => omega
    | succ j =>
      obtain ⟨q, hq⟩ : ∃ q, T[j]? = some q := ⟨_, List.getElem?_eq_getElem (by omega)⟩
      have hqs := hs q x ⟨j, rfl, hq⟩ hx
      cases e : selB t x.a x.l T[m]
      · rfl
      · exfalso
        obtain ⟨_, e2, e3⟩ := (selB_iff _ _ _ _).1 e
        have hqx := h.get hq hx (Nat.lt_succ_self j)
        have hqt := ht q (List.mem_of_getElem? hq)
        rw [ltB_iff] at hqx
        have hn : ¬ (q.t = t ∧ q.a = x.a ∧ q.l = x.l) := fun hh => by rw [(selB_iff _ _ _ _).2 hh] at hqs; cases hqs
        rcases Nat.lt_or_ge m j with hmj | hmj
        · have h3 := h.get (List.getElem?_eq_getElem (show m < T.length by omega)) hq hmj
          have h4 := ht T[m] (List.getElem_mem _)
          rw [ltB_iff] at h3
          unfold Lt5 at h3 hqx
          omega
        · obtain rfl : m = j := by omega
          rw [List.getElem?_eq_getElem (show m < T.length by omega)] at hq
          have hq' : T[m] = q := by simpa using hq
          rw [hq'] at e2 e3
          exact hn ⟨hqt, e2, e3⟩
  have hbest : bestO T t x.a x.l U = bestL U ((T.drop k).filter (selB t x.a x.l)) := by
    unfold bestO
    congr 1
    conv => lhs; rw [← List.take_append_drop k T, List.filter_append]
    rw [show (T.take k).filter (selB t x.a x.l) = [] from List.filter_eq_nil_iff.2 fun y hy => by rw [hahead y hy]; simp, List.nil_append]
  have hfirst : firstB T t k = true := by
    unfold firstB
    rw [hx]
    cases k with
    | zero => simp [hxt]
    | succ j =>
      obtain ⟨q, hq⟩ : ∃ q, T[j]? = some q := ⟨_, List.getElem?_eq_getElem (by omega)⟩
      simp only [hq, hs q x ⟨j, rfl, hq⟩ hx]
      simp [hxt]
  have hlen : 1 ≤ ((T.drop k).filter (selB t x.a x.l)).length := by
    have : x ∈ (T.drop k).filter (selB t x.a x.l) := List.mem_filter.2 ⟨List.mem_of_getElem? hx0, hself⟩
    exact List.length_pos_of_mem this
  have hsum : k + ((T.drop k).filter (selB t x.a x.l)).length + M.length = T.length := by
    have := congrArg List.length hM
    rw [List.length_append, List.length_drop] at this
    omega
  generalize hA : (T.drop k).filter (selB t x.a x.l) = A at *
  refine ⟨hlen, by omega, ?_, ?_⟩
  · rintro q y ⟨j, hj, hq⟩ hy
    obtain ⟨c, hc⟩ : ∃ c, A.length = c + 1 := ⟨A.length - 1, by omega⟩
    obtain ⟨z, hz⟩ : ∃ z, A[c]? = some z := ⟨_, List.getElem?_eq_getElem (by omega)⟩
    obtain ⟨hz1, hz2⟩ := hall c z hz
    have e1 : j = k + c := by omega
    rw [e1, hz1] at hq
    cases hq
    have hyM : M[0]? = some y := by
      rw [← List.getElem?_drop, hM, List.getElem?_append_right (Nat.le_refl _), Nat.sub_self] at hy
      exact hy
    have hyn := hM2 y (List.mem_of_getElem? hyM)
    obtain ⟨s1, s2, s3⟩ := (selB_iff _ _ _ _).1 hz2
    cases e : selB t y.a y.l q
    · rfl
    · obtain ⟨r1, r2, r3⟩ := (selB_iff _ _ _ _).1 e
      have hyt := ht y (List.mem_of_getElem? hy)
      rw [(selB_iff _ _ _ _).2 ⟨hyt, by omega, by omega⟩] at hyn
      cases hyn
  · obtain ⟨c, hc⟩ : ∃ c, A.length = 1 + c := ⟨A.length - 1, by omega⟩
    rw [hc, ← Nat.add_assoc, actN_none c]
    · conv => lhs; unfold actN
      rw [hfirst, hx]
      simp only [if_true, hbest]
    · intro j h1 h2
      obtain ⟨i, rfl⟩ : ∃ i, j = k + i + 1 := ⟨j - k - 1, by omega⟩
      obtain ⟨y, hy⟩ : ∃ y, A[i]? = some y := ⟨_, List.getElem?_eq_getElem (by omega)⟩
      obtain ⟨z, hz⟩ : ∃ z, A[i + 1]? = some z := ⟨_, List.getElem?_eq_getElem (by omega)⟩
      obtain ⟨y1, y2⟩ := hall i y hy
      obtain ⟨z1, z2⟩ := hall (i + 1) z hz
      rw [← Nat.add_assoc] at z1
      unfold firstB
      rw [z1]
      obtain ⟨s1, s2, s3⟩ := (selB_iff _ _ _ _).1 y2
      obtain ⟨r1, r2, r3⟩ := (selB_iff _ _ _ _).1 z2
      have : selB t z.a z.l y = true := (selB_iff _ _ _ _).2 ⟨s1, by omega, by omega⟩
      simp only [y1, this]
      simp
end Go.Proofs.Ytbchfmadmcppkaa.Rb
