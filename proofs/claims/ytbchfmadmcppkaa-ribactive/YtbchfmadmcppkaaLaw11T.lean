/- What is told, plainly: the best one is there, and none is better; what is active, prefix by prefix. -/
import Derived.Test.YtbchfmadmcppkaaLaw11Q
namespace Go.Proofs.Ytbchfmadmcppkaa.Rb
open Go.Proofs.Ytbchfmadmcppkaa
set_option linter.unusedVariables false
set_option linter.unusedSimpArgs false

def candB (t a l : Int) (U : List Bool) (x : Rt) : Bool := selB t a l x && upB U x.i

def thereB (L : List Rt) (t a l : Int) (U : List Bool) (o : Option Rt) : Bool := L.any fun x => candB t a l U x && eqB x (theR o)

theorem cand_best {L : List Rt} {t a l : Int} {U : List Bool} {x : Rt} (hx : x ∈ L) (hs : selB t a l x = true) (hu : upB U x.i = true) : ∃ b, bestO L t a l U = some b ∧ betB x b = false :=
  bestL_best (List.mem_filter.2 ⟨hx, hs⟩) hu

theorem there_all (L : List Rt) (t a l : Int) (U : List Bool) : thereB L t a l U (bestO L t a l U) = (bestO L t a l U).isSome := by
  unfold thereB
  cases h : bestO L t a l U with
  | none =>
    rw [Option.isSome_none, List.any_eq_false]
    intro x hx hc
    simp only [candB, Bool.and_eq_true] at hc
    obtain ⟨b, hb, _⟩ := cand_best hx hc.1.1 hc.1.2
    rw [h] at hb; cases hb
  | some b =>
    obtain ⟨h1, h2⟩ := bestL_is h
    obtain ⟨h3, h4⟩ := List.mem_filter.1 h1
    rw [Option.isSome_some, List.any_eq_true]
    exact ⟨b, h3, by simp [candB, h4, h2, theR, eqB_refl]⟩

theorem there_take {L : List Rt} {t a l : Int} {U : List Bool} {o : Option Rt} {k : Nat} {x : Rt} (h : L[k]? = some x) : thereB (L.take (k + 1)) t a l U o = (thereB (L.take k) t a l U o || (candB t a l U x && eqB x (theR o))) := by
  have hk := (List.getElem?_eq_some_iff.1 h).1
  unfold thereB
  rw [List.take_succ_eq_append_getElem hk, (List.getElem?_eq_some_iff.1 h).2, List.any_append]
  simp

theorem act_best {L : List Rt} {t : Int} {U : List Bool} : ∀ {k : Nat} {z : Rt}, z ∈ actN L t U k → bestO L t z.a z.l U = some z ∧ ∃ (j : Nat) (r : Rt), j < k ∧ L[j]? = some r ∧ r.t = t ∧ r.a = z.a ∧ r.l = z.l
  | 0, z, h => by simp [actN] at h
  | k + 1, z, h => by
    unfold actN at h
    rcases List.mem_append.1 h with h | h
    · obtain ⟨h1, j, r, h2, h3⟩ := act_best h
      exact ⟨h1, j, r, by omega, h3⟩
    · split at h
      · rename_i hf
        cases hx : L[k]? with
        | none => rw [hx] at h; simp at h
        | some r =>
          rw [hx] at h
          simp only [Option.mem_toList] at h
          have hb : bestO L t r.a r.l U = some z := h
          obtain ⟨h1, h2⟩ := bestL_is hb
          obtain ⟨_, h4⟩ := List.mem_filter.1 h1
          obtain ⟨e1, e2, e3⟩ := (selB_iff _ _ _ _).1 h4
          have ht : r.t = t := by
            unfold firstB at hf
            rw [hx] at hf
            simp only [Bool.and_eq_true, decide_eq_true_eq] at hf
            exact hf.1
          rw [e2, e3]
          exact ⟨hb, k, r, by omega, hx, ht, rfl, rfl⟩
      · simp at h

def PLt (x y : Rt) : Prop := x.a < y.a ∨ (x.a = y.a ∧ x.l < y.l)

theorem first_lt {L : List Rt} {t : Int} (hs : Srt L) {j k : Nat} {r x : Rt} (hjk : j < k) (hr : L[j]? = some r) (hx : L[k]? = some x) (hrt : r.t = t) (hf : firstB L t k = true) : PLt r x := by
  have hxt : x.t = t := by
    unfold firstB at hf
    rw [hx] at hf
    simp only [Bool.and_eq_true, decide_eq_true_eq] at hf
    exact hf.1
  obtain ⟨i, rfl⟩ : ∃ i, k = i + 1 := ⟨k - 1, by omega⟩
  have hi : i < L.length := by have := (List.getElem?_eq_some_iff.1 hx).1; omega
  obtain ⟨q, hq⟩ : ∃ q, L[i]? = some q := ⟨_, List.getElem?_eq_getElem hi⟩
  have hsel : selB t x.a x.l q = false := by
    unfold firstB at hf
    rw [hx] at hf
    simp only [hq, Bool.and_eq_true, Bool.not_eq_true'] at hf
    exact hf.2
  have h1 := hs.tab_le (show j ≤ i by omega) hr hq
  have h2 := hs.tab_le (Nat.le_succ i) hq hx
  have hqt : q.t = t := by omega
  have h3 := hs.get hq hx (Nat.lt_succ_self i)
  rw [ltB_iff] at h3
  have hn : ¬ (q.a = x.a ∧ q.l = x.l) := fun e => by
    rw [(selB_iff _ _ _ _).2 ⟨hqt, e.1, e.2⟩] at hsel
    cases hsel
  have h4 : r.a < q.a ∨ (r.a = q.a ∧ r.l ≤ q.l) := by
    rcases Nat.lt_or_ge j i with h | h
    · have h5 := hs.get hr hq h
      rw [ltB_iff] at h5
      unfold Lt5 at h5
      omega
    · obtain rfl : j = i := by omega
      rw [hr] at hq; cases hq; omega
  unfold Lt5 at h3
  unfold PLt
  omega

theorem act_sorted {L : List Rt} {t : Int} {U : List Bool} (hs : Srt L) : ∀ k, (actN L t U k).Pairwise PLt
  | 0 => by simp [actN]
  | k + 1 => by
    unfold actN
    refine List.pairwise_append.2 ⟨act_sorted hs k, ?_, ?_⟩
    · split
      · split
        · simp
        · rename_i r _
          cases bestO L t r.a r.l U <;> simp
      · simp
    · intro z hz y hy
      split at hy
      · rename_i hf
        cases hx : L[k]? with
        | none => rw [hx] at hy; simp at hy
        | some x =>
          rw [hx] at hy
          simp only [Option.mem_toList] at hy
          have hb : bestO L t x.a x.l U = some y := hy
          obtain ⟨h1, _⟩ := bestL_is hb
          obtain ⟨_, e2, e3⟩ := (selB_iff _ _ _ _).1 (List.mem_filter.1 h1).2
          obtain ⟨_, j, r, hj, hr, hrt, ha, hl⟩ := act_best hz
          have := first_lt hs hj hr hx hrt hf
          unfold PLt at *
          omega
      · simp at hy

theorem act_next {L : List Rt} {t : Int} {U : List Bool} (hs : Srt L) {j : Nat} {y z : Rt} (hy : (actL L t U)[j]? = some y) (hz : (actL L t U)[j + 1]? = some z) : (y.a == z.a && y.l == z.l) = false := by
  obtain ⟨hi, rfl⟩ := List.getElem?_eq_some_iff.1 hy
  obtain ⟨hk, rfl⟩ := List.getElem?_eq_some_iff.1 hz
  have := List.pairwise_iff_getElem.1 (act_sorted (t := t) (U := U) hs L.length) j (j + 1) hi hk (by omega)
  generalize hA : (actL L t U)[j] = A at *
  generalize hB : (actL L t U)[j + 1] = B at *
  have h2 : PLt A B := by rw [← hA, ← hB]; exact this
  unfold PLt at h2
  cases e : (A.a == B.a && A.l == B.l)
  · rfl
  · simp only [Bool.and_eq_true, beq_iff_eq] at e
    omega

theorem up_none (i : Int) : upB [] i = false := by simp [upB]

theorem act_none (L : List Rt) (t : Int) : actL L t [] = [] := by
  have hb : ∀ a l, bestO L t a l [] = none := fun a l => by
    cases h : bestO L t a l [] with
    | none => rfl
    | some b =>
      have := (bestL_is h).2
      rw [up_none] at this
      cases this
  have : ∀ k, actN L t [] k = [] := by
    intro k
    induction k with
    | zero => rfl
    | succ k ih =>
      unfold actN
      rw [ih]
      split
      · split
        · rfl
        · rw [hb]; rfl
      · rfl
  exact this _
end Go.Proofs.Ytbchfmadmcppkaa.Rb
