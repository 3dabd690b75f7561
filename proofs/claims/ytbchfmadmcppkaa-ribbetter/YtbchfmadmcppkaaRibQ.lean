/- Ways, plainly: the best one, and of each prefix. -/
import Derived.Test.YtbchfmadmcppkaaRibP
namespace Go.Proofs.Ytbchfmadmcppkaa.Rb
open Go.Proofs.Ytbchfmadmcppkaa
set_option linter.unusedVariables false
set_option linter.unusedSimpArgs false

/-- Whether an interface is up. -/
def upB (U : List Bool) (i : Int) : Bool := decide (0 ≤ i) && (U[i.toNat]?.getD false)

def okB (acc : Option Rt) (r : Rt) : Bool := match acc with
  | none => true
  | some b => betB r b

def stepB (U : List Bool) (acc : Option Rt) (r : Rt) : Option Rt := if (upB U r.i && okB acc r) = true then some r else acc

def bestL (U : List Bool) (R : List Rt) : Option Rt := R.foldl (stepB U) none

/-- Of this table and prefix. -/
def selB (t a l : Int) (r : Rt) : Bool := decide (r.t = t) && (decide (r.a = a) && decide (r.l = l))

def bestO (L : List Rt) (t a l : Int) (U : List Bool) : Option Rt := bestL U (L.filter (selB t a l))

def zeroR : Rt := ⟨0, 0, 0, 0, 0, 0⟩

def theR (o : Option Rt) : Rt := o.getD zeroR

theorem bestL_snoc (U : List Bool) (R : List Rt) (x : Rt) : bestL U (R ++ [x]) = stepB U (bestL U R) x := by
  unfold bestL
  rw [List.foldl_append]
  rfl

theorem bestL_take {U : List Bool} {R : List Rt} {k : Nat} {x : Rt} (h : R[k]? = some x) : bestL U (R.take (k + 1)) = stepB U (bestL U (R.take k)) x := by
  rw [← bestL_snoc]
  congr 1
  have hk := (List.getElem?_eq_some_iff.1 h).1
  rw [List.take_succ_eq_append_getElem hk, (List.getElem?_eq_some_iff.1 h).2]

/-- The document's round: all ways are looked at. -/
theorem bestO_take {U : List Bool} {L : List Rt} {k : Nat} {x : Rt} {t a l : Int} (h : L[k]? = some x) : bestO (L.take (k + 1)) t a l U = if selB t a l x = true then stepB U (bestO (L.take k) t a l U) x else bestO (L.take k) t a l U := by
  have hk := (List.getElem?_eq_some_iff.1 h).1
  unfold bestO
  rw [List.take_succ_eq_append_getElem hk, (List.getElem?_eq_some_iff.1 h).2, List.filter_append]
  by_cases hs : selB t a l x = true
  · rw [if_pos hs, List.filter_cons_of_pos hs, List.filter_nil, bestL_snoc]
  · rw [if_neg hs, List.filter_cons_of_neg hs, List.filter_nil, List.append_nil]

/-- What the best one is. -/
theorem bestL_mem {U : List Bool} : ∀ {R : List Rt} {o : Option Rt} {b : Rt}, R.foldl (stepB U) o = some b → o = some b ∨ (b ∈ R ∧ upB U b.i = true)
  | [], o, b, h => .inl h
  | x :: R, o, b, h => by
    rcases bestL_mem (R := R) h with h | h
    · unfold stepB at h
      split at h
      · rename_i hu
        simp only [Bool.and_eq_true] at hu
        cases h
        exact .inr ⟨by simp, hu.1⟩
      · exact .inl h
    · exact .inr ⟨by simp [h.1], h.2⟩

theorem bestL_is {U : List Bool} {R : List Rt} {b : Rt} (h : bestL U R = some b) : b ∈ R ∧ upB U b.i = true := by
  rcases bestL_mem h with h | h
  · cases h
  · exact h

theorem betB_asymm {x y : Rt} (h : betB x y = true) : betB y x = false := by
  rw [betB_iff] at h
  rw [betB_not]
  unfold Lt3 at *
  omega

theorem betB_irrefl (x : Rt) : betB x x = false := by
  rw [betB_not]
  unfold Lt3
  omega

theorem betB_trans {x y z : Rt} (h : betB x y = true) (k : betB y z = true) : betB x z = true := by
  rw [betB_iff] at *
  unfold Lt3 at *
  omega

theorem betB_not_trans {x y z : Rt} (h : betB x y = false) (k : betB y z = false) : betB x z = false := by
  rw [betB_not] at *
  unfold Lt3 at *
  omega

/-- None is better. -/
theorem bestL_no (U : List Bool) : ∀ (R : List Rt) (o : Option Rt), (∀ x ∈ R, upB U x.i = true → ∃ b, R.foldl (stepB U) o = some b ∧ betB x b = false) ∧ (∀ y, o = some y → ∃ b, R.foldl (stepB U) o = some b ∧ betB y b = false)
  | [], o => ⟨by simp, fun y hy => ⟨y, hy, betB_irrefl y⟩⟩
  | x :: R, o => by
    obtain ⟨ih1, ih2⟩ := bestL_no U R (stepB U o x)
    rw [List.foldl_cons]
    have hx : upB U x.i = true → ∃ b, stepB U o x = some b ∧ betB x b = false := fun hu => by
      unfold stepB
      rw [hu, Bool.true_and]
      cases o with
      | none => exact ⟨x, rfl, betB_irrefl x⟩
      | some y =>
        by_cases hb : betB x y = true
        · exact ⟨x, by simp [okB, hb], betB_irrefl x⟩
        · exact ⟨y, by simp [okB, hb], by simpa using hb⟩
    have hy : ∀ y, o = some y → ∃ b, stepB U o x = some b ∧ betB y b = false := fun y e => by
      subst e
      unfold stepB
      by_cases hu : upB U x.i = true
      · by_cases hb : betB x y = true
        · exact ⟨x, by simp [okB, hu, hb], betB_asymm hb⟩
        · exact ⟨y, by simp [okB, hb], betB_irrefl y⟩
      · exact ⟨y, by simp [hu], betB_irrefl y⟩
    constructor
    · intro z hz hu
      rcases List.mem_cons.1 hz with rfl | hz
      · obtain ⟨b, hb, h1⟩ := hx hu
        obtain ⟨b', hb', h2⟩ := ih2 b hb
        exact ⟨b', hb', betB_not_trans h1 h2⟩
      · exact ih1 z hz hu
    · intro y e
      obtain ⟨b, hb, h1⟩ := hy y e
      obtain ⟨b', hb', h2⟩ := ih2 b hb
      exact ⟨b', hb', betB_not_trans h1 h2⟩

theorem bestL_best {U : List Bool} {R : List Rt} {x : Rt} (hx : x ∈ R) (hu : upB U x.i = true) : ∃ b, bestL U R = some b ∧ betB x b = false := (bestL_no U R none).1 x hx hu

/-- Whether the way at a place is the first of its prefix, of this table. -/
def firstB (L : List Rt) (t : Int) (k : Nat) : Bool := match L[k]? with
  | none => false
  | some r => decide (r.t = t) && !(match k with
    | 0 => false
    | j + 1 => match L[j]? with
      | none => false
      | some q => selB t r.a r.l q)

/-- What is active of the first k. -/
def actN (L : List Rt) (t : Int) (U : List Bool) : Nat → List Rt
  | 0 => []
  | k + 1 => actN L t U k ++ (if firstB L t k = true then match L[k]? with
    | none => []
    | some r => (bestO L t r.a r.l U).toList
    else [])

def actL (L : List Rt) (t : Int) (U : List Bool) : List Rt := actN L t U L.length
end Go.Proofs.Ytbchfmadmcppkaa.Rb
