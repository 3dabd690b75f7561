/- Plain: flags as letters, stripped one by one. -/
import Derived.Test.YtbmmgjmmooakpaaGreatDoorRuP4
namespace Go.Proofs.YtbmmgjmmooakpaaGreatDoor.Ru
open Go.RowKit
set_option linter.unusedVariables false

/-- The letters, from the lowest bit on. -/
def lc (k : Nat) : UInt8 := [70, 83, 82, 80, 65, 85][k]?.getD 0

/-- One letter is taken off, if it stands ahead. -/
def st (k : Nat) (x : List UInt8 × Nat) : List UInt8 × Nat := if Lib.hasPrefix x.1 [lc k] = true then (x.1.tail, x.2 + 2 ^ k) else x

/-- The letters from 0 on, k of them. -/
def sts (s : List UInt8) : Nat → List UInt8 × Nat
  | 0 => (s, 0)
  | k + 1 => st k (sts s k)

theorem st_sound (k : Nat) (x : List UInt8 × Nat) : ∃ b : Bool, x.1 = (if b = true then [lc k] else []) ++ (st k x).1 ∧ (st k x).2 = x.2 + (if b = true then 2 ^ k else 0) := by
  unfold st
  by_cases h : Lib.hasPrefix x.1 [lc k] = true
  · rw [if_pos h]
    refine ⟨true, ?_, rfl⟩
    cases hx : x.1 with
    | nil => rw [hx] at h; cases h
    | cons d m =>
      rw [hx] at h
      have : lc k = d := by simpa [Lib.hasPrefix] using h
      simp [this]
  · rw [if_neg h]
    exact ⟨false, by simp, by simp⟩

theorem sts_lt (s : List UInt8) : ∀ k, (sts s k).2 < 2 ^ k
  | 0 => by simp [sts]
  | k + 1 => by
    have := sts_lt s k
    unfold sts st
    rw [Nat.pow_succ]
    split
    · simp only; omega
    · omega

theorem letters_all : ∀ n, n < 64 → 0 < n → sts (lettersP n) 6 = ([], n) ∧ lettersP n ≠ [45] := by decide

theorem sts_sound (s : List UInt8) (h : (sts s 6).1 = []) : (sts s 6).2 = 0 ∧ s = [] ∨ 0 < (sts s 6).2 ∧ (sts s 6).2 < 64 ∧ s = lettersP (sts s 6).2 := by
  obtain ⟨b0, e0, f0⟩ := st_sound 0 (sts s 0)
  obtain ⟨b1, e1, f1⟩ := st_sound 1 (sts s 1)
  obtain ⟨b2, e2, f2⟩ := st_sound 2 (sts s 2)
  obtain ⟨b3, e3, f3⟩ := st_sound 3 (sts s 3)
  obtain ⟨b4, e4, f4⟩ := st_sound 4 (sts s 4)
  obtain ⟨b5, e5, f5⟩ := st_sound 5 (sts s 5)
  have h6 : st 5 (sts s 5) = sts s 6 := rfl
  have h5 : st 4 (sts s 4) = sts s 5 := rfl
  have h4 : st 3 (sts s 3) = sts s 4 := rfl
  have h3 : st 2 (sts s 2) = sts s 3 := rfl
  have h2 : st 1 (sts s 1) = sts s 2 := rfl
  have h1 : st 0 (sts s 0) = sts s 1 := rfl
  have h0 : sts s 0 = (s, 0) := rfl
  rw [h6] at e5 f5
  rw [h5] at e4 f4
  rw [h4] at e3 f3
  rw [h3] at e2 f2
  rw [h2] at e1 f1
  rw [h1, h0] at e0 f0
  rw [h] at e5
  rw [e5] at e4; rw [e4] at e3; rw [e3] at e2; rw [e2] at e1; rw [e1] at e0
  rw [f4, f3, f2, f1, f0] at f5
  rw [f5]
  simp only at e0
  rw [e0]
  clear f5 f4 f3 f2 f1 f0 e0 e1 e2 e3 e4 e5 h h0 h1 h2 h3 h4 h5 h6
  cases b0 <;> cases b1 <;> cases b2 <;> cases b3 <;> cases b4 <;> cases b5 <;> decide

theorem find_letters {l : List UInt8} {n : Nat} (h : lettersOf l = some n) : n < 64 ∧ lettersP n = l := by
  unfold lettersOf at h
  have h1 := List.find?_some h
  have h2 := List.mem_of_find?_eq_some h
  exact ⟨List.mem_range.1 h2, by simpa using h1⟩

theorem lettersOf_P (n : Nat) (hn : n < 64) : lettersOf (lettersP n) = some n := by
  cases hf : lettersOf (lettersP n) with
  | none =>
    unfold lettersOf at hf
    have := List.find?_eq_none.1 hf n (List.mem_range.2 hn)
    simp at this
  | some m =>
    obtain ⟨hm, he⟩ := find_letters hf
    congr 1
    by_cases h0 : n = 0
    · subst h0
      by_cases h1 : m = 0
      · exact h1
      · exact absurd he (letters_all m hm (by omega)).2
    · by_cases h1 : m = 0
      · subst h1; exact absurd he.symm (letters_all n hn (by omega)).2
      · have h2 := (letters_all m hm (by omega)).1
        rw [he, (letters_all n hn (by omega)).1] at h2
        exact (Prod.mk.inj h2).2.symm

/-- What is stripped tells the flags. -/
theorem letters_strip (s : List UInt8) (hs : s ≠ [45]) :
    (decide (s ≠ []) && decide ((sts s 6).1 = [])) = (lettersOf s).isSome ∧ ((lettersOf s).isSome = true → lettersOf s = some (sts s 6).2) := by
  by_cases h1 : (sts s 6).1 = []
  · rw [decide_eq_true h1, Bool.and_true]
    rcases sts_sound s h1 with ⟨_, rfl⟩ | ⟨h2, h3, h4⟩
    · have : lettersOf [] = none := by decide
      rw [this]; simp
    · have h5 := lettersOf_P _ h3
      rw [← h4] at h5
      rw [h5]
      have : s ≠ [] := by
        intro e; subst e
        have : lettersOf [] = none := by decide
        rw [this] at h5; cases h5
      simp [this]
  · rw [decide_eq_false h1, Bool.and_false]
    cases hf : lettersOf s with
    | none => simp
    | some n =>
      exfalso
      obtain ⟨hn, he⟩ := find_letters hf
      have h0 : n ≠ 0 := by rintro rfl; exact hs he.symm
      have := (letters_all n hn (by omega)).1
      rw [he] at this
      exact h1 (by rw [this])

theorem letter_at : ∀ k, k < 6 → (⟨#[70, 83, 82, 80, 65, 85]⟩ : ByteArray).extract k (k + 1) = txt [lc k] := by decide
end Go.Proofs.YtbmmgjmmooakpaaGreatDoor.Ru
