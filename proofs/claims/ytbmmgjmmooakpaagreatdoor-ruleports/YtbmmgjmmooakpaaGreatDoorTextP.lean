/- Plain facts on texts: numbers in digits, a text cut at a byte into its parts, addresses and prefixes as texts. -/
import Derived.Lib.IndexMore
import Derived.Lib.ItoaNum
import Derived.Test.YtbmmgjmmooakpaaGreatDoorPlain
namespace Go.Proofs.YtbmmgjmmooakpaaGreatDoor
open Go.RowKit
set_option linter.unusedVariables false

/-- The number that digits are. -/
def valN (l : List UInt8) : Nat := l.foldl (fun n c => 10 * n + (c.toNat - 48)) 0

/-- A byte is a digit. -/
def digB (c : UInt8) : Bool := decide (48 ≤ c.toNat) && decide (c.toNat ≤ 57)

/-- A text of digits without noughts ahead, at most so much. -/
def numB (l : List UInt8) (top : Nat) : Bool := !l.isEmpty && !(decide (1 < l.length) && l[0]? == some 48) && l.all digB && decide (valN l ≤ top)

theorem valN_snoc (l : List UInt8) (c : UInt8) : valN (l ++ [c]) = 10 * valN l + (c.toNat - 48) := by simp [valN, List.foldl_append]

theorem valN_take (l : List UInt8) (k : Nat) (h : k < l.length) : valN (l.take (k + 1)) = 10 * valN (l.take k) + (l[k].toNat - 48) := by
  rw [List.take_succ_eq_append_getElem h, valN_snoc]

theorem foldl_ge : ∀ (l : List UInt8) (n : Nat), n ≤ l.foldl (fun n c => 10 * n + (c.toNat - 48)) n
  | [], n => Nat.le_refl _
  | c :: l, n => Nat.le_trans (by omega) (foldl_ge l (10 * n + (c.toNat - 48)))

theorem valN_append_ge (a b : List UInt8) : valN a ≤ valN (a ++ b) := by
  unfold valN
  rw [List.foldl_append]
  exact foldl_ge b _

theorem valN_take_le (l : List UInt8) (k : Nat) : valN (l.take k) ≤ valN l := by
  have := valN_append_ge (l.take k) (l.drop k)
  rwa [List.take_append_drop] at this

/-- Digits that begin with one that is not 0 are at least a power of ten. -/
theorem valN_big : ∀ (r : List UInt8) (c : UInt8), 49 ≤ c.toNat → 10 ^ r.length ≤ valN (c :: r) := by
  intro r
  suffices h : ∀ (r : List UInt8) (n : Nat), 1 ≤ n → 10 ^ r.length ≤ r.foldl (fun n c => 10 * n + (c.toNat - 48)) n from fun c hc => h r _ (by show 1 ≤ 10 * 0 + (c.toNat - 48); omega)
  clear r
  suffices h : ∀ (r : List UInt8) (n k : Nat), k ≤ n → k * 10 ^ r.length ≤ r.foldl (fun n c => 10 * n + (c.toNat - 48)) n from fun r n hn => by simpa using h r n 1 hn
  intro r
  induction r with
  | nil => intro n k hk; simpa using hk
  | cons c r ih =>
    intro n k hk
    have := ih (10 * n + (c.toNat - 48)) (10 * k) (by omega)
    simp only [List.foldl_cons, List.length_cons, Nat.pow_succ]
    rw [Nat.mul_comm (10 ^ r.length) 10, ← Nat.mul_assoc, Nat.mul_comm k 10]
    exact this

theorem numB_all {l : List UInt8} {top : Nat} (h : numB l top = true) : l.all digB = true := by
  simp only [numB, Bool.and_eq_true] at h; exact h.1.2

theorem numB_le {l : List UInt8} {top : Nat} (h : numB l top = true) : valN l ≤ top := by
  simp only [numB, Bool.and_eq_true, decide_eq_true_eq] at h; exact h.2

/-- A text's parts between a byte. -/
def splitL (c : UInt8) : List UInt8 → List (List UInt8)
  | [] => [[]]
  | x :: l => if x = c then [] :: splitL c l else match splitL c l with
    | [] => [[x]]
    | p :: r => (x :: p) :: r

theorem split_none {c : UInt8} : ∀ {a : List UInt8}, c ∉ a → splitL c a = [a]
  | [], _ => rfl
  | x :: a, h => by
    have h1 : x ≠ c := fun e => h (by simp [e])
    have h2 : c ∉ a := fun e => h (by simp [e])
    rw [splitL, if_neg h1, split_none h2]

theorem split_at {c : UInt8} : ∀ {a b : List UInt8}, c ∉ a → splitL c (a ++ c :: b) = a :: splitL c b
  | [], b, _ => by simp [splitL]
  | x :: a, b, h => by
    have h1 : x ≠ c := fun e => h (by simp [e])
    have h2 : c ∉ a := fun e => h (by simp [e])
    rw [List.cons_append, splitL, if_neg h1, split_at h2]

theorem split_ne_nil (c : UInt8) (l : List UInt8) : splitL c l ≠ [] := by
  cases l with
  | nil => simp [splitL]
  | cons x l =>
    rw [splitL]
    split
    · simp
    · split <;> simp

theorem split_len (c : UInt8) (l : List UInt8) : 1 ≤ (splitL c l).length := by
  have := split_ne_nil c l
  cases h : splitL c l with
  | nil => exact absurd h this
  | cons => simp

theorem split_le (c : UInt8) : ∀ l : List UInt8, (splitL c l).length ≤ l.length + 1
  | [] => by simp [splitL]
  | x :: l => by
    have := split_le c l
    rw [splitL]
    split
    · simp; omega
    · split
      · simp
      · rename_i p r h; rw [h] at this; simp at this ⊢; omega

/-- Where a byte stands first. -/
theorem index_split (c : UInt8) : ∀ s : List UInt8, (∃ a b, s = a ++ c :: b ∧ c ∉ a ∧ Lib.index s [c] = (a.length : Int)) ∨ (c ∉ s ∧ Lib.index s [c] = -1)
  | [] => .inr ⟨by simp, by simp [Lib.index]⟩
  | x :: l => by
    by_cases hx : x = c
    · subst hx
      exact .inl ⟨[], l, rfl, by simp, by simp [Lib.index, List.isPrefixOf]⟩
    · have hp : ([c].isPrefixOf (x :: l)) = false := by simp [List.isPrefixOf]; exact fun e => hx e.symm
      rcases index_split c l with ⟨a, b, rfl, hn, hi⟩ | ⟨hn, hi⟩
      · refine .inl ⟨x :: a, b, rfl, by simp; exact ⟨fun e => hx e.symm, hn⟩, ?_⟩
        rw [Lib.index, hp, hi]
        have h1 : ((a.length : Int) == -1) = false := by rw [Bool.eq_false_iff]; intro h; rw [beq_iff_eq] at h; omega
        rw [h1]
        simp
      · refine .inr ⟨by simp; exact ⟨fun e => hx e.symm, hn⟩, ?_⟩
        rw [Lib.index, hp, hi]
        simp

theorem cut_split (c : UInt8) (s : List UInt8) : (∃ a b, s = a ++ c :: b ∧ c ∉ a ∧ Lib.cut s [c] = (a, b, true)) ∨ (c ∉ s ∧ Lib.cut s [c] = (s, [], false)) := by
  rcases index_split c s with ⟨a, b, rfl, hn, hi⟩ | ⟨hn, hi⟩
  · refine .inl ⟨a, b, rfl, hn, ?_⟩
    rw [Lib.cut, hi, if_pos (by omega)]
    simp
  · exact .inr ⟨hn, by rw [Lib.cut, hi, if_neg (by omega)]⟩

/-- Numbers, one behind the other. -/
def accP : List (List UInt8) → Nat → Option Nat
  | [], a => some a
  | p :: r, a => if numB p 255 then accP r (a * 256 + valN p) else none

/-- A text as an address. -/
def parseV (l : List UInt8) : Option Nat := if (splitL 46 l).length = 4 then accP (splitL 46 l) 0 else none

theorem accP_bd : ∀ (L : List (List UInt8)) (a r : Nat), accP L a = some r → r < (a + 1) * 256 ^ L.length
  | [], a, r, h => by simp only [accP, Option.some.injEq] at h; subst h; simp
  | p :: L, a, r, h => by
    rw [accP] at h
    split at h
    · rename_i hp
      have h1 := accP_bd L _ _ h
      have h2 := numB_le hp
      rw [List.length_cons, Nat.pow_succ, Nat.mul_comm (256 ^ _) 256, ← Nat.mul_assoc]
      exact Nat.lt_of_lt_of_le h1 (Nat.mul_le_mul_right _ (by omega))
    · cases h

theorem parseV_bd {l : List UInt8} {r : Nat} (h : parseV l = some r) : r < 4294967296 := by
  unfold parseV at h
  split at h
  · rename_i hl
    have := accP_bd _ _ _ h
    rw [hl] at this
    simpa using this
  · cases h

/-- A text as a prefix. -/
def parsePV (l : List UInt8) : Option (Nat × Nat) :=
  match splitL 47 l with
  | [t] => (parseV t).map fun a => (a, 32)
  | [t, b] => if numB b 32 then (parseV t).map fun a => (a, valN b) else none
  | _ => none

theorem digits_no {c : UInt8} (hc : digB c = false) {l : List UInt8} (h : l.all digB = true) : c ∉ l := fun hm => by
  have := List.all_eq_true.1 h c hm
  rw [hc] at this
  cases this

/-- The digits of a number are that number. -/
theorem digits_num (u : Nat) : (Lib.decDigits u).all digB = true ∧ valN (Lib.decDigits u) = u ∧ Lib.decDigits u ≠ [] ∧ (1 < (Lib.decDigits u).length → (Lib.decDigits u)[0]? ≠ some 48) ∧ (0 < u → (Lib.decDigits u)[0]? ≠ some 48) := by
  induction u using Nat.strongRecOn with
  | _ u ih =>
    rw [Lib.decDigits]
    split
    · rename_i h
      have e : (UInt8.ofNat (48 + u)).toNat = 48 + u := by simp; omega
      refine ⟨by simp only [List.all_cons, List.all_nil, Bool.and_true, digB, Bool.and_eq_true, decide_eq_true_eq, e]; omega, by simp only [valN, List.foldl_cons, List.foldl_nil, e]; omega, by simp, by simp, ?_⟩
      intro hu hk
      simp only [List.getElem?_cons_zero, Option.some.injEq] at hk
      rw [hk] at e
      simp at e
      omega
    · rename_i h
      obtain ⟨h1, h2, h3, h4, h5⟩ := ih (u / 10) (by omega)
      have e : (UInt8.ofNat (48 + u % 10)).toNat = 48 + u % 10 := by simp; omega
      have hd : digB (UInt8.ofNat (48 + u % 10)) = true := by simp only [digB, e, Bool.and_eq_true, decide_eq_true_eq]; omega
      have h0 : (Lib.decDigits (u / 10) ++ [UInt8.ofNat (48 + u % 10)])[0]? = (Lib.decDigits (u / 10))[0]? := by
        rw [List.getElem?_append_left (by cases hh : Lib.decDigits (u / 10) with | nil => exact absurd hh h3 | cons => simp)]
      refine ⟨by rw [List.all_append, h1, Bool.true_and, List.all_cons, hd]; rfl, ?_, by simp, ?_, ?_⟩
      · rw [valN_snoc, h2, e]; omega
      · intro _; rw [h0]; exact h5 (by omega)
      · intro _; rw [h0]; exact h5 (by omega)

theorem numB_digits (u top : Nat) (h : u ≤ top) : numB (Lib.decDigits u) top = true := by
  obtain ⟨h1, h2, h3, h4, _⟩ := digits_num u
  simp only [numB, Bool.and_eq_true, Bool.not_eq_true', h1, h2, decide_eq_true h, and_true]
  refine ⟨by simpa using h3, ?_⟩
  by_cases hl : 1 < (Lib.decDigits u).length
  · have := h4 hl
    simp [hl]
    simpa using this
  · simp [hl]
end Go.Proofs.YtbmmgjmmooakpaaGreatDoor
