/- Plain facts on checksums: what is above 16 bits is added again; the sum of bytes, two by two. -/
import Derived.Test.YticdbkdcnahgfaaPlain
namespace Go.Proofs.Yticdbkdcnahgfaa
open Go.RowKit
set_option linter.unusedVariables false

theorem i64_and16 (n : Int) : bits .and .i64 n 65535 = n % 65536 := by
  have h1 : (BitVec.ofInt 64 65535).toNat = 2 ^ 16 - 1 := by decide
  have key : (BitVec.ofInt 64 n &&& BitVec.ofInt 64 65535).toNat = (n % ((2 ^ 64 : Nat) : Int)).toNat % 2 ^ 16 := by
    rw [BitVec.toNat_and, BitVec.toNat_ofInt, h1, Nat.and_two_pow_sub_one_eq_mod]
  show IntKind.i64.wrap ((BitVec.ofInt 64 n &&& BitVec.ofInt 64 65535).toNat : Nat) = n % 65536
  rw [key, IntKind.wrap_i64]
  omega

theorem u64_and16 (n : Int) (h0 : 0 ≤ n) (h1 : n < 18446744073709551616) : bits .and .u64 n 65535 = n % 65536 := by
  rw [u64_and n 65535 h0 h1 (by omega) (by omega)]
  have e : (65535 : Int).toNat = 2 ^ 16 - 1 := by decide
  rw [e, Nat.and_two_pow_sub_one_eq_mod]
  omega

theorem xor16_nat (a : Nat) (h : a < 65536) : a ^^^ 65535 = 65535 - a := by
  have h1 : (BitVec.ofNat 16 a).toNat = a := by simp; omega
  have h2 : (~~~ (BitVec.ofNat 16 a)).toNat = 65535 - a := by rw [BitVec.toNat_not, h1]
  have h3 : ~~~ (BitVec.ofNat 16 a) = BitVec.ofNat 16 a ^^^ BitVec.allOnes 16 := BitVec.xor_allOnes.symm
  rw [h3, BitVec.toNat_xor, h1] at h2
  simpa using h2

theorem i64_xor16 (n : Int) (h0 : 0 ≤ n) (h1 : n ≤ 65535) : bits .xor .i64 n 65535 = 65535 - n := by
  obtain ⟨a, rfl⟩ := Int.eq_ofNat_of_zero_le h0
  have ha : a < 65536 := by omega
  have e1 : (BitVec.ofInt 64 (a : Int)).toNat = a := by simp [BitVec.ofInt_natCast]; omega
  have e2 : (BitVec.ofInt 64 65535).toNat = 65535 := by decide
  show IntKind.i64.wrap ((BitVec.ofInt 64 (a : Int) ^^^ BitVec.ofInt 64 65535).toNat : Nat) = 65535 - (a : Int)
  rw [BitVec.toNat_xor, e1, e2, xor16_nat a ha, IntKind.wrap_i64]
  omega

/-- What is above 16 bits is added again, until there is none. -/
def foldV (n : Int) : Int := if n = 0 then 0 else (n - 1) % 65535 + 1

theorem foldV_small {n : Int} (h0 : 0 ≤ n) (h1 : n ≤ 65535) : foldV n = n := by unfold foldV; split <;> omega
theorem foldV_step {n : Int} (h : 65535 < n) : foldV (n / 65536 + n % 65536) = foldV n := by
  unfold foldV
  rw [if_neg (by omega), if_neg (by omega)]
  omega
theorem foldV_bd {n : Int} (h : 0 ≤ n) : 0 ≤ foldV n ∧ foldV n ≤ 65535 := by unfold foldV; split <;> omega
theorem foldV_add {a b : Int} (ha : 0 ≤ a) (hb : 0 ≤ b) : foldV (foldV a + b) = foldV (a + b) := by
  unfold foldV
  by_cases h : a = 0
  · subst h; simp
  · rw [if_neg h, if_neg (by omega), if_neg (by omega)]
    omega
theorem foldV_zero {n : Int} (h : 0 ≤ n) : foldV n = 0 ↔ n = 0 := by unfold foldV; split <;> omega

/-- Upper or lower, n places on. -/
def par (u : Bool) (n : Nat) : Bool := if n % 2 = 0 then u else !u

theorem par_zero (u : Bool) : par u 0 = u := rfl
theorem par_succ (u : Bool) (n : Nat) : par u (n + 1) = !(par u n) := by
  unfold par
  rcases Nat.mod_two_eq_zero_or_one n with h | h
  · have h2 : (n + 1) % 2 = 1 := by omega
    simp [h, h2]
  · have h2 : (n + 1) % 2 = 0 := by omega
    simp [h, h2]
theorem par_add (u : Bool) (m n : Nat) : par u (m + n) = par (par u m) n := by
  induction n with
  | zero => rfl
  | succ n ih => rw [← Nat.add_assoc, par_succ, par_succ, ih]
theorem par_even (u : Bool) {n : Nat} (h : n % 2 = 0) : par u n = u := by unfold par; rw [if_pos h]

/-- Bytes as numbers of two bytes, the highest first, added. -/
def sumB : Bool → List Int → Int
  | _, [] => 0
  | true, x :: r => x * 256 + sumB false r
  | false, x :: r => x + sumB true r

theorem sumB_append (u : Bool) (xs ys : List Int) : sumB u (xs ++ ys) = sumB u xs + sumB (par u xs.length) ys := by
  induction xs generalizing u with
  | nil => simp [sumB, par]
  | cons x r ih =>
    rw [List.length_cons, Nat.add_comm, par_add]
    cases u with
    | true =>
      have e : par true 1 = false := rfl
      simp only [List.cons_append, sumB, ih, e]; omega
    | false =>
      have e : par false 1 = true := rfl
      simp only [List.cons_append, sumB, ih, e]; omega

theorem sumB_bd {xs : List Int} (h : BytesOk xs) (u : Bool) : 0 ≤ sumB u xs ∧ sumB u xs ≤ 65280 * xs.length := by
  induction xs generalizing u with
  | nil => simp [sumB]
  | cons x r ih =>
    have hx := h x (by simp)
    have hr := ih (fun y hy => h y (by simp [hy]))
    cases u with
    | true => have := hr false; simp only [sumB, List.length_cons]; omega
    | false => have := hr true; simp only [sumB, List.length_cons]; omega

/-- One byte more. -/
theorem sumB_snoc (u : Bool) (xs : List Int) (x : Int) : sumB u (xs ++ [x]) = sumB u xs + if par u xs.length = true then x * 256 else x := by
  rw [sumB_append]
  cases h : par u xs.length <;> simp [sumB]

theorem take_snoc (xs : List Int) {k : Nat} (h : k < xs.length) : xs.take (k + 1) = xs.take k ++ [xs[k]?.getD 0] := by
  rw [List.take_add_one, List.getElem?_eq_getElem h]; simp

/-- Two bytes more, the lower one maybe past the end. -/
theorem sumB_two (xs : List Int) {k : Nat} (h : 2 * k < xs.length) : sumB true (xs.take (2 * (k + 1))) = sumB true (xs.take (2 * k)) + get16V xs ((2 * k : Nat) : Int) := by
  have e1 : byteV xs ((2 * k : Nat) : Int) = xs[2 * k]?.getD 0 := byteV_nat xs (2 * k)
  have e2 : byteV xs (((2 * k : Nat) : Int) + 1) = xs[2 * k + 1]?.getD 0 := by
    rw [show ((2 * k : Nat) : Int) + 1 = ((2 * k + 1 : Nat) : Int) by omega]; exact byteV_nat xs (2 * k + 1)
  unfold get16V
  rw [e1, e2, show 2 * (k + 1) = 2 * k + 1 + 1 by omega]
  have l0 : (xs.take (2 * k)).length = 2 * k := by simp; omega
  by_cases h2 : 2 * k + 1 < xs.length
  · have l1 : (xs.take (2 * k + 1)).length = 2 * k + 1 := by simp; omega
    rw [take_snoc xs h2, sumB_snoc, l1, take_snoc xs h, sumB_snoc, l0]
    rw [if_pos (by rw [par_even _ (by omega)]), if_neg (by rw [par_succ, par_even _ (by omega)]; decide)]
    omega
  · have e3 : xs.take (2 * k + 1 + 1) = xs.take (2 * k + 1) := by
      rw [List.take_of_length_le (by omega), List.take_of_length_le (by omega)]
    rw [List.getElem?_eq_none (show xs.length ≤ 2 * k + 1 by omega), e3]
    rw [take_snoc xs h, sumB_snoc, l0, if_pos (by rw [par_even _ (by omega)])]
    simp

/-- A checksum (P2.1). -/
def ofV (xs : List Int) : Int := 65535 - foldV (sumB true xs)

theorem ofV_bd {xs : List Int} (h : BytesOk xs) : 0 ≤ ofV xs ∧ ofV xs ≤ 65535 := by
  have := foldV_bd (sumB_bd h true).1
  unfold ofV; omega

/-- A checksum behind a change (P2.2). -/
def updV (s was now : Int) : Int := 65535 - foldV (65535 - s % 65536 + (65535 - was % 65536) + now % 65536)

theorem updV_bd (s was now : Int) : 0 ≤ updV s was now ∧ updV s was now ≤ 65535 := by
  have := foldV_bd (n := 65535 - s % 65536 + (65535 - was % 65536) + now % 65536) (by omega)
  unfold updV; omega

end Go.Proofs.Yticdbkdcnahgfaa
