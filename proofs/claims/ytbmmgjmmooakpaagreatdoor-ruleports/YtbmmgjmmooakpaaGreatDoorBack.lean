/- What is printed is read as it was: addresses and prefixes as texts, plainly. -/
import Derived.Test.YtbmmgjmmooakpaaGreatDoorAddrT
import Derived.Test.YtbmmgjmmooakpaaGreatDoorParseX
namespace Go.Proofs.YtbmmgjmmooakpaaGreatDoor
open Go.RowKit
set_option linter.unusedVariables false

theorem printB_list (a : Int) : (printB a).data.toList = Lib.decDigits (a / 16777216 % 256).toNat ++ 46 :: (Lib.decDigits (a / 65536 % 256).toNat ++ 46 :: (Lib.decDigits (a / 256 % 256).toNat ++ 46 :: Lib.decDigits (a % 256).toNat)) := by
  unfold printB decB
  simp [ByteArray.data_append]

theorem no_dot (u : Nat) : (46 : UInt8) ∉ Lib.decDigits u := digits_no (by decide) (digits_num u).1

theorem no_slash (u : Nat) : (47 : UInt8) ∉ Lib.decDigits u := digits_no (by decide) (digits_num u).1

theorem parse_print (a : Int) (a0 : 0 ≤ a) (a1 : a ≤ 4294967295) : parseV (printB a).data.toList = some a.toNat := by
  unfold parseV
  rw [printB_list, split_at (no_dot _), split_at (no_dot _), split_at (no_dot _), split_none (no_dot _)]
  refine (if_pos rfl).trans ?_
  simp only [accP, numB_digits _ 255 (show (a / 16777216 % 256).toNat ≤ 255 by omega), numB_digits _ 255 (show (a / 65536 % 256).toNat ≤ 255 by omega), numB_digits _ 255 (show (a / 256 % 256).toNat ≤ 255 by omega), numB_digits _ 255 (show (a % 256).toNat ≤ 255 by omega), if_true, (digits_num _).2.1]
  congr 1
  omega

theorem printB_slash (a : Int) : (47 : UInt8) ∉ (printB a).data.toList := by
  rw [printB_list]
  simp only [List.mem_append, List.mem_cons, not_or]
  exact ⟨no_slash _, by decide, no_slash _, by decide, no_slash _, by decide, no_slash _⟩

theorem parse_printP (a n : Int) (a0 : 0 ≤ a) (a1 : a ≤ 4294967295) (n0 : 0 ≤ n) (n1 : n ≤ 32) : parsePV (printPB a n).data.toList = some (a.toNat, n.toNat) := by
  have e : (printPB a n).data.toList = (printB a).data.toList ++ 47 :: Lib.decDigits n.toNat := by
    unfold printPB
    rw [if_neg (by omega)]
    unfold decB
    simp [ByteArray.data_append]
  rw [parsePV_two e (printB_slash a), numB_digits _ 32 (by omega), parse_print a a0 a1, (digits_num _).2.1]
  rfl

theorem i64_and31 (n : Int) : bits .and .i64 n 31 = n % 32 := by
  have h1 : (BitVec.ofInt 64 31).toNat = 2 ^ 5 - 1 := by decide
  have key : (BitVec.ofInt 64 n &&& BitVec.ofInt 64 31).toNat = (n % ((2 ^ 64 : Nat) : Int)).toNat % 2 ^ 5 := by
    rw [BitVec.toNat_and, BitVec.toNat_ofInt, h1, Nat.and_two_pow_sub_one_eq_mod]
  show IntKind.i64.wrap ((BitVec.ofInt 64 n &&& BitVec.ofInt 64 31).toNat : Nat) = n % 32
  rw [key, IntKind.wrap_i64]
  omega

theorem printPB_size (a n : Int) (n1 : n ≤ 32) : (printPB a n).size ≤ 1000000 := by
  unfold printPB
  split
  · decide
  · have h1 := printB_size a
    have h2 := decB_size n (by omega)
    have h3 : (ByteArray.mk #[47]).size = 1 := by decide
    rw [ByteArray.size_append, ByteArray.size_append]
    omega
end Go.Proofs.YtbmmgjmmooakpaaGreatDoor
