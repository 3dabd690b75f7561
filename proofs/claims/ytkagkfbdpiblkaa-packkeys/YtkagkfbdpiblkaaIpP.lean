/- Plain facts on packets (chapter 4): what their bytes say, which error they have. -/
import Derived.Test.YtkagkfbdpiblkaaSumP
namespace Go.Proofs.Ytkagkfbdpiblkaa
open Go.RowKit
set_option linter.unusedVariables false

/-- A packet. -/
structure IPv where
  tos : Int
  id : Int
  df : Bool
  mf : Bool
  off : Int
  ttl : Int
  proto : Int
  src : Int
  dst : Int
  opts : List Int
  data : List Int

/-- How many bytes the header has, by byte 0 alone. -/
def headV (xs : List Int) : Int := byteV xs 0 % 16 * 4

theorem headV_bd {xs : List Int} (h : BytesOk xs) : 0 ≤ headV xs ∧ headV xs ≤ 60 ∧ headV xs % 4 = 0 := by
  have := h.byteV 0
  unfold headV; omega

/-- Which error bytes have (0: none). -/
def lookV (xs : List Int) : Int :=
  if xs.length < 20 then 3
  else if byteV xs 0 / 16 ≠ 4 then 2
  else if headV xs < 20 then 2
  else if (xs.length : Int) < headV xs then 3
  else if ofV (xs.take (headV xs).toNat) ≠ 0 then 4
  else if get16V xs 2 < headV xs then 2
  else if 128 ≤ byteV xs 6 then 2
  else if (xs.length : Int) < get16V xs 2 then 3
  else 0

/-- The packet of bytes that have no error. -/
def parseV (xs : List Int) : IPv :=
  { tos := byteV xs 1, id := get16V xs 4, df := decide (get16V xs 6 / 16384 % 2 = 1), mf := decide (get16V xs 6 / 8192 % 2 = 1), off := get16V xs 6 % 8192,
    ttl := byteV xs 8, proto := byteV xs 9, src := accV xs 12 4, dst := accV xs 16 4,
    opts := (xs.take (headV xs).toNat).drop 20, data := (xs.take (get16V xs 2).toNat).drop (headV xs).toNat }

def zeroIP : IPv := ⟨0, 0, false, false, 0, 0, 0, 0, 0, [], []⟩

/-- What Parse answers. -/
def packV (xs : List Int) : IPv := if lookV xs = 0 then parseV xs else zeroIP

/-- Field by field. -/
def sameV (p q : IPv) : Bool :=
  p.tos == q.tos && p.id == q.id && p.df == q.df && p.mf == q.mf && p.off == q.off && p.ttl == q.ttl && p.proto == q.proto && p.src == q.src && p.dst == q.dst &&
    ((strOfNums p.opts).toList == (strOfNums q.opts).toList && (strOfNums p.data).toList == (strOfNums q.data).toList)

theorem sameV_self (p : IPv) : sameV p p = true := by simp [sameV]

/-- What bytes without an error are. -/
structure Looks (xs : List Int) : Prop where
  len : 20 ≤ xs.length
  ver : byteV xs 0 / 16 = 4
  head : 20 ≤ headV xs
  room : headV xs ≤ xs.length
  right : ofV (xs.take (headV xs).toNat) = 0
  all : headV xs ≤ get16V xs 2
  bit : byteV xs 6 < 128
  whole : get16V xs 2 ≤ xs.length

theorem looks_iff (xs : List Int) : lookV xs = 0 ↔ Looks xs := by
  unfold lookV
  constructor
  · intro h
    by_cases h1 : xs.length < 20
    · rw [if_pos h1] at h; omega
    rw [if_neg h1] at h
    by_cases h2 : byteV xs 0 / 16 ≠ 4
    · rw [if_pos h2] at h; omega
    rw [if_neg h2] at h
    by_cases h3 : headV xs < 20
    · rw [if_pos h3] at h; omega
    rw [if_neg h3] at h
    by_cases h4 : (xs.length : Int) < headV xs
    · rw [if_pos h4] at h; omega
    rw [if_neg h4] at h
    by_cases h5 : ofV (xs.take (headV xs).toNat) ≠ 0
    · rw [if_pos h5] at h; omega
    rw [if_neg h5] at h
    by_cases h6 : get16V xs 2 < headV xs
    · rw [if_pos h6] at h; omega
    rw [if_neg h6] at h
    by_cases h7 : 128 ≤ byteV xs 6
    · rw [if_pos h7] at h; omega
    rw [if_neg h7] at h
    by_cases h8 : (xs.length : Int) < get16V xs 2
    · rw [if_pos h8] at h; omega
    exact ⟨by omega, by omega, by omega, by omega, by omega, by omega, by omega, by omega⟩
  · intro h
    have := h.len; have := h.ver; have := h.head; have := h.room; have := h.right; have := h.all; have := h.bit; have := h.whole
    rw [if_neg (by omega), if_neg (by omega), if_neg (by omega), if_neg (by omega), if_neg (by omega), if_neg (by omega), if_neg (by omega), if_neg (by omega)]

/-- The ways bytes may be looked at. -/
theorem look_cases (xs : List Int) :
    (xs.length < 20 ∧ lookV xs = 3) ∨ (20 ≤ xs.length ∧ byteV xs 0 / 16 ≠ 4 ∧ lookV xs = 2) ∨ (20 ≤ xs.length ∧ byteV xs 0 / 16 = 4 ∧ headV xs < 20 ∧ lookV xs = 2) ∨
    (20 ≤ xs.length ∧ byteV xs 0 / 16 = 4 ∧ 20 ≤ headV xs ∧ (xs.length : Int) < headV xs ∧ lookV xs = 3) ∨
    (20 ≤ xs.length ∧ byteV xs 0 / 16 = 4 ∧ 20 ≤ headV xs ∧ headV xs ≤ xs.length ∧ ofV (xs.take (headV xs).toNat) ≠ 0 ∧ lookV xs = 4) ∨
    (20 ≤ xs.length ∧ byteV xs 0 / 16 = 4 ∧ 20 ≤ headV xs ∧ headV xs ≤ xs.length ∧ ofV (xs.take (headV xs).toNat) = 0 ∧ get16V xs 2 < headV xs ∧ lookV xs = 2) ∨
    (20 ≤ xs.length ∧ byteV xs 0 / 16 = 4 ∧ 20 ≤ headV xs ∧ headV xs ≤ xs.length ∧ ofV (xs.take (headV xs).toNat) = 0 ∧ headV xs ≤ get16V xs 2 ∧ 128 ≤ byteV xs 6 ∧ lookV xs = 2) ∨
    (20 ≤ xs.length ∧ byteV xs 0 / 16 = 4 ∧ 20 ≤ headV xs ∧ headV xs ≤ xs.length ∧ ofV (xs.take (headV xs).toNat) = 0 ∧ headV xs ≤ get16V xs 2 ∧ byteV xs 6 < 128 ∧ (xs.length : Int) < get16V xs 2 ∧ lookV xs = 3) ∨
    (20 ≤ xs.length ∧ byteV xs 0 / 16 = 4 ∧ 20 ≤ headV xs ∧ headV xs ≤ xs.length ∧ ofV (xs.take (headV xs).toNat) = 0 ∧ headV xs ≤ get16V xs 2 ∧ byteV xs 6 < 128 ∧ get16V xs 2 ≤ xs.length ∧ lookV xs = 0) := by
  unfold lookV
  by_cases h1 : xs.length < 20
  · rw [if_pos h1]; exact .inl ⟨h1, rfl⟩
  rw [if_neg h1]; refine .inr ?_
  by_cases h2 : byteV xs 0 / 16 ≠ 4
  · rw [if_pos h2]; exact .inl ⟨by omega, h2, rfl⟩
  rw [if_neg h2]; refine .inr ?_
  by_cases h3 : headV xs < 20
  · rw [if_pos h3]; exact .inl ⟨by omega, by omega, h3, rfl⟩
  rw [if_neg h3]; refine .inr ?_
  by_cases h4 : (xs.length : Int) < headV xs
  · rw [if_pos h4]; exact .inl ⟨by omega, by omega, by omega, h4, rfl⟩
  rw [if_neg h4]; refine .inr ?_
  by_cases h5 : ofV (xs.take (headV xs).toNat) ≠ 0
  · rw [if_pos h5]; exact .inl ⟨by omega, by omega, by omega, by omega, h5, rfl⟩
  rw [if_neg h5]; refine .inr ?_
  by_cases h6 : get16V xs 2 < headV xs
  · rw [if_pos h6]; exact .inl ⟨by omega, by omega, by omega, by omega, by omega, h6, rfl⟩
  rw [if_neg h6]; refine .inr ?_
  by_cases h7 : 128 ≤ byteV xs 6
  · rw [if_pos h7]; exact .inl ⟨by omega, by omega, by omega, by omega, by omega, by omega, h7, rfl⟩
  rw [if_neg h7]; refine .inr ?_
  by_cases h8 : (xs.length : Int) < get16V xs 2
  · rw [if_pos h8]; exact .inl ⟨by omega, by omega, by omega, by omega, by omega, by omega, by omega, h8, rfl⟩
  rw [if_neg h8]
  exact .inr ⟨by omega, by omega, by omega, by omega, by omega, by omega, by omega, by omega, rfl⟩

theorem i64_bit (k : Nat) (hk : k < 62) (n : Int) (h0 : 0 ≤ n) (h1 : n ≤ 65535) : (bits .and .i64 n (2 ^ k) = 0) ↔ n / 2 ^ k % 2 = 0 := by
  obtain ⟨a, rfl⟩ := Int.eq_ofNat_of_zero_le h0
  have hp : (2 : Nat) ^ k < 2 ^ 62 := Nat.pow_lt_pow_right (by omega) hk
  have e := (bits_nat .i64 63 (by decide) wraps_i64 a (2 ^ k) (by omega) (by omega)).1
  have e2 : ((2 : Int) ^ k) = ((2 ^ k : Nat) : Int) := by simp
  rw [e2, e]
  have e3 : a &&& 2 ^ k = a / 2 ^ k % 2 * 2 ^ k := by
    apply Nat.eq_of_testBit_eq
    intro i
    rw [Nat.testBit_and, Nat.testBit_two_pow]
    have e4 : (a / 2 ^ k % 2 * 2 ^ k).testBit i = (decide (k ≤ i) && (a / 2 ^ k % 2).testBit (i - k)) := by
      rw [Nat.mul_comm, Nat.testBit_two_pow_mul]
    rw [e4]
    by_cases hki : k = i
    · subst hki
      simp [Nat.testBit_eq_decide_div_mod_eq]
    · by_cases hle : k ≤ i
      · have : (a / 2 ^ k % 2).testBit (i - k) = false := Nat.testBit_lt_two_pow (Nat.lt_of_lt_of_le (Nat.mod_lt _ (by omega)) (by
          calc 2 = 2 ^ 1 := rfl
            _ ≤ 2 ^ (i - k) := Nat.pow_le_pow_right (by omega) (by omega)))
        simp [hki, this]
      · simp [hki, hle]
  rw [e3]
  have hpos : 0 < 2 ^ k := Nat.two_pow_pos k
  constructor
  · intro h
    have h' : a / 2 ^ k % 2 * 2 ^ k = 0 := by exact_mod_cast h
    rcases Nat.mul_eq_zero.1 h' with h1 | h1
    · exact_mod_cast h1
    · omega
  · intro h
    have h' : a / 2 ^ k % 2 = 0 := by exact_mod_cast h
    rw [h']; simp

theorem i64_and13 (n : Int) (h0 : 0 ≤ n) (h1 : n ≤ 65535) : bits .and .i64 n 8191 = n % 8192 := by
  obtain ⟨a, rfl⟩ := Int.eq_ofNat_of_zero_le h0
  have e := (bits_nat .i64 63 (by decide) wraps_i64 a 8191 (by omega) (by omega)).1
  have e2 : a &&& 8191 = a % 8192 := Nat.and_two_pow_sub_one_eq_mod a 13
  rw [show (8191 : Int) = ((8191 : Nat) : Int) from rfl, e, e2]; rfl

theorem u8_and15 (n : Int) (h0 : 0 ≤ n) (h1 : n ≤ 255) : bits .and .u8 n 15 = n % 16 := by
  obtain ⟨a, rfl⟩ := Int.eq_ofNat_of_zero_le h0
  have e := u8_and (a : Int) 15 (by omega) (by omega) (by omega) (by omega)
  rw [e]
  have e2 : a &&& 15 = a % 16 := Nat.and_two_pow_sub_one_eq_mod a 4
  have e3 : ((a : Int).toNat &&& (15 : Int).toNat) = a &&& 15 := rfl
  rw [e3, e2]; rfl
end Go.Proofs.Ytkagkfbdpiblkaa
