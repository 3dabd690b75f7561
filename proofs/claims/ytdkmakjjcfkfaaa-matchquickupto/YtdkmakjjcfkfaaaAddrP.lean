/- Plain facts on addresses and prefixes: masks of the first bits of 32, as division and rest by a power of two. -/
import Derived.Test.YtdkmakjjcfkfaaaPlain
import Derived.Laws.BitsAllLaws
namespace Go.Proofs.Ytdkmakjjcfkfaaa
open Go.RowKit

/-- A length, held within 0 and 32. -/
def holdV (n : Int) : Int := if n < 0 then 0 else if 32 < n then 32 else n

theorem holdV_bd (n : Int) : 0 ≤ holdV n ∧ holdV n ≤ 32 := by
  unfold holdV
  split
  · omega
  · split <;> omega

theorem holdV_held (n : Int) : holdV (holdV n) = holdV n := by
  have := holdV_bd n
  generalize holdV n = h at *
  unfold holdV; rw [if_neg (by omega), if_neg (by omega)]

/-- How many addresses a prefix of that length has. -/
def sizeN (n : Int) : Nat := 2 ^ (32 - holdV n).toNat

theorem sizeN_pos (n : Int) : 0 < sizeN n := Nat.two_pow_pos _

theorem sizeN_le (n : Int) : sizeN n ≤ 4294967296 := by
  have := holdV_bd n
  have h : (32 - holdV n).toNat ≤ 32 := by omega
  exact Nat.pow_le_pow_right (by decide) h

theorem sizeN_held (n : Int) : sizeN (holdV n) = sizeN n := by unfold sizeN; rw [holdV_held]

theorem sizeN_dvd {m n : Int} (h : holdV m ≤ holdV n) : ∃ d, sizeN m = sizeN n * d := by
  have hm := holdV_bd m
  have hn := holdV_bd n
  refine ⟨2 ^ ((holdV n - holdV m).toNat), ?_⟩
  unfold sizeN
  rw [← Nat.pow_add]
  congr 1
  omega

/-- The first bits. -/
def maskV (n : Int) : Int := ((4294967296 - sizeN n : Nat) : Int)

theorem maskV_bd (n : Int) : 0 ≤ maskV n ∧ maskV n ≤ 4294967295 := by
  have h1 := sizeN_pos n
  have h2 := sizeN_le n
  unfold maskV; omega

theorem nat_or_ones (j x : Nat) : x ||| (2 ^ j - 1) = x / 2 ^ j * 2 ^ j + (2 ^ j - 1) := by
  have hp := Nat.two_pow_pos j
  rw [← nat_join j (x / 2 ^ j * 2 ^ j) (2 ^ j - 1) (by simp) (by omega)]
  apply Nat.eq_of_testBit_eq
  intro i
  simp only [Nat.testBit_or, Nat.testBit_two_pow_sub_one]
  by_cases hi : i < j
  · simp [hi]
  · simp only [hi, decide_false, Bool.or_false]
    rw [Nat.testBit_mul_two_pow, Nat.testBit_div_two_pow]
    simp only [show j ≤ i by omega, decide_true, Bool.true_and]
    congr 1
    omega

theorem nat_xor_div (j x y : Nat) : (x ^^^ y) / 2 ^ j = 0 ↔ x / 2 ^ j = y / 2 ^ j := by
  rw [← Nat.shiftRight_eq_div_pow, Nat.shiftRight_xor_distrib, Nat.shiftRight_eq_div_pow, Nat.shiftRight_eq_div_pow]
  generalize x / 2 ^ j = a
  generalize y / 2 ^ j = b
  constructor
  · intro h
    have h2 : (a ^^^ b) ^^^ b = 0 ^^^ b := by rw [h]
    rw [Nat.xor_assoc, Nat.xor_self, Nat.xor_zero, Nat.zero_xor] at h2
    exact h2
  · rintro rfl
    exact Nat.xor_self _

/-- An address without its other bits. -/
def normV (a n : Int) : Int := ((a.toNat / sizeN n * sizeN n : Nat) : Int)

/-- The last address. -/
def wideV (a n : Int) : Int := ((a.toNat / sizeN n * sizeN n + (sizeN n - 1) : Nat) : Int)

/-- Whether an address has the first bits. -/
def hasV (a n x : Int) : Bool := decide (a.toNat / sizeN n = x.toNat / sizeN n)

/-- Whether a prefix may be. -/
def isV (a n : Int) : Bool := a == normV a n && n == holdV n

/-- Whether a prefix has all of another one. -/
def coversV (a n b m : Int) : Bool := decide (holdV n ≤ holdV m) && hasV a n b

/-- Whether an address is many. -/
def castV (a : Int) : Bool := a / 268435456 == 14 || a == 4294967295

theorem isV_comm (a n : Int) : isV a n = (normV a n == a && holdV n == n) := by
  unfold isV
  rw [Bool.eq_iff_iff]
  simp only [Bool.and_eq_true, beq_iff_eq]
  omega

theorem normV_le (a n : Int) (h0 : 0 ≤ a) : 0 ≤ normV a n ∧ normV a n ≤ a := by
  unfold normV
  have := Nat.div_mul_le_self a.toNat (sizeN n)
  omega

theorem normV_bd (a n : Int) (h0 : 0 ≤ a) (h1 : a ≤ 4294967295) : 0 ≤ normV a n ∧ normV a n ≤ 4294967295 := by
  have := normV_le a n h0
  omega

theorem u32_and_mask (a n : Int) (h0 : 0 ≤ a) (h1 : a ≤ 4294967295) : bits .and .u32 a (maskV n) = normV a n := by
  have hm := maskV_bd n
  rw [u32_and a (maskV n) h0 (by omega) hm.1 (by omega)]
  unfold normV maskV
  congr 1
  have hb := holdV_bd n
  have := nat_midmask 32 (32 - holdV n).toNat a.toNat (by omega)
  unfold sizeN
  rw [Int.toNat_natCast]
  rw [show (4294967296 : Nat) = 2 ^ 32 by decide, this, Nat.mod_eq_of_lt (by omega)]

theorem xor32_nat (a : Nat) (h : a < 4294967296) : 4294967295 ^^^ a = 4294967295 - a := by
  have h1 : (BitVec.ofNat 32 a).toNat = a := by simp; omega
  have h2 : (~~~ (BitVec.ofNat 32 a)).toNat = 4294967295 - a := by rw [BitVec.toNat_not, h1]
  have h3 : ~~~ (BitVec.ofNat 32 a) = BitVec.ofNat 32 a ^^^ BitVec.allOnes 32 := BitVec.xor_allOnes.symm
  rw [h3, BitVec.toNat_xor, h1] at h2
  rw [Nat.xor_comm]
  simpa using h2

theorem u32_not (m : Int) (h0 : 0 ≤ m) (h1 : m ≤ 4294967295) : bits .xor .u32 IntKind.u32.max m = 4294967295 - m := by
  show bits .xor .u32 4294967295 m = _
  rw [u32_xor 4294967295 m (by omega) (by omega) h0 (by omega)]
  rw [show (4294967295 : Int).toNat = 4294967295 by decide, xor32_nat _ (by omega)]
  omega

theorem u32_or_rest (a n : Int) (h0 : 0 ≤ a) (h1 : a ≤ 4294967295) : bits .or .u32 a (4294967295 - maskV n) = wideV a n := by
  have hm := maskV_bd n
  have hp := sizeN_pos n
  have hl := sizeN_le n
  rw [u32_or a (4294967295 - maskV n) h0 (by omega) (by omega) (by omega)]
  unfold wideV
  congr 1
  rw [show (4294967295 - maskV n).toNat = sizeN n - 1 by unfold maskV; omega]
  exact nat_or_ones _ _

theorem normV_twice (a n : Int) : (normV a n).toNat / sizeN n = a.toNat / sizeN n := by
  unfold normV
  rw [Int.toNat_natCast, Nat.mul_div_cancel _ (sizeN_pos n)]

theorem u32_or_norm (a n : Int) (h0 : 0 ≤ a) (h1 : a ≤ 4294967295) : bits .or .u32 (normV a n) (4294967295 - maskV n) = wideV a n := by
  have hb := normV_bd a n h0 h1
  rw [u32_or_rest _ n hb.1 hb.2]
  unfold wideV
  rw [normV_twice]

theorem wideV_bd (a n : Int) (h0 : 0 ≤ a) (h1 : a ≤ 4294967295) : 0 ≤ wideV a n ∧ wideV a n ≤ 4294967295 := by
  have hm := maskV_bd n
  have hp := sizeN_pos n
  have hl := sizeN_le n
  rw [← u32_or_rest a n h0 h1, u32_or a (4294967295 - maskV n) h0 (by omega) (by omega) (by omega)]
  have := Nat.or_lt_two_pow (n := 32) (x := a.toNat) (y := (4294967295 - maskV n).toNat) (by omega) (by omega)
  omega

theorem norm_norm (a n : Int) : normV (normV a n) (holdV n) = normV a n := by
  have e := normV_twice a n
  unfold normV at e ⊢
  rw [sizeN_held, e]

theorem has_norm (a n x : Int) : hasV (normV a n) (holdV n) x = hasV a n x := by
  unfold hasV
  rw [sizeN_held, normV_twice]

theorem wide_norm (a n : Int) : wideV (normV a n) (holdV n) = wideV a n := by
  unfold wideV
  rw [sizeN_held, normV_twice]

theorem is_norm (a n : Int) : isV (normV a n) (holdV n) = true := by
  unfold isV
  rw [norm_norm, holdV_held]
  simp

theorem u32_xor_bd (a b : Int) (h1 : 0 ≤ a) (h2 : a ≤ 4294967295) (h3 : 0 ≤ b) (h4 : b ≤ 4294967295) : 0 ≤ bits .xor .u32 a b ∧ bits .xor .u32 a b ≤ 4294967295 := by
  rw [u32_xor a b h1 (by omega) h3 (by omega)]
  have := Nat.xor_lt_two_pow (n := 32) (x := a.toNat) (y := b.toNat) (by omega) (by omega)
  omega

theorem u32_has (a n x : Int) (h1 : 0 ≤ a) (h2 : a ≤ 4294967295) (h3 : 0 ≤ x) (h4 : x ≤ 4294967295) :
    (bits .and .u32 (bits .xor .u32 a x) (maskV n) == 0) = hasV a n x := by
  have hx := u32_xor_bd a x h1 h2 h3 h4
  rw [u32_and_mask _ n hx.1 hx.2, u32_xor a x h1 (by omega) h3 (by omega)]
  unfold normV hasV
  have hp := sizeN_pos n
  have e : (((a.toNat ^^^ x.toNat : Nat) : Int).toNat / sizeN n * sizeN n : Nat) = 0 ↔ a.toNat / sizeN n = x.toNat / sizeN n := by
    rw [Int.toNat_natCast, Nat.mul_eq_zero]
    unfold sizeN at hp ⊢
    rw [nat_xor_div]
    omega
  rw [Bool.eq_iff_iff]
  simp only [beq_iff_eq, decide_eq_true_eq]
  omega

theorem has_self (a n : Int) : hasV a n a = true := by unfold hasV; simp

theorem has_between (a n x : Int) (x0 : 0 ≤ x) : hasV (normV a n) (holdV n) x = (decide (normV a n ≤ x) && decide (x ≤ wideV (normV a n) (holdV n))) := by
  rw [has_norm, wide_norm]
  have hp := sizeN_pos n
  unfold hasV wideV normV
  rw [Bool.eq_iff_iff]
  simp only [Bool.and_eq_true, decide_eq_true_eq]
  obtain ⟨y, rfl⟩ := Int.eq_ofNat_of_zero_le x0
  rw [Int.toNat_natCast]
  generalize a.toNat / sizeN n = q
  constructor
  · intro h
    have h1 := Nat.div_add_mod y (sizeN n)
    have h2 := Nat.mod_lt y hp
    rw [← h, Nat.mul_comm] at h1
    constructor <;> omega
  · rintro ⟨h1, h2⟩
    have e : y = q * sizeN n + (y - q * sizeN n) := by omega
    rw [e, Nat.mul_comm q, Nat.mul_add_div hp, Nat.div_eq_of_lt (by rw [Nat.mul_comm]; omega)]
    rfl

theorem has_wide (a n : Int) (a0 : 0 ≤ a) (a1 : a ≤ 4294967295) : hasV (normV a n) (holdV n) (wideV (normV a n) (holdV n)) = true := by
  have hb := normV_bd a n a0 a1
  have hw := wideV_bd (normV a n) (holdV n) hb.1 hb.2
  rw [has_between _ _ _ hw.1]
  have hp := sizeN_pos n
  rw [wide_norm]
  unfold wideV normV
  simp only [Bool.and_eq_true, decide_eq_true_eq]
  omega

theorem covers_self (a n : Int) : coversV a n a n = true := by unfold coversV; simp [has_self]

theorem covers_spec {a n b m : Int} : coversV a n b m = true ↔ holdV n ≤ holdV m ∧ a.toNat / sizeN n = b.toNat / sizeN n := by
  unfold coversV hasV; simp

theorem div_up {n m : Int} (h : holdV n ≤ holdV m) {x y : Nat} (e : x / sizeN m = y / sizeN m) : x / sizeN n = y / sizeN n := by
  obtain ⟨d, hd⟩ := sizeN_dvd h
  rw [hd, ← Nat.div_div_eq_div_mul, ← Nat.div_div_eq_div_mul, e]

theorem covers_has {a n b m x : Int} (h1 : coversV a n b m = true) (h2 : hasV b m x = true) : hasV a n x = true := by
  obtain ⟨hl, he⟩ := covers_spec.1 h1
  unfold hasV at h2 ⊢
  simp only [decide_eq_true_eq] at h2 ⊢
  exact he.trans (div_up hl h2)

/-- Two prefixes without other bits that cover each other are one. -/
theorem covers_both {a n b m : Int} (h1 : coversV (normV a n) (holdV n) (normV b m) (holdV m) = true) (h2 : coversV (normV b m) (holdV m) (normV a n) (holdV n) = true) : normV a n = normV b m ∧ holdV n = holdV m := by
  obtain ⟨l1, e1⟩ := covers_spec.1 h1
  obtain ⟨l2, e2⟩ := covers_spec.1 h2
  simp only [holdV_held] at l1 l2
  have e : holdV n = holdV m := by omega
  refine ⟨?_, e⟩
  have es : sizeN n = sizeN m := by unfold sizeN; rw [e]
  rw [sizeN_held, normV_twice, es] at e1
  unfold normV at e1 ⊢
  rw [Int.toNat_natCast, Nat.mul_div_cancel _ (sizeN_pos m)] at e1
  rw [es, e1]

/-- Where neither covers the other they have nothing in common. -/
theorem covers_none {a n b m : Int} (h1 : coversV a n b m = false) (h2 : coversV b m a n = false) (x : Int) : (hasV a n x && hasV b m x) = false ∧ hasV a n b = false ∧ hasV b m a = false := by
  have k1 : ¬ (holdV n ≤ holdV m ∧ a.toNat / sizeN n = b.toNat / sizeN n) := fun h => by rw [covers_spec.2 h] at h1; cases h1
  have k2 : ¬ (holdV m ≤ holdV n ∧ b.toNat / sizeN m = a.toNat / sizeN m) := fun h => by rw [covers_spec.2 h] at h2; cases h2
  unfold hasV
  simp only [Bool.and_eq_false_iff, decide_eq_false_iff_not]
  rcases Int.le_total (holdV n) (holdV m) with hl | hl
  · have k3 : a.toNat / sizeN n ≠ b.toNat / sizeN n := fun e => k1 ⟨hl, e⟩
    refine ⟨?_, k3, fun e => k3 (div_up hl e).symm⟩
    by_cases g : a.toNat / sizeN n = x.toNat / sizeN n
    · exact .inr fun e => k3 (g.trans (div_up hl e).symm)
    · exact .inl g
  · have k3 : b.toNat / sizeN m ≠ a.toNat / sizeN m := fun e => k2 ⟨hl, e⟩
    refine ⟨?_, fun e => k3 (div_up hl e).symm, k3⟩
    by_cases g : b.toNat / sizeN m = x.toNat / sizeN m
    · exact .inl fun e => k3 (g.trans (div_up hl e).symm)
    · exact .inr g

theorem u32_shl_ones (n : Int) : (4294967295 * 2 ^ (32 - holdV n).toNat : Int) % 4294967296 = maskV n := by
  have hp := sizeN_pos n
  have hl := sizeN_le n
  unfold maskV
  have e : ((2 ^ (32 - holdV n).toNat : Int)) = (sizeN n : Int) := by unfold sizeN; push_cast; rfl
  rw [e]
  omega
end Go.Proofs.Ytdkmakjjcfkfaaa
