/- Texts joined by a program: Plain, AddrP, RibP, Grow, Grow2. -/
import Derived.WalkKit
import Derived.WalkSpells
import Derived.Laws.BitsLemmas
import Derived.Laws.BitsAllLaws
import Derived.Laws.BytesArg
import Derived.Laws.AppendOwn
import Derived.Laws.AppendOwnNone
import Derived.Laws.CopyOwn
import Derived.Laws.OwnMore
import Derived.Below
import Derived.OpenShut
import Derived.OrdersHeld
import Derived.Deep.RegionWith
import Derived.KernelRfl
namespace Go.Proofs.YtkfhkhgiojpfoaaGreat

open Go.RowKit

theorem wraps_i64 (n : Int) (h0 : 0 ≤ n) (h1 : n < 2 ^ 63) : IntKind.i64.wrap n = n := by rw [IntKind.wrap_i64]; omega

theorem wrapsU32 (n : Int) (h0 : 0 ≤ n) (h1 : n < 2 ^ 32) : IntKind.u32.wrap n = n := by rw [IntKind.wrap_u32]; omega

/-- Each number is a byte. -/
def BytesOk (xs : List Int) : Prop := ∀ x ∈ xs, 0 ≤ x ∧ x ≤ 255

theorem BytesOk.get {xs : List Int} (h : BytesOk xs) (k : Nat) : 0 ≤ xs[k]?.getD 0 ∧ xs[k]?.getD 0 ≤ 255 := by
  rcases Nat.lt_or_ge k xs.length with hk | hk
  · simp only [List.getElem?_eq_getElem hk, Option.getD_some]; exact h _ (List.getElem_mem hk)
  · simp [List.getElem?_eq_none hk]

/-! Slices of bytes in memory. -/

/-- A slice of integers that came in: nil, or a row of cells, the numbers zs. -/
def IsRow (k : IntKind) (w : World) (a : Option Addr) (len cap : Nat) (zs : List Int) : Prop :=
  (a = none ∧ len = 0 ∧ cap = 0 ∧ zs = []) ∨
  ∃ x, a = some x ∧ len ≤ cap ∧ cap ≤ maxLen ∧ zs.length = cap ∧ (∀ i, i < zs.length → w.cell? (x.add i) = some (.int k (zs.getD i 0))) ∧ ∀ n ∈ zs, (Lit.int k n).wf = true

/-- The slice (a, len) reads as the bytes xs. -/
structure Bytes (w : World) (a : Option Addr) (len : Nat) (xs : List Int) : Prop where
  length : xs.length = len
  small : len ≤ 9223372036854775807
  ok : BytesOk xs
  cells : len = 0 ∨ ∃ b off, a = some ⟨b, off, none⟩ ∧ ∀ i, i < len → w.cell? ⟨b, off + i, none⟩ = some (.int .u8 (xs[i]?.getD 0))

theorem Bytes.cell {w : World} {a : Option Addr} {len : Nat} {xs : List Int} (h : Bytes w a len xs) {k : Nat} (hk : k < len) :
    ∃ b off, a = some ⟨b, off, none⟩ ∧ w.cell? ⟨b, off + k, none⟩ = some (.int .u8 (xs[k]?.getD 0)) := by
  rcases h.cells with h0 | ⟨b, off, rfl, hc⟩
  · omega
  · exact ⟨b, off, rfl, hc k hk⟩

theorem block_lt {w : World} {x : Addr} {v : Value} (h : w.cell? x = some v) : x.block < w.heap.size := by
  rcases Nat.lt_or_ge x.block w.heap.size with hl | hl
  · exact hl
  · simp [World.cell?, Array.getElem?_eq_none hl] at h

theorem Bytes.below {w w' : World} {a : Option Addr} {len : Nat} {xs : List Int} (h : Bytes w a len xs) (hb : Below w.heap.size w w') : Bytes w' a len xs := by
  refine ⟨h.length, h.small, h.ok, ?_⟩
  rcases h.cells with h0 | ⟨b, off, rfl, hc⟩
  · exact .inl h0
  · exact .inr ⟨b, off, rfl, fun i hi => by rw [hb.cell (p := ⟨b, off + i, none⟩) (block_lt (hc i hi))]; exact hc i hi⟩

theorem IsRow.bytes {w : World} {a : Option Addr} {len cap : Nat} {zs : List Int} (h : IsRow .u8 w a len cap zs) : Bytes w a len (zs.take len) := by
  rcases h with ⟨rfl, rfl, rfl, rfl⟩ | ⟨x, rfl, hl, hm, hz, hcell, hwz⟩
  · exact ⟨rfl, by omega, by intro x hx; simp at hx, .inl rfl⟩
  · unfold maxLen at hm
    refine ⟨by simp; omega, by omega, ?_, ?_⟩
    · intro y hy
      have hy := List.mem_of_mem_take hy
      exact bounds_u8 (hwz y hy)
    · by_cases h0 : len = 0
      · exact .inl h0
      · obtain ⟨b, off, spot⟩ := x
        have hspot : spot = none := by simpa [Addr.add] using World.cell?_spot (hcell 0 (by omega))
        subst hspot
        refine .inr ⟨b, off, rfl, fun i hi => ?_⟩
        have hc := hcell i (by omega)
        have e : (zs.take len)[i]? = zs[i]? := by rw [List.getElem?_take, if_pos hi]
        rw [e]
        by_cases h0 : i = 0
        · subst h0; simpa [Addr.add] using hc
        · simpa [Addr.add, h0] using hc

theorem Bytes.new (w : World) (t : TypeId) (xs : List Int) (h : BytesOk xs) (hs : xs.length ≤ 9223372036854775807) :
    Bytes (w.alloc (.cells (xs.map (Value.int .u8)).toArray t)) (some ⟨w.heap.size, 0, none⟩) xs.length xs :=
  ⟨rfl, hs, h, .inr ⟨_, _, rfl, fun i hi => by
    rw [World.cell?_alloc_at _ _ _ _ rfl]; simp [hi]⟩⟩

theorem Bytes.string {P : Program} {w : World} {a : Option Addr} {len : Nat} {xs : List Int} (h : Bytes w a len xs) (cap : Nat) (src e dst : TypeId)
    (hs : P.underlying src = some (.slice e)) (he : P.underlying e = some (.int .u8)) (hd : P.underlying dst = some .string) :
    (convert src dst (.slice a len cap)).run P w = .ok (.string (strOfNums xs)) w := by
  rcases h.cells with h0 | ⟨b, off, rfl, hc⟩
  · subst h0
    obtain rfl : xs = [] := List.length_eq_zero_iff.1 h.length
    cases a with
    | none => rw [run_convert_bytes_nil w src e hs he 0 cap dst hd]; rfl
    | some x =>
      rw [run_convert_bytes_string w src dst e _ 0 cap hs he hd, run_bytesToString w _ 0 cap [] (by simpa using run_loadCells_list (P := P) w x [] (by simp))]
      rfl
  · exact run_convert_bytes_arg w src e hs he b off len cap xs h.length (fun i hi => by simpa using hc i hi) dst hd

/-- A slice of slices of bytes. -/
structure BytesL (w : World) (a : Option Addr) (len : Nat) (L : List (List Int)) : Prop where
  length : L.length = len
  small : len ≤ 9223372036854775807
  cells : len = 0 ∨ ∃ b off, a = some ⟨b, off, none⟩ ∧ ∀ i, i < len → ∃ p n c, w.cell? ⟨b, off + i, none⟩ = some (.slice p n c) ∧ Bytes w p n (L[i]?.getD []) ∧ (p = none → c = 0)

theorem BytesL.cell {w : World} {a : Option Addr} {len : Nat} {L : List (List Int)} (h : BytesL w a len L) {k : Nat} (hk : k < len) :
    ∃ b off p n c, a = some ⟨b, off, none⟩ ∧ w.cell? ⟨b, off + k, none⟩ = some (.slice p n c) ∧ Bytes w p n (L[k]?.getD []) ∧ (p = none → c = 0) := by
  rcases h.cells with h0 | ⟨b, off, rfl, hc⟩
  · omega
  · obtain ⟨p, n, c, h1, h2, h3⟩ := hc k hk
    exact ⟨b, off, p, n, c, rfl, h1, h2, h3⟩

theorem BytesL.below {w w' : World} {a : Option Addr} {len : Nat} {L : List (List Int)} (h : BytesL w a len L) (hb : Below w.heap.size w w') : BytesL w' a len L := by
  refine ⟨h.length, h.small, ?_⟩
  rcases h.cells with h0 | ⟨b, off, rfl, hc⟩
  · exact .inl h0
  · refine .inr ⟨b, off, rfl, fun i hi => ?_⟩
    obtain ⟨p, n, c, h1, h2, h3⟩ := hc i hi
    exact ⟨p, n, c, by rw [hb.cell (p := ⟨b, off + i, none⟩) (block_lt h1)]; exact h1, h2.below hb, h3⟩

theorem BytesL.new (w : World) (t : TypeId) (vs : List Value) (L : List (List Int)) (hs : L.length ≤ 9223372036854775807)
    (h : ∀ i, i < L.length → ∃ p n c, vs[i]? = some (.slice p n c) ∧ Bytes w p n (L[i]?.getD []) ∧ (p = none → c = 0)) :
    BytesL (w.alloc (.cells vs.toArray t)) (some ⟨w.heap.size, 0, none⟩) L.length L :=
  ⟨rfl, hs, .inr ⟨_, _, rfl, fun i hi => by
    obtain ⟨p, n, c, h1, h2, h3⟩ := h i hi
    exact ⟨p, n, c, by rw [World.cell?_alloc_at _ _ _ _ rfl]; simpa using h1, h2.below ((Below.refl _ _).alloc (Nat.le_refl _) _), h3⟩⟩⟩

theorem IsRow.le {k : IntKind} {w : World} {a : Option Addr} {len cap : Nat} {zs : List Int} (h : IsRow k w a len cap zs) : len ≤ cap := by
  rcases h with ⟨rfl, rfl, rfl, rfl⟩ | ⟨x, rfl, hl, _⟩
  · exact Nat.le_refl _
  · exact hl

theorem Bytes.take {w : World} {a : Option Addr} {len : Nat} {xs : List Int} (h : Bytes w a len xs) {n : Nat} (hn : n ≤ len) : Bytes w a n (xs.take n) := by
  have hl := h.length
  have hs := h.small
  refine ⟨by simp; omega, by omega, fun x hx => h.ok x (List.mem_of_mem_take hx), ?_⟩
  by_cases h0 : n = 0
  · exact .inl h0
  · rcases h.cells with h1 | ⟨b, off, rfl, hc⟩
    · omega
    · exact .inr ⟨b, off, rfl, fun i hi => by rw [hc i (by omega), List.getElem?_take, if_pos hi]⟩

/-- An operation that is wanted, guarded or not. -/
theorem wpList_want {P : Program} {w : World} {ops : Array Oper} {rest : List Oper} {o : Oper} {a : Act} {Q : Exit → Act → World → Prop} (hw : Region.wanted o (yielded ops a.tmps) = true)
    (h : ∀ K : Act → World → Prop, (∀ a w, wpList P ops Q rest a w → K a w) → o.wp P a w K Q) : wpList P ops Q (o :: rest) a w :=
  wpList_step fun K hK => by rw [if_pos hw]; exact h K hK

/-! A block of the call's own, known whole. -/
theorem heap_set {w : World} {g k : Nat} {cur : Array Value} {e : TypeId} (h : w.heap[g]? = some (.cells cur e (0, 0))) (u : Value) :
    (w.setCell ⟨g, k, none⟩ u).heap[g]? = some (.cells (cur.setIfInBounds k u) e (0, 0)) := by
  simp [World.setCell, Array.getElem?_modify, h]
theorem heap_cell {w : World} {g k : Nat} {cur : Array Value} {e : TypeId} (h : w.heap[g]? = some (.cells cur e (0, 0))) : w.cell? ⟨g, k, none⟩ = cur[k]? := by
  simp [World.cell?, h]
theorem heap_frozen {w : World} {g k : Nat} {cur : Array Value} {e : TypeId} (h : w.heap[g]? = some (.cells cur e (0, 0))) : w.frozen? ⟨g, k, none⟩ = false := by
  simp [World.frozen?, h]
end Go.Proofs.YtkfhkhgiojpfoaaGreat

namespace Go.Proofs.YtkfhkhgiojpfoaaGreat

open Go.RowKit

/-- A length, held within 0 and 32. -/
def holdV (n : Int) : Int := if n < 0 then 0 else if 32 < n then 32 else n

theorem holdV_bd (n : Int) : 0 ≤ holdV n ∧ holdV n ≤ 32 := by
  unfold holdV
  split
  · omega
  · split <;> omega

/-- How many addresses a prefix of that length has. -/
def sizeN (n : Int) : Nat := 2 ^ (32 - holdV n).toNat

theorem sizeN_pos (n : Int) : 0 < sizeN n := Nat.two_pow_pos _

theorem sizeN_le (n : Int) : sizeN n ≤ 4294967296 := by
  have := holdV_bd n
  have h : (32 - holdV n).toNat ≤ 32 := by omega
  exact Nat.pow_le_pow_right (by decide) h

theorem sizeN_dvd {m n : Int} (h : holdV m ≤ holdV n) : ∃ d, sizeN m = sizeN n * d := by
  have hm := holdV_bd m
  have hn := holdV_bd n
  refine ⟨2 ^ ((holdV n - holdV m).toNat), ?_⟩
  unfold sizeN
  rw [← Nat.pow_add]
  congr 1
  omega

/-- The first bits. -/
def maskV (n : Int) : Int := ((4294967296 - sizeN n : Nat) : Int)

theorem maskV_bd (n : Int) : 0 ≤ maskV n ∧ maskV n ≤ 4294967295 := by
  have h1 := sizeN_pos n
  have h2 := sizeN_le n
  unfold maskV; omega

theorem nat_or_ones (j x : Nat) : x ||| (2 ^ j - 1) = x / 2 ^ j * 2 ^ j + (2 ^ j - 1) := by
  have hp := Nat.two_pow_pos j
  rw [← nat_join j (x / 2 ^ j * 2 ^ j) (2 ^ j - 1) (by simp) (by omega)]
  apply Nat.eq_of_testBit_eq
  intro i
  simp only [Nat.testBit_or, Nat.testBit_two_pow_sub_one]
  by_cases hi : i < j
  · simp [hi]
  · simp only [hi, decide_false, Bool.or_false]
    rw [Nat.testBit_mul_two_pow, Nat.testBit_div_two_pow]
    simp only [show j ≤ i by omega, decide_true, Bool.true_and]
    congr 1
    omega

theorem nat_xor_div (j x y : Nat) : (x ^^^ y) / 2 ^ j = 0 ↔ x / 2 ^ j = y / 2 ^ j := by
  rw [← Nat.shiftRight_eq_div_pow, Nat.shiftRight_xor_distrib, Nat.shiftRight_eq_div_pow, Nat.shiftRight_eq_div_pow]
  generalize x / 2 ^ j = a
  generalize y / 2 ^ j = b
  constructor
  · intro h
    have h2 : (a ^^^ b) ^^^ b = 0 ^^^ b := by rw [h]
    rw [Nat.xor_assoc, Nat.xor_self, Nat.xor_zero, Nat.zero_xor] at h2
    exact h2
  · rintro rfl
    exact Nat.xor_self _

/-- An address without its other bits. -/
def normV (a n : Int) : Int := ((a.toNat / sizeN n * sizeN n : Nat) : Int)

/-- The last address. -/
def wideV (a n : Int) : Int := ((a.toNat / sizeN n * sizeN n + (sizeN n - 1) : Nat) : Int)

/-- Whether an address has the first bits. -/
def hasV (a n x : Int) : Bool := decide (a.toNat / sizeN n = x.toNat / sizeN n)

/-- Whether a prefix may be. -/
def isV (a n : Int) : Bool := a == normV a n && n == holdV n

/-- Whether a prefix has all of another one. -/
def coversV (a n b m : Int) : Bool := decide (holdV n ≤ holdV m) && hasV a n b

/-- Whether an address is many. -/
def castV (a : Int) : Bool := a / 268435456 == 14 || a == 4294967295

theorem isV_comm (a n : Int) : isV a n = (normV a n == a && holdV n == n) := by
  unfold isV
  rw [Bool.eq_iff_iff]
  simp only [Bool.and_eq_true, beq_iff_eq]
  omega

theorem normV_le (a n : Int) (h0 : 0 ≤ a) : 0 ≤ normV a n ∧ normV a n ≤ a := by
  unfold normV
  have := Nat.div_mul_le_self a.toNat (sizeN n)
  omega

theorem normV_bd (a n : Int) (h0 : 0 ≤ a) (h1 : a ≤ 4294967295) : 0 ≤ normV a n ∧ normV a n ≤ 4294967295 := by
  have := normV_le a n h0
  omega

theorem u32_and_mask (a n : Int) (h0 : 0 ≤ a) (h1 : a ≤ 4294967295) : bits .and .u32 a (maskV n) = normV a n := by
  have hm := maskV_bd n
  rw [u32_and a (maskV n) h0 (by omega) hm.1 (by omega)]
  unfold normV maskV
  congr 1
  have hb := holdV_bd n
  have := nat_midmask 32 (32 - holdV n).toNat a.toNat (by omega)
  unfold sizeN
  rw [Int.toNat_natCast]
  rw [show (4294967296 : Nat) = 2 ^ 32 by decide, this, Nat.mod_eq_of_lt (by omega)]

theorem xor32_nat (a : Nat) (h : a < 4294967296) : 4294967295 ^^^ a = 4294967295 - a := by
  have h1 : (BitVec.ofNat 32 a).toNat = a := by simp; omega
  have h2 : (~~~ (BitVec.ofNat 32 a)).toNat = 4294967295 - a := by rw [BitVec.toNat_not, h1]
  have h3 : ~~~ (BitVec.ofNat 32 a) = BitVec.ofNat 32 a ^^^ BitVec.allOnes 32 := BitVec.xor_allOnes.symm
  rw [h3, BitVec.toNat_xor, h1] at h2
  rw [Nat.xor_comm]
  simpa using h2

theorem u32_not (m : Int) (h0 : 0 ≤ m) (h1 : m ≤ 4294967295) : bits .xor .u32 IntKind.u32.max m = 4294967295 - m := by
  show bits .xor .u32 4294967295 m = _
  rw [u32_xor 4294967295 m (by omega) (by omega) h0 (by omega)]
  rw [show (4294967295 : Int).toNat = 4294967295 by decide, xor32_nat _ (by omega)]
  omega

theorem u32_or_rest (a n : Int) (h0 : 0 ≤ a) (h1 : a ≤ 4294967295) : bits .or .u32 a (4294967295 - maskV n) = wideV a n := by
  have hm := maskV_bd n
  have hp := sizeN_pos n
  have hl := sizeN_le n
  rw [u32_or a (4294967295 - maskV n) h0 (by omega) (by omega) (by omega)]
  unfold wideV
  congr 1
  rw [show (4294967295 - maskV n).toNat = sizeN n - 1 by unfold maskV; omega]
  exact nat_or_ones _ _

theorem normV_twice (a n : Int) : (normV a n).toNat / sizeN n = a.toNat / sizeN n := by
  unfold normV
  rw [Int.toNat_natCast, Nat.mul_div_cancel _ (sizeN_pos n)]

theorem u32_or_norm (a n : Int) (h0 : 0 ≤ a) (h1 : a ≤ 4294967295) : bits .or .u32 (normV a n) (4294967295 - maskV n) = wideV a n := by
  have hb := normV_bd a n h0 h1
  rw [u32_or_rest _ n hb.1 hb.2]
  unfold wideV
  rw [normV_twice]

theorem u32_xor_bd (a b : Int) (h1 : 0 ≤ a) (h2 : a ≤ 4294967295) (h3 : 0 ≤ b) (h4 : b ≤ 4294967295) : 0 ≤ bits .xor .u32 a b ∧ bits .xor .u32 a b ≤ 4294967295 := by
  rw [u32_xor a b h1 (by omega) h3 (by omega)]
  have := Nat.xor_lt_two_pow (n := 32) (x := a.toNat) (y := b.toNat) (by omega) (by omega)
  omega

theorem u32_has (a n x : Int) (h1 : 0 ≤ a) (h2 : a ≤ 4294967295) (h3 : 0 ≤ x) (h4 : x ≤ 4294967295) :
    (bits .and .u32 (bits .xor .u32 a x) (maskV n) == 0) = hasV a n x := by
  have hx := u32_xor_bd a x h1 h2 h3 h4
  rw [u32_and_mask _ n hx.1 hx.2, u32_xor a x h1 (by omega) h3 (by omega)]
  unfold normV hasV
  have hp := sizeN_pos n
  have e : (((a.toNat ^^^ x.toNat : Nat) : Int).toNat / sizeN n * sizeN n : Nat) = 0 ↔ a.toNat / sizeN n = x.toNat / sizeN n := by
    rw [Int.toNat_natCast, Nat.mul_eq_zero]
    unfold sizeN at hp ⊢
    rw [nat_xor_div]
    omega
  rw [Bool.eq_iff_iff]
  simp only [beq_iff_eq, decide_eq_true_eq]
  omega

theorem has_self (a n : Int) : hasV a n a = true := by unfold hasV; simp

theorem covers_self (a n : Int) : coversV a n a n = true := by unfold coversV; simp [has_self]

theorem covers_spec {a n b m : Int} : coversV a n b m = true ↔ holdV n ≤ holdV m ∧ a.toNat / sizeN n = b.toNat / sizeN n := by
  unfold coversV hasV; simp

theorem div_up {n m : Int} (h : holdV n ≤ holdV m) {x y : Nat} (e : x / sizeN m = y / sizeN m) : x / sizeN n = y / sizeN n := by
  obtain ⟨d, hd⟩ := sizeN_dvd h
  rw [hd, ← Nat.div_div_eq_div_mul, ← Nat.div_div_eq_div_mul, e]

theorem u32_shl_ones (n : Int) : (4294967295 * 2 ^ (32 - holdV n).toNat : Int) % 4294967296 = maskV n := by
  have hp := sizeN_pos n
  have hl := sizeN_le n
  unfold maskV
  have e : ((2 ^ (32 - holdV n).toNat : Int)) = (sizeN n : Int) := by unfold sizeN; push_cast; rfl
  rw [e]
  omega
end Go.Proofs.YtkfhkhgiojpfoaaGreat

namespace Go.Proofs.YtkfhkhgiojpfoaaGreat.Rb

open Go.Proofs.YtkfhkhgiojpfoaaGreat

set_option linter.unusedVariables false

set_option linter.unusedSimpArgs false

/-- A way: Table, Prefix (Addr, Len), Iface, Gate, Metric. -/
structure Rt where
  t : Int
  a : Int
  l : Int
  i : Int
  g : Int
  m : Int

def cmpI (x y : Int) : Int := if x < y then -1 else if y < x then 1 else 0

def orI : List Int → Int
  | [] => 0
  | c :: cs => if c = 0 then orI cs else c

theorem orI_cons (c : Int) (cs : List Int) : orI (c :: cs) = if c = 0 then orI cs else c := rfl

theorem cmpI_lt (x y : Int) : cmpI x y < 0 ↔ x < y := by
  unfold cmpI
  split
  · constructor <;> omega
  · split <;> constructor <;> omega

theorem cmpI_eq (x y : Int) : cmpI x y = 0 ↔ x = y := by
  unfold cmpI
  split
  · constructor <;> omega
  · split <;> constructor <;> omega

theorem orI_lt (c : Int) (cs : List Int) : orI (c :: cs) < 0 ↔ c < 0 ∨ (c = 0 ∧ orI cs < 0) := by
  rw [orI_cons]
  split
  · rename_i h; subst h; constructor
    · intro h; exact .inr ⟨rfl, h⟩
    · rintro (h | h)
      · omega
      · exact h.2
  · constructor <;> omega

theorem orI_eq (c : Int) (cs : List Int) : orI (c :: cs) = 0 ↔ c = 0 ∧ orI cs = 0 := by
  rw [orI_cons]
  split
  · rename_i h; subst h; simp
  · rename_i h; constructor
    · intro h2; exact absurd h2 h
    · intro h2; exact absurd h2.1 h

def ordP (a l b m : Int) : Int := orI [cmpI a b, cmpI l m]

def ordR (x y : Rt) : Int := orI [cmpI x.t y.t, ordP x.a x.l y.a y.l, cmpI x.i y.i, cmpI x.g y.g]

def betI (x y : Rt) : Int := orI [cmpI x.m y.m, cmpI x.i y.i, cmpI x.g y.g]

def Lt5 (x y : Rt) : Prop := x.t < y.t ∨ (x.t = y.t ∧ (x.a < y.a ∨ (x.a = y.a ∧ (x.l < y.l ∨ (x.l = y.l ∧ (x.i < y.i ∨ (x.i = y.i ∧ x.g < y.g)))))))

def Lt3 (x y : Rt) : Prop := x.m < y.m ∨ (x.m = y.m ∧ (x.i < y.i ∨ (x.i = y.i ∧ x.g < y.g)))

def ltB (x y : Rt) : Bool := decide (x.t < y.t) || (decide (x.t = y.t) && (decide (x.a < y.a) || (decide (x.a = y.a) && (decide (x.l < y.l) || (decide (x.l = y.l) && (decide (x.i < y.i) || (decide (x.i = y.i) && decide (x.g < y.g))))))))

def betB (x y : Rt) : Bool := decide (x.m < y.m) || (decide (x.m = y.m) && (decide (x.i < y.i) || (decide (x.i = y.i) && decide (x.g < y.g))))

theorem ltB_iff (x y : Rt) : ltB x y = true ↔ Lt5 x y := by simp [ltB, Lt5]

theorem betB_iff (x y : Rt) : betB x y = true ↔ Lt3 x y := by simp [betB, Lt3]

theorem ltB_not (x y : Rt) : ltB x y = false ↔ ¬ Lt5 x y := by rw [← ltB_iff]; simp

theorem betB_not (x y : Rt) : betB x y = false ↔ ¬ Lt3 x y := by rw [← betB_iff]; simp

theorem orI_nil : orI [] = 0 := rfl

theorem ordP_lt (a l b m : Int) : ordP a l b m < 0 ↔ a < b ∨ (a = b ∧ l < m) := by
  unfold ordP
  simp only [orI_lt, cmpI_lt, cmpI_eq, orI_nil]
  omega

theorem ordP_eq (a l b m : Int) : ordP a l b m = 0 ↔ a = b ∧ l = m := by
  unfold ordP
  simp [orI_eq, cmpI_eq, orI_nil]

theorem ordR_lt (x y : Rt) : ordR x y < 0 ↔ ltB x y = true := by
  rw [ltB_iff]
  unfold ordR Lt5
  simp only [orI_lt, orI_eq, cmpI_lt, cmpI_eq, ordP_lt, ordP_eq, orI_nil]
  omega

theorem betI_lt (x y : Rt) : betI x y < 0 ↔ betB x y = true := by
  rw [betB_iff]
  unfold betI Lt3
  simp only [orI_lt, orI_eq, cmpI_lt, cmpI_eq, orI_nil]
  omega

/-- Alike but for the Metric. -/
def Same (x y : Rt) : Prop := x.t = y.t ∧ x.a = y.a ∧ x.l = y.l ∧ x.i = y.i ∧ x.g = y.g

theorem ordR_eq (x y : Rt) : ordR x y = 0 ↔ Same x y := by
  unfold ordR Same
  simp [orI_eq, cmpI_eq, ordP_eq, orI_nil, and_assoc]

theorem same_iff (x y : Rt) : Same x y ↔ ltB x y = false ∧ ltB y x = false := by
  rw [ltB_not, ltB_not]
  unfold Same Lt5
  omega

theorem ltB_trans {x y z : Rt} (h : ltB x y = true) (k : ltB y z = true) : ltB x z = true := by
  rw [ltB_iff] at *
  unfold Lt5 at *
  omega

theorem ltB_same {x y z : Rt} (h : Same x y) (k : ltB y z = true) : ltB x z = true := by
  rw [ltB_iff] at *
  unfold Lt5 Same at *
  omega

/-- In order, no two alike. -/
def Srt (L : List Rt) : Prop := L.Pairwise fun x y => ltB x y = true

/-- How many at the begin meet f. -/
def twN (f : Rt → Bool) : List Rt → Nat
  | [] => 0
  | x :: L => if f x = true then twN f L + 1 else 0

theorem twN_le (f : Rt → Bool) : ∀ L, twN f L ≤ L.length
  | [] => Nat.le_refl _
  | x :: L => by
    unfold twN
    have := twN_le f L
    split
    · simp only [List.length_cons]; omega
    · omega

theorem twN_unique (f : Rt → Bool) : ∀ (L : List Rt) (p : Nat), p ≤ L.length → (∀ j x, j < p → L[j]? = some x → f x = true) → (∀ x, L[p]? = some x → f x = false) → twN f L = p
  | [], p, hp, _, _ => by simp at hp; simp [twN, hp]
  | y :: L, 0, hp, _, h2 => by simp [twN, h2 y rfl]
  | y :: L, p + 1, hp, h1, h2 => by
    have hy := h1 0 y (by omega) rfl
    have ih := twN_unique f L p (by simpa using hp) (fun j x hj hx => h1 (j + 1) x (by omega) (by simpa using hx)) (fun x hx => h2 x (by simpa using hx))
    simp [twN, hy, ih]

theorem twN_at (f : Rt → Bool) : ∀ (L : List Rt) (x : Rt), L[twN f L]? = some x → f x = false
  | [], x, hx => by simp at hx
  | y :: L, x, hx => by
    unfold twN at hx
    split at hx
    · exact twN_at f L x (by simpa using hx)
    · rename_i hy
      obtain rfl : y = x := by simpa using hx
      simpa using hy

def posR (L : List Rt) (r : Rt) : Nat := twN (fun x => ltB x r) L

def hereB : List Rt → Rt → Bool
  | [], _ => false
  | x :: L, r => if ltB x r = true then hereB L r else !ltB r x

/-- Laid: the Metric of one that is there, or one more. -/
def insR : List Rt → Rt → List Rt
  | [], r => [r]
  | x :: L, r => if ltB x r = true then x :: insR L r else if ltB r x = true then r :: x :: L else r :: L

def delR : List Rt → Rt → List Rt
  | [], _ => []
  | x :: L, r => if ltB x r = true then x :: delR L r else if ltB r x = true then x :: L else L

theorem here_at : ∀ (L : List Rt) (r : Rt), hereB L r = match L[posR L r]? with
    | some x => decide (ordR x r = 0)
    | none => false
  | [], r => rfl
  | x :: L, r => by
    have ih := here_at L r
    unfold posR at ih
    unfold hereB posR twN
    by_cases h : ltB x r = true
    · simp only [h, if_true, List.getElem?_cons_succ]; exact ih
    · simp only [h, Bool.false_eq_true, if_false, List.getElem?_cons_zero]
      have h0 : ltB x r = false := by simpa using h
      cases h1 : ltB r x with
      | true =>
        have hn : ¬ ordR x r = 0 := by
          rw [ordR_eq, same_iff]
          rintro ⟨_, h2⟩
          rw [h2] at h1; cases h1
        simp [hn]
      | false =>
        have hy : ordR x r = 0 := by rw [ordR_eq, same_iff]; exact ⟨h0, h1⟩
        simp [hy]

theorem here_same {L : List Rt} {r : Rt} (h : hereB L r = true) : ∃ x, L[posR L r]? = some x ∧ Same x r := by
  rw [here_at] at h
  split at h
  · rename_i x hx
    exact ⟨x, hx, (ordR_eq _ _).1 (by simpa using h)⟩
  · cases h

theorem here_pos {L : List Rt} {r : Rt} (h : hereB L r = true) : posR L r < L.length := by
  obtain ⟨x, hx, _⟩ := here_same h
  exact (List.getElem?_eq_some_iff.1 hx).1

theorem ins_here : ∀ {L : List Rt} {r : Rt}, hereB L r = true → insR L r = L.set (posR L r) r
  | [], r, h => by cases h
  | x :: L, r, h => by
    unfold hereB at h
    unfold insR posR twN
    split at h
    · rename_i hx
      simp only [hx, if_true, List.set_cons_succ]
      rw [ins_here h]; rfl
    · rename_i hx
      have h1 : ltB r x = false := by simpa using h
      simp [hx, h1]

theorem ins_cut : ∀ {L : List Rt} {r : Rt}, hereB L r = true → insR L r = L.take (posR L r) ++ r :: L.drop (posR L r + 1)
  | [], r, h => by cases h
  | x :: L, r, h => by
    unfold hereB at h
    unfold insR posR twN
    split at h
    · rename_i hx
      simp only [hx, if_true, List.take_succ_cons, List.drop_succ_cons, List.cons_append]
      rw [ins_cut h]; rfl
    · rename_i hx
      have h1 : ltB r x = false := by simpa using h
      simp [hx, h1]

theorem ins_new : ∀ {L : List Rt} {r : Rt}, hereB L r = false → insR L r = L.take (posR L r) ++ r :: L.drop (posR L r)
  | [], r, h => by simp [insR, posR, twN]
  | x :: L, r, h => by
    unfold hereB at h
    unfold insR posR twN
    split at h
    · rename_i hx
      simp only [hx, if_true, List.take_succ_cons, List.drop_succ_cons, List.cons_append]
      rw [ins_new h]; rfl
    · rename_i hx
      have h1 : ltB r x = true := by simpa using h
      simp [hx, h1]

theorem mem_ins : ∀ {L : List Rt} {r x : Rt}, x ∈ insR L r → x = r ∨ x ∈ L
  | [], r, x, h => by simpa [insR] using h
  | y :: L, r, x, h => by
    unfold insR at h
    split at h
    · rcases List.mem_cons.1 h with rfl | h
      · exact .inr (by simp)
      · rcases mem_ins h with h | h
        · exact .inl h
        · exact .inr (by simp [h])
    · split at h
      · rcases List.mem_cons.1 h with rfl | h
        · exact .inl rfl
        · exact .inr h
      · rcases List.mem_cons.1 h with rfl | h
        · exact .inl rfl
        · exact .inr (by simp [h])

theorem Srt.ins : ∀ {L : List Rt} {r : Rt}, Srt L → Srt (insR L r)
  | [], r, h => by simp [insR, Srt]
  | y :: L, r, h => by
    obtain ⟨h1, h2⟩ := List.pairwise_cons.1 h
    unfold insR
    split
    · rename_i hy
      refine List.pairwise_cons.2 ⟨fun x hx => ?_, Srt.ins h2⟩
      rcases mem_ins hx with rfl | hx
      · exact hy
      · exact h1 x hx
    · rename_i hy
      split
      · rename_i hr
        refine List.pairwise_cons.2 ⟨fun x hx => ?_, h⟩
        rcases List.mem_cons.1 hx with rfl | hx
        · exact hr
        · exact ltB_trans hr (h1 x hx)
      · rename_i hr
        have hs : Same r y := (same_iff _ _).2 ⟨by simpa using hr, by simpa using hy⟩
        exact List.pairwise_cons.2 ⟨fun x hx => ltB_same hs (h1 x hx), h2⟩

theorem Srt.get {L : List Rt} (h : Srt L) {i j : Nat} {x y : Rt} (hx : L[i]? = some x) (hy : L[j]? = some y) (hij : i < j) : ltB x y = true := by
  obtain ⟨hi, rfl⟩ := List.getElem?_eq_some_iff.1 hx
  obtain ⟨hj, rfl⟩ := List.getElem?_eq_some_iff.1 hy
  exact List.pairwise_iff_getElem.1 h i j hi hj hij

theorem ins_len {L : List Rt} {r : Rt} : (insR L r).length = if hereB L r = true then L.length else L.length + 1 := by
  split
  · rename_i h; rw [ins_here h, List.length_set]
  · rename_i h
    rw [ins_new (by simpa using h)]
    have := twN_le (fun x => ltB x r) L
    unfold posR
    simp only [List.length_append, List.length_take, List.length_cons, List.length_drop]
    omega

/-- Whether a way may be. -/
def isR (r : Rt) : Bool := decide (0 ≤ r.t) && decide (r.t ≤ 3) && (isV r.a r.l && (decide (0 ≤ r.i) && decide (r.i ≤ 7) && (decide (0 ≤ r.m) && decide (r.m ≤ 255))))

theorem isR_iff (r : Rt) : isR r = true ↔ 0 ≤ r.t ∧ r.t ≤ 3 ∧ isV r.a r.l = true ∧ 0 ≤ r.i ∧ r.i ≤ 7 ∧ 0 ≤ r.m ∧ r.m ≤ 255 := by
  simp [isR, and_assoc]

def addE (L : List Rt) (r : Rt) : Int := if isR r = true then (if hereB L r = true then 0 else if 256 ≤ L.length then 6 else 0) else 1

def addS (L : List Rt) (r : Rt) : List Rt := if addE L r = 0 then insR L r else L

def delE (L : List Rt) (r : Rt) : Int := if hereB L r = true then 0 else 7

def delS (L : List Rt) (r : Rt) : List Rt := if hereB L r = true then delR L r else L

/-- Numbers of a way that go into their places. -/
def RtOk (r : Rt) : Prop := -9223372036854775808 ≤ r.t ∧ r.t ≤ 9223372036854775807 ∧ 0 ≤ r.a ∧ r.a ≤ 4294967295 ∧ -9223372036854775808 ≤ r.l ∧ r.l ≤ 9223372036854775807 ∧ -9223372036854775808 ≤ r.i ∧ r.i ≤ 9223372036854775807 ∧ 0 ≤ r.g ∧ r.g ≤ 4294967295 ∧ -9223372036854775808 ≤ r.m ∧ r.m ≤ 9223372036854775807

/-- Ways that may be, in order, not too many. -/
structure Good (L : List Rt) : Prop where
  srt : Srt L
  len : L.length ≤ 256
  is : ∀ x ∈ L, isR x = true
  ok : ∀ x ∈ L, RtOk x

theorem Good.nil : Good [] := ⟨by simp [Srt], by simp, by simp, by simp⟩

theorem Good.add {L : List Rt} (h : Good L) {r : Rt} (hr : RtOk r) : Good (addS L r) := by
  unfold addS
  split
  · rename_i he
    unfold addE at he
    split at he
    · rename_i hi
      refine ⟨h.srt.ins, ?_, fun x hx => ?_, fun x hx => ?_⟩
      · rw [ins_len]
        split
        · exact h.len
        · rename_i hh
          simp only [hh, Bool.false_eq_true, if_false] at he
          split at he
          · omega
          · omega
      · rcases mem_ins hx with rfl | hx
        · exact hi
        · exact h.is x hx
      · rcases mem_ins hx with rfl | hx
        · exact hr
        · exact h.ok x hx
    · omega
  · exact h
end Go.Proofs.YtkfhkhgiojpfoaaGreat.Rb

namespace Go.Proofs.YtkfhkhgiojpfoaaGreat

open Go.RowKit

/-- w' is W with new blocks behind. -/
def Ext (W w' : World) : Prop := Below W.heap.size W w'

theorem Ext.refl (W : World) : Ext W W := Below.refl _ _
theorem Ext.trans {A B C : World} (h : Ext A B) (k : Ext B C) : Ext A C := Below.trans h (Below.mono k h.size)
theorem Ext.drew {A B : World} (h : Ext A B) : Ext A B.drew := Below.drew h
theorem Ext.alloc {A B : World} (h : Ext A B) (o : Obj) : Ext A (B.alloc o) := Below.alloc h h.size o
theorem Ext.below {A B : World} (h : Ext A B) : Below A.heap.size A B := h

/-- w' is W with new blocks behind, but for block x, which may have been written. -/
structure ExtX (x : Nat) (W w' : World) : Prop where
  os : w'.os = W.os
  tape : w'.tape = W.tape
  output : w'.output = W.output
  size : W.heap.size ≤ w'.heap.size
  block : ∀ k, k < W.heap.size → k ≠ x → w'.heap[k]? = W.heap[k]?

theorem ExtX.refl (x : Nat) (W : World) : ExtX x W W := ⟨rfl, rfl, rfl, Nat.le_refl _, fun _ _ _ => rfl⟩
theorem ExtX.trans {x : Nat} {A B C : World} (h : ExtX x A B) (k : ExtX x B C) : ExtX x A C :=
  ⟨k.os.trans h.os, k.tape.trans h.tape, k.output.trans h.output, Nat.le_trans h.size k.size, fun i hi hx => (k.block i (Nat.lt_of_lt_of_le hi h.size) hx).trans (h.block i hi hx)⟩
theorem Ext.but {A B : World} (h : Ext A B) (x : Nat) : ExtX x A B := ⟨h.os, h.tape, h.output, h.size, fun k hk _ => h.block k hk⟩
theorem ExtX.setCell {x : Nat} {A B : World} (h : ExtX x A B) {p : Addr} (hp : p.block = x) (u : Value) : ExtX x A (B.setCell p u) :=
  h.trans ⟨rfl, rfl, rfl, by simp [World.setCell], fun k hk hx => Below.heap_setCell _ _ _ _ (by rw [hp]; exact hx)⟩
theorem ExtX.drew {x : Nat} {A B : World} (h : ExtX x A B) : ExtX x A B.drew := ⟨h.os, h.tape, h.output, h.size, h.block⟩
theorem ExtX.ext {x : Nat} {A B C : World} (h : Ext A B) (k : ExtX x B C) (hx : A.heap.size ≤ x) : Ext A C :=
  ⟨k.os.trans h.os, k.tape.trans h.tape, k.output.trans h.output, Nat.le_trans h.size k.size, fun i hi => (k.block i (Nat.lt_of_lt_of_le hi h.size) (by omega)).trans (h.block i hi)⟩

section

variable {P : Program} {ops : Array Oper} {Q : Exit → Act → World → Prop} {R : World → World → Prop} {E : Act → World → Prop}

theorem wpAnyH_mono {md : Region.Mode} {S S' : World → Prop} (h : ∀ w, S w → S' w) : ∀ (fuel : Nat) (listed : Array Bool) (a : Act) (w : World),
    wpAnyH P md ops Q S fuel listed a w → wpAnyH P md ops Q S' fuel listed a w
  | 0, _, _, _, H => H
  | fuel + 1, _, _, _, H => ⟨H.1, fun i hi => wpOp_mono (fun a' w' h' => ⟨h _ h'.1, wpAnyH_mono h fuel _ a' w' h'.2⟩) (H.2 i hi)⟩

/-- The walk along a list of places (true: the operation may change the world). -/
def wpE (R : World → World → Prop) (P : Program) (ops : Array Oper) (Q : Exit → Act → World → Prop) (E : Act → World → Prop) : List (Nat × Bool) → Act → World → Prop
  | [], a, W => E a W
  | (i, c) :: rest, a, W =>
    match ops[i]? with
    | none => False
    | some o =>
      if Region.wanted o (yielded ops a.tmps) = true then
        if c = true then o.wp P a W (fun a' w' => R W w' ∧ wpE R P ops Q E rest a' w') Q
        else ∃ v, (∀ w', R W w' → (execOp a.eval o).run P w' = .ok (.value v) w') ∧ wpE R P ops Q E rest (a.put o.dst v) W
      else wpE R P ops Q E rest (a.put o.dst undef) W

/-- The list is a way through the region, in which what changes the world comes up alone. -/
def eagerB (ops : Array Oper) : List (Nat × Bool) → Array Bool → Bool
  | [], listed => (Region.ready .any ops listed).isEmpty
  | (i, c) :: rest, listed =>
    (if c then Region.ready .any ops listed == [i] else (Region.free .any ops listed i && (Region.ready .any ops listed).contains i)) &&
      eagerB ops rest (listed.setIfInBounds i true)

theorem wpAnyH_of_E (rr : ∀ w, R w w) (rt : ∀ a b c, R a b → R b c → R a c) (hs : Region.noSelect ops = true) (hQ : ∀ c a d v w, Q (.panic c) (Act.put a (some d) v) w → Q (.panic c) a w) :
    ∀ (sched : List (Nat × Bool)) (listed : Array Bool) (a : Act) (W : World), eagerB ops sched listed = true → wpE R P ops Q (Q .normal) sched a W →
      wpAnyH P .any ops Q (R W) sched.length listed a W
  | [], listed, a, W, he, h => wpAnyH_done (by simpa [eagerB] using he) h 0
  | (i, c) :: rest, listed, a, W, he, h => by
    simp only [eagerB, Bool.and_eq_true] at he
    obtain ⟨h1, h2⟩ := he
    have ih := wpAnyH_of_E rr rt hs hQ rest (listed.setIfInBounds i true)
    unfold wpE at h
    split at h
    · exact h.elim
    · rename_i o ho
      cases c with
      | false =>
        simp only [Bool.false_eq_true, if_false, Bool.and_eq_true] at h1
        obtain ⟨hf, hr⟩ := h1
        split at h
        · rename_i hw
          simp only [Bool.false_eq_true, if_false] at h
          obtain ⟨v, hv, hn⟩ := h
          exact wpAnyH_take ho hs hf hr (fun c a w h => by cases hd : o.dst with | none => rw [hd] at h; exact h | some d => rw [hd] at h; exact hQ c a d _ w h) (.inl ⟨hw, hv⟩) (rr W) (ih _ _ h2 hn)
        · rename_i hw
          exact wpAnyH_take ho hs hf hr (fun c a w h => by cases hd : o.dst with | none => rw [hd] at h; exact h | some d => rw [hd] at h; exact hQ c a d _ w h) (.inr ⟨by simpa using hw, rfl⟩) (rr W) (ih _ _ h2 h)
      | true =>
        simp only [if_true, beq_iff_eq] at h1
        refine wpAnyH_all h1 (by simp) fun j hj => ?_
        obtain rfl : j = i := by simpa using hj
        unfold wpOp
        simp only [ho]
        split
        · rename_i hw
          simp only [hw, if_true] at h
          exact .inl (Oper.wp_mono (fun a' w' ⟨hx, hn⟩ => ⟨hx, wpAnyH_mono (fun x hx' => rt _ _ _ hx hx') _ _ _ _ (ih _ _ h2 hn)⟩) h)
        · rename_i hw
          simp only [hw] at h
          exact ⟨rr W, ih _ _ h2 h⟩

/-- **The region, by that walk**, whatever relation holds what is read. -/
theorem wp_region_eagerR (R : World → World → Prop) (rr : ∀ w, R w w) (rt : ∀ a b c, R a b → R b c → R a c) {id : Nat} {a : Act} {w : World} {l : List Oper} (sched : List (Nat × Bool)) (hm : P.follows .mixedOrders = true)
    (hs : Region.noSelect l.toArray = true) (hl : sched.length = l.toArray.size) (he : eagerB l.toArray sched (Array.replicate l.toArray.size false) = true)
    (hQ : ∀ c a d v w, Q (.panic c) (Act.put a (some d) v) w → Q (.panic c) a w) (h : wpE R P l.toArray Q (Q .normal) sched a w.drew) : (Code.region id l.toArray true).wp P Q a w := by
  have := wpAnyH_of_E rr rt hs hQ sched _ a w.drew he h
  rw [hl] at this
  exact wp_region_held (S := R w.drew) hm this

/-- **The region, by that walk**, all memory held. -/
theorem wp_region_eager {id : Nat} {a : Act} {w : World} {l : List Oper} (sched : List (Nat × Bool)) (hm : P.follows .mixedOrders = true)
    (hs : Region.noSelect l.toArray = true) (hl : sched.length = l.toArray.size) (he : eagerB l.toArray sched (Array.replicate l.toArray.size false) = true)
    (hQ : ∀ c a d v w, Q (.panic c) (Act.put a (some d) v) w → Q (.panic c) a w) (h : wpE Ext P l.toArray Q (Q .normal) sched a w.drew) : (Code.region id l.toArray true).wp P Q a w :=
  wp_region_eagerR Ext Ext.refl (fun _ _ _ h k => h.trans k) sched hm hs hl he hQ h

/-- The same, but for the block x, which may be written. -/
theorem wp_region_eagerX (x : Nat) {id : Nat} {a : Act} {w : World} {l : List Oper} (sched : List (Nat × Bool)) (hm : P.follows .mixedOrders = true)
    (hs : Region.noSelect l.toArray = true) (hl : sched.length = l.toArray.size) (he : eagerB l.toArray sched (Array.replicate l.toArray.size false) = true)
    (hQ : ∀ c a d v w, Q (.panic c) (Act.put a (some d) v) w → Q (.panic c) a w) (h : wpE (ExtX x) P l.toArray Q (Q .normal) sched a w.drew) : (Code.region id l.toArray true).wp P Q a w :=
  wp_region_eagerR (ExtX x) (ExtX.refl x) (fun _ _ _ h k => h.trans k) sched hm hs hl he hQ h

theorem wpE_read {l : List Oper} {i : Nat} {rest : List (Nat × Bool)} {a : Act} {W : World} {o : Oper} {v : Value} (ho : l[i]? = some o) (hw : Region.wanted o (yielded l.toArray a.tmps) = true)
    (hv : ∀ w', R W w' → (execOp a.eval o).run P w' = .ok (.value v) w') (h : wpE R P l.toArray Q E rest (a.put o.dst v) W) : wpE R P l.toArray Q E ((i, false) :: rest) a W := by
  unfold wpE; simp only [List.getElem?_toArray, ho, hw, if_true, Bool.false_eq_true, if_false]; exact ⟨v, hv, h⟩

theorem wpE_skip {l : List Oper} {i : Nat} {c : Bool} {rest : List (Nat × Bool)} {a : Act} {W : World} {o : Oper} (ho : l[i]? = some o) (hw : Region.wanted o (yielded l.toArray a.tmps) = false)
    (h : wpE R P l.toArray Q E rest (a.put o.dst undef) W) : wpE R P l.toArray Q E ((i, c) :: rest) a W := by
  unfold wpE; simp only [List.getElem?_toArray, ho, hw, Bool.false_eq_true, if_false]; exact h

theorem wpE_call {l : List Oper} {i : Nat} {rest : List (Nat × Bool)} {a : Act} {W : World} {o : Oper} (ho : l[i]? = some o) (hw : Region.wanted o (yielded l.toArray a.tmps) = true)
    (h : ∀ K : Act → World → Prop, (∀ a' w', R W w' → wpE R P l.toArray Q E rest a' w' → K a' w') → o.wp P a W K Q) : wpE R P l.toArray Q E ((i, true) :: rest) a W := by
  unfold wpE; simp only [List.getElem?_toArray, ho, hw, if_true]; exact h _ fun _ _ hx hn => ⟨hx, hn⟩

theorem wpE_done {a : Act} {W : World} (h : E a W) : wpE R P ops Q E [] a W := h

end
end Go.Proofs.YtkfhkhgiojpfoaaGreat

namespace Go.Proofs.YtkfhkhgiojpfoaaGreat

open Go.RowKit

theorem Ext.heap {A B : World} (hx : Ext A B) {b : Nat} {o : Obj} (h : A.heap[b]? = some o) : B.heap[b]? = some o := by
  have hlt : b < A.heap.size := by
    rcases Nat.lt_or_ge b A.heap.size with hl | hl
    · exact hl
    · simp [Array.getElem?_eq_none hl] at h
  exact (hx.block b hlt).trans h

section

variable {P : Program} {ops : Array Oper} {Q : Exit → Act → World → Prop} {R : World → World → Prop} {md : Region.Mode} {S : World → Prop} {T : List Nat}

/-- Whatever order is picked: S holds behind every operation but those of T. -/
def wpAnyL (P : Program) (md : Region.Mode) (ops : Array Oper) (Q : Exit → Act → World → Prop) (S : World → Prop) (T : List Nat) : Nat → Array Bool → Act → World → Prop
  | 0, listed, a, w => Region.ready md ops listed = [] ∧ Q .normal a w
  | fuel + 1, listed, a, w =>
    (Region.ready md ops listed = [] → Q .normal a w) ∧
    ∀ i ∈ Region.ready md ops listed, wpOp P ops Q i (fun a' w' => (T.contains i = false → S w') ∧ wpAnyL P md ops Q S T fuel (listed.setIfInBounds i true) a' w') a w

theorem wpAny_of_L : ∀ (fuel : Nat) (listed : Array Bool) (a : Act) (w : World), wpAnyL P md ops Q S T fuel listed a w → wpAny P md ops Q fuel listed a w
  | 0, _, _, _, h => h
  | fuel + 1, _, _, _, h => ⟨h.1, fun i hi => wpOp_mono (fun a' w' h' => wpAny_of_L fuel _ a' w' h'.2) (h.2 i hi)⟩

theorem wpAnyL_mono {S S' : World → Prop} (h : ∀ w, S w → S' w) : ∀ (fuel : Nat) (listed : Array Bool) (a : Act) (w : World),
    wpAnyL P md ops Q S T fuel listed a w → wpAnyL P md ops Q S' T fuel listed a w
  | 0, _, _, _, H => H
  | fuel + 1, _, _, _, H => ⟨H.1, fun i hi => wpOp_mono (fun a' w' h' => ⟨fun ht => h _ (h'.1 ht), wpAnyL_mono h fuel _ a' w' h'.2⟩) (H.2 i hi)⟩

theorem wpAnyL_done {listed : Array Bool} {a : Act} {w : World} (hr : Region.ready md ops listed = []) (h : Q .normal a w) :
    ∀ fuel, wpAnyL P md ops Q S T fuel listed a w
  | 0 => ⟨hr, h⟩
  | _ + 1 => ⟨fun _ => h, by rw [hr]; simp⟩

/-- A read for which all of T wait, maybe by way of others (D), may be taken first. -/
theorem wpAnyL_first {i : Nat} {oi : Oper} {v : Value} (hi : ops[i]? = some oi) (hsel : ∀ (j : Nat) (o : Oper) cs b, ops[j]? = some o → o.op ≠ .select cs b)
    (hQ : ∀ c a w, Q (.panic c) (a.put oi.dst v) w → Q (.panic c) a w) (D : List Nat) (hTD : ∀ j, T.contains j = true → D.contains j = true)
    (hD : ∀ j oj, ops[j]? = some oj → D.contains j = true → j = i ∨ ∃ e ∈ oj.after, Region.binds md e = true ∧ D.contains e.on = true) :
    ∀ (fuel : Nat) (listed : Array Bool) (a : Act) (w : World), (∀ j, D.contains j = true → listed.getD j true = false) →
      (∀ j oj, ops[j]? = some oj → j ≠ i → listed.getD j true = false → (∀ e ∈ oj.after, Region.binds md e = true → e.on ≠ i) → oi.apart ops oj = true) →
      i ∈ Region.ready md ops listed → YieldsIf P ops S oi v a → S w →
      wpAnyL P md ops Q S T fuel (listed.setIfInBounds i true) (a.put oi.dst v) w → wpAnyL P md ops Q S T (fuel + 1) listed a w := by
  intro fuel
  induction fuel with
  | zero =>
    intro listed a w _ _ hr hy hS H
    refine ⟨fun h => (by rw [h] at hr; cases hr), fun j hj => ?_⟩
    by_cases hji : j = i
    · subst hji; exact hy.wpOp hi hS ⟨fun _ => hS, H⟩
    · have := ready_mono hj hji
      rw [H.1] at this
      cases this
  | succ fuel ih =>
    intro listed a w hU hfree hr hy hS H
    refine ⟨fun h => (by rw [h] at hr; cases hr), fun j hj => ?_⟩
    by_cases hji : j = i
    · subst hji; exact hy.wpOp hi hS ⟨fun _ => hS, H⟩
    · have h1 := H.2 j (ready_mono hj hji)
      obtain ⟨hjun, oj, hoj, hall⟩ := mem_ready.1 hj
      have late : ∀ e ∈ oj.after, Region.binds md e = true → listed.getD e.on true = false → False := fun e he hb h0 => by
        have h1 := hall e he hb
        rcases Nat.lt_or_ge e.on listed.size with h' | h'
        · simp [h'] at h0 h1; rw [h0] at h1; cases h1
        · simp [Array.getElem?_eq_none h'] at h1
      have hnot : ∀ e ∈ oj.after, Region.binds md e = true → e.on ≠ i := fun e he hb heq => late e he hb (by rw [heq]; exact (mem_ready.1 hr).1)
      have hjD : D.contains j = false := by
        cases hc : D.contains j with
        | false => rfl
        | true =>
          rcases hD j oj hoj hc with h | ⟨e, he, hb, ho⟩
          · exact absurd h hji
          · exact (late e he hb (hU _ ho)).elim
      have hjT : T.contains j = false := by
        cases hc : T.contains j with
        | false => rfl
        | true => rw [hTD j hc] at hjD; cases hjD
      have h2 := wpOp_putIf hoj (hfree j oj hoj hji hjun hnot) (fun cs b => hsel i oi cs b hi) (fun cs b => hsel j oj cs b hoj) hQ hy h1
      have hU' : ∀ k, D.contains k = true → (listed.setIfInBounds j true).getD k true = false := fun k hk => by
        by_cases hjk : j = k
        · subst hjk; rw [hjD] at hk; cases hk
        · rw [getD_set_ne true hjk]; exact hU k hk
      have hfree' : ∀ k ok, ops[k]? = some ok → k ≠ i → (listed.setIfInBounds j true).getD k true = false →
          (∀ e ∈ ok.after, Region.binds md e = true → e.on ≠ i) → oi.apart ops ok = true := fun k ok hk hki hun hno => by
        refine hfree k ok hk hki ?_ hno
        by_cases hjk : j = k
        · subst hjk; exact hjun
        · rw [getD_set_ne true hjk] at hun; exact hun
      refine wpOp_mono (fun a' w' h3 => ⟨h3.2.1, ih (listed.setIfInBounds j true) a' w' hU' hfree' (ready_mono hr (Ne.symm hji)) h3.1 (h3.2.1 hjT) ?_⟩) h2
      rw [Array.setIfInBounds_comm _ _ hji]
      exact h3.2.2

/-- What waits for i, maybe by way of others. -/
def lateB (ops : Array Oper) (i : Nat) : Nat → List Nat
  | 0 => [i]
  | k + 1 => (List.range ops.size).filter fun j => (lateB ops i k).contains j || match ops[j]? with
    | none => false
    | some o => o.after.any fun e => Region.binds .any e && (lateB ops i k).contains e.on

/-- All of T wait for i. -/
def waitB (ops : Array Oper) (T : List Nat) (listed : Array Bool) (i : Nat) (D : List Nat) : Bool :=
  T.all D.contains && D.all fun j => !listed.getD j true && (j == i || match ops[j]? with
    | none => true
    | some o => o.after.any fun e => Region.binds .any e && D.contains e.on)

theorem waitB_spec {i : Nat} {listed : Array Bool} {D : List Nat} (h : waitB ops T listed i D = true) :
    (∀ j, T.contains j = true → D.contains j = true) ∧ (∀ j oj, ops[j]? = some oj → D.contains j = true → j = i ∨ ∃ e ∈ oj.after, Region.binds .any e = true ∧ D.contains e.on = true) ∧
    ∀ j, D.contains j = true → listed.getD j true = false := by
  simp only [waitB, Bool.and_eq_true] at h
  refine ⟨fun j hj => List.all_eq_true.1 h.1 j (by simpa using hj), fun j oj hoj hj => ?_, fun j hj => ?_⟩
  · have h1 := List.all_eq_true.1 h.2 j (by simpa using hj)
    simp only [Bool.and_eq_true, Bool.or_eq_true, beq_iff_eq, hoj] at h1
    rcases h1.2 with h2 | h2
    · exact .inl h2
    · obtain ⟨k, hk, hb⟩ := Array.any_eq_true.1 h2
      simp only [Bool.and_eq_true] at hb
      exact .inr ⟨_, Array.getElem_mem hk, hb.1, hb.2⟩
  · have h1 := List.all_eq_true.1 h.2 j (by simpa using hj)
    simp only [Bool.and_eq_true] at h1
    simpa using h1.1

/-- The walk: kinds as in wpE; behind it the stores of T, one by one. -/
def wpT (P : Program) (ops : Array Oper) (Q : Exit → Act → World → Prop) : List Nat → Act → World → Prop
  | [], a, W => Q .normal a W
  | i :: rest, a, W =>
    match ops[i]? with
    | none => False
    | some o => Region.wanted o (yielded ops a.tmps) = true ∧ o.wp P a W (fun a' w' => wpT P ops Q rest a' w') Q

def tailB (ops : Array Oper) : List Nat → Array Bool → Bool
  | [], listed => (Region.ready .any ops listed).isEmpty
  | i :: rest, listed => Region.ready .any ops listed == [i] && tailB ops rest (listed.setIfInBounds i true)

theorem wpAnyL_of_T (S : World → Prop) : ∀ (l : List Nat) (listed : Array Bool) (a : Act) (W : World), (∀ i ∈ l, T.contains i = true) → tailB ops l listed = true → wpT P ops Q l a W →
    wpAnyL P .any ops Q S T l.length listed a W
  | [], listed, a, W, _, he, h => wpAnyL_done (by simpa [tailB] using he) h 0
  | i :: rest, listed, a, W, hT, he, h => by
    simp only [tailB, Bool.and_eq_true, beq_iff_eq] at he
    unfold wpT at h
    split at h
    · exact h.elim
    · rename_i o ho
      refine ⟨fun h0 => (by rw [he.1] at h0; cases h0), fun j hj => ?_⟩
      rw [he.1] at hj
      obtain rfl : j = i := by simpa using hj
      unfold wpOp
      simp only [ho, h.1, if_true]
      exact .inl (Oper.wp_mono (fun a' w' hn => ⟨fun hc => absurd (hT j (by simp)) (by rw [hc]; decide), wpAnyL_of_T S rest _ a' w' (fun k hk => hT k (by simp [hk])) he.2 hn⟩) h.2)

def eagerT (ops : Array Oper) (T : List Nat) : List (Nat × Bool) → Array Bool → Bool
  | [], listed => tailB ops T listed
  | (i, c) :: rest, listed =>
    (if c then Region.ready .any ops listed == [i] && !T.contains i else (Region.free .any ops listed i && (Region.ready .any ops listed).contains i && waitB ops T listed i (lateB ops i 4))) &&
      eagerT ops T rest (listed.setIfInBounds i true)

theorem wpT_step {l : List Oper} {i : Nat} {rest : List Nat} {a : Act} {W : World} {o : Oper} (ho : l[i]? = some o) (hw : Region.wanted o (yielded l.toArray a.tmps) = true)
    (h : ∀ K : Act → World → Prop, (∀ a' w', wpT P l.toArray Q rest a' w' → K a' w') → o.wp P a W K Q) : wpT P l.toArray Q (i :: rest) a W := by
  unfold wpT; simp only [List.getElem?_toArray, ho]; exact ⟨hw, h _ fun _ _ hn => hn⟩

theorem wpT_done {a : Act} {W : World} (h : Q .normal a W) : wpT P ops Q [] a W := h

end
end Go.Proofs.YtkfhkhgiojpfoaaGreat
