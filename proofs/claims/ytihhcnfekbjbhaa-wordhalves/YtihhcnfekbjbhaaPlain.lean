/- Plain facts on bytes: numbers that are put together out of bytes, and slices of bytes in memory. -/
import Derived.WalkKit
import Derived.WalkSpells
import Derived.Laws.BitsLemmas
import Derived.Laws.BitsAllLaws
import Derived.Laws.BytesArg
import Derived.Below
import Derived.OpenShut
namespace Go.Proofs.Ytihhcnfekbjbhaa
open Go.RowKit

theorem wraps_i64 (n : Int) (h0 : 0 ≤ n) (h1 : n < 2 ^ 63) : IntKind.i64.wrap n = n := by rw [IntKind.wrap_i64]; omega

theorem wrapsU32 (n : Int) (h0 : 0 ≤ n) (h1 : n < 2 ^ 32) : IntKind.u32.wrap n = n := by rw [IntKind.wrap_u32]; omega

theorem i64_or8 (x y : Int) (hx0 : 0 ≤ x) (hx1 : x < 36028797018963968) (hy0 : 0 ≤ y) (hy : y < 256) : bits .or .i64 (x * 256) y = x * 256 + y :=
  bits_join .i64 63 (by decide) wraps_i64 8 (x * 256) y (by omega) (by omega) (by omega) hy0 hy (by omega)

theorem u32_or8' (x y : Int) (hx0 : 0 ≤ x) (hx1 : x < 16777216) (hy0 : 0 ≤ y) (hy : y < 256) : bits .or .u32 (x * 256) y = x * 256 + y :=
  bits_join .u32 32 (by decide) wrapsU32 8 (x * 256) y (by omega) (by omega) (by omega) hy0 hy (by omega)

theorem u32_or16' (x y : Int) (hx0 : 0 ≤ x) (hx1 : x < 65536) (hy0 : 0 ≤ y) (hy : y < 65536) : bits .or .u32 (x * 65536) y = x * 65536 + y :=
  bits_join .u32 32 (by decide) wrapsU32 16 (x * 65536) y (by omega) (by omega) (by omega) hy0 hy (by omega)

theorem or4 (a b c d : Int) (a0 : 0 ≤ a) (a1 : a ≤ 255) (b0 : 0 ≤ b) (b1 : b ≤ 255) (c0 : 0 ≤ c) (c1 : c ≤ 255) (d0 : 0 ≤ d) (d1 : d ≤ 255) :
    bits .or .u32 (bits .or .u32 (bits .or .u32 (a * 16777216) (b * 65536)) (c * 256)) d = ((a * 256 + b) * 256 + c) * 256 + d := by
  rw [bits_join .u32 32 (by decide) wrapsU32 24 (a * 16777216) (b * 65536) (by omega) (by omega) (by omega) (by omega) (by omega) (by omega),
    bits_join .u32 32 (by decide) wrapsU32 16 (a * 16777216 + b * 65536) (c * 256) (by omega) (by omega) (by omega) (by omega) (by omega) (by omega),
    bits_join .u32 32 (by decide) wrapsU32 8 (a * 16777216 + b * 65536 + c * 256) d (by omega) (by omega) (by omega) (by omega) (by omega) (by omega)]
  omega

/-- The byte at a place, 0 where there is none. -/
def byteV (xs : List Int) (i : Int) : Int := if 0 ≤ i then xs[i.toNat]?.getD 0 else 0

/-- Two bytes as a number. -/
def get16V (xs : List Int) (p : Int) : Int := byteV xs p * 256 + byteV xs (p + 1)

/-- The first k bytes from p on as a number. -/
def accV (xs : List Int) (p : Int) : Nat → Int
  | 0 => 0
  | k + 1 => accV xs p k * 256 + byteV xs (p + k)

/-- Each number is a byte. -/
def BytesOk (xs : List Int) : Prop := ∀ x ∈ xs, 0 ≤ x ∧ x ≤ 255

theorem BytesOk.get {xs : List Int} (h : BytesOk xs) (k : Nat) : 0 ≤ xs[k]?.getD 0 ∧ xs[k]?.getD 0 ≤ 255 := by
  rcases Nat.lt_or_ge k xs.length with hk | hk
  · simp only [List.getElem?_eq_getElem hk, Option.getD_some]; exact h _ (List.getElem_mem hk)
  · simp [List.getElem?_eq_none hk]

theorem BytesOk.byteV {xs : List Int} (h : BytesOk xs) (i : Int) : 0 ≤ byteV xs i ∧ byteV xs i ≤ 255 := by
  unfold Go.Proofs.Ytihhcnfekbjbhaa.byteV
  split
  · exact h.get _
  · omega

theorem byteV_neg {xs : List Int} {i : Int} (h : i < 0) : byteV xs i = 0 := by unfold byteV; rw [if_neg (by omega)]
theorem byteV_past {xs : List Int} {i : Int} (h : (xs.length : Int) ≤ i) : byteV xs i = 0 := by
  unfold byteV; split
  · rw [List.getElem?_eq_none (by omega)]; rfl
  · rfl
theorem byteV_nat (xs : List Int) (k : Nat) : byteV xs k = xs[k]?.getD 0 := by unfold byteV; rw [if_pos (by omega)]; simp

theorem accV_four (xs : List Int) (p : Int) : accV xs p 4 = ((byteV xs p * 256 + byteV xs (p + 1)) * 256 + byteV xs (p + 2)) * 256 + byteV xs (p + 3) := by
  simp [accV]

theorem accV_bd {xs : List Int} (h : BytesOk xs) (p : Int) :
    accV xs p 0 = 0 ∧ (0 ≤ accV xs p 1 ∧ accV xs p 1 < 256) ∧ (0 ≤ accV xs p 2 ∧ accV xs p 2 < 65536) ∧ (0 ≤ accV xs p 3 ∧ accV xs p 3 < 16777216) ∧ (0 ≤ accV xs p 4 ∧ accV xs p 4 < 4294967296) := by
  have b0 := h.byteV (p + (0 : Nat))
  have b1 := h.byteV (p + (1 : Nat))
  have b2 := h.byteV (p + (2 : Nat))
  have b3 := h.byteV (p + (3 : Nat))
  have e1 : accV xs p 1 = accV xs p 0 * 256 + byteV xs (p + (0 : Nat)) := rfl
  have e2 : accV xs p 2 = accV xs p 1 * 256 + byteV xs (p + (1 : Nat)) := rfl
  have e3 : accV xs p 3 = accV xs p 2 * 256 + byteV xs (p + (2 : Nat)) := rfl
  have e4 : accV xs p 4 = accV xs p 3 * 256 + byteV xs (p + (3 : Nat)) := rfl
  have e0 : accV xs p 0 = 0 := rfl
  omega

theorem acc_lt {xs : List Int} (h : BytesOk xs) (p : Int) (k : Nat) (hk : k ≤ 3) : 0 ≤ accV xs p k ∧ accV xs p k < 16777216 := by
  have hb := accV_bd h p
  match k, hk with
  | 0, _ => omega
  | 1, _ => omega
  | 2, _ => omega
  | 3, _ => omega

theorem get16V_bd {xs : List Int} (h : BytesOk xs) (p : Int) : 0 ≤ get16V xs p ∧ get16V xs p ≤ 65535 := by
  have b0 := h.byteV p
  have b1 := h.byteV (p + 1)
  unfold get16V; omega

theorem acc_halves (xs : List Int) (p : Int) : accV xs p 4 = get16V xs p * 65536 + get16V xs (p + 2) := by
  rw [accV_four]; unfold get16V
  rw [show p + 2 + 1 = p + 3 by omega]
  omega

/-! Slices of bytes in memory. -/

/-- A slice of integers that came in: nil, or a row of cells, the numbers zs. -/
def IsRow (k : IntKind) (w : World) (a : Option Addr) (len cap : Nat) (zs : List Int) : Prop :=
  (a = none ∧ len = 0 ∧ cap = 0 ∧ zs = []) ∨
  ∃ x, a = some x ∧ len ≤ cap ∧ cap ≤ maxLen ∧ zs.length = cap ∧ (∀ i, i < zs.length → w.cell? (x.add i) = some (.int k (zs.getD i 0))) ∧ ∀ n ∈ zs, (Lit.int k n).wf = true

/-- The slice (a, len) reads as the bytes xs. -/
structure Bytes (w : World) (a : Option Addr) (len : Nat) (xs : List Int) : Prop where
  length : xs.length = len
  small : len ≤ 9223372036854775807
  ok : BytesOk xs
  cells : len = 0 ∨ ∃ b off, a = some ⟨b, off, none⟩ ∧ ∀ i, i < len → w.cell? ⟨b, off + i, none⟩ = some (.int .u8 (xs[i]?.getD 0))

theorem Bytes.cell {w : World} {a : Option Addr} {len : Nat} {xs : List Int} (h : Bytes w a len xs) {k : Nat} (hk : k < len) :
    ∃ b off, a = some ⟨b, off, none⟩ ∧ w.cell? ⟨b, off + k, none⟩ = some (.int .u8 (xs[k]?.getD 0)) := by
  rcases h.cells with h0 | ⟨b, off, rfl, hc⟩
  · omega
  · exact ⟨b, off, rfl, hc k hk⟩

theorem block_lt {w : World} {x : Addr} {v : Value} (h : w.cell? x = some v) : x.block < w.heap.size := by
  rcases Nat.lt_or_ge x.block w.heap.size with hl | hl
  · exact hl
  · simp [World.cell?, Array.getElem?_eq_none hl] at h

theorem Bytes.below {w w' : World} {a : Option Addr} {len : Nat} {xs : List Int} (h : Bytes w a len xs) (hb : Below w.heap.size w w') : Bytes w' a len xs := by
  refine ⟨h.length, h.small, h.ok, ?_⟩
  rcases h.cells with h0 | ⟨b, off, rfl, hc⟩
  · exact .inl h0
  · exact .inr ⟨b, off, rfl, fun i hi => by rw [hb.cell (p := ⟨b, off + i, none⟩) (block_lt (hc i hi))]; exact hc i hi⟩

theorem IsRow.bytes {w : World} {a : Option Addr} {len cap : Nat} {zs : List Int} (h : IsRow .u8 w a len cap zs) : Bytes w a len (zs.take len) := by
  rcases h with ⟨rfl, rfl, rfl, rfl⟩ | ⟨x, rfl, hl, hm, hz, hcell, hwz⟩
  · exact ⟨rfl, by omega, by intro x hx; simp at hx, .inl rfl⟩
  · unfold maxLen at hm
    refine ⟨by simp; omega, by omega, ?_, ?_⟩
    · intro y hy
      have hy := List.mem_of_mem_take hy
      exact bounds_u8 (hwz y hy)
    · by_cases h0 : len = 0
      · exact .inl h0
      · obtain ⟨b, off, spot⟩ := x
        have hspot : spot = none := by simpa [Addr.add] using World.cell?_spot (hcell 0 (by omega))
        subst hspot
        refine .inr ⟨b, off, rfl, fun i hi => ?_⟩
        have hc := hcell i (by omega)
        have e : (zs.take len)[i]? = zs[i]? := by rw [List.getElem?_take, if_pos hi]
        rw [e]
        by_cases h0 : i = 0
        · subst h0; simpa [Addr.add] using hc
        · simpa [Addr.add, h0] using hc

theorem Bytes.new (w : World) (t : TypeId) (xs : List Int) (h : BytesOk xs) (hs : xs.length ≤ 9223372036854775807) :
    Bytes (w.alloc (.cells (xs.map (Value.int .u8)).toArray t)) (some ⟨w.heap.size, 0, none⟩) xs.length xs :=
  ⟨rfl, hs, h, .inr ⟨_, _, rfl, fun i hi => by
    rw [World.cell?_alloc_at _ _ _ _ rfl]; simp [hi]⟩⟩

theorem Bytes.string {P : Program} {w : World} {a : Option Addr} {len : Nat} {xs : List Int} (h : Bytes w a len xs) (cap : Nat) (src e dst : TypeId)
    (hs : P.underlying src = some (.slice e)) (he : P.underlying e = some (.int .u8)) (hd : P.underlying dst = some .string) :
    (convert src dst (.slice a len cap)).run P w = .ok (.string (strOfNums xs)) w := by
  rcases h.cells with h0 | ⟨b, off, rfl, hc⟩
  · subst h0
    obtain rfl : xs = [] := List.length_eq_zero_iff.1 h.length
    cases a with
    | none => rw [run_convert_bytes_nil w src e hs he 0 cap dst hd]; rfl
    | some x =>
      rw [run_convert_bytes_string w src dst e _ 0 cap hs he hd, run_bytesToString w _ 0 cap [] (by simpa using run_loadCells_list (P := P) w x [] (by simp))]
      rfl
  · exact run_convert_bytes_arg w src e hs he b off len cap xs h.length (fun i hi => by simpa using hc i hi) dst hd

end Go.Proofs.Ytihhcnfekbjbhaa
