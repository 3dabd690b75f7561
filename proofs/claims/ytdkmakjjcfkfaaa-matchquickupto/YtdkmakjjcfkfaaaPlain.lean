/- Plain facts on bytes: numbers that are put together out of bytes, and slices of bytes in memory. -/
import Derived.WalkKit
import Derived.WalkSpells
import Derived.Laws.BitsLemmas
import Derived.Laws.BitsAllLaws
import Derived.Laws.BytesArg
import Derived.Laws.AppendOwn
import Derived.Laws.AppendOwnNone
import Derived.Laws.CopyOwn
import Derived.Laws.OwnMore
import Derived.Below
import Derived.OpenShut
namespace Go.Proofs.Ytdkmakjjcfkfaaa
open Go.RowKit

theorem wraps_i64 (n : Int) (h0 : 0 ≤ n) (h1 : n < 2 ^ 63) : IntKind.i64.wrap n = n := by rw [IntKind.wrap_i64]; omega

theorem wrapsU32 (n : Int) (h0 : 0 ≤ n) (h1 : n < 2 ^ 32) : IntKind.u32.wrap n = n := by rw [IntKind.wrap_u32]; omega

theorem i64_or8 (x y : Int) (hx0 : 0 ≤ x) (hx1 : x < 36028797018963968) (hy0 : 0 ≤ y) (hy : y < 256) : bits .or .i64 (x * 256) y = x * 256 + y :=
  bits_join .i64 63 (by decide) wraps_i64 8 (x * 256) y (by omega) (by omega) (by omega) hy0 hy (by omega)

theorem u32_or8' (x y : Int) (hx0 : 0 ≤ x) (hx1 : x < 16777216) (hy0 : 0 ≤ y) (hy : y < 256) : bits .or .u32 (x * 256) y = x * 256 + y :=
  bits_join .u32 32 (by decide) wrapsU32 8 (x * 256) y (by omega) (by omega) (by omega) hy0 hy (by omega)

theorem u32_or16' (x y : Int) (hx0 : 0 ≤ x) (hx1 : x < 65536) (hy0 : 0 ≤ y) (hy : y < 65536) : bits .or .u32 (x * 65536) y = x * 65536 + y :=
  bits_join .u32 32 (by decide) wrapsU32 16 (x * 65536) y (by omega) (by omega) (by omega) hy0 hy (by omega)

theorem or4 (a b c d : Int) (a0 : 0 ≤ a) (a1 : a ≤ 255) (b0 : 0 ≤ b) (b1 : b ≤ 255) (c0 : 0 ≤ c) (c1 : c ≤ 255) (d0 : 0 ≤ d) (d1 : d ≤ 255) :
    bits .or .u32 (bits .or .u32 (bits .or .u32 (a * 16777216) (b * 65536)) (c * 256)) d = ((a * 256 + b) * 256 + c) * 256 + d := by
  rw [bits_join .u32 32 (by decide) wrapsU32 24 (a * 16777216) (b * 65536) (by omega) (by omega) (by omega) (by omega) (by omega) (by omega),
    bits_join .u32 32 (by decide) wrapsU32 16 (a * 16777216 + b * 65536) (c * 256) (by omega) (by omega) (by omega) (by omega) (by omega) (by omega),
    bits_join .u32 32 (by decide) wrapsU32 8 (a * 16777216 + b * 65536 + c * 256) d (by omega) (by omega) (by omega) (by omega) (by omega) (by omega)]
  omega

/-- The byte at a place, 0 where there is none. -/
def byteV (xs : List Int) (i : Int) : Int := if 0 ≤ i then xs[i.toNat]?.getD 0 else 0

/-- Two bytes as a number. -/
def get16V (xs : List Int) (p : Int) : Int := byteV xs p * 256 + byteV xs (p + 1)

/-- The first k bytes from p on as a number. -/
def accV (xs : List Int) (p : Int) : Nat → Int
  | 0 => 0
  | k + 1 => accV xs p k * 256 + byteV xs (p + k)

/-- Each number is a byte. -/
def BytesOk (xs : List Int) : Prop := ∀ x ∈ xs, 0 ≤ x ∧ x ≤ 255

theorem BytesOk.get {xs : List Int} (h : BytesOk xs) (k : Nat) : 0 ≤ xs[k]?.getD 0 ∧ xs[k]?.getD 0 ≤ 255 := by
  rcases Nat.lt_or_ge k xs.length with hk | hk
  · simp only [List.getElem?_eq_getElem hk, Option.getD_some]; exact h _ (List.getElem_mem hk)
  · simp [List.getElem?_eq_none hk]

theorem BytesOk.byteV {xs : List Int} (h : BytesOk xs) (i : Int) : 0 ≤ byteV xs i ∧ byteV xs i ≤ 255 := by
  unfold Go.Proofs.Ytdkmakjjcfkfaaa.byteV
  split
  · exact h.get _
  · omega

theorem byteV_neg {xs : List Int} {i : Int} (h : i < 0) : byteV xs i = 0 := by unfold byteV; rw [if_neg (by omega)]
theorem byteV_past {xs : List Int} {i : Int} (h : (xs.length : Int) ≤ i) : byteV xs i = 0 := by
  unfold byteV; split
  · rw [List.getElem?_eq_none (by omega)]; rfl
  · rfl
theorem byteV_nat (xs : List Int) (k : Nat) : byteV xs k = xs[k]?.getD 0 := by unfold byteV; rw [if_pos (by omega)]; simp

theorem accV_four (xs : List Int) (p : Int) : accV xs p 4 = ((byteV xs p * 256 + byteV xs (p + 1)) * 256 + byteV xs (p + 2)) * 256 + byteV xs (p + 3) := by
  simp [accV]

theorem accV_bd {xs : List Int} (h : BytesOk xs) (p : Int) :
    accV xs p 0 = 0 ∧ (0 ≤ accV xs p 1 ∧ accV xs p 1 < 256) ∧ (0 ≤ accV xs p 2 ∧ accV xs p 2 < 65536) ∧ (0 ≤ accV xs p 3 ∧ accV xs p 3 < 16777216) ∧ (0 ≤ accV xs p 4 ∧ accV xs p 4 < 4294967296) := by
  have b0 := h.byteV (p + (0 : Nat))
  have b1 := h.byteV (p + (1 : Nat))
  have b2 := h.byteV (p + (2 : Nat))
  have b3 := h.byteV (p + (3 : Nat))
  have e1 : accV xs p 1 = accV xs p 0 * 256 + byteV xs (p + (0 : Nat)) := rfl
  have e2 : accV xs p 2 = accV xs p 1 * 256 + byteV xs (p + (1 : Nat)) := rfl
  have e3 : accV xs p 3 = accV xs p 2 * 256 + byteV xs (p + (2 : Nat)) := rfl
  have e4 : accV xs p 4 = accV xs p 3 * 256 + byteV xs (p + (3 : Nat)) := rfl
  have e0 : accV xs p 0 = 0 := rfl
  omega

theorem acc_lt {xs : List Int} (h : BytesOk xs) (p : Int) (k : Nat) (hk : k ≤ 3) : 0 ≤ accV xs p k ∧ accV xs p k < 16777216 := by
  have hb := accV_bd h p
  match k, hk with
  | 0, _ => omega
  | 1, _ => omega
  | 2, _ => omega
  | 3, _ => omega

theorem get16V_bd {xs : List Int} (h : BytesOk xs) (p : Int) : 0 ≤ get16V xs p ∧ get16V xs p ≤ 65535 := by
  have b0 := h.byteV p
  have b1 := h.byteV (p + 1)
  unfold get16V; omega

theorem acc_halves (xs : List Int) (p : Int) : accV xs p 4 = get16V xs p * 65536 + get16V xs (p + 2) := by
  rw [accV_four]; unfold get16V
  rw [show p + 2 + 1 = p + 3 by omega]
  omega

/-! Slices of bytes in memory. -/

/-- A slice of integers that came in: nil, or a row of cells, the numbers zs. -/
def IsRow (k : IntKind) (w : World) (a : Option Addr) (len cap : Nat) (zs : List Int) : Prop :=
  (a = none ∧ len = 0 ∧ cap = 0 ∧ zs = []) ∨
  ∃ x, a = some x ∧ len ≤ cap ∧ cap ≤ maxLen ∧ zs.length = cap ∧ (∀ i, i < zs.length → w.cell? (x.add i) = some (.int k (zs.getD i 0))) ∧ ∀ n ∈ zs, (Lit.int k n).wf = true

/-- The slice (a, len) reads as the bytes xs. -/
structure Bytes (w : World) (a : Option Addr) (len : Nat) (xs : List Int) : Prop where
  length : xs.length = len
  small : len ≤ 9223372036854775807
  ok : BytesOk xs
  cells : len = 0 ∨ ∃ b off, a = some ⟨b, off, none⟩ ∧ ∀ i, i < len → w.cell? ⟨b, off + i, none⟩ = some (.int .u8 (xs[i]?.getD 0))

theorem Bytes.cell {w : World} {a : Option Addr} {len : Nat} {xs : List Int} (h : Bytes w a len xs) {k : Nat} (hk : k < len) :
    ∃ b off, a = some ⟨b, off, none⟩ ∧ w.cell? ⟨b, off + k, none⟩ = some (.int .u8 (xs[k]?.getD 0)) := by
  rcases h.cells with h0 | ⟨b, off, rfl, hc⟩
  · omega
  · exact ⟨b, off, rfl, hc k hk⟩

theorem block_lt {w : World} {x : Addr} {v : Value} (h : w.cell? x = some v) : x.block < w.heap.size := by
  rcases Nat.lt_or_ge x.block w.heap.size with hl | hl
  · exact hl
  · simp [World.cell?, Array.getElem?_eq_none hl] at h

theorem Bytes.below {w w' : World} {a : Option Addr} {len : Nat} {xs : List Int} (h : Bytes w a len xs) (hb : Below w.heap.size w w') : Bytes w' a len xs := by
  refine ⟨h.length, h.small, h.ok, ?_⟩
  rcases h.cells with h0 | ⟨b, off, rfl, hc⟩
  · exact .inl h0
  · exact .inr ⟨b, off, rfl, fun i hi => by rw [hb.cell (p := ⟨b, off + i, none⟩) (block_lt (hc i hi))]; exact hc i hi⟩

theorem IsRow.bytes {w : World} {a : Option Addr} {len cap : Nat} {zs : List Int} (h : IsRow .u8 w a len cap zs) : Bytes w a len (zs.take len) := by
  rcases h with ⟨rfl, rfl, rfl, rfl⟩ | ⟨x, rfl, hl, hm, hz, hcell, hwz⟩
  · exact ⟨rfl, by omega, by intro x hx; simp at hx, .inl rfl⟩
  · unfold maxLen at hm
    refine ⟨by simp; omega, by omega, ?_, ?_⟩
    · intro y hy
      have hy := List.mem_of_mem_take hy
      exact bounds_u8 (hwz y hy)
    · by_cases h0 : len = 0
      · exact .inl h0
      · obtain ⟨b, off, spot⟩ := x
        have hspot : spot = none := by simpa [Addr.add] using World.cell?_spot (hcell 0 (by omega))
        subst hspot
        refine .inr ⟨b, off, rfl, fun i hi => ?_⟩
        have hc := hcell i (by omega)
        have e : (zs.take len)[i]? = zs[i]? := by rw [List.getElem?_take, if_pos hi]
        rw [e]
        by_cases h0 : i = 0
        · subst h0; simpa [Addr.add] using hc
        · simpa [Addr.add, h0] using hc

theorem Bytes.new (w : World) (t : TypeId) (xs : List Int) (h : BytesOk xs) (hs : xs.length ≤ 9223372036854775807) :
    Bytes (w.alloc (.cells (xs.map (Value.int .u8)).toArray t)) (some ⟨w.heap.size, 0, none⟩) xs.length xs :=
  ⟨rfl, hs, h, .inr ⟨_, _, rfl, fun i hi => by
    rw [World.cell?_alloc_at _ _ _ _ rfl]; simp [hi]⟩⟩

theorem Bytes.string {P : Program} {w : World} {a : Option Addr} {len : Nat} {xs : List Int} (h : Bytes w a len xs) (cap : Nat) (src e dst : TypeId)
    (hs : P.underlying src = some (.slice e)) (he : P.underlying e = some (.int .u8)) (hd : P.underlying dst = some .string) :
    (convert src dst (.slice a len cap)).run P w = .ok (.string (strOfNums xs)) w := by
  rcases h.cells with h0 | ⟨b, off, rfl, hc⟩
  · subst h0
    obtain rfl : xs = [] := List.length_eq_zero_iff.1 h.length
    cases a with
    | none => rw [run_convert_bytes_nil w src e hs he 0 cap dst hd]; rfl
    | some x =>
      rw [run_convert_bytes_string w src dst e _ 0 cap hs he hd, run_bytesToString w _ 0 cap [] (by simpa using run_loadCells_list (P := P) w x [] (by simp))]
      rfl
  · exact run_convert_bytes_arg w src e hs he b off len cap xs h.length (fun i hi => by simpa using hc i hi) dst hd

/-- A slice of slices of bytes. -/
structure BytesL (w : World) (a : Option Addr) (len : Nat) (L : List (List Int)) : Prop where
  length : L.length = len
  small : len ≤ 9223372036854775807
  cells : len = 0 ∨ ∃ b off, a = some ⟨b, off, none⟩ ∧ ∀ i, i < len → ∃ p n c, w.cell? ⟨b, off + i, none⟩ = some (.slice p n c) ∧ Bytes w p n (L[i]?.getD []) ∧ (p = none → c = 0)

theorem BytesL.cell {w : World} {a : Option Addr} {len : Nat} {L : List (List Int)} (h : BytesL w a len L) {k : Nat} (hk : k < len) :
    ∃ b off p n c, a = some ⟨b, off, none⟩ ∧ w.cell? ⟨b, off + k, none⟩ = some (.slice p n c) ∧ Bytes w p n (L[k]?.getD []) ∧ (p = none → c = 0) := by
  rcases h.cells with h0 | ⟨b, off, rfl, hc⟩
  · omega
  · obtain ⟨p, n, c, h1, h2, h3⟩ := hc k hk
    exact ⟨b, off, p, n, c, rfl, h1, h2, h3⟩

theorem BytesL.below {w w' : World} {a : Option Addr} {len : Nat} {L : List (List Int)} (h : BytesL w a len L) (hb : Below w.heap.size w w') : BytesL w' a len L := by
  refine ⟨h.length, h.small, ?_⟩
  rcases h.cells with h0 | ⟨b, off, rfl, hc⟩
  · exact .inl h0
  · refine .inr ⟨b, off, rfl, fun i hi => ?_⟩
    obtain ⟨p, n, c, h1, h2, h3⟩ := hc i hi
    exact ⟨p, n, c, by rw [hb.cell (p := ⟨b, off + i, none⟩) (block_lt h1)]; exact h1, h2.below hb, h3⟩

theorem BytesL.new (w : World) (t : TypeId) (vs : List Value) (L : List (List Int)) (hs : L.length ≤ 9223372036854775807)
    (h : ∀ i, i < L.length → ∃ p n c, vs[i]? = some (.slice p n c) ∧ Bytes w p n (L[i]?.getD []) ∧ (p = none → c = 0)) :
    BytesL (w.alloc (.cells vs.toArray t)) (some ⟨w.heap.size, 0, none⟩) L.length L :=
  ⟨rfl, hs, .inr ⟨_, _, rfl, fun i hi => by
    obtain ⟨p, n, c, h1, h2, h3⟩ := h i hi
    exact ⟨p, n, c, by rw [World.cell?_alloc_at _ _ _ _ rfl]; simpa using h1, h2.below ((Below.refl _ _).alloc (Nat.le_refl _) _), h3⟩⟩⟩

theorem byteV_append (xs ys : List Int) (j : Nat) (p : Int) (hp : p = xs.length + j) : byteV (xs ++ ys) p = byteV ys j := by
  subst hp
  rw [show ((xs.length : Int) + (j : Int)) = ((xs.length + j : Nat) : Int) by omega, byteV_nat, byteV_nat, List.getElem?_append_right (by omega)]
  simp

theorem IsRow.nil_cap {k : IntKind} {w : World} {a : Option Addr} {len cap : Nat} {zs : List Int} (h : IsRow k w a len cap zs) : a = none → cap = 0 := by
  rcases h with ⟨rfl, rfl, rfl, rfl⟩ | ⟨x, rfl, _⟩
  · exact fun _ => rfl
  · simp

theorem IsRow.le {k : IntKind} {w : World} {a : Option Addr} {len cap : Nat} {zs : List Int} (h : IsRow k w a len cap zs) : len ≤ cap := by
  rcases h with ⟨rfl, rfl, rfl, rfl⟩ | ⟨x, rfl, hl, _⟩
  · exact Nat.le_refl _
  · exact hl

theorem Bytes.take {w : World} {a : Option Addr} {len : Nat} {xs : List Int} (h : Bytes w a len xs) {n : Nat} (hn : n ≤ len) : Bytes w a n (xs.take n) := by
  have hl := h.length
  have hs := h.small
  refine ⟨by simp; omega, by omega, fun x hx => h.ok x (List.mem_of_mem_take hx), ?_⟩
  by_cases h0 : n = 0
  · exact .inl h0
  · rcases h.cells with h1 | ⟨b, off, rfl, hc⟩
    · omega
    · exact .inr ⟨b, off, rfl, fun i hi => by rw [hc i (by omega), List.getElem?_take, if_pos hi]⟩

/-- What the call owns reads as bytes. -/
theorem owns_bytes {w : World} {base : Nat} {e : TypeId} {v : Value} {n : Nat} {xs : List Int} (h : w.ownsRow base e 1 v n (xs.map (Value.int .u8))) (hok : BytesOk xs) :
    ∃ a c, v = .slice a n c ∧ Bytes w a n xs ∧ (a = none → c = 0) := by
  obtain ⟨hl, h⟩ := h
  simp only [List.length_map, Nat.mul_one] at hl
  rcases h with ⟨rfl, rfl⟩ | ⟨g, cap, cur, rfl, hb, hg, hn, hm, hcs, hc⟩
  · obtain rfl : xs = [] := List.length_eq_zero_iff.1 hl
    exact ⟨none, 0, rfl, ⟨rfl, by omega, hok, .inl rfl⟩, fun _ => rfl⟩
  · unfold maxLen at hm
    refine ⟨_, cap, rfl, ⟨hl, by omega, hok, .inr ⟨g, 0, rfl, fun i hi => ?_⟩⟩, by simp⟩
    have hi' : i < xs.length := by omega
    have e2 : cur.toList[i]? = some (.int .u8 (xs[i]?.getD 0)) := by
      have e3 : (cur.toList.take (n * 1))[i]? = (xs.map (Value.int .u8))[i]? := by rw [hc]
      rw [List.getElem?_take, if_pos (by omega)] at e3
      rw [e3]; simp [hi']
    have e4 : cur[i]? = some (.int .u8 (xs[i]?.getD 0)) := by simpa using e2
    simp [World.cell?, hg, e4]

/-- An operation that is wanted, guarded or not. -/
theorem wpList_want {P : Program} {w : World} {ops : Array Oper} {rest : List Oper} {o : Oper} {a : Act} {Q : Exit → Act → World → Prop} (hw : Region.wanted o (yielded ops a.tmps) = true)
    (h : ∀ K : Act → World → Prop, (∀ a w, wpList P ops Q rest a w → K a w) → o.wp P a w K Q) : wpList P ops Q (o :: rest) a w :=
  wpList_step fun K hK => by rw [if_pos hw]; exact h K hK

theorem append_bytes {P : Program} {w : World} {ops : Array Oper} {rest : List Oper} {o : Oper} {a : Act} {Q : Exit → Act → World → Prop} (hgd : Region.wanted o (yielded ops a.tmps) = true) (s x : Operand) (t : TypeId)
    (ho : o.op = .call { callee := .builtin .append, args := #[s, x], argTypes := #[t, t] })
    (base : Nat) (e : TypeId) (i : TypeInfo) (z : Value) (ht : P.underlying t = some (.slice e)) (hi : P.info? e = some i) (hz : i.zero = some z)
    (hsize : i.size = 1) (hby : i.bytes = 1) (hzs : z.cells.size = 1)
    (v : Value) (n : Nat) (xs : List Int) (hs : a.eval s = v) (hown : w.ownsRow base e 1 v n (xs.map (Value.int .u8)))
    (p : Option Addr) (m c : Nat) (ys : List Int) (hx : a.eval x = .slice p m c) (hb : Bytes w p m ys) (hn : p = none → c = 0)
    (hsm : n + m ≤ 140737488355328) (hbase : base ≤ w.heap.size)
    (h : ∀ v' w', w'.ownsRow base e 1 v' (n + m) ((xs ++ ys).map (Value.int .u8)) → w.grownBy w' v.ownBlock → wpList P ops Q rest (a.put o.dst v') w') : wpList P ops Q (o :: rest) a w := by
  cases p with
  | none =>
    obtain rfl : c = 0 := hn rfl
    have hm : m = 0 := by
      rcases hb.cells with h0 | ⟨b, off, h0, _⟩
      · exact h0
      · cases h0
    subst hm
    obtain rfl : ys = [] := List.length_eq_zero_iff.1 hb.length
    refine wpList_want hgd fun K hK => ?_
    have hrun := run_append_owned_none (P := P) (w := w) base t o.type e i 1 ht hi v n _ hown
    unfold Oper.wp
    simp [execOp, ho, resolve, invoke, builtin, hs, hx, hrun, Result.andThen]
    exact hK _ _ (h v w (by simpa using hown) ⟨rfl, rfl, rfl, Nat.le_refl _, fun _ _ _ => rfl⟩)
  | some ad =>
    refine wpList_want hgd fun K hK => wp_append_own w s x t ho base e i z 1 1 ht hi hz hsize hby hzs (by omega) v n _ hs hown ad m c (ys.map (Value.int .u8)) hx (by simpa using hb.length) ?_ ?_ (by unfold maxLen; omega) (by omega) hbase ?_
    · intro j u hj
      have hjl : j < ys.length := by
        rcases Nat.lt_or_ge j ys.length with h' | h'
        · exact h'
        · simp [List.getElem?_eq_none (show (ys.map (Value.int .u8)).length ≤ j by simpa using h')] at hj
      rcases hb.cells with h0 | ⟨b, off, h0, hc⟩
      · have := hb.length; omega
      · have e0 : ad = ⟨b, off, none⟩ := Option.some.inj h0
        have hc' := hc j (by have := hb.length; omega)
        have hadd : ad.add j = ⟨b, off + j, none⟩ := by subst e0; unfold Addr.add; split <;> simp_all
        rw [hadd, hc']
        simp [List.getElem?_eq_getElem hjl] at hj
        subst hj
        simp [List.getElem?_eq_getElem hjl]
    · intro u hu
      obtain ⟨n, _, rfl⟩ := List.mem_map.1 hu
      rfl
    · intro v' w' h1 h2 _
      exact hK _ _ (h v' w' (by simpa using h1) h2)

/-- make([]byte, n): a new block of noughts. -/
theorem make_bytes {P : Program} {w : World} {ops : Array Oper} {rest : List Oper} {o : Oper} {a : Act} {Q : Exit → Act → World → Prop} (hgd : o.guard = none) (l c : Operand) (t : TypeId) (hop : o.op = Op.makeSlice t l c)
    (e : TypeId) (i : TypeInfo) (ht : P.underlying t = some (.slice e)) (hi : P.info? e = some i) (hz : i.zero = some (.int .u8 0)) (hsize : i.size = 1) (hby : i.bytes = 1)
    (kl kc : IntKind) (L C : Int) (n : Nat) (hl : a.eval l = .int kl L) (hc : a.eval c = .int kc C) (hL : L = n) (hC : C = n) (hn : n ≤ 140737488355328)
    (hK : ∀ w', Hid (w'.heap[w.heap.size]? = some (.cells (List.replicate n (Value.int .u8 0)).toArray e (0, 0))) → Below w.heap.size w w' → wpList P ops Q rest (a.put o.dst (.slice (some ⟨w.heap.size, 0, none⟩) n n)) w') :
    wpList P ops Q (o :: rest) a w := by
  refine wpList_plain hgd fun K hK' => ?_
  subst hL
  subst hC
  have hr := run_make (P := P) w t e i (.int .u8 0) ht hi hz kl kc n n (by omega) (by omega) (by rw [hby]; omega) (by omega)
  unfold Oper.wp
  simp only [execOp, hop, hl, hc, Sem.run_bind, hr]
  refine hK' _ _ ?_
  have e1 : (madeCells (Value.int .u8 0).cells ((n : Int).toNat * i.size)) = (List.replicate n (Value.int .u8 0)).toArray := by
    rw [← toList_madeCells_one, hsize]; simp [Value.cells]
  rw [e1]
  exact hK _ (show _ = _ from heap_alloc_new _ _) ((Below.refl _ _).alloc (Nat.le_refl _) _)

theorem own_of_heap {w : World} {base g : Nat} {e : TypeId} {vs : List Value} {n : Nat} (h : w.heap[g]? = some (.cells vs.toArray e (0, 0))) (hb : base ≤ g) (hn : vs.length = n) (hm : n ≤ 9223372036854775807) :
    w.ownsRow base e 1 (.slice (some ⟨g, 0, none⟩) n n) n vs :=
  ⟨by omega, .inr ⟨g, n, vs.toArray, rfl, hb, h, Nat.le_refl _, by unfold maxLen; omega, by simpa using hn, by simp [← hn]⟩⟩

/-- copy(dst, src) at the head of a row of bytes of the call's own. -/
theorem copy_bytes {P : Program} {w : World} {ops : Array Oper} {rest : List Oper} {o : Oper} {a : Act} {Q : Exit → Act → World → Prop} (hgd : o.guard = none) (d s : Operand) (dT sT : TypeId)
    (ho : o.op = .call { callee := .builtin .copy, args := #[d, s], argTypes := #[dT, sT] }) (elem : TypeId) (hu : P.underlying dT = some (.slice elem)) (hsz : (P.info? elem).map (·.size) = some 1)
    (g dLen dCap : Nat) (p : Option Addr) (m c : Nat) (xs : List Int) (hd : a.eval d = .slice (some ⟨g, 0, none⟩) dLen dCap) (hs : a.eval s = .slice p m c) (hb : Bytes w p m xs)
    (cur : List Value) (hg : Hid (w.heap[g]? = some (.cells cur.toArray elem (0, 0)))) (hc : cur.length = dLen) (hm : m ≤ dLen) (B : Nat) (w0 : World) (hbel : Below B w0 w) (hBg : B ≤ g)
    (h : ∀ w', Hid (w'.heap[g]? = some (.cells (xs.map (Value.int .u8) ++ cur.drop m).toArray elem (0, 0))) → Below B w0 w' → wpList P ops Q rest (a.put o.dst (goInt m)) w') : wpList P ops Q (o :: rest) a w := by
  have hl := hb.length
  refine wpList_copy_splice hgd d s dT sT ho elem hu hsz _ p dLen dCap m c hd hs g 0 cur elem hg.out (xs.map (Value.int .u8)) ?_ ?_ (by simp; omega) ?_ B w0 hbel hBg ?_
  · rw [List.length_map, hl]; exact (Nat.min_eq_left hm).symm
  · intro h0
    rcases hb.cells with h1 | ⟨b, off, rfl, hcell⟩
    · simp at h0; omega
    · refine ⟨rfl, _, rfl, fun j v hj => ?_⟩
      have hjl : j < xs.length := by
        rcases Nat.lt_or_ge j xs.length with h' | h'
        · exact h'
        · simp [List.getElem?_eq_none (show (xs.map (Value.int .u8)).length ≤ j by simpa using h')] at hj
      have hadd : (⟨b, off, none⟩ : Addr).add j = ⟨b, off + j, none⟩ := by unfold Addr.add; split <;> simp_all
      rw [hadd, hcell j (by omega)]
      simp [List.getElem?_eq_getElem hjl] at hj
      subst hj
      simp [List.getElem?_eq_getElem hjl]
  · intro u hu
    obtain ⟨n, _, rfl⟩ := List.mem_map.1 hu
    rfl
  · intro w' h1 h2
    have e : splice cur 0 (xs.map (Value.int .u8)) = xs.map (Value.int .u8) ++ cur.drop m := by simp [splice, hl]
    rw [e] at h1
    have := h w' h1 h2
    simpa [hl] using this

/-- Bytes, and noughts behind. -/
def padV (xs : List Int) (to : Int) : List Int := xs ++ List.replicate (to.toNat - xs.length) 0
theorem padV_ok {xs : List Int} (h : BytesOk xs) (to : Int) : BytesOk (padV xs to) := by
  intro x hx
  rcases List.mem_append.1 hx with h1 | h1
  · exact h x h1
  · have := List.eq_of_mem_replicate h1; omega

/-! A block of the call's own, known whole. -/
theorem heap_set {w : World} {g k : Nat} {cur : Array Value} {e : TypeId} (h : w.heap[g]? = some (.cells cur e (0, 0))) (u : Value) :
    (w.setCell ⟨g, k, none⟩ u).heap[g]? = some (.cells (cur.setIfInBounds k u) e (0, 0)) := by
  simp [World.setCell, Array.getElem?_modify, h]
theorem heap_cell {w : World} {g k : Nat} {cur : Array Value} {e : TypeId} (h : w.heap[g]? = some (.cells cur e (0, 0))) : w.cell? ⟨g, k, none⟩ = cur[k]? := by
  simp [World.cell?, h]
theorem heap_frozen {w : World} {g k : Nat} {cur : Array Value} {e : TypeId} (h : w.heap[g]? = some (.cells cur e (0, 0))) : w.frozen? ⟨g, k, none⟩ = false := by
  simp [World.frozen?, h]

end Go.Proofs.Ytdkmakjjcfkfaaa
