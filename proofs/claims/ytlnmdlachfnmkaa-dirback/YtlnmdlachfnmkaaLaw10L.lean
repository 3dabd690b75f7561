/- Scripts of chapter 10; what of them is there. -/
import Derived.Test.YtlnmdlachfnmkaaLaw10K
import Derived.Test.YtlnmdlachfnmkaaRowG
import Derived.Test.YtlnmdlachfnmkaaRef3
import Derived.Test.YtlnmdlachfnmkaaGrow3
namespace Go.Proofs.Ytlnmdlachfnmkaa.Dr
set_option maxRecDepth 100000
open Go.RowKit Go.Proofs.Ytlnmdlachfnmkaa Go.Proofs.Ytlnmdlachfnmkaa.Tri
set_option linter.unusedVariables false

abbrev ActV := Bool × Int × Int × Int
def actC (z : ActV) : List Value := [.bool (z.1), .int .u32 (z.2.1), .int .i64 (z.2.2.1), .int .i64 (z.2.2.2)]
def actOk (z : ActV) : Prop := (Lit.int .u32 (z.2.1)).wf = true ∧ (Lit.int .i64 (z.2.2.1)).wf = true ∧ (Lit.int .i64 (z.2.2.2)).wf = true
def actP (z : ActV) : PX := (z.2.1, z.2.2.1)

theorem act_cells {w : World} {a : Option Addr} {len cap : Nat} {zs : List ActV} (h : IsRowG 4 actC actOk w a len cap zs) {k : Nat} (hk : k < len) :
    ∃ b off d c m v, a = some ⟨b, off, none⟩ ∧ zs[k]? = some (d, c, m, v) ∧ 0 ≤ c ∧ c ≤ 4294967295 ∧ b < w.heap.size ∧ w.cell? ⟨b, off + k * 4, none⟩ = some (.bool d) ∧ w.cell? ⟨b, off + k * 4 + 1, none⟩ = some (.int .u32 c) ∧ w.cell? ⟨b, off + k * 4 + 2, none⟩ = some (.int .i64 m) ∧ w.cell? ⟨b, off + k * 4 + 3, none⟩ = some (.int .i64 v) := by
  have hl := h.length
  obtain ⟨⟨d, c, m, v⟩, hz⟩ : ∃ z, zs[k]? = some z := ⟨_, List.getElem?_eq_getElem (by omega)⟩
  rcases h.cells with h0 | ⟨b, off, rfl, hc⟩
  · omega
  · have h0 := hc k _ hz 0 (by omega)
    have h1 := hc k _ hz 1 (by omega)
    have h2 := hc k _ hz 2 (by omega)
    have h3 := hc k _ hz 3 (by omega)
    have hb := bounds_u32 (h.ok _ (List.mem_of_getElem? hz)).1
    simp only [actC, List.getElem?_cons_zero, List.getElem?_cons_succ, ← Nat.add_assoc, Nat.add_zero] at h0 h1 h2 h3
    exact ⟨b, off, d, c, m, v, rfl, hz, hb.1, hb.2, block_lt h0, h0, h1, h2, h3⟩

/-- A script's cells, in every later world. -/
theorem act_later {w w' : World} (hx : Ext w w') {b j : Nat} {u : Value} (hb : b < w.heap.size) (h : w.cell? ⟨b, j, none⟩ = some u) : w'.cell? ⟨b, j, none⟩ = some u := by
  rw [hx.cell (p := ⟨b, j, none⟩) hb]; exact h

theorem setL_len (L : Row) (p : PX) (v : Int) : (Tri.setL L p v).length ≤ L.length + 1 := by
  cases hf : foundB L p with
  | true => rw [setL_found v hf, List.length_set]; omega
  | false =>
    rw [setL_new v hf]
    simp only [List.length_append, List.length_cons, List.length_take, List.length_drop]
    omega

theorem setR_len (most : Int) (L : Row) (p : PX) (v : Int) : (setR most L p v).2.length ≤ L.length + 1 := by
  unfold setR
  split
  · simp only; omega
  · split
    · simp only; omega
    · exact setL_len L p v

theorem delL_len (L : Row) (p : PX) : (delL L p).length ≤ L.length := List.length_filter_le _ _

/-- Set is refused, and nothing is changed; or it is not. -/
theorem setR_two (most : Int) (L : Row) (p : PX) (v : Int) : ((setR most L p v).1 = 0 ∧ (setR most L p v).2 = Tri.setL L p v) ∨ (((setR most L p v).1 = 1 ∨ (setR most L p v).1 = 6) ∧ (setR most L p v).2 = L) := by
  unfold setR
  split
  · exact .inr ⟨.inl rfl, rfl⟩
  · split
    · exact .inr ⟨.inr rfl, rfl⟩
    · exact .inl ⟨rfl, rfl⟩

theorem Own10.room {w0 w : World} {db : Nat} {most : Int} {L : Row} (h : Own10 w0 w db most L) : ((ownN (keysL L) : Nat) : Int) ≤ most := by
  obtain ⟨F, h1, -⟩ := h
  exact h1.room

theorem Own10.srt {w0 w : World} {db : Nat} {most : Int} {L : Row} (h : Own10 w0 w db most L) : Srt L := by
  obtain ⟨F, h1, -⟩ := h
  exact h1.srt

theorem Own10.valid {w0 w : World} {db : Nat} {most : Int} {L : Row} (h : Own10 w0 w db most L) : ∀ x ∈ L, Vp x.1 := by
  obtain ⟨F, h1, -⟩ := h
  exact h1.valid

theorem Own10.base {w0 w1 w : World} {db : Nat} {most : Int} {L : Row} (h : Own10 w1 w db most L) (hx : Ext w0 w1) : Own10 w0 w db most L := by
  obtain ⟨F, h1, h2, h3⟩ := h
  exact ⟨F, h1, (hx.toS []).trans h2, fun x hx' => Nat.le_trans hx.size (h3 x hx')⟩

theorem numO_shape (o : Option (PX × Int)) : ∃ v ok, numO o = .tuple #[.int .i64 v, .bool ok] := by
  cases o with
  | none => exact ⟨_, _, rfl⟩
  | some x => exact ⟨_, _, rfl⟩

theorem extS_N {F : List Nat} {N : Nat} {A B : World} (h : ExtS F A B) (hF : ∀ y ∈ F, N ≤ y) : ExtN N A B :=
  ⟨h.os, h.tape, h.output, h.size, fun k hk hx => h.block k hx (fun e => by have := hF k e; omega)⟩

/-- A cell of before, in worlds in which only new blocks are written. -/
theorem act_laterN {w W w' : World} (hx : Ext w W) (h : ExtN w.heap.size W w') {b j : Nat} {u : Value} (hb : b < w.heap.size) (hv : w.cell? ⟨b, j, none⟩ = some u) : w'.cell? ⟨b, j, none⟩ = some u := by
  have := (h.block b hb (Nat.lt_of_lt_of_le hb hx.size)).trans (hx.block b hb)
  unfold World.cell? at hv ⊢
  rw [this]; exact hv

theorem set_ownN {w0 w : World} {db : Nat} {most : Int} {L : Row} (h : Own10 w0 w db most L) (hlen : L.length ≤ 100000) (a n v : Int) (a0 : 0 ≤ a) (a1 : a ≤ 4294967295) :
    Calls Try.prog 20 #[.pointer (some ⟨db, 0, none⟩), .agg #[.int .u32 a, .int .i64 n], .int .i64 v] w fun e w' => e = .returned (.int .i64 (setR most L (a, n) v).1) ∧ Own10 w0 w' db most (setR most L (a, n) v).2 ∧ ExtN w0.heap.size w w' := by
  obtain ⟨F, h1, h2, h3⟩ := h
  refine (set_at h1 hlen a n v a0 a1).mono ?_
  rintro e w' ⟨rfl, ha⟩
  refine ⟨rfl, Own10.step (L := L) h2 h3 ha, ?_⟩
  obtain ⟨F', -, hx, -⟩ := ha
  exact extS_N hx h3

theorem del_ownN {w0 w : World} {db : Nat} {most : Int} {L : Row} (h : Own10 w0 w db most L) (hlen : L.length ≤ 100000) (a n : Int) (a0 : 0 ≤ a) (a1 : a ≤ 4294967295) :
    Calls Try.prog 21 #[.pointer (some ⟨db, 0, none⟩), .agg #[.int .u32 a, .int .i64 n]] w fun e w' => e = .returned (.bool (foundB L (a, n))) ∧ Own10 w0 w' db most (delL L (a, n)) ∧ ExtN w0.heap.size w w' := by
  obtain ⟨F, h1, h2, h3⟩ := h
  refine (del_at h1 hlen a n a0 a1).mono ?_
  rintro e w' ⟨rfl, ha⟩
  refine ⟨rfl, Own10.step (L := L) h2 h3 ha, ?_⟩
  obtain ⟨F', -, hx, -⟩ := ha
  exact extS_N hx h3

/-- What is there came from the script's steps from lo to below hi. -/
def FromP (zs : List ActV) (lo hi : Nat) (L : Row) : Prop := ∀ x ∈ L, ∃ i z, lo ≤ i ∧ i < hi ∧ zs[i]? = some z ∧ x.1 = actP z

theorem FromP.set {zs : List ActV} {k : Nat} {L : Row} (hs : Srt L) (h : FromP zs 0 k L) {z : ActV} (hz : zs[k]? = some z) (most v : Int) : FromP zs 0 (k + 1) (setR most L (actP z) v).2 := by
  have hm : FromP zs 0 (k + 1) L := fun x hx => by
    obtain ⟨i, y, h1, h2, h3⟩ := h x hx
    exact ⟨i, y, h1, by omega, h3⟩
  rcases setR_two most L (actP z) v with ⟨-, e⟩ | ⟨-, e⟩
  · rw [e]
    intro x hx
    rcases (set_mem hs (actP z) v x).1 hx with rfl | ⟨h1, -⟩
    · exact ⟨k, z, by omega, by omega, hz, rfl⟩
    · exact hm x h1
  · rw [e]; exact hm

theorem FromP.del {zs : List ActV} {j K : Nat} {L : Row} (h : FromP zs j K L) {z : ActV} (hz : zs[j]? = some z) : FromP zs (j + 1) K (delL L (actP z)) := by
  intro x hx
  obtain ⟨hx1, hne⟩ := del_mem.1 hx
  obtain ⟨i, y, h1, h2, h3, h4⟩ := h x hx1
  refine ⟨i, y, ?_, h2, h3, h4⟩
  rcases Nat.lt_or_ge j i with hl | hl
  · exact hl
  · exfalso
    obtain rfl : i = j := by omega
    rw [hz] at h3
    cases h3
    exact hne h4

theorem FromP.none {zs : List ActV} {K : Nat} {L : Row} (h : FromP zs K K L) : L = [] := by
  cases L with
  | nil => rfl
  | cons x L =>
    obtain ⟨i, z, h1, h2, -⟩ := h x List.mem_cons_self
    omega
end Go.Proofs.Ytlnmdlachfnmkaa.Dr
