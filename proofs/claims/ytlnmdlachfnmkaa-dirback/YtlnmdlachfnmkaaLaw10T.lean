/- Two Dirs and the document's Trie side by side. -/
import Derived.Test.YtlnmdlachfnmkaaLaw10L
import Derived.Test.YtlnmdlachfnmkaaRefTr4
import Derived.Test.YtlnmdlachfnmkaaRefTr5
namespace Go.Proofs.Ytlnmdlachfnmkaa.Dr
set_option maxRecDepth 100000
open Go.RowKit Go.Proofs.Ytlnmdlachfnmkaa Go.Proofs.Ytlnmdlachfnmkaa.Tri
set_option linter.unusedVariables false

theorem apart_step {w : World} {F F' G : List Nat} (h : ∀ x ∈ F, x ∉ G) (hn : ∀ x ∈ F', x ∈ F ∨ w.heap.size ≤ x) (hg : ∀ x ∈ G, x < w.heap.size) : ∀ x ∈ F', x ∉ G := fun x hx hG => by
  rcases hn x hx with h1 | h1
  · exact h x h1 hG
  · have := hg x hG; omega

theorem apart_symm {F G : List Nat} (h : ∀ x ∈ F, x ∉ G) : ∀ x ∈ G, x ∉ F := fun x hx hF => h x hF hx

/-- Two Dirs and the document's Trie, each in blocks of its own, all new. -/
def Three (w0 w : World) (db eb xb : Nat) (Ld Le Lx : Row) : Prop := ∃ Fd Fe Fx, DirAt w db 200 Ld Fd ∧ DirAt w eb 200 Le Fe ∧ RefAt w xb Lx Fx ∧ (∀ x ∈ Fd, x ∉ Fe) ∧ (∀ x ∈ Fd, x ∉ Fx) ∧ (∀ x ∈ Fe, x ∉ Fx) ∧
  (∀ x ∈ Fd, w0.heap.size ≤ x) ∧ (∀ x ∈ Fe, w0.heap.size ≤ x) ∧ (∀ x ∈ Fx, w0.heap.size ≤ x) ∧ Ext w0 w

section
variable {w0 w : World} {db eb xb : Nat} {Ld Le Lx : Row}

theorem new_ge {F F' : List Nat} {w0 w : World} (hx : Ext w0 w) (h : ∀ x ∈ F, w0.heap.size ≤ x) (hn : ∀ x ∈ F', x ∈ F ∨ w.heap.size ≤ x) : ∀ x ∈ F', w0.heap.size ≤ x := fun x hx' => by
  rcases hn x hx' with h1 | h1
  · exact h x h1
  · exact Nat.le_trans hx.size h1

theorem ext_new {F : List Nat} {w0 w w' : World} (hx : Ext w0 w) (h : ∀ x ∈ F, w0.heap.size ≤ x) (h2 : ExtS F w w') : Ext w0 w' := ((hx.toS F).trans h2).ext h

theorem three_d (h : Three w0 w db eb xb Ld Le Lx) (hl : Ld.length ≤ 100000) (a n v : Int) (a0 : 0 ≤ a) (a1 : a ≤ 4294967295) :
    Calls Try.prog 20 #[.pointer (some ⟨db, 0, none⟩), .agg #[.int .u32 a, .int .i64 n], .int .i64 v] w fun e w' => e = .returned (.int .i64 (setR 200 Ld (a, n) v).1) ∧ Three w0 w' db eb xb (setR 200 Ld (a, n) v).2 Le Lx ∧ ExtN w0.heap.size w w' := by
  obtain ⟨Fd, Fe, Fx, d, e, x, s1, s2, s3, n1, n2, n3, hx⟩ := h
  refine (set_at d hl a n v a0 a1).mono ?_
  rintro e' w' ⟨rfl, F', d', xs, hn⟩
  exact ⟨rfl, ⟨F', Fe, Fx, d', e.later xs (apart_symm s1), x.later xs (apart_symm s2), apart_step s1 hn e.lt, apart_step s2 hn x.lt, s3, new_ge hx n1 hn, n2, n3, ext_new hx n1 xs⟩, extS_N xs n1⟩

theorem three_e (h : Three w0 w db eb xb Ld Le Lx) (hl : Le.length ≤ 100000) (a n v : Int) (a0 : 0 ≤ a) (a1 : a ≤ 4294967295) :
    Calls Try.prog 20 #[.pointer (some ⟨eb, 0, none⟩), .agg #[.int .u32 a, .int .i64 n], .int .i64 v] w fun e w' => e = .returned (.int .i64 (setR 200 Le (a, n) v).1) ∧ Three w0 w' db eb xb Ld (setR 200 Le (a, n) v).2 Lx ∧ (∃ Fe, (∀ x ∈ Fe, w0.heap.size ≤ x) ∧ ExtS Fe w w' ∧ ∃ Fx, RefAt w xb Lx Fx ∧ ∀ x ∈ Fe, x ∉ Fx) := by
  obtain ⟨Fd, Fe, Fx, d, e, x, s1, s2, s3, n1, n2, n3, hx⟩ := h
  refine (set_at e hl a n v a0 a1).mono ?_
  rintro e' w' ⟨rfl, F', e2, xs, hn⟩
  exact ⟨rfl, ⟨Fd, F', Fx, d.later xs s1, e2, x.later xs (apart_symm s3), apart_symm (apart_step (apart_symm s1) hn d.lt), s2, apart_step s3 hn x.lt, n1, new_ge hx n2 hn, n3, ext_new hx n2 xs⟩, Fe, n2, xs, Fx, x, s3⟩

theorem three_x (h : Three w0 w db eb xb Ld Le Lx) (hl : Lx.length ≤ 100000) (a n v : Int) (a0 : 0 ≤ a) (a1 : a ≤ 4294967295) :
    Calls Try.prog 22 #[.pointer (some ⟨xb, 0, none⟩), .agg #[.int .u32 a, .int .i64 n], .int .i64 v] w fun e w' => e = .returned (.int .i64 (if isV a n = true then 0 else 1)) ∧ Three w0 w' db eb xb Ld Le (if isV a n = true then Tri.setL Lx (a, n) v else Lx) ∧ ExtN w0.heap.size w w' := by
  obtain ⟨Fd, Fe, Fx, d, e, x, s1, s2, s3, n1, n2, n3, hx⟩ := h
  refine (refSet_any xb Lx Fx a n v w x (by omega) a0 a1).mono ?_
  rintro e' w' ⟨rfl, F', x2, xs, hn⟩
  exact ⟨rfl, ⟨Fd, Fe, F', d.later xs s2, e.later xs s3, x2, s1, apart_symm (apart_step (apart_symm s2) hn d.lt), apart_symm (apart_step (apart_symm s3) hn e.lt), n1, n2, new_ge hx n3 hn, ext_new hx n3 xs⟩, extS_N xs n3⟩

theorem Three.ext (h : Three w0 w db eb xb Ld Le Lx) {w' : World} (hx' : Ext w w') : Three w0 w' db eb xb Ld Le Lx := by
  obtain ⟨Fd, Fe, Fx, d, e, x, s1, s2, s3, n1, n2, n3, hx⟩ := h
  exact ⟨Fd, Fe, Fx, d.ext hx', e.ext hx', x.ext hx', s1, s2, s3, n1, n2, n3, hx.trans hx'⟩

theorem Three.toExt (h : Three w0 w db eb xb Ld Le Lx) : Ext w0 w := by
  obtain ⟨Fd, Fe, Fx, d, e, x, s1, s2, s3, n1, n2, n3, hx⟩ := h
  exact hx

theorem Three.dirs (h : Three w0 w db eb xb Ld Le Lx) : (∃ F, DirAt w db 200 Ld F) ∧ (∃ F, DirAt w eb 200 Le F) ∧ ∃ F, RefAt w xb Lx F := by
  obtain ⟨Fd, Fe, Fx, d, e, x, -⟩ := h
  exact ⟨⟨_, d⟩, ⟨_, e⟩, _, x⟩
end

/-- A row's entry of the document's Trie, in every later world that leaves its blocks. -/
theorem ref_reads {w : World} {xb : Nat} {L : Row} {F : List Nat} (h : RefAt w xb L F) {k : Nat} {x : PX × Int} (hk : L[k]? = some x) : ∃ gp cp gi ci, ∀ w' G, ExtS G w w' → (∀ y ∈ F, y ∉ G) →
    w'.cell? ⟨xb, 0, none⟩ = some (.slice (some ⟨gp, 0, none⟩) L.length cp) ∧ w'.cell? ⟨xb, 1, none⟩ = some (.slice (some ⟨gi, 0, none⟩) L.length ci) ∧ w'.cell? ⟨gp, k * 2, none⟩ = some (.int .u32 x.1.1) ∧ w'.cell? ⟨gp, k * 2 + 1, none⟩ = some (.int .i64 x.1.2) ∧ w'.cell? ⟨gi, k, none⟩ = some (.int .i64 x.2) := by
  have hxF : xb ∈ F := by obtain ⟨vp, vi, rfl, -⟩ := h; simp
  obtain ⟨ap, cp, ai, ci, hX, hc⟩ := h.open
  obtain ⟨gp, gi, rfl, rfl, -⟩ := hc k x hk
  refine ⟨gp, cp, gi, ci, fun w' G hx hd => ?_⟩
  have hX' := hx.heap (hd xb hxF) hX
  obtain ⟨ap', cp', ai', ci', hY, hc'⟩ := (h.later hx hd).open
  rw [hX'] at hY
  simp only [Option.some.injEq, Obj.cells.injEq, Array.mk.injEq, List.cons.injEq, Value.slice.injEq] at hY
  obtain ⟨⟨⟨rfl, -, rfl⟩, ⟨rfl, -, rfl⟩, -⟩, -⟩ := hY
  obtain ⟨gp', gi', e1, e2, y0, y1, y2⟩ := hc' k x hk
  cases e1
  cases e2
  exact ⟨by rw [heap_cell hX']; rfl, by rw [heap_cell hX']; rfl, y0, y1, y2⟩

/-- With two hundred blocks sixty prefixes are never refused for want of them. -/
theorem setR_200 {L : Row} (hl : L.length ≤ 60) (p : PX) {v : Int} (hv : 0 ≤ v) : setR 200 L p v = if isV p.1 p.2 = true then (0, Tri.setL L p v) else (1, L) := by
  unfold setR
  by_cases h : isV p.1 p.2 = true
  · rw [if_neg (by rw [h]; simp; omega), if_pos h, if_neg]
    have h1 := own_le (keysL (Tri.setL L p v))
    have h2 : (keysL (Tri.setL L p v)).length ≤ 61 := by
      have := setL_len L p v
      simp only [keysL, List.length_map]; omega
    omega
  · have h' : isV p.1 p.2 = false := by simpa using h
    rw [if_pos (.inl h'), if_neg h]
end Go.Proofs.Ytlnmdlachfnmkaa.Dr
