/- The document's Get; Set that is refused, Set of a prefix that is there. -/
import Derived.Test.YtlnmdlachfnmkaaRefTr1
import Derived.Test.YtlnmdlachfnmkaaSrc
import Derived.Test.YtlnmdlachfnmkaaGrow5
import Derived.Test.YtlnmdlachfnmkaaTreeQ
namespace Go.Proofs.Ytlnmdlachfnmkaa.Tri
set_option maxRecDepth 100000
open Go.RowKit Go.Proofs.Ytlnmdlachfnmkaa
set_option linter.unusedVariables false

/-- The row's number at a place. -/
theorem RefAt.num {w : World} {xb : Nat} {L : Row} {F : List Nat} (h : RefAt w xb L F) {k : Nat} {x : PX × Int} (hk : L[k]? = some x) :
    ∃ vp gv cv, w.heap[xb]? = some (.cells #[vp, .slice (some ⟨gv, 0, none⟩) L.length cv] 38 (0, 0)) ∧ w.cell? ⟨gv, k, none⟩ = some (.int .i64 x.2) := by
  obtain ⟨vp, vi, -, hX, -, hI, -⟩ := h
  obtain ⟨g, c, rfl, hc⟩ := OwnI.cell hI (i := k) (p := x.2) (by simp [hk])
  rw [List.length_map] at hX
  exact ⟨vp, g, c, hX, hc⟩

theorem refSet_bad (xb : Nat) (c m v : Int) (w : World) (c0 : 0 ≤ c) (c1 : c ≤ 4294967295) (hv : isV c m = false) :
    Calls Try.prog 22 #[.pointer (some ⟨xb, 0, none⟩), .agg #[.int .u32 c, .int .i64 m], .int .i64 v] w fun e w' => e = .returned (.int .i64 1) ∧ Ext w w' := by
  have k1 := fun w => refIs_any c m w c0 c1
  rw [hv] at k1
  have hA : Ext w (w.alloc (.cells #[.int .u32 c, .int .i64 m] 30)) := (Ext.refl w).alloc _
  clear hv
  go_enter Try.func22, Try.ntmps22
  go_wp2_with (go_at_call 41; refine (k1 _).mono ?_; rintro e w1 ⟨rfl, hx1⟩)
  go_ret
  exact ⟨rfl, hA.trans hx1⟩

def RefAns (w : World) (xb : Nat) (F : List Nat) (L' : Row) (w' : World) : Prop := ∃ F', RefAt w' xb L' F' ∧ ExtS F w w' ∧ ∀ x ∈ F', x ∈ F ∨ w.heap.size ≤ x

set_option maxHeartbeats 1000000 in
theorem refSet_here (xb : Nat) (L : Row) (F : List Nat) (c m v : Int) (w : World) (h : RefAt w xb L F) (hl : L.length ≤ 1000000) (hp : Vp (c, m)) (hf : foundB L (c, m) = true) :
    Calls Try.prog 22 #[.pointer (some ⟨xb, 0, none⟩), .agg #[.int .u32 c, .int .i64 m], .int .i64 v] w fun e w' => e = .returned (.int .i64 0) ∧ RefAns w xb F (setL L (c, m) v) w' := by
  obtain ⟨c0, c1, -, -⟩ := hp.bd
  simp only at c0 c1
  have k0 := fun w => refIs_any c m w c0 c1
  rw [hp.is] at k0
  have k1 := fun w' (hx : Ext w w') => place_any xb L F c m w' (h.later (hx.toS []) (by simp)) hl
  rw [hf] at k1
  have hA : Ext w (w.alloc (.cells #[.int .u32 c, .int .i64 m] 30)) := (Ext.refl w).alloc _
  have hn := heap_new w (.cells #[.int .u32 c, .int .i64 m] 30)
  have q0 : (w.alloc (.cells #[.int .u32 c, .int .i64 m] 30)).cell? ⟨w.heap.size, 0, none⟩ = some (.int .u32 c) := by rw [heap_cell hn]; rfl
  have q1 : (w.alloc (.cells #[.int .u32 c, .int .i64 m] 30)).cell? ⟨w.heap.size, 1, none⟩ = some (.int .i64 m) := by rw [heap_cell hn]; rfl
  obtain ⟨u, hu⟩ := foundB_iff.1 hf
  have hset := setL_found v hf
  have hk := (List.getElem?_eq_some_iff.1 hu).1
  generalize placeN L (c, m) = k at *
  obtain ⟨vp, vi, rfl, hX, hP, hI, hnil⟩ := h
  obtain ⟨gv, cv, hvi, hc⟩ := OwnI.cell hI (i := k) (p := u) (by simp [hu])
  subst hvi
  unfold OwnI at hI
  rw [List.length_map] at hX hI hnil
  have HQ : Hid _ := hn
  have HX : Hid _ := hX
  have HC : Hid _ := hc
  have HI : Hid (w.ownsRow 0 3 1 (.slice (some ⟨gv, 0, none⟩) L.length cv) L.length ((L.map (·.2)).map (Value.int .i64))) := hI
  have hki : (k : Int) < (L.length : Int) := by omega
  have HS : Hid (setL L (c, m) v = L.set k ((c, m), v)) := hset
  have HU : Hid (L[k]? = some ((c, m), u)) := hu
  clear hset hu hX hc hI hf hp hn
  go_enter Try.func22, Try.ntmps22
  go_wp2_with (first
    | (go_at_call 41; refine (k0 _).mono ?_; rintro e w0 ⟨rfl, hx0⟩; have z0 : w0.cell? ⟨w.heap.size, 0, none⟩ = some (.int .u32 c) := (by rw [heap_cell (hx0.heap HQ.out)]; rfl); have z1 : w0.cell? ⟨w.heap.size, 1, none⟩ = some (.int .i64 m) := (by rw [heap_cell (hx0.heap HQ.out)]; rfl))
    | (go_at_call 42; refine (k1 _ (hA.trans hx0)).mono ?_; rintro e w1 ⟨rfl, hx1⟩; have hxw := (hA.trans hx0).trans hx1; have x1 : w1.cell? ⟨xb, 1, none⟩ = some (.slice (some ⟨gv, 0, none⟩) L.length cv) := (by rw [heap_cell (hxw.heap HX.out)]; rfl); have y1 : w1.cell? ⟨gv, k, none⟩ = some (.int .i64 u) := (by rw [hxw.below.cell (p := ⟨gv, k, none⟩) (block_lt HC.out)]; exact HC.out); have f1 : w1.frozen? ⟨gv, k, none⟩ = false := World.ownsRow.frozenAt (owns_later HI.out hxw) k))
  go_ret
  have hI1 := owns_later HI.out hxw
  have hP1 : OwnP w1 0 vp (L.map (·.1)) := owns_later hP hxw
  have hst := World.ownsRow.stored hI1 k (.int .i64 v)
  have hs := extS_set w1 gv k (.int .i64 v)
  have hgi := owns_block hI1 (g := gv) rfl
  have hgx : xb ≠ gv := by
    intro e
    obtain ⟨_, _, cur, hcur⟩ := hgi
    rw [← e, hxw.heap HX.out] at hcur
    cases hcur
  have hgp : ∀ g, vp.ownBlock = some g → g ≠ gv := by
    intro g hg e
    obtain ⟨_, _, cur, hcur⟩ := hgi
    obtain ⟨_, _, cur2, hcur2⟩ := owns_block hP1 hg
    rw [e, hcur] at hcur2
    cases hcur2
  have hlen : (L.set k ((c, m), v)).length = L.length := by simp
  have m1 : (L.set k ((c, m), v)).map (·.1) = L.map (·.1) := by
    rw [List.map_set]
    refine List.ext_getElem? fun j => ?_
    rw [List.getElem?_set]
    split
    · rename_i e; subst e; simp [hk]
      have := (List.getElem?_eq_some_iff.1 HU.out).2
      rw [this]
    · rfl
  refine ⟨rfl, xb :: (blks vp ++ blks (.slice (some ⟨gv, 0, none⟩) L.length cv)), ⟨vp, .slice (some ⟨gv, 0, none⟩) L.length cv, rfl, hs.heap (by simpa using hgx) (hxw.heap HX.out), ?_, ?_, ?_⟩, ?_, fun x hx => .inl hx⟩
  · rw [HS.out, m1]
    exact owns_laterS hP1 hs fun g hg => by simpa using hgp g hg
  · rw [HS.out, List.map_set]
    unfold OwnI
    rw [List.length_set, List.map_set, List.length_map]
    exact hst.1
  · rw [HS.out, hlen]; exact hnil
  · refine ExtS.then (hxw.toS _) hs fun x hx => ?_
    simp only [List.mem_singleton] at hx
    subst hx
    exact .inl (by simp [blks, Value.ownBlock])
end Go.Proofs.Ytlnmdlachfnmkaa.Tri
