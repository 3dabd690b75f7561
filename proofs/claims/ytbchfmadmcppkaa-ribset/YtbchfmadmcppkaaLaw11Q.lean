/- Interfaces that come in; a nil Rib. -/
import Derived.Test.YtbchfmadmcppkaaLaw11P
namespace Go.Proofs.Ytbchfmadmcppkaa.Rb
set_option maxRecDepth 100000
open Go.RowKit Go.Proofs.Ytbchfmadmcppkaa
set_option linter.unusedVariables false
set_option linter.unusedSimpArgs false

def upC (z : Bool) : List Value := [.bool z]
def upOk (z : Bool) : Prop := True

theorem ups_row {w : World} {a : Option Addr} {len cap : Nat} {zs : List Bool} (h : IsRowG 1 upC upOk w a len cap zs) (hl : len ≤ 1000000) : Ups w a len zs := by
  refine ⟨h.length, hl, ?_⟩
  rcases h.cells with h0 | ⟨b, off, rfl, hc⟩
  · exact .inl h0
  · refine .inr ⟨b, off, rfl, fun j u hj => ?_⟩
    have := hc j u hj 0 (by omega)
    simpa [upC] using this

theorem nil_add (r : Rt) (w : World) : Calls Try.prog 25 #[.pointer none, (.agg #[.int .i64 r.t, .int .u32 r.a, .int .i64 r.l, .int .i64 r.i, .int .u32 r.g, .int .i64 r.m])] w fun e w' => e = .returned (.int .i64 1) ∧ Ext w w' := by
  go_enter Try.func25, Try.ntmps25
  go_wp2_with fail
  go_ret
  exact ⟨rfl, (Ext.refl w).alloc _⟩

theorem nil_del (r : Rt) (w : World) : Calls Try.prog 26 #[.pointer none, (.agg #[.int .i64 r.t, .int .u32 r.a, .int .i64 r.l, .int .i64 r.i, .int .u32 r.g, .int .i64 r.m])] w fun e w' => e = .returned (.int .i64 1) ∧ Ext w w' := by
  go_enter Try.func26, Try.ntmps26
  go_wp2_with fail
  go_ret
  exact ⟨rfl, (Ext.refl w).alloc _⟩

theorem nil_all (w : World) : Calls Try.prog 13 #[.pointer none] w fun e w' => e = .returned (.slice none 0 0) ∧ Ext w w' := by
  go_enter Try.func13, Try.ntmps13
  go_wp2_with fail
  go_ret
  exact ⟨rfl, Ext.refl w⟩

theorem nil_copy (w : World) : Calls Try.prog 24 #[.pointer none] w fun e w' => e = .returned (.pointer none) ∧ Ext w w' := by
  go_enter Try.func24, Try.ntmps24
  go_wp2_with fail
  go_ret
  exact ⟨rfl, Ext.refl w⟩

theorem nil_active (t : Int) (v : Value) (w : World) : Calls Try.prog 19 #[.pointer none, .int .i64 t, v] w fun e w' => e = .returned (.slice none 0 0) ∧ Ext w w' := by
  go_enter Try.func19, Try.ntmps19
  go_wp2_with fail
  go_ret
  exact ⟨rfl, Ext.refl w⟩

theorem nil_best (t a l : Int) (v : Value) (w : World) : Calls Try.prog 17 #[.pointer none, .int .i64 t, .agg #[.int .u32 a, .int .i64 l], v] w (BestAns w none) := by
  have hA : Ext w ((w.alloc (.cells #[.int .u32 a, .int .i64 l] 25)).alloc (.cells #[.int .i64 zeroR.t, .int .u32 zeroR.a, .int .i64 zeroR.l, .int .i64 zeroR.i, .int .u32 zeroR.g, .int .i64 zeroR.m] 27)) := ((Ext.refl w).alloc _).alloc _
  have HB : Hid (((w.alloc (.cells #[.int .u32 a, .int .i64 l] 25)).alloc (.cells #[.int .i64 zeroR.t, .int .u32 zeroR.a, .int .i64 zeroR.l, .int .i64 zeroR.i, .int .u32 zeroR.g, .int .i64 zeroR.m] 27)).heap[w.heap.size + 1]? = some (.cells #[.int .i64 zeroR.t, .int .u32 zeroR.a, .int .i64 zeroR.l, .int .i64 zeroR.i, .int .u32 zeroR.g, .int .i64 zeroR.m] 27 (0, 0))) := by
    have := heap_new (w.alloc (.cells #[.int .u32 a, .int .i64 l] 25)) (.cells #[.int .i64 zeroR.t, .int .u32 zeroR.a, .int .i64 zeroR.l, .int .i64 zeroR.i, .int .u32 zeroR.g, .int .i64 zeroR.m] 27)
    rwa [show (w.alloc (.cells #[.int .u32 a, .int .i64 l] 25)).heap.size = w.heap.size + 1 by simp] at this
  go_enter Try.func17, Try.ntmps17
  go_wp2_with (refine wpl_store (by rfl) 27 _ _ rfl rfl 6 (w.heap.size + 1) #[.int .i64 zeroR.t, .int .u32 zeroR.a, .int .i64 zeroR.l, .int .i64 zeroR.i, .int .u32 zeroR.g, .int .i64 zeroR.m] _ _ rfl rfl HB.out rt_size rfl rfl (by simp [Value.oneCell']) ?_; intro w5 hx5 k5)
  exact bodyPost_ret (results_two Try.results17 _ rfl k5 Try.underlying27 rfl rt_size) rfl ⟨rfl, ExtX.ext hA hx5 (by omega)⟩
end Go.Proofs.Ytbchfmadmcppkaa.Rb
