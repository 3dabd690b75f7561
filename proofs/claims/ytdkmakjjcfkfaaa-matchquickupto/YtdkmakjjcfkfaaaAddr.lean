/- Package addr's functions of numbers, for every argument and every world: held lengths, masks, prefixes without other bits, which has which. -/
import Derived.Test.YtdkmakjjcfkfaaaAddrP
import Derived.Test.YtdkmakjjcfkfaaaGrow
import Derived.Test.YtdkmakjjcfkfaaaProg
import Derived.Laws.StructEq
namespace Go.Proofs.Ytdkmakjjcfkfaaa
set_option maxRecDepth 100000
open Go.RowKit
set_option linter.unusedVariables false

theorem hold_any (n : Int) (w : World) : Calls Try.prog 33 #[.int .i64 n] w fun e w' => e = .returned (.int .i64 (holdV n)) ∧ w' = w := by
  by_cases h1 : n < 0
  · rw [show holdV n = 0 by unfold holdV; rw [if_pos h1]]
    go_enter Try.func33, Try.ntmps33
    go_wp2
    go_ret
    exact ⟨rfl, rfl⟩
  by_cases h2 : 32 < n
  · rw [show holdV n = 32 by unfold holdV; rw [if_neg h1, if_pos h2]]
    go_enter Try.func33, Try.ntmps33
    go_wp2
    go_ret
    exact ⟨rfl, rfl⟩
  · rw [show holdV n = n by unfold holdV; rw [if_neg h1, if_neg h2]]
    go_enter Try.func33, Try.ntmps33
    go_wp2
    go_ret
    exact ⟨rfl, rfl⟩

theorem mask_any (n : Int) (w : World) : Calls Try.prog 30 #[.int .i64 n] w fun e w' => e = .returned (.int .u32 (maskV n)) ∧ w' = w := by
  have hb := holdV_bd n
  have c1 := fun w => hold_any n w
  have hs := u32_shl_ones n
  generalize maskV n = m at *
  generalize holdV n = h at *
  have H : Hid _ := hs
  clear hs
  go_enter Try.func30, Try.ntmps30
  go_wp2_with (go_at_call 33; refine (c1 _).mono ?_; rintro e w' ⟨rfl, rfl⟩)
  go_ret
  exact ⟨by rw [← H.out]; rfl, rfl⟩

/-- A struct of two cells in a block of its own, in every later world. -/
theorem box2 {w : World} {b : Nat} {v0 v1 : Value} {t : TypeId} (h : w.heap[b]? = some (.cells #[v0, v1] t (0, 0))) (x : Nat) (hx : b ≠ x) :
    (∀ w', ExtX x w w' → w'.cell? ⟨b, 0, none⟩ = some v0) ∧ (∀ w', ExtX x w w' → w'.cell? ⟨b, 1, none⟩ = some v1) := by
  have hlt : b < w.heap.size := by
    rcases Nat.lt_or_ge b w.heap.size with hl | hl
    · exact hl
    · simp [Array.getElem?_eq_none hl] at h
  refine ⟨fun w' h1 => ?_, fun w' h1 => ?_⟩
  · rw [heap_cell ((h1.block b hlt hx).trans h)]; rfl
  · rw [heap_cell ((h1.block b hlt hx).trans h)]; rfl

theorem heap_new (w : World) (o : Obj) : (w.alloc o).heap[w.heap.size]? = some o := by
  show (w.heap.push o)[w.heap.size]? = _
  simp

/-- A struct of two cells that comes in is boxed first. -/
theorem boxed2 (w : World) (v0 v1 : Value) (t : TypeId) : Ext w (w.alloc (.cells #[v0, v1] t)).drew ∧
    (∀ w', Ext (w.alloc (.cells #[v0, v1] t)).drew w' → w'.cell? ⟨w.heap.size, 0, none⟩ = some v0) ∧ (∀ w', Ext (w.alloc (.cells #[v0, v1] t)).drew w' → w'.cell? ⟨w.heap.size, 1, none⟩ = some v1) := by
  have h : (w.alloc (.cells #[v0, v1] t)).drew.heap[w.heap.size]? = some (.cells #[v0, v1] t (0, 0)) := heap_new w _
  have hb := box2 h (w.heap.size + 1) (by omega)
  exact ⟨((Ext.refl w).alloc _).drew, fun w' hx => hb.1 w' (hx.but _), fun w' hx => hb.2 w' (hx.but _)⟩

/-- Two structs that come in are boxed first. -/
theorem boxed22 (w : World) (v0 v1 u0 u1 : Value) (t : TypeId) : Ext w ((w.alloc (.cells #[v0, v1] t)).alloc (.cells #[u0, u1] t)).drew ∧
    (∀ w', Ext ((w.alloc (.cells #[v0, v1] t)).alloc (.cells #[u0, u1] t)).drew w' → w'.cell? ⟨w.heap.size, 0, none⟩ = some v0) ∧ (∀ w', Ext ((w.alloc (.cells #[v0, v1] t)).alloc (.cells #[u0, u1] t)).drew w' → w'.cell? ⟨w.heap.size, 1, none⟩ = some v1) ∧
    (∀ w', Ext ((w.alloc (.cells #[v0, v1] t)).alloc (.cells #[u0, u1] t)).drew w' → w'.cell? ⟨w.heap.size + 1, 0, none⟩ = some u0) ∧ (∀ w', Ext ((w.alloc (.cells #[v0, v1] t)).alloc (.cells #[u0, u1] t)).drew w' → w'.cell? ⟨w.heap.size + 1, 1, none⟩ = some u1) := by
  have h : ((w.alloc (.cells #[v0, v1] t)).alloc (.cells #[u0, u1] t)).drew.heap[w.heap.size]? = some (.cells #[v0, v1] t (0, 0)) :=
    (Below.heap_alloc (w.alloc (.cells #[v0, v1] t)) _ w.heap.size (by simp)).trans (heap_new w _)
  have k : ((w.alloc (.cells #[v0, v1] t)).alloc (.cells #[u0, u1] t)).drew.heap[w.heap.size + 1]? = some (.cells #[u0, u1] t (0, 0)) := by
    have := heap_new (w.alloc (.cells #[v0, v1] t)) (.cells #[u0, u1] t)
    rwa [show (w.alloc (.cells #[v0, v1] t)).heap.size = w.heap.size + 1 by simp] at this
  have hb := box2 h (w.heap.size + 2) (by omega)
  have kb := box2 k (w.heap.size + 2) (by omega)
  exact ⟨(((Ext.refl w).alloc _).alloc _).drew, fun w' hx => hb.1 w' (hx.but _), fun w' hx => hb.2 w' (hx.but _), fun w' hx => kb.1 w' (hx.but _), fun w' hx => kb.2 w' (hx.but _)⟩

theorem has_any (a n x : Int) (w : World) (a0 : 0 ≤ a) (a1 : a ≤ 4294967295) (x0 : 0 ≤ x) (x1 : x ≤ 4294967295) :
    Calls Try.prog 24 #[.agg #[.int .u32 a, .int .i64 n], .int .u32 x] w fun e w' => e = .returned (.bool (hasV a n x)) ∧ Ext w w' := by
  have c1 := fun w => mask_any n w
  have hm := maskV_bd n
  have hh := u32_has a n x a0 a1 x0 x1
  generalize hasV a n x = d at *
  generalize maskV n = m at *
  obtain ⟨hx0, hb0, hb1⟩ := boxed2 w (.int .u32 a) (.int .i64 n) 32
  go_enter Try.func24, Try.ntmps24
  go_wp2
  refine wp_region_eager [(0, false), (1, false), (2, false), (3, false), (4, false), (5, false), (6, true), (7, false), (8, false), (9, false)] (by kernel_rfl) (by kernel_rfl) rfl (by kernel_rfl) (fun _ _ _ _ _ h => h) ?_
  generalize (w.alloc (.cells #[.int .u32 a, .int .i64 n] 32)).drew = W at *
  repeat (first
    | (refine wpE_read (v := ?_) rfl (by rfl) ?_ ?_; rotate_left; (focus (intro w' hx; go_simp; first | done | with_reducible rfl)); simp only [Act.put, List.setIfInBounds_toArray, List.set_cons_zero, List.set_cons_succ])
    | (refine wpE_call rfl (by rfl) (fun K hK => ?_); go_simp; first
        | (go_at_call 30; refine (c1 _).mono ?_; rintro e w' ⟨rfl, rfl⟩; refine hK _ _ (Ext.refl _) ?_; clear hK K)))
  refine wpE_done ?_
  go_wp2
  go_ret
  exact ⟨rfl, hx0⟩

theorem eq_guard : Try.prog.eqGuardType Try.prog.depth 32 = false := by kernel_rfl

theorem eql_prefix (a n b m : Int) (w : World) : (binOp .eql 32 (.agg #[.int .u32 a, .int .i64 n]) (.agg #[.int .u32 b, .int .i64 m])).run Try.prog w = .ok (.bool (a == b && n == m)) w := by
  rw [run_eql_struct, run_equalIn_agg w 9999 32 _ _ (by kernel_rfl) (by kernel_rfl)]
  have hf : (Try.prog.fieldsOf 32).toList.map (fun f => (f.name == "_", f.type, f.offset)) = [(false, 24, 0), (false, 3, 1)] := by kernel_rfl
  generalize (Try.prog.fieldsOf 32).toList = l at hf
  rcases l with _ | ⟨f0, _ | ⟨f1, _ | ⟨f2, r⟩⟩⟩
  · simp at hf
  · simp at hf
  · simp only [List.map_cons, List.map_nil, List.cons.injEq, Prod.mk.injEq, and_true, beq_eq_false_iff_ne, ne_eq] at hf
    obtain ⟨⟨p0, t0, o0⟩, p1, t1, o1⟩ := hf
    simp only [Op.eqFields, ne_eq, p0, p1, not_false_eq_true, if_true, t0, t1, o0, o1]
    go_simp
    by_cases h1 : a = b <;> by_cases h2 : n = m <;> simp [h1, h2]
  · simp at hf

end Go.Proofs.Ytdkmakjjcfkfaaa
