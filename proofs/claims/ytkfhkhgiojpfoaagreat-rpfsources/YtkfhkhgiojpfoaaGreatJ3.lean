/- Texts joined by a program: Addr, Rib1, TrieP, RowP. -/
import Derived.Test.YtkfhkhgiojpfoaaGreatProg
import Derived.Laws.StructEq
import Derived.Lib.BitFns
import Derived.Test.YtkfhkhgiojpfoaaGreatJ1
import Derived.Test.YtkfhkhgiojpfoaaGreatJ2
namespace Go.Proofs.YtkfhkhgiojpfoaaGreat

set_option maxRecDepth 100000

open Go.RowKit

set_option linter.unusedVariables false

theorem hold_any (n : Int) (w : World) : Calls Tryz.prog 81 #[.int .i64 n] w fun e w' => e = .returned (.int .i64 (holdV n)) ∧ w' = w := by
  by_cases h1 : n < 0
  · rw [show holdV n = 0 by unfold holdV; rw [if_pos h1]]
    go_enter Tryz.func81, Tryz.ntmps81
    go_wp2
    go_ret
    exact ⟨rfl, rfl⟩
  by_cases h2 : 32 < n
  · rw [show holdV n = 32 by unfold holdV; rw [if_neg h1, if_pos h2]]
    go_enter Tryz.func81, Tryz.ntmps81
    go_wp2
    go_ret
    exact ⟨rfl, rfl⟩
  · rw [show holdV n = n by unfold holdV; rw [if_neg h1, if_neg h2]]
    go_enter Tryz.func81, Tryz.ntmps81
    go_wp2
    go_ret
    exact ⟨rfl, rfl⟩

theorem mask_any (n : Int) (w : World) : Calls Tryz.prog 60 #[.int .i64 n] w fun e w' => e = .returned (.int .u32 (maskV n)) ∧ w' = w := by
  have hb := holdV_bd n
  have c1 := fun w => hold_any n w
  have hs := u32_shl_ones n
  generalize maskV n = m at *
  generalize holdV n = h at *
  have H : Hid _ := hs
  clear hs
  go_enter Tryz.func60, Tryz.ntmps60
  go_wp2_with (go_at_call 81; refine (c1 _).mono ?_; rintro e w' ⟨rfl, rfl⟩)
  go_ret
  exact ⟨by rw [← H.out]; rfl, rfl⟩

/-- A struct of two cells in a block of its own, in every later world. -/
theorem box2 {w : World} {b : Nat} {v0 v1 : Value} {t : TypeId} (h : w.heap[b]? = some (.cells #[v0, v1] t (0, 0))) (x : Nat) (hx : b ≠ x) :
    (∀ w', ExtX x w w' → w'.cell? ⟨b, 0, none⟩ = some v0) ∧ (∀ w', ExtX x w w' → w'.cell? ⟨b, 1, none⟩ = some v1) := by
  have hlt : b < w.heap.size := by
    rcases Nat.lt_or_ge b w.heap.size with hl | hl
    · exact hl
    · simp [Array.getElem?_eq_none hl] at h
  refine ⟨fun w' h1 => ?_, fun w' h1 => ?_⟩
  · rw [heap_cell ((h1.block b hlt hx).trans h)]; rfl
  · rw [heap_cell ((h1.block b hlt hx).trans h)]; rfl

theorem heap_new (w : World) (o : Obj) : (w.alloc o).heap[w.heap.size]? = some o := by
  show (w.heap.push o)[w.heap.size]? = _
  simp

/-- A struct of two cells that comes in is boxed first. -/
theorem boxed2 (w : World) (v0 v1 : Value) (t : TypeId) : Ext w (w.alloc (.cells #[v0, v1] t)).drew ∧
    (∀ w', Ext (w.alloc (.cells #[v0, v1] t)).drew w' → w'.cell? ⟨w.heap.size, 0, none⟩ = some v0) ∧ (∀ w', Ext (w.alloc (.cells #[v0, v1] t)).drew w' → w'.cell? ⟨w.heap.size, 1, none⟩ = some v1) := by
  have h : (w.alloc (.cells #[v0, v1] t)).drew.heap[w.heap.size]? = some (.cells #[v0, v1] t (0, 0)) := heap_new w _
  have hb := box2 h (w.heap.size + 1) (by omega)
  exact ⟨((Ext.refl w).alloc _).drew, fun w' hx => hb.1 w' (hx.but _), fun w' hx => hb.2 w' (hx.but _)⟩

/-- Two structs that come in are boxed first. -/
theorem boxed22 (w : World) (v0 v1 u0 u1 : Value) (t : TypeId) : Ext w ((w.alloc (.cells #[v0, v1] t)).alloc (.cells #[u0, u1] t)).drew ∧
    (∀ w', Ext ((w.alloc (.cells #[v0, v1] t)).alloc (.cells #[u0, u1] t)).drew w' → w'.cell? ⟨w.heap.size, 0, none⟩ = some v0) ∧ (∀ w', Ext ((w.alloc (.cells #[v0, v1] t)).alloc (.cells #[u0, u1] t)).drew w' → w'.cell? ⟨w.heap.size, 1, none⟩ = some v1) ∧
    (∀ w', Ext ((w.alloc (.cells #[v0, v1] t)).alloc (.cells #[u0, u1] t)).drew w' → w'.cell? ⟨w.heap.size + 1, 0, none⟩ = some u0) ∧ (∀ w', Ext ((w.alloc (.cells #[v0, v1] t)).alloc (.cells #[u0, u1] t)).drew w' → w'.cell? ⟨w.heap.size + 1, 1, none⟩ = some u1) := by
  have h : ((w.alloc (.cells #[v0, v1] t)).alloc (.cells #[u0, u1] t)).drew.heap[w.heap.size]? = some (.cells #[v0, v1] t (0, 0)) :=
    (Below.heap_alloc (w.alloc (.cells #[v0, v1] t)) _ w.heap.size (by simp)).trans (heap_new w _)
  have k : ((w.alloc (.cells #[v0, v1] t)).alloc (.cells #[u0, u1] t)).drew.heap[w.heap.size + 1]? = some (.cells #[u0, u1] t (0, 0)) := by
    have := heap_new (w.alloc (.cells #[v0, v1] t)) (.cells #[u0, u1] t)
    rwa [show (w.alloc (.cells #[v0, v1] t)).heap.size = w.heap.size + 1 by simp] at this
  have hb := box2 h (w.heap.size + 2) (by omega)
  have kb := box2 k (w.heap.size + 2) (by omega)
  exact ⟨(((Ext.refl w).alloc _).alloc _).drew, fun w' hx => hb.1 w' (hx.but _), fun w' hx => hb.2 w' (hx.but _), fun w' hx => kb.1 w' (hx.but _), fun w' hx => kb.2 w' (hx.but _)⟩

theorem has_any (a n x : Int) (w : World) (a0 : 0 ≤ a) (a1 : a ≤ 4294967295) (x0 : 0 ≤ x) (x1 : x ≤ 4294967295) :
    Calls Tryz.prog 34 #[.agg #[.int .u32 a, .int .i64 n], .int .u32 x] w fun e w' => e = .returned (.bool (hasV a n x)) ∧ Ext w w' := by
  have c1 := fun w => mask_any n w
  have hm := maskV_bd n
  have hh := u32_has a n x a0 a1 x0 x1
  generalize hasV a n x = d at *
  generalize maskV n = m at *
  obtain ⟨hx0, hb0, hb1⟩ := boxed2 w (.int .u32 a) (.int .i64 n) 42
  go_enter Tryz.func34, Tryz.ntmps34
  go_wp2
  refine wp_region_eager [(0, false), (1, false), (2, false), (3, false), (4, false), (5, false), (6, true), (7, false), (8, false), (9, false)] (by kernel_rfl) (by kernel_rfl) rfl (by kernel_rfl) (fun _ _ _ _ _ h => h) ?_
  generalize (w.alloc (.cells #[.int .u32 a, .int .i64 n] 42)).drew = W at *
  repeat (first
    | (refine wpE_read (v := ?_) rfl (by rfl) ?_ ?_; rotate_left; (focus (intro w' hx; go_simp; first | done | with_reducible rfl)); simp only [Act.put, List.setIfInBounds_toArray, List.set_cons_zero, List.set_cons_succ])
    | (refine wpE_call rfl (by rfl) (fun K hK => ?_); go_simp; first
        | (go_at_call 60; refine (c1 _).mono ?_; rintro e w' ⟨rfl, rfl⟩; refine hK _ _ (Ext.refl _) ?_; clear hK K)))
  refine wpE_done ?_
  go_wp2
  go_ret
  exact ⟨rfl, hx0⟩

theorem wide_any (a n : Int) (w : World) (a0 : 0 ≤ a) (a1 : a ≤ 4294967295) :
    Calls Tryz.prog 41 #[.agg #[.int .u32 a, .int .i64 n]] w fun e w' => e = .returned (.int .u32 (wideV a n)) ∧ Ext w w' := by
  have c1 := fun w => mask_any n w
  have hm := maskV_bd n
  have hh := u32_or_rest a n a0 a1
  rw [← u32_not _ hm.1 hm.2] at hh
  generalize wideV a n = d at *
  generalize maskV n = m at *
  obtain ⟨hx0, hb0, hb1⟩ := boxed2 w (.int .u32 a) (.int .i64 n) 42
  go_enter Tryz.func41, Tryz.ntmps41
  go_wp2
  refine wp_region_eager [(0, false), (1, false), (2, false), (3, false), (4, true), (5, false), (6, false), (7, false)] (by kernel_rfl) (by kernel_rfl) rfl (by kernel_rfl) (fun _ _ _ _ _ h => h) ?_
  generalize (w.alloc (.cells #[.int .u32 a, .int .i64 n] 42)).drew = W at *
  repeat (first
    | (refine wpE_read (v := ?_) rfl (by rfl) ?_ ?_; rotate_left; (focus (intro w' hx; go_simp; first | done | with_reducible rfl)); simp only [Act.put, List.setIfInBounds_toArray, List.set_cons_zero, List.set_cons_succ])
    | (refine wpE_call rfl (by rfl) (fun K hK => ?_); go_simp; first
        | (go_at_call 60; refine (c1 _).mono ?_; rintro e w' ⟨rfl, rfl⟩; refine hK _ _ (Ext.refl _) ?_; clear hK K)))
  refine wpE_done ?_
  go_wp2
  go_ret
  exact ⟨rfl, hx0⟩

set_option maxRecDepth 100000 in
theorem norm_any (a n : Int) (w : World) (a0 : 0 ≤ a) (a1 : a ≤ 4294967295) :
    Calls Tryz.prog 106 #[.agg #[.int .u32 a, .int .i64 n]] w fun e w' => e = .returned (.agg #[.int .u32 (normV a n), .int .i64 (holdV n)]) ∧ Ext w w' := by
  have c1 := fun w => mask_any n w
  have c2 := fun w => hold_any n w
  have hm := maskV_bd n
  have hh := u32_and_mask a n a0 a1
  generalize normV a n = d at *
  generalize maskV n = m at *
  generalize holdV n = h at *
  have hx0 : Ext w ((w.alloc (.cells #[.int .u32 a, .int .i64 n] 42)).alloc (.cells #[.int .u32 0, .int .i64 0] 42)).drew := (((Ext.refl w).alloc _).alloc _).drew
  have hh0 : ((w.alloc (.cells #[.int .u32 a, .int .i64 n] 42)).alloc (.cells #[.int .u32 0, .int .i64 0] 42)).drew.heap[w.heap.size]? = some (.cells #[.int .u32 a, .int .i64 n] 42 (0, 0)) :=
    (Below.heap_alloc (w.alloc (.cells #[.int .u32 a, .int .i64 n] 42)) _ w.heap.size (by simp)).trans (heap_new w _)
  have hh1 : ((w.alloc (.cells #[.int .u32 a, .int .i64 n] 42)).alloc (.cells #[.int .u32 0, .int .i64 0] 42)).drew.heap[w.heap.size + 1]? = some (.cells #[.int .u32 0, .int .i64 0] 42 (0, 0)) := by
    have := heap_new (w.alloc (.cells #[.int .u32 a, .int .i64 n] 42)) (.cells #[.int .u32 0, .int .i64 0] 42)
    rwa [show (w.alloc (.cells #[.int .u32 a, .int .i64 n] 42)).heap.size = w.heap.size + 1 by simp] at this
  obtain ⟨hb0, hb1⟩ := box2 hh0 (w.heap.size + 1) (by omega)
  have f0 : ((w.alloc (.cells #[.int .u32 a, .int .i64 n] 42)).alloc (.cells #[.int .u32 0, .int .i64 0] 42)).drew.frozen? ⟨w.heap.size + 1, 0, none⟩ = false := heap_frozen hh1
  have f1 : ((w.alloc (.cells #[.int .u32 a, .int .i64 n] 42)).alloc (.cells #[.int .u32 0, .int .i64 0] 42)).drew.frozen? ⟨w.heap.size + 1, 1, none⟩ = false := heap_frozen hh1
  have d0 : ((w.alloc (.cells #[.int .u32 a, .int .i64 n] 42)).alloc (.cells #[.int .u32 0, .int .i64 0] 42)).drew.cell? ⟨w.heap.size + 1, 0, none⟩ = some (.int .u32 0) := by rw [heap_cell hh1]; rfl
  have d1 : ((w.alloc (.cells #[.int .u32 a, .int .i64 n] 42)).alloc (.cells #[.int .u32 0, .int .i64 0] 42)).drew.cell? ⟨w.heap.size + 1, 1, none⟩ = some (.int .i64 0) := by rw [heap_cell hh1]; rfl
  have H1 : Hid _ := hh1
  clear hh0 hh1
  go_enter Tryz.func106, Tryz.ntmps106
  go_wp2
  refine wp_region_eagerX (w.heap.size + 1) [(0, false), (1, false), (2, false), (3, false), (6, false), (7, false), (4, true), (5, false), (8, true), (9, false), (10, true)] (by kernel_rfl) (by kernel_rfl) rfl (by kernel_rfl) (fun _ _ _ _ _ h => h) ?_
  generalize ((w.alloc (.cells #[.int .u32 a, .int .i64 n] 42)).alloc (.cells #[.int .u32 0, .int .i64 0] 42)).drew = W at *
  repeat (first
    | (refine wpE_read (v := ?_) rfl (by rfl) ?_ ?_; rotate_left; (focus (intro w' hx; go_simp; first | done | with_reducible rfl)); simp only [Act.put, List.setIfInBounds_toArray, List.set_cons_zero, List.set_cons_succ])
    | (refine wpE_call rfl (by rfl) (fun K hK => ?_); go_simp; first
        | (go_at_call 60; refine (c1 _).mono ?_; rintro e w' ⟨rfl, rfl⟩; refine hK _ _ (ExtX.refl _ _) ?_; clear hK K)
        | (go_at_call 81; refine (c2 _).mono ?_; rintro e w' ⟨rfl, rfl⟩; refine hK _ _ (ExtX.refl _ _) ?_; clear hK K)))
  refine wpE_call rfl (by rfl) (fun K hK => ?_)
  go_simp
  refine hK _ _ (((ExtX.refl _ _).setCell (p := ⟨w.heap.size + 1, 0, none⟩) rfl _).setCell (p := ⟨w.heap.size + 1, 1, none⟩) rfl _) ?_
  clear hK K
  have k1 := heap_set (heap_set H1.out (k := 0) (.int .u32 d)) (k := 1) (.int .i64 h)
  have hx1 : Ext w ((w'.setCell ⟨w.heap.size + 1, 0, none⟩ (.int .u32 d)).setCell ⟨w.heap.size + 1, 1, none⟩ (.int .i64 h)) := ExtX.ext hx0 (((ExtX.refl _ _).setCell (p := ⟨w.heap.size + 1, 0, none⟩) rfl _).setCell (p := ⟨w.heap.size + 1, 1, none⟩) rfl _) (show w.heap.size ≤ w.heap.size + 1 by omega)
  clear f0 f1 d0 d1 H1 hb0 hb1 hx0
  generalize ((w'.setCell ⟨w.heap.size + 1, 0, none⟩ (.int .u32 d)).setCell ⟨w.heap.size + 1, 1, none⟩ (.int .i64 h)) = w2 at *
  have d0 : w2.cell? ⟨w.heap.size + 1, 0, none⟩ = some (.int .u32 d) := by rw [heap_cell k1]; rfl
  have d1 : w2.cell? ⟨w.heap.size + 1, 1, none⟩ = some (.int .i64 h) := by rw [heap_cell k1]; rfl
  clear k1
  refine wpE_done ?_
  go_wp2
  exact bodyPost_ret (v := .agg #[.int .u32 d, .int .i64 h]) (by simp [results, Tryz.results106, go_sem, d0, d1]) rfl ⟨rfl, hx1⟩

theorem eq_guard : Tryz.prog.eqGuardType Tryz.prog.depth 42 = false := by kernel_rfl

theorem eql_prefix (a n b m : Int) (w : World) : (binOp .eql 42 (.agg #[.int .u32 a, .int .i64 n]) (.agg #[.int .u32 b, .int .i64 m])).run Tryz.prog w = .ok (.bool (a == b && n == m)) w := by
  rw [run_eql_struct, run_equalIn_agg w 9999 42 _ _ (by kernel_rfl) (by kernel_rfl)]
  have hf : (Tryz.prog.fieldsOf 42).toList.map (fun f => (f.name == "_", f.type, f.offset)) = [(false, 23, 0), (false, 3, 1)] := by kernel_rfl
  generalize (Tryz.prog.fieldsOf 42).toList = l at hf
  rcases l with _ | ⟨f0, _ | ⟨f1, _ | ⟨f2, r⟩⟩⟩
  · simp at hf
  · simp at hf
  · simp only [List.map_cons, List.map_nil, List.cons.injEq, Prod.mk.injEq, and_true, beq_eq_false_iff_ne, ne_eq] at hf
    obtain ⟨⟨p0, t0, o0⟩, p1, t1, o1⟩ := hf
    simp only [Op.eqFields, ne_eq, p0, p1, not_false_eq_true, if_true, t0, t1, o0, o1]
    go_simp
    by_cases h1 : a = b <;> by_cases h2 : n = m <;> simp [h1, h2]
  · simp at hf

theorem is_any (a n : Int) (w : World) (a0 : 0 ≤ a) (a1 : a ≤ 4294967295) :
    Calls Tryz.prog 87 #[.agg #[.int .u32 a, .int .i64 n]] w fun e w' => e = .returned (.bool (isV a n)) ∧ Ext w w' := by
  have c1 := fun w => norm_any a n w a0 a1
  have eg := eq_guard
  unfold isV
  generalize normV a n = d at *
  generalize holdV n = h at *
  obtain ⟨hx0, hb0, hb1⟩ := boxed2 w (.int .u32 a) (.int .i64 n) 42
  have eq := fun w => eql_prefix a n d h w
  go_enter Tryz.func87, Tryz.ntmps87
  go_wp2
  refine wp_region_eager [(0, false), (1, false), (2, true), (3, false), (4, false)] (by kernel_rfl) (by kernel_rfl) rfl (by kernel_rfl) (fun _ _ _ _ _ h => h) ?_
  generalize (w.alloc (.cells #[.int .u32 a, .int .i64 n] 42)).drew = W at *
  repeat (first
    | (refine wpE_read (v := ?_) rfl (by rfl) ?_ ?_; rotate_left; (focus (intro w' hx; go_simp; first | done | with_reducible rfl)); simp only [Act.put, List.setIfInBounds_toArray, List.set_cons_zero, List.set_cons_succ])
    | (refine wpE_call rfl (by rfl) (fun K hK => ?_); go_simp; first
        | (go_at_call 106; refine (c1 _).mono ?_; rintro e w' ⟨rfl, hx1⟩; refine hK _ _ hx1 ?_; clear hK K)))
  refine wpE_done ?_
  go_wp2
  go_ret
  exact ⟨rfl, hx0.trans hx1⟩

theorem cast_any (a : Int) (w : World) (a0 : 0 ≤ a) (a1 : a ≤ 4294967295) :
    Calls Tryz.prog 35 #[.int .u32 a] w fun e w' => e = .returned (.bool (castV a)) ∧ w' = w := by
  unfold castV
  go_enter Tryz.func35, Tryz.ntmps35
  go_wp2
  all_goals go_ret
  · exact ⟨by simp [*], rfl⟩
  · exact ⟨rfl, rfl⟩

theorem covers_any (a n b m : Int) (w : World) (a0 : 0 ≤ a) (a1 : a ≤ 4294967295) (b0 : 0 ≤ b) (b1 : b ≤ 4294967295) :
    Calls Tryz.prog 144 #[.agg #[.int .u32 a, .int .i64 n], .agg #[.int .u32 b, .int .i64 m]] w fun e w' => e = .returned (.bool (coversV a n b m)) ∧ Ext w w' := by
  have c1 := fun w => hold_any n w
  have c2 := fun w => hold_any m w
  have c3 := fun w => has_any a n b w a0 a1 b0 b1
  unfold coversV
  generalize hasV a n b = d at *
  generalize holdV n = h at *
  generalize holdV m = k at *
  have tok1 : Hid True := trivial
  obtain ⟨hx0, hb0, hb1, hb2, hb3⟩ := boxed22 w (.int .u32 a) (.int .i64 n) (.int .u32 b) (.int .i64 m) 42
  by_cases g : h ≤ k
  · rw [decide_eq_true g, Bool.true_and]
    go_enter Tryz.func144, Tryz.ntmps144
    go_wp2
    refine wp_region_eager [(0, false), (1, false), (3, false), (4, false), (2, true), (5, true), (6, false), (7, false), (8, false), (9, false), (10, false), (11, true), (12, false), (13, false)] (by kernel_rfl) (by kernel_rfl) rfl (by kernel_rfl) (fun _ _ _ _ _ h => h) ?_
    generalize ((w.alloc (.cells #[.int .u32 a, .int .i64 n] 42)).alloc (.cells #[.int .u32 b, .int .i64 m] 42)).drew = W at *
    repeat (first
      | (refine wpE_read (v := ?_) rfl (by rfl) ?_ ?_; rotate_left; (focus (intro w' hx; go_simp; first | done | with_reducible rfl)); simp only [Act.put, List.setIfInBounds_toArray, List.set_cons_zero, List.set_cons_succ])
      | (refine wpE_call rfl (by rfl) (fun K hK => ?_); go_simp; first
          | (go_at_call 81; clear tok1; refine (c1 _).mono ?_; rintro e w' ⟨rfl, rfl⟩; refine hK _ _ (Ext.refl _) ?_; clear hK K)
          | (go_at_call 81; refine (c2 _).mono ?_; rintro e w' ⟨rfl, rfl⟩; refine hK _ _ (Ext.refl _) ?_; clear hK K)
          | (go_at_call 34; refine (c3 _).mono ?_; rintro e w1 ⟨rfl, hx1⟩; refine hK _ _ hx1 ?_; clear hK K)))
    refine wpE_done ?_
    go_wp2
    go_ret
    exact ⟨rfl, hx0.trans hx1⟩
  · rw [decide_eq_false g, Bool.false_and]
    have gd := decide_eq_false g
    clear g
    go_enter Tryz.func144, Tryz.ntmps144
    go_wp2
    refine wp_region_eager [(0, false), (1, false), (3, false), (4, false), (2, true), (5, true), (6, false), (7, false), (8, false), (9, false), (10, false), (11, true), (12, false), (13, false)] (by kernel_rfl) (by kernel_rfl) rfl (by kernel_rfl) (fun _ _ _ _ _ h => h) ?_
    generalize ((w.alloc (.cells #[.int .u32 a, .int .i64 n] 42)).alloc (.cells #[.int .u32 b, .int .i64 m] 42)).drew = W at *
    repeat (first
      | (refine wpE_read (v := ?_) rfl (by rfl) ?_ ?_; rotate_left; (focus (intro w' hx; go_simp; first | done | with_reducible rfl)); simp only [Act.put, List.setIfInBounds_toArray, List.set_cons_zero, List.set_cons_succ])
      | (refine wpE_skip rfl (by rfl) ?_; simp only [Act.put, List.setIfInBounds_toArray, List.set_cons_zero, List.set_cons_succ])
      | (refine wpE_call rfl (by rfl) (fun K hK => ?_); go_simp; first
          | (go_at_call 81; clear tok1; refine (c1 _).mono ?_; rintro e w' ⟨rfl, rfl⟩; refine hK _ _ (Ext.refl _) ?_; clear hK K)
          | (go_at_call 81; refine (c2 _).mono ?_; rintro e w' ⟨rfl, rfl⟩; refine hK _ _ (Ext.refl _) ?_; clear hK K)))
    refine wpE_done ?_
    go_wp2
    go_ret
    exact ⟨rfl, hx0⟩
end Go.Proofs.YtkfhkhgiojpfoaaGreat

namespace Go.Proofs.YtkfhkhgiojpfoaaGreat.Rb

set_option maxRecDepth 100000

open Go.RowKit Go.Proofs.YtkfhkhgiojpfoaaGreat

set_option linter.unusedVariables false

set_option linter.unusedSimpArgs false

theorem nan_int (x : Int) (w : World) : Calls Tryz.prog 131 #[.int .i64 x] w fun e w' => e = .returned (.bool false) ∧ Ext w w' := by
  go_enter Tryz.func131, Tryz.ntmps131
  go_wp2
  go_ret
  exact ⟨rfl, Ext.refl w⟩

theorem nan_u32 (x : Int) (w : World) : Calls Tryz.prog 132 #[.int .u32 x] w fun e w' => e = .returned (.bool false) ∧ Ext w w' := by
  go_enter Tryz.func132, Tryz.ntmps132
  go_wp2
  go_ret
  exact ⟨rfl, Ext.refl w⟩

theorem compare_int (x y : Int) (w : World) : Calls Tryz.prog 108 #[.int .i64 x, .int .i64 y] w fun e w' => e = .returned (.int .i64 (cmpI x y)) ∧ Ext w w' := by
  have c1 := fun w => nan_int x w
  have c2 := fun w => nan_int y w
  unfold cmpI
  have tok1 : Hid True := trivial
  by_cases h : x < y
  · rw [if_pos h]
    go_enter Tryz.func108, Tryz.ntmps108
    go_wp2_with (first
      | (go_at_call 131; clear tok1; refine (c1 _).mono ?_; rintro e w1 ⟨rfl, hx1⟩)
      | (go_at_call 131; refine (c2 _).mono ?_; rintro e w2 ⟨rfl, hx2⟩))
    go_ret
    exact ⟨rfl, hx1.trans hx2⟩
  · rw [if_neg h]
    by_cases h2 : y < x
    · rw [if_pos h2]
      go_enter Tryz.func108, Tryz.ntmps108
      go_wp2_with (first
        | (go_at_call 131; clear tok1; refine (c1 _).mono ?_; rintro e w1 ⟨rfl, hx1⟩)
        | (go_at_call 131; refine (c2 _).mono ?_; rintro e w2 ⟨rfl, hx2⟩))
      go_ret
      exact ⟨rfl, hx1.trans hx2⟩
    · rw [if_neg h2]
      go_enter Tryz.func108, Tryz.ntmps108
      go_wp2_with (first
        | (go_at_call 131; clear tok1; refine (c1 _).mono ?_; rintro e w1 ⟨rfl, hx1⟩)
        | (go_at_call 131; refine (c2 _).mono ?_; rintro e w2 ⟨rfl, hx2⟩))
      go_ret
      exact ⟨rfl, hx1.trans hx2⟩

theorem compare_u32 (x y : Int) (w : World) : Calls Tryz.prog 110 #[.int .u32 x, .int .u32 y] w fun e w' => e = .returned (.int .i64 (cmpI x y)) ∧ Ext w w' := by
  have c1 := fun w => nan_u32 x w
  have c2 := fun w => nan_u32 y w
  unfold cmpI
  have tok1 : Hid True := trivial
  by_cases h : x < y
  · rw [if_pos h]
    go_enter Tryz.func110, Tryz.ntmps110
    go_wp2_with (first
      | (go_at_call 132; clear tok1; refine (c1 _).mono ?_; rintro e w1 ⟨rfl, hx1⟩)
      | (go_at_call 132; refine (c2 _).mono ?_; rintro e w2 ⟨rfl, hx2⟩))
    go_ret
    exact ⟨rfl, hx1.trans hx2⟩
  · rw [if_neg h]
    by_cases h2 : y < x
    · rw [if_pos h2]
      go_enter Tryz.func110, Tryz.ntmps110
      go_wp2_with (first
        | (go_at_call 132; clear tok1; refine (c1 _).mono ?_; rintro e w1 ⟨rfl, hx1⟩)
        | (go_at_call 132; refine (c2 _).mono ?_; rintro e w2 ⟨rfl, hx2⟩))
      go_ret
      exact ⟨rfl, hx1.trans hx2⟩
    · rw [if_neg h2]
      go_enter Tryz.func110, Tryz.ntmps110
      go_wp2_with (first
        | (go_at_call 132; clear tok1; refine (c1 _).mono ?_; rintro e w1 ⟨rfl, hx1⟩)
        | (go_at_call 132; refine (c2 _).mono ?_; rintro e w2 ⟨rfl, hx2⟩))
      go_ret
      exact ⟨rfl, hx1.trans hx2⟩

theorem or_any (g n : Nat) (xs : List Int) (w : World) (hg : w.heap[g]? = some (.cells (xs.map (Value.int .i64)).toArray 3 (0, 0))) (hn : xs.length = n) (hs : n ≤ 100) :
    Calls Tryz.prog 107 #[.slice (some ⟨g, 0, none⟩) n n] w fun e w' => e = .returned (.int .i64 (orI xs)) ∧ Ext w w' := by
  have hc : ∀ w', Ext w w' → ∀ k x, xs[k]? = some x → w'.cell? ⟨g, k, none⟩ = some (.int .i64 x) := fun w' hx k x hk => by
    rw [heap_cell (hx.heap hg)]; simp [hk]
  have HC : Hid _ := hc
  have HN : Hid (xs.length = n) := hn
  clear hc hg hn
  go_enter Tryz.func107, Tryz.ntmps107
  go_wp2_with fail
  go_loopw [8] (fun i wr => ∃ k : Nat, k ≤ n ∧ i = .int .i64 k ∧ Ext w wr ∧ Hid (orI xs = orI (xs.drop k))) (fun i _ => n - (intOf i).toNat)
  case atStart => exact ⟨0, Nat.zero_le _, rfl, Ext.refl _, (by simp : orI xs = orI (xs.drop 0))⟩
  case round =>
    obtain ⟨k, hk, rfl, hx, HK⟩ := hrel
    by_cases hlt : k < n
    · have hlt' : k < xs.length := by rw [HN.out]; exact hlt
      obtain ⟨x, hxk⟩ : ∃ x, xs[k]? = some x := ⟨_, List.getElem?_eq_getElem hlt'⟩
      have q := HC.out wr hx k x hxk
      have hki : (k : Int) < (n : Int) := by omega
      have HD : Hid (xs.drop k = x :: xs.drop (k + 1)) := by
        show xs.drop k = _
        rw [List.drop_eq_getElem_cons hlt', (List.getElem?_eq_some_iff.1 hxk).2]
      clear hxk hlt'
      by_cases h0 : x = 0
      · have e : orI xs = orI (xs.drop (k + 1)) := by rw [HK.out, HD.out, orI_cons, if_pos h0]
        subst h0
        have HE : Hid _ := e
        clear e
        go_wp2_with fail
        go_roundw
        case rel => exact ⟨k + 1, by omega, by go_num, hx, HE⟩
        case measure => simp [intOf]; omega
      · have e : orI xs = x := by rw [HK.out, HD.out, orI_cons, if_neg h0]
        have HE : Hid _ := e
        clear e
        go_wp2_with fail
        go_ret
        rw [HE.out]
        exact ⟨rfl, hx⟩
    · obtain rfl : k = n := by omega
      have e : orI xs = 0 := by rw [HK.out, List.drop_eq_nil_of_le (by rw [HN.out]; exact Nat.le_refl _)]; rfl
      have HE : Hid _ := e
      clear e
      go_wp2_with fail
      go_ret
      rw [HE.out]
      exact ⟨rfl, hx⟩

/-- Two structs that come in are boxed first. -/
theorem two_boxes (w : World) (A B : Array Value) (t : TypeId) : Ext w ((w.alloc (.cells A t)).alloc (.cells B t)) ∧ ((w.alloc (.cells A t)).alloc (.cells B t)).heap[w.heap.size]? = some (.cells A t (0, 0)) ∧ ((w.alloc (.cells A t)).alloc (.cells B t)).heap[w.heap.size + 1]? = some (.cells B t (0, 0)) := by
  refine ⟨((Ext.refl w).alloc _).alloc _, (Below.heap_alloc (w.alloc (.cells A t)) _ w.heap.size (by simp)).trans (heap_new w _), ?_⟩
  have := heap_new (w.alloc (.cells A t)) (.cells B t)
  rwa [show (w.alloc (.cells A t)).heap.size = w.heap.size + 1 by simp] at this

theorem box2E {w : World} {b : Nat} {v0 v1 : Value} {t : TypeId} (h : w.heap[b]? = some (.cells #[v0, v1] t (0, 0))) :
    (∀ w', Ext w w' → w'.cell? ⟨b, 0, none⟩ = some v0) ∧ (∀ w', Ext w w' → w'.cell? ⟨b, 1, none⟩ = some v1) := by
  have hk : ∀ k w', Ext w w' → w'.cell? ⟨b, k, none⟩ = #[v0, v1][k]? := fun k w' hx => heap_cell (hx.heap h)
  exact ⟨hk 0, hk 1⟩

theorem orderPrefix_any (a l b m : Int) (w : World) : Calls Tryz.prog 109 #[.agg #[.int .u32 a, .int .i64 l], .agg #[.int .u32 b, .int .i64 m]] w fun e w' => e = .returned (.int .i64 (ordP a l b m)) ∧ Ext w w' := by
  obtain ⟨hX0, hA, hB⟩ := two_boxes w #[.int .u32 a, .int .i64 l] #[.int .u32 b, .int .i64 m] 42
  have hsz : w.heap.size ≤ ((w.alloc (.cells #[.int .u32 a, .int .i64 l] 42)).alloc (.cells #[.int .u32 b, .int .i64 m] 42)).heap.size := hX0.size
  obtain ⟨a0, a1⟩ := box2E hA
  obtain ⟨b0, b1⟩ := box2E hB
  clear hA hB
  go_enter Tryz.func109, Tryz.ntmps109
  go_wp2_with fail
  refine wp_region_make w.heap.size hsz [(0, 0), (1, 0), (2, 0), (3, 0), (5, 0), (6, 0), (7, 0), (8, 0), (4, 1), (9, 1), (10, 3), (10, 2), (11, 1), (12, 0)] (by kernel_rfl) (by kernel_rfl) rfl (by kernel_rfl) (fun _ _ _ _ _ => Iff.rfl) ?_
  have hX := hX0.drew
  have hd : Ext ((w.alloc (.cells #[.int .u32 a, .int .i64 l] 42)).alloc (.cells #[.int .u32 b, .int .i64 m] 42)) ((w.alloc (.cells #[.int .u32 a, .int .i64 l] 42)).alloc (.cells #[.int .u32 b, .int .i64 m] 42)).drew := (Ext.refl _).drew
  have x0 := fun w' h => a0 w' (hd.trans h)
  have x1 := fun w' h => a1 w' (hd.trans h)
  have y0 := fun w' h => b0 w' (hd.trans h)
  have y1 := fun w' h => b1 w' (hd.trans h)
  clear a0 a1 b0 b1 hd hX0 hsz
  generalize ((w.alloc (.cells #[.int .u32 a, .int .i64 l] 42)).alloc (.cells #[.int .u32 b, .int .i64 m] 42)).drew = W at *
  iterate 8 (refine wpW_read (v := ?_) rfl (by rfl) ?_ ?_; rotate_left; (focus (intro w' hx; go_simp; first | done | with_reducible rfl)); simp only [Act.put, List.setIfInBounds_toArray, List.set_cons_zero, List.set_cons_succ])
  clear x0 x1 y0 y1
  refine wpW_call rfl (by rfl) (fun W1 hx1 K hK => ?_); go_simp; (go_at_call 110; refine (compare_u32 _ _ _).mono ?_; rintro e W1' ⟨rfl, hx1'⟩; refine hK _ _ hx1' ?_; clear hK K)
  refine wpW_call rfl (by rfl) (fun W2 hx2 K hK => ?_); go_simp; (go_at_call 108; refine (compare_int _ _ _).mono ?_; rintro e W2' ⟨rfl, hx2'⟩; refine hK _ _ hx2' ?_; clear hK K)
  (refine wpW_say _ (fun g => .slice (some ⟨g, 0, none⟩) 2 2) rfl (by rfl) (fun w' => by go_simp; first | done | with_reducible rfl) ?_)
  refine wpW_make _ (fun g => .slice (some ⟨g, 0, none⟩) 2 2) rfl (by rfl) (fun w' => by go_simp; first | done | with_reducible rfl) ?_; simp only [Act.put, List.setIfInBounds_toArray, List.set_cons_zero, List.set_cons_succ]; intro W7 g7 hx7 hB7 hg7
  refine wpW_call rfl (by rfl) (fun W8 hx8 K hK => ?_); go_simp; (go_at_call 107)
  refine (or_any g7 2 [cmpI a b, cmpI l m] W8 (hx8.heap hg7) rfl (by omega)).mono ?_
  rintro e W9 ⟨rfl, hx9⟩
  refine hK _ _ hx9 ?_
  clear hK K
  (refine wpW_read (v := ?_) rfl (by rfl) ?_ ?_; rotate_left; (focus (intro w' hx; go_simp; first | done | with_reducible rfl)); simp only [Act.put, List.setIfInBounds_toArray, List.set_cons_zero, List.set_cons_succ])
  refine wpW_done ?_
  go_wp2_with fail
  go_ret
  exact ⟨rfl, hX.trans (hx1.trans (hx1'.trans (hx2.trans (hx2'.trans (hx7.trans (hx8.trans hx9))))))⟩

theorem order_any (x y : Rt) (w : World) : Calls Tryz.prog 89 #[(.agg #[.int .i64 x.t, .int .u32 x.a, .int .i64 x.l, .int .i64 x.i, .int .u32 x.g, .int .i64 x.m]), (.agg #[.int .i64 y.t, .int .u32 y.a, .int .i64 y.l, .int .i64 y.i, .int .u32 y.g, .int .i64 y.m])] w fun e w' => e = .returned (.int .i64 (ordR x y)) ∧ Ext w w' := by
  obtain ⟨hX0, hA, hB⟩ := two_boxes w #[.int .i64 x.t, .int .u32 x.a, .int .i64 x.l, .int .i64 x.i, .int .u32 x.g, .int .i64 x.m] #[.int .i64 y.t, .int .u32 y.a, .int .i64 y.l, .int .i64 y.i, .int .u32 y.g, .int .i64 y.m] 48
  have hsz : w.heap.size ≤ ((w.alloc (.cells #[.int .i64 x.t, .int .u32 x.a, .int .i64 x.l, .int .i64 x.i, .int .u32 x.g, .int .i64 x.m] 48)).alloc (.cells #[.int .i64 y.t, .int .u32 y.a, .int .i64 y.l, .int .i64 y.i, .int .u32 y.g, .int .i64 y.m] 48)).heap.size := hX0.size
  obtain ⟨a0, a1, a2, a3, a4, a5⟩ := box_rtE hA
  obtain ⟨b0, b1, b2, b3, b4, b5⟩ := box_rtE hB
  clear hA hB
  go_enter Tryz.func89, Tryz.ntmps89
  go_wp2_with fail
  refine wp_region_make w.heap.size hsz [(0, 0), (1, 0), (2, 0), (3, 0), (5, 0), (6, 0), (7, 0), (8, 0), (10, 0), (11, 0), (12, 0), (13, 0), (15, 0), (16, 0), (17, 0), (18, 0), (4, 1), (9, 1), (14, 1), (19, 1), (20, 3), (20, 2), (21, 1), (22, 0)] (by kernel_rfl) (by kernel_rfl) rfl (by kernel_rfl) (fun _ _ _ _ _ => Iff.rfl) ?_
  have hX := hX0.drew
  have hd : Ext ((w.alloc (.cells #[.int .i64 x.t, .int .u32 x.a, .int .i64 x.l, .int .i64 x.i, .int .u32 x.g, .int .i64 x.m] 48)).alloc (.cells #[.int .i64 y.t, .int .u32 y.a, .int .i64 y.l, .int .i64 y.i, .int .u32 y.g, .int .i64 y.m] 48)) ((w.alloc (.cells #[.int .i64 x.t, .int .u32 x.a, .int .i64 x.l, .int .i64 x.i, .int .u32 x.g, .int .i64 x.m] 48)).alloc (.cells #[.int .i64 y.t, .int .u32 y.a, .int .i64 y.l, .int .i64 y.i, .int .u32 y.g, .int .i64 y.m] 48)).drew := (Ext.refl _).drew
  have x0 := fun w' h => a0 w' (hd.trans h)
  have x1 := fun w' h => a1 w' (hd.trans h)
  have x2 := fun w' h => a2 w' (hd.trans h)
  have x3 := fun w' h => a3 w' (hd.trans h)
  have x4 := fun w' h => a4 w' (hd.trans h)
  have y0 := fun w' h => b0 w' (hd.trans h)
  have y1 := fun w' h => b1 w' (hd.trans h)
  have y2 := fun w' h => b2 w' (hd.trans h)
  have y3 := fun w' h => b3 w' (hd.trans h)
  have y4 := fun w' h => b4 w' (hd.trans h)
  clear a0 a1 a2 a3 a4 a5 b0 b1 b2 b3 b4 b5 hd hX0 hsz
  generalize ((w.alloc (.cells #[.int .i64 x.t, .int .u32 x.a, .int .i64 x.l, .int .i64 x.i, .int .u32 x.g, .int .i64 x.m] 48)).alloc (.cells #[.int .i64 y.t, .int .u32 y.a, .int .i64 y.l, .int .i64 y.i, .int .u32 y.g, .int .i64 y.m] 48)).drew = W at *
  iterate 16 (refine wpW_read (v := ?_) rfl (by rfl) ?_ ?_; rotate_left; (focus (intro w' hx; go_simp; first | done | with_reducible rfl)); simp only [Act.put, List.setIfInBounds_toArray, List.set_cons_zero, List.set_cons_succ])
  clear x0 x1 x2 x3 x4 y0 y1 y2 y3 y4
  refine wpW_call rfl (by rfl) (fun W1 hx1 K hK => ?_); go_simp; (go_at_call 108; refine (compare_int _ _ _).mono ?_; rintro e W1' ⟨rfl, hx1'⟩; refine hK _ _ hx1' ?_; clear hK K)
  refine wpW_call rfl (by rfl) (fun W2 hx2 K hK => ?_); go_simp; (go_at_call 109; refine (orderPrefix_any _ _ _ _ _).mono ?_; rintro e W2' ⟨rfl, hx2'⟩; refine hK _ _ hx2' ?_; clear hK K)
  refine wpW_call rfl (by rfl) (fun W3 hx3 K hK => ?_); go_simp; (go_at_call 108; refine (compare_int _ _ _).mono ?_; rintro e W3' ⟨rfl, hx3'⟩; refine hK _ _ hx3' ?_; clear hK K)
  refine wpW_call rfl (by rfl) (fun W4 hx4 K hK => ?_); go_simp; (go_at_call 110; refine (compare_u32 _ _ _).mono ?_; rintro e W4' ⟨rfl, hx4'⟩; refine hK _ _ hx4' ?_; clear hK K)
  (refine wpW_say _ (fun g => .slice (some ⟨g, 0, none⟩) 4 4) rfl (by rfl) (fun w' => by go_simp; first | done | with_reducible rfl) ?_)
  refine wpW_make _ (fun g => .slice (some ⟨g, 0, none⟩) 4 4) rfl (by rfl) (fun w' => by go_simp; first | done | with_reducible rfl) ?_; simp only [Act.put, List.setIfInBounds_toArray, List.set_cons_zero, List.set_cons_succ]; intro W7 g7 hx7 hB7 hg7
  refine wpW_call rfl (by rfl) (fun W8 hx8 K hK => ?_); go_simp; (go_at_call 107)
  refine (or_any g7 4 [cmpI x.t y.t, ordP x.a x.l y.a y.l, cmpI x.i y.i, cmpI x.g y.g] W8 (hx8.heap hg7) rfl (by omega)).mono ?_
  rintro e W9 ⟨rfl, hx9⟩
  refine hK _ _ hx9 ?_
  clear hK K
  (refine wpW_read (v := ?_) rfl (by rfl) ?_ ?_; rotate_left; (focus (intro w' hx; go_simp; first | done | with_reducible rfl)); simp only [Act.put, List.setIfInBounds_toArray, List.set_cons_zero, List.set_cons_succ])
  refine wpW_done ?_
  go_wp2_with fail
  go_ret
  exact ⟨rfl, hX.trans (hx1.trans (hx1'.trans (hx2.trans (hx2'.trans (hx3.trans (hx3'.trans (hx4.trans (hx4'.trans (hx7.trans (hx8.trans hx9))))))))))⟩

theorem better_any (x y : Rt) (w : World) : Calls Tryz.prog 138 #[(.agg #[.int .i64 x.t, .int .u32 x.a, .int .i64 x.l, .int .i64 x.i, .int .u32 x.g, .int .i64 x.m]), (.agg #[.int .i64 y.t, .int .u32 y.a, .int .i64 y.l, .int .i64 y.i, .int .u32 y.g, .int .i64 y.m])] w fun e w' => e = .returned (.bool (betB x y)) ∧ Ext w w' := by
  obtain ⟨hX0, hA, hB⟩ := two_boxes w #[.int .i64 x.t, .int .u32 x.a, .int .i64 x.l, .int .i64 x.i, .int .u32 x.g, .int .i64 x.m] #[.int .i64 y.t, .int .u32 y.a, .int .i64 y.l, .int .i64 y.i, .int .u32 y.g, .int .i64 y.m] 48
  have hsz : w.heap.size ≤ ((w.alloc (.cells #[.int .i64 x.t, .int .u32 x.a, .int .i64 x.l, .int .i64 x.i, .int .u32 x.g, .int .i64 x.m] 48)).alloc (.cells #[.int .i64 y.t, .int .u32 y.a, .int .i64 y.l, .int .i64 y.i, .int .u32 y.g, .int .i64 y.m] 48)).heap.size := hX0.size
  obtain ⟨a0, a1, a2, a3, a4, a5⟩ := box_rtE hA
  obtain ⟨b0, b1, b2, b3, b4, b5⟩ := box_rtE hB
  have hb : decide (orI [cmpI x.m y.m, cmpI x.i y.i, cmpI x.g y.g] < 0) = betB x y := by
    have := betI_lt x y
    unfold betI at this
    cases h : betB x y
    · rw [h] at this; simpa using this
    · rw [h] at this; simpa using this
  have HB : Hid _ := hb
  clear hA hB hb
  go_enter Tryz.func138, Tryz.ntmps138
  go_wp2_with fail
  refine wp_region_make w.heap.size hsz [(0, 0), (1, 0), (2, 0), (3, 0), (5, 0), (6, 0), (7, 0), (8, 0), (10, 0), (11, 0), (12, 0), (13, 0), (4, 1), (9, 1), (14, 1), (15, 3), (15, 2), (16, 1), (17, 0), (18, 0)] (by kernel_rfl) (by kernel_rfl) rfl (by kernel_rfl) (fun _ _ _ _ _ => Iff.rfl) ?_
  have hX := hX0.drew
  have hd : Ext ((w.alloc (.cells #[.int .i64 x.t, .int .u32 x.a, .int .i64 x.l, .int .i64 x.i, .int .u32 x.g, .int .i64 x.m] 48)).alloc (.cells #[.int .i64 y.t, .int .u32 y.a, .int .i64 y.l, .int .i64 y.i, .int .u32 y.g, .int .i64 y.m] 48)) ((w.alloc (.cells #[.int .i64 x.t, .int .u32 x.a, .int .i64 x.l, .int .i64 x.i, .int .u32 x.g, .int .i64 x.m] 48)).alloc (.cells #[.int .i64 y.t, .int .u32 y.a, .int .i64 y.l, .int .i64 y.i, .int .u32 y.g, .int .i64 y.m] 48)).drew := (Ext.refl _).drew
  have x3 := fun w' h => a3 w' (hd.trans h)
  have x4 := fun w' h => a4 w' (hd.trans h)
  have x5 := fun w' h => a5 w' (hd.trans h)
  have y3 := fun w' h => b3 w' (hd.trans h)
  have y4 := fun w' h => b4 w' (hd.trans h)
  have y5 := fun w' h => b5 w' (hd.trans h)
  clear a0 a1 a2 a3 a4 a5 b0 b1 b2 b3 b4 b5 hd hX0 hsz
  generalize ((w.alloc (.cells #[.int .i64 x.t, .int .u32 x.a, .int .i64 x.l, .int .i64 x.i, .int .u32 x.g, .int .i64 x.m] 48)).alloc (.cells #[.int .i64 y.t, .int .u32 y.a, .int .i64 y.l, .int .i64 y.i, .int .u32 y.g, .int .i64 y.m] 48)).drew = W at *
  iterate 12 (refine wpW_read (v := ?_) rfl (by rfl) ?_ ?_; rotate_left; (focus (intro w' hx; go_simp; first | done | with_reducible rfl)); simp only [Act.put, List.setIfInBounds_toArray, List.set_cons_zero, List.set_cons_succ])
  clear x3 x4 x5 y3 y4 y5
  refine wpW_call rfl (by rfl) (fun W1 hx1 K hK => ?_); go_simp; (go_at_call 108; refine (compare_int _ _ _).mono ?_; rintro e W1' ⟨rfl, hx1'⟩; refine hK _ _ hx1' ?_; clear hK K)
  refine wpW_call rfl (by rfl) (fun W3 hx3 K hK => ?_); go_simp; (go_at_call 108; refine (compare_int _ _ _).mono ?_; rintro e W3' ⟨rfl, hx3'⟩; refine hK _ _ hx3' ?_; clear hK K)
  refine wpW_call rfl (by rfl) (fun W4 hx4 K hK => ?_); go_simp; (go_at_call 110; refine (compare_u32 _ _ _).mono ?_; rintro e W4' ⟨rfl, hx4'⟩; refine hK _ _ hx4' ?_; clear hK K)
  (refine wpW_say _ (fun g => .slice (some ⟨g, 0, none⟩) 3 3) rfl (by rfl) (fun w' => by go_simp; first | done | with_reducible rfl) ?_)
  refine wpW_make _ (fun g => .slice (some ⟨g, 0, none⟩) 3 3) rfl (by rfl) (fun w' => by go_simp; first | done | with_reducible rfl) ?_; simp only [Act.put, List.setIfInBounds_toArray, List.set_cons_zero, List.set_cons_succ]; intro W7 g7 hx7 hB7 hg7
  refine wpW_call rfl (by rfl) (fun W8 hx8 K hK => ?_); go_simp; (go_at_call 107)
  refine (or_any g7 3 [cmpI x.m y.m, cmpI x.i y.i, cmpI x.g y.g] W8 (hx8.heap hg7) rfl (by omega)).mono ?_
  rintro e W9 ⟨rfl, hx9⟩
  refine hK _ _ hx9 ?_
  clear hK K
  (refine wpW_read (v := ?_) rfl (by rfl) ?_ ?_; rotate_left; (focus (intro w' hx; go_simp; first | done | with_reducible rfl)); simp only [Act.put, List.setIfInBounds_toArray, List.set_cons_zero, List.set_cons_succ])
  (refine wpW_read (v := ?_) rfl (by rfl) ?_ ?_; rotate_left; (focus (intro w' hx; go_simp; first | done | with_reducible rfl)); simp only [Act.put, List.setIfInBounds_toArray, List.set_cons_zero, List.set_cons_succ])
  refine wpW_done ?_
  go_wp2_with fail
  go_ret
  refine ⟨?_, hX.trans (hx1.trans (hx1'.trans (hx3.trans (hx3'.trans (hx4.trans (hx4'.trans (hx7.trans (hx8.trans hx9))))))))⟩
  rw [← HB.out]
  rfl
end Go.Proofs.YtkfhkhgiojpfoaaGreat.Rb

namespace Go.Proofs.YtkfhkhgiojpfoaaGreat.Tri

open Go.RowKit Go.Proofs.YtkfhkhgiojpfoaaGreat

abbrev PX := Int × Int

/-- A prefix that may be. -/
def Vp (p : PX) : Prop := ∃ A N : Nat, p = ((A : Int), (N : Int)) ∧ N ≤ 32 ∧ A < 4294967296 ∧ A % 2 ^ (32 - N) = 0

def cov (p q : PX) : Bool := coversV p.1 p.2 q.1 q.2

theorem holdV_nat (N : Nat) (h : N ≤ 32) : holdV (N : Int) = N := by
  unfold holdV; rw [if_neg (by omega), if_neg (by omega)]

theorem sizeN_nat (N : Nat) (h : N ≤ 32) : sizeN (N : Int) = 2 ^ (32 - N) := by
  unfold sizeN; rw [holdV_nat N h]; congr 1; omega

theorem vp_of {a n : Int} (h0 : 0 ≤ a) (h1 : a ≤ 4294967295) (h : isV a n = true) : Vp (a, n) := by
  unfold isV at h
  simp only [Bool.and_eq_true, beq_iff_eq] at h
  obtain ⟨ha, hn⟩ := h
  have hb := holdV_bd n
  obtain ⟨N, rfl⟩ := Int.eq_ofNat_of_zero_le (show 0 ≤ n by omega)
  obtain ⟨A, rfl⟩ := Int.eq_ofNat_of_zero_le h0
  refine ⟨A, N, rfl, by omega, by omega, ?_⟩
  unfold normV at ha
  rw [sizeN_nat N (by omega), Int.toNat_natCast] at ha
  have e : A = A / 2 ^ (32 - N) * 2 ^ (32 - N) := by exact_mod_cast ha
  rw [e]; exact Nat.mul_mod_left _ _

theorem Vp.is {a n : Int} (h : Vp (a, n)) : isV a n = true := by
  obtain ⟨A, N, e, hN, hA, hm⟩ := h
  obtain ⟨rfl, rfl⟩ := Prod.mk.inj e
  unfold isV normV
  rw [sizeN_nat N hN, Int.toNat_natCast, holdV_nat N hN]
  have := Nat.div_add_mod A (2 ^ (32 - N))
  rw [hm, Nat.add_zero, Nat.mul_comm] at this
  rw [this]; simp

theorem Vp.bd {p : PX} (h : Vp p) : 0 ≤ p.1 ∧ p.1 ≤ 4294967295 ∧ 0 ≤ p.2 ∧ p.2 ≤ 32 := by
  obtain ⟨A, N, rfl, hN, hA, _⟩ := h
  simp only
  omega

theorem cov_nat {A N B M : Nat} (hN : N ≤ 32) (hM : M ≤ 32) : cov ((A : Int), (N : Int)) ((B : Int), (M : Int)) = true ↔ N ≤ M ∧ A / 2 ^ (32 - N) = B / 2 ^ (32 - N) := by
  unfold cov
  rw [covers_spec, holdV_nat N hN, holdV_nat M hM, sizeN_nat N hN]
  simp only [Int.toNat_natCast]
  omega

theorem cov_refl (p : PX) : cov p p = true := covers_self _ _

theorem cov_trans {p q r : PX} (h1 : cov p q = true) (h2 : cov q r = true) : cov p r = true := by
  obtain ⟨l1, e1⟩ := covers_spec.1 h1
  obtain ⟨l2, e2⟩ := covers_spec.1 h2
  exact covers_spec.2 ⟨Int.le_trans l1 l2, e1.trans (div_up l1 e2)⟩

theorem cov_len {p q : PX} (hp : Vp p) (hq : Vp q) (h : cov p q = true) : p.2 ≤ q.2 := by
  obtain ⟨A, N, rfl, hN, _, _⟩ := hp
  obtain ⟨B, M, rfl, hM, _, _⟩ := hq
  have := ((cov_nat hN hM).1 h).1
  simp only; omega

theorem cov_eq {p q : PX} (hp : Vp p) (hq : Vp q) (h : cov p q = true) (hl : q.2 ≤ p.2) : p = q := by
  obtain ⟨A, N, rfl, hN, _, hA⟩ := hp
  obtain ⟨B, M, rfl, hM, _, hB⟩ := hq
  obtain ⟨h1, h2⟩ := (cov_nat hN hM).1 h
  obtain rfl : N = M := by simp only at hl; omega
  have e1 := Nat.div_add_mod A (2 ^ (32 - N))
  have e2 := Nat.div_add_mod B (2 ^ (32 - N))
  rw [hA] at e1; rw [hB] at e2
  rw [h2] at e1
  rw [show A = B by omega]

theorem pow_split {N M : Nat} (h : N ≤ M) (hM : M ≤ 32) (x : Nat) : x / 2 ^ (32 - N) = x / 2 ^ (32 - M) / 2 ^ (M - N) := by
  rw [Nat.div_div_eq_div_mul, ← Nat.pow_add]
  congr 2; omega

theorem cov_two {p q r : PX} (hp : Vp p) (hq : Vp q) (hr : Vp r) (h1 : cov p r = true) (h2 : cov q r = true) (hl : p.2 ≤ q.2) : cov p q = true := by
  obtain ⟨A, N, rfl, hN, _, _⟩ := hp
  obtain ⟨B, M, rfl, hM, _, _⟩ := hq
  obtain ⟨C, K, rfl, hK, _, _⟩ := hr
  obtain ⟨_, e1⟩ := (cov_nat hN hK).1 h1
  obtain ⟨_, e2⟩ := (cov_nat hM hK).1 h2
  have hNM : N ≤ M := by simp only at hl; omega
  refine (cov_nat hN hM).2 ⟨hNM, ?_⟩
  rw [e1, pow_split hNM hM C, pow_split hNM hM B, e2]

theorem cov_addr {p q : PX} (hp : Vp p) (hq : Vp q) (h : cov p q = true) : p.1 ≤ q.1 := by
  obtain ⟨A, N, rfl, hN, _, hA⟩ := hp
  obtain ⟨B, M, rfl, hM, _, hB⟩ := hq
  obtain ⟨h1, h2⟩ := (cov_nat hN hM).1 h
  have e1 := Nat.div_add_mod A (2 ^ (32 - N))
  have e2 := Nat.div_add_mod B (2 ^ (32 - N))
  rw [hA] at e1
  rw [h2] at e1
  simp only; omega

/-- In which half of its first n bits' prefix an address is. -/
def halfV (a n : Int) : Int := a * 2 ^ n.toNat % 4294967296 / 2147483648

theorem half_nat {A N : Nat} (hN : N ≤ 31) : halfV (A : Int) (N : Int) = ((A / 2 ^ (31 - N) % 2 : Nat) : Int) := by
  unfold halfV
  rw [Int.toNat_natCast]
  have e : (A * 2 ^ N % 4294967296 / 2147483648 : Nat) = A / 2 ^ (31 - N) % 2 := by
    have e1 : (4294967296 : Nat) = (2 ^ (31 - N) * 2) * 2 ^ N := by
      rw [Nat.mul_assoc, Nat.mul_comm 2, ← Nat.mul_assoc, ← Nat.pow_add, show 31 - N + N = 31 by omega]
    have e2 : (2147483648 : Nat) = 2 ^ (31 - N) * 2 ^ N := by
      rw [← Nat.pow_add, show 31 - N + N = 31 by omega]
    rw [e1, e2, Nat.mul_mod_mul_right, Nat.mul_div_mul_right _ _ (Nat.two_pow_pos N), Nat.mod_mul_right_div_self]
  rw [← e]
  simp only [Int.natCast_ediv, Int.natCast_emod, Int.natCast_mul, Int.natCast_pow]
  rfl

theorem half_01 (a n : Int) : halfV a n = 0 ∨ halfV a n = 1 := by
  unfold halfV
  have : 0 ≤ a * 2 ^ n.toNat % 4294967296 := Int.emod_nonneg _ (by omega)
  have : a * 2 ^ n.toNat % 4294967296 < 4294967296 := Int.emod_lt_of_pos _ (by omega)
  omega

/-- Strictly below, in that half. -/
def Und (Q : PX) (i : Int) (x : PX) : Prop := Q.2 < x.2 ∧ cov Q x = true ∧ halfV x.1 Q.2 = i

theorem und_nat {A N B M : Nat} {i : Int} (hN : N ≤ 32) (hM : M ≤ 32) : Und ((A : Int), (N : Int)) i ((B : Int), (M : Int)) ↔ N < M ∧ A / 2 ^ (32 - N) = B / 2 ^ (32 - N) ∧ ((B / 2 ^ (31 - N) % 2 : Nat) : Int) = i := by
  unfold Und
  constructor
  · rintro ⟨h1, h2, h3⟩
    simp only at h1 h3
    have h4 : N < M := by omega
    rw [half_nat (by omega)] at h3
    exact ⟨h4, ((cov_nat hN hM).1 h2).2, h3⟩
  · rintro ⟨h1, h2, h3⟩
    refine ⟨by simp only; omega, (cov_nat hN hM).2 ⟨by omega, h2⟩, ?_⟩
    simp only
    rw [half_nat (by omega)]; exact h3

theorem pow_next {N : Nat} (hN : N ≤ 31) (x : Nat) : x / 2 ^ (32 - N) = x / 2 ^ (31 - N) / 2 := by
  rw [Nat.div_div_eq_div_mul, ← Nat.pow_succ]
  congr 2; omega

theorem und_trans {Q x y : PX} {i : Int} (hQ : Vp Q) (hx : Vp x) (hy : Vp y) (h : Und Q i x) (h2 : cov x y = true) : Und Q i y := by
  obtain ⟨A, N, rfl, hN, _, _⟩ := hQ
  obtain ⟨B, M, rfl, hM, _, _⟩ := hx
  obtain ⟨C, K, rfl, hK, _, _⟩ := hy
  obtain ⟨u1, u2, u3⟩ := (und_nat hN hM).1 h
  obtain ⟨c1, c2⟩ := (cov_nat hM hK).1 h2
  refine (und_nat hN hK).2 ⟨by omega, ?_, ?_⟩
  · rw [u2, pow_split (by omega : N ≤ M) hM B, pow_split (by omega : N ≤ M) hM C, c2]
  · have e := pow_split (by omega : N + 1 ≤ M) hM
    rw [show 32 - (N + 1) = 31 - N by omega] at e
    rw [← u3, e B, e C, c2]

theorem und_half {Q x : PX} (hQ : Vp Q) (hx : Vp x) (h : cov Q x = true) (hne : Q ≠ x) : Und Q (halfV x.1 Q.2) x := by
  refine ⟨?_, h, rfl⟩
  have h1 := cov_len hQ hx h
  rcases Int.lt_or_le Q.2 x.2 with h2 | h2
  · exact h2
  · exact absurd (cov_eq hQ hx h h2) hne

theorem und_ord {Q x y : PX} (hQ : Vp Q) (hx : Vp x) (hy : Vp y) (h : Und Q 0 x) (h2 : Und Q 1 y) : x.1 < y.1 := by
  obtain ⟨A, N, rfl, hN, _, _⟩ := hQ
  obtain ⟨B, M, rfl, hM, _, _⟩ := hx
  obtain ⟨C, K, rfl, hK, _, _⟩ := hy
  obtain ⟨u1, u2, u3⟩ := (und_nat hN hM).1 h
  obtain ⟨v1, v2, v3⟩ := (und_nat hN hK).1 h2
  rw [pow_next (by omega) B] at u2
  rw [pow_next (by omega) C] at v2
  have e : B / 2 ^ (31 - N) < C / 2 ^ (31 - N) := by omega
  simp only
  rcases Nat.lt_or_ge B C with h | h
  · omega
  · have := Nat.div_le_div_right (c := 2 ^ (31 - N)) h; omega

theorem und_one {Q x : PX} {i j : Int} (h : Und Q i x) (h2 : Und Q j x) : i = j := h.2.2.symm.trans h2.2.2

/-! What two have in common. -/

def min2 (x y : Int) : Int := if y < x then y else x
def lzV (a b : Int) : Int := 32 - (Lib.bitLen (a.toNat ^^^ b.toNat) : Int)
def comL (p q : PX) : Int := min2 (min2 (lzV p.1 q.1) p.2) q.2
def com (p q : PX) : PX := (normV p.1 (comL p q), comL p q)

theorem bitLenAux_lt : ∀ (f x : Nat), x < 2 ^ f → x < 2 ^ Lib.bitLenAux f x
  | 0, x, h => by simp at h; subst h; simp [Lib.bitLenAux]
  | f + 1, x, h => by
    unfold Lib.bitLenAux
    split
    · rename_i h0; subst h0; simp
    · have := bitLenAux_lt f (x / 2) (by rw [Nat.pow_succ] at h; omega)
      rw [Nat.add_comm, Nat.pow_succ]; omega

theorem bitLen_iff (x k : Nat) (hx : x < 2 ^ 64) (hk : k ≤ 64) : Lib.bitLen x ≤ k ↔ x < 2 ^ k := by
  constructor
  · intro h
    exact Nat.lt_of_lt_of_le (bitLenAux_lt 64 x hx) (Nat.pow_le_pow_right (by decide) h)
  · exact Lib.bitLen_le x k hk

theorem lz_spec {A B : Nat} (hA : A < 4294967296) (hB : B < 4294967296) (N : Nat) (hN : N ≤ 32) : (N : Int) ≤ lzV A B ↔ A / 2 ^ (32 - N) = B / 2 ^ (32 - N) := by
  unfold lzV
  simp only [Int.toNat_natCast]
  have hx := Nat.xor_lt_two_pow (n := 32) (x := A) (y := B) hA hB
  have h1 := bitLen_iff (A ^^^ B) (32 - N) (by omega) (by omega)
  rw [← nat_xor_div, Nat.div_eq_zero_iff_lt (Nat.two_pow_pos _), ← h1]
  omega

theorem lz_bd {A B : Nat} (hA : A < 4294967296) (hB : B < 4294967296) : 0 ≤ lzV A B ∧ lzV A B ≤ 32 := by
  have h := (lz_spec hA hB 0 (by omega)).2 (by rw [Nat.div_eq_of_lt (by omega), Nat.div_eq_of_lt (by omega)])
  unfold lzV at h ⊢
  omega

theorem min2_le (x y : Int) : min2 x y ≤ x ∧ min2 x y ≤ y ∧ (min2 x y = x ∨ min2 x y = y) := by
  unfold min2; split <;> omega

/-- All that is known of it. -/
theorem com_spec {p q : PX} (hp : Vp p) (hq : Vp q) : Vp (com p q) ∧ cov (com p q) p = true ∧ cov (com p q) q = true ∧ (∀ r, Vp r → cov r p = true → cov r q = true → cov r (com p q) = true) ∧
    (com p q ≠ p → com p q ≠ q → halfV p.1 (com p q).2 ≠ halfV q.1 (com p q).2) ∧ 0 ≤ comL p q ∧ comL p q ≤ 32 := by
  obtain ⟨A, N, rfl, hN, hA, hAm⟩ := hp
  obtain ⟨B, M, rfl, hM, hB, hBm⟩ := hq
  have hl := lz_bd hA hB
  have hs := lz_spec hA hB
  unfold com
  have hc : ∃ K : Nat, comL ((A : Int), (N : Int)) ((B : Int), (M : Int)) = K ∧ K ≤ N ∧ K ≤ M ∧ (K : Int) ≤ lzV A B ∧ (K = N ∨ K = M ∨ (K : Int) = lzV A B) := by
    unfold comL
    simp only
    have h1 := min2_le (lzV A B) N
    have h2 := min2_le (min2 (lzV A B) N) M
    have h0 : 0 ≤ min2 (min2 (lzV A B) N) M := by omega
    obtain ⟨K, hK⟩ := Int.eq_ofNat_of_zero_le h0
    exact ⟨K, hK, by omega, by omega, by omega, by omega⟩
  obtain ⟨K, hK, h1, h2, h3, h4⟩ := hc
  rw [hK]
  have hK32 : K ≤ 32 := by omega
  have hn : normV (A : Int) (K : Int) = ((A / 2 ^ (32 - K) * 2 ^ (32 - K) : Nat) : Int) := by
    unfold normV; rw [sizeN_nat K hK32, Int.toNat_natCast]
  rw [hn]
  have hd : A / 2 ^ (32 - K) * 2 ^ (32 - K) / 2 ^ (32 - K) = A / 2 ^ (32 - K) := Nat.mul_div_cancel _ (Nat.two_pow_pos _)
  have hAB := (hs K hK32).1 h3
  have hle := Nat.div_mul_le_self A (2 ^ (32 - K))
  refine ⟨⟨_, K, rfl, hK32, by omega, Nat.mul_mod_left _ _⟩, (cov_nat hK32 hN).2 ⟨h1, hd⟩, (cov_nat hK32 hM).2 ⟨h2, hd.trans hAB⟩, ?_, ?_, by omega, by omega⟩
  · rintro r ⟨C, R, rfl, hR, hC, hCm⟩ c1 c2
    obtain ⟨d1, d2⟩ := (cov_nat hR hN).1 c1
    obtain ⟨e1, e2⟩ := (cov_nat hR hM).1 c2
    have hRl := (hs R hR).2 (d2.symm.trans e2)
    have hRK : R ≤ K := by omega
    refine (cov_nat hR hK32).2 ⟨hRK, ?_⟩
    rw [d2, pow_split hRK hK32 A, pow_split hRK hK32 (A / 2 ^ (32 - K) * 2 ^ (32 - K)), hd]
  · intro n1 n2
    have hKN : K < N := by
      rcases Nat.lt_or_ge K N with h | h
      · exact h
      · obtain rfl : K = N := by omega
        exfalso; apply n1
        have := Nat.div_add_mod A (2 ^ (32 - K))
        rw [hAm, Nat.mul_comm] at this
        rw [show A / 2 ^ (32 - K) * 2 ^ (32 - K) = A by omega]
    have hKM : K < M := by
      rcases Nat.lt_or_ge K M with h | h
      · exact h
      · obtain rfl : K = M := by omega
        exfalso; apply n2
        have := Nat.div_add_mod B (2 ^ (32 - K))
        rw [hBm, Nat.mul_comm] at this
        rw [hAB, show B / 2 ^ (32 - K) * 2 ^ (32 - K) = B by omega]
    have hKl : (K : Int) = lzV A B := by omega
    simp only
    rw [half_nat (by omega), half_nat (by omega)]
    intro he
    have hno : ¬ ((K + 1 : Nat) : Int) ≤ lzV A B := by omega
    rw [hs (K + 1) (by omega), show 32 - (K + 1) = 31 - K by omega] at hno
    rw [pow_next (by omega) A, pow_next (by omega) B] at hAB
    omega

theorem und_com {Q x y : PX} {i : Int} (hQ : Vp Q) (hx : Vp x) (hy : Vp y) (h1 : Und Q i x) (h2 : Und Q i y) : Und Q i (com x y) := by
  obtain ⟨hv, cx, cy, hm, hh, _⟩ := com_spec hx hy
  have hc := hm Q hQ h1.2.1 h2.2.1
  by_cases he : Q = com x y
  · exfalso
    refine hh ?_ ?_ ?_
    · rw [← he]; intro e; have := h1.1; rw [e] at this; omega
    · rw [← he]; intro e; have := h2.1; rw [e] at this; omega
    · rw [← he, h1.2.2, h2.2.2]
  · have hu := und_half hQ hv hc he
    have hu2 := und_trans hQ hv hx hu cx
    rw [und_one hu2 h1] at hu
    exact hu

/-- By address, then by length. -/
def bef (p q : PX) : Bool := if p.1 == q.1 then decide (p.2 < q.2) else decide (p.1 < q.1)

theorem bef_iff {p q : PX} : bef p q = true ↔ p.1 < q.1 ∨ (p.1 = q.1 ∧ p.2 < q.2) := by
  unfold bef; split
  · rename_i h; rw [beq_iff_eq] at h; simp only [decide_eq_true_eq]; omega
  · rename_i h; rw [beq_iff_eq] at h; simp only [decide_eq_true_eq]; omega

theorem bef_trans {p q r : PX} (h1 : bef p q = true) (h2 : bef q r = true) : bef p r = true := by
  rw [bef_iff] at *; omega

theorem bef_irr (p : PX) : bef p p = false := by
  cases h : bef p p with
  | false => rfl
  | true => rw [bef_iff] at h; omega

theorem bef_tri (p q : PX) : bef p q = true ∨ p = q ∨ bef q p = true := by
  rw [bef_iff, bef_iff]
  rcases p with ⟨a, n⟩; rcases q with ⟨b, m⟩
  simp only [Prod.mk.injEq]; omega

theorem cov_bef {p q : PX} (hp : Vp p) (hq : Vp q) (h : cov p q = true) (hne : p ≠ q) : bef p q = true := by
  have h1 := cov_addr hp hq h
  have h2 := cov_len hp hq h
  rw [bef_iff]
  rcases Int.lt_or_le p.2 q.2 with h3 | h3
  · omega
  · exact absurd (cov_eq hp hq h h3) hne
end Go.Proofs.YtkfhkhgiojpfoaaGreat.Tri

namespace Go.Proofs.YtkfhkhgiojpfoaaGreat.Tri

set_option maxRecDepth 100000

open Go.RowKit Go.Proofs.YtkfhkhgiojpfoaaGreat

set_option linter.unusedVariables false

def pxC (L : List PX) : List Value := L.flatMap fun p => [.int .u32 p.1, .int .i64 p.2]

theorem pxC_length (L : List PX) : (pxC L).length = L.length * 2 := by
  induction L with
  | nil => rfl
  | cons p L ih => simp only [pxC, List.flatMap_cons, List.length_append, List.length_cons, List.length_nil] at *; omega

theorem pxC_append (L M : List PX) : pxC (L ++ M) = pxC L ++ pxC M := by simp [pxC, List.flatMap_append]

theorem pxC_get : ∀ (L : List PX) (i : Nat) (p : PX), L[i]? = some p → (pxC L)[i * 2]? = some (.int .u32 p.1) ∧ (pxC L)[i * 2 + 1]? = some (.int .i64 p.2)
  | [], i, p, h => by simp at h
  | q :: L, 0, p, h => by
    obtain rfl : q = p := by simpa using h
    exact ⟨rfl, rfl⟩
  | q :: L, i + 1, p, h => by
    have := pxC_get L i p (by simpa using h)
    rw [show (i + 1) * 2 = i * 2 + 1 + 1 by omega]
    exact this

theorem pxC_one {L : List PX} {u : Value} (h : u ∈ pxC L) : u.oneCell' = true := by
  simp only [pxC, List.mem_flatMap] at h
  obtain ⟨p, _, h⟩ := h
  simp only [List.mem_cons, List.not_mem_nil, or_false] at h
  rcases h with rfl | rfl <;> rfl

/-- A row of prefixes of the call's own. -/
def OwnP (w : World) (B : Nat) (v : Value) (L : List PX) : Prop := w.ownsRow B 42 2 v L.length (pxC L)

/-- A row of numbers of the call's own. -/
def OwnI (w : World) (B : Nat) (v : Value) (L : List Int) : Prop := w.ownsRow B 3 1 v L.length (L.map (Value.int .i64))

theorem OwnP.nil (w : World) (B : Nat) : OwnP w B (.slice none 0 0) [] := World.ownsRow_nil _ _ _ _

theorem owns_laterS {F : List Nat} {w w' : World} {B : Nat} {e : TypeId} {k : Nat} {v : Value} {n : Nat} {xs : List Value} (h : w.ownsRow B e k v n xs) (hx : ExtS F w w') (hf : ∀ g, v.ownBlock = some g → g ∉ F) : w'.ownsRow B e k v n xs := by
  obtain ⟨hl, h⟩ := h
  refine ⟨hl, ?_⟩
  rcases h with h | ⟨g, cap, cur, rfl, hb, hg, h1, h2, h3, h4⟩
  · exact .inl h
  · exact .inr ⟨g, cap, cur, rfl, hb, hx.heap (hf g rfl) hg, h1, h2, h3, h4⟩

theorem owns_later {w w' : World} {B : Nat} {e : TypeId} {k : Nat} {v : Value} {n : Nat} {xs : List Value} (h : w.ownsRow B e k v n xs) (hx : Ext w w') : w'.ownsRow B e k v n xs :=
  owns_laterS (F := []) h (hx.toS _) (by simp)

theorem owns_block {w : World} {B : Nat} {e : TypeId} {k : Nat} {v : Value} {n : Nat} {xs : List Value} (h : w.ownsRow B e k v n xs) {g : Nat} (hg : v.ownBlock = some g) : B ≤ g ∧ g < w.heap.size ∧ ∃ cur, w.heap[g]? = some (.cells cur e (0, 0)) := by
  obtain ⟨_, h⟩ := h
  rcases h with ⟨rfl, _⟩ | ⟨g', cap, cur, rfl, hb, hg', _⟩
  · cases hg
  · obtain rfl : g' = g := by simpa [Value.ownBlock] using hg
    exact ⟨hb, heap_lt hg', cur, hg'⟩

theorem owns_base {w : World} {B B' : Nat} {e : TypeId} {k : Nat} {v : Value} {n : Nat} {xs : List Value} (h : w.ownsRow B e k v n xs) (hb : B' ≤ B) : w.ownsRow B' e k v n xs := by
  obtain ⟨hl, h⟩ := h
  refine ⟨hl, ?_⟩
  rcases h with h | ⟨g, cap, cur, rfl, hb', r⟩
  · exact .inl h
  · exact .inr ⟨g, cap, cur, rfl, by omega, r⟩

theorem owns_slice {w : World} {B : Nat} {e : TypeId} {k : Nat} {v : Value} {n : Nat} {xs : List Value} (h : w.ownsRow B e k v n xs) : ∃ a c, v = .slice a n c ∧ n ≤ c ∧ c ≤ maxLen ∧ (a = none → c = 0) := by
  obtain ⟨_, h⟩ := h
  rcases h with ⟨rfl, rfl⟩ | ⟨g, cap, cur, rfl, _, _, h1, h2, _⟩
  · exact ⟨none, 0, rfl, Nat.le_refl _, by unfold maxLen; omega, fun _ => rfl⟩
  · exact ⟨_, cap, rfl, h1, h2, by simp⟩

/-- What grew by an append stands as before, but for the row's own block. -/
theorem grown_extN {N : Nat} {w w' : World} {B : Nat} {e : TypeId} {k : Nat} {v : Value} {n : Nat} {xs : List Value} (h : w.ownsRow B e k v n xs) (hN : N ≤ B) (hg : w.grownBy w' v.ownBlock) : ExtN N w w' :=
  ⟨hg.os, hg.tape, hg.output, hg.size, fun i hi hi2 => hg.block i hi2 (fun e => by have := (owns_block h e.symm).1; omega)⟩

theorem grown_ext {w wr w1 : World} {e : TypeId} {k : Nat} {v : Value} {n : Nat} {ys : List Value} (hx : Ext w wr) (hown : wr.ownsRow w.heap.size e k v n ys) (hg : wr.grownBy w1 v.ownBlock) : Ext w w1 :=
  Below.grown hx hg hx.size fun k hk => (owns_block hown hk).1

theorem info_px : ∃ i, Tryz.prog.info? 42 = some i ∧ i.zero = some (.agg #[.int .u32 0, .int .i64 0]) ∧ i.size = 2 ∧ i.bytes = 16 := ⟨_, rfl, by kernel_rfl, by kernel_rfl, by kernel_rfl⟩

theorem info_int : ∃ i, Tryz.prog.info? 3 = some i ∧ i.zero = some (.int .i64 0) ∧ i.size = 1 ∧ i.bytes = 8 := ⟨_, rfl, by kernel_rfl, by kernel_rfl, by kernel_rfl⟩

/-- append(row, p). -/
theorem append_px {w : World} {ops : Array Oper} {rest : List Oper} {o : Oper} {a : Act} {Q : Exit → Act → World → Prop} (hgd : Region.wanted o (yielded ops a.tmps) = true) (s x : Operand)
    (ho : o.op = .call { callee := .builtin .append, args := #[s, x], argTypes := #[34, 34] })
    (B : Nat) (v : Value) (L : List PX) (hs : a.eval s = v) (hown : OwnP w B v L)
    (g c : Nat) (p0 p1 : Int) (hx : a.eval x = .slice (some ⟨g, 0, none⟩) 1 c) (hu : w.heap[g]? = some (.cells #[.int .u32 p0, .int .i64 p1] 42 (0, 0)))
    (hsm : L.length ≤ 10000000) (hbase : B ≤ w.heap.size)
    (h : ∀ v' w', OwnP w' B v' (L ++ [(p0, p1)]) → w.grownBy w' v.ownBlock → wpList Tryz.prog ops Q rest (a.put o.dst v') w') : wpList Tryz.prog ops Q (o :: rest) a w := by
  obtain ⟨i, hi, hz, hsz, hby⟩ := info_px
  refine wpList_want hgd fun K hK => wp_append_own w s x 34 ho B 42 i _ 2 16 Tryz.underlying34 hi hz hsz hby rfl (by omega) v L.length _ hs hown ⟨g, 0, none⟩ 1 c [.int .u32 p0, .int .i64 p1] hx rfl ?_ ?_ (by unfold maxLen; omega) (by omega) hbase ?_
  · intro j y hj
    match j, hj with
    | 0, hj =>
      obtain rfl : Value.int .u32 p0 = y := by simpa using hj
      show w.cell? ((⟨g, 0, none⟩ : Addr).add 0) = _
      rw [show (⟨g, 0, none⟩ : Addr).add 0 = ⟨g, 0, none⟩ from rfl, heap_cell hu]; rfl
    | 1, hj =>
      obtain rfl : Value.int .i64 p1 = y := by simpa using hj
      rw [show (⟨g, 0, none⟩ : Addr).add 1 = ⟨g, 1, none⟩ from rfl, heap_cell hu]; rfl
    | j + 2, hj => simp at hj
  · intro y hy
    simp only [List.mem_cons, List.not_mem_nil, or_false] at hy
    rcases hy with rfl | rfl <;> rfl
  · intro v' w' h2 h3 _
    refine hK _ _ (h v' w' ?_ h3)
    unfold OwnP
    rw [pxC_append, List.length_append]
    exact h2

/-- A cell of such a row. -/
theorem OwnP.cell {w : World} {B : Nat} {v : Value} {L : List PX} (h : OwnP w B v L) {i : Nat} {p : PX} (hi : L[i]? = some p) :
    ∃ g c, v = .slice (some ⟨g, 0, none⟩) L.length c ∧ w.cell? ⟨g, i * 2, none⟩ = some (.int .u32 p.1) ∧ w.cell? ⟨g, i * 2 + 1, none⟩ = some (.int .i64 p.2) := by
  obtain ⟨hl, h⟩ := h
  have hil := (List.getElem?_eq_some_iff.1 hi).1
  rcases h with ⟨_, h0⟩ | ⟨g, cap, cur, rfl, _, hg, _, _, _, hc⟩
  · omega
  · obtain ⟨h1, h2⟩ := pxC_get L i p hi
    refine ⟨g, cap, rfl, ?_, ?_⟩
    · rw [heap_cell hg, ← Array.getElem?_toList]
      rw [← hc, List.getElem?_take, if_pos (by omega)] at h1
      exact h1
    · rw [heap_cell hg, ← Array.getElem?_toList]
      rw [← hc, List.getElem?_take, if_pos (by omega)] at h2
      exact h2

theorem OwnI.cell {w : World} {B : Nat} {v : Value} {L : List Int} (h : OwnI w B v L) {i : Nat} {p : Int} (hi : L[i]? = some p) :
    ∃ g c, v = .slice (some ⟨g, 0, none⟩) L.length c ∧ w.cell? ⟨g, i, none⟩ = some (.int .i64 p) := by
  obtain ⟨hl, h⟩ := h
  have hil := (List.getElem?_eq_some_iff.1 hi).1
  rcases h with ⟨_, h0⟩ | ⟨g, cap, cur, rfl, _, hg, _, _, _, hc⟩
  · omega
  · have h1 : (L.map (Value.int .i64))[i]? = some (.int .i64 p) := by simp [hi]
    refine ⟨g, cap, rfl, ?_⟩
    rw [heap_cell hg, ← Array.getElem?_toList]
    rw [← hc, List.getElem?_take, if_pos (by omega)] at h1
    exact h1
end Go.Proofs.YtkfhkhgiojpfoaaGreat.Tri
