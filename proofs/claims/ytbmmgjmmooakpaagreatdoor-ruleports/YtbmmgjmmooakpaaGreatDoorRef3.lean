/- The document's answers of chapter 3 (castellanref3), the functions of numbers, for every argument and every world. -/
import Derived.Test.YtbmmgjmmooakpaaGreatDoorAddr
namespace Go.Proofs.YtbmmgjmmooakpaaGreatDoor
set_option maxRecDepth 100000
open Go.RowKit
set_option linter.unusedVariables false

theorem refHold_any (n : Int) (w : World) : Calls Tryz.prog 114 #[.int .i64 n] w fun e w' => e = .returned (.int .i64 (holdV n)) ∧ w' = w := by
  by_cases h1 : n < 0
  · rw [show holdV n = 0 by unfold holdV; rw [if_pos h1]]
    go_enter Tryz.func114, Tryz.ntmps114
    go_wp2
    go_ret
    exact ⟨rfl, rfl⟩
  by_cases h2 : 32 < n
  · rw [show holdV n = 32 by unfold holdV; rw [if_neg h1, if_pos h2]]
    go_enter Tryz.func114, Tryz.ntmps114
    go_wp2
    go_ret
    exact ⟨rfl, rfl⟩
  · rw [show holdV n = n by unfold holdV; rw [if_neg h1, if_neg h2]]
    go_enter Tryz.func114, Tryz.ntmps114
    go_wp2
    go_ret
    exact ⟨rfl, rfl⟩

theorem refMask_any (n : Int) (w : World) : Calls Tryz.prog 113 #[.int .i64 n] w fun e w' => e = .returned (.int .u32 (maskV n)) ∧ w' = w := by
  have hb := holdV_bd n
  have c1 := fun w => refHold_any n w
  have hs := u32_shl_ones n
  generalize maskV n = m at *
  generalize holdV n = h at *
  have hw : IntKind.u64.wrap (4294967295 * 2 ^ (32 - h).toNat) % 4294967296 = m := by
    rw [IntKind.wrap_u64, Int.emod_emod_of_dvd _ (by decide)]; exact hs
  have H : Hid _ := hw
  clear hs hw
  go_enter Tryz.func113, Tryz.ntmps113
  go_wp2_with (go_at_call 114; refine (c1 _).mono ?_; rintro e w' ⟨rfl, rfl⟩)
  go_ret
  exact ⟨by rw [← H.out]; rfl, rfl⟩

theorem refNorm_any (a n : Int) (w : World) (a0 : 0 ≤ a) (a1 : a ≤ 4294967295) :
    Calls Tryz.prog 93 #[.agg #[.int .u32 a, .int .i64 n]] w fun e w' => e = .returned (.agg #[.int .u32 (normV a n), .int .i64 (holdV n)]) ∧ Ext w w' := by
  have c1 := fun w => refMask_any n w
  have c2 := fun w => refHold_any n w
  have hm := maskV_bd n
  have hh := u32_and_mask a n a0 a1
  generalize normV a n = d at *
  generalize maskV n = m at *
  generalize holdV n = h at *
  have hx0 : Ext w ((w.alloc (.cells #[.int .u32 a, .int .i64 n] 24)).alloc (.cells #[.int .u32 0, .int .i64 0] 24)).drew := (((Ext.refl w).alloc _).alloc _).drew
  have hh0 : ((w.alloc (.cells #[.int .u32 a, .int .i64 n] 24)).alloc (.cells #[.int .u32 0, .int .i64 0] 24)).drew.heap[w.heap.size]? = some (.cells #[.int .u32 a, .int .i64 n] 24 (0, 0)) :=
    (Below.heap_alloc (w.alloc (.cells #[.int .u32 a, .int .i64 n] 24)) _ w.heap.size (by simp)).trans (heap_new w _)
  have hh1 : ((w.alloc (.cells #[.int .u32 a, .int .i64 n] 24)).alloc (.cells #[.int .u32 0, .int .i64 0] 24)).drew.heap[w.heap.size + 1]? = some (.cells #[.int .u32 0, .int .i64 0] 24 (0, 0)) := by
    have := heap_new (w.alloc (.cells #[.int .u32 a, .int .i64 n] 24)) (.cells #[.int .u32 0, .int .i64 0] 24)
    rwa [show (w.alloc (.cells #[.int .u32 a, .int .i64 n] 24)).heap.size = w.heap.size + 1 by simp] at this
  obtain ⟨hb0, hb1⟩ := box2 hh0 (w.heap.size + 1) (by omega)
  have f0 : ((w.alloc (.cells #[.int .u32 a, .int .i64 n] 24)).alloc (.cells #[.int .u32 0, .int .i64 0] 24)).drew.frozen? ⟨w.heap.size + 1, 0, none⟩ = false := heap_frozen hh1
  have f1 : ((w.alloc (.cells #[.int .u32 a, .int .i64 n] 24)).alloc (.cells #[.int .u32 0, .int .i64 0] 24)).drew.frozen? ⟨w.heap.size + 1, 1, none⟩ = false := heap_frozen hh1
  have d0 : ((w.alloc (.cells #[.int .u32 a, .int .i64 n] 24)).alloc (.cells #[.int .u32 0, .int .i64 0] 24)).drew.cell? ⟨w.heap.size + 1, 0, none⟩ = some (.int .u32 0) := by rw [heap_cell hh1]; rfl
  have d1 : ((w.alloc (.cells #[.int .u32 a, .int .i64 n] 24)).alloc (.cells #[.int .u32 0, .int .i64 0] 24)).drew.cell? ⟨w.heap.size + 1, 1, none⟩ = some (.int .i64 0) := by rw [heap_cell hh1]; rfl
  have H1 : Hid _ := hh1
  clear hh0 hh1
  go_enter Tryz.func93, Tryz.ntmps93
  go_wp2
  refine wp_region_eagerX (w.heap.size + 1) [(0, false), (1, false), (2, false), (3, false), (6, false), (7, false), (4, true), (5, false), (8, true), (9, false), (10, true)] (by kernel_rfl) (by kernel_rfl) rfl (by kernel_rfl) (fun _ _ _ _ _ h => h) ?_
  generalize ((w.alloc (.cells #[.int .u32 a, .int .i64 n] 24)).alloc (.cells #[.int .u32 0, .int .i64 0] 24)).drew = W at *
  repeat (first
    | (refine wpE_read (v := ?_) rfl (by rfl) ?_ ?_; rotate_left; (focus (intro w' hx; go_simp; first | done | with_reducible rfl)); simp only [Act.put, List.setIfInBounds_toArray, List.set_cons_zero, List.set_cons_succ])
    | (refine wpE_call rfl (by rfl) (fun K hK => ?_); go_simp; first
        | (go_at_call 113; refine (c1 _).mono ?_; rintro e w' ⟨rfl, rfl⟩; refine hK _ _ (ExtX.refl _ _) ?_; clear hK K)
        | (go_at_call 114; refine (c2 _).mono ?_; rintro e w' ⟨rfl, rfl⟩; refine hK _ _ (ExtX.refl _ _) ?_; clear hK K)))
  refine wpE_call rfl (by rfl) (fun K hK => ?_)
  go_simp
  refine hK _ _ (((ExtX.refl _ _).setCell (p := ⟨w.heap.size + 1, 0, none⟩) rfl _).setCell (p := ⟨w.heap.size + 1, 1, none⟩) rfl _) ?_
  clear hK K
  have k1 := heap_set (heap_set H1.out (k := 0) (.int .u32 d)) (k := 1) (.int .i64 h)
  have hx1 : Ext w ((w'.setCell ⟨w.heap.size + 1, 0, none⟩ (.int .u32 d)).setCell ⟨w.heap.size + 1, 1, none⟩ (.int .i64 h)) := ExtX.ext hx0 (((ExtX.refl _ _).setCell (p := ⟨w.heap.size + 1, 0, none⟩) rfl _).setCell (p := ⟨w.heap.size + 1, 1, none⟩) rfl _) (show w.heap.size ≤ w.heap.size + 1 by omega)
  clear f0 f1 d0 d1 H1 hb0 hb1 hx0
  generalize ((w'.setCell ⟨w.heap.size + 1, 0, none⟩ (.int .u32 d)).setCell ⟨w.heap.size + 1, 1, none⟩ (.int .i64 h)) = w2 at *
  have d0 : w2.cell? ⟨w.heap.size + 1, 0, none⟩ = some (.int .u32 d) := by rw [heap_cell k1]; rfl
  have d1 : w2.cell? ⟨w.heap.size + 1, 1, none⟩ = some (.int .i64 h) := by rw [heap_cell k1]; rfl
  clear k1
  refine wpE_done ?_
  go_wp2
  exact bodyPost_ret (v := .agg #[.int .u32 d, .int .i64 h]) (by simp [results, Tryz.results93, go_sem, d0, d1]) rfl ⟨rfl, hx1⟩

theorem refIs_any (a n : Int) (w : World) (a0 : 0 ≤ a) (a1 : a ≤ 4294967295) :
    Calls Tryz.prog 77 #[.agg #[.int .u32 a, .int .i64 n]] w fun e w' => e = .returned (.bool (isV a n)) ∧ Ext w w' := by
  have c1 := fun w => refNorm_any a n w a0 a1
  have eg := eq_guard
  rw [isV_comm]
  generalize normV a n = d at *
  generalize holdV n = h at *
  obtain ⟨hx0, hb0, hb1⟩ := boxed2 w (.int .u32 a) (.int .i64 n) 24
  have eq := fun w => eql_prefix d h a n w
  go_enter Tryz.func77, Tryz.ntmps77
  go_wp2
  refine wp_region_eager [(0, false), (2, false), (1, true), (3, false), (4, false)] (by kernel_rfl) (by kernel_rfl) rfl (by kernel_rfl) (fun _ _ _ _ _ h => h) ?_
  generalize (w.alloc (.cells #[.int .u32 a, .int .i64 n] 24)).drew = W at *
  repeat (first
    | (refine wpE_read (v := ?_) rfl (by rfl) ?_ ?_; rotate_left; (focus (intro w' hx; go_simp; first | done | with_reducible rfl)); simp only [Act.put, List.setIfInBounds_toArray, List.set_cons_zero, List.set_cons_succ])
    | (refine wpE_call rfl (by rfl) (fun K hK => ?_); go_simp; first
        | (go_at_call 93; refine (c1 _).mono ?_; rintro e w' ⟨rfl, hx1⟩; refine hK _ _ hx1 ?_; clear hK K)))
  refine wpE_done ?_
  go_wp2
  go_ret
  exact ⟨rfl, hx0.trans hx1⟩

end Go.Proofs.YtbmmgjmmooakpaaGreatDoor
