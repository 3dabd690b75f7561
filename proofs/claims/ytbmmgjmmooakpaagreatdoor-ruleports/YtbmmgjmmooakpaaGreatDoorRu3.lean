/- Package rule's sides; whether a rule may be; whether two are one. -/
import Derived.Test.YtbmmgjmmooakpaaGreatDoorRu2
import Derived.BigGuardPart
namespace Go.Proofs.YtbmmgjmmooakpaaGreatDoor.Ru
open Go.RowKit
set_option linter.unusedVariables false
set_option maxRecDepth 100000

set_option maxHeartbeats 2000000 in
theorem isSide_any (s : SideV) (proto : Int) (w : World) (hs : SideOk s) : Calls Tryz.prog 47 #[(.agg #[.bool s.any, .string s.table, .int .u32 s.a, .int .i64 s.n, .int .i64 s.low, .int .i64 s.high]), .int .i64 proto] w fun e w' => e = .returned (.bool (sideB s proto)) ∧ Ext w w' := by
  have c1 := fun w => isEnd_any s w hs
  have c2 := fun w => isPorts_any s.low s.high w
  have c3 := fun w => all_any w
  have eq := fun w => eql_ports s.low s.high 0 65535 w
  have eg := ports_guard
  obtain ⟨any, tab, a, n, lo, hi⟩ := s
  unfold sideB allB portsB
  clear hs
  dsimp only at *
  generalize endB ⟨any, tab, a, n, lo, hi⟩ = b1 at *
  generalize (inB lo 0 65535 && inB hi lo 65535) = b2 at *
  generalize (lo == 0 && hi == 65535) = b3 at *
  generalize h6 : (proto == 6) = b4 at *
  generalize h7 : (proto == 17) = b5 at *
  have hcs : ∀ k w', Ext (w.alloc (.cells #[.bool any, .string tab, .int .u32 a, .int .i64 n, .int .i64 lo, .int .i64 hi] 28)).drew w' → w'.cell? ⟨w.heap.size, k, none⟩ = (#[.bool any, .string tab, .int .u32 a, .int .i64 n, .int .i64 lo, .int .i64 hi] : Array Value)[k]? := fun k w' h => boxK w _ _ k w' (Ext.trans ((Ext.refl _).drew) h)
  have hx0 : Ext w (w.alloc (.cells #[.bool any, .string tab, .int .u32 a, .int .i64 n, .int .i64 lo, .int .i64 hi] 28)).drew := ((Ext.refl w).alloc _).drew
  obtain ⟨W, hW⟩ : ∃ W, (w.alloc (.cells #[.bool any, .string tab, .int .u32 a, .int .i64 n, .int .i64 lo, .int .i64 hi] 28)).drew = W := ⟨_, rfl⟩
  rw [hW] at hcs hx0
  have x0 : ∀ w', Ext W w' → w'.cell? ⟨w.heap.size, 0, none⟩ = some (.bool any) := hcs 0
  have x1 : ∀ w', Ext W w' → w'.cell? ⟨w.heap.size, 1, none⟩ = some (.string tab) := hcs 1
  have x2 : ∀ w', Ext W w' → w'.cell? ⟨w.heap.size, 2, none⟩ = some (.int .u32 a) := hcs 2
  have x3 : ∀ w', Ext W w' → w'.cell? ⟨w.heap.size, 3, none⟩ = some (.int .i64 n) := hcs 3
  have x4 : ∀ w', Ext W w' → w'.cell? ⟨w.heap.size, 4, none⟩ = some (.int .i64 lo) := hcs 4
  have x5 : ∀ w', Ext W w' → w'.cell? ⟨w.heap.size, 5, none⟩ = some (.int .i64 hi) := hcs 5
  have HW : Hid _ := hW
  clear hcs hW
  have ways : b1 = false ∨ (b1 = true ∧ b2 = false) ∨ (b1 = true ∧ b2 = true ∧ b3 = true) ∨ (b1 = true ∧ b2 = true ∧ b3 = false ∧ b4 = true) ∨ (b1 = true ∧ b2 = true ∧ b3 = false ∧ b4 = false) := by
    cases b1 <;> cases b2 <;> cases b3 <;> cases b4 <;> simp
  rcases ways with rfl | ⟨rfl, rfl⟩ | ⟨rfl, rfl, rfl⟩ | ⟨rfl, rfl, rfl, rfl⟩ | ⟨rfl, rfl, rfl, rfl⟩
  · go_enter Tryz.func47, Tryz.ntmps47
    go_wp2
    refine wp_region_eager [(0, false), (1, true), (2, false), (3, false), (4, false), (5, true), (6, false), (7, false), (8, false), (9, false), (10, true), (11, false), (12, false), (13, false), (14, false), (15, false), (16, false), (17, false), (18, false), (19, false), (20, false), (21, false)] (by kernel_rfl) (by kernel_rfl) rfl (by kernel_rfl) (fun _ _ _ _ _ h => h) ?_
    rw [HW.out]
    iterate 1 (refine wpE_read (v := ?_) rfl (by rfl) ?_ ?_; rotate_left; (focus (intro w' hx; go_simp; first | done | with_reducible rfl)); simp only [Act.put, List.setIfInBounds_toArray, List.set_cons_zero, List.set_cons_succ])
    (refine wpE_call rfl (by rfl) (fun K hK => ?_); go_simp; first | (go_at_call 75; refine (c1 _).mono ?_; rintro e w1 ⟨rfl, hx1⟩; refine hK _ _ hx1 ?_; clear hK K; replace x0 := fun w' h => x0 w' (hx1.trans h); replace x1 := fun w' h => x1 w' (hx1.trans h); replace x2 := fun w' h => x2 w' (hx1.trans h); replace x3 := fun w' h => x3 w' (hx1.trans h); replace x4 := fun w' h => x4 w' (hx1.trans h); replace x5 := fun w' h => x5 w' (hx1.trans h); replace hx0 := hx0.trans hx1; clear hx1))
    iterate 1 (refine wpE_read (v := ?_) rfl (by rfl) ?_ ?_; rotate_left; (focus (intro w' hx; go_simp; first | done | with_reducible rfl)); simp only [Act.put, List.setIfInBounds_toArray, List.set_cons_zero, List.set_cons_succ])
    iterate 3 (rw [wpE_skip_eq _ rfl (by rfl)]; simp only [Act.put, List.setIfInBounds_toArray, List.set_cons_zero, List.set_cons_succ])
    iterate 2 (refine wpE_read (v := ?_) rfl (by rfl) ?_ ?_; rotate_left; (focus (intro w' hx; go_simp; first | done | with_reducible rfl)); simp only [Act.put, List.setIfInBounds_toArray, List.set_cons_zero, List.set_cons_succ])
    iterate 12 (rw [wpE_skip_eq _ rfl (by rfl)]; simp only [Act.put, List.setIfInBounds_toArray, List.set_cons_zero, List.set_cons_succ])
    iterate 2 (refine wpE_read (v := ?_) rfl (by rfl) ?_ ?_; rotate_left; (focus (intro w' hx; go_simp; first | done | with_reducible rfl)); simp only [Act.put, List.setIfInBounds_toArray, List.set_cons_zero, List.set_cons_succ])
    refine wpE_done ?_
    go_wp2
    go_ret
    exact ⟨rfl, hx0⟩
  · go_enter Tryz.func47, Tryz.ntmps47
    go_wp2
    refine wp_region_eager [(0, false), (1, true), (2, false), (3, false), (4, false), (5, true), (6, false), (7, false), (8, false), (9, false), (10, true), (11, false), (12, false), (13, false), (14, false), (15, false), (16, false), (17, false), (18, false), (19, false), (20, false), (21, false)] (by kernel_rfl) (by kernel_rfl) rfl (by kernel_rfl) (fun _ _ _ _ _ h => h) ?_
    rw [HW.out]
    iterate 1 (refine wpE_read (v := ?_) rfl (by rfl) ?_ ?_; rotate_left; (focus (intro w' hx; go_simp; first | done | with_reducible rfl)); simp only [Act.put, List.setIfInBounds_toArray, List.set_cons_zero, List.set_cons_succ])
    (refine wpE_call rfl (by rfl) (fun K hK => ?_); go_simp; first | (go_at_call 75; refine (c1 _).mono ?_; rintro e w1 ⟨rfl, hx1⟩; refine hK _ _ hx1 ?_; clear hK K; replace x0 := fun w' h => x0 w' (hx1.trans h); replace x1 := fun w' h => x1 w' (hx1.trans h); replace x2 := fun w' h => x2 w' (hx1.trans h); replace x3 := fun w' h => x3 w' (hx1.trans h); replace x4 := fun w' h => x4 w' (hx1.trans h); replace x5 := fun w' h => x5 w' (hx1.trans h); replace hx0 := hx0.trans hx1; clear hx1))
    iterate 3 (refine wpE_read (v := ?_) rfl (by rfl) ?_ ?_; rotate_left; (focus (intro w' hx; go_simp; first | done | with_reducible rfl)); simp only [Act.put, List.setIfInBounds_toArray, List.set_cons_zero, List.set_cons_succ])
    (refine wpE_call rfl (by rfl) (fun K hK => ?_); go_simp; first | (go_at_call 76; refine (c2 _).mono ?_; rintro e w1 ⟨rfl, hx1⟩; refine hK _ _ hx1 ?_; clear hK K; replace x0 := fun w' h => x0 w' (hx1.trans h); replace x1 := fun w' h => x1 w' (hx1.trans h); replace x2 := fun w' h => x2 w' (hx1.trans h); replace x3 := fun w' h => x3 w' (hx1.trans h); replace x4 := fun w' h => x4 w' (hx1.trans h); replace x5 := fun w' h => x5 w' (hx1.trans h); replace hx0 := hx0.trans hx1; clear hx1))
    iterate 2 (refine wpE_read (v := ?_) rfl (by rfl) ?_ ?_; rotate_left; (focus (intro w' hx; go_simp; first | done | with_reducible rfl)); simp only [Act.put, List.setIfInBounds_toArray, List.set_cons_zero, List.set_cons_succ])
    iterate 12 (rw [wpE_skip_eq _ rfl (by rfl)]; simp only [Act.put, List.setIfInBounds_toArray, List.set_cons_zero, List.set_cons_succ])
    iterate 2 (refine wpE_read (v := ?_) rfl (by rfl) ?_ ?_; rotate_left; (focus (intro w' hx; go_simp; first | done | with_reducible rfl)); simp only [Act.put, List.setIfInBounds_toArray, List.set_cons_zero, List.set_cons_succ])
    refine wpE_done ?_
    go_wp2
    go_ret
    exact ⟨rfl, hx0⟩
  · go_enter Tryz.func47, Tryz.ntmps47
    go_wp2
    refine wp_region_eager [(0, false), (1, true), (2, false), (3, false), (4, false), (5, true), (6, false), (7, false), (8, false), (9, false), (10, true), (11, false), (12, false), (13, false), (14, false), (15, false), (16, false), (17, false), (18, false), (19, false), (20, false), (21, false)] (by kernel_rfl) (by kernel_rfl) rfl (by kernel_rfl) (fun _ _ _ _ _ h => h) ?_
    rw [HW.out]
    iterate 1 (refine wpE_read (v := ?_) rfl (by rfl) ?_ ?_; rotate_left; (focus (intro w' hx; go_simp; first | done | with_reducible rfl)); simp only [Act.put, List.setIfInBounds_toArray, List.set_cons_zero, List.set_cons_succ])
    (refine wpE_call rfl (by rfl) (fun K hK => ?_); go_simp; first | (go_at_call 75; refine (c1 _).mono ?_; rintro e w1 ⟨rfl, hx1⟩; refine hK _ _ hx1 ?_; clear hK K; replace x0 := fun w' h => x0 w' (hx1.trans h); replace x1 := fun w' h => x1 w' (hx1.trans h); replace x2 := fun w' h => x2 w' (hx1.trans h); replace x3 := fun w' h => x3 w' (hx1.trans h); replace x4 := fun w' h => x4 w' (hx1.trans h); replace x5 := fun w' h => x5 w' (hx1.trans h); replace hx0 := hx0.trans hx1; clear hx1))
    iterate 3 (refine wpE_read (v := ?_) rfl (by rfl) ?_ ?_; rotate_left; (focus (intro w' hx; go_simp; first | done | with_reducible rfl)); simp only [Act.put, List.setIfInBounds_toArray, List.set_cons_zero, List.set_cons_succ])
    (refine wpE_call rfl (by rfl) (fun K hK => ?_); go_simp; first | (go_at_call 76; refine (c2 _).mono ?_; rintro e w1 ⟨rfl, hx1⟩; refine hK _ _ hx1 ?_; clear hK K; replace x0 := fun w' h => x0 w' (hx1.trans h); replace x1 := fun w' h => x1 w' (hx1.trans h); replace x2 := fun w' h => x2 w' (hx1.trans h); replace x3 := fun w' h => x3 w' (hx1.trans h); replace x4 := fun w' h => x4 w' (hx1.trans h); replace x5 := fun w' h => x5 w' (hx1.trans h); replace hx0 := hx0.trans hx1; clear hx1))
    iterate 4 (refine wpE_read (v := ?_) rfl (by rfl) ?_ ?_; rotate_left; (focus (intro w' hx; go_simp; first | done | with_reducible rfl)); simp only [Act.put, List.setIfInBounds_toArray, List.set_cons_zero, List.set_cons_succ])
    (refine wpE_call rfl (by rfl) (fun K hK => ?_); go_simp; first | (go_at_call 66; refine (c3 _).mono ?_; rintro e w1 ⟨rfl, hx1⟩; refine hK _ _ hx1 ?_; clear hK K; replace x0 := fun w' h => x0 w' (hx1.trans h); replace x1 := fun w' h => x1 w' (hx1.trans h); replace x2 := fun w' h => x2 w' (hx1.trans h); replace x3 := fun w' h => x3 w' (hx1.trans h); replace x4 := fun w' h => x4 w' (hx1.trans h); replace x5 := fun w' h => x5 w' (hx1.trans h); replace hx0 := hx0.trans hx1; clear hx1))
    iterate 2 (refine wpE_read (v := ?_) rfl (by rfl) ?_ ?_; rotate_left; (focus (intro w' hx; go_simp; first | done | with_reducible rfl)); simp only [Act.put, List.setIfInBounds_toArray, List.set_cons_zero, List.set_cons_succ])
    iterate 2 (rw [wpE_skip_eq _ rfl (by rfl)]; simp only [Act.put, List.setIfInBounds_toArray, List.set_cons_zero, List.set_cons_succ])
    iterate 2 (refine wpE_read (v := ?_) rfl (by rfl) ?_ ?_; rotate_left; (focus (intro w' hx; go_simp; first | done | with_reducible rfl)); simp only [Act.put, List.setIfInBounds_toArray, List.set_cons_zero, List.set_cons_succ])
    iterate 2 (rw [wpE_skip_eq _ rfl (by rfl)]; simp only [Act.put, List.setIfInBounds_toArray, List.set_cons_zero, List.set_cons_succ])
    iterate 3 (refine wpE_read (v := ?_) rfl (by rfl) ?_ ?_; rotate_left; (focus (intro w' hx; go_simp; first | done | with_reducible rfl)); simp only [Act.put, List.setIfInBounds_toArray, List.set_cons_zero, List.set_cons_succ])
    refine wpE_done ?_
    go_wp2
    go_ret
    exact ⟨rfl, hx0⟩
  · go_enter Tryz.func47, Tryz.ntmps47
    go_wp2
    refine wp_region_eager [(0, false), (1, true), (2, false), (3, false), (4, false), (5, true), (6, false), (7, false), (8, false), (9, false), (10, true), (11, false), (12, false), (13, false), (14, false), (15, false), (16, false), (17, false), (18, false), (19, false), (20, false), (21, false)] (by kernel_rfl) (by kernel_rfl) rfl (by kernel_rfl) (fun _ _ _ _ _ h => h) ?_
    rw [HW.out]
    iterate 1 (refine wpE_read (v := ?_) rfl (by rfl) ?_ ?_; rotate_left; (focus (intro w' hx; go_simp; first | done | with_reducible rfl)); simp only [Act.put, List.setIfInBounds_toArray, List.set_cons_zero, List.set_cons_succ])
    (refine wpE_call rfl (by rfl) (fun K hK => ?_); go_simp; first | (go_at_call 75; refine (c1 _).mono ?_; rintro e w1 ⟨rfl, hx1⟩; refine hK _ _ hx1 ?_; clear hK K; replace x0 := fun w' h => x0 w' (hx1.trans h); replace x1 := fun w' h => x1 w' (hx1.trans h); replace x2 := fun w' h => x2 w' (hx1.trans h); replace x3 := fun w' h => x3 w' (hx1.trans h); replace x4 := fun w' h => x4 w' (hx1.trans h); replace x5 := fun w' h => x5 w' (hx1.trans h); replace hx0 := hx0.trans hx1; clear hx1))
    iterate 3 (refine wpE_read (v := ?_) rfl (by rfl) ?_ ?_; rotate_left; (focus (intro w' hx; go_simp; first | done | with_reducible rfl)); simp only [Act.put, List.setIfInBounds_toArray, List.set_cons_zero, List.set_cons_succ])
    (refine wpE_call rfl (by rfl) (fun K hK => ?_); go_simp; first | (go_at_call 76; refine (c2 _).mono ?_; rintro e w1 ⟨rfl, hx1⟩; refine hK _ _ hx1 ?_; clear hK K; replace x0 := fun w' h => x0 w' (hx1.trans h); replace x1 := fun w' h => x1 w' (hx1.trans h); replace x2 := fun w' h => x2 w' (hx1.trans h); replace x3 := fun w' h => x3 w' (hx1.trans h); replace x4 := fun w' h => x4 w' (hx1.trans h); replace x5 := fun w' h => x5 w' (hx1.trans h); replace hx0 := hx0.trans hx1; clear hx1))
    iterate 4 (refine wpE_read (v := ?_) rfl (by rfl) ?_ ?_; rotate_left; (focus (intro w' hx; go_simp; first | done | with_reducible rfl)); simp only [Act.put, List.setIfInBounds_toArray, List.set_cons_zero, List.set_cons_succ])
    (refine wpE_call rfl (by rfl) (fun K hK => ?_); go_simp; first | (go_at_call 66; refine (c3 _).mono ?_; rintro e w1 ⟨rfl, hx1⟩; refine hK _ _ hx1 ?_; clear hK K; replace x0 := fun w' h => x0 w' (hx1.trans h); replace x1 := fun w' h => x1 w' (hx1.trans h); replace x2 := fun w' h => x2 w' (hx1.trans h); replace x3 := fun w' h => x3 w' (hx1.trans h); replace x4 := fun w' h => x4 w' (hx1.trans h); replace x5 := fun w' h => x5 w' (hx1.trans h); replace hx0 := hx0.trans hx1; clear hx1))
    iterate 6 (refine wpE_read (v := ?_) rfl (by rfl) ?_ ?_; rotate_left; (focus (intro w' hx; go_simp; first | done | with_reducible rfl)); simp only [Act.put, List.setIfInBounds_toArray, List.set_cons_zero, List.set_cons_succ])
    iterate 2 (rw [wpE_skip_eq _ rfl (by rfl)]; simp only [Act.put, List.setIfInBounds_toArray, List.set_cons_zero, List.set_cons_succ])
    iterate 3 (refine wpE_read (v := ?_) rfl (by rfl) ?_ ?_; rotate_left; (focus (intro w' hx; go_simp; first | done | with_reducible rfl)); simp only [Act.put, List.setIfInBounds_toArray, List.set_cons_zero, List.set_cons_succ])
    refine wpE_done ?_
    go_wp2
    go_ret
    exact ⟨rfl, hx0⟩
  · go_enter Tryz.func47, Tryz.ntmps47
    go_wp2
    refine wp_region_eager [(0, false), (1, true), (2, false), (3, false), (4, false), (5, true), (6, false), (7, false), (8, false), (9, false), (10, true), (11, false), (12, false), (13, false), (14, false), (15, false), (16, false), (17, false), (18, false), (19, false), (20, false), (21, false)] (by kernel_rfl) (by kernel_rfl) rfl (by kernel_rfl) (fun _ _ _ _ _ h => h) ?_
    rw [HW.out]
    iterate 1 (refine wpE_read (v := ?_) rfl (by rfl) ?_ ?_; rotate_left; (focus (intro w' hx; go_simp; first | done | with_reducible rfl)); simp only [Act.put, List.setIfInBounds_toArray, List.set_cons_zero, List.set_cons_succ])
    (refine wpE_call rfl (by rfl) (fun K hK => ?_); go_simp; first | (go_at_call 75; refine (c1 _).mono ?_; rintro e w1 ⟨rfl, hx1⟩; refine hK _ _ hx1 ?_; clear hK K; replace x0 := fun w' h => x0 w' (hx1.trans h); replace x1 := fun w' h => x1 w' (hx1.trans h); replace x2 := fun w' h => x2 w' (hx1.trans h); replace x3 := fun w' h => x3 w' (hx1.trans h); replace x4 := fun w' h => x4 w' (hx1.trans h); replace x5 := fun w' h => x5 w' (hx1.trans h); replace hx0 := hx0.trans hx1; clear hx1))
    iterate 3 (refine wpE_read (v := ?_) rfl (by rfl) ?_ ?_; rotate_left; (focus (intro w' hx; go_simp; first | done | with_reducible rfl)); simp only [Act.put, List.setIfInBounds_toArray, List.set_cons_zero, List.set_cons_succ])
    (refine wpE_call rfl (by rfl) (fun K hK => ?_); go_simp; first | (go_at_call 76; refine (c2 _).mono ?_; rintro e w1 ⟨rfl, hx1⟩; refine hK _ _ hx1 ?_; clear hK K; replace x0 := fun w' h => x0 w' (hx1.trans h); replace x1 := fun w' h => x1 w' (hx1.trans h); replace x2 := fun w' h => x2 w' (hx1.trans h); replace x3 := fun w' h => x3 w' (hx1.trans h); replace x4 := fun w' h => x4 w' (hx1.trans h); replace x5 := fun w' h => x5 w' (hx1.trans h); replace hx0 := hx0.trans hx1; clear hx1))
    iterate 4 (refine wpE_read (v := ?_) rfl (by rfl) ?_ ?_; rotate_left; (focus (intro w' hx; go_simp; first | done | with_reducible rfl)); simp only [Act.put, List.setIfInBounds_toArray, List.set_cons_zero, List.set_cons_succ])
    (refine wpE_call rfl (by rfl) (fun K hK => ?_); go_simp; first | (go_at_call 66; refine (c3 _).mono ?_; rintro e w1 ⟨rfl, hx1⟩; refine hK _ _ hx1 ?_; clear hK K; replace x0 := fun w' h => x0 w' (hx1.trans h); replace x1 := fun w' h => x1 w' (hx1.trans h); replace x2 := fun w' h => x2 w' (hx1.trans h); replace x3 := fun w' h => x3 w' (hx1.trans h); replace x4 := fun w' h => x4 w' (hx1.trans h); replace x5 := fun w' h => x5 w' (hx1.trans h); replace hx0 := hx0.trans hx1; clear hx1))
    iterate 11 (refine wpE_read (v := ?_) rfl (by rfl) ?_ ?_; rotate_left; (focus (intro w' hx; go_simp; first | done | with_reducible rfl)); simp only [Act.put, List.setIfInBounds_toArray, List.set_cons_zero, List.set_cons_succ])
    refine wpE_done ?_
    go_wp2
    go_ret
    exact ⟨rfl, hx0⟩

set_option maxHeartbeats 4000000 in
theorem isRule_any (r : RuleV) (w : World) (hr : RuleOk r) : Calls Tryz.prog 18 #[(.agg #[.bool r.pass, .bool r.ret, .bool r.quick, .string r.on, .int .i64 r.proto, .bool r.src.any, .string r.src.table, .int .u32 r.src.a, .int .i64 r.src.n, .int .i64 r.src.low, .int .i64 r.src.high, .bool r.dst.any, .string r.dst.table, .int .u32 r.dst.a, .int .i64 r.dst.n, .int .i64 r.dst.low, .int .i64 r.dst.high, .int .i64 r.set, .int .i64 r.mask, .int .i64 r.type, .bool r.keep, .bool r.rt.on, .string r.rt.iface, .int .u32 r.rt.gate, .bool r.rp.on, .string r.rp.iface, .int .u32 r.rp.gate, .int .i64 r.table])] w fun e w' => e = .returned (.bool (isR r)) ∧ Ext w w' := by
  have c1 := fun w => action_any r w
  have c2 := fun w => name_any r.on w hr.on
  have c3 := fun w => of_any r.proto 0 255 w
  have c4 := fun w => isSide_any r.src r.proto w hr.src
  have c5 := fun w => isSide_any r.dst r.proto w hr.dst
  have c6 := fun w => isFlags_any r w
  have c7 := fun w => isType_any r w
  have c8 := fun w => isPin_any r.rt w hr.rt
  have c9 := fun w => isPin_any r.rp w hr.rp
  have c10 := fun w => of_any r.table 0 3 w
  have he := empT r.on
  clear hr
  unfold isR
  generalize actionB r = b1 at *
  generalize flagsB r = b6 at *
  generalize typeB r = b7 at *
  obtain ⟨pass, ret, quick, on, proto, ⟨sany, stab, sa, sn, slo, shi⟩, ⟨dany, dtab, da, dn, dlo, dhi⟩, set, mask, type, keep, ⟨ton, tif, tg⟩, ⟨pon, pif, pg⟩, table⟩ := r
  dsimp only at *
  generalize decide (on = txt []) = z at *
  generalize nameB on = b2 at *
  generalize inB proto 0 255 = b3 at *
  generalize sideB _ proto = b4 at c4 ⊢
  generalize sideB _ proto = b5 at c5 ⊢
  generalize pinB _ = b8 at c8 ⊢
  generalize pinB _ = b9 at c9 ⊢
  generalize inB table 0 3 = b10 at *
  obtain ⟨W, hW⟩ : ∃ W, w.alloc (.cells #[.bool pass, .bool ret, .bool quick, .string on, .int .i64 proto, .bool sany, .string stab, .int .u32 sa, .int .i64 sn, .int .i64 slo, .int .i64 shi, .bool dany, .string dtab, .int .u32 da, .int .i64 dn, .int .i64 dlo, .int .i64 dhi, .int .i64 set, .int .i64 mask, .int .i64 type, .bool keep, .bool ton, .string tif, .int .u32 tg, .bool pon, .string pif, .int .u32 pg, .int .i64 table] 32) = W := ⟨_, rfl⟩
  have hx0 : Ext w W := hW ▸ (Ext.refl w).alloc _
  have x3 : ∀ w', Ext W w' → w'.cell? ⟨w.heap.size, 3, none⟩ = some (.string on) := hW ▸ boxK w #[.bool pass, .bool ret, .bool quick, .string on, .int .i64 proto, .bool sany, .string stab, .int .u32 sa, .int .i64 sn, .int .i64 slo, .int .i64 shi, .bool dany, .string dtab, .int .u32 da, .int .i64 dn, .int .i64 dlo, .int .i64 dhi, .int .i64 set, .int .i64 mask, .int .i64 type, .bool keep, .bool ton, .string tif, .int .u32 tg, .bool pon, .string pif, .int .u32 pg, .int .i64 table] 32 3
  have x4 : ∀ w', Ext W w' → w'.cell? ⟨w.heap.size, 4, none⟩ = some (.int .i64 proto) := hW ▸ boxK w #[.bool pass, .bool ret, .bool quick, .string on, .int .i64 proto, .bool sany, .string stab, .int .u32 sa, .int .i64 sn, .int .i64 slo, .int .i64 shi, .bool dany, .string dtab, .int .u32 da, .int .i64 dn, .int .i64 dlo, .int .i64 dhi, .int .i64 set, .int .i64 mask, .int .i64 type, .bool keep, .bool ton, .string tif, .int .u32 tg, .bool pon, .string pif, .int .u32 pg, .int .i64 table] 32 4
  have x5 : ∀ w', Ext W w' → w'.cell? ⟨w.heap.size, 5, none⟩ = some (.bool sany) := hW ▸ boxK w #[.bool pass, .bool ret, .bool quick, .string on, .int .i64 proto, .bool sany, .string stab, .int .u32 sa, .int .i64 sn, .int .i64 slo, .int .i64 shi, .bool dany, .string dtab, .int .u32 da, .int .i64 dn, .int .i64 dlo, .int .i64 dhi, .int .i64 set, .int .i64 mask, .int .i64 type, .bool keep, .bool ton, .string tif, .int .u32 tg, .bool pon, .string pif, .int .u32 pg, .int .i64 table] 32 5
  have x6 : ∀ w', Ext W w' → w'.cell? ⟨w.heap.size, 6, none⟩ = some (.string stab) := hW ▸ boxK w #[.bool pass, .bool ret, .bool quick, .string on, .int .i64 proto, .bool sany, .string stab, .int .u32 sa, .int .i64 sn, .int .i64 slo, .int .i64 shi, .bool dany, .string dtab, .int .u32 da, .int .i64 dn, .int .i64 dlo, .int .i64 dhi, .int .i64 set, .int .i64 mask, .int .i64 type, .bool keep, .bool ton, .string tif, .int .u32 tg, .bool pon, .string pif, .int .u32 pg, .int .i64 table] 32 6
  have x7 : ∀ w', Ext W w' → w'.cell? ⟨w.heap.size, 7, none⟩ = some (.int .u32 sa) := hW ▸ boxK w #[.bool pass, .bool ret, .bool quick, .string on, .int .i64 proto, .bool sany, .string stab, .int .u32 sa, .int .i64 sn, .int .i64 slo, .int .i64 shi, .bool dany, .string dtab, .int .u32 da, .int .i64 dn, .int .i64 dlo, .int .i64 dhi, .int .i64 set, .int .i64 mask, .int .i64 type, .bool keep, .bool ton, .string tif, .int .u32 tg, .bool pon, .string pif, .int .u32 pg, .int .i64 table] 32 7
  have x8 : ∀ w', Ext W w' → w'.cell? ⟨w.heap.size, 8, none⟩ = some (.int .i64 sn) := hW ▸ boxK w #[.bool pass, .bool ret, .bool quick, .string on, .int .i64 proto, .bool sany, .string stab, .int .u32 sa, .int .i64 sn, .int .i64 slo, .int .i64 shi, .bool dany, .string dtab, .int .u32 da, .int .i64 dn, .int .i64 dlo, .int .i64 dhi, .int .i64 set, .int .i64 mask, .int .i64 type, .bool keep, .bool ton, .string tif, .int .u32 tg, .bool pon, .string pif, .int .u32 pg, .int .i64 table] 32 8
  have x9 : ∀ w', Ext W w' → w'.cell? ⟨w.heap.size, 9, none⟩ = some (.int .i64 slo) := hW ▸ boxK w #[.bool pass, .bool ret, .bool quick, .string on, .int .i64 proto, .bool sany, .string stab, .int .u32 sa, .int .i64 sn, .int .i64 slo, .int .i64 shi, .bool dany, .string dtab, .int .u32 da, .int .i64 dn, .int .i64 dlo, .int .i64 dhi, .int .i64 set, .int .i64 mask, .int .i64 type, .bool keep, .bool ton, .string tif, .int .u32 tg, .bool pon, .string pif, .int .u32 pg, .int .i64 table] 32 9
  have x10 : ∀ w', Ext W w' → w'.cell? ⟨w.heap.size, 10, none⟩ = some (.int .i64 shi) := hW ▸ boxK w #[.bool pass, .bool ret, .bool quick, .string on, .int .i64 proto, .bool sany, .string stab, .int .u32 sa, .int .i64 sn, .int .i64 slo, .int .i64 shi, .bool dany, .string dtab, .int .u32 da, .int .i64 dn, .int .i64 dlo, .int .i64 dhi, .int .i64 set, .int .i64 mask, .int .i64 type, .bool keep, .bool ton, .string tif, .int .u32 tg, .bool pon, .string pif, .int .u32 pg, .int .i64 table] 32 10
  have x11 : ∀ w', Ext W w' → w'.cell? ⟨w.heap.size, 11, none⟩ = some (.bool dany) := hW ▸ boxK w #[.bool pass, .bool ret, .bool quick, .string on, .int .i64 proto, .bool sany, .string stab, .int .u32 sa, .int .i64 sn, .int .i64 slo, .int .i64 shi, .bool dany, .string dtab, .int .u32 da, .int .i64 dn, .int .i64 dlo, .int .i64 dhi, .int .i64 set, .int .i64 mask, .int .i64 type, .bool keep, .bool ton, .string tif, .int .u32 tg, .bool pon, .string pif, .int .u32 pg, .int .i64 table] 32 11
  have x12 : ∀ w', Ext W w' → w'.cell? ⟨w.heap.size, 12, none⟩ = some (.string dtab) := hW ▸ boxK w #[.bool pass, .bool ret, .bool quick, .string on, .int .i64 proto, .bool sany, .string stab, .int .u32 sa, .int .i64 sn, .int .i64 slo, .int .i64 shi, .bool dany, .string dtab, .int .u32 da, .int .i64 dn, .int .i64 dlo, .int .i64 dhi, .int .i64 set, .int .i64 mask, .int .i64 type, .bool keep, .bool ton, .string tif, .int .u32 tg, .bool pon, .string pif, .int .u32 pg, .int .i64 table] 32 12
  have x13 : ∀ w', Ext W w' → w'.cell? ⟨w.heap.size, 13, none⟩ = some (.int .u32 da) := hW ▸ boxK w #[.bool pass, .bool ret, .bool quick, .string on, .int .i64 proto, .bool sany, .string stab, .int .u32 sa, .int .i64 sn, .int .i64 slo, .int .i64 shi, .bool dany, .string dtab, .int .u32 da, .int .i64 dn, .int .i64 dlo, .int .i64 dhi, .int .i64 set, .int .i64 mask, .int .i64 type, .bool keep, .bool ton, .string tif, .int .u32 tg, .bool pon, .string pif, .int .u32 pg, .int .i64 table] 32 13
  have x14 : ∀ w', Ext W w' → w'.cell? ⟨w.heap.size, 14, none⟩ = some (.int .i64 dn) := hW ▸ boxK w #[.bool pass, .bool ret, .bool quick, .string on, .int .i64 proto, .bool sany, .string stab, .int .u32 sa, .int .i64 sn, .int .i64 slo, .int .i64 shi, .bool dany, .string dtab, .int .u32 da, .int .i64 dn, .int .i64 dlo, .int .i64 dhi, .int .i64 set, .int .i64 mask, .int .i64 type, .bool keep, .bool ton, .string tif, .int .u32 tg, .bool pon, .string pif, .int .u32 pg, .int .i64 table] 32 14
  have x15 : ∀ w', Ext W w' → w'.cell? ⟨w.heap.size, 15, none⟩ = some (.int .i64 dlo) := hW ▸ boxK w #[.bool pass, .bool ret, .bool quick, .string on, .int .i64 proto, .bool sany, .string stab, .int .u32 sa, .int .i64 sn, .int .i64 slo, .int .i64 shi, .bool dany, .string dtab, .int .u32 da, .int .i64 dn, .int .i64 dlo, .int .i64 dhi, .int .i64 set, .int .i64 mask, .int .i64 type, .bool keep, .bool ton, .string tif, .int .u32 tg, .bool pon, .string pif, .int .u32 pg, .int .i64 table] 32 15
  have x16 : ∀ w', Ext W w' → w'.cell? ⟨w.heap.size, 16, none⟩ = some (.int .i64 dhi) := hW ▸ boxK w #[.bool pass, .bool ret, .bool quick, .string on, .int .i64 proto, .bool sany, .string stab, .int .u32 sa, .int .i64 sn, .int .i64 slo, .int .i64 shi, .bool dany, .string dtab, .int .u32 da, .int .i64 dn, .int .i64 dlo, .int .i64 dhi, .int .i64 set, .int .i64 mask, .int .i64 type, .bool keep, .bool ton, .string tif, .int .u32 tg, .bool pon, .string pif, .int .u32 pg, .int .i64 table] 32 16
  have x21 : ∀ w', Ext W w' → w'.cell? ⟨w.heap.size, 21, none⟩ = some (.bool ton) := hW ▸ boxK w #[.bool pass, .bool ret, .bool quick, .string on, .int .i64 proto, .bool sany, .string stab, .int .u32 sa, .int .i64 sn, .int .i64 slo, .int .i64 shi, .bool dany, .string dtab, .int .u32 da, .int .i64 dn, .int .i64 dlo, .int .i64 dhi, .int .i64 set, .int .i64 mask, .int .i64 type, .bool keep, .bool ton, .string tif, .int .u32 tg, .bool pon, .string pif, .int .u32 pg, .int .i64 table] 32 21
  have x22 : ∀ w', Ext W w' → w'.cell? ⟨w.heap.size, 22, none⟩ = some (.string tif) := hW ▸ boxK w #[.bool pass, .bool ret, .bool quick, .string on, .int .i64 proto, .bool sany, .string stab, .int .u32 sa, .int .i64 sn, .int .i64 slo, .int .i64 shi, .bool dany, .string dtab, .int .u32 da, .int .i64 dn, .int .i64 dlo, .int .i64 dhi, .int .i64 set, .int .i64 mask, .int .i64 type, .bool keep, .bool ton, .string tif, .int .u32 tg, .bool pon, .string pif, .int .u32 pg, .int .i64 table] 32 22
  have x23 : ∀ w', Ext W w' → w'.cell? ⟨w.heap.size, 23, none⟩ = some (.int .u32 tg) := hW ▸ boxK w #[.bool pass, .bool ret, .bool quick, .string on, .int .i64 proto, .bool sany, .string stab, .int .u32 sa, .int .i64 sn, .int .i64 slo, .int .i64 shi, .bool dany, .string dtab, .int .u32 da, .int .i64 dn, .int .i64 dlo, .int .i64 dhi, .int .i64 set, .int .i64 mask, .int .i64 type, .bool keep, .bool ton, .string tif, .int .u32 tg, .bool pon, .string pif, .int .u32 pg, .int .i64 table] 32 23
  have x24 : ∀ w', Ext W w' → w'.cell? ⟨w.heap.size, 24, none⟩ = some (.bool pon) := hW ▸ boxK w #[.bool pass, .bool ret, .bool quick, .string on, .int .i64 proto, .bool sany, .string stab, .int .u32 sa, .int .i64 sn, .int .i64 slo, .int .i64 shi, .bool dany, .string dtab, .int .u32 da, .int .i64 dn, .int .i64 dlo, .int .i64 dhi, .int .i64 set, .int .i64 mask, .int .i64 type, .bool keep, .bool ton, .string tif, .int .u32 tg, .bool pon, .string pif, .int .u32 pg, .int .i64 table] 32 24
  have x25 : ∀ w', Ext W w' → w'.cell? ⟨w.heap.size, 25, none⟩ = some (.string pif) := hW ▸ boxK w #[.bool pass, .bool ret, .bool quick, .string on, .int .i64 proto, .bool sany, .string stab, .int .u32 sa, .int .i64 sn, .int .i64 slo, .int .i64 shi, .bool dany, .string dtab, .int .u32 da, .int .i64 dn, .int .i64 dlo, .int .i64 dhi, .int .i64 set, .int .i64 mask, .int .i64 type, .bool keep, .bool ton, .string tif, .int .u32 tg, .bool pon, .string pif, .int .u32 pg, .int .i64 table] 32 25
  have x26 : ∀ w', Ext W w' → w'.cell? ⟨w.heap.size, 26, none⟩ = some (.int .u32 pg) := hW ▸ boxK w #[.bool pass, .bool ret, .bool quick, .string on, .int .i64 proto, .bool sany, .string stab, .int .u32 sa, .int .i64 sn, .int .i64 slo, .int .i64 shi, .bool dany, .string dtab, .int .u32 da, .int .i64 dn, .int .i64 dlo, .int .i64 dhi, .int .i64 set, .int .i64 mask, .int .i64 type, .bool keep, .bool ton, .string tif, .int .u32 tg, .bool pon, .string pif, .int .u32 pg, .int .i64 table] 32 26
  have x27 : ∀ w', Ext W w' → w'.cell? ⟨w.heap.size, 27, none⟩ = some (.int .i64 table) := hW ▸ boxK w #[.bool pass, .bool ret, .bool quick, .string on, .int .i64 proto, .bool sany, .string stab, .int .u32 sa, .int .i64 sn, .int .i64 slo, .int .i64 shi, .bool dany, .string dtab, .int .u32 da, .int .i64 dn, .int .i64 dlo, .int .i64 dhi, .int .i64 set, .int .i64 mask, .int .i64 type, .bool keep, .bool ton, .string tif, .int .u32 tg, .bool pon, .string pif, .int .u32 pg, .int .i64 table] 32 27
  have HB : Hid (∀ w', Ext W w' → w'.heap[w.heap.size]? = some (.cells #[.bool pass, .bool ret, .bool quick, .string on, .int .i64 proto, .bool sany, .string stab, .int .u32 sa, .int .i64 sn, .int .i64 slo, .int .i64 shi, .bool dany, .string dtab, .int .u32 da, .int .i64 dn, .int .i64 dlo, .int .i64 dhi, .int .i64 set, .int .i64 mask, .int .i64 type, .bool keep, .bool ton, .string tif, .int .u32 tg, .bool pon, .string pif, .int .u32 pg, .int .i64 table] 32 (0, 0))) := fun w' h => h.heap (hW ▸ heap_new w _)
  have hv := Ext.refl W
  have tok3 : Hid True := trivial
  have tok4 : Hid True := trivial
  have tok8 : Hid True := trivial
  go_enter Tryz.func18, Tryz.ntmps18
  go_wp2_with (first
    | (go_at_call 45; refine (c1 _).mono ?_; rintro e w1 ⟨rfl, hx1⟩; replace hv := hv.trans hx1; clear hx1)
    | (go_at_call 12; refine (c2 _).mono ?_; rintro e w2 ⟨rfl, rfl⟩)
    | (go_at_call 46; clear tok3; refine (c3 _).mono ?_; rintro e w2 ⟨rfl, rfl⟩)
    | (go_at_call 46; refine (c10 _).mono ?_; rintro e w2 ⟨rfl, rfl⟩)
    | (go_at_call 47; clear tok4; refine (c4 _).mono ?_; rintro e w1 ⟨rfl, hx1⟩; replace hv := hv.trans hx1; clear hx1)
    | (go_at_call 47; refine (c5 _).mono ?_; rintro e w1 ⟨rfl, hx1⟩; replace hv := hv.trans hx1; clear hx1)
    | (go_at_call 48; refine (c6 _).mono ?_; rintro e w1 ⟨rfl, hx1⟩; replace hv := hv.trans hx1; clear hx1)
    | (go_at_call 49; refine (c7 _).mono ?_; rintro e w1 ⟨rfl, hx1⟩; replace hv := hv.trans hx1; clear hx1)
    | (go_at_call 50; clear tok8; refine (c8 _).mono ?_; rintro e w1 ⟨rfl, hx1⟩; replace hv := hv.trans hx1; clear hx1)
    | (go_at_call 50; refine (c9 _).mono ?_; rintro e w1 ⟨rfl, hx1⟩; replace hv := hv.trans hx1; clear hx1)
    | (refine wpl_load (by rfl) 32 _ rfl w.heap.size _ _ _ rfl (HB.out _ hv) Tryz.underlying32 rfl rule_size ?_))
  all_goals go_ret
  all_goals exact ⟨by simp [*], hx0.trans hv⟩

theorem same_any (r q : RuleV) (w : World) : Calls Tryz.prog 20 #[(.agg #[.bool r.pass, .bool r.ret, .bool r.quick, .string r.on, .int .i64 r.proto, .bool r.src.any, .string r.src.table, .int .u32 r.src.a, .int .i64 r.src.n, .int .i64 r.src.low, .int .i64 r.src.high, .bool r.dst.any, .string r.dst.table, .int .u32 r.dst.a, .int .i64 r.dst.n, .int .i64 r.dst.low, .int .i64 r.dst.high, .int .i64 r.set, .int .i64 r.mask, .int .i64 r.type, .bool r.keep, .bool r.rt.on, .string r.rt.iface, .int .u32 r.rt.gate, .bool r.rp.on, .string r.rp.iface, .int .u32 r.rp.gate, .int .i64 r.table]), (.agg #[.bool q.pass, .bool q.ret, .bool q.quick, .string q.on, .int .i64 q.proto, .bool q.src.any, .string q.src.table, .int .u32 q.src.a, .int .i64 q.src.n, .int .i64 q.src.low, .int .i64 q.src.high, .bool q.dst.any, .string q.dst.table, .int .u32 q.dst.a, .int .i64 q.dst.n, .int .i64 q.dst.low, .int .i64 q.dst.high, .int .i64 q.set, .int .i64 q.mask, .int .i64 q.type, .bool q.keep, .bool q.rt.on, .string q.rt.iface, .int .u32 q.rt.gate, .bool q.rp.on, .string q.rp.iface, .int .u32 q.rp.gate, .int .i64 q.table])] w fun e w' => e = .returned (.bool (ruleQ r q)) ∧ Ext w w' := by
  have eq := fun w => eql_rule r q w
  have eg := rule_guard
  generalize ruleQ r q = b at *
  have hA := heap_new w (.cells #[.bool r.pass, .bool r.ret, .bool r.quick, .string r.on, .int .i64 r.proto, .bool r.src.any, .string r.src.table, .int .u32 r.src.a, .int .i64 r.src.n, .int .i64 r.src.low, .int .i64 r.src.high, .bool r.dst.any, .string r.dst.table, .int .u32 r.dst.a, .int .i64 r.dst.n, .int .i64 r.dst.low, .int .i64 r.dst.high, .int .i64 r.set, .int .i64 r.mask, .int .i64 r.type, .bool r.keep, .bool r.rt.on, .string r.rt.iface, .int .u32 r.rt.gate, .bool r.rp.on, .string r.rp.iface, .int .u32 r.rp.gate, .int .i64 r.table] 32)
  have hB := heap_new (w.alloc (.cells #[.bool r.pass, .bool r.ret, .bool r.quick, .string r.on, .int .i64 r.proto, .bool r.src.any, .string r.src.table, .int .u32 r.src.a, .int .i64 r.src.n, .int .i64 r.src.low, .int .i64 r.src.high, .bool r.dst.any, .string r.dst.table, .int .u32 r.dst.a, .int .i64 r.dst.n, .int .i64 r.dst.low, .int .i64 r.dst.high, .int .i64 r.set, .int .i64 r.mask, .int .i64 r.type, .bool r.keep, .bool r.rt.on, .string r.rt.iface, .int .u32 r.rt.gate, .bool r.rp.on, .string r.rp.iface, .int .u32 r.rp.gate, .int .i64 r.table] 32)) (.cells #[.bool q.pass, .bool q.ret, .bool q.quick, .string q.on, .int .i64 q.proto, .bool q.src.any, .string q.src.table, .int .u32 q.src.a, .int .i64 q.src.n, .int .i64 q.src.low, .int .i64 q.src.high, .bool q.dst.any, .string q.dst.table, .int .u32 q.dst.a, .int .i64 q.dst.n, .int .i64 q.dst.low, .int .i64 q.dst.high, .int .i64 q.set, .int .i64 q.mask, .int .i64 q.type, .bool q.keep, .bool q.rt.on, .string q.rt.iface, .int .u32 q.rt.gate, .bool q.rp.on, .string q.rp.iface, .int .u32 q.rp.gate, .int .i64 q.table] 32)
  have hx := ((Ext.refl w).alloc (.cells #[.bool r.pass, .bool r.ret, .bool r.quick, .string r.on, .int .i64 r.proto, .bool r.src.any, .string r.src.table, .int .u32 r.src.a, .int .i64 r.src.n, .int .i64 r.src.low, .int .i64 r.src.high, .bool r.dst.any, .string r.dst.table, .int .u32 r.dst.a, .int .i64 r.dst.n, .int .i64 r.dst.low, .int .i64 r.dst.high, .int .i64 r.set, .int .i64 r.mask, .int .i64 r.type, .bool r.keep, .bool r.rt.on, .string r.rt.iface, .int .u32 r.rt.gate, .bool r.rp.on, .string r.rp.iface, .int .u32 r.rp.gate, .int .i64 r.table] 32)).alloc (.cells #[.bool q.pass, .bool q.ret, .bool q.quick, .string q.on, .int .i64 q.proto, .bool q.src.any, .string q.src.table, .int .u32 q.src.a, .int .i64 q.src.n, .int .i64 q.src.low, .int .i64 q.src.high, .bool q.dst.any, .string q.dst.table, .int .u32 q.dst.a, .int .i64 q.dst.n, .int .i64 q.dst.low, .int .i64 q.dst.high, .int .i64 q.set, .int .i64 q.mask, .int .i64 q.type, .bool q.keep, .bool q.rt.on, .string q.rt.iface, .int .u32 q.rt.gate, .bool q.rp.on, .string q.rp.iface, .int .u32 q.rp.gate, .int .i64 q.table] 32)
  have hA' := ((Ext.refl _).alloc (.cells #[.bool q.pass, .bool q.ret, .bool q.quick, .string q.on, .int .i64 q.proto, .bool q.src.any, .string q.src.table, .int .u32 q.src.a, .int .i64 q.src.n, .int .i64 q.src.low, .int .i64 q.src.high, .bool q.dst.any, .string q.dst.table, .int .u32 q.dst.a, .int .i64 q.dst.n, .int .i64 q.dst.low, .int .i64 q.dst.high, .int .i64 q.set, .int .i64 q.mask, .int .i64 q.type, .bool q.keep, .bool q.rt.on, .string q.rt.iface, .int .u32 q.rt.gate, .bool q.rp.on, .string q.rp.iface, .int .u32 q.rp.gate, .int .i64 q.table] 32)).heap hA
  rw [show (w.alloc (.cells #[.bool r.pass, .bool r.ret, .bool r.quick, .string r.on, .int .i64 r.proto, .bool r.src.any, .string r.src.table, .int .u32 r.src.a, .int .i64 r.src.n, .int .i64 r.src.low, .int .i64 r.src.high, .bool r.dst.any, .string r.dst.table, .int .u32 r.dst.a, .int .i64 r.dst.n, .int .i64 r.dst.low, .int .i64 r.dst.high, .int .i64 r.set, .int .i64 r.mask, .int .i64 r.type, .bool r.keep, .bool r.rt.on, .string r.rt.iface, .int .u32 r.rt.gate, .bool r.rp.on, .string r.rp.iface, .int .u32 r.rp.gate, .int .i64 r.table] 32)).heap.size = w.heap.size + 1 by simp] at hB
  clear hA
  obtain ⟨pass, ret, quick, on, proto, ⟨sany, stab, sa, sn, slo, shi⟩, ⟨dany, dtab, da, dn, dlo, dhi⟩, set, mask, type, keep, ⟨ton, tif, tg⟩, ⟨pon, pif, pg⟩, table⟩ := r
  obtain ⟨qpass, qret, qquick, qon, qproto, ⟨qsany, qstab, qsa, qsn, qslo, qshi⟩, ⟨qdany, qdtab, qda, qdn, qdlo, qdhi⟩, qset, qmask, qtype, qkeep, ⟨qton, qtif, qtg⟩, ⟨qpon, qpif, qpg⟩, qtable⟩ := q
  dsimp only at *
  obtain ⟨W, hW⟩ : ∃ W, (w.alloc (.cells #[.bool pass, .bool ret, .bool quick, .string on, .int .i64 proto, .bool sany, .string stab, .int .u32 sa, .int .i64 sn, .int .i64 slo, .int .i64 shi, .bool dany, .string dtab, .int .u32 da, .int .i64 dn, .int .i64 dlo, .int .i64 dhi, .int .i64 set, .int .i64 mask, .int .i64 type, .bool keep, .bool ton, .string tif, .int .u32 tg, .bool pon, .string pif, .int .u32 pg, .int .i64 table] 32)).alloc (.cells #[.bool qpass, .bool qret, .bool qquick, .string qon, .int .i64 qproto, .bool qsany, .string qstab, .int .u32 qsa, .int .i64 qsn, .int .i64 qslo, .int .i64 qshi, .bool qdany, .string qdtab, .int .u32 qda, .int .i64 qdn, .int .i64 qdlo, .int .i64 qdhi, .int .i64 qset, .int .i64 qmask, .int .i64 qtype, .bool qkeep, .bool qton, .string qtif, .int .u32 qtg, .bool qpon, .string qpif, .int .u32 qpg, .int .i64 qtable] 32) = W := ⟨_, rfl⟩
  rw [hW] at hA' hB hx
  have HA : Hid _ := hA'
  have HB : Hid _ := hB
  clear hA' hB
  go_enter Tryz.func20, Tryz.ntmps20
  go_wp2_with (first
    | (refine wpl_load (by rfl) 32 _ rfl w.heap.size _ _ _ rfl HA.out Tryz.underlying32 rfl rule_size ?_)
    | (refine wpl_load (by rfl) 32 _ rfl (w.heap.size + 1) _ _ _ rfl HB.out Tryz.underlying32 rfl rule_size ?_))
  go_ret
  exact ⟨rfl, hx⟩
end Go.Proofs.YtbmmgjmmooakpaaGreatDoor.Ru
