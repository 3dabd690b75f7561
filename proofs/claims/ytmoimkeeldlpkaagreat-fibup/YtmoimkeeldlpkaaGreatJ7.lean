/- Texts joined by a program: Ref3, RefA, RefB. -/
import Derived.Test.YtmoimkeeldlpkaaGreatJ2
import Derived.Test.YtmoimkeeldlpkaaGreatJ3
import Derived.Test.YtmoimkeeldlpkaaGreatJ6
namespace Go.Proofs.YtmoimkeeldlpkaaGreat

set_option maxRecDepth 100000

open Go.RowKit

set_option linter.unusedVariables false

theorem refHold_any (n : Int) (w : World) : Calls Tryz.prog 57 #[.int .i64 n] w fun e w' => e = .returned (.int .i64 (holdV n)) ∧ w' = w := by
  by_cases h1 : n < 0
  · rw [show holdV n = 0 by unfold holdV; rw [if_pos h1]]
    go_enter Tryz.func57, Tryz.ntmps57
    go_wp2
    go_ret
    exact ⟨rfl, rfl⟩
  by_cases h2 : 32 < n
  · rw [show holdV n = 32 by unfold holdV; rw [if_neg h1, if_pos h2]]
    go_enter Tryz.func57, Tryz.ntmps57
    go_wp2
    go_ret
    exact ⟨rfl, rfl⟩
  · rw [show holdV n = n by unfold holdV; rw [if_neg h1, if_neg h2]]
    go_enter Tryz.func57, Tryz.ntmps57
    go_wp2
    go_ret
    exact ⟨rfl, rfl⟩

theorem refMask_any (n : Int) (w : World) : Calls Tryz.prog 38 #[.int .i64 n] w fun e w' => e = .returned (.int .u32 (maskV n)) ∧ w' = w := by
  have hb := holdV_bd n
  have c1 := fun w => refHold_any n w
  have hs := u32_shl_ones n
  generalize maskV n = m at *
  generalize holdV n = h at *
  have hw : IntKind.u64.wrap (4294967295 * 2 ^ (32 - h).toNat) % 4294967296 = m := by
    rw [IntKind.wrap_u64, Int.emod_emod_of_dvd _ (by decide)]; exact hs
  have H : Hid _ := hw
  clear hs hw
  go_enter Tryz.func38, Tryz.ntmps38
  go_wp2_with (go_at_call 57; refine (c1 _).mono ?_; rintro e w' ⟨rfl, rfl⟩)
  go_ret
  exact ⟨by rw [← H.out]; rfl, rfl⟩

theorem refHas_any (a n x : Int) (w : World) (a0 : 0 ≤ a) (a1 : a ≤ 4294967295) (x0 : 0 ≤ x) (x1 : x ≤ 4294967295) :
    Calls Tryz.prog 28 #[.agg #[.int .u32 a, .int .i64 n], .int .u32 x] w fun e w' => e = .returned (.bool (hasV a n x)) ∧ Ext w w' := by
  have c1 := fun w => refMask_any n w
  have hm := maskV_bd n
  have hh := u32_has a n x a0 a1 x0 x1
  generalize hasV a n x = d at *
  generalize maskV n = m at *
  obtain ⟨hx0, hb0, hb1⟩ := boxed2 w (.int .u32 a) (.int .i64 n) 31
  go_enter Tryz.func28, Tryz.ntmps28
  go_wp2
  refine wp_region_eager [(0, false), (1, false), (2, false), (3, false), (4, false), (5, false), (6, true), (7, false), (8, false), (9, false)] (by kernel_rfl) (by kernel_rfl) rfl (by kernel_rfl) (fun _ _ _ _ _ h => h) ?_
  generalize (w.alloc (.cells #[.int .u32 a, .int .i64 n] 31)).drew = W at *
  repeat (first
    | (refine wpE_read (v := ?_) rfl (by rfl) ?_ ?_; rotate_left; (focus (intro w' hx; go_simp; first | done | with_reducible rfl)); simp only [Act.put, List.setIfInBounds_toArray, List.set_cons_zero, List.set_cons_succ])
    | (refine wpE_call rfl (by rfl) (fun K hK => ?_); go_simp; first
        | (go_at_call 38; refine (c1 _).mono ?_; rintro e w' ⟨rfl, rfl⟩; refine hK _ _ (Ext.refl _) ?_; clear hK K)))
  refine wpE_done ?_
  go_wp2
  go_ret
  exact ⟨rfl, hx0⟩

theorem refWide_any (a n : Int) (w : World) (a0 : 0 ≤ a) (a1 : a ≤ 4294967295) :
    Calls Tryz.prog 15 #[.agg #[.int .u32 a, .int .i64 n]] w fun e w' => e = .returned (.int .u32 (wideV a n)) ∧ Ext w w' := by
  have c1 := fun w => refMask_any n w
  have hm := maskV_bd n
  have hh := u32_or_norm a n a0 a1
  rw [← u32_not _ hm.1 hm.2] at hh
  have hn := u32_and_mask a n a0 a1
  generalize normV a n = q at *
  generalize wideV a n = d at *
  generalize maskV n = m at *
  obtain ⟨hx0, hb0, hb1⟩ := boxed2 w (.int .u32 a) (.int .i64 n) 31
  go_enter Tryz.func15, Tryz.ntmps15
  go_wp2
  refine wp_region_eager [(0, false), (1, false), (2, false), (3, false), (6, false), (7, false), (4, true), (5, false), (8, true), (9, false), (10, false), (11, false)] (by kernel_rfl) (by kernel_rfl) rfl (by kernel_rfl) (fun _ _ _ _ _ h => h) ?_
  generalize (w.alloc (.cells #[.int .u32 a, .int .i64 n] 31)).drew = W at *
  repeat (first
    | (refine wpE_read (v := ?_) rfl (by rfl) ?_ ?_; rotate_left; (focus (intro w' hx; go_simp; first | done | with_reducible rfl)); simp only [Act.put, List.setIfInBounds_toArray, List.set_cons_zero, List.set_cons_succ])
    | (refine wpE_call rfl (by rfl) (fun K hK => ?_); go_simp; first
        | (go_at_call 38; refine (c1 _).mono ?_; rintro e w' ⟨rfl, rfl⟩; refine hK _ _ (Ext.refl _) ?_; clear hK K)))
  refine wpE_done ?_
  go_wp2
  go_ret
  exact ⟨rfl, hx0⟩

theorem refNorm_any (a n : Int) (w : World) (a0 : 0 ≤ a) (a1 : a ≤ 4294967295) :
    Calls Tryz.prog 118 #[.agg #[.int .u32 a, .int .i64 n]] w fun e w' => e = .returned (.agg #[.int .u32 (normV a n), .int .i64 (holdV n)]) ∧ Ext w w' := by
  have c1 := fun w => refMask_any n w
  have c2 := fun w => refHold_any n w
  have hm := maskV_bd n
  have hh := u32_and_mask a n a0 a1
  generalize normV a n = d at *
  generalize maskV n = m at *
  generalize holdV n = h at *
  have hx0 : Ext w ((w.alloc (.cells #[.int .u32 a, .int .i64 n] 31)).alloc (.cells #[.int .u32 0, .int .i64 0] 31)).drew := (((Ext.refl w).alloc _).alloc _).drew
  have hh0 : ((w.alloc (.cells #[.int .u32 a, .int .i64 n] 31)).alloc (.cells #[.int .u32 0, .int .i64 0] 31)).drew.heap[w.heap.size]? = some (.cells #[.int .u32 a, .int .i64 n] 31 (0, 0)) :=
    (Below.heap_alloc (w.alloc (.cells #[.int .u32 a, .int .i64 n] 31)) _ w.heap.size (by simp)).trans (heap_new w _)
  have hh1 : ((w.alloc (.cells #[.int .u32 a, .int .i64 n] 31)).alloc (.cells #[.int .u32 0, .int .i64 0] 31)).drew.heap[w.heap.size + 1]? = some (.cells #[.int .u32 0, .int .i64 0] 31 (0, 0)) := by
    have := heap_new (w.alloc (.cells #[.int .u32 a, .int .i64 n] 31)) (.cells #[.int .u32 0, .int .i64 0] 31)
    rwa [show (w.alloc (.cells #[.int .u32 a, .int .i64 n] 31)).heap.size = w.heap.size + 1 by simp] at this
  obtain ⟨hb0, hb1⟩ := box2 hh0 (w.heap.size + 1) (by omega)
  have f0 : ((w.alloc (.cells #[.int .u32 a, .int .i64 n] 31)).alloc (.cells #[.int .u32 0, .int .i64 0] 31)).drew.frozen? ⟨w.heap.size + 1, 0, none⟩ = false := heap_frozen hh1
  have f1 : ((w.alloc (.cells #[.int .u32 a, .int .i64 n] 31)).alloc (.cells #[.int .u32 0, .int .i64 0] 31)).drew.frozen? ⟨w.heap.size + 1, 1, none⟩ = false := heap_frozen hh1
  have d0 : ((w.alloc (.cells #[.int .u32 a, .int .i64 n] 31)).alloc (.cells #[.int .u32 0, .int .i64 0] 31)).drew.cell? ⟨w.heap.size + 1, 0, none⟩ = some (.int .u32 0) := by rw [heap_cell hh1]; rfl
  have d1 : ((w.alloc (.cells #[.int .u32 a, .int .i64 n] 31)).alloc (.cells #[.int .u32 0, .int .i64 0] 31)).drew.cell? ⟨w.heap.size + 1, 1, none⟩ = some (.int .i64 0) := by rw [heap_cell hh1]; rfl
  have H1 : Hid _ := hh1
  clear hh0 hh1
  go_enter Tryz.func118, Tryz.ntmps118
  go_wp2
  refine wp_region_eagerX (w.heap.size + 1) [(0, false), (1, false), (2, false), (3, false), (6, false), (7, false), (4, true), (5, false), (8, true), (9, false), (10, true)] (by kernel_rfl) (by kernel_rfl) rfl (by kernel_rfl) (fun _ _ _ _ _ h => h) ?_
  generalize ((w.alloc (.cells #[.int .u32 a, .int .i64 n] 31)).alloc (.cells #[.int .u32 0, .int .i64 0] 31)).drew = W at *
  repeat (first
    | (refine wpE_read (v := ?_) rfl (by rfl) ?_ ?_; rotate_left; (focus (intro w' hx; go_simp; first | done | with_reducible rfl)); simp only [Act.put, List.setIfInBounds_toArray, List.set_cons_zero, List.set_cons_succ])
    | (refine wpE_call rfl (by rfl) (fun K hK => ?_); go_simp; first
        | (go_at_call 38; refine (c1 _).mono ?_; rintro e w' ⟨rfl, rfl⟩; refine hK _ _ (ExtX.refl _ _) ?_; clear hK K)
        | (go_at_call 57; refine (c2 _).mono ?_; rintro e w' ⟨rfl, rfl⟩; refine hK _ _ (ExtX.refl _ _) ?_; clear hK K)))
  refine wpE_call rfl (by rfl) (fun K hK => ?_)
  go_simp
  refine hK _ _ (((ExtX.refl _ _).setCell (p := ⟨w.heap.size + 1, 0, none⟩) rfl _).setCell (p := ⟨w.heap.size + 1, 1, none⟩) rfl _) ?_
  clear hK K
  have k1 := heap_set (heap_set H1.out (k := 0) (.int .u32 d)) (k := 1) (.int .i64 h)
  have hx1 : Ext w ((w'.setCell ⟨w.heap.size + 1, 0, none⟩ (.int .u32 d)).setCell ⟨w.heap.size + 1, 1, none⟩ (.int .i64 h)) := ExtX.ext hx0 (((ExtX.refl _ _).setCell (p := ⟨w.heap.size + 1, 0, none⟩) rfl _).setCell (p := ⟨w.heap.size + 1, 1, none⟩) rfl _) (show w.heap.size ≤ w.heap.size + 1 by omega)
  clear f0 f1 d0 d1 H1 hb0 hb1 hx0
  generalize ((w'.setCell ⟨w.heap.size + 1, 0, none⟩ (.int .u32 d)).setCell ⟨w.heap.size + 1, 1, none⟩ (.int .i64 h)) = w2 at *
  have d0 : w2.cell? ⟨w.heap.size + 1, 0, none⟩ = some (.int .u32 d) := by rw [heap_cell k1]; rfl
  have d1 : w2.cell? ⟨w.heap.size + 1, 1, none⟩ = some (.int .i64 h) := by rw [heap_cell k1]; rfl
  clear k1
  refine wpE_done ?_
  go_wp2
  exact bodyPost_ret (v := .agg #[.int .u32 d, .int .i64 h]) (by simp [results, Tryz.results118, go_sem, d0, d1]) rfl ⟨rfl, hx1⟩

theorem refIs_any (a n : Int) (w : World) (a0 : 0 ≤ a) (a1 : a ≤ 4294967295) :
    Calls Tryz.prog 91 #[.agg #[.int .u32 a, .int .i64 n]] w fun e w' => e = .returned (.bool (isV a n)) ∧ Ext w w' := by
  have c1 := fun w => refNorm_any a n w a0 a1
  have eg := eq_guard
  rw [isV_comm]
  generalize normV a n = d at *
  generalize holdV n = h at *
  obtain ⟨hx0, hb0, hb1⟩ := boxed2 w (.int .u32 a) (.int .i64 n) 31
  have eq := fun w => eql_prefix d h a n w
  go_enter Tryz.func91, Tryz.ntmps91
  go_wp2
  refine wp_region_eager [(0, false), (2, false), (1, true), (3, false), (4, false)] (by kernel_rfl) (by kernel_rfl) rfl (by kernel_rfl) (fun _ _ _ _ _ h => h) ?_
  generalize (w.alloc (.cells #[.int .u32 a, .int .i64 n] 31)).drew = W at *
  repeat (first
    | (refine wpE_read (v := ?_) rfl (by rfl) ?_ ?_; rotate_left; (focus (intro w' hx; go_simp; first | done | with_reducible rfl)); simp only [Act.put, List.setIfInBounds_toArray, List.set_cons_zero, List.set_cons_succ])
    | (refine wpE_call rfl (by rfl) (fun K hK => ?_); go_simp; first
        | (go_at_call 118; refine (c1 _).mono ?_; rintro e w' ⟨rfl, hx1⟩; refine hK _ _ hx1 ?_; clear hK K)))
  refine wpE_done ?_
  go_wp2
  go_ret
  exact ⟨rfl, hx0.trans hx1⟩
end Go.Proofs.YtmoimkeeldlpkaaGreat

namespace Go.Proofs.YtmoimkeeldlpkaaGreat.Rb

set_option maxRecDepth 100000

open Go.RowKit Go.Proofs.YtmoimkeeldlpkaaGreat

set_option linter.unusedVariables false

set_option linter.unusedSimpArgs false

theorem neq_prefix (a n b m : Int) (w : World) : (binOp .neq 31 (.agg #[.int .u32 a, .int .i64 n]) (.agg #[.int .u32 b, .int .i64 m])).run Tryz.prog w = .ok (.bool (!(a == b && n == m))) w := by
  have h := eql_prefix a n b m w
  rw [run_eql_struct] at h
  rw [run_neq_struct]
  revert h
  cases (Op.equalIn 10000 31 (.agg #[.int .u32 a, .int .i64 n]) (.agg #[.int .u32 b, .int .i64 m])).run Tryz.prog w with
  | ok v w1 => intro h; simp only [Result.andThen_ok] at h ⊢; cases h; rfl
  | _ => intro h; simp [Result.andThen] at h

theorem before3_any (a n b m : Int) (w : World) :
    Calls Tryz.prog 92 #[.agg #[.int .u32 a, .int .i64 n], .agg #[.int .u32 b, .int .i64 m]] w fun e w' => e = .returned (.bool (decide (a < b) || (decide (a = b) && decide (n < m)))) ∧ Ext w w' := by
  have hx0 : Ext w ((w.alloc (.cells #[.int .u32 a, .int .i64 n] 31)).alloc (.cells #[.int .u32 b, .int .i64 m] 31)) := ((Ext.refl w).alloc _).alloc _
  by_cases e : a = b
  · have e' : (a == b) = true := by simpa using e
    have hr : (decide (a < b) || (decide (a = b) && decide (n < m))) = decide (n < m) := by simp [e]
    rw [hr]
    clear hr e
    go_enter Tryz.func92, Tryz.ntmps92
    go_wp2_with fail
    go_ret
    exact ⟨rfl, hx0⟩
  · have e' : (a == b) = false := by simpa using e
    have hr : (decide (a < b) || (decide (a = b) && decide (n < m))) = decide (a < b) := by simp [e]
    rw [hr]
    clear hr
    go_enter Tryz.func92, Tryz.ntmps92
    go_wp2_with fail
    go_ret
    exact ⟨rfl, hx0⟩

theorem ltB_t {x y : Rt} (h : ¬ x.t = y.t) : ltB x y = decide (x.t < y.t) := by
  rw [Bool.eq_iff_iff, ltB_iff, decide_eq_true_iff]
  unfold Lt5
  omega

theorem ltB_p {x y : Rt} (h : x.t = y.t) (k : ¬ (x.a = y.a ∧ x.l = y.l)) : ltB x y = (decide (x.a < y.a) || (decide (x.a = y.a) && decide (x.l < y.l))) := by
  rw [Bool.eq_iff_iff, ltB_iff]
  simp only [Bool.or_eq_true, Bool.and_eq_true, decide_eq_true_iff]
  unfold Lt5
  omega

theorem ltB_i {x y : Rt} (h : x.t = y.t) (k : x.a = y.a ∧ x.l = y.l) (m : ¬ x.i = y.i) : ltB x y = decide (x.i < y.i) := by
  rw [Bool.eq_iff_iff, ltB_iff, decide_eq_true_iff]
  unfold Lt5
  omega

theorem ltB_g {x y : Rt} (h : x.t = y.t) (k : x.a = y.a ∧ x.l = y.l) (m : x.i = y.i) : ltB x y = decide (x.g < y.g) := by
  rw [Bool.eq_iff_iff, ltB_iff, decide_eq_true_iff]
  unfold Lt5
  omega

theorem betB_m {x y : Rt} (h : ¬ x.m = y.m) : betB x y = decide (x.m < y.m) := by
  rw [Bool.eq_iff_iff, betB_iff, decide_eq_true_iff]
  unfold Lt3
  omega

theorem betB_i {x y : Rt} (h : x.m = y.m) (m : ¬ x.i = y.i) : betB x y = decide (x.i < y.i) := by
  rw [Bool.eq_iff_iff, betB_iff, decide_eq_true_iff]
  unfold Lt3
  omega

theorem betB_g {x y : Rt} (h : x.m = y.m) (m : x.i = y.i) : betB x y = decide (x.g < y.g) := by
  rw [Bool.eq_iff_iff, betB_iff, decide_eq_true_iff]
  unfold Lt3
  omega

theorem before_any (x y : Rt) (w : World) : Calls Tryz.prog 72 #[(.agg #[.int .i64 x.t, .int .u32 x.a, .int .i64 x.l, .int .i64 x.i, .int .u32 x.g, .int .i64 x.m]), (.agg #[.int .i64 y.t, .int .u32 y.a, .int .i64 y.l, .int .i64 y.i, .int .u32 y.g, .int .i64 y.m])] w fun e w' => e = .returned (.bool (ltB x y)) ∧ Ext w w' := by
  obtain ⟨hX, hA, hB⟩ := two_boxes w #[.int .i64 x.t, .int .u32 x.a, .int .i64 x.l, .int .i64 x.i, .int .u32 x.g, .int .i64 x.m] #[.int .i64 y.t, .int .u32 y.a, .int .i64 y.l, .int .i64 y.i, .int .u32 y.g, .int .i64 y.m] 33
  obtain ⟨a0, a1, a2, a3, a4, a5⟩ := box_rtE hA
  obtain ⟨b0, b1, b2, b3, b4, b5⟩ := box_rtE hB
  have p0 := a0 _ (Ext.refl _)
  have p1 := a1 _ (Ext.refl _)
  have p2 := a2 _ (Ext.refl _)
  have p3 := a3 _ (Ext.refl _)
  have p4 := a4 _ (Ext.refl _)
  have q0 := b0 _ (Ext.refl _)
  have q1 := b1 _ (Ext.refl _)
  have q2 := b2 _ (Ext.refl _)
  have q3 := b3 _ (Ext.refl _)
  have q4 := b4 _ (Ext.refl _)
  have np := fun w => neq_prefix x.a x.l y.a y.l w
  have kb := fun w => before3_any x.a x.l y.a y.l w
  clear hA hB a0 a1 a2 a3 a4 a5 b0 b1 b2 b3 b4 b5
  by_cases h1 : x.t = y.t
  · by_cases h2 : x.a = y.a ∧ x.l = y.l
    · have e2 : (!(x.a == y.a && x.l == y.l)) = false := by simp [h2.1, h2.2]
      rw [e2] at np
      by_cases h3 : x.i = y.i
      · rw [ltB_g h1 h2 h3]
        have h1a : (x.t == y.t) = true := by simpa using h1
        have h1b : (x.t != y.t) = false := by simp [h1]
        have h1c : decide (x.t = y.t) = true := by simpa using h1
        have h3a : (x.i == y.i) = true := by simpa using h3
        have h3b : (x.i != y.i) = false := by simp [h3]
        have h3c : decide (x.i = y.i) = true := by simpa using h3
        clear h2 e2 kb h1 h3
        go_enter Tryz.func72, Tryz.ntmps72
        go_wp2_with fail
        go_ret
        exact ⟨rfl, hX⟩
      · rw [ltB_i h1 h2 h3]
        have h1a : (x.t == y.t) = true := by simpa using h1
        have h1b : (x.t != y.t) = false := by simp [h1]
        have h1c : decide (x.t = y.t) = true := by simpa using h1
        clear h2 e2 kb h1
        go_enter Tryz.func72, Tryz.ntmps72
        go_wp2_with fail
        go_ret
        exact ⟨rfl, hX⟩
    · have e2 : (!(x.a == y.a && x.l == y.l)) = true := by
        by_cases h3 : x.a = y.a
        · have h4 : ¬ x.l = y.l := fun h => h2 ⟨h3, h⟩
          simp [h3, h4]
        · simp [h3]
      rw [e2] at np
      rw [ltB_p h1 h2]
      have h1a : (x.t == y.t) = true := by simpa using h1
      have h1b : (x.t != y.t) = false := by simp [h1]
      have h1c : decide (x.t = y.t) = true := by simpa using h1
      clear h2 e2 h1
      generalize (decide (x.a < y.a) || (decide (x.a = y.a) && decide (x.l < y.l))) = b at *
      go_enter Tryz.func72, Tryz.ntmps72
      go_wp2_with (go_at_call 92; refine (kb _).mono ?_; rintro e w1 ⟨rfl, hx1⟩)
      go_ret
      exact ⟨rfl, hX.trans hx1⟩
  · rw [ltB_t h1]
    clear kb np
    go_enter Tryz.func72, Tryz.ntmps72
    go_wp2_with fail
    go_ret
    exact ⟨rfl, hX⟩

theorem refBetter_any (x y : Rt) (w : World) : Calls Tryz.prog 29 #[(.agg #[.int .i64 x.t, .int .u32 x.a, .int .i64 x.l, .int .i64 x.i, .int .u32 x.g, .int .i64 x.m]), (.agg #[.int .i64 y.t, .int .u32 y.a, .int .i64 y.l, .int .i64 y.i, .int .u32 y.g, .int .i64 y.m])] w fun e w' => e = .returned (.bool (betB x y)) ∧ Ext w w' := by
  obtain ⟨hX, hA, hB⟩ := two_boxes w #[.int .i64 x.t, .int .u32 x.a, .int .i64 x.l, .int .i64 x.i, .int .u32 x.g, .int .i64 x.m] #[.int .i64 y.t, .int .u32 y.a, .int .i64 y.l, .int .i64 y.i, .int .u32 y.g, .int .i64 y.m] 33
  obtain ⟨a0, a1, a2, a3, a4, a5⟩ := box_rtE hA
  obtain ⟨b0, b1, b2, b3, b4, b5⟩ := box_rtE hB
  have p3 := a3 _ (Ext.refl _)
  have p4 := a4 _ (Ext.refl _)
  have p5 := a5 _ (Ext.refl _)
  have q3 := b3 _ (Ext.refl _)
  have q4 := b4 _ (Ext.refl _)
  have q5 := b5 _ (Ext.refl _)
  clear hA hB a0 a1 a2 a3 a4 a5 b0 b1 b2 b3 b4 b5
  by_cases h1 : x.m = y.m
  · by_cases h3 : x.i = y.i
    · rw [betB_g h1 h3]
      have h1a : (x.m == y.m) = true := by simpa using h1
      have h1b : (x.m != y.m) = false := by simp [h1]
      have h1c : decide (x.m = y.m) = true := by simpa using h1
      have h3a : (x.i == y.i) = true := by simpa using h3
      have h3b : (x.i != y.i) = false := by simp [h3]
      have h3c : decide (x.i = y.i) = true := by simpa using h3
      clear h1 h3
      go_enter Tryz.func29, Tryz.ntmps29
      go_wp2_with fail
      go_ret
      exact ⟨rfl, hX⟩
    · rw [betB_i h1 h3]
      have h1a : (x.m == y.m) = true := by simpa using h1
      have h1b : (x.m != y.m) = false := by simp [h1]
      have h1c : decide (x.m = y.m) = true := by simpa using h1
      clear h1
      go_enter Tryz.func29, Tryz.ntmps29
      go_wp2_with fail
      go_ret
      exact ⟨rfl, hX⟩
  · rw [betB_m h1]
    go_enter Tryz.func29, Tryz.ntmps29
    go_wp2_with fail
    go_ret
    exact ⟨rfl, hX⟩

theorem on_any (i : Int) (q : Option Addr) (m d : Nat) (U : List Bool) (w : World) (hU : Ups w q m U) :
    Calls Tryz.prog 22 #[.slice q m d, .int .i64 i] w fun e w' => e = .returned (.bool (upB U i)) ∧ Ext w w' := by
  have hl := hU.len
  by_cases h0 : 0 ≤ i
  · by_cases hlt : i < (m : Int)
    · have hn : i.toNat < U.length := by omega
      obtain ⟨u, hu⟩ : ∃ u, U[i.toNat]? = some u := ⟨_, List.getElem?_eq_getElem hn⟩
      have he : upB U i = u := by unfold upB; simp [h0, hu]
      rcases hU.cells with e | ⟨b, off, rfl, hc⟩
      · omega
      · have hcu := hc _ u hu
        rw [he]
        clear hc hu he hU hl hn
        go_enter Tryz.func22, Tryz.ntmps22
        go_wp2_with fail
        go_ret
        exact ⟨rfl, Ext.refl w⟩
    · have he : upB U i = false := by
        unfold upB
        rw [List.getElem?_eq_none (by omega)]
        simp
      rw [he]
      clear hU hl he
      go_enter Tryz.func22, Tryz.ntmps22
      go_wp2_with fail
      go_ret
      exact ⟨rfl, Ext.refl w⟩
  · have he : upB U i = false := by unfold upB; simp [h0]
    rw [he]
    clear hU hl he
    go_enter Tryz.func22, Tryz.ntmps22
    go_wp2_with fail
    go_ret
    exact ⟨rfl, Ext.refl w⟩

theorem refIs_any' (r : Rt) (w : World) (a0 : 0 ≤ r.a) (a1 : r.a ≤ 4294967295) : Calls Tryz.prog 71 #[(.agg #[.int .i64 r.t, .int .u32 r.a, .int .i64 r.l, .int .i64 r.i, .int .u32 r.g, .int .i64 r.m])] w fun e w' => e = .returned (.bool (isR r)) ∧ Ext w w' := by
  have k2 := fun w => refIs_any r.a r.l w a0 a1
  have hA : Ext w (w.alloc (.cells #[.int .i64 r.t, .int .u32 r.a, .int .i64 r.l, .int .i64 r.i, .int .u32 r.g, .int .i64 r.m] 33)) := (Ext.refl w).alloc _
  obtain ⟨q0, q1, q2, q3, q4, q5⟩ := box_rtE (heap_new w (.cells #[.int .i64 r.t, .int .u32 r.a, .int .i64 r.l, .int .i64 r.i, .int .u32 r.g, .int .i64 r.m] 33))
  have p0 := q0 _ (Ext.refl _)
  have p1 := q1 _ (Ext.refl _)
  have p2 := q2 _ (Ext.refl _)
  by_cases c1 : 0 ≤ r.t
  rotate_left
  · have he : isR r = false := by
      have hn : ¬ (0 ≤ r.t) := by omega
      unfold isR; simp [hn]
    go_enter Tryz.func71, Tryz.ntmps71
    go_wp2_with fail
    go_ret
    exact ⟨by first | rfl | (rw [he]; rfl) | (show Ending.returned (Value.bool (decide (r.m ≤ 255))) = Ending.returned (Value.bool _); rw [he, decide_eq_false (show ¬ r.m ≤ 255 by omega)]), hA⟩
  by_cases c2 : r.t < 4
  rotate_left
  · have he : isR r = false := by
      have hn : ¬ (r.t ≤ 3) := by omega
      unfold isR; simp [hn]
    go_enter Tryz.func71, Tryz.ntmps71
    go_wp2_with fail
    go_ret
    exact ⟨by first | rfl | (rw [he]; rfl) | (show Ending.returned (Value.bool (decide (r.m ≤ 255))) = Ending.returned (Value.bool _); rw [he, decide_eq_false (show ¬ r.m ≤ 255 by omega)]), hA⟩
  cases c3 : isV r.a r.l with
  | false =>
    rw [c3] at k2
    have he : isR r = false := by unfold isR; rw [c3]; simp
    clear c3
    go_enter Tryz.func71, Tryz.ntmps71
    go_wp2_with (go_at_call 91; refine (k2 _).mono ?_; rintro e w1 ⟨rfl, hx1⟩; have u3 := q3 _ hx1; have u5 := q5 _ hx1)
    go_ret
    exact ⟨by first | rfl | (rw [he]; rfl) | (show Ending.returned (Value.bool (decide (r.m ≤ 255))) = Ending.returned (Value.bool _); rw [he, decide_eq_false (show ¬ r.m ≤ 255 by omega)]), hA.trans hx1⟩
  | true =>
    rw [c3] at k2
    by_cases c4 : 0 ≤ r.i
    rotate_left
    · have he : isR r = false := by
        have hn : ¬ (0 ≤ r.i) := by omega
        unfold isR; simp [hn]
      clear c3
      go_enter Tryz.func71, Tryz.ntmps71
      go_wp2_with (go_at_call 91; refine (k2 _).mono ?_; rintro e w1 ⟨rfl, hx1⟩; have u3 := q3 _ hx1; have u5 := q5 _ hx1)
      go_ret
      exact ⟨by first | rfl | (rw [he]; rfl) | (show Ending.returned (Value.bool (decide (r.m ≤ 255))) = Ending.returned (Value.bool _); rw [he, decide_eq_false (show ¬ r.m ≤ 255 by omega)]), hA.trans hx1⟩
    by_cases c5 : r.i < 8
    rotate_left
    · have he : isR r = false := by
        have hn : ¬ (r.i ≤ 7) := by omega
        unfold isR; simp [hn]
      clear c3
      go_enter Tryz.func71, Tryz.ntmps71
      go_wp2_with (go_at_call 91; refine (k2 _).mono ?_; rintro e w1 ⟨rfl, hx1⟩; have u3 := q3 _ hx1; have u5 := q5 _ hx1)
      go_ret
      exact ⟨by first | rfl | (rw [he]; rfl) | (show Ending.returned (Value.bool (decide (r.m ≤ 255))) = Ending.returned (Value.bool _); rw [he, decide_eq_false (show ¬ r.m ≤ 255 by omega)]), hA.trans hx1⟩
    by_cases c6 : 0 ≤ r.m
    rotate_left
    · have he : isR r = false := by
        have hn : ¬ (0 ≤ r.m) := by omega
        unfold isR; simp [hn]
      clear c3
      go_enter Tryz.func71, Tryz.ntmps71
      go_wp2_with (go_at_call 91; refine (k2 _).mono ?_; rintro e w1 ⟨rfl, hx1⟩; have u3 := q3 _ hx1; have u5 := q5 _ hx1)
      go_ret
      exact ⟨by first | rfl | (rw [he]; rfl) | (show Ending.returned (Value.bool (decide (r.m ≤ 255))) = Ending.returned (Value.bool _); rw [he, decide_eq_false (show ¬ r.m ≤ 255 by omega)]), hA.trans hx1⟩
    by_cases c7 : r.m ≤ 255
    rotate_left
    · have he : isR r = false := by
        have hn : ¬ (r.m ≤ 255) := by omega
        unfold isR; simp [hn]
      clear c3
      go_enter Tryz.func71, Tryz.ntmps71
      go_wp2_with (go_at_call 91; refine (k2 _).mono ?_; rintro e w1 ⟨rfl, hx1⟩; have u3 := q3 _ hx1; have u5 := q5 _ hx1)
      go_ret
      exact ⟨by first | rfl | (rw [he]; rfl) | (show Ending.returned (Value.bool (decide (r.m ≤ 255))) = Ending.returned (Value.bool _); rw [he, decide_eq_false (show ¬ r.m ≤ 255 by omega)]), hA.trans hx1⟩
    have he : isR r = true := (isR_iff r).2 ⟨c1, by omega, c3, c4, by omega, c6, c7⟩
    clear c3
    go_enter Tryz.func71, Tryz.ntmps71
    go_wp2_with (go_at_call 91; refine (k2 _).mono ?_; rintro e w1 ⟨rfl, hx1⟩; have u3 := q3 _ hx1; have u5 := q5 _ hx1)
    go_ret
    exact ⟨by first | rfl | (rw [he]; rfl) | (show Ending.returned (Value.bool (decide (r.m ≤ 255))) = Ending.returned (Value.bool _); rw [he, decide_eq_false (show ¬ r.m ≤ 255 by omega)]), hA.trans hx1⟩

theorem here_stop {L : List Rt} {r x : Rt} {k : Nat} (hp : posR L r = k) (hx : L[k]? = some x) : hereB L r = !ltB r x := by
  rw [here_at, hp, hx]
  dsimp only
  have hf : ltB x r = false := twN_at (fun x => ltB x r) L x (by have : twN (fun x => ltB x r) L = k := hp; rw [this]; exact hx)
  have h1 := ordR_eq x r
  rw [same_iff, hf] at h1
  cases e : ltB r x
  · rw [e] at h1; simp [h1]
  · rw [e] at h1; simp [h1]

set_option maxHeartbeats 1000000 in
theorem place_any (xb : Nat) (L : List Rt) (F : List Nat) (r : Rt) (w : World) (h : RibAt 50 w xb L F) (hn : L.length ≤ 1000000) :
    Calls Tryz.prog 55 #[.pointer (some ⟨xb, 0, none⟩), (.agg #[.int .i64 r.t, .int .u32 r.a, .int .i64 r.l, .int .i64 r.i, .int .u32 r.g, .int .i64 r.m])] w fun e w' => e = .returned (.tuple #[.int .i64 (posR L r : Nat), .bool (hereB L r)]) ∧ Ext w w' := by
  obtain ⟨v, -, hX, hO⟩ := h
  obtain ⟨p, c, rfl, hc1, -, hR⟩ := hO.slice
  have hA : Ext w (w.alloc (.cells #[.int .i64 r.t, .int .u32 r.a, .int .i64 r.l, .int .i64 r.i, .int .u32 r.g, .int .i64 r.m] 33)) := (Ext.refl w).alloc _
  have HQ : Hid _ := box_rtE (heap_new w (.cells #[.int .i64 r.t, .int .u32 r.a, .int .i64 r.l, .int .i64 r.i, .int .u32 r.g, .int .i64 r.m] 33))
  have HV : Hid (∀ w', Ext w w' → w'.cell? ⟨xb, 0, none⟩ = some (.slice p L.length c)) := fun w' hx => by rw [heap_cell (hx.heap hX)]; rfl
  have HR : Hid (Rd w p L.length c L) := hR
  have kb := fun x w => before_any x r w
  have kc := fun x w => before_any r x w
  clear hX hO hR
  go_enter Tryz.func55, Tryz.ntmps55
  go_wp2_with fail
  generalize hW0 : (w.alloc (.cells #[.int .i64 r.t, .int .u32 r.a, .int .i64 r.l, .int .i64 r.i, .int .u32 r.g, .int .i64 r.m] 33)) = W0 at *
  clear hW0
  go_loopw [6] (fun i wr => ∃ k : Nat, k ≤ L.length ∧ i = .int .i64 k ∧ Ext W0 wr ∧ Hid (∀ (j : Nat) (x : Rt), j < k → L[j]? = some x → ltB x r = true)) (fun i _ => L.length - (intOf i).toNat)
  case atStart => exact ⟨0, Nat.zero_le _, rfl, Ext.refl _, (fun j x hj => by omega : ∀ (j : Nat) (x : Rt), j < 0 → L[j]? = some x → ltB x r = true)⟩
  case round =>
    obtain ⟨k, hk, rfl, hx, HK⟩ := hrel
    obtain ⟨a0, a1, a2, a3, a4, a5⟩ := HQ.out
    have hd := hx.drew
    have t0 := fun w' h => a0 w' (hd.trans h)
    have t1 := fun w' h => a1 w' (hd.trans h)
    have t2 := fun w' h => a2 w' (hd.trans h)
    have t3 := fun w' h => a3 w' (hd.trans h)
    have t4 := fun w' h => a4 w' (hd.trans h)
    have t5 := fun w' h => a5 w' (hd.trans h)
    have v0 : ∀ w', Ext wr.drew w' → w'.cell? ⟨xb, 0, none⟩ = some (.slice p L.length c) := fun w' h => HV.out w' (hA.trans (hd.trans h))
    clear a0 a1 a2 a3 a4 a5
    by_cases hlt : k < L.length
    · obtain ⟨x, hxk⟩ : ∃ x, L[k]? = some x := ⟨_, List.getElem?_eq_getElem hlt⟩
      obtain ⟨b, off, rfl, hb, g0, g1, g2, g3, g4, g5⟩ := (HR.out.ext (hA.trans hd)).cell hxk
      have x0 : ∀ w', Ext wr.drew w' → w'.cell? ⟨b, off + k * 6, none⟩ = some (.int .i64 x.t) := fun w' h => by rw [h.below.cell (p := ⟨b, off + k * 6, none⟩) hb]; exact g0
      have x1 : ∀ w', Ext wr.drew w' → w'.cell? ⟨b, off + k * 6 + 1, none⟩ = some (.int .u32 x.a) := fun w' h => by rw [h.below.cell (p := ⟨b, off + k * 6 + 1, none⟩) hb]; exact g1
      have x2 : ∀ w', Ext wr.drew w' → w'.cell? ⟨b, off + k * 6 + 2, none⟩ = some (.int .i64 x.l) := fun w' h => by rw [h.below.cell (p := ⟨b, off + k * 6 + 2, none⟩) hb]; exact g2
      have x3 : ∀ w', Ext wr.drew w' → w'.cell? ⟨b, off + k * 6 + 3, none⟩ = some (.int .i64 x.i) := fun w' h => by rw [h.below.cell (p := ⟨b, off + k * 6 + 3, none⟩) hb]; exact g3
      have x4 : ∀ w', Ext wr.drew w' → w'.cell? ⟨b, off + k * 6 + 4, none⟩ = some (.int .u32 x.g) := fun w' h => by rw [h.below.cell (p := ⟨b, off + k * 6 + 4, none⟩) hb]; exact g4
      have x5 : ∀ w', Ext wr.drew w' → w'.cell? ⟨b, off + k * 6 + 5, none⟩ = some (.int .i64 x.m) := fun w' h => by rw [h.below.cell (p := ⟨b, off + k * 6 + 5, none⟩) hb]; exact g5
      have k1 := fun w => kb x w
      have k2 := fun w => kc x w
      have HX : Hid _ := hxk
      have hki : (k : Int) < (L.length : Int) := by omega
      clear hxk g0 g1 g2 g3 g4 g5 kb kc
      generalize hz : ltB x r = z at k1
      have HZ : Hid _ := hz
      clear hz
      cases z
      · go_wp2_with fail
        refine wp_region_eager [(0, false), (1, false), (2, false), (3, false), (4, false), (5, false), (6, false), (7, false), (8, false), (9, false), (10, false), (11, false), (12, false), (13, false), (14, false), (15, false), (16, true), (17, false)] (by kernel_rfl) (by kernel_rfl) rfl (by kernel_rfl) (fun _ _ _ _ _ h => h) ?_
        generalize wr.drew = W at *
        iterate 16 (refine wpE_read (v := ?_) rfl (by rfl) ?_ ?_; rotate_left; (focus (intro w' hx; go_simp; first | done | with_reducible rfl)); simp only [Act.put, List.setIfInBounds_toArray, List.set_cons_zero, List.set_cons_succ])
        (refine wpE_call rfl (by rfl) (fun K hK => ?_); go_simp; first
              | (go_at_call 72; refine (k1 _).mono ?_; rintro e w1 ⟨rfl, hx1⟩; refine hK _ _ hx1 ?_; clear hK K))
        iterate 1 (refine wpE_read (v := ?_) rfl (by rfl) ?_ ?_; rotate_left; (focus (intro w' hx; go_simp; first | done | with_reducible rfl)); simp only [Act.put, List.setIfInBounds_toArray, List.set_cons_zero, List.set_cons_succ])
        refine wpE_done ?_
        go_wp2_with fail
        refine wp_region_eager [(0, false), (1, false), (2, false), (3, false), (4, false), (5, false), (6, false), (7, false), (8, false), (9, false), (10, false), (11, false), (12, false), (13, false), (14, false), (15, false), (16, false), (17, true), (18, false), (19, false), (20, false), (21, false)] (by kernel_rfl) (by kernel_rfl) rfl (by kernel_rfl) (fun _ _ _ _ _ h => h) ?_
        have hx2 := hx1.drew
        generalize w1.drew = W2 at *
        replace t0 := fun w' h => t0 w' (hx2.trans h); replace t1 := fun w' h => t1 w' (hx2.trans h); replace t2 := fun w' h => t2 w' (hx2.trans h); replace t3 := fun w' h => t3 w' (hx2.trans h); replace t4 := fun w' h => t4 w' (hx2.trans h); replace t5 := fun w' h => t5 w' (hx2.trans h); replace v0 := fun w' h => v0 w' (hx2.trans h); replace x0 := fun w' h => x0 w' (hx2.trans h); replace x1 := fun w' h => x1 w' (hx2.trans h); replace x2 := fun w' h => x2 w' (hx2.trans h); replace x3 := fun w' h => x3 w' (hx2.trans h); replace x4 := fun w' h => x4 w' (hx2.trans h); replace x5 := fun w' h => x5 w' (hx2.trans h)
        iterate 17 (refine wpE_read (v := ?_) rfl (by rfl) ?_ ?_; rotate_left; (focus (intro w' hx; go_simp; first | done | with_reducible rfl)); simp only [Act.put, List.setIfInBounds_toArray, List.set_cons_zero, List.set_cons_succ])
        (refine wpE_call rfl (by rfl) (fun K hK => ?_); go_simp; first
              | (go_at_call 72; refine (k2 _).mono ?_; rintro e w3 ⟨rfl, hx3⟩; refine hK _ _ hx3 ?_; clear hK K))
        iterate 4 (refine wpE_read (v := ?_) rfl (by rfl) ?_ ?_; rotate_left; (focus (intro w' hx; go_simp; first | done | with_reducible rfl)); simp only [Act.put, List.setIfInBounds_toArray, List.set_cons_zero, List.set_cons_succ])
        refine wpE_done ?_
        go_wp2_with fail
        go_ret2
        have hpos : posR L r = k := twN_unique _ L k hk HK.out (fun y hy => by rw [HX.out] at hy; cases hy; exact HZ.out)
        rw [hpos, here_stop hpos HX.out]
        exact ⟨rfl, hA.trans (hd.trans (hx2.trans hx3))⟩
      · go_wp2_with fail
        refine wp_region_eager [(0, false), (1, false), (2, false), (3, false), (4, false), (5, false), (6, false), (7, false), (8, false), (9, false), (10, false), (11, false), (12, false), (13, false), (14, false), (15, false), (16, true), (17, false)] (by kernel_rfl) (by kernel_rfl) rfl (by kernel_rfl) (fun _ _ _ _ _ h => h) ?_
        generalize wr.drew = W at *
        iterate 16 (refine wpE_read (v := ?_) rfl (by rfl) ?_ ?_; rotate_left; (focus (intro w' hx; go_simp; first | done | with_reducible rfl)); simp only [Act.put, List.setIfInBounds_toArray, List.set_cons_zero, List.set_cons_succ])
        (refine wpE_call rfl (by rfl) (fun K hK => ?_); go_simp; first
              | (go_at_call 72; refine (k1 _).mono ?_; rintro e w1 ⟨rfl, hx1⟩; refine hK _ _ hx1 ?_; clear hK K))
        iterate 1 (refine wpE_read (v := ?_) rfl (by rfl) ?_ ?_; rotate_left; (focus (intro w' hx; go_simp; first | done | with_reducible rfl)); simp only [Act.put, List.setIfInBounds_toArray, List.set_cons_zero, List.set_cons_succ])
        refine wpE_done ?_
        go_wp2_with fail
        go_roundw
        case rel => exact ⟨k + 1, by omega, by go_num, hd.trans hx1, (fun j y hj hy => by
          rcases Nat.lt_or_ge j k with h | h
          · exact HK.out j y h hy
          · obtain rfl : j = k := by omega
            rw [HX.out] at hy; cases hy; exact HZ.out : ∀ (j : Nat) (x : Rt), j < k + 1 → L[j]? = some x → ltB x r = true)⟩
        case measure => simp [intOf]; omega
    · obtain rfl : k = L.length := by omega
      clear kb kc
      go_wp2_with fail
      refine wp_region_eager [(0, false), (1, false), (2, false), (3, false), (4, false), (5, false), (6, false), (7, false), (8, false), (9, false), (10, false), (11, false), (12, false), (13, false), (14, false), (15, false), (16, true), (17, false)] (by kernel_rfl) (by kernel_rfl) rfl (by kernel_rfl) (fun _ _ _ _ _ h => h) ?_
      generalize wr.drew = W at *
      iterate 8 (refine wpE_read (v := ?_) rfl (by rfl) ?_ ?_; rotate_left; (focus (intro w' hx; go_simp; first | done | with_reducible rfl)); simp only [Act.put, List.setIfInBounds_toArray, List.set_cons_zero, List.set_cons_succ])
      iterate 9 (rw [wpE_skip_eq _ rfl (by rfl)]; simp only [Act.put, List.setIfInBounds_toArray, List.set_cons_zero, List.set_cons_succ])
      iterate 1 (refine wpE_read (v := ?_) rfl (by rfl) ?_ ?_; rotate_left; (focus (intro w' hx; go_simp; first | done | with_reducible rfl)); simp only [Act.put, List.setIfInBounds_toArray, List.set_cons_zero, List.set_cons_succ])
      refine wpE_done ?_
      go_wp2_with fail
      refine wp_region_eager [(0, false), (1, false), (2, false), (3, false), (4, false), (5, false), (6, false), (7, false), (8, false), (9, false), (10, false), (11, false), (12, false), (13, false), (14, false), (15, false), (16, false), (17, true), (18, false), (19, false), (20, false), (21, false)] (by kernel_rfl) (by kernel_rfl) rfl (by kernel_rfl) (fun _ _ _ _ _ h => h) ?_
      have hx2 := (Ext.refl W).drew
      generalize W.drew = W2 at *
      replace t0 := fun w' h => t0 w' (hx2.trans h); replace t1 := fun w' h => t1 w' (hx2.trans h); replace t2 := fun w' h => t2 w' (hx2.trans h); replace t3 := fun w' h => t3 w' (hx2.trans h); replace t4 := fun w' h => t4 w' (hx2.trans h); replace t5 := fun w' h => t5 w' (hx2.trans h); replace v0 := fun w' h => v0 w' (hx2.trans h)
      iterate 9 (refine wpE_read (v := ?_) rfl (by rfl) ?_ ?_; rotate_left; (focus (intro w' hx; go_simp; first | done | with_reducible rfl)); simp only [Act.put, List.setIfInBounds_toArray, List.set_cons_zero, List.set_cons_succ])
      iterate 10 (rw [wpE_skip_eq _ rfl (by rfl)]; simp only [Act.put, List.setIfInBounds_toArray, List.set_cons_zero, List.set_cons_succ])
      iterate 3 (refine wpE_read (v := ?_) rfl (by rfl) ?_ ?_; rotate_left; (focus (intro w' hx; go_simp; first | done | with_reducible rfl)); simp only [Act.put, List.setIfInBounds_toArray, List.set_cons_zero, List.set_cons_succ])
      refine wpE_done ?_
      go_wp2_with fail
      go_ret2
      have hpos : posR L r = L.length := twN_unique _ L L.length (Nat.le_refl _) HK.out (fun y hy => by rw [List.getElem?_eq_none (Nat.le_refl _)] at hy; cases hy)
      have hh : hereB L r = false := by rw [here_at, hpos, List.getElem?_eq_none (Nat.le_refl _)]
      rw [hpos, hh]
      exact ⟨rfl, hA.trans (hd.trans hx2)⟩
end Go.Proofs.YtmoimkeeldlpkaaGreat.Rb

namespace Go.Proofs.YtmoimkeeldlpkaaGreat.Rb

set_option maxRecDepth 100000

open Go.RowKit Go.Proofs.YtmoimkeeldlpkaaGreat

set_option linter.unusedVariables false

set_option linter.unusedSimpArgs false

theorem Rd.h {w : World} {p : Option Addr} {n c : Nat} {L : List Rt} (h : Rd w p n c L) {k : Nat} (hk : k ≤ n) (hc : n ≤ c) : Rd w p k c (L.take k) := by
  unfold Rd
  rw [← rtCs_take]
  exact Tri.Src.take h hk

theorem Rd.l {w : World} {p : Option Addr} {n c : Nat} {L : List Rt} (h : Rd w p n c L) {k : Nat} (hk : k ≤ n) (hc : n ≤ c) : Rd w (if c = k then p else p.map (·.add (k * 6))) (n - k) (c - k) (L.drop k) := by
  have := h.cut hk (Nat.le_refl n) hc
  rwa [List.take_of_length_le (by rw [List.length_drop, h.len]; omega)] at this

set_option maxHeartbeats 1000000 in
theorem refDel_here (xb : Nat) (L : List Rt) (F : List Nat) (r : Rt) (w : World) (h : RibAt 50 w xb L F) (hl : L.length ≤ 1000) (hh : hereB L r = true) :
    Calls Tryz.prog 35 #[.pointer (some ⟨xb, 0, none⟩), (.agg #[.int .i64 r.t, .int .u32 r.a, .int .i64 r.l, .int .i64 r.i, .int .u32 r.g, .int .i64 r.m])] w fun e w' => e = .returned (.int .i64 0) ∧ RibAns 50 w xb F (delR L r) w' := by
  have k1 := fun w' (hx : Ext w w') => place_any xb L F r w' (h.ext hx) (by omega)
  rw [hh] at k1
  have hd := del_here hh
  have hlt := here_pos hh
  generalize posR L r = k at *
  obtain ⟨v, rfl, hX, hO⟩ := h
  obtain ⟨p, c, hv, hc1, -, hR⟩ := hO.slice
  have hA : Ext w (w.alloc (.cells #[.int .i64 r.t, .int .u32 r.a, .int .i64 r.l, .int .i64 r.i, .int .u32 r.g, .int .i64 r.m] 33)) := (Ext.refl w).alloc _
  obtain ⟨q0, q1, q2, q3, q4, q5⟩ := box_rtE (heap_new w (.cells #[.int .i64 r.t, .int .u32 r.a, .int .i64 r.l, .int .i64 r.i, .int .u32 r.g, .int .i64 r.m] 33))
  have p0 := q0 _ (Ext.refl _)
  have p1 := q1 _ (Ext.refl _)
  have p2 := q2 _ (Ext.refl _)
  have p3 := q3 _ (Ext.refl _)
  have p4 := q4 _ (Ext.refl _)
  have p5 := q5 _ (Ext.refl _)
  have HX : Hid _ := hX
  have HO : Hid (OwnR w 0 v L) := hO
  have HD : Hid _ := hd
  have u1 : ∀ w, (Instr.slice 44 v none (some (.int .i64 k)) none).run Tryz.prog w = .ok (.slice p k c) w := by rw [hv]; exact cut_h p L.length c k (by omega)
  have u2 : ∀ w, (Instr.slice 44 v (some (.int .i64 (k + 1))) none none).run Tryz.prog w = .ok (.slice (if c = k + 1 then p else p.map (·.add ((k + 1) * 6))) (L.length - (k + 1)) (c - (k + 1))) w := by
    rw [hv]
    exact cut_l p L.length c (k + 1) (by omega) hc1
  have S1 : Hid (Rd w p k c (L.take k)) := hR.h (by omega) hc1
  have S2 : Hid (Rd w (if c = k + 1 then p else p.map (·.add ((k + 1) * 6))) (L.length - (k + 1)) (c - (k + 1)) (L.drop (k + 1))) := hR.l (by omega) hc1
  generalize (if c = k + 1 then p else p.map (·.add ((k + 1) * 6))) = p2' at *
  have wr1 : IntKind.i64.wrap ((k : Int) + 1) = (k : Int) + 1 := wraps_i64 _ (by omega) (by omega)
  clear hX hO hR hd hh q0 q1 q2 q3 q4 q5 hv
  go_enter Tryz.func35, Tryz.ntmps35
  go_wp2_with (go_at_call 55; refine (k1 _ hA).mono ?_; rintro e w1 ⟨rfl, hx1⟩)
  have hxw : Ext w w1 := hA.trans hx1
  have HX1 : Hid (w1.heap[xb]? = some (.cells #[v] 50 (0, 0))) := hxw.heap HX.out
  clear p0 p1 p2 p3 p4 p5 k1
  refine wp_region_tailMR (ExtN w1.heap.size) (ExtN.refl _) (fun _ _ _ h k => h.trans k) [] [19] [[0, 17, 18, 19], [2, 3, 4, 5, 7, 8, 16, 17, 18, 19], [3, 4, 5, 7, 8, 16, 17, 18, 19], [4, 5, 7, 8, 16, 17, 18, 19], [5, 7, 8, 16, 17, 18, 19], [6, 7, 8, 16, 17, 18, 19], [7, 8, 16, 17, 18, 19], [9, 10, 11, 12, 15, 16, 17, 18, 19], [10, 11, 12, 15, 16, 17, 18, 19], [11, 12, 15, 16, 17, 18, 19], [12, 15, 16, 17, 18, 19], [13, 14, 15, 16, 17, 18, 19], [14, 15, 16, 17, 18, 19], [15, 16, 17, 18, 19], [], [], [], [17, 18, 19], [18, 19]] [(0, false), (2, false), (3, false), (4, false), (5, false), (6, false), (7, false), (9, false), (10, false), (11, false), (12, false), (13, false), (14, false), (15, false), (1, true), (8, true), (16, true), (17, false), (18, false)] (by kernel_rfl) (by kernel_rfl) rfl (by kernel_rfl) (fun _ _ _ _ _ h => h) ?_
  refine wpM_done ?_
  have hxdp : Ext w1 w1.drew := (Ext.refl w1).drew
  have xxp : ∀ w', ExtN w1.heap.size w1.drew w' → w'.cell? ⟨xb, 0, none⟩ = some v := fun w' h => by rw [heap_cell (h.heap (heap_lt HX1.out) HX1.out)]; rfl
  generalize w1.drew = Wp at *
  iterate 14 (refine wpE_read (v := ?_) rfl (by rfl) ?_ ?_; rotate_left; (focus (intro w' hx; go_simp; first | done | with_reducible rfl)); simp only [Act.put, List.setIfInBounds_toArray, List.set_cons_zero, List.set_cons_succ])
  clear xxp
  refine wpE_call rfl (by rfl) (fun K hK => ?_)
  go_simp
  refine hK _ _ (((Ext.refl _).alloc _).upto _) ?_
  clear hK K
  have hGp := heap_new Wp (.cells #[] 33)
  have hxGp : Ext w1 (Wp.alloc (.cells #[] 33)) := hxdp.alloc _
  refine wpE_call rfl (by rfl) (fun K hK => ?_)
  refine wp_lit_rt (.tmp 16) (.tmp 22) rfl Wp.heap.size rfl hGp w1.heap.size hxdp.size p k c (L.take k) rfl (S1.out.ext (hxw.trans hxGp)) (by omega) ?_
  intro v4 W4 ho4 hx4
  refine hK _ _ (hx4.upto _) ?_
  clear hK K
  simp only [Act.put, List.setIfInBounds_toArray, List.set_cons_zero, List.set_cons_succ]
  have hx5 : Ext w1 W4 := hxGp.trans hx4
  refine wpE_call rfl (by rfl) (fun K hK => ?_)
  refine wp_app_rt (.tmp 23) (.tmp 30) rfl w1.heap.size v4 (L.take k) (L.drop (k + 1)) rfl ho4 p2' (L.length - (k + 1)) (c - (k + 1)) rfl (S2.out.ext (hxw.trans hx5)) (by rw [List.length_take]; omega) hx5.size ?_
  intro v6 W6 ho6 hg6 hat6
  have hN6 := Tri.grown_extN ho4 (Nat.le_refl _) hg6
  have hx6 : Ext w1 W6 := ExtN.ext hx5 hN6 (Nat.le_refl _)
  obtain ⟨p6, c6, hv6, -, -, -⟩ := ho6.slice
  subst hv6
  have HO6 : Hid (OwnR W6 w1.heap.size (.slice p6 (List.take k L ++ List.drop (k + 1) L).length c6) (List.take k L ++ List.drop (k + 1) L)) := ho6
  clear ho6 hat6 hg6 ho4 hx5 hx4 hGp hxGp hxdp
  refine hK _ _ hN6 ?_
  clear hK K hN6
  simp only [Act.put, List.setIfInBounds_toArray, List.set_cons_zero, List.set_cons_succ]
  generalize (List.take k L ++ List.drop (k + 1) L).length = n' at *
  iterate 2 (refine wpE_read (v := ?_) rfl (by rfl) ?_ ?_; rotate_left; (focus (intro w' hx; go_simp; first | done | with_reducible rfl)); simp only [Act.put, List.setIfInBounds_toArray, List.set_cons_zero, List.set_cons_succ])
  refine wpE_done ?_
  have HXe : Hid (W6.heap[xb]? = some (.cells #[v] 50 (0, 0))) := hx6.heap HX1.out
  have e0 : W6.cell? ⟨xb, 0, none⟩ = some v := by rw [heap_cell HXe.out]; rfl
  have f0 : W6.frozen? ⟨xb, 0, none⟩ = false := heap_frozen HXe.out
  iterate 1 (refine wpT_step rfl (by rfl) (fun K hK => ?_); go_simp; refine hK _ _ ?_; clear hK K)
  refine wpT_done ?_
  go_wp2_with fail
  go_ret
  refine ⟨rfl, RibAns.from hxw ?_⟩
  rw [HD.out]
  exact RibAns.put HX1.out (by decide) (HO.out.ext hxw) (hx6.toS _) (HO6.out.base (Nat.zero_le _)) (fun x hx => .inr (HO6.out.lt x hx).1)

set_option maxHeartbeats 1000000 in
theorem refAdd_here (xb : Nat) (L : List Rt) (F : List Nat) (r : Rt) (w : World) (h : RibAt 50 w xb L F) (hl : L.length ≤ 256) (k : Nat) (hk : k < L.length)
    (k0 : ∀ w, Calls Tryz.prog 71 #[(.agg #[.int .i64 r.t, .int .u32 r.a, .int .i64 r.l, .int .i64 r.i, .int .u32 r.g, .int .i64 r.m])] w fun e w' => e = .returned (.bool true) ∧ Ext w w')
    (k1 : ∀ w', Ext w w' → Calls Tryz.prog 55 #[.pointer (some ⟨xb, 0, none⟩), (.agg #[.int .i64 r.t, .int .u32 r.a, .int .i64 r.l, .int .i64 r.i, .int .u32 r.g, .int .i64 r.m])] w' fun e w2 => e = .returned (.tuple #[.int .i64 (k : Nat), .bool true]) ∧ Ext w' w2) :
    Calls Tryz.prog 53 #[.pointer (some ⟨xb, 0, none⟩), (.agg #[.int .i64 r.t, .int .u32 r.a, .int .i64 r.l, .int .i64 r.i, .int .u32 r.g, .int .i64 r.m])] w fun e w' => e = .returned (.int .i64 0) ∧ RibAns 50 w xb F ((L.take k ++ [r]) ++ L.drop (k + 1)) w' := by
  obtain ⟨v, rfl, hX, hO⟩ := h
  obtain ⟨p, c, hv, hc1, -, hR⟩ := hO.slice
  subst hv
  have hA : Ext w (w.alloc (.cells #[.int .i64 r.t, .int .u32 r.a, .int .i64 r.l, .int .i64 r.i, .int .u32 r.g, .int .i64 r.m] 33)) := (Ext.refl w).alloc _
  have HB : Hid _ := heap_new w (.cells #[.int .i64 r.t, .int .u32 r.a, .int .i64 r.l, .int .i64 r.i, .int .u32 r.g, .int .i64 r.m] 33)
  obtain ⟨q0, q1, q2, q3, q4, q5⟩ := box_rtE HB.out
  have p0 := q0 _ (Ext.refl _)
  have p1 := q1 _ (Ext.refl _)
  have p2 := q2 _ (Ext.refl _)
  have p3 := q3 _ (Ext.refl _)
  have p4 := q4 _ (Ext.refl _)
  have p5 := q5 _ (Ext.refl _)
  have HX : Hid _ := hX
  have HO : Hid (OwnR w 0 (.slice p L.length c) L) := hO
  have u1 : ∀ w, (Instr.slice 44 (.slice p L.length c) none (some (.int .i64 k)) none).run Tryz.prog w = .ok (.slice p k c) w := cut_h p L.length c k (by omega)
  have u2 : ∀ w, (Instr.slice 44 (.slice p L.length c) (some (.int .i64 ((k : Int) + 1))) none none).run Tryz.prog w = .ok (.slice (if c = (k + 1) then p else p.map (·.add ((k + 1) * 6))) (L.length - (k + 1)) (c - (k + 1))) w := cut_l p L.length c (k + 1) (by omega) hc1
  have S1 : Hid (Rd w p k c (L.take k)) := hR.h (by omega) hc1
  have S2 : Hid (Rd w (if c = (k + 1) then p else p.map (·.add ((k + 1) * 6))) (L.length - (k + 1)) (c - (k + 1)) (L.drop (k + 1))) := hR.l (by omega) hc1
  generalize (if c = (k + 1) then p else p.map (·.add ((k + 1) * 6))) = p2' at *
  have wr1 : IntKind.i64.wrap ((k : Int) + 1) = (k : Int) + 1 := wraps_i64 _ (by omega) (by omega)
  clear hX hO hR
  go_enter Tryz.func53, Tryz.ntmps53
  go_wp2_with (first
    | (go_at_call 71; refine (k0 _).mono ?_; rintro e w0 ⟨rfl, hx0⟩; have r0 := q0 _ hx0; have r1 := q1 _ hx0; have r2 := q2 _ hx0; have r3 := q3 _ hx0; have r4 := q4 _ hx0; have r5 := q5 _ hx0)
    | (go_at_call 55; refine (k1 _ (hA.trans hx0)).mono ?_; rintro e w1 ⟨rfl, hx1⟩; have hxw := hA.trans (hx0.trans hx1); have v1 : w1.cell? ⟨xb, 0, none⟩ = some (.slice p L.length c) := (by rw [heap_cell (hxw.heap HX.out)]; rfl)))
  have HX1 : Hid (w1.heap[xb]? = some (.cells #[.slice p L.length c] 50 (0, 0))) := hxw.heap HX.out
  have HB1 : Hid (w1.heap[w.heap.size]? = some (.cells #[.int .i64 r.t, .int .u32 r.a, .int .i64 r.l, .int .i64 r.i, .int .u32 r.g, .int .i64 r.m] 33 (0, 0))) := (hx0.trans hx1).heap HB.out
  clear p0 p1 p2 p3 p4 p5 k0 k1 r0 r1 r2 r3 r4 r5 v1 q0 q1 q2 q3 q4 q5
  refine wp_region_makeN w1.heap.size w1.heap.size (Nat.le_refl _) [(1, 0), (2, 0), (3, 0), (4, 0), (5, 0), (6, 0), (8, 0), (0, 3), (9, 3), (0, 2), (7, 1), (9, 2), (10, 4), (11, 0)] (by kernel_rfl) (by kernel_rfl) rfl (by kernel_rfl) (fun _ _ _ _ _ => Iff.rfl) ?_
  have x0 : ∀ w', ExtN w1.heap.size w1.drew w' → w'.cell? ⟨xb, 0, none⟩ = some (.slice p L.length c) := fun w' h => by rw [heap_cell (h.heap (heap_lt HX1.out) HX1.out)]; rfl
  have hb : ∀ j w', ExtN w1.heap.size w1.drew w' → w'.cell? ⟨w.heap.size, j, none⟩ = #[.int .i64 r.t, .int .u32 r.a, .int .i64 r.l, .int .i64 r.i, .int .u32 r.g, .int .i64 r.m][j]? := fun j w' h => heap_cell (h.heap (heap_lt HB1.out) HB1.out)
  have t0 : ∀ w', ExtN w1.heap.size w1.drew w' → w'.cell? ⟨w.heap.size, 0, none⟩ = some (.int .i64 r.t) := hb 0
  have t1 : ∀ w', ExtN w1.heap.size w1.drew w' → w'.cell? ⟨w.heap.size, 1, none⟩ = some (.int .u32 r.a) := hb 1
  have t2 : ∀ w', ExtN w1.heap.size w1.drew w' → w'.cell? ⟨w.heap.size, 2, none⟩ = some (.int .i64 r.l) := hb 2
  have t3 : ∀ w', ExtN w1.heap.size w1.drew w' → w'.cell? ⟨w.heap.size, 3, none⟩ = some (.int .i64 r.i) := hb 3
  have t4 : ∀ w', ExtN w1.heap.size w1.drew w' → w'.cell? ⟨w.heap.size, 4, none⟩ = some (.int .u32 r.g) := hb 4
  have t5 : ∀ w', ExtN w1.heap.size w1.drew w' → w'.cell? ⟨w.heap.size, 5, none⟩ = some (.int .i64 r.m) := hb 5
  have hxd : Ext w1 w1.drew := (Ext.refl w1).drew
  clear hb
  generalize w1.drew = W at *
  iterate 7 (refine wpW_read (v := ?_) rfl (by rfl) ?_ ?_; rotate_left; (focus (intro w' hx; go_simp; first | done | with_reducible rfl)); simp only [Act.put, List.setIfInBounds_toArray, List.set_cons_zero, List.set_cons_succ])
  (refine wpW_say _ (fun g => .slice (some ⟨g, 0, none⟩) 0 0) rfl (by rfl) (fun w' => by go_simp; first | done | with_reducible rfl) ?_)
  (refine wpW_say _ (fun g => .slice (some ⟨g, 0, none⟩) 1 1) rfl (by rfl) (fun w' => by go_simp; first | done | with_reducible rfl) ?_)
  refine wpW_make _ (fun g => .slice (some ⟨g, 0, none⟩) 0 0) rfl (by rfl) (fun w' => by go_simp; first | done | with_reducible rfl) ?_; simp only [Act.put, List.setIfInBounds_toArray, List.set_cons_zero, List.set_cons_succ]
  intro W2 g hx2 hg2 hG
  refine wpW_call rfl (by rfl) (fun W3 hx3 K hK => ?_)
  refine wp_lit_rt (.tmp 27) (.tmp 33) rfl g rfl (hx3.heap hG) w1.heap.size hg2 p k c (L.take k) rfl (S1.out.ext (hxw.trans (hxd.trans (hx2.trans hx3)))) (by omega) ?_
  intro v4 W4 ho4 hx4
  refine hK _ _ hx4 ?_
  clear hK K
  simp only [Act.put, List.setIfInBounds_toArray, List.set_cons_zero, List.set_cons_succ]
  refine wpW_make _ (fun g => .slice (some ⟨g, 0, none⟩) 1 1) rfl (by rfl) (fun w' => by go_simp; first | done | with_reducible rfl) ?_; simp only [Act.put, List.setIfInBounds_toArray, List.set_cons_zero, List.set_cons_succ]
  intro W5 g5 hx5 hg5 hG5
  have ho5 := ho4.ext hx5
  have hx15 : Ext w1 W5 := hxd.trans (hx2.trans (hx3.trans (hx4.trans hx5)))
  refine wpW_last rfl (by rfl) (fun K hK => ?_)
  refine wp_app_rt (.tmp 34) (.tmp 36) rfl w1.heap.size v4 (L.take k) [r] rfl ho5 (some ⟨g5, 0, none⟩) 1 1 rfl (rd_lit hG5) (by rw [List.length_take]; omega) hx15.size ?_
  intro v6 W6 ho6 hg6 hat6
  have hn6 := Tri.grown_extN ho5 (Nat.le_refl _) hg6
  refine hK _ _ hn6 ?_
  clear hK K
  simp only [Act.put, List.setIfInBounds_toArray, List.set_cons_zero, List.set_cons_succ]
  (refine wpW_read (v := ?_) rfl (by rfl) ?_ ?_; rotate_left; (focus (intro w' hx; go_simp; first | done | with_reducible rfl)); simp only [Act.put, List.setIfInBounds_toArray, List.set_cons_zero, List.set_cons_succ])
  refine wpW_done ?_
  have hx16 : Ext w1 W6 := ExtN.ext hx15 hn6 (Nat.le_refl _)
  have HO6 : Hid (OwnR W6 w1.heap.size v6 (L.take k ++ [r])) := ho6
  clear x0 t0 t1 t2 t3 t4 t5 hG hG5 hg2 hg5 hx2 hx3 hx4 hx5 hxd ho4 ho5 hx15 hn6 hg6 ho6 hat6
  have v16 : W6.cell? ⟨xb, 0, none⟩ = some (.slice p L.length c) := by rw [heap_cell (hx16.heap HX1.out)]; rfl
  go_wp2_with (at_builtin; refine wpList_want rfl (fun K hK => wp_app_rt (.tmp 42) (.tmp 48) rfl w1.heap.size v6 (L.take k ++ [r]) (L.drop (k + 1)) rfl HO6.out p2' (L.length - (k + 1)) (c - (k + 1)) rfl (S2.out.ext (hxw.trans hx16)) (by rw [List.length_append, List.length_take, List.length_cons, List.length_nil]; omega) hx16.size ?_); intro v8 W8 ho8 hg8 hat8; have hN8 := Tri.grown_extN HO6.out (Nat.le_refl _) hg8; have hx18 : Ext w1 W8 := ExtN.ext hx16 hN8 (Nat.le_refl _); obtain ⟨p8, c8, hv8, -, -, -⟩ := ho8.slice; subst hv8; have HO8 : Hid (OwnR W8 w1.heap.size (.slice p8 ((L.take k ++ [r]) ++ L.drop (k + 1)).length c8) ((L.take k ++ [r]) ++ L.drop (k + 1))) := ho8; have e0 : W8.cell? ⟨xb, 0, none⟩ = some (.slice p L.length c) := (by rw [heap_cell (hx18.heap HX1.out)]; rfl); have f0 : W8.frozen? ⟨xb, 0, none⟩ = false := heap_frozen (hx18.heap HX1.out); clear ho8 hg8 hat8 hN8; generalize ((L.take k ++ [r]) ++ L.drop (k + 1)).length = n' at *; refine hK _ _ ?_; clear hK K)
  go_ret
  refine ⟨rfl, RibAns.from hxw ?_⟩
  exact RibAns.put HX1.out (by decide) (HO.out.ext hxw) (hx18.toS _) (HO8.out.base (Nat.zero_le _)) (fun x hx => .inr (HO8.out.lt x hx).1)

set_option maxHeartbeats 1000000 in
theorem refAdd_new (xb : Nat) (L : List Rt) (F : List Nat) (r : Rt) (w : World) (h : RibAt 50 w xb L F) (hl : L.length ≤ 256) (k : Nat) (hk : k ≤ L.length) (hroom : L.length < 256)
    (k0 : ∀ w, Calls Tryz.prog 71 #[(.agg #[.int .i64 r.t, .int .u32 r.a, .int .i64 r.l, .int .i64 r.i, .int .u32 r.g, .int .i64 r.m])] w fun e w' => e = .returned (.bool true) ∧ Ext w w')
    (k1 : ∀ w', Ext w w' → Calls Tryz.prog 55 #[.pointer (some ⟨xb, 0, none⟩), (.agg #[.int .i64 r.t, .int .u32 r.a, .int .i64 r.l, .int .i64 r.i, .int .u32 r.g, .int .i64 r.m])] w' fun e w2 => e = .returned (.tuple #[.int .i64 (k : Nat), .bool false]) ∧ Ext w' w2) :
    Calls Tryz.prog 53 #[.pointer (some ⟨xb, 0, none⟩), (.agg #[.int .i64 r.t, .int .u32 r.a, .int .i64 r.l, .int .i64 r.i, .int .u32 r.g, .int .i64 r.m])] w fun e w' => e = .returned (.int .i64 0) ∧ RibAns 50 w xb F ((L.take k ++ [r]) ++ L.drop k) w' := by
  obtain ⟨v, rfl, hX, hO⟩ := h
  obtain ⟨p, c, hv, hc1, -, hR⟩ := hO.slice
  subst hv
  have hA : Ext w (w.alloc (.cells #[.int .i64 r.t, .int .u32 r.a, .int .i64 r.l, .int .i64 r.i, .int .u32 r.g, .int .i64 r.m] 33)) := (Ext.refl w).alloc _
  have HB : Hid _ := heap_new w (.cells #[.int .i64 r.t, .int .u32 r.a, .int .i64 r.l, .int .i64 r.i, .int .u32 r.g, .int .i64 r.m] 33)
  obtain ⟨q0, q1, q2, q3, q4, q5⟩ := box_rtE HB.out
  have p0 := q0 _ (Ext.refl _)
  have p1 := q1 _ (Ext.refl _)
  have p2 := q2 _ (Ext.refl _)
  have p3 := q3 _ (Ext.refl _)
  have p4 := q4 _ (Ext.refl _)
  have p5 := q5 _ (Ext.refl _)
  have HX : Hid _ := hX
  have HO : Hid (OwnR w 0 (.slice p L.length c) L) := hO
  have u1 : ∀ w, (Instr.slice 44 (.slice p L.length c) none (some (.int .i64 k)) none).run Tryz.prog w = .ok (.slice p k c) w := cut_h p L.length c k (by omega)
  have u2 : ∀ w, (Instr.slice 44 (.slice p L.length c) (some (.int .i64 ((k : Int)))) none none).run Tryz.prog w = .ok (.slice (if c = k then p else p.map (·.add (k * 6))) (L.length - k) (c - k)) w := cut_l p L.length c k (by omega) hc1
  have S1 : Hid (Rd w p k c (L.take k)) := hR.h (by omega) hc1
  have S2 : Hid (Rd w (if c = k then p else p.map (·.add (k * 6))) (L.length - k) (c - k) (L.drop k)) := hR.l (by omega) hc1
  generalize (if c = k then p else p.map (·.add (k * 6))) = p2' at *
  have wr1 : IntKind.i64.wrap ((k : Int) + 1) = (k : Int) + 1 := wraps_i64 _ (by omega) (by omega)
  have hcap : (L.length : Int) < 256 := by omega
  clear hX hO hR
  go_enter Tryz.func53, Tryz.ntmps53
  go_wp2_with (first
    | (go_at_call 71; refine (k0 _).mono ?_; rintro e w0 ⟨rfl, hx0⟩; have r0 := q0 _ hx0; have r1 := q1 _ hx0; have r2 := q2 _ hx0; have r3 := q3 _ hx0; have r4 := q4 _ hx0; have r5 := q5 _ hx0)
    | (go_at_call 55; refine (k1 _ (hA.trans hx0)).mono ?_; rintro e w1 ⟨rfl, hx1⟩; have hxw := hA.trans (hx0.trans hx1); have v1 : w1.cell? ⟨xb, 0, none⟩ = some (.slice p L.length c) := (by rw [heap_cell (hxw.heap HX.out)]; rfl)))
  have HX1 : Hid (w1.heap[xb]? = some (.cells #[.slice p L.length c] 50 (0, 0))) := hxw.heap HX.out
  have HB1 : Hid (w1.heap[w.heap.size]? = some (.cells #[.int .i64 r.t, .int .u32 r.a, .int .i64 r.l, .int .i64 r.i, .int .u32 r.g, .int .i64 r.m] 33 (0, 0))) := (hx0.trans hx1).heap HB.out
  clear p0 p1 p2 p3 p4 p5 k0 k1 r0 r1 r2 r3 r4 r5 v1 q0 q1 q2 q3 q4 q5
  refine wp_region_makeN w1.heap.size w1.heap.size (Nat.le_refl _) [(1, 0), (2, 0), (3, 0), (4, 0), (5, 0), (6, 0), (8, 0), (0, 3), (9, 3), (0, 2), (7, 1), (9, 2), (10, 4), (11, 0)] (by kernel_rfl) (by kernel_rfl) rfl (by kernel_rfl) (fun _ _ _ _ _ => Iff.rfl) ?_
  have x0 : ∀ w', ExtN w1.heap.size w1.drew w' → w'.cell? ⟨xb, 0, none⟩ = some (.slice p L.length c) := fun w' h => by rw [heap_cell (h.heap (heap_lt HX1.out) HX1.out)]; rfl
  have hb : ∀ j w', ExtN w1.heap.size w1.drew w' → w'.cell? ⟨w.heap.size, j, none⟩ = #[.int .i64 r.t, .int .u32 r.a, .int .i64 r.l, .int .i64 r.i, .int .u32 r.g, .int .i64 r.m][j]? := fun j w' h => heap_cell (h.heap (heap_lt HB1.out) HB1.out)
  have t0 : ∀ w', ExtN w1.heap.size w1.drew w' → w'.cell? ⟨w.heap.size, 0, none⟩ = some (.int .i64 r.t) := hb 0
  have t1 : ∀ w', ExtN w1.heap.size w1.drew w' → w'.cell? ⟨w.heap.size, 1, none⟩ = some (.int .u32 r.a) := hb 1
  have t2 : ∀ w', ExtN w1.heap.size w1.drew w' → w'.cell? ⟨w.heap.size, 2, none⟩ = some (.int .i64 r.l) := hb 2
  have t3 : ∀ w', ExtN w1.heap.size w1.drew w' → w'.cell? ⟨w.heap.size, 3, none⟩ = some (.int .i64 r.i) := hb 3
  have t4 : ∀ w', ExtN w1.heap.size w1.drew w' → w'.cell? ⟨w.heap.size, 4, none⟩ = some (.int .u32 r.g) := hb 4
  have t5 : ∀ w', ExtN w1.heap.size w1.drew w' → w'.cell? ⟨w.heap.size, 5, none⟩ = some (.int .i64 r.m) := hb 5
  have hxd : Ext w1 w1.drew := (Ext.refl w1).drew
  clear hb
  generalize w1.drew = W at *
  iterate 7 (refine wpW_read (v := ?_) rfl (by rfl) ?_ ?_; rotate_left; (focus (intro w' hx; go_simp; first | done | with_reducible rfl)); simp only [Act.put, List.setIfInBounds_toArray, List.set_cons_zero, List.set_cons_succ])
  (refine wpW_say _ (fun g => .slice (some ⟨g, 0, none⟩) 0 0) rfl (by rfl) (fun w' => by go_simp; first | done | with_reducible rfl) ?_)
  (refine wpW_say _ (fun g => .slice (some ⟨g, 0, none⟩) 1 1) rfl (by rfl) (fun w' => by go_simp; first | done | with_reducible rfl) ?_)
  refine wpW_make _ (fun g => .slice (some ⟨g, 0, none⟩) 0 0) rfl (by rfl) (fun w' => by go_simp; first | done | with_reducible rfl) ?_; simp only [Act.put, List.setIfInBounds_toArray, List.set_cons_zero, List.set_cons_succ]
  intro W2 g hx2 hg2 hG
  refine wpW_call rfl (by rfl) (fun W3 hx3 K hK => ?_)
  refine wp_lit_rt (.tmp 27) (.tmp 33) rfl g rfl (hx3.heap hG) w1.heap.size hg2 p k c (L.take k) rfl (S1.out.ext (hxw.trans (hxd.trans (hx2.trans hx3)))) (by omega) ?_
  intro v4 W4 ho4 hx4
  refine hK _ _ hx4 ?_
  clear hK K
  simp only [Act.put, List.setIfInBounds_toArray, List.set_cons_zero, List.set_cons_succ]
  refine wpW_make _ (fun g => .slice (some ⟨g, 0, none⟩) 1 1) rfl (by rfl) (fun w' => by go_simp; first | done | with_reducible rfl) ?_; simp only [Act.put, List.setIfInBounds_toArray, List.set_cons_zero, List.set_cons_succ]
  intro W5 g5 hx5 hg5 hG5
  have ho5 := ho4.ext hx5
  have hx15 : Ext w1 W5 := hxd.trans (hx2.trans (hx3.trans (hx4.trans hx5)))
  refine wpW_last rfl (by rfl) (fun K hK => ?_)
  refine wp_app_rt (.tmp 34) (.tmp 36) rfl w1.heap.size v4 (L.take k) [r] rfl ho5 (some ⟨g5, 0, none⟩) 1 1 rfl (rd_lit hG5) (by rw [List.length_take]; omega) hx15.size ?_
  intro v6 W6 ho6 hg6 hat6
  have hn6 := Tri.grown_extN ho5 (Nat.le_refl _) hg6
  refine hK _ _ hn6 ?_
  clear hK K
  simp only [Act.put, List.setIfInBounds_toArray, List.set_cons_zero, List.set_cons_succ]
  (refine wpW_read (v := ?_) rfl (by rfl) ?_ ?_; rotate_left; (focus (intro w' hx; go_simp; first | done | with_reducible rfl)); simp only [Act.put, List.setIfInBounds_toArray, List.set_cons_zero, List.set_cons_succ])
  refine wpW_done ?_
  have hx16 : Ext w1 W6 := ExtN.ext hx15 hn6 (Nat.le_refl _)
  have HO6 : Hid (OwnR W6 w1.heap.size v6 (L.take k ++ [r])) := ho6
  clear x0 t0 t1 t2 t3 t4 t5 hG hG5 hg2 hg5 hx2 hx3 hx4 hx5 hxd ho4 ho5 hx15 hn6 hg6 ho6 hat6
  have v16 : W6.cell? ⟨xb, 0, none⟩ = some (.slice p L.length c) := by rw [heap_cell (hx16.heap HX1.out)]; rfl
  go_wp2_with (at_builtin; refine wpList_want rfl (fun K hK => wp_app_rt (.tmp 42) (.tmp 48) rfl w1.heap.size v6 (L.take k ++ [r]) (L.drop k) rfl HO6.out p2' (L.length - k) (c - k) rfl (S2.out.ext (hxw.trans hx16)) (by rw [List.length_append, List.length_take, List.length_cons, List.length_nil]; omega) hx16.size ?_); intro v8 W8 ho8 hg8 hat8; have hN8 := Tri.grown_extN HO6.out (Nat.le_refl _) hg8; have hx18 : Ext w1 W8 := ExtN.ext hx16 hN8 (Nat.le_refl _); obtain ⟨p8, c8, hv8, -, -, -⟩ := ho8.slice; subst hv8; have HO8 : Hid (OwnR W8 w1.heap.size (.slice p8 ((L.take k ++ [r]) ++ L.drop k).length c8) ((L.take k ++ [r]) ++ L.drop k)) := ho8; have e0 : W8.cell? ⟨xb, 0, none⟩ = some (.slice p L.length c) := (by rw [heap_cell (hx18.heap HX1.out)]; rfl); have f0 : W8.frozen? ⟨xb, 0, none⟩ = false := heap_frozen (hx18.heap HX1.out); clear ho8 hg8 hat8 hN8; generalize ((L.take k ++ [r]) ++ L.drop k).length = n' at *; refine hK _ _ ?_; clear hK K)
  go_ret
  refine ⟨rfl, RibAns.from hxw ?_⟩
  exact RibAns.put HX1.out (by decide) (HO.out.ext hxw) (hx18.toS _) (HO8.out.base (Nat.zero_le _)) (fun x hx => .inr (HO8.out.lt x hx).1)
end Go.Proofs.YtmoimkeeldlpkaaGreat.Rb
