/- Texts joined by a program: RfB, RfC. -/
import Derived.Test.YtmoimkeeldlpkaaGreatJ7
import Derived.Test.YtmoimkeeldlpkaaGreatJ9
import Derived.Test.YtmoimkeeldlpkaaGreatJ22
namespace Go.Proofs.YtmoimkeeldlpkaaGreat.Rb

set_option maxRecDepth 100000

open Go.RowKit Go.Proofs.YtmoimkeeldlpkaaGreat

set_option linter.unusedVariables false

set_option linter.unusedSimpArgs false

set_option maxHeartbeats 1000000 in
theorem refDel_hereI (xb : Nat) (L : List Rt) (ty : TypeId) (rest : List Value) (v : Value) (r : Rt) (w : World) (hty : ty ≠ 33) (h : RibIn ty rest w xb v L) (hl : L.length ≤ 1000) (hh : hereB L r = true) :
    Calls Tryz.prog 35 #[.pointer (some ⟨xb, 0, none⟩), (.agg #[.int .i64 r.t, .int .u32 r.a, .int .i64 r.l, .int .i64 r.i, .int .u32 r.g, .int .i64 r.m])] w fun e w' => e = .returned (.int .i64 0) ∧ RibNew ty rest w xb v (delR L r) w' := by
  have k1 := fun w' (hx : Ext w w') => place_in xb L ty rest v r w' (h.ext hx) (by omega)
  rw [hh] at k1
  have hd := del_here hh
  have hlt := here_pos hh
  generalize posR L r = k at *
  obtain ⟨hX, hO⟩ := h
  obtain ⟨p, c, hv, hc1, -, hR⟩ := hO.slice
  have hA : Ext w (w.alloc (.cells #[.int .i64 r.t, .int .u32 r.a, .int .i64 r.l, .int .i64 r.i, .int .u32 r.g, .int .i64 r.m] 33)) := (Ext.refl w).alloc _
  obtain ⟨q0, q1, q2, q3, q4, q5⟩ := box_rtE (heap_new w (.cells #[.int .i64 r.t, .int .u32 r.a, .int .i64 r.l, .int .i64 r.i, .int .u32 r.g, .int .i64 r.m] 33))
  have p0 := q0 _ (Ext.refl _)
  have p1 := q1 _ (Ext.refl _)
  have p2 := q2 _ (Ext.refl _)
  have p3 := q3 _ (Ext.refl _)
  have p4 := q4 _ (Ext.refl _)
  have p5 := q5 _ (Ext.refl _)
  have HX : Hid _ := hX
  have HO : Hid (OwnR w 0 v L) := hO
  have HD : Hid _ := hd
  have u1 : ∀ w, (Instr.slice 44 v none (some (.int .i64 k)) none).run Tryz.prog w = .ok (.slice p k c) w := by rw [hv]; exact cut_h p L.length c k (by omega)
  have u2 : ∀ w, (Instr.slice 44 v (some (.int .i64 (k + 1))) none none).run Tryz.prog w = .ok (.slice (if c = k + 1 then p else p.map (·.add ((k + 1) * 6))) (L.length - (k + 1)) (c - (k + 1))) w := by
    rw [hv]
    exact cut_l p L.length c (k + 1) (by omega) hc1
  have S1 : Hid (Rd w p k c (L.take k)) := hR.h (by omega) hc1
  have S2 : Hid (Rd w (if c = k + 1 then p else p.map (·.add ((k + 1) * 6))) (L.length - (k + 1)) (c - (k + 1)) (L.drop (k + 1))) := hR.l (by omega) hc1
  generalize (if c = k + 1 then p else p.map (·.add ((k + 1) * 6))) = p2' at *
  have wr1 : IntKind.i64.wrap ((k : Int) + 1) = (k : Int) + 1 := wraps_i64 _ (by omega) (by omega)
  clear hX hO hR hd hh q0 q1 q2 q3 q4 q5 hv
  go_enter Tryz.func35, Tryz.ntmps35
  go_wp2_with (go_at_call 55; refine (k1 _ hA).mono ?_; rintro e w1 ⟨rfl, hx1⟩)
  have hxw : Ext w w1 := hA.trans hx1
  have HX1 : Hid (w1.heap[xb]? = some (.cells (v :: rest).toArray ty (0, 0))) := hxw.heap HX.out
  clear p0 p1 p2 p3 p4 p5 k1
  refine wp_region_tailMR (ExtN w1.heap.size) (ExtN.refl _) (fun _ _ _ h k => h.trans k) [] [19] [[0, 17, 18, 19], [2, 3, 4, 5, 7, 8, 16, 17, 18, 19], [3, 4, 5, 7, 8, 16, 17, 18, 19], [4, 5, 7, 8, 16, 17, 18, 19], [5, 7, 8, 16, 17, 18, 19], [6, 7, 8, 16, 17, 18, 19], [7, 8, 16, 17, 18, 19], [9, 10, 11, 12, 15, 16, 17, 18, 19], [10, 11, 12, 15, 16, 17, 18, 19], [11, 12, 15, 16, 17, 18, 19], [12, 15, 16, 17, 18, 19], [13, 14, 15, 16, 17, 18, 19], [14, 15, 16, 17, 18, 19], [15, 16, 17, 18, 19], [], [], [], [17, 18, 19], [18, 19]] [(0, false), (2, false), (3, false), (4, false), (5, false), (6, false), (7, false), (9, false), (10, false), (11, false), (12, false), (13, false), (14, false), (15, false), (1, true), (8, true), (16, true), (17, false), (18, false)] (by kernel_rfl) (by kernel_rfl) rfl (by kernel_rfl) (fun _ _ _ _ _ h => h) ?_
  refine wpM_done ?_
  have hxdp : Ext w1 w1.drew := (Ext.refl w1).drew
  have xxp : ∀ w', ExtN w1.heap.size w1.drew w' → w'.cell? ⟨xb, 0, none⟩ = some v := fun w' h => top_cell (h.heap (heap_lt HX1.out) HX1.out)
  generalize w1.drew = Wp at *
  iterate 14 (refine wpE_read (v := ?_) rfl (by rfl) ?_ ?_; rotate_left; (focus (intro w' hx; go_simp; first | done | with_reducible rfl)); simp only [Act.put, List.setIfInBounds_toArray, List.set_cons_zero, List.set_cons_succ])
  clear xxp
  refine wpE_call rfl (by rfl) (fun K hK => ?_)
  go_simp
  refine hK _ _ (((Ext.refl _).alloc _).upto _) ?_
  clear hK K
  have hGp := heap_new Wp (.cells #[] 33)
  have hxGp : Ext w1 (Wp.alloc (.cells #[] 33)) := hxdp.alloc _
  refine wpE_call rfl (by rfl) (fun K hK => ?_)
  refine wp_lit_rt (.tmp 16) (.tmp 22) rfl Wp.heap.size rfl hGp w1.heap.size hxdp.size p k c (L.take k) rfl (S1.out.ext (hxw.trans hxGp)) (by omega) ?_
  intro v4 W4 ho4 hx4
  refine hK _ _ (hx4.upto _) ?_
  clear hK K
  simp only [Act.put, List.setIfInBounds_toArray, List.set_cons_zero, List.set_cons_succ]
  have hx5 : Ext w1 W4 := hxGp.trans hx4
  refine wpE_call rfl (by rfl) (fun K hK => ?_)
  refine wp_app_rt (.tmp 23) (.tmp 30) rfl w1.heap.size v4 (L.take k) (L.drop (k + 1)) rfl ho4 p2' (L.length - (k + 1)) (c - (k + 1)) rfl (S2.out.ext (hxw.trans hx5)) (by rw [List.length_take]; omega) hx5.size ?_
  intro v6 W6 ho6 hg6 hat6
  have hN6 := Tri.grown_extN ho4 (Nat.le_refl _) hg6
  have hx6 : Ext w1 W6 := ExtN.ext hx5 hN6 (Nat.le_refl _)
  obtain ⟨p6, c6, hv6, -, -, -⟩ := ho6.slice
  subst hv6
  have HO6 : Hid (OwnR W6 w1.heap.size (.slice p6 (List.take k L ++ List.drop (k + 1) L).length c6) (List.take k L ++ List.drop (k + 1) L)) := ho6
  clear ho6 hat6 hg6 ho4 hx5 hx4 hGp hxGp hxdp
  refine hK _ _ hN6 ?_
  clear hK K hN6
  simp only [Act.put, List.setIfInBounds_toArray, List.set_cons_zero, List.set_cons_succ]
  generalize (List.take k L ++ List.drop (k + 1) L).length = n' at *
  iterate 2 (refine wpE_read (v := ?_) rfl (by rfl) ?_ ?_; rotate_left; (focus (intro w' hx; go_simp; first | done | with_reducible rfl)); simp only [Act.put, List.setIfInBounds_toArray, List.set_cons_zero, List.set_cons_succ])
  refine wpE_done ?_
  have HXe : Hid (W6.heap[xb]? = some (.cells (v :: rest).toArray ty (0, 0))) := hx6.heap HX1.out
  have e0 : W6.cell? ⟨xb, 0, none⟩ = some v := top_cell HXe.out
  have f0 : W6.frozen? ⟨xb, 0, none⟩ = false := heap_frozen HXe.out
  iterate 1 (refine wpT_step rfl (by rfl) (fun K hK => ?_); go_simp; refine hK _ _ ?_; clear hK K)
  refine wpT_done ?_
  go_wp2_with fail
  go_ret
  refine ⟨rfl, RibNew.from hxw ?_⟩
  rw [HD.out]
  exact RibNew.put HX1.out hty hx6 (HO6.out.base (Nat.zero_le _)) (fun x hx => (HO6.out.lt x hx).1)

theorem refDel_in (xb : Nat) (L : List Rt) (ty : TypeId) (rest : List Value) (v : Value) (r : Rt) (w : World) (hty : ty ≠ 33) (h : RibIn ty rest w xb v L) (hl : L.length ≤ 1000) :
    Calls Tryz.prog 35 #[.pointer (some ⟨xb, 0, none⟩), (.agg #[.int .i64 r.t, .int .u32 r.a, .int .i64 r.l, .int .i64 r.i, .int .u32 r.g, .int .i64 r.m])] w fun e w' => e = .returned (.int .i64 (delE L r)) ∧ RibNew ty rest w xb v (delS L r) w' := by
  unfold delE delS
  cases hh : hereB L r with
  | true =>
    simp only [if_true]
    exact refDel_hereI xb L ty rest v r w hty h hl hh
  | false =>
    simp only [Bool.false_eq_true, if_false]
    have k1 := fun w' (hx : Ext w w') => place_in xb L ty rest v r w' (h.ext hx) (by omega)
    rw [hh] at k1
    generalize posR L r = k at *
    have hA : Ext w (w.alloc (.cells #[.int .i64 r.t, .int .u32 r.a, .int .i64 r.l, .int .i64 r.i, .int .u32 r.g, .int .i64 r.m] 33)) := (Ext.refl w).alloc _
    obtain ⟨q0, q1, q2, q3, q4, q5⟩ := box_rtE (heap_new w (.cells #[.int .i64 r.t, .int .u32 r.a, .int .i64 r.l, .int .i64 r.i, .int .u32 r.g, .int .i64 r.m] 33))
    have p0 := q0 _ (Ext.refl _)
    have p1 := q1 _ (Ext.refl _)
    have p2 := q2 _ (Ext.refl _)
    have p3 := q3 _ (Ext.refl _)
    have p4 := q4 _ (Ext.refl _)
    have p5 := q5 _ (Ext.refl _)
    have H : Hid (RibIn ty rest w xb v L) := h
    clear h hh q0 q1 q2 q3 q4 q5
    go_enter Tryz.func35, Tryz.ntmps35
    go_wp2_with (go_at_call 55; refine (k1 _ hA).mono ?_; rintro e w1 ⟨rfl, hx1⟩)
    go_ret
    exact ⟨rfl, RibNew.same H.out (hA.trans hx1)⟩

set_option maxHeartbeats 1000000 in
theorem refAdd_hereI (xb : Nat) (L : List Rt) (ty : TypeId) (rest : List Value) (v : Value) (r : Rt) (w : World) (hty : ty ≠ 33) (h : RibIn ty rest w xb v L) (hl : L.length ≤ 256) (k : Nat) (hk : k < L.length)
    (k0 : ∀ w, Calls Tryz.prog 71 #[(.agg #[.int .i64 r.t, .int .u32 r.a, .int .i64 r.l, .int .i64 r.i, .int .u32 r.g, .int .i64 r.m])] w fun e w' => e = .returned (.bool true) ∧ Ext w w')
    (k1 : ∀ w', Ext w w' → Calls Tryz.prog 55 #[.pointer (some ⟨xb, 0, none⟩), (.agg #[.int .i64 r.t, .int .u32 r.a, .int .i64 r.l, .int .i64 r.i, .int .u32 r.g, .int .i64 r.m])] w' fun e w2 => e = .returned (.tuple #[.int .i64 (k : Nat), .bool true]) ∧ Ext w' w2) :
    Calls Tryz.prog 53 #[.pointer (some ⟨xb, 0, none⟩), (.agg #[.int .i64 r.t, .int .u32 r.a, .int .i64 r.l, .int .i64 r.i, .int .u32 r.g, .int .i64 r.m])] w fun e w' => e = .returned (.int .i64 0) ∧ RibNew ty rest w xb v ((L.take k ++ [r]) ++ L.drop (k + 1)) w' := by
  obtain ⟨hX, hO⟩ := h
  obtain ⟨p, c, hv, hc1, -, hR⟩ := hO.slice
  subst hv
  have hA : Ext w (w.alloc (.cells #[.int .i64 r.t, .int .u32 r.a, .int .i64 r.l, .int .i64 r.i, .int .u32 r.g, .int .i64 r.m] 33)) := (Ext.refl w).alloc _
  have HB : Hid _ := heap_new w (.cells #[.int .i64 r.t, .int .u32 r.a, .int .i64 r.l, .int .i64 r.i, .int .u32 r.g, .int .i64 r.m] 33)
  obtain ⟨q0, q1, q2, q3, q4, q5⟩ := box_rtE HB.out
  have p0 := q0 _ (Ext.refl _)
  have p1 := q1 _ (Ext.refl _)
  have p2 := q2 _ (Ext.refl _)
  have p3 := q3 _ (Ext.refl _)
  have p4 := q4 _ (Ext.refl _)
  have p5 := q5 _ (Ext.refl _)
  have HX : Hid _ := hX
  have HO : Hid (OwnR w 0 (.slice p L.length c) L) := hO
  have u1 : ∀ w, (Instr.slice 44 (.slice p L.length c) none (some (.int .i64 k)) none).run Tryz.prog w = .ok (.slice p k c) w := cut_h p L.length c k (by omega)
  have u2 : ∀ w, (Instr.slice 44 (.slice p L.length c) (some (.int .i64 ((k : Int) + 1))) none none).run Tryz.prog w = .ok (.slice (if c = (k + 1) then p else p.map (·.add ((k + 1) * 6))) (L.length - (k + 1)) (c - (k + 1))) w := cut_l p L.length c (k + 1) (by omega) hc1
  have S1 : Hid (Rd w p k c (L.take k)) := hR.h (by omega) hc1
  have S2 : Hid (Rd w (if c = (k + 1) then p else p.map (·.add ((k + 1) * 6))) (L.length - (k + 1)) (c - (k + 1)) (L.drop (k + 1))) := hR.l (by omega) hc1
  generalize (if c = (k + 1) then p else p.map (·.add ((k + 1) * 6))) = p2' at *
  have wr1 : IntKind.i64.wrap ((k : Int) + 1) = (k : Int) + 1 := wraps_i64 _ (by omega) (by omega)
  clear hX hO hR
  go_enter Tryz.func53, Tryz.ntmps53
  go_wp2_with (first
    | (go_at_call 71; refine (k0 _).mono ?_; rintro e w0 ⟨rfl, hx0⟩; have r0 := q0 _ hx0; have r1 := q1 _ hx0; have r2 := q2 _ hx0; have r3 := q3 _ hx0; have r4 := q4 _ hx0; have r5 := q5 _ hx0)
    | (go_at_call 55; refine (k1 _ (hA.trans hx0)).mono ?_; rintro e w1 ⟨rfl, hx1⟩; have hxw := hA.trans (hx0.trans hx1); have v1 : w1.cell? ⟨xb, 0, none⟩ = some (.slice p L.length c) := (top_cell (hxw.heap HX.out))))
  have HX1 : Hid (w1.heap[xb]? = some (.cells (Value.slice p L.length c :: rest).toArray ty (0, 0))) := hxw.heap HX.out
  have HB1 : Hid (w1.heap[w.heap.size]? = some (.cells #[.int .i64 r.t, .int .u32 r.a, .int .i64 r.l, .int .i64 r.i, .int .u32 r.g, .int .i64 r.m] 33 (0, 0))) := (hx0.trans hx1).heap HB.out
  clear p0 p1 p2 p3 p4 p5 k0 k1 r0 r1 r2 r3 r4 r5 v1 q0 q1 q2 q3 q4 q5
  refine wp_region_makeN w1.heap.size w1.heap.size (Nat.le_refl _) [(1, 0), (2, 0), (3, 0), (4, 0), (5, 0), (6, 0), (8, 0), (0, 3), (9, 3), (0, 2), (7, 1), (9, 2), (10, 4), (11, 0)] (by kernel_rfl) (by kernel_rfl) rfl (by kernel_rfl) (fun _ _ _ _ _ => Iff.rfl) ?_
  have x0 : ∀ w', ExtN w1.heap.size w1.drew w' → w'.cell? ⟨xb, 0, none⟩ = some (.slice p L.length c) := fun w' h => top_cell (h.heap (heap_lt HX1.out) HX1.out)
  have hb : ∀ j w', ExtN w1.heap.size w1.drew w' → w'.cell? ⟨w.heap.size, j, none⟩ = #[.int .i64 r.t, .int .u32 r.a, .int .i64 r.l, .int .i64 r.i, .int .u32 r.g, .int .i64 r.m][j]? := fun j w' h => heap_cell (h.heap (heap_lt HB1.out) HB1.out)
  have t0 : ∀ w', ExtN w1.heap.size w1.drew w' → w'.cell? ⟨w.heap.size, 0, none⟩ = some (.int .i64 r.t) := hb 0
  have t1 : ∀ w', ExtN w1.heap.size w1.drew w' → w'.cell? ⟨w.heap.size, 1, none⟩ = some (.int .u32 r.a) := hb 1
  have t2 : ∀ w', ExtN w1.heap.size w1.drew w' → w'.cell? ⟨w.heap.size, 2, none⟩ = some (.int .i64 r.l) := hb 2
  have t3 : ∀ w', ExtN w1.heap.size w1.drew w' → w'.cell? ⟨w.heap.size, 3, none⟩ = some (.int .i64 r.i) := hb 3
  have t4 : ∀ w', ExtN w1.heap.size w1.drew w' → w'.cell? ⟨w.heap.size, 4, none⟩ = some (.int .u32 r.g) := hb 4
  have t5 : ∀ w', ExtN w1.heap.size w1.drew w' → w'.cell? ⟨w.heap.size, 5, none⟩ = some (.int .i64 r.m) := hb 5
  have hxd : Ext w1 w1.drew := (Ext.refl w1).drew
  clear hb
  generalize w1.drew = W at *
  iterate 7 (refine wpW_read (v := ?_) rfl (by rfl) ?_ ?_; rotate_left; (focus (intro w' hx; go_simp; first | done | with_reducible rfl)); simp only [Act.put, List.setIfInBounds_toArray, List.set_cons_zero, List.set_cons_succ])
  (refine wpW_say _ (fun g => .slice (some ⟨g, 0, none⟩) 0 0) rfl (by rfl) (fun w' => by go_simp; first | done | with_reducible rfl) ?_)
  (refine wpW_say _ (fun g => .slice (some ⟨g, 0, none⟩) 1 1) rfl (by rfl) (fun w' => by go_simp; first | done | with_reducible rfl) ?_)
  refine wpW_make _ (fun g => .slice (some ⟨g, 0, none⟩) 0 0) rfl (by rfl) (fun w' => by go_simp; first | done | with_reducible rfl) ?_; simp only [Act.put, List.setIfInBounds_toArray, List.set_cons_zero, List.set_cons_succ]
  intro W2 g hx2 hg2 hG
  refine wpW_call rfl (by rfl) (fun W3 hx3 K hK => ?_)
  refine wp_lit_rt (.tmp 27) (.tmp 33) rfl g rfl (hx3.heap hG) w1.heap.size hg2 p k c (L.take k) rfl (S1.out.ext (hxw.trans (hxd.trans (hx2.trans hx3)))) (by omega) ?_
  intro v4 W4 ho4 hx4
  refine hK _ _ hx4 ?_
  clear hK K
  simp only [Act.put, List.setIfInBounds_toArray, List.set_cons_zero, List.set_cons_succ]
  refine wpW_make _ (fun g => .slice (some ⟨g, 0, none⟩) 1 1) rfl (by rfl) (fun w' => by go_simp; first | done | with_reducible rfl) ?_; simp only [Act.put, List.setIfInBounds_toArray, List.set_cons_zero, List.set_cons_succ]
  intro W5 g5 hx5 hg5 hG5
  have ho5 := ho4.ext hx5
  have hx15 : Ext w1 W5 := hxd.trans (hx2.trans (hx3.trans (hx4.trans hx5)))
  refine wpW_last rfl (by rfl) (fun K hK => ?_)
  refine wp_app_rt (.tmp 34) (.tmp 36) rfl w1.heap.size v4 (L.take k) [r] rfl ho5 (some ⟨g5, 0, none⟩) 1 1 rfl (rd_lit hG5) (by rw [List.length_take]; omega) hx15.size ?_
  intro v6 W6 ho6 hg6 hat6
  have hn6 := Tri.grown_extN ho5 (Nat.le_refl _) hg6
  refine hK _ _ hn6 ?_
  clear hK K
  simp only [Act.put, List.setIfInBounds_toArray, List.set_cons_zero, List.set_cons_succ]
  (refine wpW_read (v := ?_) rfl (by rfl) ?_ ?_; rotate_left; (focus (intro w' hx; go_simp; first | done | with_reducible rfl)); simp only [Act.put, List.setIfInBounds_toArray, List.set_cons_zero, List.set_cons_succ])
  refine wpW_done ?_
  have hx16 : Ext w1 W6 := ExtN.ext hx15 hn6 (Nat.le_refl _)
  have HO6 : Hid (OwnR W6 w1.heap.size v6 (L.take k ++ [r])) := ho6
  clear x0 t0 t1 t2 t3 t4 t5 hG hG5 hg2 hg5 hx2 hx3 hx4 hx5 hxd ho4 ho5 hx15 hn6 hg6 ho6 hat6
  have v16 : W6.cell? ⟨xb, 0, none⟩ = some (.slice p L.length c) := top_cell (hx16.heap HX1.out)
  go_wp2_with (at_builtin; refine wpList_want rfl (fun K hK => wp_app_rt (.tmp 42) (.tmp 48) rfl w1.heap.size v6 (L.take k ++ [r]) (L.drop (k + 1)) rfl HO6.out p2' (L.length - (k + 1)) (c - (k + 1)) rfl (S2.out.ext (hxw.trans hx16)) (by rw [List.length_append, List.length_take, List.length_cons, List.length_nil]; omega) hx16.size ?_); intro v8 W8 ho8 hg8 hat8; have hN8 := Tri.grown_extN HO6.out (Nat.le_refl _) hg8; have hx18 : Ext w1 W8 := ExtN.ext hx16 hN8 (Nat.le_refl _); obtain ⟨p8, c8, hv8, -, -, -⟩ := ho8.slice; subst hv8; have HO8 : Hid (OwnR W8 w1.heap.size (.slice p8 ((L.take k ++ [r]) ++ L.drop (k + 1)).length c8) ((L.take k ++ [r]) ++ L.drop (k + 1))) := ho8; have e0 : W8.cell? ⟨xb, 0, none⟩ = some (.slice p L.length c) := (top_cell (hx18.heap HX1.out)); have f0 : W8.frozen? ⟨xb, 0, none⟩ = false := heap_frozen (hx18.heap HX1.out); clear ho8 hg8 hat8 hN8; generalize ((L.take k ++ [r]) ++ L.drop (k + 1)).length = n' at *; refine hK _ _ ?_; clear hK K)
  go_ret
  refine ⟨rfl, RibNew.from hxw ?_⟩
  exact RibNew.put HX1.out hty hx18 (HO8.out.base (Nat.zero_le _)) (fun x hx => (HO8.out.lt x hx).1)

set_option maxHeartbeats 1000000 in
theorem refAdd_newI (xb : Nat) (L : List Rt) (ty : TypeId) (rest : List Value) (v : Value) (r : Rt) (w : World) (hty : ty ≠ 33) (h : RibIn ty rest w xb v L) (hl : L.length ≤ 256) (k : Nat) (hk : k ≤ L.length) (hroom : L.length < 256)
    (k0 : ∀ w, Calls Tryz.prog 71 #[(.agg #[.int .i64 r.t, .int .u32 r.a, .int .i64 r.l, .int .i64 r.i, .int .u32 r.g, .int .i64 r.m])] w fun e w' => e = .returned (.bool true) ∧ Ext w w')
    (k1 : ∀ w', Ext w w' → Calls Tryz.prog 55 #[.pointer (some ⟨xb, 0, none⟩), (.agg #[.int .i64 r.t, .int .u32 r.a, .int .i64 r.l, .int .i64 r.i, .int .u32 r.g, .int .i64 r.m])] w' fun e w2 => e = .returned (.tuple #[.int .i64 (k : Nat), .bool false]) ∧ Ext w' w2) :
    Calls Tryz.prog 53 #[.pointer (some ⟨xb, 0, none⟩), (.agg #[.int .i64 r.t, .int .u32 r.a, .int .i64 r.l, .int .i64 r.i, .int .u32 r.g, .int .i64 r.m])] w fun e w' => e = .returned (.int .i64 0) ∧ RibNew ty rest w xb v ((L.take k ++ [r]) ++ L.drop k) w' := by
  obtain ⟨hX, hO⟩ := h
  obtain ⟨p, c, hv, hc1, -, hR⟩ := hO.slice
  subst hv
  have hA : Ext w (w.alloc (.cells #[.int .i64 r.t, .int .u32 r.a, .int .i64 r.l, .int .i64 r.i, .int .u32 r.g, .int .i64 r.m] 33)) := (Ext.refl w).alloc _
  have HB : Hid _ := heap_new w (.cells #[.int .i64 r.t, .int .u32 r.a, .int .i64 r.l, .int .i64 r.i, .int .u32 r.g, .int .i64 r.m] 33)
  obtain ⟨q0, q1, q2, q3, q4, q5⟩ := box_rtE HB.out
  have p0 := q0 _ (Ext.refl _)
  have p1 := q1 _ (Ext.refl _)
  have p2 := q2 _ (Ext.refl _)
  have p3 := q3 _ (Ext.refl _)
  have p4 := q4 _ (Ext.refl _)
  have p5 := q5 _ (Ext.refl _)
  have HX : Hid _ := hX
  have HO : Hid (OwnR w 0 (.slice p L.length c) L) := hO
  have u1 : ∀ w, (Instr.slice 44 (.slice p L.length c) none (some (.int .i64 k)) none).run Tryz.prog w = .ok (.slice p k c) w := cut_h p L.length c k (by omega)
  have u2 : ∀ w, (Instr.slice 44 (.slice p L.length c) (some (.int .i64 ((k : Int)))) none none).run Tryz.prog w = .ok (.slice (if c = k then p else p.map (·.add (k * 6))) (L.length - k) (c - k)) w := cut_l p L.length c k (by omega) hc1
  have S1 : Hid (Rd w p k c (L.take k)) := hR.h (by omega) hc1
  have S2 : Hid (Rd w (if c = k then p else p.map (·.add (k * 6))) (L.length - k) (c - k) (L.drop k)) := hR.l (by omega) hc1
  generalize (if c = k then p else p.map (·.add (k * 6))) = p2' at *
  have wr1 : IntKind.i64.wrap ((k : Int) + 1) = (k : Int) + 1 := wraps_i64 _ (by omega) (by omega)
  have hcap : (L.length : Int) < 256 := by omega
  clear hX hO hR
  go_enter Tryz.func53, Tryz.ntmps53
  go_wp2_with (first
    | (go_at_call 71; refine (k0 _).mono ?_; rintro e w0 ⟨rfl, hx0⟩; have r0 := q0 _ hx0; have r1 := q1 _ hx0; have r2 := q2 _ hx0; have r3 := q3 _ hx0; have r4 := q4 _ hx0; have r5 := q5 _ hx0)
    | (go_at_call 55; refine (k1 _ (hA.trans hx0)).mono ?_; rintro e w1 ⟨rfl, hx1⟩; have hxw := hA.trans (hx0.trans hx1); have v1 : w1.cell? ⟨xb, 0, none⟩ = some (.slice p L.length c) := (top_cell (hxw.heap HX.out))))
  have HX1 : Hid (w1.heap[xb]? = some (.cells (Value.slice p L.length c :: rest).toArray ty (0, 0))) := hxw.heap HX.out
  have HB1 : Hid (w1.heap[w.heap.size]? = some (.cells #[.int .i64 r.t, .int .u32 r.a, .int .i64 r.l, .int .i64 r.i, .int .u32 r.g, .int .i64 r.m] 33 (0, 0))) := (hx0.trans hx1).heap HB.out
  clear p0 p1 p2 p3 p4 p5 k0 k1 r0 r1 r2 r3 r4 r5 v1 q0 q1 q2 q3 q4 q5
  refine wp_region_makeN w1.heap.size w1.heap.size (Nat.le_refl _) [(1, 0), (2, 0), (3, 0), (4, 0), (5, 0), (6, 0), (8, 0), (0, 3), (9, 3), (0, 2), (7, 1), (9, 2), (10, 4), (11, 0)] (by kernel_rfl) (by kernel_rfl) rfl (by kernel_rfl) (fun _ _ _ _ _ => Iff.rfl) ?_
  have x0 : ∀ w', ExtN w1.heap.size w1.drew w' → w'.cell? ⟨xb, 0, none⟩ = some (.slice p L.length c) := fun w' h => top_cell (h.heap (heap_lt HX1.out) HX1.out)
  have hb : ∀ j w', ExtN w1.heap.size w1.drew w' → w'.cell? ⟨w.heap.size, j, none⟩ = #[.int .i64 r.t, .int .u32 r.a, .int .i64 r.l, .int .i64 r.i, .int .u32 r.g, .int .i64 r.m][j]? := fun j w' h => heap_cell (h.heap (heap_lt HB1.out) HB1.out)
  have t0 : ∀ w', ExtN w1.heap.size w1.drew w' → w'.cell? ⟨w.heap.size, 0, none⟩ = some (.int .i64 r.t) := hb 0
  have t1 : ∀ w', ExtN w1.heap.size w1.drew w' → w'.cell? ⟨w.heap.size, 1, none⟩ = some (.int .u32 r.a) := hb 1
  have t2 : ∀ w', ExtN w1.heap.size w1.drew w' → w'.cell? ⟨w.heap.size, 2, none⟩ = some (.int .i64 r.l) := hb 2
  have t3 : ∀ w', ExtN w1.heap.size w1.drew w' → w'.cell? ⟨w.heap.size, 3, none⟩ = some (.int .i64 r.i) := hb 3
  have t4 : ∀ w', ExtN w1.heap.size w1.drew w' → w'.cell? ⟨w.heap.size, 4, none⟩ = some (.int .u32 r.g) := hb 4
  have t5 : ∀ w', ExtN w1.heap.size w1.drew w' → w'.cell? ⟨w.heap.size, 5, none⟩ = some (.int .i64 r.m) := hb 5
  have hxd : Ext w1 w1.drew := (Ext.refl w1).drew
  clear hb
  generalize w1.drew = W at *
  iterate 7 (refine wpW_read (v := ?_) rfl (by rfl) ?_ ?_; rotate_left; (focus (intro w' hx; go_simp; first | done | with_reducible rfl)); simp only [Act.put, List.setIfInBounds_toArray, List.set_cons_zero, List.set_cons_succ])
  (refine wpW_say _ (fun g => .slice (some ⟨g, 0, none⟩) 0 0) rfl (by rfl) (fun w' => by go_simp; first | done | with_reducible rfl) ?_)
  (refine wpW_say _ (fun g => .slice (some ⟨g, 0, none⟩) 1 1) rfl (by rfl) (fun w' => by go_simp; first | done | with_reducible rfl) ?_)
  refine wpW_make _ (fun g => .slice (some ⟨g, 0, none⟩) 0 0) rfl (by rfl) (fun w' => by go_simp; first | done | with_reducible rfl) ?_; simp only [Act.put, List.setIfInBounds_toArray, List.set_cons_zero, List.set_cons_succ]
  intro W2 g hx2 hg2 hG
  refine wpW_call rfl (by rfl) (fun W3 hx3 K hK => ?_)
  refine wp_lit_rt (.tmp 27) (.tmp 33) rfl g rfl (hx3.heap hG) w1.heap.size hg2 p k c (L.take k) rfl (S1.out.ext (hxw.trans (hxd.trans (hx2.trans hx3)))) (by omega) ?_
  intro v4 W4 ho4 hx4
  refine hK _ _ hx4 ?_
  clear hK K
  simp only [Act.put, List.setIfInBounds_toArray, List.set_cons_zero, List.set_cons_succ]
  refine wpW_make _ (fun g => .slice (some ⟨g, 0, none⟩) 1 1) rfl (by rfl) (fun w' => by go_simp; first | done | with_reducible rfl) ?_; simp only [Act.put, List.setIfInBounds_toArray, List.set_cons_zero, List.set_cons_succ]
  intro W5 g5 hx5 hg5 hG5
  have ho5 := ho4.ext hx5
  have hx15 : Ext w1 W5 := hxd.trans (hx2.trans (hx3.trans (hx4.trans hx5)))
  refine wpW_last rfl (by rfl) (fun K hK => ?_)
  refine wp_app_rt (.tmp 34) (.tmp 36) rfl w1.heap.size v4 (L.take k) [r] rfl ho5 (some ⟨g5, 0, none⟩) 1 1 rfl (rd_lit hG5) (by rw [List.length_take]; omega) hx15.size ?_
  intro v6 W6 ho6 hg6 hat6
  have hn6 := Tri.grown_extN ho5 (Nat.le_refl _) hg6
  refine hK _ _ hn6 ?_
  clear hK K
  simp only [Act.put, List.setIfInBounds_toArray, List.set_cons_zero, List.set_cons_succ]
  (refine wpW_read (v := ?_) rfl (by rfl) ?_ ?_; rotate_left; (focus (intro w' hx; go_simp; first | done | with_reducible rfl)); simp only [Act.put, List.setIfInBounds_toArray, List.set_cons_zero, List.set_cons_succ])
  refine wpW_done ?_
  have hx16 : Ext w1 W6 := ExtN.ext hx15 hn6 (Nat.le_refl _)
  have HO6 : Hid (OwnR W6 w1.heap.size v6 (L.take k ++ [r])) := ho6
  clear x0 t0 t1 t2 t3 t4 t5 hG hG5 hg2 hg5 hx2 hx3 hx4 hx5 hxd ho4 ho5 hx15 hn6 hg6 ho6 hat6
  have v16 : W6.cell? ⟨xb, 0, none⟩ = some (.slice p L.length c) := top_cell (hx16.heap HX1.out)
  go_wp2_with (at_builtin; refine wpList_want rfl (fun K hK => wp_app_rt (.tmp 42) (.tmp 48) rfl w1.heap.size v6 (L.take k ++ [r]) (L.drop k) rfl HO6.out p2' (L.length - k) (c - k) rfl (S2.out.ext (hxw.trans hx16)) (by rw [List.length_append, List.length_take, List.length_cons, List.length_nil]; omega) hx16.size ?_); intro v8 W8 ho8 hg8 hat8; have hN8 := Tri.grown_extN HO6.out (Nat.le_refl _) hg8; have hx18 : Ext w1 W8 := ExtN.ext hx16 hN8 (Nat.le_refl _); obtain ⟨p8, c8, hv8, -, -, -⟩ := ho8.slice; subst hv8; have HO8 : Hid (OwnR W8 w1.heap.size (.slice p8 ((L.take k ++ [r]) ++ L.drop k).length c8) ((L.take k ++ [r]) ++ L.drop k)) := ho8; have e0 : W8.cell? ⟨xb, 0, none⟩ = some (.slice p L.length c) := (top_cell (hx18.heap HX1.out)); have f0 : W8.frozen? ⟨xb, 0, none⟩ = false := heap_frozen (hx18.heap HX1.out); clear ho8 hg8 hat8 hN8; generalize ((L.take k ++ [r]) ++ L.drop k).length = n' at *; refine hK _ _ ?_; clear hK K)
  go_ret
  refine ⟨rfl, RibNew.from hxw ?_⟩
  exact RibNew.put HX1.out hty hx18 (HO8.out.base (Nat.zero_le _)) (fun x hx => (HO8.out.lt x hx).1)

theorem refAdd_in (xb : Nat) (L : List Rt) (ty : TypeId) (rest : List Value) (v : Value) (r : Rt) (w : World) (hty : ty ≠ 33) (h : RibIn ty rest w xb v L) (hl : L.length ≤ 256) (hr : RtOk r) :
    Calls Tryz.prog 53 #[.pointer (some ⟨xb, 0, none⟩), (.agg #[.int .i64 r.t, .int .u32 r.a, .int .i64 r.l, .int .i64 r.i, .int .u32 r.g, .int .i64 r.m])] w fun e w' => e = .returned (.int .i64 (addE L r)) ∧ RibNew ty rest w xb v (addS L r) w' := by
  obtain ⟨-, -, a0, a1, -⟩ := hr
  have k0 := fun w => refIs_any' r w a0 a1
  have k1 := fun w' (hx : Ext w w') => place_in xb L ty rest v r w' (h.ext hx) (by omega)
  unfold addS addE
  cases hi : isR r with
  | false =>
    simp only [Bool.false_eq_true, if_false]
    rw [hi] at k0
    have hA : Ext w (w.alloc (.cells #[.int .i64 r.t, .int .u32 r.a, .int .i64 r.l, .int .i64 r.i, .int .u32 r.g, .int .i64 r.m] 33)) := (Ext.refl w).alloc _
    obtain ⟨q0, q1, q2, q3, q4, q5⟩ := box_rtE (heap_new w (.cells #[.int .i64 r.t, .int .u32 r.a, .int .i64 r.l, .int .i64 r.i, .int .u32 r.g, .int .i64 r.m] 33))
    have p0 := q0 _ (Ext.refl _)
    have p1 := q1 _ (Ext.refl _)
    have p2 := q2 _ (Ext.refl _)
    have p3 := q3 _ (Ext.refl _)
    have p4 := q4 _ (Ext.refl _)
    have p5 := q5 _ (Ext.refl _)
    have H : Hid (RibIn ty rest w xb v L) := h
    clear h hi q0 q1 q2 q3 q4 q5 k1
    go_enter Tryz.func53, Tryz.ntmps53
    go_wp2_with (go_at_call 71; refine (k0 _).mono ?_; rintro e w1 ⟨rfl, hx1⟩)
    go_ret
    exact ⟨rfl, RibNew.same H.out (hA.trans hx1)⟩
  | true =>
    simp only [if_true]
    rw [hi] at k0
    cases hh : hereB L r with
    | true =>
      simp only [if_true]
      rw [hh] at k1
      rw [ins_cut hh]
      have := refAdd_hereI xb L ty rest v r w hty h hl (posR L r) (here_pos hh) k0 k1
      rwa [List.append_assoc, List.singleton_append] at this
    | false =>
      simp only [Bool.false_eq_true, if_false]
      rw [hh] at k1
      by_cases hf : 256 ≤ L.length
      · simp only [hf, if_true]
        have hf' : (256 : Int) ≤ (L.length : Int) := by omega
        obtain ⟨hX, hO⟩ := h
        obtain ⟨p, c, hv, hc1, -, hR⟩ := hO.slice
        subst hv
        have HX : Hid _ := hX
        have HO : Hid (OwnR w 0 (.slice p L.length c) L) := hO
        have hA : Ext w (w.alloc (.cells #[.int .i64 r.t, .int .u32 r.a, .int .i64 r.l, .int .i64 r.i, .int .u32 r.g, .int .i64 r.m] 33)) := (Ext.refl w).alloc _
        obtain ⟨q0, q1, q2, q3, q4, q5⟩ := box_rtE (heap_new w (.cells #[.int .i64 r.t, .int .u32 r.a, .int .i64 r.l, .int .i64 r.i, .int .u32 r.g, .int .i64 r.m] 33))
        have p0 := q0 _ (Ext.refl _)
        have p1 := q1 _ (Ext.refl _)
        have p2 := q2 _ (Ext.refl _)
        have p3 := q3 _ (Ext.refl _)
        have p4 := q4 _ (Ext.refl _)
        have p5 := q5 _ (Ext.refl _)
        generalize posR L r = k at *
        clear hi hX hO hR hh
        go_enter Tryz.func53, Tryz.ntmps53
        go_wp2_with (first
          | (go_at_call 71; refine (k0 _).mono ?_; rintro e w0 ⟨rfl, hx0⟩; have r0 := q0 _ hx0; have r1 := q1 _ hx0; have r2 := q2 _ hx0; have r3 := q3 _ hx0; have r4 := q4 _ hx0; have r5 := q5 _ hx0)
          | (go_at_call 55; refine (k1 _ (hA.trans hx0)).mono ?_; rintro e w1 ⟨rfl, hx1⟩; have hxw := hA.trans (hx0.trans hx1); have v1 : w1.cell? ⟨xb, 0, none⟩ = some (.slice p L.length c) := (top_cell (hxw.heap HX.out))))
        go_ret
        exact ⟨rfl, RibNew.same ⟨HX.out, HO.out⟩ hxw⟩
      · simp only [hf, if_false, if_true]
        rw [ins_new hh]
        have := refAdd_newI xb L ty rest v r w hty h hl (posR L r) (twN_le _ _) (by omega) k0 k1
        rwa [List.append_assoc, List.singleton_append] at this
end Go.Proofs.YtmoimkeeldlpkaaGreat.Rb

namespace Go.Proofs.YtmoimkeeldlpkaaGreat.Rb

set_option maxRecDepth 100000

open Go.RowKit Go.Proofs.YtmoimkeeldlpkaaGreat

set_option linter.unusedVariables false

set_option linter.unusedSimpArgs false

set_option maxHeartbeats 4000000 in
theorem refBest_in (xb : Nat) (L : List Rt) (ty : TypeId) (rest : List Value) (v : Value) (t a l : Int) (q : Option Addr) (m d : Nat) (U : List Bool) (w : World) (h : RibIn ty rest w xb v L) (hn : L.length ≤ 1000) (hU : Ups w q m U) :
    Calls Tryz.prog 58 #[.pointer (some ⟨xb, 0, none⟩), .int .i64 t, .agg #[.int .u32 a, .int .i64 l], .slice q m d] w (BestAns w (bestO L t a l U)) := by
  obtain ⟨hX, hO⟩ := h
  obtain ⟨p, c, hv, hc1, -, hR⟩ := hO.slice
  subst hv
  have hA : Ext w ((w.alloc (.cells #[.int .u32 a, .int .i64 l] 31)).alloc (.cells #[.int .i64 zeroR.t, .int .u32 zeroR.a, .int .i64 zeroR.l, .int .i64 zeroR.i, .int .u32 zeroR.g, .int .i64 zeroR.m] 33)) := ((Ext.refl w).alloc _).alloc _
  have hB1 : ((w.alloc (.cells #[.int .u32 a, .int .i64 l] 31)).alloc (.cells #[.int .i64 zeroR.t, .int .u32 zeroR.a, .int .i64 zeroR.l, .int .i64 zeroR.i, .int .u32 zeroR.g, .int .i64 zeroR.m] 33)).heap[w.heap.size]? = some (.cells #[.int .u32 a, .int .i64 l] 31 (0, 0)) :=
    (Below.heap_alloc (w.alloc (.cells #[.int .u32 a, .int .i64 l] 31)) _ w.heap.size (by simp)).trans (heap_new w _)
  have hB2 : ((w.alloc (.cells #[.int .u32 a, .int .i64 l] 31)).alloc (.cells #[.int .i64 zeroR.t, .int .u32 zeroR.a, .int .i64 zeroR.l, .int .i64 zeroR.i, .int .u32 zeroR.g, .int .i64 zeroR.m] 33)).heap[w.heap.size + 1]? = some (.cells #[.int .i64 zeroR.t, .int .u32 zeroR.a, .int .i64 zeroR.l, .int .i64 zeroR.i, .int .u32 zeroR.g, .int .i64 zeroR.m] 33 (0, 0)) := by
    have := heap_new (w.alloc (.cells #[.int .u32 a, .int .i64 l] 31)) (.cells #[.int .i64 zeroR.t, .int .u32 zeroR.a, .int .i64 zeroR.l, .int .i64 zeroR.i, .int .u32 zeroR.g, .int .i64 zeroR.m] 33)
    rwa [show (w.alloc (.cells #[.int .u32 a, .int .i64 l] 31)).heap.size = w.heap.size + 1 by simp] at this
  have x00 : ((w.alloc (.cells #[.int .u32 a, .int .i64 l] 31)).alloc (.cells #[.int .i64 zeroR.t, .int .u32 zeroR.a, .int .i64 zeroR.l, .int .i64 zeroR.i, .int .u32 zeroR.g, .int .i64 zeroR.m] 33)).cell? ⟨xb, 0, none⟩ = some (.slice p L.length c) := top_cell (hA.heap hX)
  have HA : Hid (Ext w ((w.alloc (.cells #[.int .u32 a, .int .i64 l] 31)).alloc (.cells #[.int .i64 zeroR.t, .int .u32 zeroR.a, .int .i64 zeroR.l, .int .i64 zeroR.i, .int .u32 zeroR.g, .int .i64 zeroR.m] 33))) := hA
  have HB1 : Hid _ := hB1
  have HB2 : Hid _ := hB2
  have HX : Hid _ := hX
  have HR : Hid (Rd w p L.length c L) := hR
  have HU : Hid (Ups w q m U) := hU
  have ep := fun x y w => eql_prefix x y a l w
  clear hA hB1 hB2 hX hO hR hU
  go_enter Tryz.func58, Tryz.ntmps58
  go_wp2_with fail
  clear x00
  change Code.wp Tryz.prog _ _ _ ((w.alloc (.cells #[.int .u32 a, .int .i64 l] 31)).alloc (.cells #[.int .i64 zeroR.t, .int .u32 zeroR.a, .int .i64 zeroR.l, .int .i64 zeroR.i, .int .u32 zeroR.g, .int .i64 zeroR.m] 33))
  generalize hW0 : ((w.alloc (.cells #[.int .u32 a, .int .i64 l] 31)).alloc (.cells #[.int .i64 zeroR.t, .int .u32 zeroR.a, .int .i64 zeroR.l, .int .i64 zeroR.i, .int .u32 zeroR.g, .int .i64 zeroR.m] 33)) = W0 at *
  clear hW0
  go_loopg [10, 11] L.length (fun kx s10 s11 wr => ∃ (k : Nat) (o : Option Rt) (z : Int), s11 = .int .i64 k ∧ s10 = .int .i64 z ∧ k ≤ L.length ∧ L.length - k ≤ kx ∧ Ext W0 wr ∧ Hid (o = bestO (L.take k) t a l U) ∧ Hid (Idx L o z))
  case atStart => exact ⟨0, none, -1, rfl, rfl, Nat.zero_le _, by omega, Ext.refl _, (rfl : none = bestO (L.take 0) t a l U), (.inl ⟨rfl, rfl⟩ : Idx L none (-1))⟩
  case round =>
    obtain ⟨k, o, z, rfl, rfl, hkn, hkx, hx, HO, HZ⟩ := hrel
    have vr : wr.cell? ⟨xb, 0, none⟩ = some (.slice p L.length c) := top_cell ((HA.out.trans hx).heap HX.out)
    by_cases hlt : k < L.length
    · obtain ⟨x, hxk⟩ : ∃ x, L[k]? = some x := ⟨_, List.getElem?_eq_getElem hlt⟩
      have hst := bestO_take (U := U) (t := t) (a := a) (l := l) hxk
      rw [← HO.out] at hst
      obtain ⟨b, off, rfl, hb, g0, g1, g2, g3, g4, g5⟩ := (HR.out.ext (HA.out.trans hx)).cell hxk
      have hA : Ext wr (wr.alloc (.cells #[.int .i64 x.t, .int .u32 x.a, .int .i64 x.l, .int .i64 x.i, .int .u32 x.g, .int .i64 x.m] 33)) := (Ext.refl wr).alloc _
      have hxA : Ext W0 (wr.alloc (.cells #[.int .i64 x.t, .int .u32 x.a, .int .i64 x.l, .int .i64 x.i, .int .u32 x.g, .int .i64 x.m] 33)) := hx.trans hA
      have HXK : Hid _ := hxk
      have HT : Hid _ := hst
      have hki : (k : Int) < (L.length : Int) := by omega
      have ko := fun w' (hx : Ext W0 w') => on_any x.i q m d U w' (HU.out.ext (HA.out.trans hx))
      obtain ⟨a0, a1, a2, a3, a4, a5⟩ := box_rtE (heap_new wr (.cells #[.int .i64 x.t, .int .u32 x.a, .int .i64 x.l, .int .i64 x.i, .int .u32 x.g, .int .i64 x.m] 33))
      obtain ⟨e0, e1⟩ := box2E HB1.out
      have hdd : Ext (wr.alloc (.cells #[.int .i64 x.t, .int .u32 x.a, .int .i64 x.l, .int .i64 x.i, .int .u32 x.g, .int .i64 x.m] 33)) (wr.alloc (.cells #[.int .i64 x.t, .int .u32 x.a, .int .i64 x.l, .int .i64 x.i, .int .u32 x.g, .int .i64 x.m] 33)).drew := (Ext.refl _).drew
      have x0 := fun w' h => a0 w' (hdd.trans h)
      have x1 := fun w' h => a1 w' (hdd.trans h)
      have x2 := fun w' h => a2 w' (hdd.trans h)
      have x3 := fun w' h => a3 w' (hdd.trans h)
      have x4 := fun w' h => a4 w' (hdd.trans h)
      have x5 := fun w' h => a5 w' (hdd.trans h)
      have b0 := fun w' h => e0 w' (hxA.trans (hdd.trans h))
      have b1 := fun w' h => e1 w' (hxA.trans (hdd.trans h))
      have v0 : ∀ w', Ext (wr.alloc (.cells #[.int .i64 x.t, .int .u32 x.a, .int .i64 x.l, .int .i64 x.i, .int .u32 x.g, .int .i64 x.m] 33)).drew w' → w'.cell? ⟨xb, 0, none⟩ = some (.slice (some ⟨b, off, none⟩) L.length c) := fun w' h => top_cell ((HA.out.trans (hxA.trans (hdd.trans h))).heap HX.out)
      clear a0 a1 a2 a3 a4 a5 e0 e1 hdd hst hxk
      have ex := fun w => ep x.a x.l w
      clear ep
      by_cases h1 : x.t = t
      · have h1a : (x.t == t) = true := by simpa using h1
        by_cases h2 : (x.a == a && x.l == l) = true
        · have hsel : selB t a l x = true := by
            simp only [Bool.and_eq_true, beq_iff_eq] at h2
            exact (selB_iff _ _ _ _).2 ⟨h1, h2.1, h2.2⟩
          rw [h2] at ex
          clear h1 h2
          cases hu : upB U x.i with
          | false =>
            rw [hu] at ko
            have ho : (if selB t a l x = true then stepB U o x else o) = o := by rw [if_pos hsel]; unfold stepB; rw [hu]; simp
            clear hsel hu
            go_wp2_with fail
            refine wp_region_eager [(0, false), (1, false), (2, false), (3, false), (4, false), (5, false), (6, false), (7, false), (8, false), (9, false), (10, false), (11, false), (12, false), (13, false), (14, true), (15, false), (16, false), (17, false), (18, false), (19, false), (20, false), (21, false), (22, false), (23, false), (24, false), (25, false), (26, false), (27, false), (28, true), (29, false), (30, false)] (by kernel_rfl) (by kernel_rfl) rfl (by kernel_rfl) (fun _ _ _ _ _ h => h) ?_
            have hWd : Ext W0 (wr.alloc (.cells #[.int .i64 x.t, .int .u32 x.a, .int .i64 x.l, .int .i64 x.i, .int .u32 x.g, .int .i64 x.m] 33)).drew := hxA.drew
            generalize (wr.alloc (.cells #[.int .i64 x.t, .int .u32 x.a, .int .i64 x.l, .int .i64 x.i, .int .u32 x.g, .int .i64 x.m] 33)).drew = W at *
            iterate 14 (refine wpE_read (v := ?_) rfl (by rfl) ?_ ?_; rotate_left; (focus (intro w' hx; go_simp; first | done | with_reducible rfl)); simp only [Act.put, List.setIfInBounds_toArray, List.set_cons_zero, List.set_cons_succ])
            (refine wpE_call rfl (by rfl) (fun K hK => ?_); go_simp; first
                  | (go_at_call 22; refine (ko _ hWd).mono ?_; rintro e w1 ⟨rfl, hx1⟩; refine hK _ _ hx1 ?_; clear hK K))
            iterate 2 (refine wpE_read (v := ?_) rfl (by rfl) ?_ ?_; rotate_left; (focus (intro w' hx; go_simp; first | done | with_reducible rfl)); simp only [Act.put, List.setIfInBounds_toArray, List.set_cons_zero, List.set_cons_succ])
            iterate 13 (rw [wpE_skip_eq _ rfl (by rfl)]; simp only [Act.put, List.setIfInBounds_toArray, List.set_cons_zero, List.set_cons_succ])
            iterate 1 (refine wpE_read (v := ?_) rfl (by rfl) ?_ ?_; rotate_left; (focus (intro w' hx; go_simp; first | done | with_reducible rfl)); simp only [Act.put, List.setIfInBounds_toArray, List.set_cons_zero, List.set_cons_succ])
            refine wpE_done ?_
            go_wp2_with fail
            go_roundg (L.length - (k + 1))
            case measure => omega
            case rel => exact ⟨k + 1, o, z, by go_num, rfl, by omega, Nat.le_refl _, hWd.trans hx1, (by rw [HT.out, ho] : o = bestO (L.take (k + 1)) t a l U), HZ⟩
          | true =>
            rw [hu] at ko
            rcases HZ.out with ⟨ho0, hz⟩ | ⟨j, y, hz, hj, hy, ho0⟩
            · have ho : (if selB t a l x = true then stepB U o x else o) = some x := by rw [if_pos hsel, ho0]; unfold stepB okB; rw [hu]; simp
              subst hz
              clear hsel hu ho0
              go_wp2_with fail
              refine wp_region_eager [(0, false), (1, false), (2, false), (3, false), (4, false), (5, false), (6, false), (7, false), (8, false), (9, false), (10, false), (11, false), (12, false), (13, false), (14, true), (15, false), (16, false), (17, false), (18, false), (19, false), (20, false), (21, false), (22, false), (23, false), (24, false), (25, false), (26, false), (27, false), (28, true), (29, false), (30, false)] (by kernel_rfl) (by kernel_rfl) rfl (by kernel_rfl) (fun _ _ _ _ _ h => h) ?_
              have hWd : Ext W0 (wr.alloc (.cells #[.int .i64 x.t, .int .u32 x.a, .int .i64 x.l, .int .i64 x.i, .int .u32 x.g, .int .i64 x.m] 33)).drew := hxA.drew
              generalize (wr.alloc (.cells #[.int .i64 x.t, .int .u32 x.a, .int .i64 x.l, .int .i64 x.i, .int .u32 x.g, .int .i64 x.m] 33)).drew = W at *
              iterate 14 (refine wpE_read (v := ?_) rfl (by rfl) ?_ ?_; rotate_left; (focus (intro w' hx; go_simp; first | done | with_reducible rfl)); simp only [Act.put, List.setIfInBounds_toArray, List.set_cons_zero, List.set_cons_succ])
              (refine wpE_call rfl (by rfl) (fun K hK => ?_); go_simp; first
                    | (go_at_call 22; refine (ko _ hWd).mono ?_; rintro e w1 ⟨rfl, hx1⟩; refine hK _ _ hx1 ?_; clear hK K))
              iterate 5 (refine wpE_read (v := ?_) rfl (by rfl) ?_ ?_; rotate_left; (focus (intro w' hx; go_simp; first | done | with_reducible rfl)); simp only [Act.put, List.setIfInBounds_toArray, List.set_cons_zero, List.set_cons_succ])
              iterate 9 (rw [wpE_skip_eq _ rfl (by rfl)]; simp only [Act.put, List.setIfInBounds_toArray, List.set_cons_zero, List.set_cons_succ])
              iterate 2 (refine wpE_read (v := ?_) rfl (by rfl) ?_ ?_; rotate_left; (focus (intro w' hx; go_simp; first | done | with_reducible rfl)); simp only [Act.put, List.setIfInBounds_toArray, List.set_cons_zero, List.set_cons_succ])
              refine wpE_done ?_
              go_wp2_with fail
              go_roundg (L.length - (k + 1))
              case measure => omega
              case rel => exact ⟨k + 1, some x, (k : Int), by go_num, rfl, by omega, Nat.le_refl _, hWd.trans hx1, (by rw [HT.out, ho] : some x = bestO (L.take (k + 1)) t a l U), (.inr ⟨k, x, rfl, hlt, HXK.out, rfl⟩ : Idx L (some x) (k : Int))⟩
            · have kb := fun w => refBetter_any x y w
              obtain ⟨b', off', hbo, hb', y0, y1, y2, y3, y4, y5⟩ := (HR.out.ext (HA.out.trans hxA.drew)).cell hy
              cases hbo
              have z0 : ∀ w', Ext (wr.alloc (.cells #[.int .i64 x.t, .int .u32 x.a, .int .i64 x.l, .int .i64 x.i, .int .u32 x.g, .int .i64 x.m] 33)).drew w' → w'.cell? ⟨b, off + j * 6, none⟩ = some (.int .i64 y.t) := fun w' h => by rw [h.below.cell (p := ⟨b, off + j * 6, none⟩) hb']; exact y0
              have z1 : ∀ w', Ext (wr.alloc (.cells #[.int .i64 x.t, .int .u32 x.a, .int .i64 x.l, .int .i64 x.i, .int .u32 x.g, .int .i64 x.m] 33)).drew w' → w'.cell? ⟨b, off + j * 6 + 1, none⟩ = some (.int .u32 y.a) := fun w' h => by rw [h.below.cell (p := ⟨b, off + j * 6 + 1, none⟩) hb']; exact y1
              have z2 : ∀ w', Ext (wr.alloc (.cells #[.int .i64 x.t, .int .u32 x.a, .int .i64 x.l, .int .i64 x.i, .int .u32 x.g, .int .i64 x.m] 33)).drew w' → w'.cell? ⟨b, off + j * 6 + 2, none⟩ = some (.int .i64 y.l) := fun w' h => by rw [h.below.cell (p := ⟨b, off + j * 6 + 2, none⟩) hb']; exact y2
              have z3 : ∀ w', Ext (wr.alloc (.cells #[.int .i64 x.t, .int .u32 x.a, .int .i64 x.l, .int .i64 x.i, .int .u32 x.g, .int .i64 x.m] 33)).drew w' → w'.cell? ⟨b, off + j * 6 + 3, none⟩ = some (.int .i64 y.i) := fun w' h => by rw [h.below.cell (p := ⟨b, off + j * 6 + 3, none⟩) hb']; exact y3
              have z4 : ∀ w', Ext (wr.alloc (.cells #[.int .i64 x.t, .int .u32 x.a, .int .i64 x.l, .int .i64 x.i, .int .u32 x.g, .int .i64 x.m] 33)).drew w' → w'.cell? ⟨b, off + j * 6 + 4, none⟩ = some (.int .u32 y.g) := fun w' h => by rw [h.below.cell (p := ⟨b, off + j * 6 + 4, none⟩) hb']; exact y4
              have z5 : ∀ w', Ext (wr.alloc (.cells #[.int .i64 x.t, .int .u32 x.a, .int .i64 x.l, .int .i64 x.i, .int .u32 x.g, .int .i64 x.m] 33)).drew w' → w'.cell? ⟨b, off + j * 6 + 5, none⟩ = some (.int .i64 y.m) := fun w' h => by rw [h.below.cell (p := ⟨b, off + j * 6 + 5, none⟩) hb']; exact y5
              clear y0 y1 y2 y3 y4 y5
              have hji : (j : Int) < (L.length : Int) := by omega
              subst hz
              cases hbt : betB x y with
              | false =>
                rw [hbt] at kb
                have ho : (if selB t a l x = true then stepB U o x else o) = o := by rw [if_pos hsel, ho0]; unfold stepB okB; rw [hu]; simp [hbt]
                generalize hzj : (j : Int) = z at HZ
                subst hzj
                clear hsel hu ho0 hbt
                go_wp2_with fail
                refine wp_region_eager [(0, false), (1, false), (2, false), (3, false), (4, false), (5, false), (6, false), (7, false), (8, false), (9, false), (10, false), (11, false), (12, false), (13, false), (14, true), (15, false), (16, false), (17, false), (18, false), (19, false), (20, false), (21, false), (22, false), (23, false), (24, false), (25, false), (26, false), (27, false), (28, true), (29, false), (30, false)] (by kernel_rfl) (by kernel_rfl) rfl (by kernel_rfl) (fun _ _ _ _ _ h => h) ?_
                have hWd : Ext W0 (wr.alloc (.cells #[.int .i64 x.t, .int .u32 x.a, .int .i64 x.l, .int .i64 x.i, .int .u32 x.g, .int .i64 x.m] 33)).drew := hxA.drew
                generalize (wr.alloc (.cells #[.int .i64 x.t, .int .u32 x.a, .int .i64 x.l, .int .i64 x.i, .int .u32 x.g, .int .i64 x.m] 33)).drew = W at *
                iterate 14 (refine wpE_read (v := ?_) rfl (by rfl) ?_ ?_; rotate_left; (focus (intro w' hx; go_simp; first | done | with_reducible rfl)); simp only [Act.put, List.setIfInBounds_toArray, List.set_cons_zero, List.set_cons_succ])
                (refine wpE_call rfl (by rfl) (fun K hK => ?_); go_simp; first
                      | (go_at_call 22; refine (ko _ hWd).mono ?_; rintro e w1 ⟨rfl, hx1⟩; refine hK _ _ hx1 ?_; clear hK K))
                replace v0 := fun w' h => v0 w' (hx1.trans h); replace x0 := fun w' h => x0 w' (hx1.trans h); replace x1 := fun w' h => x1 w' (hx1.trans h); replace x2 := fun w' h => x2 w' (hx1.trans h); replace x3 := fun w' h => x3 w' (hx1.trans h); replace x4 := fun w' h => x4 w' (hx1.trans h); replace x5 := fun w' h => x5 w' (hx1.trans h); replace z0 := fun w' h => z0 w' (hx1.trans h); replace z1 := fun w' h => z1 w' (hx1.trans h); replace z2 := fun w' h => z2 w' (hx1.trans h); replace z3 := fun w' h => z3 w' (hx1.trans h); replace z4 := fun w' h => z4 w' (hx1.trans h); replace z5 := fun w' h => z5 w' (hx1.trans h)
                iterate 13 (refine wpE_read (v := ?_) rfl (by rfl) ?_ ?_; rotate_left; (focus (intro w' hx; go_simp; first | done | with_reducible rfl)); simp only [Act.put, List.setIfInBounds_toArray, List.set_cons_zero, List.set_cons_succ])
                (refine wpE_call rfl (by rfl) (fun K hK => ?_); go_simp; first
                      | (go_at_call 29; refine (kb _).mono ?_; rintro e w2 ⟨rfl, hx2⟩; refine hK _ _ hx2 ?_; clear hK K))
                iterate 2 (refine wpE_read (v := ?_) rfl (by rfl) ?_ ?_; rotate_left; (focus (intro w' hx; go_simp; first | done | with_reducible rfl)); simp only [Act.put, List.setIfInBounds_toArray, List.set_cons_zero, List.set_cons_succ])
                refine wpE_done ?_
                go_wp2_with fail
                go_roundg (L.length - (k + 1))
                case measure => omega
                case rel => exact ⟨k + 1, o, (j : Int), by go_num, rfl, by omega, Nat.le_refl _, (hWd.trans hx1).trans hx2, (by rw [HT.out, ho] : o = bestO (L.take (k + 1)) t a l U), HZ⟩
              | true =>
                rw [hbt] at kb
                have ho : (if selB t a l x = true then stepB U o x else o) = some x := by rw [if_pos hsel, ho0]; unfold stepB okB; rw [hu]; simp [hbt]
                clear hsel hu ho0 hbt
                go_wp2_with fail
                refine wp_region_eager [(0, false), (1, false), (2, false), (3, false), (4, false), (5, false), (6, false), (7, false), (8, false), (9, false), (10, false), (11, false), (12, false), (13, false), (14, true), (15, false), (16, false), (17, false), (18, false), (19, false), (20, false), (21, false), (22, false), (23, false), (24, false), (25, false), (26, false), (27, false), (28, true), (29, false), (30, false)] (by kernel_rfl) (by kernel_rfl) rfl (by kernel_rfl) (fun _ _ _ _ _ h => h) ?_
                have hWd : Ext W0 (wr.alloc (.cells #[.int .i64 x.t, .int .u32 x.a, .int .i64 x.l, .int .i64 x.i, .int .u32 x.g, .int .i64 x.m] 33)).drew := hxA.drew
                generalize (wr.alloc (.cells #[.int .i64 x.t, .int .u32 x.a, .int .i64 x.l, .int .i64 x.i, .int .u32 x.g, .int .i64 x.m] 33)).drew = W at *
                iterate 14 (refine wpE_read (v := ?_) rfl (by rfl) ?_ ?_; rotate_left; (focus (intro w' hx; go_simp; first | done | with_reducible rfl)); simp only [Act.put, List.setIfInBounds_toArray, List.set_cons_zero, List.set_cons_succ])
                (refine wpE_call rfl (by rfl) (fun K hK => ?_); go_simp; first
                      | (go_at_call 22; refine (ko _ hWd).mono ?_; rintro e w1 ⟨rfl, hx1⟩; refine hK _ _ hx1 ?_; clear hK K))
                replace v0 := fun w' h => v0 w' (hx1.trans h); replace x0 := fun w' h => x0 w' (hx1.trans h); replace x1 := fun w' h => x1 w' (hx1.trans h); replace x2 := fun w' h => x2 w' (hx1.trans h); replace x3 := fun w' h => x3 w' (hx1.trans h); replace x4 := fun w' h => x4 w' (hx1.trans h); replace x5 := fun w' h => x5 w' (hx1.trans h); replace z0 := fun w' h => z0 w' (hx1.trans h); replace z1 := fun w' h => z1 w' (hx1.trans h); replace z2 := fun w' h => z2 w' (hx1.trans h); replace z3 := fun w' h => z3 w' (hx1.trans h); replace z4 := fun w' h => z4 w' (hx1.trans h); replace z5 := fun w' h => z5 w' (hx1.trans h)
                iterate 13 (refine wpE_read (v := ?_) rfl (by rfl) ?_ ?_; rotate_left; (focus (intro w' hx; go_simp; first | done | with_reducible rfl)); simp only [Act.put, List.setIfInBounds_toArray, List.set_cons_zero, List.set_cons_succ])
                (refine wpE_call rfl (by rfl) (fun K hK => ?_); go_simp; first
                      | (go_at_call 29; refine (kb _).mono ?_; rintro e w2 ⟨rfl, hx2⟩; refine hK _ _ hx2 ?_; clear hK K))
                iterate 2 (refine wpE_read (v := ?_) rfl (by rfl) ?_ ?_; rotate_left; (focus (intro w' hx; go_simp; first | done | with_reducible rfl)); simp only [Act.put, List.setIfInBounds_toArray, List.set_cons_zero, List.set_cons_succ])
                refine wpE_done ?_
                go_wp2_with fail
                go_roundg (L.length - (k + 1))
                case measure => omega
                case rel => exact ⟨k + 1, some x, (k : Int), by go_num, rfl, by omega, Nat.le_refl _, (hWd.trans hx1).trans hx2, (by rw [HT.out, ho] : some x = bestO (L.take (k + 1)) t a l U), (.inr ⟨k, x, rfl, hlt, HXK.out, rfl⟩ : Idx L (some x) (k : Int))⟩
        · have h2' : (x.a == a && x.l == l) = false := by simpa using h2
          have hsel : ¬ selB t a l x = true := fun e => h2 (by obtain ⟨_, e2, e3⟩ := (selB_iff _ _ _ _).1 e; simp [e2, e3])
          have ho : (if selB t a l x = true then stepB U o x else o) = o := by rw [if_neg hsel]
          rw [h2'] at ex
          clear h1 h2 h2' hsel
          go_wp2_with fail
          refine wp_region_eager [(0, false), (1, false), (2, false), (3, false), (4, false), (5, false), (6, false), (7, false), (8, false), (9, false), (10, false), (11, false), (12, false), (13, false), (14, true), (15, false), (16, false), (17, false), (18, false), (19, false), (20, false), (21, false), (22, false), (23, false), (24, false), (25, false), (26, false), (27, false), (28, true), (29, false), (30, false)] (by kernel_rfl) (by kernel_rfl) rfl (by kernel_rfl) (fun _ _ _ _ _ h => h) ?_
          have hWd : Ext W0 (wr.alloc (.cells #[.int .i64 x.t, .int .u32 x.a, .int .i64 x.l, .int .i64 x.i, .int .u32 x.g, .int .i64 x.m] 33)).drew := hxA.drew
          generalize (wr.alloc (.cells #[.int .i64 x.t, .int .u32 x.a, .int .i64 x.l, .int .i64 x.i, .int .u32 x.g, .int .i64 x.m] 33)).drew = W at *
          iterate 11 (refine wpE_read (v := ?_) rfl (by rfl) ?_ ?_; rotate_left; (focus (intro w' hx; go_simp; first | done | with_reducible rfl)); simp only [Act.put, List.setIfInBounds_toArray, List.set_cons_zero, List.set_cons_succ])
          iterate 4 (rw [wpE_skip_eq _ rfl (by rfl)]; simp only [Act.put, List.setIfInBounds_toArray, List.set_cons_zero, List.set_cons_succ])
          iterate 2 (refine wpE_read (v := ?_) rfl (by rfl) ?_ ?_; rotate_left; (focus (intro w' hx; go_simp; first | done | with_reducible rfl)); simp only [Act.put, List.setIfInBounds_toArray, List.set_cons_zero, List.set_cons_succ])
          iterate 13 (rw [wpE_skip_eq _ rfl (by rfl)]; simp only [Act.put, List.setIfInBounds_toArray, List.set_cons_zero, List.set_cons_succ])
          iterate 1 (refine wpE_read (v := ?_) rfl (by rfl) ?_ ?_; rotate_left; (focus (intro w' hx; go_simp; first | done | with_reducible rfl)); simp only [Act.put, List.setIfInBounds_toArray, List.set_cons_zero, List.set_cons_succ])
          refine wpE_done ?_
          go_wp2_with fail
          go_roundg (L.length - (k + 1))
          case measure => omega
          case rel => exact ⟨k + 1, o, z, by go_num, rfl, by omega, Nat.le_refl _, hWd, (by rw [HT.out, ho] : o = bestO (L.take (k + 1)) t a l U), HZ⟩
      · have h1a : (x.t == t) = false := by simpa using h1
        have hsel : ¬ selB t a l x = true := fun e => h1 ((selB_iff _ _ _ _).1 e).1
        have ho : (if selB t a l x = true then stepB U o x else o) = o := by rw [if_neg hsel]
        clear hsel
        go_wp2_with fail
        refine wp_region_eager [(0, false), (1, false), (2, false), (3, false), (4, false), (5, false), (6, false), (7, false), (8, false), (9, false), (10, false), (11, false), (12, false), (13, false), (14, true), (15, false), (16, false), (17, false), (18, false), (19, false), (20, false), (21, false), (22, false), (23, false), (24, false), (25, false), (26, false), (27, false), (28, true), (29, false), (30, false)] (by kernel_rfl) (by kernel_rfl) rfl (by kernel_rfl) (fun _ _ _ _ _ h => h) ?_
        have hWd : Ext W0 (wr.alloc (.cells #[.int .i64 x.t, .int .u32 x.a, .int .i64 x.l, .int .i64 x.i, .int .u32 x.g, .int .i64 x.m] 33)).drew := hxA.drew
        generalize (wr.alloc (.cells #[.int .i64 x.t, .int .u32 x.a, .int .i64 x.l, .int .i64 x.i, .int .u32 x.g, .int .i64 x.m] 33)).drew = W at *
        iterate 5 (refine wpE_read (v := ?_) rfl (by rfl) ?_ ?_; rotate_left; (focus (intro w' hx; go_simp; first | done | with_reducible rfl)); simp only [Act.put, List.setIfInBounds_toArray, List.set_cons_zero, List.set_cons_succ])
        iterate 4 (rw [wpE_skip_eq _ rfl (by rfl)]; simp only [Act.put, List.setIfInBounds_toArray, List.set_cons_zero, List.set_cons_succ])
        iterate 2 (refine wpE_read (v := ?_) rfl (by rfl) ?_ ?_; rotate_left; (focus (intro w' hx; go_simp; first | done | with_reducible rfl)); simp only [Act.put, List.setIfInBounds_toArray, List.set_cons_zero, List.set_cons_succ])
        iterate 4 (rw [wpE_skip_eq _ rfl (by rfl)]; simp only [Act.put, List.setIfInBounds_toArray, List.set_cons_zero, List.set_cons_succ])
        iterate 2 (refine wpE_read (v := ?_) rfl (by rfl) ?_ ?_; rotate_left; (focus (intro w' hx; go_simp; first | done | with_reducible rfl)); simp only [Act.put, List.setIfInBounds_toArray, List.set_cons_zero, List.set_cons_succ])
        iterate 13 (rw [wpE_skip_eq _ rfl (by rfl)]; simp only [Act.put, List.setIfInBounds_toArray, List.set_cons_zero, List.set_cons_succ])
        iterate 1 (refine wpE_read (v := ?_) rfl (by rfl) ?_ ?_; rotate_left; (focus (intro w' hx; go_simp; first | done | with_reducible rfl)); simp only [Act.put, List.setIfInBounds_toArray, List.set_cons_zero, List.set_cons_succ])
        refine wpE_done ?_
        go_wp2_with fail
        go_roundg (L.length - (k + 1))
        case measure => omega
        case rel => exact ⟨k + 1, o, z, by go_num, rfl, by omega, Nat.le_refl _, hWd, (by rw [HT.out, ho] : o = bestO (L.take (k + 1)) t a l U), HZ⟩
    · obtain rfl : k = L.length := by omega
      have hE := HA.out.trans hx
      have HOo : Hid (o = bestO L t a l U) := by show o = _; rw [HO.out, List.take_length]
      clear HO ep
      rcases HZ.out with ⟨ho0, hz⟩ | ⟨j, y, hz, hj, hy, ho0⟩
      · subst hz
        go_wp2_with (refine wpl_store (by rfl) 33 _ _ rfl rfl 6 (w.heap.size + 1) #[.int .i64 zeroR.t, .int .u32 zeroR.a, .int .i64 zeroR.l, .int .i64 zeroR.i, .int .u32 zeroR.g, .int .i64 zeroR.m] _ _ rfl rfl (hx.heap HB2.out) rt_size rfl rfl (by simp [Value.oneCell']) ?_; intro w5 hx5 k5)
        refine bodyPost_ret (results_two Tryz.results58 _ rfl k5 Tryz.underlying33 rfl rt_size) rfl ?_
        rw [← HOo.out, ho0]
        exact ⟨rfl, ExtX.ext hE hx5 (by omega)⟩
      · subst hz
        obtain ⟨b, off, rfl, hb, g0, g1, g2, g3, g4, g5⟩ := (HR.out.ext hE).cell hy
        have hji : (j : Int) < (L.length : Int) := by omega
        go_wp2_with (refine wpl_store (by rfl) 33 _ _ rfl rfl 6 (w.heap.size + 1) #[.int .i64 y.t, .int .u32 y.a, .int .i64 y.l, .int .i64 y.i, .int .u32 y.g, .int .i64 y.m] _ _ rfl rfl (hx.heap HB2.out) rt_size rfl rfl (by simp [Value.oneCell']) ?_; intro w5 hx5 k5)
        refine bodyPost_ret (results_two Tryz.results58 _ rfl k5 Tryz.underlying33 rfl rt_size) rfl ?_
        rw [← HOo.out, ho0]
        exact ⟨rfl, ExtX.ext hE hx5 (by omega)⟩
end Go.Proofs.YtmoimkeeldlpkaaGreat.Rb
