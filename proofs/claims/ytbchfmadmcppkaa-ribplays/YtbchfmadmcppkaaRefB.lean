/- The document's Add and Del. -/
import Derived.Test.YtbchfmadmcppkaaRefA
import Derived.Test.YtbchfmadmcppkaaMake
namespace Go.Proofs.Ytbchfmadmcppkaa.Rb
set_option maxRecDepth 100000
open Go.RowKit Go.Proofs.Ytbchfmadmcppkaa
set_option linter.unusedVariables false
set_option linter.unusedSimpArgs false

theorem Rd.h {w : World} {p : Option Addr} {n c : Nat} {L : List Rt} (h : Rd w p n c L) {k : Nat} (hk : k ≤ n) (hc : n ≤ c) : Rd w p k c (L.take k) := by
  unfold Rd
  rw [← rtCs_take]
  exact Tri.Src.take h hk

theorem Rd.l {w : World} {p : Option Addr} {n c : Nat} {L : List Rt} (h : Rd w p n c L) {k : Nat} (hk : k ≤ n) (hc : n ≤ c) : Rd w (if c = k then p else p.map (·.add (k * 6))) (n - k) (c - k) (L.drop k) := by
  have := h.cut hk (Nat.le_refl n) hc
  rwa [List.take_of_length_le (by rw [List.length_drop, h.len]; omega)] at this

theorem rd_rt {w : World} {g : Nat} {r : Rt} (h : w.heap[g]? = some (.cells #[.int .i64 r.t, .int .u32 r.a, .int .i64 r.l, .int .i64 r.i, .int .u32 r.g, .int .i64 r.m] 27 (0, 0))) : Rd w (some ⟨g, 0, none⟩) 1 1 [r] := rd_lit h

set_option maxHeartbeats 1000000 in
theorem refDel_here (xb : Nat) (L : List Rt) (F : List Nat) (r : Rt) (w : World) (h : RibAt 36 w xb L F) (hl : L.length ≤ 1000) (hh : hereB L r = true) :
    Calls Try.prog 28 #[.pointer (some ⟨xb, 0, none⟩), (.agg #[.int .i64 r.t, .int .u32 r.a, .int .i64 r.l, .int .i64 r.i, .int .u32 r.g, .int .i64 r.m])] w fun e w' => e = .returned (.int .i64 0) ∧ RibAns 36 w xb F (delR L r) w' := by
  have k1 := fun w' (hx : Ext w w') => place_any xb L F r w' (h.ext hx) (by omega)
  rw [hh] at k1
  have hd := del_here hh
  have hlt := here_pos hh
  generalize posR L r = k at *
  obtain ⟨v, rfl, hX, hO⟩ := h
  obtain ⟨p, c, hv, hc1, -, hR⟩ := hO.slice
  have hA : Ext w (w.alloc (.cells #[.int .i64 r.t, .int .u32 r.a, .int .i64 r.l, .int .i64 r.i, .int .u32 r.g, .int .i64 r.m] 27)) := (Ext.refl w).alloc _
  obtain ⟨q0, q1, q2, q3, q4, q5⟩ := box_rtE (heap_new w (.cells #[.int .i64 r.t, .int .u32 r.a, .int .i64 r.l, .int .i64 r.i, .int .u32 r.g, .int .i64 r.m] 27))
  have p0 := q0 _ (Ext.refl _)
  have p1 := q1 _ (Ext.refl _)
  have p2 := q2 _ (Ext.refl _)
  have p3 := q3 _ (Ext.refl _)
  have p4 := q4 _ (Ext.refl _)
  have p5 := q5 _ (Ext.refl _)
  have HX : Hid _ := hX
  have HO : Hid (OwnR w 0 v L) := hO
  have HD : Hid _ := hd
  have u1 : ∀ w, (Instr.slice 33 v none (some (.int .i64 k)) none).run Try.prog w = .ok (.slice p k c) w := by rw [hv]; exact cut_h p L.length c k (by omega)
  have u2 : ∀ w, (Instr.slice 33 v (some (.int .i64 (k + 1))) none none).run Try.prog w = .ok (.slice (if c = k + 1 then p else p.map (·.add ((k + 1) * 6))) (L.length - (k + 1)) (c - (k + 1))) w := by
    rw [hv]
    exact cut_l p L.length c (k + 1) (by omega) hc1
  have S1 : Hid (Rd w p k c (L.take k)) := hR.h (by omega) hc1
  have S2 : Hid (Rd w (if c = k + 1 then p else p.map (·.add ((k + 1) * 6))) (L.length - (k + 1)) (c - (k + 1)) (L.drop (k + 1))) := hR.l (by omega) hc1
  generalize (if c = k + 1 then p else p.map (·.add ((k + 1) * 6))) = p2' at *
  have wr1 : IntKind.i64.wrap ((k : Int) + 1) = (k : Int) + 1 := wraps_i64 _ (by omega) (by omega)
  clear hX hO hR hd hh q0 q1 q2 q3 q4 q5 hv
  go_enter Try.func28, Try.ntmps28
  go_wp2_with (go_at_call 43; refine (k1 _ hA).mono ?_; rintro e w1 ⟨rfl, hx1⟩)
  have hxw : Ext w w1 := hA.trans hx1
  have HX1 : Hid (w1.heap[xb]? = some (.cells #[v] 36 (0, 0))) := hxw.heap HX.out
  clear p0 p1 p2 p3 p4 p5 k1
  refine wp_region_tailMR (ExtN w1.heap.size) (ExtN.refl _) (fun _ _ _ h k => h.trans k) [] [19] [[0, 17, 18, 19], [2, 3, 4, 5, 7, 8, 16, 17, 18, 19], [3, 4, 5, 7, 8, 16, 17, 18, 19], [4, 5, 7, 8, 16, 17, 18, 19], [5, 7, 8, 16, 17, 18, 19], [6, 7, 8, 16, 17, 18, 19], [7, 8, 16, 17, 18, 19], [9, 10, 11, 12, 15, 16, 17, 18, 19], [10, 11, 12, 15, 16, 17, 18, 19], [11, 12, 15, 16, 17, 18, 19], [12, 15, 16, 17, 18, 19], [13, 14, 15, 16, 17, 18, 19], [14, 15, 16, 17, 18, 19], [15, 16, 17, 18, 19], [], [], [], [17, 18, 19], [18, 19]] [(0, false), (2, false), (3, false), (4, false), (5, false), (6, false), (7, false), (9, false), (10, false), (11, false), (12, false), (13, false), (14, false), (15, false), (1, true), (8, true), (16, true), (17, false), (18, false)] (by kernel_rfl) (by kernel_rfl) rfl (by kernel_rfl) (fun _ _ _ _ _ h => h) ?_
  refine wpM_done ?_
  have hxdp : Ext w1 w1.drew := (Ext.refl w1).drew
  have xxp : ∀ w', ExtN w1.heap.size w1.drew w' → w'.cell? ⟨xb, 0, none⟩ = some v := fun w' h => by rw [heap_cell (h.heap (heap_lt HX1.out) HX1.out)]; rfl
  generalize w1.drew = Wp at *
  iterate 14 (refine wpE_read (v := ?_) rfl (by rfl) ?_ ?_; rotate_left; (focus (intro w' hx; go_simp; first | done | with_reducible rfl)); simp only [Act.put, List.setIfInBounds_toArray, List.set_cons_zero, List.set_cons_succ])
  clear xxp
  refine wpE_call rfl (by rfl) (fun K hK => ?_)
  go_simp
  refine hK _ _ (((Ext.refl _).alloc _).upto _) ?_
  clear hK K
  have hGp := heap_new Wp (.cells #[] 27)
  have hxGp : Ext w1 (Wp.alloc (.cells #[] 27)) := hxdp.alloc _
  refine wpE_call rfl (by rfl) (fun K hK => ?_)
  refine wp_lit_rt (.tmp 16) (.tmp 22) rfl Wp.heap.size rfl hGp w1.heap.size hxdp.size p k c (L.take k) rfl (S1.out.ext (hxw.trans hxGp)) (by omega) ?_
  intro v4 W4 ho4 hx4
  refine hK _ _ (hx4.upto _) ?_
  clear hK K
  simp only [Act.put, List.setIfInBounds_toArray, List.set_cons_zero, List.set_cons_succ]
  have hx5 : Ext w1 W4 := hxGp.trans hx4
  refine wpE_call rfl (by rfl) (fun K hK => ?_)
  refine wp_app_rt (.tmp 23) (.tmp 30) rfl w1.heap.size v4 (L.take k) (L.drop (k + 1)) rfl ho4 p2' (L.length - (k + 1)) (c - (k + 1)) rfl (S2.out.ext (hxw.trans hx5)) (by rw [List.length_take]; omega) hx5.size ?_
  intro v6 W6 ho6 hg6 hat6
  have hN6 := Tri.grown_extN ho4 (Nat.le_refl _) hg6
  have hx6 : Ext w1 W6 := ExtN.ext hx5 hN6 (Nat.le_refl _)
  obtain ⟨p6, c6, hv6, -, -, -⟩ := ho6.slice
  subst hv6
  have HO6 : Hid (OwnR W6 w1.heap.size (.slice p6 (List.take k L ++ List.drop (k + 1) L).length c6) (List.take k L ++ List.drop (k + 1) L)) := ho6
  clear ho6 hat6 hg6 ho4 hx5 hx4 hGp hxGp hxdp
  refine hK _ _ hN6 ?_
  clear hK K hN6
  simp only [Act.put, List.setIfInBounds_toArray, List.set_cons_zero, List.set_cons_succ]
  generalize (List.take k L ++ List.drop (k + 1) L).length = n' at *
  iterate 2 (refine wpE_read (v := ?_) rfl (by rfl) ?_ ?_; rotate_left; (focus (intro w' hx; go_simp; first | done | with_reducible rfl)); simp only [Act.put, List.setIfInBounds_toArray, List.set_cons_zero, List.set_cons_succ])
  refine wpE_done ?_
  have HXe : Hid (W6.heap[xb]? = some (.cells #[v] 36 (0, 0))) := hx6.heap HX1.out
  have e0 : W6.cell? ⟨xb, 0, none⟩ = some v := by rw [heap_cell HXe.out]; rfl
  have f0 : W6.frozen? ⟨xb, 0, none⟩ = false := heap_frozen HXe.out
  iterate 1 (refine wpT_step rfl (by rfl) (fun K hK => ?_); go_simp; refine hK _ _ ?_; clear hK K)
  refine wpT_done ?_
  go_wp2_with fail
  go_ret
  refine ⟨rfl, RibAns.from hxw ?_⟩
  rw [HD.out]
  exact RibAns.put HX1.out (by decide) (HO.out.ext hxw) (hx6.toS _) (HO6.out.base (Nat.zero_le _)) (fun x hx => .inr (HO6.out.lt x hx).1)

theorem refDel_any (xb : Nat) (L : List Rt) (F : List Nat) (r : Rt) (w : World) (h : RibAt 36 w xb L F) (hl : L.length ≤ 1000) :
    Calls Try.prog 28 #[.pointer (some ⟨xb, 0, none⟩), (.agg #[.int .i64 r.t, .int .u32 r.a, .int .i64 r.l, .int .i64 r.i, .int .u32 r.g, .int .i64 r.m])] w fun e w' => e = .returned (.int .i64 (delE L r)) ∧ RibAns 36 w xb F (delS L r) w' := by
  unfold delE delS
  cases hh : hereB L r with
  | true =>
    simp only [if_true]
    exact refDel_here xb L F r w h hl hh
  | false =>
    simp only [Bool.false_eq_true, if_false]
    have k1 := fun w' (hx : Ext w w') => place_any xb L F r w' (h.ext hx) (by omega)
    rw [hh] at k1
    generalize posR L r = k at *
    have hA : Ext w (w.alloc (.cells #[.int .i64 r.t, .int .u32 r.a, .int .i64 r.l, .int .i64 r.i, .int .u32 r.g, .int .i64 r.m] 27)) := (Ext.refl w).alloc _
    obtain ⟨q0, q1, q2, q3, q4, q5⟩ := box_rtE (heap_new w (.cells #[.int .i64 r.t, .int .u32 r.a, .int .i64 r.l, .int .i64 r.i, .int .u32 r.g, .int .i64 r.m] 27))
    have p0 := q0 _ (Ext.refl _)
    have p1 := q1 _ (Ext.refl _)
    have p2 := q2 _ (Ext.refl _)
    have p3 := q3 _ (Ext.refl _)
    have p4 := q4 _ (Ext.refl _)
    have p5 := q5 _ (Ext.refl _)
    have H : Hid (RibAt 36 w xb L F) := h
    clear h hh q0 q1 q2 q3 q4 q5
    go_enter Try.func28, Try.ntmps28
    go_wp2_with (go_at_call 43; refine (k1 _ hA).mono ?_; rintro e w1 ⟨rfl, hx1⟩)
    go_ret
    exact ⟨rfl, RibAns.same H.out (hA.trans hx1)⟩

set_option maxHeartbeats 1000000 in
theorem refAdd_here (xb : Nat) (L : List Rt) (F : List Nat) (r : Rt) (w : World) (h : RibAt 36 w xb L F) (hl : L.length ≤ 256) (k : Nat) (hk : k < L.length)
    (k0 : ∀ w, Calls Try.prog 15 #[(.agg #[.int .i64 r.t, .int .u32 r.a, .int .i64 r.l, .int .i64 r.i, .int .u32 r.g, .int .i64 r.m])] w fun e w' => e = .returned (.bool true) ∧ Ext w w')
    (k1 : ∀ w', Ext w w' → Calls Try.prog 43 #[.pointer (some ⟨xb, 0, none⟩), (.agg #[.int .i64 r.t, .int .u32 r.a, .int .i64 r.l, .int .i64 r.i, .int .u32 r.g, .int .i64 r.m])] w' fun e w2 => e = .returned (.tuple #[.int .i64 (k : Nat), .bool true]) ∧ Ext w' w2) :
    Calls Try.prog 29 #[.pointer (some ⟨xb, 0, none⟩), (.agg #[.int .i64 r.t, .int .u32 r.a, .int .i64 r.l, .int .i64 r.i, .int .u32 r.g, .int .i64 r.m])] w fun e w' => e = .returned (.int .i64 0) ∧ RibAns 36 w xb F ((L.take k ++ [r]) ++ L.drop (k + 1)) w' := by
  obtain ⟨v, rfl, hX, hO⟩ := h
  obtain ⟨p, c, hv, hc1, -, hR⟩ := hO.slice
  subst hv
  have hA : Ext w (w.alloc (.cells #[.int .i64 r.t, .int .u32 r.a, .int .i64 r.l, .int .i64 r.i, .int .u32 r.g, .int .i64 r.m] 27)) := (Ext.refl w).alloc _
  have HB : Hid _ := heap_new w (.cells #[.int .i64 r.t, .int .u32 r.a, .int .i64 r.l, .int .i64 r.i, .int .u32 r.g, .int .i64 r.m] 27)
  obtain ⟨q0, q1, q2, q3, q4, q5⟩ := box_rtE HB.out
  have p0 := q0 _ (Ext.refl _)
  have p1 := q1 _ (Ext.refl _)
  have p2 := q2 _ (Ext.refl _)
  have p3 := q3 _ (Ext.refl _)
  have p4 := q4 _ (Ext.refl _)
  have p5 := q5 _ (Ext.refl _)
  have HX : Hid _ := hX
  have HO : Hid (OwnR w 0 (.slice p L.length c) L) := hO
  have u1 : ∀ w, (Instr.slice 33 (.slice p L.length c) none (some (.int .i64 k)) none).run Try.prog w = .ok (.slice p k c) w := cut_h p L.length c k (by omega)
  have u2 : ∀ w, (Instr.slice 33 (.slice p L.length c) (some (.int .i64 ((k : Int) + 1))) none none).run Try.prog w = .ok (.slice (if c = (k + 1) then p else p.map (·.add ((k + 1) * 6))) (L.length - (k + 1)) (c - (k + 1))) w := cut_l p L.length c (k + 1) (by omega) hc1
  have S1 : Hid (Rd w p k c (L.take k)) := hR.h (by omega) hc1
  have S2 : Hid (Rd w (if c = (k + 1) then p else p.map (·.add ((k + 1) * 6))) (L.length - (k + 1)) (c - (k + 1)) (L.drop (k + 1))) := hR.l (by omega) hc1
  generalize (if c = (k + 1) then p else p.map (·.add ((k + 1) * 6))) = p2' at *
  have wr1 : IntKind.i64.wrap ((k : Int) + 1) = (k : Int) + 1 := wraps_i64 _ (by omega) (by omega)
  clear hX hO hR
  go_enter Try.func29, Try.ntmps29
  go_wp2_with (first
    | (go_at_call 15; refine (k0 _).mono ?_; rintro e w0 ⟨rfl, hx0⟩; have r0 := q0 _ hx0; have r1 := q1 _ hx0; have r2 := q2 _ hx0; have r3 := q3 _ hx0; have r4 := q4 _ hx0; have r5 := q5 _ hx0)
    | (go_at_call 43; refine (k1 _ (hA.trans hx0)).mono ?_; rintro e w1 ⟨rfl, hx1⟩; have hxw := hA.trans (hx0.trans hx1); have v1 : w1.cell? ⟨xb, 0, none⟩ = some (.slice p L.length c) := (by rw [heap_cell (hxw.heap HX.out)]; rfl)))
  have HX1 : Hid (w1.heap[xb]? = some (.cells #[.slice p L.length c] 36 (0, 0))) := hxw.heap HX.out
  have HB1 : Hid (w1.heap[w.heap.size]? = some (.cells #[.int .i64 r.t, .int .u32 r.a, .int .i64 r.l, .int .i64 r.i, .int .u32 r.g, .int .i64 r.m] 27 (0, 0))) := (hx0.trans hx1).heap HB.out
  clear p0 p1 p2 p3 p4 p5 k0 k1 r0 r1 r2 r3 r4 r5 v1 q0 q1 q2 q3 q4 q5
  refine wp_region_makeN w1.heap.size w1.heap.size (Nat.le_refl _) [(1, 0), (2, 0), (3, 0), (4, 0), (5, 0), (6, 0), (8, 0), (0, 3), (9, 3), (0, 2), (7, 1), (9, 2), (10, 4), (11, 0)] (by kernel_rfl) (by kernel_rfl) rfl (by kernel_rfl) (fun _ _ _ _ _ => Iff.rfl) ?_
  have x0 : ∀ w', ExtN w1.heap.size w1.drew w' → w'.cell? ⟨xb, 0, none⟩ = some (.slice p L.length c) := fun w' h => by rw [heap_cell (h.heap (heap_lt HX1.out) HX1.out)]; rfl
  have hb : ∀ j w', ExtN w1.heap.size w1.drew w' → w'.cell? ⟨w.heap.size, j, none⟩ = #[.int .i64 r.t, .int .u32 r.a, .int .i64 r.l, .int .i64 r.i, .int .u32 r.g, .int .i64 r.m][j]? := fun j w' h => heap_cell (h.heap (heap_lt HB1.out) HB1.out)
  have t0 : ∀ w', ExtN w1.heap.size w1.drew w' → w'.cell? ⟨w.heap.size, 0, none⟩ = some (.int .i64 r.t) := hb 0
  have t1 : ∀ w', ExtN w1.heap.size w1.drew w' → w'.cell? ⟨w.heap.size, 1, none⟩ = some (.int .u32 r.a) := hb 1
  have t2 : ∀ w', ExtN w1.heap.size w1.drew w' → w'.cell? ⟨w.heap.size, 2, none⟩ = some (.int .i64 r.l) := hb 2
  have t3 : ∀ w', ExtN w1.heap.size w1.drew w' → w'.cell? ⟨w.heap.size, 3, none⟩ = some (.int .i64 r.i) := hb 3
  have t4 : ∀ w', ExtN w1.heap.size w1.drew w' → w'.cell? ⟨w.heap.size, 4, none⟩ = some (.int .u32 r.g) := hb 4
  have t5 : ∀ w', ExtN w1.heap.size w1.drew w' → w'.cell? ⟨w.heap.size, 5, none⟩ = some (.int .i64 r.m) := hb 5
  have hxd : Ext w1 w1.drew := (Ext.refl w1).drew
  clear hb
  generalize w1.drew = W at *
  iterate 7 (refine wpW_read (v := ?_) rfl (by rfl) ?_ ?_; rotate_left; (focus (intro w' hx; go_simp; first | done | with_reducible rfl)); simp only [Act.put, List.setIfInBounds_toArray, List.set_cons_zero, List.set_cons_succ])
  (refine wpW_say _ (fun g => .slice (some ⟨g, 0, none⟩) 0 0) rfl (by rfl) (fun w' => by go_simp; first | done | with_reducible rfl) ?_)
  (refine wpW_say _ (fun g => .slice (some ⟨g, 0, none⟩) 1 1) rfl (by rfl) (fun w' => by go_simp; first | done | with_reducible rfl) ?_)
  refine wpW_make _ (fun g => .slice (some ⟨g, 0, none⟩) 0 0) rfl (by rfl) (fun w' => by go_simp; first | done | with_reducible rfl) ?_; simp only [Act.put, List.setIfInBounds_toArray, List.set_cons_zero, List.set_cons_succ]
  intro W2 g hx2 hg2 hG
  refine wpW_call rfl (by rfl) (fun W3 hx3 K hK => ?_)
  refine wp_lit_rt (.tmp 27) (.tmp 33) rfl g rfl (hx3.heap hG) w1.heap.size hg2 p k c (L.take k) rfl (S1.out.ext (hxw.trans (hxd.trans (hx2.trans hx3)))) (by omega) ?_
  intro v4 W4 ho4 hx4
  refine hK _ _ hx4 ?_
  clear hK K
  simp only [Act.put, List.setIfInBounds_toArray, List.set_cons_zero, List.set_cons_succ]
  refine wpW_make _ (fun g => .slice (some ⟨g, 0, none⟩) 1 1) rfl (by rfl) (fun w' => by go_simp; first | done | with_reducible rfl) ?_; simp only [Act.put, List.setIfInBounds_toArray, List.set_cons_zero, List.set_cons_succ]
  intro W5 g5 hx5 hg5 hG5
  have ho5 := ho4.ext hx5
  have hx15 : Ext w1 W5 := hxd.trans (hx2.trans (hx3.trans (hx4.trans hx5)))
  refine wpW_last rfl (by rfl) (fun K hK => ?_)
  refine wp_app_rt (.tmp 34) (.tmp 36) rfl w1.heap.size v4 (L.take k) [r] rfl ho5 (some ⟨g5, 0, none⟩) 1 1 rfl (rd_lit hG5) (by rw [List.length_take]; omega) hx15.size ?_
  intro v6 W6 ho6 hg6 hat6
  have hn6 := Tri.grown_extN ho5 (Nat.le_refl _) hg6
  refine hK _ _ hn6 ?_
  clear hK K
  simp only [Act.put, List.setIfInBounds_toArray, List.set_cons_zero, List.set_cons_succ]
  (refine wpW_read (v := ?_) rfl (by rfl) ?_ ?_; rotate_left; (focus (intro w' hx; go_simp; first | done | with_reducible rfl)); simp only [Act.put, List.setIfInBounds_toArray, List.set_cons_zero, List.set_cons_succ])
  refine wpW_done ?_
  have hx16 : Ext w1 W6 := ExtN.ext hx15 hn6 (Nat.le_refl _)
  have HO6 : Hid (OwnR W6 w1.heap.size v6 (L.take k ++ [r])) := ho6
  clear x0 t0 t1 t2 t3 t4 t5 hG hG5 hg2 hg5 hx2 hx3 hx4 hx5 hxd ho4 ho5 hx15 hn6 hg6 ho6 hat6
  have v16 : W6.cell? ⟨xb, 0, none⟩ = some (.slice p L.length c) := by rw [heap_cell (hx16.heap HX1.out)]; rfl
  go_wp2_with (at_builtin; refine wpList_want rfl (fun K hK => wp_app_rt (.tmp 42) (.tmp 48) rfl w1.heap.size v6 (L.take k ++ [r]) (L.drop (k + 1)) rfl HO6.out p2' (L.length - (k + 1)) (c - (k + 1)) rfl (S2.out.ext (hxw.trans hx16)) (by rw [List.length_append, List.length_take, List.length_cons, List.length_nil]; omega) hx16.size ?_); intro v8 W8 ho8 hg8 hat8; have hN8 := Tri.grown_extN HO6.out (Nat.le_refl _) hg8; have hx18 : Ext w1 W8 := ExtN.ext hx16 hN8 (Nat.le_refl _); obtain ⟨p8, c8, hv8, -, -, -⟩ := ho8.slice; subst hv8; have HO8 : Hid (OwnR W8 w1.heap.size (.slice p8 ((L.take k ++ [r]) ++ L.drop (k + 1)).length c8) ((L.take k ++ [r]) ++ L.drop (k + 1))) := ho8; have e0 : W8.cell? ⟨xb, 0, none⟩ = some (.slice p L.length c) := (by rw [heap_cell (hx18.heap HX1.out)]; rfl); have f0 : W8.frozen? ⟨xb, 0, none⟩ = false := heap_frozen (hx18.heap HX1.out); clear ho8 hg8 hat8 hN8; generalize ((L.take k ++ [r]) ++ L.drop (k + 1)).length = n' at *; refine hK _ _ ?_; clear hK K)
  go_ret
  refine ⟨rfl, RibAns.from hxw ?_⟩
  exact RibAns.put HX1.out (by decide) (HO.out.ext hxw) (hx18.toS _) (HO8.out.base (Nat.zero_le _)) (fun x hx => .inr (HO8.out.lt x hx).1)

set_option maxHeartbeats 1000000 in
theorem refAdd_new (xb : Nat) (L : List Rt) (F : List Nat) (r : Rt) (w : World) (h : RibAt 36 w xb L F) (hl : L.length ≤ 256) (k : Nat) (hk : k ≤ L.length) (hroom : L.length < 256)
    (k0 : ∀ w, Calls Try.prog 15 #[(.agg #[.int .i64 r.t, .int .u32 r.a, .int .i64 r.l, .int .i64 r.i, .int .u32 r.g, .int .i64 r.m])] w fun e w' => e = .returned (.bool true) ∧ Ext w w')
    (k1 : ∀ w', Ext w w' → Calls Try.prog 43 #[.pointer (some ⟨xb, 0, none⟩), (.agg #[.int .i64 r.t, .int .u32 r.a, .int .i64 r.l, .int .i64 r.i, .int .u32 r.g, .int .i64 r.m])] w' fun e w2 => e = .returned (.tuple #[.int .i64 (k : Nat), .bool false]) ∧ Ext w' w2) :
    Calls Try.prog 29 #[.pointer (some ⟨xb, 0, none⟩), (.agg #[.int .i64 r.t, .int .u32 r.a, .int .i64 r.l, .int .i64 r.i, .int .u32 r.g, .int .i64 r.m])] w fun e w' => e = .returned (.int .i64 0) ∧ RibAns 36 w xb F ((L.take k ++ [r]) ++ L.drop k) w' := by
  obtain ⟨v, rfl, hX, hO⟩ := h
  obtain ⟨p, c, hv, hc1, -, hR⟩ := hO.slice
  subst hv
  have hA : Ext w (w.alloc (.cells #[.int .i64 r.t, .int .u32 r.a, .int .i64 r.l, .int .i64 r.i, .int .u32 r.g, .int .i64 r.m] 27)) := (Ext.refl w).alloc _
  have HB : Hid _ := heap_new w (.cells #[.int .i64 r.t, .int .u32 r.a, .int .i64 r.l, .int .i64 r.i, .int .u32 r.g, .int .i64 r.m] 27)
  obtain ⟨q0, q1, q2, q3, q4, q5⟩ := box_rtE HB.out
  have p0 := q0 _ (Ext.refl _)
  have p1 := q1 _ (Ext.refl _)
  have p2 := q2 _ (Ext.refl _)
  have p3 := q3 _ (Ext.refl _)
  have p4 := q4 _ (Ext.refl _)
  have p5 := q5 _ (Ext.refl _)
  have HX : Hid _ := hX
  have HO : Hid (OwnR w 0 (.slice p L.length c) L) := hO
  have u1 : ∀ w, (Instr.slice 33 (.slice p L.length c) none (some (.int .i64 k)) none).run Try.prog w = .ok (.slice p k c) w := cut_h p L.length c k (by omega)
  have u2 : ∀ w, (Instr.slice 33 (.slice p L.length c) (some (.int .i64 ((k : Int)))) none none).run Try.prog w = .ok (.slice (if c = k then p else p.map (·.add (k * 6))) (L.length - k) (c - k)) w := cut_l p L.length c k (by omega) hc1
  have S1 : Hid (Rd w p k c (L.take k)) := hR.h (by omega) hc1
  have S2 : Hid (Rd w (if c = k then p else p.map (·.add (k * 6))) (L.length - k) (c - k) (L.drop k)) := hR.l (by omega) hc1
  generalize (if c = k then p else p.map (·.add (k * 6))) = p2' at *
  have wr1 : IntKind.i64.wrap ((k : Int) + 1) = (k : Int) + 1 := wraps_i64 _ (by omega) (by omega)
  have hcap : (L.length : Int) < 256 := by omega
  clear hX hO hR
  go_enter Try.func29, Try.ntmps29
  go_wp2_with (first
    | (go_at_call 15; refine (k0 _).mono ?_; rintro e w0 ⟨rfl, hx0⟩; have r0 := q0 _ hx0; have r1 := q1 _ hx0; have r2 := q2 _ hx0; have r3 := q3 _ hx0; have r4 := q4 _ hx0; have r5 := q5 _ hx0)
    | (go_at_call 43; refine (k1 _ (hA.trans hx0)).mono ?_; rintro e w1 ⟨rfl, hx1⟩; have hxw := hA.trans (hx0.trans hx1); have v1 : w1.cell? ⟨xb, 0, none⟩ = some (.slice p L.length c) := (by rw [heap_cell (hxw.heap HX.out)]; rfl)))
  have HX1 : Hid (w1.heap[xb]? = some (.cells #[.slice p L.length c] 36 (0, 0))) := hxw.heap HX.out
  have HB1 : Hid (w1.heap[w.heap.size]? = some (.cells #[.int .i64 r.t, .int .u32 r.a, .int .i64 r.l, .int .i64 r.i, .int .u32 r.g, .int .i64 r.m] 27 (0, 0))) := (hx0.trans hx1).heap HB.out
  clear p0 p1 p2 p3 p4 p5 k0 k1 r0 r1 r2 r3 r4 r5 v1 q0 q1 q2 q3 q4 q5
  refine wp_region_makeN w1.heap.size w1.heap.size (Nat.le_refl _) [(1, 0), (2, 0), (3, 0), (4, 0), (5, 0), (6, 0), (8, 0), (0, 3), (9, 3), (0, 2), (7, 1), (9, 2), (10, 4), (11, 0)] (by kernel_rfl) (by kernel_rfl) rfl (by kernel_rfl) (fun _ _ _ _ _ => Iff.rfl) ?_
  have x0 : ∀ w', ExtN w1.heap.size w1.drew w' → w'.cell? ⟨xb, 0, none⟩ = some (.slice p L.length c) := fun w' h => by rw [heap_cell (h.heap (heap_lt HX1.out) HX1.out)]; rfl
  have hb : ∀ j w', ExtN w1.heap.size w1.drew w' → w'.cell? ⟨w.heap.size, j, none⟩ = #[.int .i64 r.t, .int .u32 r.a, .int .i64 r.l, .int .i64 r.i, .int .u32 r.g, .int .i64 r.m][j]? := fun j w' h => heap_cell (h.heap (heap_lt HB1.out) HB1.out)
  have t0 : ∀ w', ExtN w1.heap.size w1.drew w' → w'.cell? ⟨w.heap.size, 0, none⟩ = some (.int .i64 r.t) := hb 0
  have t1 : ∀ w', ExtN w1.heap.size w1.drew w' → w'.cell? ⟨w.heap.size, 1, none⟩ = some (.int .u32 r.a) := hb 1
  have t2 : ∀ w', ExtN w1.heap.size w1.drew w' → w'.cell? ⟨w.heap.size, 2, none⟩ = some (.int .i64 r.l) := hb 2
  have t3 : ∀ w', ExtN w1.heap.size w1.drew w' → w'.cell? ⟨w.heap.size, 3, none⟩ = some (.int .i64 r.i) := hb 3
  have t4 : ∀ w', ExtN w1.heap.size w1.drew w' → w'.cell? ⟨w.heap.size, 4, none⟩ = some (.int .u32 r.g) := hb 4
  have t5 : ∀ w', ExtN w1.heap.size w1.drew w' → w'.cell? ⟨w.heap.size, 5, none⟩ = some (.int .i64 r.m) := hb 5
  have hxd : Ext w1 w1.drew := (Ext.refl w1).drew
  clear hb
  generalize w1.drew = W at *
  iterate 7 (refine wpW_read (v := ?_) rfl (by rfl) ?_ ?_; rotate_left; (focus (intro w' hx; go_simp; first | done | with_reducible rfl)); simp only [Act.put, List.setIfInBounds_toArray, List.set_cons_zero, List.set_cons_succ])
  (refine wpW_say _ (fun g => .slice (some ⟨g, 0, none⟩) 0 0) rfl (by rfl) (fun w' => by go_simp; first | done | with_reducible rfl) ?_)
  (refine wpW_say _ (fun g => .slice (some ⟨g, 0, none⟩) 1 1) rfl (by rfl) (fun w' => by go_simp; first | done | with_reducible rfl) ?_)
  refine wpW_make _ (fun g => .slice (some ⟨g, 0, none⟩) 0 0) rfl (by rfl) (fun w' => by go_simp; first | done | with_reducible rfl) ?_; simp only [Act.put, List.setIfInBounds_toArray, List.set_cons_zero, List.set_cons_succ]
  intro W2 g hx2 hg2 hG
  refine wpW_call rfl (by rfl) (fun W3 hx3 K hK => ?_)
  refine wp_lit_rt (.tmp 27) (.tmp 33) rfl g rfl (hx3.heap hG) w1.heap.size hg2 p k c (L.take k) rfl (S1.out.ext (hxw.trans (hxd.trans (hx2.trans hx3)))) (by omega) ?_
  intro v4 W4 ho4 hx4
  refine hK _ _ hx4 ?_
  clear hK K
  simp only [Act.put, List.setIfInBounds_toArray, List.set_cons_zero, List.set_cons_succ]
  refine wpW_make _ (fun g => .slice (some ⟨g, 0, none⟩) 1 1) rfl (by rfl) (fun w' => by go_simp; first | done | with_reducible rfl) ?_; simp only [Act.put, List.setIfInBounds_toArray, List.set_cons_zero, List.set_cons_succ]
  intro W5 g5 hx5 hg5 hG5
  have ho5 := ho4.ext hx5
  have hx15 : Ext w1 W5 := hxd.trans (hx2.trans (hx3.trans (hx4.trans hx5)))
  refine wpW_last rfl (by rfl) (fun K hK => ?_)
  refine wp_app_rt (.tmp 34) (.tmp 36) rfl w1.heap.size v4 (L.take k) [r] rfl ho5 (some ⟨g5, 0, none⟩) 1 1 rfl (rd_lit hG5) (by rw [List.length_take]; omega) hx15.size ?_
  intro v6 W6 ho6 hg6 hat6
  have hn6 := Tri.grown_extN ho5 (Nat.le_refl _) hg6
  refine hK _ _ hn6 ?_
  clear hK K
  simp only [Act.put, List.setIfInBounds_toArray, List.set_cons_zero, List.set_cons_succ]
  (refine wpW_read (v := ?_) rfl (by rfl) ?_ ?_; rotate_left; (focus (intro w' hx; go_simp; first | done | with_reducible rfl)); simp only [Act.put, List.setIfInBounds_toArray, List.set_cons_zero, List.set_cons_succ])
  refine wpW_done ?_
  have hx16 : Ext w1 W6 := ExtN.ext hx15 hn6 (Nat.le_refl _)
  have HO6 : Hid (OwnR W6 w1.heap.size v6 (L.take k ++ [r])) := ho6
  clear x0 t0 t1 t2 t3 t4 t5 hG hG5 hg2 hg5 hx2 hx3 hx4 hx5 hxd ho4 ho5 hx15 hn6 hg6 ho6 hat6
  have v16 : W6.cell? ⟨xb, 0, none⟩ = some (.slice p L.length c) := by rw [heap_cell (hx16.heap HX1.out)]; rfl
  go_wp2_with (at_builtin; refine wpList_want rfl (fun K hK => wp_app_rt (.tmp 42) (.tmp 48) rfl w1.heap.size v6 (L.take k ++ [r]) (L.drop k) rfl HO6.out p2' (L.length - k) (c - k) rfl (S2.out.ext (hxw.trans hx16)) (by rw [List.length_append, List.length_take, List.length_cons, List.length_nil]; omega) hx16.size ?_); intro v8 W8 ho8 hg8 hat8; have hN8 := Tri.grown_extN HO6.out (Nat.le_refl _) hg8; have hx18 : Ext w1 W8 := ExtN.ext hx16 hN8 (Nat.le_refl _); obtain ⟨p8, c8, hv8, -, -, -⟩ := ho8.slice; subst hv8; have HO8 : Hid (OwnR W8 w1.heap.size (.slice p8 ((L.take k ++ [r]) ++ L.drop k).length c8) ((L.take k ++ [r]) ++ L.drop k)) := ho8; have e0 : W8.cell? ⟨xb, 0, none⟩ = some (.slice p L.length c) := (by rw [heap_cell (hx18.heap HX1.out)]; rfl); have f0 : W8.frozen? ⟨xb, 0, none⟩ = false := heap_frozen (hx18.heap HX1.out); clear ho8 hg8 hat8 hN8; generalize ((L.take k ++ [r]) ++ L.drop k).length = n' at *; refine hK _ _ ?_; clear hK K)
  go_ret
  refine ⟨rfl, RibAns.from hxw ?_⟩
  exact RibAns.put HX1.out (by decide) (HO.out.ext hxw) (hx18.toS _) (HO8.out.base (Nat.zero_le _)) (fun x hx => .inr (HO8.out.lt x hx).1)

theorem refAdd_any (xb : Nat) (L : List Rt) (F : List Nat) (r : Rt) (w : World) (h : RibAt 36 w xb L F) (hl : L.length ≤ 256) (hr : RtOk r) :
    Calls Try.prog 29 #[.pointer (some ⟨xb, 0, none⟩), (.agg #[.int .i64 r.t, .int .u32 r.a, .int .i64 r.l, .int .i64 r.i, .int .u32 r.g, .int .i64 r.m])] w fun e w' => e = .returned (.int .i64 (addE L r)) ∧ RibAns 36 w xb F (addS L r) w' := by
  obtain ⟨-, -, a0, a1, -⟩ := hr
  have k0 := fun w => refIs_any' r w a0 a1
  have k1 := fun w' (hx : Ext w w') => place_any xb L F r w' (h.ext hx) (by omega)
  unfold addS addE
  cases hi : isR r with
  | false =>
    simp only [Bool.false_eq_true, if_false]
    rw [hi] at k0
    have hA : Ext w (w.alloc (.cells #[.int .i64 r.t, .int .u32 r.a, .int .i64 r.l, .int .i64 r.i, .int .u32 r.g, .int .i64 r.m] 27)) := (Ext.refl w).alloc _
    obtain ⟨q0, q1, q2, q3, q4, q5⟩ := box_rtE (heap_new w (.cells #[.int .i64 r.t, .int .u32 r.a, .int .i64 r.l, .int .i64 r.i, .int .u32 r.g, .int .i64 r.m] 27))
    have p0 := q0 _ (Ext.refl _)
    have p1 := q1 _ (Ext.refl _)
    have p2 := q2 _ (Ext.refl _)
    have p3 := q3 _ (Ext.refl _)
    have p4 := q4 _ (Ext.refl _)
    have p5 := q5 _ (Ext.refl _)
    have H : Hid (RibAt 36 w xb L F) := h
    clear h hi q0 q1 q2 q3 q4 q5 k1
    go_enter Try.func29, Try.ntmps29
    go_wp2_with (go_at_call 15; refine (k0 _).mono ?_; rintro e w1 ⟨rfl, hx1⟩)
    go_ret
    exact ⟨rfl, RibAns.same H.out (hA.trans hx1)⟩
  | true =>
    simp only [if_true]
    rw [hi] at k0
    cases hh : hereB L r with
    | true =>
      simp only [if_true]
      rw [hh] at k1
      rw [ins_cut hh]
      have := refAdd_here xb L F r w h hl (posR L r) (here_pos hh) k0 k1
      rwa [List.append_assoc, List.singleton_append] at this
    | false =>
      simp only [Bool.false_eq_true, if_false]
      rw [hh] at k1
      by_cases hf : 256 ≤ L.length
      · simp only [hf, if_true]
        have hf' : (256 : Int) ≤ (L.length : Int) := by omega
        obtain ⟨v, rfl, hX, hO⟩ := h
        obtain ⟨p, c, hv, hc1, -, hR⟩ := hO.slice
        subst hv
        have HX : Hid _ := hX
        have HO : Hid (OwnR w 0 (.slice p L.length c) L) := hO
        have hA : Ext w (w.alloc (.cells #[.int .i64 r.t, .int .u32 r.a, .int .i64 r.l, .int .i64 r.i, .int .u32 r.g, .int .i64 r.m] 27)) := (Ext.refl w).alloc _
        obtain ⟨q0, q1, q2, q3, q4, q5⟩ := box_rtE (heap_new w (.cells #[.int .i64 r.t, .int .u32 r.a, .int .i64 r.l, .int .i64 r.i, .int .u32 r.g, .int .i64 r.m] 27))
        have p0 := q0 _ (Ext.refl _)
        have p1 := q1 _ (Ext.refl _)
        have p2 := q2 _ (Ext.refl _)
        have p3 := q3 _ (Ext.refl _)
        have p4 := q4 _ (Ext.refl _)
        have p5 := q5 _ (Ext.refl _)
        generalize posR L r = k at *
        clear hi hX hO hR hh
        go_enter Try.func29, Try.ntmps29
        go_wp2_with (first
          | (go_at_call 15; refine (k0 _).mono ?_; rintro e w0 ⟨rfl, hx0⟩; have r0 := q0 _ hx0; have r1 := q1 _ hx0; have r2 := q2 _ hx0; have r3 := q3 _ hx0; have r4 := q4 _ hx0; have r5 := q5 _ hx0)
          | (go_at_call 43; refine (k1 _ (hA.trans hx0)).mono ?_; rintro e w1 ⟨rfl, hx1⟩; have hxw := hA.trans (hx0.trans hx1); have v1 : w1.cell? ⟨xb, 0, none⟩ = some (.slice p L.length c) := (by rw [heap_cell (hxw.heap HX.out)]; rfl)))
        go_ret
        exact ⟨rfl, RibAns.same ⟨_, rfl, HX.out, HO.out⟩ hxw⟩
      · simp only [hf, if_false, if_true]
        rw [ins_new hh]
        have := refAdd_new xb L F r w h hl (posR L r) (twN_le _ _) (by omega) k0 k1
        rwa [List.append_assoc, List.singleton_append] at this
end Go.Proofs.Ytbchfmadmcppkaa.Rb
