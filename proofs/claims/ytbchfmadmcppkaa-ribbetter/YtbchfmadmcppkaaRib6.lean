/- Add of a new way, Del. -/
import Derived.Test.YtbchfmadmcppkaaRib5
namespace Go.Proofs.Ytbchfmadmcppkaa.Rb
set_option maxRecDepth 100000
open Go.RowKit Go.Proofs.Ytbchfmadmcppkaa
set_option linter.unusedVariables false
set_option linter.unusedSimpArgs false

theorem own_ne {w : World} {B : Nat} {v : Value} {L : List Rt} {rb : Nat} {cur : Array Value} {ty : TypeId} (h : OwnR w B v L) (hX : w.heap[rb]? = some (.cells cur ty (0, 0))) (ht : ty ≠ 27) : rb ∉ blks v := fun hm => by
  obtain ⟨_, _, cur2, hc⟩ := Tri.owns_block h (mem_blks.1 hm)
  rw [hX] at hc
  cases hc
  exact ht rfl

/-- A Rib whose row is put anew. -/
theorem RibAns.put {ty : TypeId} {w W3 : World} {rb : Nat} {L L' : List Rt} {v v' : Value} (hw : w.heap[rb]? = some (.cells #[v] ty (0, 0))) (ht : ty ≠ 27) (hO : OwnR w 0 v L) (hS : ExtS (blks v) w W3) (ho : OwnR W3 0 v' L') (hb : ∀ x ∈ blks v', x ∈ blks v ∨ w.heap.size ≤ x) :
    RibAns ty w rb (rb :: blks v) L' (W3.setCell ⟨rb, 0, none⟩ v') := by
  have h1 := own_ne hO hw ht
  have h3 := hS.heap h1 hw
  have h4 := own_ne ho h3 ht
  have hx : ExtS [rb] W3 (W3.setCell ⟨rb, 0, none⟩ v') := ExtS.setCell (ExtS.refl [rb] W3) (p := ⟨rb, 0, none⟩) (.inl (by simp)) _
  refine ⟨rb :: blks v', ⟨v', rfl, ?_, ho.later hx fun g hg e => h4 (by simp only [List.mem_singleton] at e; rwa [e] at hg)⟩, ?_, fun x hx => ?_⟩
  · rw [heap_set h3]; rfl
  · refine ExtS.then (hS.mono fun b hb => by simp [hb]) hx fun b hb => .inl ?_
    simp only [List.mem_singleton] at hb
    simp [hb]
  · rcases List.mem_cons.1 hx with rfl | hx
    · exact .inl (by simp)
    · rcases hb x hx with h | h
      · exact .inl (by simp [h])
      · exact .inr h

theorem RibAns.from {ty : TypeId} {w w1 w' : World} {rb : Nat} {F : List Nat} {L' : List Rt} (hx : Ext w w1) (h : RibAns ty w1 rb F L' w') : RibAns ty w rb F L' w' := by
  obtain ⟨F', h1, h2, h3⟩ := h
  exact ⟨F', h1, ExtS.then (hx.toS F) h2 fun b hb => .inl hb, fun x hx' => (h3 x hx').imp_right fun h => Nat.le_trans hx.size h⟩

set_option maxHeartbeats 1000000 in
theorem add_new (rb : Nat) (L : List Rt) (F : List Nat) (r : Rt) (w : World) (h : RibAt 60 w rb L F) (hg : Good L) (a0 : 0 ≤ r.a) (a1 : r.a ≤ 4294967295) (hi : isR r = true) (hh : hereB L r = false) (hr : L.length < 256) :
    Calls Try.prog 25 #[.pointer (some ⟨rb, 0, none⟩), (.agg #[.int .i64 r.t, .int .u32 r.a, .int .i64 r.l, .int .i64 r.i, .int .u32 r.g, .int .i64 r.m])] w fun e w' => e = .returned (.int .i64 0) ∧ RibAns 60 w rb F (insR L r) w' := by
  have k1 := fun w => is_any' r w a0 a1
  rw [hi] at k1
  have k2 := fun w' (hx : Ext w w') => find_any rb L F r w' (h.ext hx) hg.srt (by have := hg.len; omega)
  rw [hh] at k2
  have hins := ins_new hh
  have hle : posR L r ≤ L.length := twN_le _ _
  generalize posR L r = k at *
  obtain ⟨v, rfl, hX, hO⟩ := h
  obtain ⟨p, c, rfl, hc1, -, -⟩ := hO.slice
  have hA : Ext w (w.alloc (.cells #[.int .i64 r.t, .int .u32 r.a, .int .i64 r.l, .int .i64 r.i, .int .u32 r.g, .int .i64 r.m] 27)) := (Ext.refl w).alloc _
  have HQ : Hid _ := box_rtE (heap_new w (.cells #[.int .i64 r.t, .int .u32 r.a, .int .i64 r.l, .int .i64 r.i, .int .u32 r.g, .int .i64 r.m] 27))
  have HX : Hid _ := hX
  have HO : Hid (OwnR w 0 (.slice p L.length c) L) := hO
  have HI : Hid _ := hins
  have hne := own_ne hO hX (by decide)
  have HV : Hid (∀ g ∈ blks (.slice p L.length c), 0 ≤ g ∧ g < w.heap.size) := hO.lt
  obtain ⟨q0, q1, q2, q3, q4, q5⟩ := HQ.out
  have hW : Ext (w.alloc (.cells #[.int .i64 r.t, .int .u32 r.a, .int .i64 r.l, .int .i64 r.i, .int .u32 r.g, .int .i64 r.m] 27)) (w.alloc (.cells #[.int .i64 r.t, .int .u32 r.a, .int .i64 r.l, .int .i64 r.i, .int .u32 r.g, .int .i64 r.m] 27)) := Ext.refl _
  have p0 := q0 _ hW
  have p1 := q1 _ hW
  have p2 := q2 _ hW
  have p3 := q3 _ hW
  have p4 := q4 _ hW
  have p5 := q5 _ hW
  clear hX hO hins hg hi hh hW
  go_enter Try.func25, Try.ntmps25
  have hrz : (L.length : Int) < 256 := by omega
  go_wp2_with (first
    | (go_at_call 14; refine (k1 _).mono ?_; rintro e w1 ⟨rfl, hx1⟩; have r0 := q0 _ hx1; have r1 := q1 _ hx1; have r2 := q2 _ hx1; have r3 := q3 _ hx1; have r4 := q4 _ hx1; have r5 := q5 _ hx1)
    | (go_at_call 40; refine (k2 _ (hA.trans hx1)).mono ?_; rintro e w2 ⟨rfl, hx2⟩; have hE2 := hA.trans (hx1.trans hx2); have v2 : w2.cell? ⟨rb, 0, none⟩ = some (.slice p L.length c) := (by rw [heap_cell (hE2.heap HX.out)]; rfl)))
  have hE := hE2.drew
  have hE0 := (hx1.trans hx2).drew
  clear r0 r1 r2 r3 r4 r5 p0 p1 p2 p3 p4 p5 k1 k2 v2
  refine wp_region_tailS (blks (.slice p L.length c)) [11] [[0, 9, 10, 11], [1, 2, 3, 4, 8, 9, 10, 11], [2, 3, 4, 8, 9, 10, 11], [3, 4, 8, 9, 10, 11], [4, 8, 9, 10, 11], [5, 8, 9, 10, 11], [6, 7, 8, 9, 10, 11], [], [], [9, 10, 11], [10, 11]] [(0, false), (1, false), (2, false), (3, false), (4, false), (5, false), (6, false), (7, true), (8, true), (9, false), (10, false)] (by kernel_rfl) (by kernel_rfl) rfl (by kernel_rfl) (fun _ _ _ _ _ h => h) ?_
  have hbs : w.heap.size ∉ blks (.slice p L.length c) := fun hm => by have := (HV.out _ hm).2; omega
  have x0 : ∀ w', ExtS (blks (.slice p L.length c)) w2.drew w' → w'.cell? ⟨rb, 0, none⟩ = some (.slice p L.length c) := fun w' h => by
    rw [heap_cell (h.heap hne (hE.heap HX.out))]; rfl
  have bx : w2.drew.heap[w.heap.size]? = some (.cells #[.int .i64 r.t, .int .u32 r.a, .int .i64 r.l, .int .i64 r.i, .int .u32 r.g, .int .i64 r.m] 27 (0, 0)) := hE0.heap (heap_new w _)
  have hb : ∀ k w', ExtS (blks (.slice p L.length c)) w2.drew w' → w'.cell? ⟨w.heap.size, k, none⟩ = #[.int .i64 r.t, .int .u32 r.a, .int .i64 r.l, .int .i64 r.i, .int .u32 r.g, .int .i64 r.m][k]? := fun k w' h => heap_cell (h.heap hbs bx)
  have t0 : ∀ w', ExtS (blks (.slice p L.length c)) w2.drew w' → w'.cell? ⟨w.heap.size, 0, none⟩ = some (.int .i64 r.t) := hb 0
  have t1 : ∀ w', ExtS (blks (.slice p L.length c)) w2.drew w' → w'.cell? ⟨w.heap.size, 1, none⟩ = some (.int .u32 r.a) := hb 1
  have t2 : ∀ w', ExtS (blks (.slice p L.length c)) w2.drew w' → w'.cell? ⟨w.heap.size, 2, none⟩ = some (.int .i64 r.l) := hb 2
  have t3 : ∀ w', ExtS (blks (.slice p L.length c)) w2.drew w' → w'.cell? ⟨w.heap.size, 3, none⟩ = some (.int .i64 r.i) := hb 3
  have t4 : ∀ w', ExtS (blks (.slice p L.length c)) w2.drew w' → w'.cell? ⟨w.heap.size, 4, none⟩ = some (.int .u32 r.g) := hb 4
  have t5 : ∀ w', ExtS (blks (.slice p L.length c)) w2.drew w' → w'.cell? ⟨w.heap.size, 5, none⟩ = some (.int .i64 r.m) := hb 5
  have HW : Hid (Ext w w2.drew) := hE
  clear hE hE0 hE2 hx1 hx2 q0 q1 q2 q3 q4 q5 hb bx
  generalize w2.drew = W at *
  iterate 7 (refine wpE_read (v := ?_) rfl (by rfl) ?_ ?_; rotate_left; (focus (intro w' hx; go_simp; first | done | with_reducible rfl)); simp only [Act.put, List.setIfInBounds_toArray, List.set_cons_zero, List.set_cons_succ])
  clear t0 t1 t2 t3 t4 t5 x0
  refine wpE_call rfl (by rfl) (fun K hK => ?_)
  go_simp
  refine hK _ _ (((Ext.refl W).alloc _).toS _) ?_
  clear hK K
  have hA3 : Ext w (W.alloc (.cells #[.int .i64 r.t, .int .u32 r.a, .int .i64 r.l, .int .i64 r.i, .int .u32 r.g, .int .i64 r.m] 27)) := HW.out.trans ((Ext.refl W).alloc _)
  have ci := insert_any (.slice p L.length c) L k r W.heap.size (W.alloc (.cells #[.int .i64 r.t, .int .u32 r.a, .int .i64 r.l, .int .i64 r.i, .int .u32 r.g, .int .i64 r.m] 27)) (HO.out.ext hA3) hle (by omega) (heap_new W _) (fun hm => by have := (HV.out _ hm).2; have := HW.out.size; omega)
  have HA3 : Hid (Ext w (W.alloc (.cells #[.int .i64 r.t, .int .u32 r.a, .int .i64 r.l, .int .i64 r.i, .int .u32 r.g, .int .i64 r.m] 27))) := hA3
  clear hA3
  refine wpE_call rfl (by rfl) (fun K hK => ?_)
  go_simp
  go_at_call 41
  refine ci.mono ?_
  rintro e W3 ⟨v', rfl, ho3, hS3, hb3⟩
  refine hK _ _ hS3 ?_
  clear hK K ci
  obtain ⟨p', c', hv', -, -, -⟩ := ho3.slice
  subst hv'
  have hX3 : W3.heap[rb]? = some (.cells #[.slice p L.length c] 60 (0, 0)) := hS3.heap hne (HA3.out.heap HX.out)
  have HX3 : Hid _ := hX3
  have y0 : W3.cell? ⟨rb, 0, none⟩ = some (.slice p L.length c) := by rw [heap_cell hX3]; rfl
  have y1 : W3.frozen? ⟨rb, 0, none⟩ = false := heap_frozen hX3
  have HO3 : Hid (OwnR W3 0 (.slice p' (List.take k L ++ r :: List.drop k L).length c') (List.take k L ++ r :: List.drop k L)) := ho3
  have HS3 : Hid (ExtS (blks (.slice p L.length c)) (W.alloc (.cells #[.int .i64 r.t, .int .u32 r.a, .int .i64 r.l, .int .i64 r.i, .int .u32 r.g, .int .i64 r.m] 27)) W3) := hS3
  have HB3 : Hid _ := hb3
  clear hX3 ho3 hS3 hb3
  generalize (List.take k L ++ r :: List.drop k L).length = n' at *
  iterate 2 (refine wpE_read (v := ?_) rfl (by rfl) ?_ ?_; rotate_left; (focus (intro w' hx; go_simp; first | done | with_reducible rfl)); simp only [Act.put, List.setIfInBounds_toArray, List.set_cons_zero, List.set_cons_succ])
  refine wpT_step rfl (by rfl) (fun K hK => ?_)
  go_simp
  refine hK _ _ ?_
  clear hK K
  refine wpT_done ?_
  go_wp2_with fail
  go_ret
  refine ⟨rfl, RibAns.from HA3.out ?_⟩
  rw [HI.out]
  exact RibAns.put (HA3.out.heap HX.out) (by decide) (HO.out.ext HA3.out) HS3.out HO3.out HB3.out

theorem add_bad (rb : Nat) (r : Rt) (w : World) (a0 : 0 ≤ r.a) (a1 : r.a ≤ 4294967295) (hi : isR r = false) :
    Calls Try.prog 25 #[.pointer (some ⟨rb, 0, none⟩), (.agg #[.int .i64 r.t, .int .u32 r.a, .int .i64 r.l, .int .i64 r.i, .int .u32 r.g, .int .i64 r.m])] w fun e w' => e = .returned (.int .i64 1) ∧ Ext w w' := by
  have k1 := fun w => is_any' r w a0 a1
  rw [hi] at k1
  have hA : Ext w (w.alloc (.cells #[.int .i64 r.t, .int .u32 r.a, .int .i64 r.l, .int .i64 r.i, .int .u32 r.g, .int .i64 r.m] 27)) := (Ext.refl w).alloc _
  obtain ⟨q0, q1, q2, q3, q4, q5⟩ := box_rtE (heap_new w (.cells #[.int .i64 r.t, .int .u32 r.a, .int .i64 r.l, .int .i64 r.i, .int .u32 r.g, .int .i64 r.m] 27))
  have hW : Ext (w.alloc (.cells #[.int .i64 r.t, .int .u32 r.a, .int .i64 r.l, .int .i64 r.i, .int .u32 r.g, .int .i64 r.m] 27)) (w.alloc (.cells #[.int .i64 r.t, .int .u32 r.a, .int .i64 r.l, .int .i64 r.i, .int .u32 r.g, .int .i64 r.m] 27)) := Ext.refl _
  have p0 := q0 _ hW
  have p1 := q1 _ hW
  have p2 := q2 _ hW
  have p3 := q3 _ hW
  have p4 := q4 _ hW
  have p5 := q5 _ hW
  clear hi hW
  go_enter Try.func25, Try.ntmps25
  go_wp2_with (go_at_call 14; refine (k1 _).mono ?_; rintro e w1 ⟨rfl, hx1⟩)
  go_ret
  exact ⟨rfl, hA.trans hx1⟩

theorem add_full (rb : Nat) (L : List Rt) (F : List Nat) (r : Rt) (w : World) (h : RibAt 60 w rb L F) (hg : Good L) (a0 : 0 ≤ r.a) (a1 : r.a ≤ 4294967295) (hi : isR r = true) (hh : hereB L r = false) (hr : 256 ≤ L.length) :
    Calls Try.prog 25 #[.pointer (some ⟨rb, 0, none⟩), (.agg #[.int .i64 r.t, .int .u32 r.a, .int .i64 r.l, .int .i64 r.i, .int .u32 r.g, .int .i64 r.m])] w fun e w' => e = .returned (.int .i64 6) ∧ Ext w w' := by
  have k1 := fun w => is_any' r w a0 a1
  rw [hi] at k1
  have k2 := fun w' (hx : Ext w w') => find_any rb L F r w' (h.ext hx) hg.srt (by have := hg.len; omega)
  rw [hh] at k2
  generalize posR L r = k at *
  obtain ⟨v, rfl, hX, hO⟩ := h
  obtain ⟨p, c, rfl, hc1, -, -⟩ := hO.slice
  have hA : Ext w (w.alloc (.cells #[.int .i64 r.t, .int .u32 r.a, .int .i64 r.l, .int .i64 r.i, .int .u32 r.g, .int .i64 r.m] 27)) := (Ext.refl w).alloc _
  have HX : Hid _ := hX
  obtain ⟨q0, q1, q2, q3, q4, q5⟩ := box_rtE (heap_new w (.cells #[.int .i64 r.t, .int .u32 r.a, .int .i64 r.l, .int .i64 r.i, .int .u32 r.g, .int .i64 r.m] 27))
  have hW : Ext (w.alloc (.cells #[.int .i64 r.t, .int .u32 r.a, .int .i64 r.l, .int .i64 r.i, .int .u32 r.g, .int .i64 r.m] 27)) (w.alloc (.cells #[.int .i64 r.t, .int .u32 r.a, .int .i64 r.l, .int .i64 r.i, .int .u32 r.g, .int .i64 r.m] 27)) := Ext.refl _
  have p0 := q0 _ hW
  have p1 := q1 _ hW
  have p2 := q2 _ hW
  have p3 := q3 _ hW
  have p4 := q4 _ hW
  have p5 := q5 _ hW
  have hrz : (256 : Int) ≤ (L.length : Int) := by omega
  clear hX hO hg hi hh hW
  go_enter Try.func25, Try.ntmps25
  go_wp2_with (first
    | (go_at_call 14; refine (k1 _).mono ?_; rintro e w1 ⟨rfl, hx1⟩; have r0 := q0 _ hx1; have r1 := q1 _ hx1; have r2 := q2 _ hx1; have r3 := q3 _ hx1; have r4 := q4 _ hx1; have r5 := q5 _ hx1)
    | (go_at_call 40; refine (k2 _ (hA.trans hx1)).mono ?_; rintro e w2 ⟨rfl, hx2⟩; have hE2 := hA.trans (hx1.trans hx2); have v2 : w2.cell? ⟨rb, 0, none⟩ = some (.slice p L.length c) := (by rw [heap_cell (hE2.heap HX.out)]; rfl)))
  go_ret
  exact ⟨rfl, hE2⟩

theorem add_any (rb : Nat) (L : List Rt) (F : List Nat) (r : Rt) (w : World) (h : RibAt 60 w rb L F) (hg : Good L) (hr : RtOk r) :
    Calls Try.prog 25 #[.pointer (some ⟨rb, 0, none⟩), (.agg #[.int .i64 r.t, .int .u32 r.a, .int .i64 r.l, .int .i64 r.i, .int .u32 r.g, .int .i64 r.m])] w fun e w' => e = .returned (.int .i64 (addE L r)) ∧ RibAns 60 w rb F (addS L r) w' := by
  obtain ⟨-, -, a0, a1, -⟩ := hr
  unfold addS addE
  cases hi : isR r with
  | false =>
    simp only [Bool.false_eq_true, if_false]
    exact (add_bad rb r w a0 a1 hi).mono fun e w' ⟨he, hx⟩ => ⟨he, RibAns.same h hx⟩
  | true =>
    simp only [if_true]
    cases hh : hereB L r with
    | true =>
      simp only [if_true]
      exact add_here rb L F r w h hg a0 a1 hi hh
    | false =>
      simp only [Bool.false_eq_true, if_false]
      by_cases hf : 256 ≤ L.length
      · simp only [hf, if_true]
        exact (add_full rb L F r w h hg a0 a1 hi hh hf).mono fun e w' ⟨he, hx⟩ => ⟨he, RibAns.same h hx⟩
      · simp only [hf, if_false, if_true]
        exact add_new rb L F r w h hg a0 a1 hi hh (by omega)

set_option maxHeartbeats 1000000 in
theorem del_any (rb : Nat) (L : List Rt) (F : List Nat) (r : Rt) (w : World) (h : RibAt 60 w rb L F) (hg : Good L) :
    Calls Try.prog 26 #[.pointer (some ⟨rb, 0, none⟩), (.agg #[.int .i64 r.t, .int .u32 r.a, .int .i64 r.l, .int .i64 r.i, .int .u32 r.g, .int .i64 r.m])] w fun e w' => e = .returned (.int .i64 (delE L r)) ∧ RibAns 60 w rb F (delS L r) w' := by
  have k2 := fun w' (hx : Ext w w') => find_any rb L F r w' (h.ext hx) hg.srt (by have := hg.len; omega)
  have hA : Ext w (w.alloc (.cells #[.int .i64 r.t, .int .u32 r.a, .int .i64 r.l, .int .i64 r.i, .int .u32 r.g, .int .i64 r.m] 27)) := (Ext.refl w).alloc _
  obtain ⟨q0, q1, q2, q3, q4, q5⟩ := box_rtE (heap_new w (.cells #[.int .i64 r.t, .int .u32 r.a, .int .i64 r.l, .int .i64 r.i, .int .u32 r.g, .int .i64 r.m] 27))
  have hW : Ext (w.alloc (.cells #[.int .i64 r.t, .int .u32 r.a, .int .i64 r.l, .int .i64 r.i, .int .u32 r.g, .int .i64 r.m] 27)) (w.alloc (.cells #[.int .i64 r.t, .int .u32 r.a, .int .i64 r.l, .int .i64 r.i, .int .u32 r.g, .int .i64 r.m] 27)) := Ext.refl _
  have p0 := q0 _ hW
  have p1 := q1 _ hW
  have p2 := q2 _ hW
  have p3 := q3 _ hW
  have p4 := q4 _ hW
  have p5 := q5 _ hW
  clear q0 q1 q2 q3 q4 q5 hW
  unfold delE delS
  cases hh : hereB L r with
  | false =>
    simp only [Bool.false_eq_true, if_false]
    rw [hh] at k2
    generalize posR L r = k at *
    have H : Hid (RibAt 60 w rb L F) := h
    clear hh h hg
    go_enter Try.func26, Try.ntmps26
    go_wp2_with (go_at_call 40; refine (k2 _ hA).mono ?_; rintro e w2 ⟨rfl, hx2⟩)
    go_ret
    exact ⟨rfl, RibAns.same H.out (hA.trans hx2)⟩
  | true =>
    simp only [if_true]
    rw [hh] at k2
    have hd := del_here hh
    have hlt := here_pos hh
    have hlen := hg.len
    generalize posR L r = k at *
    obtain ⟨v, rfl, hX, hO⟩ := h
    obtain ⟨p, c, rfl, hc1, -, -⟩ := hO.slice
    have HX : Hid _ := hX
    have HO : Hid (OwnR w 0 (.slice p L.length c) L) := hO
    have HD : Hid _ := hd
    have hne := own_ne hO hX (by decide)
    have cd := fun w' (hx : Ext w w') => delete_any (.slice p L.length c) L k w' (hO.ext hx) hlt (by omega)
    have z0 : (0 : Int) ≤ (k : Int) + 1 := by omega
    clear hX hO hd hg hh
    go_enter Try.func26, Try.ntmps26
    go_wp2_with (first
      | (go_at_call 40; refine (k2 _ hA).mono ?_; rintro e w2 ⟨rfl, hx2⟩; have hE2 := hA.trans hx2; have v2 : w2.cell? ⟨rb, 0, none⟩ = some (.slice p L.length c) := (by rw [heap_cell (hE2.heap HX.out)]; rfl))
      | (go_at_call 42; refine (cd _ hE2).mono ?_; rintro e W3 ⟨v', rfl, ho3, hS3, hb3⟩; obtain ⟨p', c', hv', -, -, -⟩ := ho3.slice; subst hv'; have hX3 : W3.heap[rb]? = some (.cells #[.slice p L.length c] 60 (0, 0)) := hS3.heap hne (hE2.heap HX.out); have y0 : W3.cell? ⟨rb, 0, none⟩ = some (.slice p L.length c) := (by rw [heap_cell hX3]; rfl); have y1 : W3.frozen? ⟨rb, 0, none⟩ = false := heap_frozen hX3; have HO3 : Hid (OwnR W3 0 (.slice p' (List.take k L ++ List.drop (k + 1) L).length c') (List.take k L ++ List.drop (k + 1) L)) := ho3; have HS3 : Hid (ExtS (blks (.slice p L.length c)) w2 W3) := hS3; have HB3 : Hid _ := hb3; clear hX3 ho3 hS3 hb3; generalize (List.take k L ++ List.drop (k + 1) L).length = n' at *))
    go_ret
    refine ⟨rfl, RibAns.from hE2 ?_⟩
    rw [HD.out]
    exact RibAns.put (hE2.heap HX.out) (by decide) (HO.out.ext hE2) HS3.out HO3.out HB3.out
end Go.Proofs.Ytbchfmadmcppkaa.Rb
