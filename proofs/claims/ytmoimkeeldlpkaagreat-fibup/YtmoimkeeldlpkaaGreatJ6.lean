/- Texts joined by a program: Rib6, Rib7, RibQ, Whole, Rib8. -/
import Derived.Shelf.Abstract
import Derived.Laws.Rows
import Derived.Laws.Tables
import Derived.Test.YtmoimkeeldlpkaaGreatJ1
import Derived.Test.YtmoimkeeldlpkaaGreatJ2
import Derived.Test.YtmoimkeeldlpkaaGreatJ4
import Derived.Test.YtmoimkeeldlpkaaGreatJ5
namespace Go.Proofs.YtmoimkeeldlpkaaGreat.Rb

set_option maxRecDepth 100000

open Go.RowKit Go.Proofs.YtmoimkeeldlpkaaGreat

set_option linter.unusedVariables false

set_option linter.unusedSimpArgs false

theorem own_ne {w : World} {B : Nat} {v : Value} {L : List Rt} {rb : Nat} {cur : Array Value} {ty : TypeId} (h : OwnR w B v L) (hX : w.heap[rb]? = some (.cells cur ty (0, 0))) (ht : ty ≠ 33) : rb ∉ blks v := fun hm => by
  obtain ⟨_, _, cur2, hc⟩ := Tri.owns_block h (mem_blks.1 hm)
  rw [hX] at hc
  cases hc
  exact ht rfl

/-- A Rib whose row is put anew. -/
theorem RibAns.put {ty : TypeId} {w W3 : World} {rb : Nat} {L L' : List Rt} {v v' : Value} (hw : w.heap[rb]? = some (.cells #[v] ty (0, 0))) (ht : ty ≠ 33) (hO : OwnR w 0 v L) (hS : ExtS (blks v) w W3) (ho : OwnR W3 0 v' L') (hb : ∀ x ∈ blks v', x ∈ blks v ∨ w.heap.size ≤ x) :
    RibAns ty w rb (rb :: blks v) L' (W3.setCell ⟨rb, 0, none⟩ v') := by
  have h1 := own_ne hO hw ht
  have h3 := hS.heap h1 hw
  have h4 := own_ne ho h3 ht
  have hx : ExtS [rb] W3 (W3.setCell ⟨rb, 0, none⟩ v') := ExtS.setCell (ExtS.refl [rb] W3) (p := ⟨rb, 0, none⟩) (.inl (by simp)) _
  refine ⟨rb :: blks v', ⟨v', rfl, ?_, ho.later hx fun g hg e => h4 (by simp only [List.mem_singleton] at e; rwa [e] at hg)⟩, ?_, fun x hx => ?_⟩
  · rw [heap_set h3]; rfl
  · refine ExtS.then (hS.mono fun b hb => by simp [hb]) hx fun b hb => .inl ?_
    simp only [List.mem_singleton] at hb
    simp [hb]
  · rcases List.mem_cons.1 hx with rfl | hx
    · exact .inl (by simp)
    · rcases hb x hx with h | h
      · exact .inl (by simp [h])
      · exact .inr h

theorem RibAns.from {ty : TypeId} {w w1 w' : World} {rb : Nat} {F : List Nat} {L' : List Rt} (hx : Ext w w1) (h : RibAns ty w1 rb F L' w') : RibAns ty w rb F L' w' := by
  obtain ⟨F', h1, h2, h3⟩ := h
  exact ⟨F', h1, ExtS.then (hx.toS F) h2 fun b hb => .inl hb, fun x hx' => (h3 x hx').imp_right fun h => Nat.le_trans hx.size h⟩

set_option maxHeartbeats 1000000 in
theorem add_new (rb : Nat) (L : List Rt) (F : List Nat) (r : Rt) (w : World) (h : RibAt 90 w rb L F) (hg : Good L) (a0 : 0 ≤ r.a) (a1 : r.a ≤ 4294967295) (hi : isR r = true) (hh : hereB L r = false) (hr : L.length < 256) :
    Calls Tryz.prog 48 #[.pointer (some ⟨rb, 0, none⟩), (.agg #[.int .i64 r.t, .int .u32 r.a, .int .i64 r.l, .int .i64 r.i, .int .u32 r.g, .int .i64 r.m])] w fun e w' => e = .returned (.int .i64 0) ∧ RibAns 90 w rb F (insR L r) w' := by
  have k1 := fun w => is_any' r w a0 a1
  rw [hi] at k1
  have k2 := fun w' (hx : Ext w w') => find_any rb L F r w' (h.ext hx) hg.srt (by have := hg.len; omega)
  rw [hh] at k2
  have hins := ins_new hh
  have hle : posR L r ≤ L.length := twN_le _ _
  generalize posR L r = k at *
  obtain ⟨v, rfl, hX, hO⟩ := h
  obtain ⟨p, c, rfl, hc1, -, -⟩ := hO.slice
  have hA : Ext w (w.alloc (.cells #[.int .i64 r.t, .int .u32 r.a, .int .i64 r.l, .int .i64 r.i, .int .u32 r.g, .int .i64 r.m] 33)) := (Ext.refl w).alloc _
  have HQ : Hid _ := box_rtE (heap_new w (.cells #[.int .i64 r.t, .int .u32 r.a, .int .i64 r.l, .int .i64 r.i, .int .u32 r.g, .int .i64 r.m] 33))
  have HX : Hid _ := hX
  have HO : Hid (OwnR w 0 (.slice p L.length c) L) := hO
  have HI : Hid _ := hins
  have hne := own_ne hO hX (by decide)
  have HV : Hid (∀ g ∈ blks (.slice p L.length c), 0 ≤ g ∧ g < w.heap.size) := hO.lt
  obtain ⟨q0, q1, q2, q3, q4, q5⟩ := HQ.out
  have hW : Ext (w.alloc (.cells #[.int .i64 r.t, .int .u32 r.a, .int .i64 r.l, .int .i64 r.i, .int .u32 r.g, .int .i64 r.m] 33)) (w.alloc (.cells #[.int .i64 r.t, .int .u32 r.a, .int .i64 r.l, .int .i64 r.i, .int .u32 r.g, .int .i64 r.m] 33)) := Ext.refl _
  have p0 := q0 _ hW
  have p1 := q1 _ hW
  have p2 := q2 _ hW
  have p3 := q3 _ hW
  have p4 := q4 _ hW
  have p5 := q5 _ hW
  clear hX hO hins hg hi hh hW
  go_enter Tryz.func48, Tryz.ntmps48
  have hrz : (L.length : Int) < 256 := by omega
  go_wp2_with (first
    | (go_at_call 65; refine (k1 _).mono ?_; rintro e w1 ⟨rfl, hx1⟩; have r0 := q0 _ hx1; have r1 := q1 _ hx1; have r2 := q2 _ hx1; have r3 := q3 _ hx1; have r4 := q4 _ hx1; have r5 := q5 _ hx1)
    | (go_at_call 66; refine (k2 _ (hA.trans hx1)).mono ?_; rintro e w2 ⟨rfl, hx2⟩; have hE2 := hA.trans (hx1.trans hx2); have v2 : w2.cell? ⟨rb, 0, none⟩ = some (.slice p L.length c) := (by rw [heap_cell (hE2.heap HX.out)]; rfl)))
  have hE := hE2.drew
  have hE0 := (hx1.trans hx2).drew
  clear r0 r1 r2 r3 r4 r5 p0 p1 p2 p3 p4 p5 k1 k2 v2
  refine wp_region_tailS (blks (.slice p L.length c)) [11] [[0, 9, 10, 11], [1, 2, 3, 4, 8, 9, 10, 11], [2, 3, 4, 8, 9, 10, 11], [3, 4, 8, 9, 10, 11], [4, 8, 9, 10, 11], [5, 8, 9, 10, 11], [6, 7, 8, 9, 10, 11], [], [], [9, 10, 11], [10, 11]] [(0, false), (1, false), (2, false), (3, false), (4, false), (5, false), (6, false), (7, true), (8, true), (9, false), (10, false)] (by kernel_rfl) (by kernel_rfl) rfl (by kernel_rfl) (fun _ _ _ _ _ h => h) ?_
  have hbs : w.heap.size ∉ blks (.slice p L.length c) := fun hm => by have := (HV.out _ hm).2; omega
  have x0 : ∀ w', ExtS (blks (.slice p L.length c)) w2.drew w' → w'.cell? ⟨rb, 0, none⟩ = some (.slice p L.length c) := fun w' h => by
    rw [heap_cell (h.heap hne (hE.heap HX.out))]; rfl
  have bx : w2.drew.heap[w.heap.size]? = some (.cells #[.int .i64 r.t, .int .u32 r.a, .int .i64 r.l, .int .i64 r.i, .int .u32 r.g, .int .i64 r.m] 33 (0, 0)) := hE0.heap (heap_new w _)
  have hb : ∀ k w', ExtS (blks (.slice p L.length c)) w2.drew w' → w'.cell? ⟨w.heap.size, k, none⟩ = #[.int .i64 r.t, .int .u32 r.a, .int .i64 r.l, .int .i64 r.i, .int .u32 r.g, .int .i64 r.m][k]? := fun k w' h => heap_cell (h.heap hbs bx)
  have t0 : ∀ w', ExtS (blks (.slice p L.length c)) w2.drew w' → w'.cell? ⟨w.heap.size, 0, none⟩ = some (.int .i64 r.t) := hb 0
  have t1 : ∀ w', ExtS (blks (.slice p L.length c)) w2.drew w' → w'.cell? ⟨w.heap.size, 1, none⟩ = some (.int .u32 r.a) := hb 1
  have t2 : ∀ w', ExtS (blks (.slice p L.length c)) w2.drew w' → w'.cell? ⟨w.heap.size, 2, none⟩ = some (.int .i64 r.l) := hb 2
  have t3 : ∀ w', ExtS (blks (.slice p L.length c)) w2.drew w' → w'.cell? ⟨w.heap.size, 3, none⟩ = some (.int .i64 r.i) := hb 3
  have t4 : ∀ w', ExtS (blks (.slice p L.length c)) w2.drew w' → w'.cell? ⟨w.heap.size, 4, none⟩ = some (.int .u32 r.g) := hb 4
  have t5 : ∀ w', ExtS (blks (.slice p L.length c)) w2.drew w' → w'.cell? ⟨w.heap.size, 5, none⟩ = some (.int .i64 r.m) := hb 5
  have HW : Hid (Ext w w2.drew) := hE
  clear hE hE0 hE2 hx1 hx2 q0 q1 q2 q3 q4 q5 hb bx
  generalize w2.drew = W at *
  iterate 7 (refine wpE_read (v := ?_) rfl (by rfl) ?_ ?_; rotate_left; (focus (intro w' hx; go_simp; first | done | with_reducible rfl)); simp only [Act.put, List.setIfInBounds_toArray, List.set_cons_zero, List.set_cons_succ])
  clear t0 t1 t2 t3 t4 t5 x0
  refine wpE_call rfl (by rfl) (fun K hK => ?_)
  go_simp
  refine hK _ _ (((Ext.refl W).alloc _).toS _) ?_
  clear hK K
  have hA3 : Ext w (W.alloc (.cells #[.int .i64 r.t, .int .u32 r.a, .int .i64 r.l, .int .i64 r.i, .int .u32 r.g, .int .i64 r.m] 33)) := HW.out.trans ((Ext.refl W).alloc _)
  have ci := insert_any (.slice p L.length c) L k r W.heap.size (W.alloc (.cells #[.int .i64 r.t, .int .u32 r.a, .int .i64 r.l, .int .i64 r.i, .int .u32 r.g, .int .i64 r.m] 33)) (HO.out.ext hA3) hle (by omega) (heap_new W _) (fun hm => by have := (HV.out _ hm).2; have := HW.out.size; omega)
  have HA3 : Hid (Ext w (W.alloc (.cells #[.int .i64 r.t, .int .u32 r.a, .int .i64 r.l, .int .i64 r.i, .int .u32 r.g, .int .i64 r.m] 33))) := hA3
  clear hA3
  refine wpE_call rfl (by rfl) (fun K hK => ?_)
  go_simp
  go_at_call 67
  refine ci.mono ?_
  rintro e W3 ⟨v', rfl, ho3, hS3, hb3⟩
  refine hK _ _ hS3 ?_
  clear hK K ci
  obtain ⟨p', c', hv', -, -, -⟩ := ho3.slice
  subst hv'
  have hX3 : W3.heap[rb]? = some (.cells #[.slice p L.length c] 90 (0, 0)) := hS3.heap hne (HA3.out.heap HX.out)
  have HX3 : Hid _ := hX3
  have y0 : W3.cell? ⟨rb, 0, none⟩ = some (.slice p L.length c) := by rw [heap_cell hX3]; rfl
  have y1 : W3.frozen? ⟨rb, 0, none⟩ = false := heap_frozen hX3
  have HO3 : Hid (OwnR W3 0 (.slice p' (List.take k L ++ r :: List.drop k L).length c') (List.take k L ++ r :: List.drop k L)) := ho3
  have HS3 : Hid (ExtS (blks (.slice p L.length c)) (W.alloc (.cells #[.int .i64 r.t, .int .u32 r.a, .int .i64 r.l, .int .i64 r.i, .int .u32 r.g, .int .i64 r.m] 33)) W3) := hS3
  have HB3 : Hid _ := hb3
  clear hX3 ho3 hS3 hb3
  generalize (List.take k L ++ r :: List.drop k L).length = n' at *
  iterate 2 (refine wpE_read (v := ?_) rfl (by rfl) ?_ ?_; rotate_left; (focus (intro w' hx; go_simp; first | done | with_reducible rfl)); simp only [Act.put, List.setIfInBounds_toArray, List.set_cons_zero, List.set_cons_succ])
  refine wpT_step rfl (by rfl) (fun K hK => ?_)
  go_simp
  refine hK _ _ ?_
  clear hK K
  refine wpT_done ?_
  go_wp2_with fail
  go_ret
  refine ⟨rfl, RibAns.from HA3.out ?_⟩
  rw [HI.out]
  exact RibAns.put (HA3.out.heap HX.out) (by decide) (HO.out.ext HA3.out) HS3.out HO3.out HB3.out

theorem add_bad (rb : Nat) (r : Rt) (w : World) (a0 : 0 ≤ r.a) (a1 : r.a ≤ 4294967295) (hi : isR r = false) :
    Calls Tryz.prog 48 #[.pointer (some ⟨rb, 0, none⟩), (.agg #[.int .i64 r.t, .int .u32 r.a, .int .i64 r.l, .int .i64 r.i, .int .u32 r.g, .int .i64 r.m])] w fun e w' => e = .returned (.int .i64 1) ∧ Ext w w' := by
  have k1 := fun w => is_any' r w a0 a1
  rw [hi] at k1
  have hA : Ext w (w.alloc (.cells #[.int .i64 r.t, .int .u32 r.a, .int .i64 r.l, .int .i64 r.i, .int .u32 r.g, .int .i64 r.m] 33)) := (Ext.refl w).alloc _
  obtain ⟨q0, q1, q2, q3, q4, q5⟩ := box_rtE (heap_new w (.cells #[.int .i64 r.t, .int .u32 r.a, .int .i64 r.l, .int .i64 r.i, .int .u32 r.g, .int .i64 r.m] 33))
  have hW : Ext (w.alloc (.cells #[.int .i64 r.t, .int .u32 r.a, .int .i64 r.l, .int .i64 r.i, .int .u32 r.g, .int .i64 r.m] 33)) (w.alloc (.cells #[.int .i64 r.t, .int .u32 r.a, .int .i64 r.l, .int .i64 r.i, .int .u32 r.g, .int .i64 r.m] 33)) := Ext.refl _
  have p0 := q0 _ hW
  have p1 := q1 _ hW
  have p2 := q2 _ hW
  have p3 := q3 _ hW
  have p4 := q4 _ hW
  have p5 := q5 _ hW
  clear hi hW
  go_enter Tryz.func48, Tryz.ntmps48
  go_wp2_with (go_at_call 65; refine (k1 _).mono ?_; rintro e w1 ⟨rfl, hx1⟩)
  go_ret
  exact ⟨rfl, hA.trans hx1⟩

theorem add_full (rb : Nat) (L : List Rt) (F : List Nat) (r : Rt) (w : World) (h : RibAt 90 w rb L F) (hg : Good L) (a0 : 0 ≤ r.a) (a1 : r.a ≤ 4294967295) (hi : isR r = true) (hh : hereB L r = false) (hr : 256 ≤ L.length) :
    Calls Tryz.prog 48 #[.pointer (some ⟨rb, 0, none⟩), (.agg #[.int .i64 r.t, .int .u32 r.a, .int .i64 r.l, .int .i64 r.i, .int .u32 r.g, .int .i64 r.m])] w fun e w' => e = .returned (.int .i64 6) ∧ Ext w w' := by
  have k1 := fun w => is_any' r w a0 a1
  rw [hi] at k1
  have k2 := fun w' (hx : Ext w w') => find_any rb L F r w' (h.ext hx) hg.srt (by have := hg.len; omega)
  rw [hh] at k2
  generalize posR L r = k at *
  obtain ⟨v, rfl, hX, hO⟩ := h
  obtain ⟨p, c, rfl, hc1, -, -⟩ := hO.slice
  have hA : Ext w (w.alloc (.cells #[.int .i64 r.t, .int .u32 r.a, .int .i64 r.l, .int .i64 r.i, .int .u32 r.g, .int .i64 r.m] 33)) := (Ext.refl w).alloc _
  have HX : Hid _ := hX
  obtain ⟨q0, q1, q2, q3, q4, q5⟩ := box_rtE (heap_new w (.cells #[.int .i64 r.t, .int .u32 r.a, .int .i64 r.l, .int .i64 r.i, .int .u32 r.g, .int .i64 r.m] 33))
  have hW : Ext (w.alloc (.cells #[.int .i64 r.t, .int .u32 r.a, .int .i64 r.l, .int .i64 r.i, .int .u32 r.g, .int .i64 r.m] 33)) (w.alloc (.cells #[.int .i64 r.t, .int .u32 r.a, .int .i64 r.l, .int .i64 r.i, .int .u32 r.g, .int .i64 r.m] 33)) := Ext.refl _
  have p0 := q0 _ hW
  have p1 := q1 _ hW
  have p2 := q2 _ hW
  have p3 := q3 _ hW
  have p4 := q4 _ hW
  have p5 := q5 _ hW
  have hrz : (256 : Int) ≤ (L.length : Int) := by omega
  clear hX hO hg hi hh hW
  go_enter Tryz.func48, Tryz.ntmps48
  go_wp2_with (first
    | (go_at_call 65; refine (k1 _).mono ?_; rintro e w1 ⟨rfl, hx1⟩; have r0 := q0 _ hx1; have r1 := q1 _ hx1; have r2 := q2 _ hx1; have r3 := q3 _ hx1; have r4 := q4 _ hx1; have r5 := q5 _ hx1)
    | (go_at_call 66; refine (k2 _ (hA.trans hx1)).mono ?_; rintro e w2 ⟨rfl, hx2⟩; have hE2 := hA.trans (hx1.trans hx2); have v2 : w2.cell? ⟨rb, 0, none⟩ = some (.slice p L.length c) := (by rw [heap_cell (hE2.heap HX.out)]; rfl)))
  go_ret
  exact ⟨rfl, hE2⟩

theorem add_any (rb : Nat) (L : List Rt) (F : List Nat) (r : Rt) (w : World) (h : RibAt 90 w rb L F) (hg : Good L) (hr : RtOk r) :
    Calls Tryz.prog 48 #[.pointer (some ⟨rb, 0, none⟩), (.agg #[.int .i64 r.t, .int .u32 r.a, .int .i64 r.l, .int .i64 r.i, .int .u32 r.g, .int .i64 r.m])] w fun e w' => e = .returned (.int .i64 (addE L r)) ∧ RibAns 90 w rb F (addS L r) w' := by
  obtain ⟨-, -, a0, a1, -⟩ := hr
  unfold addS addE
  cases hi : isR r with
  | false =>
    simp only [Bool.false_eq_true, if_false]
    exact (add_bad rb r w a0 a1 hi).mono fun e w' ⟨he, hx⟩ => ⟨he, RibAns.same h hx⟩
  | true =>
    simp only [if_true]
    cases hh : hereB L r with
    | true =>
      simp only [if_true]
      exact add_here rb L F r w h hg a0 a1 hi hh
    | false =>
      simp only [Bool.false_eq_true, if_false]
      by_cases hf : 256 ≤ L.length
      · simp only [hf, if_true]
        exact (add_full rb L F r w h hg a0 a1 hi hh hf).mono fun e w' ⟨he, hx⟩ => ⟨he, RibAns.same h hx⟩
      · simp only [hf, if_false, if_true]
        exact add_new rb L F r w h hg a0 a1 hi hh (by omega)

set_option maxHeartbeats 1000000 in
theorem del_any (rb : Nat) (L : List Rt) (F : List Nat) (r : Rt) (w : World) (h : RibAt 90 w rb L F) (hg : Good L) :
    Calls Tryz.prog 49 #[.pointer (some ⟨rb, 0, none⟩), (.agg #[.int .i64 r.t, .int .u32 r.a, .int .i64 r.l, .int .i64 r.i, .int .u32 r.g, .int .i64 r.m])] w fun e w' => e = .returned (.int .i64 (delE L r)) ∧ RibAns 90 w rb F (delS L r) w' := by
  have k2 := fun w' (hx : Ext w w') => find_any rb L F r w' (h.ext hx) hg.srt (by have := hg.len; omega)
  have hA : Ext w (w.alloc (.cells #[.int .i64 r.t, .int .u32 r.a, .int .i64 r.l, .int .i64 r.i, .int .u32 r.g, .int .i64 r.m] 33)) := (Ext.refl w).alloc _
  obtain ⟨q0, q1, q2, q3, q4, q5⟩ := box_rtE (heap_new w (.cells #[.int .i64 r.t, .int .u32 r.a, .int .i64 r.l, .int .i64 r.i, .int .u32 r.g, .int .i64 r.m] 33))
  have hW : Ext (w.alloc (.cells #[.int .i64 r.t, .int .u32 r.a, .int .i64 r.l, .int .i64 r.i, .int .u32 r.g, .int .i64 r.m] 33)) (w.alloc (.cells #[.int .i64 r.t, .int .u32 r.a, .int .i64 r.l, .int .i64 r.i, .int .u32 r.g, .int .i64 r.m] 33)) := Ext.refl _
  have p0 := q0 _ hW
  have p1 := q1 _ hW
  have p2 := q2 _ hW
  have p3 := q3 _ hW
  have p4 := q4 _ hW
  have p5 := q5 _ hW
  clear q0 q1 q2 q3 q4 q5 hW
  unfold delE delS
  cases hh : hereB L r with
  | false =>
    simp only [Bool.false_eq_true, if_false]
    rw [hh] at k2
    generalize posR L r = k at *
    have H : Hid (RibAt 90 w rb L F) := h
    clear hh h hg
    go_enter Tryz.func49, Tryz.ntmps49
    go_wp2_with (go_at_call 66; refine (k2 _ hA).mono ?_; rintro e w2 ⟨rfl, hx2⟩)
    go_ret
    exact ⟨rfl, RibAns.same H.out (hA.trans hx2)⟩
  | true =>
    simp only [if_true]
    rw [hh] at k2
    have hd := del_here hh
    have hlt := here_pos hh
    have hlen := hg.len
    generalize posR L r = k at *
    obtain ⟨v, rfl, hX, hO⟩ := h
    obtain ⟨p, c, rfl, hc1, -, -⟩ := hO.slice
    have HX : Hid _ := hX
    have HO : Hid (OwnR w 0 (.slice p L.length c) L) := hO
    have HD : Hid _ := hd
    have hne := own_ne hO hX (by decide)
    have cd := fun w' (hx : Ext w w') => delete_any (.slice p L.length c) L k w' (hO.ext hx) hlt (by omega)
    have z0 : (0 : Int) ≤ (k : Int) + 1 := by omega
    clear hX hO hd hg hh
    go_enter Tryz.func49, Tryz.ntmps49
    go_wp2_with (first
      | (go_at_call 66; refine (k2 _ hA).mono ?_; rintro e w2 ⟨rfl, hx2⟩; have hE2 := hA.trans hx2; have v2 : w2.cell? ⟨rb, 0, none⟩ = some (.slice p L.length c) := (by rw [heap_cell (hE2.heap HX.out)]; rfl))
      | (go_at_call 68; refine (cd _ hE2).mono ?_; rintro e W3 ⟨v', rfl, ho3, hS3, hb3⟩; obtain ⟨p', c', hv', -, -, -⟩ := ho3.slice; subst hv'; have hX3 : W3.heap[rb]? = some (.cells #[.slice p L.length c] 90 (0, 0)) := hS3.heap hne (hE2.heap HX.out); have y0 : W3.cell? ⟨rb, 0, none⟩ = some (.slice p L.length c) := (by rw [heap_cell hX3]; rfl); have y1 : W3.frozen? ⟨rb, 0, none⟩ = false := heap_frozen hX3; have HO3 : Hid (OwnR W3 0 (.slice p' (List.take k L ++ List.drop (k + 1) L).length c') (List.take k L ++ List.drop (k + 1) L)) := ho3; have HS3 : Hid (ExtS (blks (.slice p L.length c)) w2 W3) := hS3; have HB3 : Hid _ := hb3; clear hX3 ho3 hS3 hb3; generalize (List.take k L ++ List.drop (k + 1) L).length = n' at *))
    go_ret
    refine ⟨rfl, RibAns.from hE2 ?_⟩
    rw [HD.out]
    exact RibAns.put (hE2.heap HX.out) (by decide) (HO.out.ext hE2) HS3.out HO3.out HB3.out
end Go.Proofs.YtmoimkeeldlpkaaGreat.Rb

namespace Go.Proofs.YtmoimkeeldlpkaaGreat.Rb

set_option maxRecDepth 100000

open Go.RowKit Go.Proofs.YtmoimkeeldlpkaaGreat

set_option linter.unusedVariables false

set_option linter.unusedSimpArgs false

set_option maxHeartbeats 1000000 in
theorem search_any (g : Nat) (cb : Array Value) (n : Nat) (L : List Rt) (f : Rt → Bool) (w : World) (eg : ∀ args w, (callFunc g args).run Tryz.prog w = .ok (.enter g args) w) (hl : L.length = n) (hn : n ≤ 1000000)
    (hf : ∀ w', Ext w w' → ∀ (i : Nat) (x : Rt), L[i]? = some x → Calls Tryz.prog g (#[.int .i64 (i : Nat)] ++ cb) w' fun e w2 => e = .returned (.bool (!f x)) ∧ Ext w' w2)
    (hm : ∀ (i j : Nat) (y z : Rt), i ≤ j → L[i]? = some y → L[j]? = some z → f z = true → f y = true) :
    Calls Tryz.prog 137 #[.int .i64 (n : Nat), .func (.func g) #[] cb] w fun e w' => e = .returned (.int .i64 (twN f L : Nat)) ∧ Ext w w' := by
  have HF : Hid _ := hf
  have HM : Hid _ := hm
  have HL : Hid _ := hl
  clear hf hm hl
  go_enter Tryz.func137, Tryz.ntmps137
  go_wp2_with fail
  go_loopg [5, 6] n (fun kx s5 s6 wr => ∃ lo hi : Nat, s5 = .int .i64 lo ∧ s6 = .int .i64 hi ∧ lo ≤ hi ∧ hi ≤ n ∧ hi - lo ≤ kx ∧ Ext w wr ∧ Hid (LoHi L f lo hi))
  case atStart => exact ⟨0, n, rfl, rfl, Nat.zero_le _, Nat.le_refl _, by omega, Ext.refl _, LoHi.start L f n HL.out⟩
  case round =>
    obtain ⟨lo, hi, rfl, rfl, hlh, hin, hkx, hx, HI⟩ := hrel
    by_cases hlt : lo < hi
    · obtain ⟨x, hxk⟩ : ∃ x, L[(lo + hi) / 2]? = some x := ⟨_, List.getElem?_eq_getElem (by rw [HL.out]; omega)⟩
      have hc := HF.out wr hx _ x hxk
      rw [show (((lo + hi) / 2 : Nat) : Int) = ((lo : Int) + (hi : Int)) / 2 by omega] at hc
      have HX : Hid _ := hxk
      have hii : (lo : Int) < (hi : Int) := by omega
      have hhn : (hi : Int) ≤ (n : Int) := by omega
      clear hxk
      cases hz : f x with
      | true =>
        rw [hz] at hc
        have HZ : Hid _ := hz
        clear hz
        go_wp2_with (go_at_fn g; refine hc.mono ?_; rintro e w1 ⟨rfl, hx1⟩)
        go_roundg (hi - ((lo + hi) / 2 + 1))
        case measure => omega
        case rel => exact ⟨(lo + hi) / 2 + 1, hi, by rw [show ((lo : Int) + (hi : Int)) / 2 + 1 = (((lo + hi) / 2 + 1 : Nat) : Int) by omega], rfl, by omega, hin, Nat.le_refl _, hx.trans hx1, HI.out.up HM.out HX.out HZ.out⟩
      | false =>
        rw [hz] at hc
        have HZ : Hid _ := hz
        clear hz
        go_wp2_with (go_at_fn g; refine hc.mono ?_; rintro e w1 ⟨rfl, hx1⟩)
        go_roundg ((lo + hi) / 2 - lo)
        case measure => omega
        case rel => exact ⟨lo, (lo + hi) / 2, rfl, by rw [show ((lo : Int) + (hi : Int)) / 2 = (((lo + hi) / 2 : Nat) : Int) by omega], by omega, by omega, Nat.le_refl _, hx.trans hx1, HI.out.down HX.out HZ.out⟩
    · obtain rfl : hi = lo := by omega
      have HP : Hid (twN f L = hi) := HI.out.stop (by rw [HL.out]; exact hin)
      go_wp2_with fail
      go_ret
      rw [HP.out]
      exact ⟨rfl, hx⟩

/-- Sides that rise. -/
def MonoP (sd : Rt → Int) (L : List Rt) : Prop := L.Pairwise fun x y => (sd y < 0 → sd x < 0) ∧ (sd y ≤ 0 → sd x ≤ 0)

theorem MonoP.at {sd : Rt → Int} {L : List Rt} (h : MonoP sd L) {i j : Nat} {y z : Rt} (hij : i ≤ j) (hy : L[i]? = some y) (hz : L[j]? = some z) : (sd z < 0 → sd y < 0) ∧ (sd z ≤ 0 → sd y ≤ 0) := by
  rcases Nat.lt_or_ge i j with hlt | hge
  · obtain ⟨hi, rfl⟩ := List.getElem?_eq_some_iff.1 hy
    obtain ⟨hj, rfl⟩ := List.getElem?_eq_some_iff.1 hz
    exact List.pairwise_iff_getElem.1 h i j hi hj hlt
  · obtain rfl : i = j := by omega
    rw [hy] at hz; cases hz; exact ⟨id, id⟩

theorem seg_zero (sd : Rt → Int) : ∀ L : List Rt, MonoP sd L → (∀ x ∈ L, 0 ≤ sd x) → L.take (twN (fun x => decide (sd x ≤ 0)) L) = L.filter (fun x => decide (sd x = 0))
  | [], _, _ => rfl
  | x :: L, h, h0 => by
    obtain ⟨h1, h2⟩ := List.pairwise_cons.1 h
    have hx := h0 x (by simp)
    unfold twN
    by_cases e : sd x ≤ 0
    · have e0 : sd x = 0 := by omega
      simp only [e, decide_true, if_true, List.take_succ_cons]
      rw [List.filter_cons_of_pos (by simpa using e0), seg_zero sd L h2 fun y hy => h0 y (by simp [hy])]
    · have e1 : decide (sd x ≤ 0) = false := by simpa using e
      simp only [e1, Bool.false_eq_true, if_false, List.take_zero]
      symm
      rw [List.filter_eq_nil_iff]
      intro y hy hd
      have hd : sd y = 0 := by simpa using hd
      rcases List.mem_cons.1 hy with rfl | hy
      · omega
      · have := (h1 y hy).2 (by omega)
        omega

theorem seg_filter (sd : Rt → Int) : ∀ L : List Rt, MonoP sd L → twN (fun x => decide (sd x < 0)) L ≤ twN (fun x => decide (sd x ≤ 0)) L ∧
    (L.drop (twN (fun x => decide (sd x < 0)) L)).take (twN (fun x => decide (sd x ≤ 0)) L - twN (fun x => decide (sd x < 0)) L) = L.filter (fun x => decide (sd x = 0))
  | [], _ => ⟨Nat.le_refl _, rfl⟩
  | x :: L, h => by
    obtain ⟨h1, h2⟩ := List.pairwise_cons.1 h
    by_cases e : sd x < 0
    · obtain ⟨ih1, ih2⟩ := seg_filter sd L h2
      have a1 : twN (fun x => decide (sd x < 0)) (x :: L) = twN (fun x => decide (sd x < 0)) L + 1 := by
        conv => lhs; unfold twN
        simp [e]
      have a2 : twN (fun x => decide (sd x ≤ 0)) (x :: L) = twN (fun x => decide (sd x ≤ 0)) L + 1 := by
        conv => lhs; unfold twN
        simp [show sd x ≤ 0 by omega]
      rw [a1, a2]
      refine ⟨by omega, ?_⟩
      rw [List.drop_succ_cons, Nat.add_sub_add_right, ih2, List.filter_cons_of_neg (by simp; omega)]
    · have a1 : twN (fun x => decide (sd x < 0)) (x :: L) = 0 := by
        unfold twN
        simp [e]
      rw [a1]
      refine ⟨Nat.zero_le _, ?_⟩
      rw [List.drop_zero, Nat.sub_zero]
      refine seg_zero sd (x :: L) h fun y hy => ?_
      rcases List.mem_cons.1 hy with rfl | hy
      · omega
      · have := (h1 y hy).1
        omega

theorem enters_1 (args : Array Value) (w : World) : (callFunc 138 args).run Tryz.prog w = .ok (.enter 138 args) w := enters_of Tryz.func138 (by kernel_rfl) rfl args w

theorem enters_2 (args : Array Value) (w : World) : (callFunc 139 args).run Tryz.prog w = .ok (.enter 139 args) w := enters_of Tryz.func139 (by kernel_rfl) rfl args w

theorem enters_t (args : Array Value) (w : World) : (callFunc 121 args).run Tryz.prog w = .ok (.enter 121 args) w := enters_of Tryz.func121 (by kernel_rfl) rfl args w

theorem enters_p (args : Array Value) (w : World) : (callFunc 122 args).run Tryz.prog w = .ok (.enter 122 args) w := enters_of Tryz.func122 (by kernel_rfl) rfl args w

set_option maxHeartbeats 1000000 in
theorem side_ge (g : Nat) (cb : Array Value) (p : Option Addr) (n c : Nat) (L : List Rt) (sb wb i : Nat) (x : Rt) (z : Int) (w : World) (eg : ∀ args w, (callFunc g args).run Tryz.prog w = .ok (.enter g args) w)
    (hs : ∀ w', Ext w w' → w'.cell? ⟨sb, 0, none⟩ = some (.func (.func g) #[] cb)) (hw : ∀ w', Ext w w' → w'.cell? ⟨wb, 0, none⟩ = some (.slice p n c)) (hR : Rd w p n c L) (hx : L[i]? = some x)
    (hf : ∀ w', Ext w w' → Calls Tryz.prog g (#[(.agg #[.int .i64 x.t, .int .u32 x.a, .int .i64 x.l, .int .i64 x.i, .int .u32 x.g, .int .i64 x.m])] ++ cb) w' fun e w2 => e = .returned (.int .i64 z) ∧ Ext w' w2) :
    Calls Tryz.prog 138 (#[.int .i64 (i : Nat)] ++ #[.pointer (some ⟨sb, 0, none⟩), .pointer (some ⟨wb, 0, none⟩)]) w fun e w' => e = .returned (.bool (decide (0 ≤ z))) ∧ Ext w w' := by
  obtain ⟨b, off, rfl, hb, g0, g1, g2, g3, g4, g5⟩ := hR.cell hx
  have hlt : i < n := by
    have := hR.len
    have := (List.getElem?_eq_some_iff.1 hx).1
    omega
  have hd : Ext w w.drew := (Ext.refl w).drew
  have s0 := fun w' h => hs w' (hd.trans h)
  have s1 := fun w' h => hw w' (hd.trans h)
  have x0 : ∀ w', Ext w.drew w' → w'.cell? ⟨b, off + i * 6, none⟩ = some (.int .i64 x.t) := fun w' h => by rw [(hd.trans h).below.cell (p := ⟨b, off + i * 6, none⟩) hb]; exact g0
  have x1 : ∀ w', Ext w.drew w' → w'.cell? ⟨b, off + i * 6 + 1, none⟩ = some (.int .u32 x.a) := fun w' h => by rw [(hd.trans h).below.cell (p := ⟨b, off + i * 6 + 1, none⟩) hb]; exact g1
  have x2 : ∀ w', Ext w.drew w' → w'.cell? ⟨b, off + i * 6 + 2, none⟩ = some (.int .i64 x.l) := fun w' h => by rw [(hd.trans h).below.cell (p := ⟨b, off + i * 6 + 2, none⟩) hb]; exact g2
  have x3 : ∀ w', Ext w.drew w' → w'.cell? ⟨b, off + i * 6 + 3, none⟩ = some (.int .i64 x.i) := fun w' h => by rw [(hd.trans h).below.cell (p := ⟨b, off + i * 6 + 3, none⟩) hb]; exact g3
  have x4 : ∀ w', Ext w.drew w' → w'.cell? ⟨b, off + i * 6 + 4, none⟩ = some (.int .u32 x.g) := fun w' h => by rw [(hd.trans h).below.cell (p := ⟨b, off + i * 6 + 4, none⟩) hb]; exact g4
  have x5 : ∀ w', Ext w.drew w' → w'.cell? ⟨b, off + i * 6 + 5, none⟩ = some (.int .i64 x.m) := fun w' h => by rw [(hd.trans h).below.cell (p := ⟨b, off + i * 6 + 5, none⟩) hb]; exact g5
  clear g0 g1 g2 g3 g4 g5 hx hR hs hw
  have hki : (i : Int) < (n : Int) := by omega
  have hc := hf w.drew hd
  clear hf
  go_enter Tryz.func138, Tryz.ntmps138
  go_wp2_with fail
  refine wp_region_eager [(0, false), (1, false), (2, false), (3, false), (4, false), (5, true), (6, false), (7, false)] (by kernel_rfl) (by kernel_rfl) rfl (by kernel_rfl) (fun _ _ _ _ _ h => h) ?_
  generalize w.drew = W at *
  iterate 5 (refine wpE_read (v := ?_) rfl (by rfl) ?_ ?_; rotate_left; (focus (intro w' hx; go_simp; first | done | with_reducible rfl)); simp only [Act.put, List.setIfInBounds_toArray, List.set_cons_zero, List.set_cons_succ])
  refine wpE_call rfl (by rfl) (fun K hK => ?_)
  go_simp
  go_at_fn g
  refine hc.mono ?_
  rintro e w1 ⟨rfl, hx1⟩
  refine hK _ _ hx1 ?_
  clear hK K
  iterate 2 (refine wpE_read (v := ?_) rfl (by rfl) ?_ ?_; rotate_left; (focus (intro w' hx; go_simp; first | done | with_reducible rfl)); simp only [Act.put, List.setIfInBounds_toArray, List.set_cons_zero, List.set_cons_succ])
  refine wpE_done ?_
  go_wp2_with fail
  go_ret
  exact ⟨rfl, hd.trans hx1⟩

set_option maxHeartbeats 1000000 in
theorem side_gt (g : Nat) (cb : Array Value) (p : Option Addr) (n c : Nat) (L : List Rt) (sb wb i : Nat) (x : Rt) (z : Int) (w : World) (eg : ∀ args w, (callFunc g args).run Tryz.prog w = .ok (.enter g args) w)
    (hs : ∀ w', Ext w w' → w'.cell? ⟨sb, 0, none⟩ = some (.func (.func g) #[] cb)) (hw : ∀ w', Ext w w' → w'.cell? ⟨wb, 0, none⟩ = some (.slice p n c)) (hR : Rd w p n c L) (hx : L[i]? = some x)
    (hf : ∀ w', Ext w w' → Calls Tryz.prog g (#[(.agg #[.int .i64 x.t, .int .u32 x.a, .int .i64 x.l, .int .i64 x.i, .int .u32 x.g, .int .i64 x.m])] ++ cb) w' fun e w2 => e = .returned (.int .i64 z) ∧ Ext w' w2) :
    Calls Tryz.prog 139 (#[.int .i64 (i : Nat)] ++ #[.pointer (some ⟨sb, 0, none⟩), .pointer (some ⟨wb, 0, none⟩)]) w fun e w' => e = .returned (.bool (decide (0 < z))) ∧ Ext w w' := by
  obtain ⟨b, off, rfl, hb, g0, g1, g2, g3, g4, g5⟩ := hR.cell hx
  have hlt : i < n := by
    have := hR.len
    have := (List.getElem?_eq_some_iff.1 hx).1
    omega
  have hd : Ext w w.drew := (Ext.refl w).drew
  have s0 := fun w' h => hs w' (hd.trans h)
  have s1 := fun w' h => hw w' (hd.trans h)
  have x0 : ∀ w', Ext w.drew w' → w'.cell? ⟨b, off + i * 6, none⟩ = some (.int .i64 x.t) := fun w' h => by rw [(hd.trans h).below.cell (p := ⟨b, off + i * 6, none⟩) hb]; exact g0
  have x1 : ∀ w', Ext w.drew w' → w'.cell? ⟨b, off + i * 6 + 1, none⟩ = some (.int .u32 x.a) := fun w' h => by rw [(hd.trans h).below.cell (p := ⟨b, off + i * 6 + 1, none⟩) hb]; exact g1
  have x2 : ∀ w', Ext w.drew w' → w'.cell? ⟨b, off + i * 6 + 2, none⟩ = some (.int .i64 x.l) := fun w' h => by rw [(hd.trans h).below.cell (p := ⟨b, off + i * 6 + 2, none⟩) hb]; exact g2
  have x3 : ∀ w', Ext w.drew w' → w'.cell? ⟨b, off + i * 6 + 3, none⟩ = some (.int .i64 x.i) := fun w' h => by rw [(hd.trans h).below.cell (p := ⟨b, off + i * 6 + 3, none⟩) hb]; exact g3
  have x4 : ∀ w', Ext w.drew w' → w'.cell? ⟨b, off + i * 6 + 4, none⟩ = some (.int .u32 x.g) := fun w' h => by rw [(hd.trans h).below.cell (p := ⟨b, off + i * 6 + 4, none⟩) hb]; exact g4
  have x5 : ∀ w', Ext w.drew w' → w'.cell? ⟨b, off + i * 6 + 5, none⟩ = some (.int .i64 x.m) := fun w' h => by rw [(hd.trans h).below.cell (p := ⟨b, off + i * 6 + 5, none⟩) hb]; exact g5
  clear g0 g1 g2 g3 g4 g5 hx hR hs hw
  have hki : (i : Int) < (n : Int) := by omega
  have hc := hf w.drew hd
  clear hf
  go_enter Tryz.func139, Tryz.ntmps139
  go_wp2_with fail
  refine wp_region_eager [(0, false), (1, false), (2, false), (3, false), (4, false), (5, true), (6, false), (7, false)] (by kernel_rfl) (by kernel_rfl) rfl (by kernel_rfl) (fun _ _ _ _ _ h => h) ?_
  generalize w.drew = W at *
  iterate 5 (refine wpE_read (v := ?_) rfl (by rfl) ?_ ?_; rotate_left; (focus (intro w' hx; go_simp; first | done | with_reducible rfl)); simp only [Act.put, List.setIfInBounds_toArray, List.set_cons_zero, List.set_cons_succ])
  refine wpE_call rfl (by rfl) (fun K hK => ?_)
  go_simp
  go_at_fn g
  refine hc.mono ?_
  rintro e w1 ⟨rfl, hx1⟩
  refine hK _ _ hx1 ?_
  clear hK K
  iterate 2 (refine wpE_read (v := ?_) rfl (by rfl) ?_ ?_; rotate_left; (focus (intro w' hx; go_simp; first | done | with_reducible rfl)); simp only [Act.put, List.setIfInBounds_toArray, List.set_cons_zero, List.set_cons_succ])
  refine wpE_done ?_
  go_wp2_with fail
  go_ret
  exact ⟨rfl, hd.trans hx1⟩

/-- Part of a row. -/
def PartAns (w0 w : World) (M : List Rt) (e : Ending) (w' : World) : Prop := ∃ p n c, e = .returned (.slice p n c) ∧ n ≤ c ∧ Rd w0 p n c M ∧ Ext w w'

theorem box1E {w : World} {b : Nat} {v0 : Value} {t : TypeId} (h : w.heap[b]? = some (.cells #[v0] t (0, 0))) : ∀ w', Ext w w' → w'.cell? ⟨b, 0, none⟩ = some v0 := fun w' hx => by
  rw [heap_cell (hx.heap h)]; rfl

set_option maxHeartbeats 1000000 in
theorem part_any (g : Nat) (cb : Array Value) (p : Option Addr) (n c : Nat) (L : List Rt) (sd : Rt → Int) (w0 w : World) (eg : ∀ args w, (callFunc g args).run Tryz.prog w = .ok (.enter g args) w) (hR0 : Rd w0 p n c L) (h00 : Ext w0 w) (hc : n ≤ c) (hn : n ≤ 1000000) (hm : MonoP sd L)
    (hf : ∀ w', Ext w w' → ∀ x : Rt, Calls Tryz.prog g (#[(.agg #[.int .i64 x.t, .int .u32 x.a, .int .i64 x.l, .int .i64 x.i, .int .u32 x.g, .int .i64 x.m])] ++ cb) w' fun e w2 => e = .returned (.int .i64 (sd x)) ∧ Ext w' w2) :
    Calls Tryz.prog 120 #[.slice p n c, .func (.func g) #[] cb] w (PartAns w0 w (L.filter fun x => decide (sd x = 0))) := by
  have hR := hR0.ext h00
  have HR0 : Hid (Rd w0 p n c L) := hR0
  clear hR0 h00
  have hA : Ext w ((w.alloc (.cells #[.slice p n c] 44)).alloc (.cells #[.func (.func g) #[] cb] 75)) := ((Ext.refl w).alloc _).alloc _
  have hB1 : ((w.alloc (.cells #[.slice p n c] 44)).alloc (.cells #[.func (.func g) #[] cb] 75)).heap[w.heap.size]? = some (.cells #[.slice p n c] 44 (0, 0)) :=
    (Below.heap_alloc (w.alloc (.cells #[.slice p n c] 44)) _ w.heap.size (by simp)).trans (heap_new w _)
  have hB2 : ((w.alloc (.cells #[.slice p n c] 44)).alloc (.cells #[.func (.func g) #[] cb] 75)).heap[w.heap.size + 1]? = some (.cells #[.func (.func g) #[] cb] 75 (0, 0)) := by
    have := heap_new (w.alloc (.cells #[.slice p n c] 44)) (.cells #[.func (.func g) #[] cb] 75)
    rwa [show (w.alloc (.cells #[.slice p n c] 44)).heap.size = w.heap.size + 1 by simp] at this
  have b1 := box1E hB1
  have b2 := box1E hB2
  have hl := hR.len
  obtain ⟨f1, f2⟩ := seg_filter sd L hm
  have hto : twN (fun x => decide (sd x ≤ 0)) L ≤ n := by rw [← hl]; exact twN_le _ _
  have q1 := b1 _ (Ext.refl _)
  generalize hW0 : ((w.alloc (.cells #[.slice p n c] 44)).alloc (.cells #[.func (.func g) #[] cb] 75)) = W0 at hA hB1 hB2 b1 b2
  have k1 := fun w' (hx : Ext W0 w') => search_any 138 #[.pointer (some ⟨w.heap.size + 1, 0, none⟩), .pointer (some ⟨w.heap.size, 0, none⟩)] n L (fun x => decide (sd x < 0)) w' enters_1 hl hn
    (fun w2 hx2 i x hi => (side_ge g cb p n c L (w.heap.size + 1) w.heap.size i x (sd x) w2 eg (fun w3 h3 => b2 w3 (hx.trans (hx2.trans h3))) (fun w3 h3 => b1 w3 (hx.trans (hx2.trans h3))) (hR.ext (hA.trans (hx.trans hx2))) hi (fun w3 h3 => hf w3 (hA.trans (hx.trans (hx2.trans h3))) x)).mono fun e w3 ⟨he, h3⟩ => ⟨by
      rw [he]
      congr 2
      by_cases h : sd x < 0
      · simp [h]
      · simp [h, show 0 ≤ sd x by omega], h3⟩)
    (fun i j y z hij hy hz h => by have := (hm.at hij hy hz).1; simp only [decide_eq_true_eq] at h ⊢; exact this h)
  have k2 := fun w' (hx : Ext W0 w') => search_any 139 #[.pointer (some ⟨w.heap.size + 1, 0, none⟩), .pointer (some ⟨w.heap.size, 0, none⟩)] n L (fun x => decide (sd x ≤ 0)) w' enters_2 hl hn
    (fun w2 hx2 i x hi => (side_gt g cb p n c L (w.heap.size + 1) w.heap.size i x (sd x) w2 eg (fun w3 h3 => b2 w3 (hx.trans (hx2.trans h3))) (fun w3 h3 => b1 w3 (hx.trans (hx2.trans h3))) (hR.ext (hA.trans (hx.trans hx2))) hi (fun w3 h3 => hf w3 (hA.trans (hx.trans (hx2.trans h3))) x)).mono fun e w3 ⟨he, h3⟩ => ⟨by
      rw [he]
      congr 2
      by_cases h : sd x ≤ 0
      · simp [h]
      · simp [h, show 0 < sd x by omega], h3⟩)
    (fun i j y z hij hy hz h => by have := (hm.at hij hy hz).2; simp only [decide_eq_true_eq] at h ⊢; exact this h)
  generalize twN (fun x => decide (sd x < 0)) L = lo at *
  generalize twN (fun x => decide (sd x ≤ 0)) L = hi at *
  have HF : Hid _ := f2
  have hsl := fun w => cut_lh p n c lo hi f1 hto hc w
  generalize hp' : (if c = lo then p else p.map (·.add (lo * 6))) = p' at hsl
  have HP : Hid _ := hp'
  have hmf : ∀ (fn : Fn) (first cap : Array Value) (w : World), (Instr.makeFunc fn first cap).run Tryz.prog w = .ok (.func fn first cap) w := fun _ _ _ _ => rfl
  clear hf hm hR hB1 hB2 hl f2 hp' b2
  subst hW0
  have hll : (lo : Int) ≤ (hi : Int) := by omega
  have hhc : (hi : Int) ≤ (c : Int) := by omega
  go_enter Tryz.func120, Tryz.ntmps120
  go_wp2_with (first
    | (go_at_call 137; refine (k1 _ (Ext.refl _)).mono ?_; rintro e w1 ⟨rfl, hx1⟩; clear k1; have r1 := b1 _ hx1)
    | (go_at_call 137; refine (k2 _ hx1).mono ?_; rintro e w2 ⟨rfl, hx2⟩; clear k2; have r2 := b1 _ (hx1.trans hx2)))
  go_ret
  have hE := hA.trans (hx1.trans hx2)
  have hcut := HR0.out.cut f1 hto hc
  rw [HF.out, HP.out] at hcut
  exact ⟨_, _, _, rfl, by omega, hcut, hE⟩
end Go.Proofs.YtmoimkeeldlpkaaGreat.Rb

namespace Go.Proofs.YtmoimkeeldlpkaaGreat.Rb

open Go.Proofs.YtmoimkeeldlpkaaGreat

set_option linter.unusedVariables false

set_option linter.unusedSimpArgs false

/-- Whether an interface is up. -/
def upB (U : List Bool) (i : Int) : Bool := decide (0 ≤ i) && (U[i.toNat]?.getD false)

def okB (acc : Option Rt) (r : Rt) : Bool := match acc with
  | none => true
  | some b => betB r b

def stepB (U : List Bool) (acc : Option Rt) (r : Rt) : Option Rt := if (upB U r.i && okB acc r) = true then some r else acc

def bestL (U : List Bool) (R : List Rt) : Option Rt := R.foldl (stepB U) none

/-- Of this table and prefix. -/
def selB (t a l : Int) (r : Rt) : Bool := decide (r.t = t) && (decide (r.a = a) && decide (r.l = l))

def bestO (L : List Rt) (t a l : Int) (U : List Bool) : Option Rt := bestL U (L.filter (selB t a l))

def zeroR : Rt := ⟨0, 0, 0, 0, 0, 0⟩

def theR (o : Option Rt) : Rt := o.getD zeroR

theorem bestL_snoc (U : List Bool) (R : List Rt) (x : Rt) : bestL U (R ++ [x]) = stepB U (bestL U R) x := by
  unfold bestL
  rw [List.foldl_append]
  rfl

theorem bestL_take {U : List Bool} {R : List Rt} {k : Nat} {x : Rt} (h : R[k]? = some x) : bestL U (R.take (k + 1)) = stepB U (bestL U (R.take k)) x := by
  rw [← bestL_snoc]
  congr 1
  have hk := (List.getElem?_eq_some_iff.1 h).1
  rw [List.take_succ_eq_append_getElem hk, (List.getElem?_eq_some_iff.1 h).2]

/-- The document's round: all ways are looked at. -/
theorem bestO_take {U : List Bool} {L : List Rt} {k : Nat} {x : Rt} {t a l : Int} (h : L[k]? = some x) : bestO (L.take (k + 1)) t a l U = if selB t a l x = true then stepB U (bestO (L.take k) t a l U) x else bestO (L.take k) t a l U := by
  have hk := (List.getElem?_eq_some_iff.1 h).1
  unfold bestO
  rw [List.take_succ_eq_append_getElem hk, (List.getElem?_eq_some_iff.1 h).2, List.filter_append]
  by_cases hs : selB t a l x = true
  · rw [if_pos hs, List.filter_cons_of_pos hs, List.filter_nil, bestL_snoc]
  · rw [if_neg hs, List.filter_cons_of_neg hs, List.filter_nil, List.append_nil]

/-- What the best one is. -/
theorem bestL_mem {U : List Bool} : ∀ {R : List Rt} {o : Option Rt} {b : Rt}, R.foldl (stepB U) o = some b → o = some b ∨ (b ∈ R ∧ upB U b.i = true)
  | [], o, b, h => .inl h
  | x :: R, o, b, h => by
    rcases bestL_mem (R := R) h with h | h
    · unfold stepB at h
      split at h
      · rename_i hu
        simp only [Bool.and_eq_true] at hu
        cases h
        exact .inr ⟨by simp, hu.1⟩
      · exact .inl h
    · exact .inr ⟨by simp [h.1], h.2⟩

theorem bestL_is {U : List Bool} {R : List Rt} {b : Rt} (h : bestL U R = some b) : b ∈ R ∧ upB U b.i = true := by
  rcases bestL_mem h with h | h
  · cases h
  · exact h

theorem betB_asymm {x y : Rt} (h : betB x y = true) : betB y x = false := by
  rw [betB_iff] at h
  rw [betB_not]
  unfold Lt3 at *
  omega

theorem betB_irrefl (x : Rt) : betB x x = false := by
  rw [betB_not]
  unfold Lt3
  omega

theorem betB_not_trans {x y z : Rt} (h : betB x y = false) (k : betB y z = false) : betB x z = false := by
  rw [betB_not] at *
  unfold Lt3 at *
  omega

/-- None is better. -/
theorem bestL_no (U : List Bool) : ∀ (R : List Rt) (o : Option Rt), (∀ x ∈ R, upB U x.i = true → ∃ b, R.foldl (stepB U) o = some b ∧ betB x b = false) ∧ (∀ y, o = some y → ∃ b, R.foldl (stepB U) o = some b ∧ betB y b = false)
  | [], o => ⟨by simp, fun y hy => ⟨y, hy, betB_irrefl y⟩⟩
  | x :: R, o => by
    obtain ⟨ih1, ih2⟩ := bestL_no U R (stepB U o x)
    rw [List.foldl_cons]
    have hx : upB U x.i = true → ∃ b, stepB U o x = some b ∧ betB x b = false := fun hu => by
      unfold stepB
      rw [hu, Bool.true_and]
      cases o with
      | none => exact ⟨x, rfl, betB_irrefl x⟩
      | some y =>
        by_cases hb : betB x y = true
        · exact ⟨x, by simp [okB, hb], betB_irrefl x⟩
        · exact ⟨y, by simp [okB, hb], by simpa using hb⟩
    have hy : ∀ y, o = some y → ∃ b, stepB U o x = some b ∧ betB y b = false := fun y e => by
      subst e
      unfold stepB
      by_cases hu : upB U x.i = true
      · by_cases hb : betB x y = true
        · exact ⟨x, by simp [okB, hu, hb], betB_asymm hb⟩
        · exact ⟨y, by simp [okB, hb], betB_irrefl y⟩
      · exact ⟨y, by simp [hu], betB_irrefl y⟩
    constructor
    · intro z hz hu
      rcases List.mem_cons.1 hz with rfl | hz
      · obtain ⟨b, hb, h1⟩ := hx hu
        obtain ⟨b', hb', h2⟩ := ih2 b hb
        exact ⟨b', hb', betB_not_trans h1 h2⟩
      · exact ih1 z hz hu
    · intro y e
      obtain ⟨b, hb, h1⟩ := hy y e
      obtain ⟨b', hb', h2⟩ := ih2 b hb
      exact ⟨b', hb', betB_not_trans h1 h2⟩

theorem bestL_best {U : List Bool} {R : List Rt} {x : Rt} (hx : x ∈ R) (hu : upB U x.i = true) : ∃ b, bestL U R = some b ∧ betB x b = false := (bestL_no U R none).1 x hx hu

/-- Whether the way at a place is the first of its prefix, of this table. -/
def firstB (L : List Rt) (t : Int) (k : Nat) : Bool := match L[k]? with
  | none => false
  | some r => decide (r.t = t) && !(match k with
    | 0 => false
    | j + 1 => match L[j]? with
      | none => false
      | some q => selB t r.a r.l q)

/-- What is active of the first k. -/
def actN (L : List Rt) (t : Int) (U : List Bool) : Nat → List Rt
  | 0 => []
  | k + 1 => actN L t U k ++ (if firstB L t k = true then match L[k]? with
    | none => []
    | some r => (bestO L t r.a r.l U).toList
    else [])

def actL (L : List Rt) (t : Int) (U : List Bool) : List Rt := actN L t U L.length
end Go.Proofs.YtmoimkeeldlpkaaGreat.Rb

namespace Go.Proofs.YtmoimkeeldlpkaaGreat

open Go.RowKit

set_option linter.unusedVariables false

theorem setRow_extX (w : World) (g : Nat) (cs : Array Value) : ExtX g w (w.setRow g cs) :=
  ⟨rfl, rfl, rfl, by simp [World.setRow], fun k hk hne => setRow_other w g k cs (fun e => hne e)⟩

/-- A store of a whole struct, as an operation. -/
theorem wp_store {P : Program} {w : World} {o : Oper} {a : Act} {K : Act → World → Prop} {Q : Exit → Act → World → Prop} (t : TypeId) (x v : Operand) (hop : o.op = .store t x v) (hd : o.dst = none) (n g : Nat) (cs cur : Array Value) (t' : TypeId)
    (hx : a.eval x = .pointer (some ⟨g, 0, none⟩)) (hv : a.eval v = .agg cs) (hg : w.heap[g]? = some (.cells cur t' (0, 0))) (hi : (P.info? t).map (·.size) = some n) (hn : cs.size = n) (hs : cur.size = n) (h1 : ∀ v ∈ cs.toList, v.oneCell' = true)
    (h : ∀ w', ExtX g w w' → w'.heap[g]? = some (.cells cs t' (0, 0)) → K a w') : o.wp P a w K Q := by
  have hr := run_storeVar_row (P := P) w g t' t cur cs hg (by rw [hi, hn]) (by omega) (by rw [Array.all_eq_true']; intro v hv; exact h1 v (by simpa using hv))
  unfold Oper.wp
  simp only [execOp, hop, hx, hv, Instr.storeAt, Instr.sureAddr, Sem.run_bind, Sem.run_pure, Result.andThen, hr]
  show K (a.put o.dst undef) _
  rw [hd]
  exact h _ (setRow_extX w g cs) (setRow_heap w g cur cs t' _ hg)

/-- The same, at the head of a region's rest. -/
theorem wpl_store {P : Program} {w : World} {ops : Array Oper} {rest : List Oper} {o : Oper} {a : Act} {Q : Exit → Act → World → Prop} (hgd : Region.wanted o (yielded ops a.tmps) = true) (t : TypeId) (x v : Operand) (hop : o.op = .store t x v) (hd : o.dst = none) (n g : Nat) (cs cur : Array Value) (t' : TypeId)
    (hx : a.eval x = .pointer (some ⟨g, 0, none⟩)) (hv : a.eval v = .agg cs) (hg : w.heap[g]? = some (.cells cur t' (0, 0))) (hi : (P.info? t).map (·.size) = some n) (hn : cs.size = n) (hs : cur.size = n) (h1 : ∀ v ∈ cs.toList, v.oneCell' = true)
    (h : ∀ w', ExtX g w w' → w'.heap[g]? = some (.cells cs t' (0, 0)) → wpList P ops Q rest a w') : wpList P ops Q (o :: rest) a w :=
  wpList_want hgd fun K hK => wp_store t x v hop hd n g cs cur t' hx hv hg hi hn hs h1 fun w' h2 h3 => hK _ _ (h w' h2 h3)

/-- A load of a whole struct, as an operation. -/
theorem wp_load {P : Program} {w : World} {o : Oper} {a : Act} {K : Act → World → Prop} {Q : Exit → Act → World → Prop} (t : TypeId) (x : Operand) (hop : o.op = .load t x) (g : Nat) (cs : Array Value) (t' : TypeId) (d : TypeDesc)
    (hx : a.eval x = .pointer (some ⟨g, 0, none⟩)) (hg : w.heap[g]? = some (.cells cs t' (0, 0))) (hu : P.underlying t = some d) (hd : (match d with | .struct _ | .array _ _ => true | _ => false) = true) (hi : (P.info? t).map (·.size) = some cs.size)
    (h : K (a.put o.dst (.agg cs)) w) : o.wp P a w K Q := by
  have hr := run_loadVar_row (P := P) w g t' t cs (0, 0) d hg hu hd hi
  unfold Oper.wp
  simp only [execOp, hop, hx, Instr.loadAt, Instr.sureAddr, Sem.run_bind, Sem.run_pure, Result.andThen, hr]
  exact h

/-- The same, at the head of a region's rest. -/
theorem wpl_load {P : Program} {w : World} {ops : Array Oper} {rest : List Oper} {o : Oper} {a : Act} {Q : Exit → Act → World → Prop} (hgd : Region.wanted o (yielded ops a.tmps) = true) (t : TypeId) (x : Operand) (hop : o.op = .load t x) (g : Nat) (cs : Array Value) (t' : TypeId) (d : TypeDesc)
    (hx : a.eval x = .pointer (some ⟨g, 0, none⟩)) (hg : w.heap[g]? = some (.cells cs t' (0, 0))) (hu : P.underlying t = some d) (hd : (match d with | .struct _ | .array _ _ => true | _ => false) = true) (hi : (P.info? t).map (·.size) = some cs.size)
    (h : wpList P ops Q rest (a.put o.dst (.agg cs)) w) : wpList P ops Q (o :: rest) a w :=
  wpList_want hgd fun K hK => wp_load t x hop g cs t' d hx hg hu hd hi (hK _ _ h)

/-- What is answered: a struct's block, and a slot. -/
theorem results_two {P : Program} {fn : Func} {t u : Tmp} {ty : TypeId} (h : fn.results = #[.cell t ty, .tmp u]) {tmps : Array Value} {w : World} {g : Nat} {cs : Array Value} {t' : TypeId} (d : TypeDesc) (hp : tmps.getD t undef = .pointer (some ⟨g, 0, none⟩))
    (hg : w.heap[g]? = some (.cells cs t' (0, 0))) (hu : P.underlying ty = some d) (hd : (match d with | .struct _ | .array _ _ => true | _ => false) = true) (hi : (P.info? ty).map (·.size) = some cs.size) :
    (results fn tmps).run P w = .ok (.tuple #[.agg cs, tmps.getD u undef]) w := by
  have hr := run_loadVar_row (P := P) w g t' ty cs (0, 0) d hg hu hd hi
  have hp' : tmps[t]?.getD undef = .pointer (some ⟨g, 0, none⟩) := by simpa using hp
  simp [results, h, hp', asAddr, hr, Result.andThen]
end Go.Proofs.YtmoimkeeldlpkaaGreat

namespace Go.Proofs.YtmoimkeeldlpkaaGreat.Rb

set_option maxRecDepth 100000

open Go.RowKit Go.Proofs.YtmoimkeeldlpkaaGreat

set_option linter.unusedVariables false

set_option linter.unusedSimpArgs false

theorem side_table (tb : Nat) (t : Int) (x : Rt) (w : World) (ht : w.heap[tb]? = some (.cells #[.int .i64 t] 3 (0, 0))) :
    Calls Tryz.prog 121 (#[(.agg #[.int .i64 x.t, .int .u32 x.a, .int .i64 x.l, .int .i64 x.i, .int .u32 x.g, .int .i64 x.m])] ++ #[.pointer (some ⟨tb, 0, none⟩)]) w fun e w' => e = .returned (.int .i64 (cmpI x.t t)) ∧ Ext w w' := by
  have hA : Ext w (w.alloc (.cells #[.int .i64 x.t, .int .u32 x.a, .int .i64 x.l, .int .i64 x.i, .int .u32 x.g, .int .i64 x.m] 33)) := (Ext.refl w).alloc _
  obtain ⟨q0, q1, q2, q3, q4, q5⟩ := box_rtE (heap_new w (.cells #[.int .i64 x.t, .int .u32 x.a, .int .i64 x.l, .int .i64 x.i, .int .u32 x.g, .int .i64 x.m] 33))
  have p0 := q0 _ (Ext.refl _)
  have b0 := box1E ht _ hA
  have k1 := fun w => compare_int x.t t w
  clear q0 q1 q2 q3 q4 q5 ht
  go_enter Tryz.func121, Tryz.ntmps121
  go_wp2_with (go_at_call 114; refine (k1 _).mono ?_; rintro e w1 ⟨rfl, hx1⟩)
  go_ret
  exact ⟨rfl, hA.trans hx1⟩

theorem side_prefix (tb : Nat) (a l : Int) (x : Rt) (w : World) (ht : w.heap[tb]? = some (.cells #[.int .u32 a, .int .i64 l] 31 (0, 0))) :
    Calls Tryz.prog 122 (#[(.agg #[.int .i64 x.t, .int .u32 x.a, .int .i64 x.l, .int .i64 x.i, .int .u32 x.g, .int .i64 x.m])] ++ #[.pointer (some ⟨tb, 0, none⟩)]) w fun e w' => e = .returned (.int .i64 (ordP x.a x.l a l)) ∧ Ext w w' := by
  have hA : Ext w (w.alloc (.cells #[.int .i64 x.t, .int .u32 x.a, .int .i64 x.l, .int .i64 x.i, .int .u32 x.g, .int .i64 x.m] 33)) := (Ext.refl w).alloc _
  obtain ⟨q0, q1, q2, q3, q4, q5⟩ := box_rtE (heap_new w (.cells #[.int .i64 x.t, .int .u32 x.a, .int .i64 x.l, .int .i64 x.i, .int .u32 x.g, .int .i64 x.m] 33))
  have p1 := q1 _ (Ext.refl _)
  have p2 := q2 _ (Ext.refl _)
  obtain ⟨b0, b1⟩ := box2E ht
  have c0 := b0 _ hA
  have c1 := b1 _ hA
  have k1 := fun w => orderPrefix_any x.a x.l a l w
  clear q0 q1 q2 q3 q4 q5 ht b0 b1
  go_enter Tryz.func122, Tryz.ntmps122
  go_wp2_with (go_at_call 115; refine (k1 _).mono ?_; rintro e w1 ⟨rfl, hx1⟩)
  go_ret
  exact ⟨rfl, hA.trans hx1⟩

theorem mono_table {L : List Rt} (h : Srt L) (t : Int) : MonoP (fun x => cmpI x.t t) L := by
  refine List.Pairwise.imp (fun {x y} hxy => ?_) h
  rw [ltB_iff] at hxy
  have hle : x.t ≤ y.t := by unfold Lt5 at hxy; omega
  have e1 := cmpI_lt x.t t
  have e2 := cmpI_lt y.t t
  have e3 := cmpI_eq x.t t
  have e4 := cmpI_eq y.t t
  dsimp only
  omega

theorem mono_prefix {L : List Rt} (h : Srt L) (t : Int) (ht : ∀ x ∈ L, x.t = t) (a l : Int) : MonoP (fun x => ordP x.a x.l a l) L := by
  unfold MonoP
  refine List.Pairwise.imp_of_mem (fun {x y} hx hy hxy => ?_) h
  rw [ltB_iff] at hxy
  have hle : x.a < y.a ∨ (x.a = y.a ∧ x.l ≤ y.l) := by
    have := ht x hx
    have := ht y hy
    unfold Lt5 at hxy; omega
  have e1 := ordP_lt x.a x.l a l
  have e2 := ordP_lt y.a y.l a l
  have e3 := ordP_eq x.a x.l a l
  have e4 := ordP_eq y.a y.l a l
  dsimp only
  omega

theorem ofTable_any (p : Option Addr) (n c : Nat) (L : List Rt) (t : Int) (w0 w : World) (hR : Rd w0 p n c L) (h00 : Ext w0 w) (hc : n ≤ c) (hn : n ≤ 1000000) (hs : Srt L) :
    Calls Tryz.prog 97 #[.slice p n c, .int .i64 t] w (PartAns w0 w (L.filter fun x => decide (x.t = t))) := by
  have hA : Ext w (w.alloc (.cells #[.int .i64 t] 3)) := (Ext.refl w).alloc _
  have hB := heap_new w (.cells #[.int .i64 t] 3)
  have k1 := part_any 121 #[.pointer (some ⟨w.heap.size, 0, none⟩)] p n c L (fun x => cmpI x.t t) w0 (w.alloc (.cells #[.int .i64 t] 3)) enters_t hR (h00.trans hA) hc hn (mono_table hs t) (fun w' hx x => side_table w.heap.size t x w' (hx.heap hB))
  have hf : (fun x : Rt => decide (cmpI x.t t = 0)) = fun x => decide (x.t = t) := by
    funext x
    exact decide_eq_decide.2 (cmpI_eq x.t t)
  rw [hf] at k1
  have hmf : ∀ (fn : Fn) (first cap : Array Value) (w : World), (Instr.makeFunc fn first cap).run Tryz.prog w = .ok (.func fn first cap) w := fun _ _ _ _ => rfl
  clear hR hs hB hf h00
  go_enter Tryz.func97, Tryz.ntmps97
  go_wp2_with (go_at_call 120; refine k1.mono ?_; rintro e w1 ⟨p', n', c', rfl, h1, h2, h3⟩)
  go_ret
  exact ⟨p', n', c', rfl, h1, h2, hA.trans h3⟩

theorem ofPrefix_any (p : Option Addr) (n c : Nat) (L : List Rt) (t a l : Int) (w0 w : World) (hR : Rd w0 p n c L) (h00 : Ext w0 w) (hc : n ≤ c) (hn : n ≤ 1000000) (hs : Srt L) (ht : ∀ x ∈ L, x.t = t) :
    Calls Tryz.prog 98 #[.slice p n c, .agg #[.int .u32 a, .int .i64 l]] w (PartAns w0 w (L.filter (selB t a l))) := by
  have hA : Ext w (w.alloc (.cells #[.int .u32 a, .int .i64 l] 31)) := (Ext.refl w).alloc _
  have hB := heap_new w (.cells #[.int .u32 a, .int .i64 l] 31)
  have k1 := part_any 122 #[.pointer (some ⟨w.heap.size, 0, none⟩)] p n c L (fun x => ordP x.a x.l a l) w0 (w.alloc (.cells #[.int .u32 a, .int .i64 l] 31)) enters_p hR (h00.trans hA) hc hn (mono_prefix hs t ht a l) (fun w' hx x => side_prefix w.heap.size a l x w' (hx.heap hB))
  have hf : L.filter (fun x : Rt => decide (ordP x.a x.l a l = 0)) = L.filter (selB t a l) := by
    refine List.filter_congr fun x hx => ?_
    have h1 := ordP_eq x.a x.l a l
    have h2 := ht x hx
    unfold selB
    by_cases h : x.a = a ∧ x.l = l
    · simp [h2, h.1, h.2, ordP_eq]
    · have : ¬ ordP x.a x.l a l = 0 := fun e => h (h1.1 e)
      simp only [this, decide_false, h2, decide_true, Bool.true_and]
      symm
      rw [Bool.and_eq_false_iff]
      by_cases h3 : x.a = a
      · exact .inr (by simpa using fun e => h ⟨h3, e⟩)
      · exact .inl (by simpa using h3)
  rw [hf] at k1
  have hmf : ∀ (fn : Fn) (first cap : Array Value) (w : World), (Instr.makeFunc fn first cap).run Tryz.prog w = .ok (.func fn first cap) w := fun _ _ _ _ => rfl
  clear hR hs hB hf ht h00
  go_enter Tryz.func98, Tryz.ntmps98
  go_wp2_with (go_at_call 120; refine k1.mono ?_; rintro e w1 ⟨p', n', c', rfl, h1, h2, h3⟩)
  go_ret
  exact ⟨p', n', c', rfl, h1, h2, hA.trans h3⟩

/-- The slice (q, m) tells which interfaces are up. -/
structure Ups (w : World) (q : Option Addr) (m : Nat) (U : List Bool) : Prop where
  len : U.length = m
  small : m ≤ 1000000
  cells : m = 0 ∨ ∃ b off, q = some ⟨b, off, none⟩ ∧ ∀ (j : Nat) (u : Bool), U[j]? = some u → w.cell? ⟨b, off + j, none⟩ = some (.bool u)

theorem Ups.ext {w w' : World} {q : Option Addr} {m : Nat} {U : List Bool} (h : Ups w q m U) (hx : Ext w w') : Ups w' q m U := by
  refine ⟨h.len, h.small, ?_⟩
  rcases h.cells with h0 | ⟨b, off, rfl, hc⟩
  · exact .inl h0
  · exact .inr ⟨b, off, rfl, fun j u hj => by rw [hx.below.cell (p := ⟨b, off + j, none⟩) (block_lt (hc j u hj))]; exact hc j u hj⟩

theorem isUp_any (x : Rt) (q : Option Addr) (m d : Nat) (U : List Bool) (w : World) (hU : Ups w q m U) (h0 : 0 ≤ x.i) :
    Calls Tryz.prog 123 #[(.agg #[.int .i64 x.t, .int .u32 x.a, .int .i64 x.l, .int .i64 x.i, .int .u32 x.g, .int .i64 x.m]), .slice q m d] w fun e w' => e = .returned (.bool (upB U x.i)) ∧ Ext w w' := by
  have hA : Ext w (w.alloc (.cells #[.int .i64 x.t, .int .u32 x.a, .int .i64 x.l, .int .i64 x.i, .int .u32 x.g, .int .i64 x.m] 33)) := (Ext.refl w).alloc _
  obtain ⟨q0, q1, q2, q3, q4, q5⟩ := box_rtE (heap_new w (.cells #[.int .i64 x.t, .int .u32 x.a, .int .i64 x.l, .int .i64 x.i, .int .u32 x.g, .int .i64 x.m] 33))
  have p3 := q3 _ (Ext.refl _)
  have hl := hU.len
  clear q0 q1 q2 q3 q4 q5
  by_cases hlt : x.i < (m : Int)
  · have hn : x.i.toNat < U.length := by omega
    obtain ⟨u, hu⟩ : ∃ u, U[x.i.toNat]? = some u := ⟨_, List.getElem?_eq_getElem hn⟩
    have he : upB U x.i = u := by unfold upB; simp [h0, hu]
    rcases hU.cells with e | ⟨b, off, rfl, hc⟩
    · omega
    · have hcu : (w.alloc (.cells #[.int .i64 x.t, .int .u32 x.a, .int .i64 x.l, .int .i64 x.i, .int .u32 x.g, .int .i64 x.m] 33)).cell? ⟨b, off + x.i.toNat, none⟩ = some (.bool u) := by rw [hA.below.cell (p := ⟨b, off + x.i.toNat, none⟩) (block_lt (hc _ u hu))]; exact hc _ u hu
      rw [he]
      clear hc hu he hU hl hn
      go_enter Tryz.func123, Tryz.ntmps123
      go_wp2_with fail
      go_ret
      exact ⟨rfl, hA⟩
  · have he : upB U x.i = false := by
      unfold upB
      rw [List.getElem?_eq_none (by omega)]
      simp
    rw [he]
    clear hU hl he
    go_enter Tryz.func123, Tryz.ntmps123
    go_wp2_with fail
    go_ret
    exact ⟨rfl, hA⟩
end Go.Proofs.YtmoimkeeldlpkaaGreat.Rb
