/- Texts joined by a program: RfG, RfH, Law12K. -/
import Derived.Test.YtmoimkeeldlpkaaGreatJ10
import Derived.Test.YtmoimkeeldlpkaaGreatJ24
namespace Go.Proofs.YtmoimkeeldlpkaaGreat.Fb

set_option maxRecDepth 100000

open Go.RowKit Go.Proofs.YtmoimkeeldlpkaaGreat Go.Proofs.YtmoimkeeldlpkaaGreat.Rb

set_option linter.unusedVariables false

set_option linter.unusedSimpArgs false

theorem dset_ways {w w' : World} {xb : Nat} {L' : List Rt} {U : List Bool} {F : List Nat} {vR vU v' : Value} (h1 : w.heap[xb]? = some (.cells #[vR, vU] 53 (0, 0))) (h3 : OwnB w 0 vU U) (h4 : xb ∈ F) (h6 : ∀ x ∈ blks vU, x ∈ F) (h7 : ∀ x ∈ F, x < w.heap.size) (hx : Ext w w') (ho : OwnR w' 0 v' L') (hb : ∀ x ∈ blks v', x ∈ F ∨ w.heap.size ≤ x) : DocAns w xb F L' U (w'.setCell ⟨xb, 0, none⟩ v') := by
  have h1' := hx.heap h1
  have hS : ExtS [xb] w' (w'.setCell ⟨xb, 0, none⟩ v') := ExtS.setCell (ExtS.refl _ w') (p := ⟨xb, 0, none⟩) (.inl (by simp)) _
  refine ⟨F ++ blks v', ⟨v', vU, heap_set h1' v', ho.later hS fun x hx e => own_ne ho h1' (by decide) (by rw [List.mem_singleton.1 e] at hx; exact hx), (h3.ext hx).later hS fun x hx e => ownB_ne h3 h1 (by decide) (by rw [List.mem_singleton.1 e] at hx; exact hx), List.mem_append_left _ h4, fun x hx => List.mem_append_right _ hx, fun x hx => List.mem_append_left _ (h6 x hx), fun x hx' => ?_⟩, (hx.toS F).trans (hS.mono fun b hb => by rw [List.mem_singleton.1 hb]; exact h4), fun x hx' => ?_⟩
  · have := hS.size
    rcases List.mem_append.1 hx' with h | h
    · have := h7 x h; have := hx.size; omega
    · have := (ho.lt x h).2; omega
  · rcases List.mem_append.1 hx' with h | h
    · exact .inl h
    · exact hb x h

theorem dset_up {w w' : World} {xb : Nat} {L : List Rt} {U' : List Bool} {F : List Nat} {vR vU v' : Value} (h1 : w.heap[xb]? = some (.cells #[vR, vU] 53 (0, 0))) (h2 : OwnR w 0 vR L) (h4 : xb ∈ F) (h5 : ∀ x ∈ blks vR, x ∈ F) (h7 : ∀ x ∈ F, x < w.heap.size) (hx : Ext w w') (ho : OwnB w' w.heap.size v' U') : DocAns w xb F L U' (w'.setCell ⟨xb, 1, none⟩ v') := by
  have h1' := hx.heap h1
  have hS : ExtS [xb] w' (w'.setCell ⟨xb, 1, none⟩ v') := ExtS.setCell (ExtS.refl _ w') (p := ⟨xb, 1, none⟩) (.inl (by simp)) _
  refine ⟨F ++ blks v', ⟨vR, v', heap_set h1' v', (h2.ext hx).later hS fun x hx e => own_ne h2 h1 (by decide) (by rw [List.mem_singleton.1 e] at hx; exact hx), (ho.base (Nat.zero_le _)).later hS fun x hx e => ownB_ne ho h1' (by decide) (by rw [List.mem_singleton.1 e] at hx; exact hx), List.mem_append_left _ h4, fun x hx => List.mem_append_left _ (h5 x hx), fun x hx => List.mem_append_right _ hx, fun x hx' => ?_⟩, (hx.toS F).trans (hS.mono fun b hb => by rw [List.mem_singleton.1 hb]; exact h4), fun x hx' => ?_⟩
  · have := hS.size
    rcases List.mem_append.1 hx' with h | h
    · have := h7 x h; have := hx.size; omega
    · have := (ho.lt x h).2; omega
  · rcases List.mem_append.1 hx' with h | h
    · exact .inl h
    · exact .inr (ho.lt x h).1

theorem rib_new {w : World} {v : Value} {L : List Rt} (h : OwnR w 0 v L) : RibIn 50 [] (w.alloc (.cells #[v] 50)) w.heap.size v L := ⟨heap_new w _, h.ext ((Ext.refl w).alloc _)⟩

set_option maxHeartbeats 4000000 in
theorem dadd_any (xb : Nat) (L : List Rt) (U : List Bool) (F : List Nat) (r : Rt) (w : World) (h : DocAt w xb L U F) (hg : Rb.Good L) (hr : RtOk r) (h8 : U.length ≤ 8) :
    Calls Tryz.prog 34 #[.pointer (some ⟨xb, 0, none⟩), (.agg #[.int .i64 r.t, .int .u32 r.a, .int .i64 r.l, .int .i64 r.i, .int .u32 r.g, .int .i64 r.m])] w fun e w' => e = .returned (.int .i64 (addF L U r).1) ∧ DocAns w xb F (addF L U r).2 U w' := by
  have HD : Hid (DocAt w xb L U F) := h
  obtain ⟨vR, vU, h1, h2, h3, h4, h5, h6, h7⟩ := h
  obtain ⟨q, c, rfl, -, -⟩ := h3.slice
  obtain ⟨pR, cR, rfl, -, -, -⟩ := h2.slice
  have hA : Ext w (w.alloc (.cells #[.int .i64 r.t, .int .u32 r.a, .int .i64 r.l, .int .i64 r.i, .int .u32 r.g, .int .i64 r.m] 33)) := (Ext.refl w).alloc _
  have HQ : Hid _ := box_rtE (heap_new w (.cells #[.int .i64 r.t, .int .u32 r.a, .int .i64 r.l, .int .i64 r.i, .int .u32 r.g, .int .i64 r.m] 33))
  have HX : Hid (w.heap[xb]? = some (.cells #[.slice pR L.length cR, .slice q U.length c] 53 (0, 0)) ∧ OwnR w 0 (.slice pR L.length cR) L ∧ OwnB w 0 (.slice q U.length c) U ∧ xb ∈ F ∧ (∀ x ∈ blks (.slice pR L.length cR), x ∈ F) ∧ (∀ x ∈ blks (.slice q U.length c), x ∈ F) ∧ ∀ x ∈ F, x < w.heap.size) := ⟨h1, h2, h3, h4, h5, h6, h7⟩
  have HG : Hid (Rb.Good L ∧ RtOk r) := ⟨hg, hr⟩
  have HU8 : Hid (U.length ≤ 8) := h8
  have hgl := hg.len
  clear h1 h2 h3 h4 h5 h6 h7 hg hr h8
  obtain ⟨b0, b1, b2, b3, b4, b5⟩ := HQ.out
  cases hb : hasB U r.i with
  | false =>
    have ha : addF L U r = (1, L) := by unfold addF; rw [if_pos hb]
    rw [ha]
    have hb' := hb
    unfold hasB at hb'
    rw [Bool.and_eq_false_iff] at hb'
    clear ha hb
    by_cases hneg : r.i < 0
    · have hd : decide (r.i < 0) = true := decide_eq_true hneg
      go_enter Tryz.func34, Tryz.ntmps34
      go_wp2_with fail
      refine wp_region_eager [(0, false), (1, false), (2, false), (3, false), (4, false), (5, false), (6, false), (7, false), (8, false), (9, false), (10, false), (11, false), (12, false)] (by kernel_rfl) (by kernel_rfl) rfl (by kernel_rfl) (fun _ _ _ _ _ h => h) ?_
      have hxd : Ext (w.alloc (.cells #[.int .i64 r.t, .int .u32 r.a, .int .i64 r.l, .int .i64 r.i, .int .u32 r.g, .int .i64 r.m] 33)) (w.alloc (.cells #[.int .i64 r.t, .int .u32 r.a, .int .i64 r.l, .int .i64 r.i, .int .u32 r.g, .int .i64 r.m] 33)).drew := (Ext.refl _).drew
      have z3 : ∀ w', Ext (w.alloc (.cells #[.int .i64 r.t, .int .u32 r.a, .int .i64 r.l, .int .i64 r.i, .int .u32 r.g, .int .i64 r.m] 33)).drew w' → w'.cell? ⟨w.heap.size, 3, none⟩ = some (.int .i64 r.i) := fun w' h => b3 _ (hxd.trans h)
      generalize (w.alloc (.cells #[.int .i64 r.t, .int .u32 r.a, .int .i64 r.l, .int .i64 r.i, .int .u32 r.g, .int .i64 r.m] 33)).drew = W at *
      iterate 4 (refine wpE_read (v := ?_) rfl (by rfl) ?_ ?_; rotate_left; (focus (intro w' hx; go_simp; first | done | with_reducible rfl)); simp only [Act.put, List.setIfInBounds_toArray, List.set_cons_zero, List.set_cons_succ])
      iterate 8 (rw [wpE_skip_eq _ rfl (by rfl)]; simp only [Act.put, List.setIfInBounds_toArray, List.set_cons_zero, List.set_cons_succ])
      iterate 1 (refine wpE_read (v := ?_) rfl (by rfl) ?_ ?_; rotate_left; (focus (intro w' hx; go_simp; first | done | with_reducible rfl)); simp only [Act.put, List.setIfInBounds_toArray, List.set_cons_zero, List.set_cons_succ])
      refine wpE_done ?_
      go_wp2_with fail
      go_ret
      exact ⟨rfl, DocAns.same HD.out (hA.trans hxd)⟩
    · have hge : (U.length : Int) ≤ r.i := by
        rcases hb' with h | h
        · have := of_decide_eq_false h; omega
        · have := of_decide_eq_false h; omega
      have hd : decide (r.i < 0) = false := decide_eq_false hneg
      have hd2 : decide ((U.length : Int) ≤ r.i) = true := decide_eq_true hge
      clear hb'
      go_enter Tryz.func34, Tryz.ntmps34
      go_wp2_with fail
      refine wp_region_eager [(0, false), (1, false), (2, false), (3, false), (4, false), (5, false), (6, false), (7, false), (8, false), (9, false), (10, false), (11, false), (12, false)] (by kernel_rfl) (by kernel_rfl) rfl (by kernel_rfl) (fun _ _ _ _ _ h => h) ?_
      have hxd : Ext (w.alloc (.cells #[.int .i64 r.t, .int .u32 r.a, .int .i64 r.l, .int .i64 r.i, .int .u32 r.g, .int .i64 r.m] 33)) (w.alloc (.cells #[.int .i64 r.t, .int .u32 r.a, .int .i64 r.l, .int .i64 r.i, .int .u32 r.g, .int .i64 r.m] 33)).drew := (Ext.refl _).drew
      have z3 : ∀ w', Ext (w.alloc (.cells #[.int .i64 r.t, .int .u32 r.a, .int .i64 r.l, .int .i64 r.i, .int .u32 r.g, .int .i64 r.m] 33)).drew w' → w'.cell? ⟨w.heap.size, 3, none⟩ = some (.int .i64 r.i) := fun w' h => b3 _ (hxd.trans h)
      have e1 : ∀ w', Ext (w.alloc (.cells #[.int .i64 r.t, .int .u32 r.a, .int .i64 r.l, .int .i64 r.i, .int .u32 r.g, .int .i64 r.m] 33)).drew w' → w'.cell? ⟨xb, 1, none⟩ = some (.slice q U.length c) := fun w' h => by rw [heap_cell ((hA.trans (hxd.trans h)).heap HX.out.1)]; rfl
      generalize (w.alloc (.cells #[.int .i64 r.t, .int .u32 r.a, .int .i64 r.l, .int .i64 r.i, .int .u32 r.g, .int .i64 r.m] 33)).drew = W at *
      iterate 13 (refine wpE_read (v := ?_) rfl (by rfl) ?_ ?_; rotate_left; (focus (intro w' hx; go_simp; first | done | with_reducible rfl)); simp only [Act.put, List.setIfInBounds_toArray, List.set_cons_zero, List.set_cons_succ])
      refine wpE_done ?_
      go_wp2_with fail
      go_ret
      exact ⟨rfl, DocAns.same HD.out (hA.trans hxd)⟩
  | true =>
    have hb' := hb
    unfold hasB at hb'
    simp only [Bool.and_eq_true, decide_eq_true_eq] at hb'
    have hd : decide (r.i < 0) = false := decide_eq_false (by omega)
    have hd2 : decide ((U.length : Int) ≤ r.i) = false := decide_eq_false (by omega)
    have HB : Hid (hasB U r.i = true) := hb
    clear hb hb'
    go_enter Tryz.func34, Tryz.ntmps34
    go_wp2_with fail
    refine wp_region_eager [(0, false), (1, false), (2, false), (3, false), (4, false), (5, false), (6, false), (7, false), (8, false), (9, false), (10, false), (11, false), (12, false)] (by kernel_rfl) (by kernel_rfl) rfl (by kernel_rfl) (fun _ _ _ _ _ h => h) ?_
    have hxd : Ext (w.alloc (.cells #[.int .i64 r.t, .int .u32 r.a, .int .i64 r.l, .int .i64 r.i, .int .u32 r.g, .int .i64 r.m] 33)) (w.alloc (.cells #[.int .i64 r.t, .int .u32 r.a, .int .i64 r.l, .int .i64 r.i, .int .u32 r.g, .int .i64 r.m] 33)).drew := (Ext.refl _).drew
    have z3 : ∀ w', Ext (w.alloc (.cells #[.int .i64 r.t, .int .u32 r.a, .int .i64 r.l, .int .i64 r.i, .int .u32 r.g, .int .i64 r.m] 33)).drew w' → w'.cell? ⟨w.heap.size, 3, none⟩ = some (.int .i64 r.i) := fun w' h => b3 _ (hxd.trans h)
    have e1 : ∀ w', Ext (w.alloc (.cells #[.int .i64 r.t, .int .u32 r.a, .int .i64 r.l, .int .i64 r.i, .int .u32 r.g, .int .i64 r.m] 33)).drew w' → w'.cell? ⟨xb, 1, none⟩ = some (.slice q U.length c) := fun w' h => by rw [heap_cell ((hA.trans (hxd.trans h)).heap HX.out.1)]; rfl
    generalize (w.alloc (.cells #[.int .i64 r.t, .int .u32 r.a, .int .i64 r.l, .int .i64 r.i, .int .u32 r.g, .int .i64 r.m] 33)).drew = W at *
    iterate 13 (refine wpE_read (v := ?_) rfl (by rfl) ?_ ?_; rotate_left; (focus (intro w' hx; go_simp; first | done | with_reducible rfl)); simp only [Act.put, List.setIfInBounds_toArray, List.set_cons_zero, List.set_cons_succ])
    refine wpE_done ?_
    clear z3 e1 hd hd2
    have hwW : Ext w W := hA.trans hxd
    have HW : Hid (Ext w W) := hwW
    have e0 : W.cell? ⟨xb, 0, none⟩ = some (.slice pR L.length cR) := by rw [heap_cell (hwW.heap HX.out.1)]; rfl
    have hA2 : Ext W (W.alloc (.cells #[.slice pR L.length cR] 50)) := (Ext.refl W).alloc _
    have HA2 : Hid _ := hA2
    have hx2 : Ext (w.alloc (.cells #[.int .i64 r.t, .int .u32 r.a, .int .i64 r.l, .int .i64 r.i, .int .u32 r.g, .int .i64 r.m] 33)) (W.alloc (.cells #[.slice pR L.length cR] 50)) := hxd.trans hA2
    have y0 := b0 _ hx2
    have y1 := b1 _ hx2
    have y2 := b2 _ hx2
    have y3 := b3 _ hx2
    have y4 := b4 _ hx2
    have y5 := b5 _ hx2
    have cA := refAdd_in W.heap.size L 50 [] (.slice pR L.length cR) r (W.alloc (.cells #[.slice pR L.length cR] 50)) (by decide) (rib_new (HX.out.2.1.ext hwW)) hgl HG.out.2
    clear hxd hx2 hA2 hwW b0 b1 b2 b3 b4 b5
    by_cases he : addE L r = 0
    · have hs : Hid (addE L r = 0) := he
      rw [he] at cA
      clear he
      go_wp2_with (go_at_call 53; refine cA.mono ?_; rintro e w4 ⟨rfl, v', ⟨k1, k2⟩, k3, k4⟩; obtain ⟨p4, c4, hv4, -, -, -⟩ := k2.slice; subst hv4; have hx4 : Ext W w4 := ext_map ((Ext.refl W).alloc _) (Nat.le_refl _) k3; have H4 : Hid (Ext W w4 ∧ w4.heap[W.heap.size]? = some (.cells #[.slice p4 (addS L r).length c4] 50 (0, 0)) ∧ OwnR w4 0 (.slice p4 (addS L r).length c4) (addS L r)) := ⟨hx4, k1, k2⟩; have K4 : Hid _ := k4; have z1 : w4.cell? ⟨xb, 1, none⟩ = some (.slice q U.length c) := (by rw [heap_cell ((HW.out.trans hx4).heap HX.out.1)]; rfl); clear k1 k2 k3 k4 hx4)
      clear y0 y1 y2 y3 y4 y5 cA
      have hU4 : Ups w4 q U.length U := ((HX.out.2.2.1.ext (HW.out.trans H4.out.1)).ups (by have := HU8.out; omega))
      have cf := full_any W.heap.size (addS L r) 50 [] (.slice p4 (addS L r).length c4) q U.length c U w4 ⟨H4.out.2.1, H4.out.2.2⟩ (HG.out.1.add HG.out.2) hU4
      cases hf : fullB (addS L r) U with
      | true =>
        rw [hf] at cf
        have HF : Hid (fullB (addS L r) U = true) := hf
        clear hf hU4
        go_wp2_with (go_at_call 54; refine cf.mono ?_; rintro e w5 ⟨rfl, hx5⟩)
        go_ret
        have ha : addF L U r = (6, L) := by unfold addF; rw [if_neg (by rw [HB.out]; simp), if_pos hs.out, if_pos HF.out]
        rw [ha]
        exact ⟨rfl, DocAns.same HD.out (HW.out.trans (H4.out.1.trans hx5))⟩
      | false =>
        rw [hf] at cf
        have HF : Hid (fullB (addS L r) U = false) := hf
        clear hf hU4
        go_wp2_with (go_at_call 54; refine cf.mono ?_; rintro e w5 ⟨rfl, hx5⟩; have hX5 : w5.heap[xb]? = some (.cells #[.slice pR L.length cR, .slice q U.length c] 53 (0, 0)) := (HW.out.trans (H4.out.1.trans hx5)).heap HX.out.1; have q0 : w5.cell? ⟨xb, 0, none⟩ = some (.slice pR L.length cR) := (by rw [heap_cell hX5]; rfl); have f0 : w5.frozen? ⟨xb, 0, none⟩ = false := heap_frozen hX5; have q1 : w5.cell? ⟨W.heap.size, 0, none⟩ = some (.slice p4 (addS L r).length c4) := (by rw [heap_cell (hx5.heap H4.out.2.1)]; rfl); have HX5 : Hid (Ext w4 w5) := hx5; clear hX5 hx5)
        go_ret
        have ha : addF L U r = (0, addS L r) := by unfold addF; rw [if_neg (by rw [HB.out]; simp), if_pos hs.out, if_neg (by rw [HF.out]; simp)]
        rw [ha]
        refine ⟨rfl, dset_ways HX.out.1 HX.out.2.2.1 HX.out.2.2.2.1 HX.out.2.2.2.2.2.1 HX.out.2.2.2.2.2.2 (HW.out.trans (H4.out.1.trans HX5.out)) (H4.out.2.2.ext HX5.out) fun x hx => ?_⟩
        rcases K4.out with h | h
        · rw [h] at hx; exact .inl (HX.out.2.2.2.2.1 x hx)
        · have := h x hx
          have := HW.out.size
          have hsz : (W.alloc (.cells #[.slice pR L.length cR] 50)).heap.size = W.heap.size + 1 := by simp
          exact .inr (by omega)
    · have ha : addF L U r = (addE L r, L) := by unfold addF; rw [if_neg (by rw [HB.out]; simp), if_neg he]
      have HA : Hid (addF L U r = (addE L r, L)) := ha
      have hne : ¬ (addE L r = 0) := he
      clear ha he
      generalize addE L r = er at *
      go_wp2_with (go_at_call 53; refine cA.mono ?_; rintro e w4 ⟨rfl, v', ⟨k1, k2⟩, k3, k4⟩; have hx4 : Ext W w4 := ext_map ((Ext.refl W).alloc _) (Nat.le_refl _) k3; have H4 : Hid (Ext W w4) := hx4; clear k1 k2 k3 k4 hx4)
      go_ret
      rw [HA.out]
      exact ⟨rfl, DocAns.same HD.out (HW.out.trans H4.out)⟩

set_option maxHeartbeats 4000000 in
theorem dsetUp_any (xb : Nat) (L : List Rt) (U : List Bool) (F : List Nat) (i : Int) (b : Bool) (w : World) (h : DocAt w xb L U F) (hg : Rb.Good L) (h8 : U.length ≤ 8) :
    Calls Tryz.prog 36 #[.pointer (some ⟨xb, 0, none⟩), .int .i64 i, .bool b] w fun e w' => e = .returned (.int .i64 (setF L U i b).1) ∧ DocAns w xb F L (setF L U i b).2 w' := by
  have HD : Hid (DocAt w xb L U F) := h
  obtain ⟨vR, vU, h1, h2, h3, h4, h5, h6, h7⟩ := h
  obtain ⟨q, c, rfl, -, hS⟩ := h3.slice
  have HX : Hid (w.heap[xb]? = some (.cells #[vR, .slice q U.length c] 53 (0, 0)) ∧ OwnR w 0 vR L ∧ OwnB w 0 (.slice q U.length c) U ∧ xb ∈ F ∧ (∀ x ∈ blks vR, x ∈ F) ∧ (∀ x ∈ blks (.slice q U.length c), x ∈ F) ∧ ∀ x ∈ F, x < w.heap.size) := ⟨h1, h2, h3, h4, h5, h6, h7⟩
  have e1 : w.cell? ⟨xb, 1, none⟩ = some (.slice q U.length c) := by rw [heap_cell h1]; rfl
  have HG : Hid (Rb.Good L) := hg
  have HU8 : Hid (U.length ≤ 8) := h8
  have HSR : Hid (Tri.Src w 1 q U.length c (U.map Value.bool)) := hS
  clear h1 h2 h3 h4 h5 h6 h7 hg h8 hS
  cases hb : hasB U i with
  | false =>
    have ha : setF L U i b = (1, U) := by unfold setF; rw [if_pos hb]
    rw [ha]
    have hb' := hb
    unfold hasB at hb'
    rw [Bool.and_eq_false_iff] at hb'
    clear ha hb
    by_cases hneg : i < 0
    · clear hb'
      go_enter Tryz.func36, Tryz.ntmps36
      go_wp2_with fail
      go_ret
      exact ⟨rfl, DocAns.same HD.out (Ext.refl w)⟩
    · have hge : (U.length : Int) ≤ i := by
        rcases hb' with h | h
        · have := of_decide_eq_false h; omega
        · have := of_decide_eq_false h; omega
      clear hb'
      go_enter Tryz.func36, Tryz.ntmps36
      go_wp2_with fail
      go_ret
      exact ⟨rfl, DocAns.same HD.out (Ext.refl w)⟩
  | true =>
    have hb' := hb
    unfold hasB at hb'
    simp only [Bool.and_eq_true, decide_eq_true_eq] at hb'
    obtain ⟨j, rfl⟩ : ∃ j : Nat, i = (j : Int) := ⟨i.toNat, by omega⟩
    have hj : j < U.length := by omega
    have hji : (j : Int) < (U.length : Int) := hb'.2
    have hjn : ¬ ((j : Int) < 0) := by omega
    obtain ⟨u, huj⟩ : ∃ u, U[j]? = some u := ⟨_, List.getElem?_eq_getElem hj⟩
    have HU : Hid (U[j]? = some u) := huj
    have HB : Hid (hasB U (j : Int) = true) := hb
    have HJ : Hid (j < U.length) := hj
    have hA : Ext w (w.alloc (.cells #[] 4)) := (Ext.refl w).alloc _
    have HB0 : Hid _ := heap_new w (.cells #[] 4)
    have z1 : (w.alloc (.cells #[] 4)).cell? ⟨xb, 1, none⟩ = some (.slice q U.length c) := by rw [heap_cell (hA.heap HX.out.1)]; rfl
    have HR1 : Hid (Tri.Src (w.alloc (.cells #[] 4)) 1 q U.length c (U.map Value.bool)) := HSR.out.ext (by omega) hA
    obtain ⟨ib, hi, hz, hsz, hby⟩ := info_bool
    have HI : Hid (Tryz.prog.info? 4 = some ib ∧ ib.zero = some (.bool false) ∧ ib.size = 1 ∧ ib.bytes = 1) := ⟨hi, hz, hsz, hby⟩
    clear hb hb' hj huj hi hz hsz hby
    go_enter Tryz.func36, Tryz.ntmps36
    go_wp2_with (at_builtin; refine wpList_want rfl (fun K hK => Tri.wp_app_lit (.tmp 19) (.tmp 23) _ _ ib _ 1 1 rfl Tryz.underlying51 HI.out.1 HI.out.2.1 HI.out.2.2.1 HI.out.2.2.2 rfl (by omega) (by omega) w.heap.size rfl HB0.out w.heap.size (Nat.le_refl _) q U.length c (U.map Value.bool) rfl HR1.out (by have := HU8.out; omega) ?_); intro v2 w2 ho2 hne2 hx2; refine hK _ _ ?_; clear hK K; have hO2 : OwnB w2 w.heap.size v2 U := ho2; obtain ⟨g, c2, cur, rfl, hgB, hg, hcu⟩ := hO2.block (by have := HJ.out; omega); have s0 : w2.cell? ⟨g, j, none⟩ = some (.bool u) := (by rw [heap_cell hg]; exact hcu j u HU.out); have f0 : w2.frozen? ⟨g, j, none⟩ = false := heap_frozen hg; have HO2 : Hid (OwnB w2 w.heap.size (.slice (some ⟨g, 0, none⟩) U.length c2) U) := hO2; have hx02 : Ext w w2 := hA.trans hx2; have HX2 : Hid (Ext w w2 ∧ w.heap.size ≤ g) := ⟨hx02, hgB⟩; clear ho2 hne2 hx2 hO2 hg hgB hcu hx02)
    have hx3 : Ext w (w2.setCell ⟨g, j, none⟩ (.bool b)) := ext_map HX2.out.1 HX2.out.2 (ExtS.setCell (ExtS.refl [g] w2) (p := ⟨g, j, none⟩) (.inl (by simp)) _)
    have HX3 : Hid _ := hx3
    have hl3 : (U.set j b).length = U.length := List.length_set ..
    have hO3 : OwnB (w2.setCell ⟨g, j, none⟩ (.bool b)) w.heap.size (.slice (some ⟨g, 0, none⟩) U.length c2) (U.set j b) := HO2.out.put b (i := j)
    have HO3 : Hid (OwnB (w2.setCell ⟨g, j, none⟩ (.bool b)) w.heap.size (.slice (some ⟨g, 0, none⟩) U.length c2) (U.set j b)) := hO3
    have hU3 : Ups (w2.setCell ⟨g, j, none⟩ (.bool b)) (some ⟨g, 0, none⟩) U.length (U.set j b) := hO3.ups (by rw [hl3]; have := HU8.out; omega)
    have cf := full_any xb L 53 [.slice q U.length c] vR (some ⟨g, 0, none⟩) U.length c2 (U.set j b) (w2.setCell ⟨g, j, none⟩ (.bool b)) ⟨hx3.heap HX.out.1, HX.out.2.1.ext hx3⟩ HG.out hU3
    clear s0 f0 z1 e1 hA hO3 hU3 hx3
    generalize (w2.setCell ⟨g, j, none⟩ (.bool b)) = w3 at *
    cases hf : fullB L (U.set j b) with
    | true =>
      rw [hf] at cf
      have HF : Hid (fullB L (U.set j b) = true) := hf
      clear hf
      go_wp2_with (go_at_call 54; refine cf.mono ?_; rintro e w5 ⟨rfl, hx5⟩)
      go_ret
      have ha : setF L U (j : Int) b = (6, U) := by unfold setF; rw [if_neg (by rw [HB.out]; simp), if_pos (by rw [Int.toNat_natCast]; exact HF.out)]
      rw [ha]
      exact ⟨rfl, DocAns.same HD.out (Ext.trans HX3.out hx5)⟩
    | false =>
      rw [hf] at cf
      have HF : Hid (fullB L (U.set j b) = false) := hf
      clear hf
      go_wp2_with (go_at_call 54; refine cf.mono ?_; rintro e w5 ⟨rfl, hx5⟩; have hX5 : w5.heap[xb]? = some (.cells #[vR, .slice q U.length c] 53 (0, 0)) := (Ext.trans HX3.out hx5).heap HX.out.1; have q0 : w5.cell? ⟨xb, 1, none⟩ = some (.slice q U.length c) := (by rw [heap_cell hX5]; rfl); have f0 : w5.frozen? ⟨xb, 1, none⟩ = false := heap_frozen hX5; have HX5 : Hid (Ext w3 w5) := hx5; clear hX5 hx5)
      go_ret
      have ha : setF L U (j : Int) b = (0, U.set j b) := by unfold setF; rw [if_neg (by rw [HB.out]; simp), if_neg (by rw [Int.toNat_natCast, HF.out]; simp), Int.toNat_natCast]
      rw [ha]
      exact ⟨rfl, dset_up HX.out.1 HX.out.2.1 HX.out.2.2.2.1 HX.out.2.2.2.2.1 HX.out.2.2.2.2.2.2 (Ext.trans HX3.out HX5.out) (HO3.out.ext HX5.out)⟩
end Go.Proofs.YtmoimkeeldlpkaaGreat.Fb

namespace Go.Proofs.YtmoimkeeldlpkaaGreat.Fb

set_option maxRecDepth 100000

open Go.RowKit Go.Proofs.YtmoimkeeldlpkaaGreat Go.Proofs.YtmoimkeeldlpkaaGreat.Rb

open Go.Proofs.YtmoimkeeldlpkaaGreat.Tri (PX Vp cov has_cov)

set_option linter.unusedVariables false

set_option linter.unusedSimpArgs false

/-! Plainly: the longest one, as the document looks for it. -/

def longB (acc : Option Rt) (r : Rt) : Bool := match acc with
  | none => true
  | some b => decide (b.l < r.l)

def stepD (a : Int) (acc : Option Rt) (r : Rt) : Option Rt := if (hasV r.a r.l a && longB acc r) = true then some r else acc

def lookD (A : List Rt) (a : Int) : Option Rt := A.foldl (stepD a) none

theorem lookD_take {A : List Rt} {a : Int} {k : Nat} {x : Rt} (h : A[k]? = some x) : lookD (A.take (k + 1)) a = stepD a (lookD (A.take k) a) x := by
  rw [List.take_add_one, h]
  unfold lookD
  rw [List.foldl_append]
  rfl

theorem way_step {A : List Rt} {a : Int} {o : Option Rt} {x : Rt} (h : IsWay A a o) : IsWay (A ++ [x]) a (stepD a o x) := by
  have hc : ∀ s : Rt, cov (pxR s) (a, 32) = hasV s.a s.l a := fun s => has_cov (pxR s) a
  unfold stepD
  split
  · rename_i ht
    rw [Bool.and_eq_true] at ht
    refine ⟨by simp, by rw [hc]; exact ht.1, fun s hs hcs => ?_⟩
    rcases List.mem_append.1 hs with hs | hs
    · cases o with
      | none => have := h s hs; rw [hcs] at this; cases this
      | some b =>
        have h1 := h.2.2 s hs hcs
        have h2 : b.l < x.l := by simpa [longB] using ht.2
        omega
    · rw [List.mem_singleton.1 hs]; exact Int.le_refl _
  · rename_i ht
    cases o with
    | none =>
      intro s hs
      rcases List.mem_append.1 hs with hs | hs
      · exact h s hs
      · rw [List.mem_singleton.1 hs, hc]
        cases hh : hasV x.a x.l a with
        | false => rfl
        | true => rw [hh] at ht; exact absurd rfl ht
    | some b =>
      refine ⟨List.mem_append_left _ h.1, h.2.1, fun s hs hcs => ?_⟩
      rcases List.mem_append.1 hs with hs | hs
      · exact h.2.2 s hs hcs
      · rw [List.mem_singleton.1 hs] at hcs ⊢
        rw [hc] at hcs
        rw [hcs] at ht
        have h2 : ¬ b.l < x.l := by simpa [longB] using ht
        omega

theorem lookD_way (A : List Rt) (a : Int) : ∀ k, k ≤ A.length → IsWay (A.take k) a (lookD (A.take k) a)
  | 0, _ => fun s hs => by cases hs
  | k + 1, h => by
    obtain ⟨x, hx⟩ : ∃ x, A[k]? = some x := ⟨_, List.getElem?_eq_getElem (by omega)⟩
    rw [lookD_take hx, List.take_add_one, hx]
    exact way_step (lookD_way A a k (by omega))

theorem lookD_is {A : List Rt} (h : Pf A) {a : Int} (a0 : 0 ≤ a) (a1 : a ≤ 4294967295) : lookD A a = lookO A a := by
  have h1 := lookD_way A a A.length (Nat.le_refl _)
  rw [List.take_of_length_le (Nat.le_refl _)] at h1
  exact way_unique h a0 a1 h1 (look_way h a0 a1)

set_option maxHeartbeats 8000000 in
theorem dlook_any (xb : Nat) (t a : Int) (L : List Rt) (U : List Bool) (F : List Nat) (w : World) (h : DocAt w xb L U F) (hg : Rb.Good L) (h8 : U.length ≤ 8) (a0 : 0 ≤ a) (a1 : a ≤ 4294967295) :
    Calls Tryz.prog 17 #[.pointer (some ⟨xb, 0, none⟩), .int .i64 t, .int .u32 a] w (BestAns w (wayO L U t a)) := by
  obtain ⟨vR, vU, h1, h2, h3, h4, h5, h6, h7⟩ := h
  obtain ⟨q, c, rfl, -, -⟩ := h3.slice
  have hU := h3.ups (by omega)
  have HX : Hid _ := h1
  have ca := fun w' (hx : Ext w w') => refActive_in xb L 53 [.slice q U.length c] vR t q U.length c U w' (⟨hx.heap h1, h2.ext hx⟩ : RibIn 53 [.slice q U.length c] w' xb vR L) (by have := hg.len; omega) (hU.ext hx)
  have hpf := act_pf hg t U
  have hway : wayO L U t a = lookD (actL L t U) a := (lookD_is hpf a0 a1).symm
  rw [hway]
  have HA : Hid (Pf (actL L t U)) := hpf
  have hla := hpf.len
  clear h2 h3 h4 h5 h6 h7 hU h1 hg hpf hway
  generalize actL L t U = A at *
  have hAl : Ext w (w.alloc (.cells #[.int .i64 0, .int .u32 0, .int .i64 0, .int .i64 0, .int .u32 0, .int .i64 0] 33)) := (Ext.refl w).alloc _
  have HB : Hid ((w.alloc (.cells #[.int .i64 0, .int .u32 0, .int .i64 0, .int .i64 0, .int .u32 0, .int .i64 0] 33)).heap[w.heap.size]? = some (.cells #[.int .i64 0, .int .u32 0, .int .i64 0, .int .i64 0, .int .u32 0, .int .i64 0] 33 (0, 0))) := heap_new w _
  go_enter Tryz.func17, Tryz.ntmps17
  go_wp2_with fail
  refine wp_region_eager [(0, false), (1, false), (2, false), (3, false), (4, false), (5, false), (6, false), (7, false), (8, true), (9, false)] (by kernel_rfl) (by kernel_rfl) rfl (by kernel_rfl) (fun _ _ _ _ _ h => h) ?_
  have hxd : Ext w (w.alloc (.cells #[.int .i64 0, .int .u32 0, .int .i64 0, .int .i64 0, .int .u32 0, .int .i64 0] 33)).drew := hAl.drew
  have HBd : Hid ((w.alloc (.cells #[.int .i64 0, .int .u32 0, .int .i64 0, .int .i64 0, .int .u32 0, .int .i64 0] 33)).drew.heap[w.heap.size]? = some (.cells #[.int .i64 0, .int .u32 0, .int .i64 0, .int .i64 0, .int .u32 0, .int .i64 0] 33 (0, 0))) := HB.out
  have e1 : ∀ w', Ext (w.alloc (.cells #[.int .i64 0, .int .u32 0, .int .i64 0, .int .i64 0, .int .u32 0, .int .i64 0] 33)).drew w' → w'.cell? ⟨xb, 1, none⟩ = some (.slice q U.length c) := fun w' h => by rw [heap_cell ((hxd.trans h).heap HX.out)]; rfl
  generalize (w.alloc (.cells #[.int .i64 0, .int .u32 0, .int .i64 0, .int .i64 0, .int .u32 0, .int .i64 0] 33)).drew = W at *
  iterate 8 (refine wpE_read (v := ?_) rfl (by rfl) ?_ ?_; rotate_left; (focus (intro w' hx; go_simp; first | done | with_reducible rfl)); simp only [Act.put, List.setIfInBounds_toArray, List.set_cons_zero, List.set_cons_succ])
  (refine wpE_call rfl (by rfl) (fun K hK => ?_); go_simp; first | (go_at_call 39; refine (ca W hxd).mono ?_; rintro e w1 ⟨v1, rfl, ho1, hx1⟩; obtain ⟨p1, c1, rfl, -, -, hR1⟩ := ho1.slice; refine hK _ _ hx1 ?_; clear hK K))
  iterate 1 (refine wpE_read (v := ?_) rfl (by rfl) ?_ ?_; rotate_left; (focus (intro w' hx; go_simp; first | done | with_reducible rfl)); simp only [Act.put, List.setIfInBounds_toArray, List.set_cons_zero, List.set_cons_succ])
  refine wpE_done ?_
  have H1 : Hid (Ext w w1 ∧ Rd w1 p1 A.length c1 A ∧ w1.heap[w.heap.size]? = some (.cells #[.int .i64 0, .int .u32 0, .int .i64 0, .int .i64 0, .int .u32 0, .int .i64 0] 33 (0, 0))) := ⟨hxd.trans hx1, hR1, hx1.heap HBd.out⟩
  clear ca e1 hxd HBd HB hAl hx1 hR1 ho1
  go_wp2_with fail
  go_loopg [9, 10] A.length (fun kx s9 s10 wr => ∃ (k : Nat) (o : Option Rt) (z : Int), s10 = .int .i64 k ∧ s9 = .int .i64 z ∧ k ≤ A.length ∧ A.length - k ≤ kx ∧ Ext w1 wr ∧ Hid (o = lookD (A.take k) a) ∧ Hid (Idx A o z))
  case atStart => exact ⟨0, none, -1, rfl, rfl, Nat.zero_le _, by omega, Ext.refl _, (rfl : none = lookD (A.take 0) a), (.inl ⟨rfl, rfl⟩ : Idx A none (-1))⟩
  case round =>
    obtain ⟨k, o, z, rfl, rfl, hkn, hkx, hx, HO, HZ⟩ := hrel
    by_cases hlt : k < A.length
    · obtain ⟨x, hxk⟩ : ∃ x, A[k]? = some x := ⟨_, List.getElem?_eq_getElem hlt⟩
      have hst := lookD_take (a := a) hxk
      rw [← HO.out] at hst
      obtain ⟨b, off, rfl, hb, g0, g1, g2, g3, g4, g5⟩ := (H1.out.2.1.ext hx).cell hxk
      have HXK : Hid _ := hxk
      have HT : Hid _ := hst
      have hki : (k : Int) < (A.length : Int) := by omega
      obtain ⟨xa0, xa1⟩ := px_bd (HA.out.vp x (List.mem_of_getElem? hxk))
      have kh := fun w' => refHas_any x.a x.l a w' xa0 xa1 a0 a1
      have hd : Ext wr wr.drew := (Ext.refl wr).drew
      have x1 : ∀ w', Ext wr.drew w' → w'.cell? ⟨b, off + k * 6 + 1, none⟩ = some (.int .u32 x.a) := fun w' h => by rw [(hd.trans h).below.cell (p := ⟨b, off + k * 6 + 1, none⟩) hb]; exact g1
      have x2 : ∀ w', Ext wr.drew w' → w'.cell? ⟨b, off + k * 6 + 2, none⟩ = some (.int .i64 x.l) := fun w' h => by rw [(hd.trans h).below.cell (p := ⟨b, off + k * 6 + 2, none⟩) hb]; exact g2
      clear hxk hst g0 g1 g2 g3 g4 g5
      cases hh : hasV x.a x.l a with
      | false =>
        rw [hh] at kh
        have ho : stepD a o x = o := by unfold stepD; rw [hh]; simp
        have HOO : Hid _ := ho
        clear hh ho
        go_wp2_with fail
        refine wp_region_eager [(0, false), (1, false), (2, false), (3, false), (4, false), (5, false), (6, true), (7, false), (8, false), (9, false), (10, false), (11, false), (12, false), (13, false), (14, false), (15, false), (16, false), (17, false), (18, false), (19, false), (20, false), (21, false), (22, false), (23, false), (24, false), (25, false)] (by kernel_rfl) (by kernel_rfl) rfl (by kernel_rfl) (fun _ _ _ _ _ h => h) ?_
        have hxd : Ext w1 wr.drew := hx.drew
        generalize wr.drew = W2 at *
        iterate 6 (refine wpE_read (v := ?_) rfl (by rfl) ?_ ?_; rotate_left; (focus (intro w' hx; go_simp; first | done | with_reducible rfl)); simp only [Act.put, List.setIfInBounds_toArray, List.set_cons_zero, List.set_cons_succ])
        (refine wpE_call rfl (by rfl) (fun K hK => ?_); go_simp; first | (go_at_call 28; refine (kh _).mono ?_; rintro e w3 ⟨rfl, hx3⟩; refine hK _ _ hx3 ?_; clear hK K))
        iterate 1 (refine wpE_read (v := ?_) rfl (by rfl) ?_ ?_; rotate_left; (focus (intro w' hx; go_simp; first | done | with_reducible rfl)); simp only [Act.put, List.setIfInBounds_toArray, List.set_cons_zero, List.set_cons_succ])
        iterate 17 (rw [wpE_skip_eq _ rfl (by rfl)]; simp only [Act.put, List.setIfInBounds_toArray, List.set_cons_zero, List.set_cons_succ])
        iterate 1 (refine wpE_read (v := ?_) rfl (by rfl) ?_ ?_; rotate_left; (focus (intro w' hx; go_simp; first | done | with_reducible rfl)); simp only [Act.put, List.setIfInBounds_toArray, List.set_cons_zero, List.set_cons_succ])
        refine wpE_done ?_
        go_wp2_with fail
        go_roundg (A.length - (k + 1))
        case measure => omega
        case rel => exact ⟨k + 1, o, z, by go_num, rfl, by omega, Nat.le_refl _, hxd.trans hx3, (by rw [HT.out, HOO.out] : o = lookD (A.take (k + 1)) a), HZ⟩
      | true =>
        rw [hh] at kh
        rcases HZ.out with ⟨ho0, hz⟩ | ⟨j, y, hz, hj, hy, ho0⟩
        · have ho : stepD a o x = some x := by unfold stepD; rw [hh, ho0]; rfl
          have HOO : Hid _ := ho
          subst hz
          clear hh ho ho0
          go_wp2_with fail
          refine wp_region_eager [(0, false), (1, false), (2, false), (3, false), (4, false), (5, false), (6, true), (7, false), (8, false), (9, false), (10, false), (11, false), (12, false), (13, false), (14, false), (15, false), (16, false), (17, false), (18, false), (19, false), (20, false), (21, false), (22, false), (23, false), (24, false), (25, false)] (by kernel_rfl) (by kernel_rfl) rfl (by kernel_rfl) (fun _ _ _ _ _ h => h) ?_
          have hxd : Ext w1 wr.drew := hx.drew
          generalize wr.drew = W2 at *
          iterate 6 (refine wpE_read (v := ?_) rfl (by rfl) ?_ ?_; rotate_left; (focus (intro w' hx; go_simp; first | done | with_reducible rfl)); simp only [Act.put, List.setIfInBounds_toArray, List.set_cons_zero, List.set_cons_succ])
          (refine wpE_call rfl (by rfl) (fun K hK => ?_); go_simp; first | (go_at_call 28; refine (kh _).mono ?_; rintro e w3 ⟨rfl, hx3⟩; refine hK _ _ hx3 ?_; clear hK K))
          iterate 4 (refine wpE_read (v := ?_) rfl (by rfl) ?_ ?_; rotate_left; (focus (intro w' hx; go_simp; first | done | with_reducible rfl)); simp only [Act.put, List.setIfInBounds_toArray, List.set_cons_zero, List.set_cons_succ])
          iterate 13 (rw [wpE_skip_eq _ rfl (by rfl)]; simp only [Act.put, List.setIfInBounds_toArray, List.set_cons_zero, List.set_cons_succ])
          iterate 2 (refine wpE_read (v := ?_) rfl (by rfl) ?_ ?_; rotate_left; (focus (intro w' hx; go_simp; first | done | with_reducible rfl)); simp only [Act.put, List.setIfInBounds_toArray, List.set_cons_zero, List.set_cons_succ])
          refine wpE_done ?_
          go_wp2_with fail
          go_roundg (A.length - (k + 1))
          case measure => omega
          case rel => exact ⟨k + 1, some x, (k : Int), by go_num, rfl, by omega, Nat.le_refl _, hxd.trans hx3, (by rw [HT.out, HOO.out] : some x = lookD (A.take (k + 1)) a), (.inr ⟨k, x, rfl, hlt, HXK.out, rfl⟩ : Idx A (some x) (k : Int))⟩
        · subst hz
          obtain ⟨b', off', hp', hb', y0, y1, y2, y3, y4, y5⟩ := (H1.out.2.1.ext hx).cell hy
          cases hp'
          have hjn : decide ((j : Int) < 0) = false := decide_eq_false (by omega)
          have hji : (j : Int) < (A.length : Int) := by omega
          have hj0 : ¬ ((j : Int) < 0) := by omega
          have z2 : ∀ w', Ext wr.drew w' → w'.cell? ⟨b, off + j * 6 + 2, none⟩ = some (.int .i64 y.l) := fun w' h => by rw [(hd.trans h).below.cell (p := ⟨b, off + j * 6 + 2, none⟩) hb]; exact y2
          clear y0 y1 y2 y3 y4 y5 hb'
          by_cases hl : y.l < x.l
          · have hdl : decide (y.l < x.l) = true := decide_eq_true hl
            have ho : stepD a o x = some x := by unfold stepD longB; rw [hh, ho0]; simp [hl]
            have HOO : Hid _ := ho
            clear hh ho ho0
            go_wp2_with fail
            refine wp_region_eager [(0, false), (1, false), (2, false), (3, false), (4, false), (5, false), (6, true), (7, false), (8, false), (9, false), (10, false), (11, false), (12, false), (13, false), (14, false), (15, false), (16, false), (17, false), (18, false), (19, false), (20, false), (21, false), (22, false), (23, false), (24, false), (25, false)] (by kernel_rfl) (by kernel_rfl) rfl (by kernel_rfl) (fun _ _ _ _ _ h => h) ?_
            have hxd : Ext w1 wr.drew := hx.drew
            generalize wr.drew = W2 at *
            iterate 6 (refine wpE_read (v := ?_) rfl (by rfl) ?_ ?_; rotate_left; (focus (intro w' hx; go_simp; first | done | with_reducible rfl)); simp only [Act.put, List.setIfInBounds_toArray, List.set_cons_zero, List.set_cons_succ])
            (refine wpE_call rfl (by rfl) (fun K hK => ?_); go_simp; first | (go_at_call 28; refine (kh _).mono ?_; rintro e w3 ⟨rfl, hx3⟩; refine hK _ _ hx3 ?_; clear hK K))
            replace x2 := fun w' h => x2 w' (hx3.trans h); replace z2 := fun w' h => z2 w' (hx3.trans h)
            iterate 19 (refine wpE_read (v := ?_) rfl (by rfl) ?_ ?_; rotate_left; (focus (intro w' hx; go_simp; first | done | with_reducible rfl)); simp only [Act.put, List.setIfInBounds_toArray, List.set_cons_zero, List.set_cons_succ])
            refine wpE_done ?_
            go_wp2_with fail
            go_roundg (A.length - (k + 1))
            case measure => omega
            case rel => exact ⟨k + 1, some x, (k : Int), by go_num, rfl, by omega, Nat.le_refl _, hxd.trans hx3, (by rw [HT.out, HOO.out] : some x = lookD (A.take (k + 1)) a), (.inr ⟨k, x, rfl, hlt, HXK.out, rfl⟩ : Idx A (some x) (k : Int))⟩
          · have hdl : decide (y.l < x.l) = false := decide_eq_false hl
            have ho : stepD a o x = o := by unfold stepD longB; rw [hh, ho0]; simp [hl]
            have HOO : Hid _ := ho
            clear hh ho ho0
            go_wp2_with fail
            refine wp_region_eager [(0, false), (1, false), (2, false), (3, false), (4, false), (5, false), (6, true), (7, false), (8, false), (9, false), (10, false), (11, false), (12, false), (13, false), (14, false), (15, false), (16, false), (17, false), (18, false), (19, false), (20, false), (21, false), (22, false), (23, false), (24, false), (25, false)] (by kernel_rfl) (by kernel_rfl) rfl (by kernel_rfl) (fun _ _ _ _ _ h => h) ?_
            have hxd : Ext w1 wr.drew := hx.drew
            generalize wr.drew = W2 at *
            iterate 6 (refine wpE_read (v := ?_) rfl (by rfl) ?_ ?_; rotate_left; (focus (intro w' hx; go_simp; first | done | with_reducible rfl)); simp only [Act.put, List.setIfInBounds_toArray, List.set_cons_zero, List.set_cons_succ])
            (refine wpE_call rfl (by rfl) (fun K hK => ?_); go_simp; first | (go_at_call 28; refine (kh _).mono ?_; rintro e w3 ⟨rfl, hx3⟩; refine hK _ _ hx3 ?_; clear hK K))
            replace x2 := fun w' h => x2 w' (hx3.trans h); replace z2 := fun w' h => z2 w' (hx3.trans h)
            iterate 19 (refine wpE_read (v := ?_) rfl (by rfl) ?_ ?_; rotate_left; (focus (intro w' hx; go_simp; first | done | with_reducible rfl)); simp only [Act.put, List.setIfInBounds_toArray, List.set_cons_zero, List.set_cons_succ])
            refine wpE_done ?_
            go_wp2_with fail
            go_roundg (A.length - (k + 1))
            case measure => omega
            case rel => exact ⟨k + 1, o, (j : Int), by go_num, rfl, by omega, Nat.le_refl _, hxd.trans hx3, (by rw [HT.out, HOO.out] : o = lookD (A.take (k + 1)) a), HZ⟩
    · obtain rfl : k = A.length := by omega
      have hoo : o = lookD A a := by have := HO.out; rw [List.take_of_length_le (Nat.le_refl _)] at this; exact this
      rcases HZ.out with ⟨ho0, hz⟩ | ⟨j, y, hz, hj, hy, ho0⟩
      · subst hz
        have HOO : Hid (lookD A a = none) := by rw [← hoo]; exact ho0
        clear hoo ho0
        go_wp2_with (refine wpl_store (by rfl) 33 _ _ rfl rfl 6 w.heap.size #[.int .i64 zeroR.t, .int .u32 zeroR.a, .int .i64 zeroR.l, .int .i64 zeroR.i, .int .u32 zeroR.g, .int .i64 zeroR.m] _ _ rfl rfl (hx.heap H1.out.2.2) rt_size rfl rfl (by simp [Value.oneCell']) ?_; intro w5 hx5 k5)
        refine bodyPost_ret (results_two Tryz.results17 _ rfl k5 Tryz.underlying33 rfl rt_size) rfl ⟨?_, ExtX.ext (H1.out.1.trans hx) hx5 (Nat.le_refl _)⟩
        rw [HOO.out]
        rfl
      · subst hz
        have HOO : Hid (lookD A a = some y) := by rw [← hoo]; exact ho0
        obtain ⟨b, off, rfl, hb, g0, g1, g2, g3, g4, g5⟩ := (H1.out.2.1.ext hx).cell hy
        have hji : (j : Int) < (A.length : Int) := by omega
        have hj0 : ¬ ((j : Int) < 0) := by omega
        clear hoo ho0
        go_wp2_with (refine wpl_store (by rfl) 33 _ _ rfl rfl 6 w.heap.size #[.int .i64 y.t, .int .u32 y.a, .int .i64 y.l, .int .i64 y.i, .int .u32 y.g, .int .i64 y.m] _ _ rfl rfl (hx.heap H1.out.2.2) rt_size rfl rfl (by simp [Value.oneCell']) ?_; intro w5 hx5 k5)
        refine bodyPost_ret (results_two Tryz.results17 _ rfl k5 Tryz.underlying33 rfl rt_size) rfl ⟨?_, ExtX.ext (H1.out.1.trans hx) hx5 (Nat.le_refl _)⟩
        rw [HOO.out]
        rfl
end Go.Proofs.YtmoimkeeldlpkaaGreat.Fb

namespace Go.Proofs.YtmoimkeeldlpkaaGreat.Fb

set_option maxRecDepth 100000

open Go.RowKit Go.Proofs.YtmoimkeeldlpkaaGreat Go.Proofs.YtmoimkeeldlpkaaGreat.Rb

set_option linter.unusedVariables false

set_option linter.unusedSimpArgs false

set_option maxHeartbeats 1000000 in
/-- Two rows of the same ways. -/
theorem routes12 (p p' : Option Addr) (n n' c c' : Nat) (L : List Rt) (w : World) (hR : Rd w p n c L) (hR' : Rd w p' n' c' L) (hn : n ≤ 1000000) :
    Calls Tryz.prog 21 #[.slice p n c, .slice p' n' c'] w fun e w' => e = .returned (.bool true) ∧ Ext w w' := by
  have hl := hR.len
  have hl' := hR'.len
  obtain rfl : n = n' := by omega
  have HR : Hid (Rd w p n c L ∧ Rd w p' n c' L) := ⟨hR, hR'⟩
  have HL : Hid (L.length = n) := hl
  have nr := fun x w => neq_rt x x w
  simp only [eqB_refl, Bool.not_true] at nr
  have eg := rt_guard
  clear hR hR' hl hl'
  go_enter Tryz.func21, Tryz.ntmps21
  go_wp2_with fail
  go_loopw [5] (fun i wr => ∃ k : Nat, k ≤ n ∧ i = .int .i64 k ∧ Ext w wr) (fun i _ => n - (intOf i).toNat)
  case atStart => exact ⟨0, Nat.zero_le _, rfl, Ext.refl _⟩
  case round =>
    obtain ⟨k, hk, rfl, hx⟩ := hrel
    by_cases hlt : k < n
    · obtain ⟨x, hxk⟩ : ∃ x, L[k]? = some x := ⟨_, List.getElem?_eq_getElem (by rw [HL.out]; exact hlt)⟩
      obtain ⟨b, off, hp, hb, g0, g1, g2, g3, g4, g5⟩ := (HR.out.1.ext hx).cell hxk
      obtain ⟨b', off', hp', hb', f0, f1, f2, f3, f4, f5⟩ := (HR.out.2.ext hx).cell hxk
      subst hp hp'
      have hki : (k : Int) < (n : Int) := by omega
      have nx := fun w => nr x w
      clear nr hxk
      have hd : Ext wr wr.drew := (Ext.refl wr).drew
      have ha : ∀ j u, wr.cell? ⟨b, j, none⟩ = some u → ∀ w', Ext wr.drew w' → w'.cell? ⟨b, j, none⟩ = some u := fun j u h w' h' => by rw [(hd.trans h').below.cell (p := ⟨b, j, none⟩) hb]; exact h
      have hc : ∀ j u, wr.cell? ⟨b', j, none⟩ = some u → ∀ w', Ext wr.drew w' → w'.cell? ⟨b', j, none⟩ = some u := fun j u h w' h' => by rw [(hd.trans h').below.cell (p := ⟨b', j, none⟩) hb']; exact h
      have x0 := ha _ _ g0
      have x1 := ha _ _ g1
      have x2 := ha _ _ g2
      have x3 := ha _ _ g3
      have x4 := ha _ _ g4
      have x5 := ha _ _ g5
      have y0 := hc _ _ f0
      have y1 := hc _ _ f1
      have y2 := hc _ _ f2
      have y3 := hc _ _ f3
      have y4 := hc _ _ f4
      have y5 := hc _ _ f5
      clear ha hc g0 g1 g2 g3 g4 g5 f0 f1 f2 f3 f4 f5
      go_wp2_with fail
      refine wp_region_eager [(0, false), (1, false), (2, false), (3, false), (4, false), (5, false), (6, false), (7, false), (8, false)] (by kernel_rfl) (by kernel_rfl) rfl (by kernel_rfl) (fun _ _ _ _ _ h => h) ?_
      have hxd := hx.drew
      generalize wr.drew = W at *
      iterate 9 (refine wpE_read (v := ?_) rfl (by rfl) ?_ ?_; rotate_left; (focus (intro w' hx; go_simp; first | done | with_reducible rfl)); simp only [Act.put, List.setIfInBounds_toArray, List.set_cons_zero, List.set_cons_succ])
      refine wpE_done ?_
      go_wp2_with fail
      go_roundw
      case rel => exact ⟨k + 1, by omega, by go_num, hxd⟩
      case measure => simp [intOf]; omega
    · obtain rfl : k = n := by omega
      go_wp2_with fail
      go_ret
      exact ⟨rfl, hx⟩

/-- A Fib of (L, U) and the document's of (M, V), in memory of the call's own, apart, all in H. -/
def BothH (w wr : World) (fb xb : Nat) (L : List Rt) (U : List Bool) (M : List Rt) (V : List Bool) (H : List Nat) : Prop := ∃ F G, FibAt wr fb L U F ∧ DocAt wr xb M V G ∧ (∀ y ∈ F, y ∉ G) ∧ (∀ y ∈ F, y ∈ H) ∧ (∀ y ∈ G, y ∈ H) ∧ (∀ y ∈ H, w.heap.size ≤ y ∧ y < wr.heap.size) ∧ Ext w wr

theorem BothH.later {w wr w' : World} {fb xb : Nat} {L : List Rt} {U : List Bool} {M : List Rt} {V : List Bool} {H : List Nat} (h : BothH w wr fb xb L U M V H) (hx : Ext wr w') : BothH w w' fb xb L U M V H := by
  obtain ⟨F, G, h1, h2, h3, h4, h5, h6, h7⟩ := h
  exact ⟨F, G, h1.ext hx, h2.ext hx, h3, h4, h5, fun y hy => ⟨(h6 y hy).1, Nat.lt_of_lt_of_le (h6 y hy).2 hx.size⟩, h7.trans hx⟩

theorem BothH.ext {w wr : World} {fb xb : Nat} {L : List Rt} {U : List Bool} {M : List Rt} {V : List Bool} {H : List Nat} (h : BothH w wr fb xb L U M V H) : Ext w wr := by
  obtain ⟨F, G, h1, h2, h3, h4, h5, h6, h7⟩ := h
  exact h7

theorem BothH.lt {w wr : World} {fb xb : Nat} {L : List Rt} {U : List Bool} {M : List Rt} {V : List Bool} {H : List Nat} (h : BothH w wr fb xb L U M V H) : ∀ y ∈ H, w.heap.size ≤ y ∧ y < wr.heap.size := by
  obtain ⟨F, G, h1, h2, h3, h4, h5, h6, h7⟩ := h
  exact h6

theorem BothH.good {w wr : World} {fb xb : Nat} {L : List Rt} {U : List Bool} {M : List Rt} {V : List Bool} {H : List Nat} (h : BothH w wr fb xb L U M V H) : Rb.Good L ∧ U.length ≤ 8 ∧ fullB L U = false := by
  obtain ⟨F, G, h1, h2, h3, h4, h5, h6, h7⟩ := h
  exact ⟨h1.good, h1.eight, h1.room⟩

/-- Both, and what may have been written for them. -/
def BothAns (w wr : World) (fb xb : Nat) (L : List Rt) (U : List Bool) (M : List Rt) (V : List Bool) (H : List Nat) (w' : World) : Prop := ∃ H', BothH w w' fb xb L U M V H' ∧ ExtS H wr w' ∧ ∀ y ∈ H', y ∈ H ∨ wr.heap.size ≤ y

theorem BothAns.later {w wr w' w2 : World} {fb xb : Nat} {L : List Rt} {U : List Bool} {M : List Rt} {V : List Bool} {H : List Nat} (h : BothAns w wr fb xb L U M V H w') (hx : Ext w' w2) : BothAns w wr fb xb L U M V H w2 := by
  obtain ⟨H', h1, h2, h3⟩ := h
  exact ⟨H', h1.later hx, h2.trans (hx.toS H), h3⟩

theorem BothAns.from {w wr w1 w' : World} {fb xb : Nat} {L : List Rt} {U : List Bool} {M : List Rt} {V : List Bool} {H : List Nat} (hx : Ext wr w1) (h : BothAns w w1 fb xb L U M V H w') : BothAns w wr fb xb L U M V H w' := by
  obtain ⟨H', h1, h2, h3⟩ := h
  exact ⟨H', h1, (hx.toS H).trans h2, fun y hy => (h3 y hy).imp_right fun h => Nat.le_trans hx.size h⟩

theorem BothH.stepF {w wr : World} {fb xb : Nat} {L : List Rt} {U : List Bool} {M : List Rt} {V : List Bool} {H : List Nat} (h : BothH w wr fb xb L U M V H) : ∃ F, FibAt wr fb L U F ∧ ∀ {L' : List Rt} {U' : List Bool} {w' : World}, FibAns wr fb F L' U' w' → BothAns w wr fb xb L' U' M V H w' := by
  obtain ⟨F, G, h1, h2, h3, h4, h5, h6, h7⟩ := h
  refine ⟨F, h1, fun {L' U' w'} ⟨F', k1, k2, k3⟩ => ⟨H ++ F', ⟨F', G, k1, h2.later k2 fun y hy hf => h3 y hf hy, fun y hy hg => ?_, fun y hy => List.mem_append_right _ hy, fun y hy => List.mem_append_left _ (h5 y hy), fun y hy => ?_, ?_⟩, k2.mono h4, fun y hy => ?_⟩⟩
  · rcases k3 y hy with hh | hh
    · exact h3 y hh hg
    · have := h2.lt y hg; omega
  · have := k2.size
    have := h7.size
    rcases List.mem_append.1 hy with hy | hy
    · have := h6 y hy; omega
    · refine ⟨?_, k1.lt y hy⟩
      rcases k3 y hy with hh | hh
      · exact (h6 y (h4 y hh)).1
      · omega
  · exact ExtS.ext ((h7.toS F).trans k2) fun b hb => (h6 b (h4 b hb)).1
  · rcases List.mem_append.1 hy with hy | hy
    · exact .inl hy
    · exact (k3 y hy).imp_left (h4 y)

theorem BothH.stepX {w wr : World} {fb xb : Nat} {L : List Rt} {U : List Bool} {M : List Rt} {V : List Bool} {H : List Nat} (h : BothH w wr fb xb L U M V H) : ∃ G, DocAt wr xb M V G ∧ ∀ {M' : List Rt} {V' : List Bool} {w' : World}, DocAns wr xb G M' V' w' → BothAns w wr fb xb L U M' V' H w' := by
  obtain ⟨F, G, h1, h2, h3, h4, h5, h6, h7⟩ := h
  refine ⟨G, h2, fun {M' V' w'} ⟨G', k1, k2, k3⟩ => ⟨H ++ G', ⟨F, G', h1.later k2 fun y hy hg => h3 y hy hg, k1, fun y hy hg => ?_, fun y hy => List.mem_append_left _ (h4 y hy), fun y hy => List.mem_append_right _ hy, fun y hy => ?_, ?_⟩, k2.mono h5, fun y hy => ?_⟩⟩
  · rcases k3 y hg with hh | hh
    · exact h3 y hy hh
    · have := h1.lt y hy; omega
  · have := k2.size
    have := h7.size
    rcases List.mem_append.1 hy with hy | hy
    · have := h6 y hy; omega
    · refine ⟨?_, k1.lt y hy⟩
      rcases k3 y hy with hh | hh
      · exact (h6 y (h5 y hh)).1
      · omega
  · exact ExtS.ext ((h7.toS G).trans k2) fun b hb => (h6 b (h5 b hb)).1
  · rcases List.mem_append.1 hy with hy | hy
    · exact .inl hy
    · exact (k3 y hy).imp_left (h5 y)

theorem BothAns.then {w wr w1 w2 : World} {fb xb : Nat} {L L' : List Rt} {U U' : List Bool} {M M' : List Rt} {V V' : List Bool} {H : List Nat} (h : BothAns w wr fb xb L U M V H w1) (k : ∀ H1, BothH w w1 fb xb L U M V H1 → BothAns w w1 fb xb L' U' M' V' H1 w2) : BothAns w wr fb xb L' U' M' V' H w2 := by
  obtain ⟨H1, h1, h2, h3⟩ := h
  obtain ⟨H2, k1, k2, k3⟩ := k H1 h1
  refine ⟨H2, k1, h2.then k2 h3, fun y hy => ?_⟩
  rcases k3 y hy with hh | hh
  · exact h3 y hh
  · exact .inr (Nat.le_trans h2.size hh)

/-- A Fib and the document's, new. -/
theorem both_new {w w1 w2 : World} {n : Nat} {fb xb : Nat} {F G : List Nat} (h1 : FibAt w1 fb [] (List.replicate n true) F) (hx1 : Ext w w1) (hF : ∀ y ∈ F, w.heap.size ≤ y) (h2 : DocAt w2 xb [] (List.replicate n true) G) (hx2 : Ext w1 w2) (hG : ∀ y ∈ G, w1.heap.size ≤ y) : BothH w w2 fb xb [] (List.replicate n true) [] (List.replicate n true) (F ++ G) := by
  have s1 := hx1.size
  have s2 := hx2.size
  refine ⟨F, G, h1.ext hx2, h2, fun y hy hg => by have := h1.lt y hy; have := hG y hg; omega, fun y hy => List.mem_append_left _ hy, fun y hy => List.mem_append_right _ hy, fun y hy => ?_, hx1.trans hx2⟩
  rcases List.mem_append.1 hy with hy | hy
  · have := h1.lt y hy; have := hF y hy; omega
  · have := h2.lt y hy; have := hG y hy; omega

/-- An act: the error, the ways, what is up. -/
def actF (L : List Rt) (U : List Bool) (kind : Int) (r : Rt) (i : Int) (b : Bool) : Int × List Rt × List Bool :=
  if kind = 1 then ((addF L U r).1, (addF L U r).2, U) else if kind = 2 then (delE L r, delS L r, U) else ((setF L U i b).1, L, (setF L U i b).2)

theorem actF_refused {L : List Rt} {U : List Bool} {kind : Int} {r : Rt} {i : Int} {b : Bool} (h : (actF L U kind r i b).1 ≠ 0) : (actF L U kind r i b).2 = (L, U) := by
  unfold actF at *
  split
  · rename_i hk
    rw [if_pos hk] at h
    simp only at h ⊢
    unfold addF at *
    split
    · rfl
    · rename_i h1
      rw [if_neg h1] at h
      split
      · rename_i h2
        rw [if_pos h2] at h
        split
        · rfl
        · rename_i h3
          rw [if_neg h3] at h
          exact absurd rfl h
      · rfl
  · rename_i hk
    rw [if_neg hk] at h
    split
    · rename_i hk2
      rw [if_pos hk2] at h
      simp only at h ⊢
      rw [delS_no h]
    · rename_i hk2
      rw [if_neg hk2] at h
      simp only at h ⊢
      unfold setF at *
      split
      · rfl
      · rename_i h1
        rw [if_neg h1] at h
        split
        · rfl
        · rename_i h2
          rw [if_neg h2] at h
          exact absurd rfl h

def ActAns (w wr : World) (fb xb : Nat) (L : List Rt) (U : List Bool) (kind : Int) (r : Rt) (i : Int) (b : Bool) (H : List Nat) (e : Ending) (w' : World) : Prop :=
  e = .returned (.tuple #[.int .i64 (actF L U kind r i b).1, .bool true]) ∧ BothAns w wr fb xb (actF L U kind r i b).2.1 (actF L U kind r i b).2.2 (actF L U kind r i b).2.1 (actF L U kind r i b).2.2 H w'

/-- The cells of an act. -/
theorem box9 {w : World} {b : Nat} {kind : Int} {r : Rt} {i : Int} {u : Bool} (h : w.heap[b]? = some (.cells #[.int .i64 kind, .int .i64 r.t, .int .u32 r.a, .int .i64 r.l, .int .i64 r.i, .int .u32 r.g, .int .i64 r.m, .int .i64 i, .bool u] 35 (0, 0))) :
    w.cell? ⟨b, 0, none⟩ = some (.int .i64 kind) ∧ w.cell? ⟨b, 1, none⟩ = some (.int .i64 r.t) ∧ w.cell? ⟨b, 2, none⟩ = some (.int .u32 r.a) ∧ w.cell? ⟨b, 3, none⟩ = some (.int .i64 r.l) ∧ w.cell? ⟨b, 4, none⟩ = some (.int .i64 r.i) ∧ w.cell? ⟨b, 5, none⟩ = some (.int .u32 r.g) ∧ w.cell? ⟨b, 6, none⟩ = some (.int .i64 r.m) ∧ w.cell? ⟨b, 7, none⟩ = some (.int .i64 i) ∧ w.cell? ⟨b, 8, none⟩ = some (.bool u) := by
  refine ⟨?_, ?_, ?_, ?_, ?_, ?_, ?_, ?_, ?_⟩ <;> (rw [heap_cell h]; rfl)

set_option maxHeartbeats 4000000 in
theorem act_any (fb xb : Nat) (kind : Int) (r : Rt) (i : Int) (b : Bool) (L : List Rt) (U : List Bool) (H : List Nat) (w wr : World) (h : BothH w wr fb xb L U L U H) (hr : RtOk r) :
    Calls Tryz.prog 12 #[.pointer (some ⟨fb, 0, none⟩), .pointer (some ⟨xb, 0, none⟩), .agg #[.int .i64 kind, .int .i64 r.t, .int .u32 r.a, .int .i64 r.l, .int .i64 r.i, .int .u32 r.g, .int .i64 r.m, .int .i64 i, .bool b]] wr (ActAns w wr fb xb L U kind r i b H) := by
  obtain ⟨hg, h8, hroom⟩ := h.good
  have hA : Ext wr (wr.alloc (.cells #[.int .i64 kind, .int .i64 r.t, .int .u32 r.a, .int .i64 r.l, .int .i64 r.i, .int .u32 r.g, .int .i64 r.m, .int .i64 i, .bool b] 35)) := (Ext.refl wr).alloc _
  have HA : Hid _ := hA
  have hB := heap_new wr (.cells #[.int .i64 kind, .int .i64 r.t, .int .u32 r.a, .int .i64 r.l, .int .i64 r.i, .int .u32 r.g, .int .i64 r.m, .int .i64 i, .bool b] 35)
  have HB : Hid _ := hB
  have HN : Hid (wr.heap.size ∉ H) := fun hh => Nat.lt_irrefl _ (h.lt _ hh).2
  have HG : Hid (Rb.Good L ∧ RtOk r ∧ U.length ≤ 8) := ⟨hg, hr, h8⟩
  obtain ⟨G, hX, sX⟩ := (h.later hA).stepX
  have HX : Hid (DocAt (wr.alloc (.cells #[.int .i64 kind, .int .i64 r.t, .int .u32 r.a, .int .i64 r.l, .int .i64 r.i, .int .u32 r.g, .int .i64 r.m, .int .i64 i, .bool b] 35)) xb L U G) := hX
  clear hX hg hr h8 hroom
  by_cases hk1 : kind = 1
  · subst hk1
    have ha : actF L U 1 r i b = ((addF L U r).1, (addF L U r).2, U) := by unfold actF; rw [if_pos rfl]
    have HAF : Hid _ := ha
    have cX := dadd_any xb L U G r _ HX.out HG.out.1 HG.out.2.1 HG.out.2.2
    obtain ⟨y0, y1, y2, y3, y4, y5, y6, y7, y8⟩ := box9 hB
    clear ha hB
    generalize hq : addF L U r = qq at *
    obtain ⟨er, L'⟩ := qq
    have HQ : Hid (addF L U r = (er, L')) := hq
    clear hq
    dsimp only at cX HAF
    go_enter Tryz.func12, Tryz.ntmps12
    go_wp2_with (first
      | (go_at_call 34; refine cX.mono ?_; rintro e w1 ⟨rfl, hd1⟩; have HB1 : Hid _ := sX hd1; obtain ⟨H1, k1, k2, k3⟩ := HB1.out; obtain ⟨z0, z1, z2, z3, z4, z5, z6, z7, z8⟩ := box9 (k2.heap HN.out HB.out); obtain ⟨F, hF, sF⟩ := k1.stepF; have cF := add_any fb L U F r w1 hF HG.out.2.1; rw [HQ.out] at cF; dsimp only at cF; have H2 : Hid (ExtS H _ w1 ∧ ∀ y ∈ H1, y ∈ H ∨ _ ≤ y) := ⟨k2, k3⟩; clear k1 k2 k3 hF hd1)
      | (go_at_call 24; refine cF.mono ?_; rintro e w2 ⟨rfl, hf2⟩; have HB2 : Hid _ := sF hf2; clear hf2))
    go_ret2
    unfold ActAns
    rw [HAF.out]
    refine ⟨rfl, BothAns.from HA.out ?_⟩
    obtain ⟨H2', m1, m2, m3⟩ := HB2.out
    exact ⟨H2', m1, H2.out.1.then m2 H2.out.2, fun y hy => by
      rcases m3 y hy with hh | hh
      · exact H2.out.2 y hh
      · exact .inr (Nat.le_trans H2.out.1.size hh)⟩
  · by_cases hk2 : kind = 2
    · subst hk2
      have ha : actF L U 2 r i b = (delE L r, delS L r, U) := by unfold actF; rw [if_neg (by omega), if_pos rfl]
      have HAF : Hid _ := ha
      obtain ⟨y0, y1, y2, y3, y4, y5, y6, y7, y8⟩ := box9 hB
      have hxd : Ext (wr.alloc (.cells #[.int .i64 2, .int .i64 r.t, .int .u32 r.a, .int .i64 r.l, .int .i64 r.i, .int .u32 r.g, .int .i64 r.m, .int .i64 i, .bool b] 35)) (wr.alloc (.cells #[.int .i64 2, .int .i64 r.t, .int .u32 r.a, .int .i64 r.l, .int .i64 r.i, .int .u32 r.g, .int .i64 r.m, .int .i64 i, .bool b] 35)).drew := (Ext.refl _).drew
      obtain ⟨G2, hX2, sX2⟩ := (h.later (hA.trans hxd)).stepX
      have cX := ddel_any xb L U G2 r _ hX2 HG.out.1
      have HW : Hid (Ext wr (wr.alloc (.cells #[.int .i64 2, .int .i64 r.t, .int .u32 r.a, .int .i64 r.l, .int .i64 r.i, .int .u32 r.g, .int .i64 r.m, .int .i64 i, .bool b] 35)).drew) := hA.trans hxd
      have HBd : Hid ((wr.alloc (.cells #[.int .i64 2, .int .i64 r.t, .int .u32 r.a, .int .i64 r.l, .int .i64 r.i, .int .u32 r.g, .int .i64 r.m, .int .i64 i, .bool b] 35)).drew.heap[wr.heap.size]? = some (.cells #[.int .i64 2, .int .i64 r.t, .int .u32 r.a, .int .i64 r.l, .int .i64 r.i, .int .u32 r.g, .int .i64 r.m, .int .i64 i, .bool b] 35 (0, 0))) := hxd.heap hB
      clear ha hB y0 y7 y8 hxd hA hX2 sX
      have y0 := (box9 HB.out).1
      generalize hq : delE L r = er at *
      generalize hq2 : delS L r = L' at *
      have HQ : Hid (delE L r = er ∧ delS L r = L') := ⟨hq, hq2⟩
      clear hq hq2
      go_enter Tryz.func12, Tryz.ntmps12
      go_wp2_with fail
      refine wp_region_eagerS H [(0, false), (1, false), (2, false), (3, false), (4, false), (5, true), (6, false)] (by kernel_rfl) (by kernel_rfl) rfl (by kernel_rfl) (fun _ _ _ _ _ h => h) ?_
      clear y0 y1 y2 y3 y4 y5 y6
      generalize (wr.alloc (.cells #[.int .i64 2, .int .i64 r.t, .int .u32 r.a, .int .i64 r.l, .int .i64 r.i, .int .u32 r.g, .int .i64 r.m, .int .i64 i, .bool b] 35)).drew = W at *
      have bx : ∀ w', ExtS H W w' → _ := fun w' hx => box9 (hx.heap HN.out HBd.out)
      have x1 : ∀ w', ExtS H W w' → w'.cell? ⟨wr.heap.size, 1, none⟩ = some (.int .i64 r.t) := fun w' hx => (bx w' hx).2.1
      have x2 : ∀ w', ExtS H W w' → w'.cell? ⟨wr.heap.size, 2, none⟩ = some (.int .u32 r.a) := fun w' hx => (bx w' hx).2.2.1
      have x3 : ∀ w', ExtS H W w' → w'.cell? ⟨wr.heap.size, 3, none⟩ = some (.int .i64 r.l) := fun w' hx => (bx w' hx).2.2.2.1
      have x4 : ∀ w', ExtS H W w' → w'.cell? ⟨wr.heap.size, 4, none⟩ = some (.int .i64 r.i) := fun w' hx => (bx w' hx).2.2.2.2.1
      have x5 : ∀ w', ExtS H W w' → w'.cell? ⟨wr.heap.size, 5, none⟩ = some (.int .u32 r.g) := fun w' hx => (bx w' hx).2.2.2.2.2.1
      have x6 : ∀ w', ExtS H W w' → w'.cell? ⟨wr.heap.size, 6, none⟩ = some (.int .i64 r.m) := fun w' hx => (bx w' hx).2.2.2.2.2.2.1
      clear bx
      iterate 5 (refine wpE_read (v := ?_) rfl (by rfl) ?_ ?_; rotate_left; (focus (intro w' hx; go_simp; first | done | with_reducible rfl)); simp only [Act.put, List.setIfInBounds_toArray, List.set_cons_zero, List.set_cons_succ])
      (refine wpE_call rfl (by rfl) (fun K hK => ?_); go_simp; first | (go_at_call 35; refine cX.mono ?_; rintro e w1 ⟨rfl, hd1⟩; have HB1 : Hid _ := sX2 hd1; obtain ⟨H1, k1, k2, k3⟩ := HB1.out; refine hK _ _ k2 ?_; clear hK K))
      iterate 1 (refine wpE_read (v := ?_) rfl (by rfl) ?_ ?_; rotate_left; (focus (intro w' hx; go_simp; first | done | with_reducible rfl)); simp only [Act.put, List.setIfInBounds_toArray, List.set_cons_zero, List.set_cons_succ])
      refine wpE_done ?_
      obtain ⟨z0, z1, z2, z3, z4, z5, z6, z7, z8⟩ := box9 (k2.heap HN.out HBd.out)
      obtain ⟨F, hF, sF⟩ := k1.stepF
      have cF := del_any fb L U F r w1 hF
      rw [HQ.out.1, HQ.out.2] at cF
      have H2 : Hid (ExtS H W w1 ∧ ∀ y ∈ H1, y ∈ H ∨ _ ≤ y) := ⟨k2, k3⟩
      clear k1 k2 k3 hF hd1 x1 x2 x3 x4 x5 x6
      go_wp2_with (go_at_call 25; refine cF.mono ?_; rintro e w2 ⟨rfl, hf2⟩; have HB2 : Hid _ := sF hf2; clear hf2)
      go_ret2
      unfold ActAns
      rw [HAF.out]
      refine ⟨rfl, BothAns.from HW.out ?_⟩
      obtain ⟨H2', m1, m2, m3⟩ := HB2.out
      exact ⟨H2', m1, H2.out.1.then m2 H2.out.2, fun y hy => by
        rcases m3 y hy with hh | hh
        · exact H2.out.2 y hh
        · exact .inr (Nat.le_trans H2.out.1.size hh)⟩
    · have ha : actF L U kind r i b = ((setF L U i b).1, L, (setF L U i b).2) := by unfold actF; rw [if_neg hk1, if_neg hk2]
      have HAF : Hid _ := ha
      have cX := dsetUp_any xb L U G i b _ HX.out HG.out.1 HG.out.2.2
      obtain ⟨y0, y1, y2, y3, y4, y5, y6, y7, y8⟩ := box9 hB
      clear ha hB
      generalize hq : setF L U i b = qq at *
      obtain ⟨er, U'⟩ := qq
      have HQ : Hid (setF L U i b = (er, U')) := hq
      clear hq
      dsimp only at cX HAF
      go_enter Tryz.func12, Tryz.ntmps12
      go_wp2_with (first
        | (go_at_call 36; refine cX.mono ?_; rintro e w1 ⟨rfl, hd1⟩; have HB1 : Hid _ := sX hd1; obtain ⟨H1, k1, k2, k3⟩ := HB1.out; obtain ⟨z0, z1, z2, z3, z4, z5, z6, z7, z8⟩ := box9 (k2.heap HN.out HB.out); obtain ⟨F, hF, sF⟩ := k1.stepF; have cF := setUp_any fb L U F i b w1 hF; rw [HQ.out] at cF; dsimp only at cF; have H2 : Hid (ExtS H _ w1 ∧ ∀ y ∈ H1, y ∈ H ∨ _ ≤ y) := ⟨k2, k3⟩; clear k1 k2 k3 hF hd1)
        | (go_at_call 23; refine cF.mono ?_; rintro e w2 ⟨rfl, hf2⟩; have HB2 : Hid _ := sF hf2; clear hf2))
      go_ret2
      unfold ActAns
      rw [HAF.out]
      refine ⟨rfl, BothAns.from HA.out ?_⟩
      obtain ⟨H2', m1, m2, m3⟩ := HB2.out
      exact ⟨H2', m1, H2.out.1.then m2 H2.out.2, fun y hy => by
        rcases m3 y hy with hh | hh
        · exact H2.out.2 y hh
        · exact .inr (Nat.le_trans H2.out.1.size hh)⟩
end Go.Proofs.YtmoimkeeldlpkaaGreat.Fb
