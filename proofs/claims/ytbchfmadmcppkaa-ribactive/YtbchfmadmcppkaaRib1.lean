/- Comparisons: cmp.Compare, cmp.Or, orderPrefix, order, Better. -/
import Derived.Test.YtbchfmadmcppkaaRibP
import Derived.Test.YtbchfmadmcppkaaBoxRt
import Derived.Test.YtbchfmadmcppkaaMake
import Derived.Test.YtbchfmadmcppkaaGrow4
import Derived.Test.YtbchfmadmcppkaaAddr
namespace Go.Proofs.Ytbchfmadmcppkaa.Rb
set_option maxRecDepth 100000
open Go.RowKit Go.Proofs.Ytbchfmadmcppkaa
set_option linter.unusedVariables false
set_option linter.unusedSimpArgs false

theorem nan_int (x : Int) (w : World) : Calls Try.prog 51 #[.int .i64 x] w fun e w' => e = .returned (.bool false) ∧ Ext w w' := by
  go_enter Try.func51, Try.ntmps51
  go_wp2
  go_ret
  exact ⟨rfl, Ext.refl w⟩

theorem nan_u32 (x : Int) (w : World) : Calls Try.prog 52 #[.int .u32 x] w fun e w' => e = .returned (.bool false) ∧ Ext w w' := by
  go_enter Try.func52, Try.ntmps52
  go_wp2
  go_ret
  exact ⟨rfl, Ext.refl w⟩

theorem compare_int (x y : Int) (w : World) : Calls Try.prog 38 #[.int .i64 x, .int .i64 y] w fun e w' => e = .returned (.int .i64 (cmpI x y)) ∧ Ext w w' := by
  have c1 := fun w => nan_int x w
  have c2 := fun w => nan_int y w
  unfold cmpI
  have tok1 : Hid True := trivial
  by_cases h : x < y
  · rw [if_pos h]
    go_enter Try.func38, Try.ntmps38
    go_wp2_with (first
      | (go_at_call 51; clear tok1; refine (c1 _).mono ?_; rintro e w1 ⟨rfl, hx1⟩)
      | (go_at_call 51; refine (c2 _).mono ?_; rintro e w2 ⟨rfl, hx2⟩))
    go_ret
    exact ⟨rfl, hx1.trans hx2⟩
  · rw [if_neg h]
    by_cases h2 : y < x
    · rw [if_pos h2]
      go_enter Try.func38, Try.ntmps38
      go_wp2_with (first
        | (go_at_call 51; clear tok1; refine (c1 _).mono ?_; rintro e w1 ⟨rfl, hx1⟩)
        | (go_at_call 51; refine (c2 _).mono ?_; rintro e w2 ⟨rfl, hx2⟩))
      go_ret
      exact ⟨rfl, hx1.trans hx2⟩
    · rw [if_neg h2]
      go_enter Try.func38, Try.ntmps38
      go_wp2_with (first
        | (go_at_call 51; clear tok1; refine (c1 _).mono ?_; rintro e w1 ⟨rfl, hx1⟩)
        | (go_at_call 51; refine (c2 _).mono ?_; rintro e w2 ⟨rfl, hx2⟩))
      go_ret
      exact ⟨rfl, hx1.trans hx2⟩

theorem compare_u32 (x y : Int) (w : World) : Calls Try.prog 39 #[.int .u32 x, .int .u32 y] w fun e w' => e = .returned (.int .i64 (cmpI x y)) ∧ Ext w w' := by
  have c1 := fun w => nan_u32 x w
  have c2 := fun w => nan_u32 y w
  unfold cmpI
  have tok1 : Hid True := trivial
  by_cases h : x < y
  · rw [if_pos h]
    go_enter Try.func39, Try.ntmps39
    go_wp2_with (first
      | (go_at_call 52; clear tok1; refine (c1 _).mono ?_; rintro e w1 ⟨rfl, hx1⟩)
      | (go_at_call 52; refine (c2 _).mono ?_; rintro e w2 ⟨rfl, hx2⟩))
    go_ret
    exact ⟨rfl, hx1.trans hx2⟩
  · rw [if_neg h]
    by_cases h2 : y < x
    · rw [if_pos h2]
      go_enter Try.func39, Try.ntmps39
      go_wp2_with (first
        | (go_at_call 52; clear tok1; refine (c1 _).mono ?_; rintro e w1 ⟨rfl, hx1⟩)
        | (go_at_call 52; refine (c2 _).mono ?_; rintro e w2 ⟨rfl, hx2⟩))
      go_ret
      exact ⟨rfl, hx1.trans hx2⟩
    · rw [if_neg h2]
      go_enter Try.func39, Try.ntmps39
      go_wp2_with (first
        | (go_at_call 52; clear tok1; refine (c1 _).mono ?_; rintro e w1 ⟨rfl, hx1⟩)
        | (go_at_call 52; refine (c2 _).mono ?_; rintro e w2 ⟨rfl, hx2⟩))
      go_ret
      exact ⟨rfl, hx1.trans hx2⟩

theorem or_any (g n : Nat) (xs : List Int) (w : World) (hg : w.heap[g]? = some (.cells (xs.map (Value.int .i64)).toArray 3 (0, 0))) (hn : xs.length = n) (hs : n ≤ 100) :
    Calls Try.prog 37 #[.slice (some ⟨g, 0, none⟩) n n] w fun e w' => e = .returned (.int .i64 (orI xs)) ∧ Ext w w' := by
  have hc : ∀ w', Ext w w' → ∀ k x, xs[k]? = some x → w'.cell? ⟨g, k, none⟩ = some (.int .i64 x) := fun w' hx k x hk => by
    rw [heap_cell (hx.heap hg)]; simp [hk]
  have HC : Hid _ := hc
  have HN : Hid (xs.length = n) := hn
  clear hc hg hn
  go_enter Try.func37, Try.ntmps37
  go_wp2_with fail
  go_loopw [8] (fun i wr => ∃ k : Nat, k ≤ n ∧ i = .int .i64 k ∧ Ext w wr ∧ Hid (orI xs = orI (xs.drop k))) (fun i _ => n - (intOf i).toNat)
  case atStart => exact ⟨0, Nat.zero_le _, rfl, Ext.refl _, (by simp : orI xs = orI (xs.drop 0))⟩
  case round =>
    obtain ⟨k, hk, rfl, hx, HK⟩ := hrel
    by_cases hlt : k < n
    · have hlt' : k < xs.length := by rw [HN.out]; exact hlt
      obtain ⟨x, hxk⟩ : ∃ x, xs[k]? = some x := ⟨_, List.getElem?_eq_getElem hlt'⟩
      have q := HC.out wr hx k x hxk
      have hki : (k : Int) < (n : Int) := by omega
      have HD : Hid (xs.drop k = x :: xs.drop (k + 1)) := by
        show xs.drop k = _
        rw [List.drop_eq_getElem_cons hlt', (List.getElem?_eq_some_iff.1 hxk).2]
      clear hxk hlt'
      by_cases h0 : x = 0
      · have e : orI xs = orI (xs.drop (k + 1)) := by rw [HK.out, HD.out, orI_cons, if_pos h0]
        subst h0
        have HE : Hid _ := e
        clear e
        go_wp2_with fail
        go_roundw
        case rel => exact ⟨k + 1, by omega, by go_num, hx, HE⟩
        case measure => simp [intOf]; omega
      · have e : orI xs = x := by rw [HK.out, HD.out, orI_cons, if_neg h0]
        have HE : Hid _ := e
        clear e
        go_wp2_with fail
        go_ret
        rw [HE.out]
        exact ⟨rfl, hx⟩
    · obtain rfl : k = n := by omega
      have e : orI xs = 0 := by rw [HK.out, List.drop_eq_nil_of_le (by rw [HN.out]; exact Nat.le_refl _)]; rfl
      have HE : Hid _ := e
      clear e
      go_wp2_with fail
      go_ret
      rw [HE.out]
      exact ⟨rfl, hx⟩

/-- Two structs that come in are boxed first. -/
theorem two_boxes (w : World) (A B : Array Value) (t : TypeId) : Ext w ((w.alloc (.cells A t)).alloc (.cells B t)) ∧ ((w.alloc (.cells A t)).alloc (.cells B t)).heap[w.heap.size]? = some (.cells A t (0, 0)) ∧ ((w.alloc (.cells A t)).alloc (.cells B t)).heap[w.heap.size + 1]? = some (.cells B t (0, 0)) := by
  refine ⟨((Ext.refl w).alloc _).alloc _, (Below.heap_alloc (w.alloc (.cells A t)) _ w.heap.size (by simp)).trans (heap_new w _), ?_⟩
  have := heap_new (w.alloc (.cells A t)) (.cells B t)
  rwa [show (w.alloc (.cells A t)).heap.size = w.heap.size + 1 by simp] at this

theorem box2E {w : World} {b : Nat} {v0 v1 : Value} {t : TypeId} (h : w.heap[b]? = some (.cells #[v0, v1] t (0, 0))) :
    (∀ w', Ext w w' → w'.cell? ⟨b, 0, none⟩ = some v0) ∧ (∀ w', Ext w w' → w'.cell? ⟨b, 1, none⟩ = some v1) := by
  have hk : ∀ k w', Ext w w' → w'.cell? ⟨b, k, none⟩ = #[v0, v1][k]? := fun k w' hx => heap_cell (hx.heap h)
  exact ⟨hk 0, hk 1⟩

theorem orderPrefix_any (a l b m : Int) (w : World) : Calls Try.prog 49 #[.agg #[.int .u32 a, .int .i64 l], .agg #[.int .u32 b, .int .i64 m]] w fun e w' => e = .returned (.int .i64 (ordP a l b m)) ∧ Ext w w' := by
  obtain ⟨hX0, hA, hB⟩ := two_boxes w #[.int .u32 a, .int .i64 l] #[.int .u32 b, .int .i64 m] 25
  have hsz : w.heap.size ≤ ((w.alloc (.cells #[.int .u32 a, .int .i64 l] 25)).alloc (.cells #[.int .u32 b, .int .i64 m] 25)).heap.size := hX0.size
  obtain ⟨a0, a1⟩ := box2E hA
  obtain ⟨b0, b1⟩ := box2E hB
  clear hA hB
  go_enter Try.func49, Try.ntmps49
  go_wp2_with fail
  refine wp_region_make w.heap.size hsz [(0, 0), (1, 0), (2, 0), (3, 0), (5, 0), (6, 0), (7, 0), (8, 0), (4, 1), (9, 1), (10, 3), (10, 2), (11, 1), (12, 0)] (by kernel_rfl) (by kernel_rfl) rfl (by kernel_rfl) (fun _ _ _ _ _ => Iff.rfl) ?_
  have hX := hX0.drew
  have hd : Ext ((w.alloc (.cells #[.int .u32 a, .int .i64 l] 25)).alloc (.cells #[.int .u32 b, .int .i64 m] 25)) ((w.alloc (.cells #[.int .u32 a, .int .i64 l] 25)).alloc (.cells #[.int .u32 b, .int .i64 m] 25)).drew := (Ext.refl _).drew
  have x0 := fun w' h => a0 w' (hd.trans h)
  have x1 := fun w' h => a1 w' (hd.trans h)
  have y0 := fun w' h => b0 w' (hd.trans h)
  have y1 := fun w' h => b1 w' (hd.trans h)
  clear a0 a1 b0 b1 hd hX0 hsz
  generalize ((w.alloc (.cells #[.int .u32 a, .int .i64 l] 25)).alloc (.cells #[.int .u32 b, .int .i64 m] 25)).drew = W at *
  iterate 8 (refine wpW_read (v := ?_) rfl (by rfl) ?_ ?_; rotate_left; (focus (intro w' hx; go_simp; first | done | with_reducible rfl)); simp only [Act.put, List.setIfInBounds_toArray, List.set_cons_zero, List.set_cons_succ])
  clear x0 x1 y0 y1
  refine wpW_call rfl (by rfl) (fun W1 hx1 K hK => ?_); go_simp; (go_at_call 39; refine (compare_u32 _ _ _).mono ?_; rintro e W1' ⟨rfl, hx1'⟩; refine hK _ _ hx1' ?_; clear hK K)
  refine wpW_call rfl (by rfl) (fun W2 hx2 K hK => ?_); go_simp; (go_at_call 38; refine (compare_int _ _ _).mono ?_; rintro e W2' ⟨rfl, hx2'⟩; refine hK _ _ hx2' ?_; clear hK K)
  (refine wpW_say _ (fun g => .slice (some ⟨g, 0, none⟩) 2 2) rfl (by rfl) (fun w' => by go_simp; first | done | with_reducible rfl) ?_)
  refine wpW_make _ (fun g => .slice (some ⟨g, 0, none⟩) 2 2) rfl (by rfl) (fun w' => by go_simp; first | done | with_reducible rfl) ?_; simp only [Act.put, List.setIfInBounds_toArray, List.set_cons_zero, List.set_cons_succ]; intro W7 g7 hx7 hB7 hg7
  refine wpW_call rfl (by rfl) (fun W8 hx8 K hK => ?_); go_simp; (go_at_call 37)
  refine (or_any g7 2 [cmpI a b, cmpI l m] W8 (hx8.heap hg7) rfl (by omega)).mono ?_
  rintro e W9 ⟨rfl, hx9⟩
  refine hK _ _ hx9 ?_
  clear hK K
  (refine wpW_read (v := ?_) rfl (by rfl) ?_ ?_; rotate_left; (focus (intro w' hx; go_simp; first | done | with_reducible rfl)); simp only [Act.put, List.setIfInBounds_toArray, List.set_cons_zero, List.set_cons_succ])
  refine wpW_done ?_
  go_wp2_with fail
  go_ret
  exact ⟨rfl, hX.trans (hx1.trans (hx1'.trans (hx2.trans (hx2'.trans (hx7.trans (hx8.trans hx9))))))⟩

theorem order_any (x y : Rt) (w : World) : Calls Try.prog 54 #[(.agg #[.int .i64 x.t, .int .u32 x.a, .int .i64 x.l, .int .i64 x.i, .int .u32 x.g, .int .i64 x.m]), (.agg #[.int .i64 y.t, .int .u32 y.a, .int .i64 y.l, .int .i64 y.i, .int .u32 y.g, .int .i64 y.m])] w fun e w' => e = .returned (.int .i64 (ordR x y)) ∧ Ext w w' := by
  obtain ⟨hX0, hA, hB⟩ := two_boxes w #[.int .i64 x.t, .int .u32 x.a, .int .i64 x.l, .int .i64 x.i, .int .u32 x.g, .int .i64 x.m] #[.int .i64 y.t, .int .u32 y.a, .int .i64 y.l, .int .i64 y.i, .int .u32 y.g, .int .i64 y.m] 27
  have hsz : w.heap.size ≤ ((w.alloc (.cells #[.int .i64 x.t, .int .u32 x.a, .int .i64 x.l, .int .i64 x.i, .int .u32 x.g, .int .i64 x.m] 27)).alloc (.cells #[.int .i64 y.t, .int .u32 y.a, .int .i64 y.l, .int .i64 y.i, .int .u32 y.g, .int .i64 y.m] 27)).heap.size := hX0.size
  obtain ⟨a0, a1, a2, a3, a4, a5⟩ := box_rtE hA
  obtain ⟨b0, b1, b2, b3, b4, b5⟩ := box_rtE hB
  clear hA hB
  go_enter Try.func54, Try.ntmps54
  go_wp2_with fail
  refine wp_region_make w.heap.size hsz [(0, 0), (1, 0), (2, 0), (3, 0), (5, 0), (6, 0), (7, 0), (8, 0), (10, 0), (11, 0), (12, 0), (13, 0), (15, 0), (16, 0), (17, 0), (18, 0), (4, 1), (9, 1), (14, 1), (19, 1), (20, 3), (20, 2), (21, 1), (22, 0)] (by kernel_rfl) (by kernel_rfl) rfl (by kernel_rfl) (fun _ _ _ _ _ => Iff.rfl) ?_
  have hX := hX0.drew
  have hd : Ext ((w.alloc (.cells #[.int .i64 x.t, .int .u32 x.a, .int .i64 x.l, .int .i64 x.i, .int .u32 x.g, .int .i64 x.m] 27)).alloc (.cells #[.int .i64 y.t, .int .u32 y.a, .int .i64 y.l, .int .i64 y.i, .int .u32 y.g, .int .i64 y.m] 27)) ((w.alloc (.cells #[.int .i64 x.t, .int .u32 x.a, .int .i64 x.l, .int .i64 x.i, .int .u32 x.g, .int .i64 x.m] 27)).alloc (.cells #[.int .i64 y.t, .int .u32 y.a, .int .i64 y.l, .int .i64 y.i, .int .u32 y.g, .int .i64 y.m] 27)).drew := (Ext.refl _).drew
  have x0 := fun w' h => a0 w' (hd.trans h)
  have x1 := fun w' h => a1 w' (hd.trans h)
  have x2 := fun w' h => a2 w' (hd.trans h)
  have x3 := fun w' h => a3 w' (hd.trans h)
  have x4 := fun w' h => a4 w' (hd.trans h)
  have y0 := fun w' h => b0 w' (hd.trans h)
  have y1 := fun w' h => b1 w' (hd.trans h)
  have y2 := fun w' h => b2 w' (hd.trans h)
  have y3 := fun w' h => b3 w' (hd.trans h)
  have y4 := fun w' h => b4 w' (hd.trans h)
  clear a0 a1 a2 a3 a4 a5 b0 b1 b2 b3 b4 b5 hd hX0 hsz
  generalize ((w.alloc (.cells #[.int .i64 x.t, .int .u32 x.a, .int .i64 x.l, .int .i64 x.i, .int .u32 x.g, .int .i64 x.m] 27)).alloc (.cells #[.int .i64 y.t, .int .u32 y.a, .int .i64 y.l, .int .i64 y.i, .int .u32 y.g, .int .i64 y.m] 27)).drew = W at *
  iterate 16 (refine wpW_read (v := ?_) rfl (by rfl) ?_ ?_; rotate_left; (focus (intro w' hx; go_simp; first | done | with_reducible rfl)); simp only [Act.put, List.setIfInBounds_toArray, List.set_cons_zero, List.set_cons_succ])
  clear x0 x1 x2 x3 x4 y0 y1 y2 y3 y4
  refine wpW_call rfl (by rfl) (fun W1 hx1 K hK => ?_); go_simp; (go_at_call 38; refine (compare_int _ _ _).mono ?_; rintro e W1' ⟨rfl, hx1'⟩; refine hK _ _ hx1' ?_; clear hK K)
  refine wpW_call rfl (by rfl) (fun W2 hx2 K hK => ?_); go_simp; (go_at_call 49; refine (orderPrefix_any _ _ _ _ _).mono ?_; rintro e W2' ⟨rfl, hx2'⟩; refine hK _ _ hx2' ?_; clear hK K)
  refine wpW_call rfl (by rfl) (fun W3 hx3 K hK => ?_); go_simp; (go_at_call 38; refine (compare_int _ _ _).mono ?_; rintro e W3' ⟨rfl, hx3'⟩; refine hK _ _ hx3' ?_; clear hK K)
  refine wpW_call rfl (by rfl) (fun W4 hx4 K hK => ?_); go_simp; (go_at_call 39; refine (compare_u32 _ _ _).mono ?_; rintro e W4' ⟨rfl, hx4'⟩; refine hK _ _ hx4' ?_; clear hK K)
  (refine wpW_say _ (fun g => .slice (some ⟨g, 0, none⟩) 4 4) rfl (by rfl) (fun w' => by go_simp; first | done | with_reducible rfl) ?_)
  refine wpW_make _ (fun g => .slice (some ⟨g, 0, none⟩) 4 4) rfl (by rfl) (fun w' => by go_simp; first | done | with_reducible rfl) ?_; simp only [Act.put, List.setIfInBounds_toArray, List.set_cons_zero, List.set_cons_succ]; intro W7 g7 hx7 hB7 hg7
  refine wpW_call rfl (by rfl) (fun W8 hx8 K hK => ?_); go_simp; (go_at_call 37)
  refine (or_any g7 4 [cmpI x.t y.t, ordP x.a x.l y.a y.l, cmpI x.i y.i, cmpI x.g y.g] W8 (hx8.heap hg7) rfl (by omega)).mono ?_
  rintro e W9 ⟨rfl, hx9⟩
  refine hK _ _ hx9 ?_
  clear hK K
  (refine wpW_read (v := ?_) rfl (by rfl) ?_ ?_; rotate_left; (focus (intro w' hx; go_simp; first | done | with_reducible rfl)); simp only [Act.put, List.setIfInBounds_toArray, List.set_cons_zero, List.set_cons_succ])
  refine wpW_done ?_
  go_wp2_with fail
  go_ret
  exact ⟨rfl, hX.trans (hx1.trans (hx1'.trans (hx2.trans (hx2'.trans (hx3.trans (hx3'.trans (hx4.trans (hx4'.trans (hx7.trans (hx8.trans hx9))))))))))⟩

theorem better_any (x y : Rt) (w : World) : Calls Try.prog 21 #[(.agg #[.int .i64 x.t, .int .u32 x.a, .int .i64 x.l, .int .i64 x.i, .int .u32 x.g, .int .i64 x.m]), (.agg #[.int .i64 y.t, .int .u32 y.a, .int .i64 y.l, .int .i64 y.i, .int .u32 y.g, .int .i64 y.m])] w fun e w' => e = .returned (.bool (betB x y)) ∧ Ext w w' := by
  obtain ⟨hX0, hA, hB⟩ := two_boxes w #[.int .i64 x.t, .int .u32 x.a, .int .i64 x.l, .int .i64 x.i, .int .u32 x.g, .int .i64 x.m] #[.int .i64 y.t, .int .u32 y.a, .int .i64 y.l, .int .i64 y.i, .int .u32 y.g, .int .i64 y.m] 27
  have hsz : w.heap.size ≤ ((w.alloc (.cells #[.int .i64 x.t, .int .u32 x.a, .int .i64 x.l, .int .i64 x.i, .int .u32 x.g, .int .i64 x.m] 27)).alloc (.cells #[.int .i64 y.t, .int .u32 y.a, .int .i64 y.l, .int .i64 y.i, .int .u32 y.g, .int .i64 y.m] 27)).heap.size := hX0.size
  obtain ⟨a0, a1, a2, a3, a4, a5⟩ := box_rtE hA
  obtain ⟨b0, b1, b2, b3, b4, b5⟩ := box_rtE hB
  have hb : decide (orI [cmpI x.m y.m, cmpI x.i y.i, cmpI x.g y.g] < 0) = betB x y := by
    have := betI_lt x y
    unfold betI at this
    cases h : betB x y
    · rw [h] at this; simpa using this
    · rw [h] at this; simpa using this
  have HB : Hid _ := hb
  clear hA hB hb
  go_enter Try.func21, Try.ntmps21
  go_wp2_with fail
  refine wp_region_make w.heap.size hsz [(0, 0), (1, 0), (2, 0), (3, 0), (5, 0), (6, 0), (7, 0), (8, 0), (10, 0), (11, 0), (12, 0), (13, 0), (4, 1), (9, 1), (14, 1), (15, 3), (15, 2), (16, 1), (17, 0), (18, 0)] (by kernel_rfl) (by kernel_rfl) rfl (by kernel_rfl) (fun _ _ _ _ _ => Iff.rfl) ?_
  have hX := hX0.drew
  have hd : Ext ((w.alloc (.cells #[.int .i64 x.t, .int .u32 x.a, .int .i64 x.l, .int .i64 x.i, .int .u32 x.g, .int .i64 x.m] 27)).alloc (.cells #[.int .i64 y.t, .int .u32 y.a, .int .i64 y.l, .int .i64 y.i, .int .u32 y.g, .int .i64 y.m] 27)) ((w.alloc (.cells #[.int .i64 x.t, .int .u32 x.a, .int .i64 x.l, .int .i64 x.i, .int .u32 x.g, .int .i64 x.m] 27)).alloc (.cells #[.int .i64 y.t, .int .u32 y.a, .int .i64 y.l, .int .i64 y.i, .int .u32 y.g, .int .i64 y.m] 27)).drew := (Ext.refl _).drew
  have x3 := fun w' h => a3 w' (hd.trans h)
  have x4 := fun w' h => a4 w' (hd.trans h)
  have x5 := fun w' h => a5 w' (hd.trans h)
  have y3 := fun w' h => b3 w' (hd.trans h)
  have y4 := fun w' h => b4 w' (hd.trans h)
  have y5 := fun w' h => b5 w' (hd.trans h)
  clear a0 a1 a2 a3 a4 a5 b0 b1 b2 b3 b4 b5 hd hX0 hsz
  generalize ((w.alloc (.cells #[.int .i64 x.t, .int .u32 x.a, .int .i64 x.l, .int .i64 x.i, .int .u32 x.g, .int .i64 x.m] 27)).alloc (.cells #[.int .i64 y.t, .int .u32 y.a, .int .i64 y.l, .int .i64 y.i, .int .u32 y.g, .int .i64 y.m] 27)).drew = W at *
  iterate 12 (refine wpW_read (v := ?_) rfl (by rfl) ?_ ?_; rotate_left; (focus (intro w' hx; go_simp; first | done | with_reducible rfl)); simp only [Act.put, List.setIfInBounds_toArray, List.set_cons_zero, List.set_cons_succ])
  clear x3 x4 x5 y3 y4 y5
  refine wpW_call rfl (by rfl) (fun W1 hx1 K hK => ?_); go_simp; (go_at_call 38; refine (compare_int _ _ _).mono ?_; rintro e W1' ⟨rfl, hx1'⟩; refine hK _ _ hx1' ?_; clear hK K)
  refine wpW_call rfl (by rfl) (fun W3 hx3 K hK => ?_); go_simp; (go_at_call 38; refine (compare_int _ _ _).mono ?_; rintro e W3' ⟨rfl, hx3'⟩; refine hK _ _ hx3' ?_; clear hK K)
  refine wpW_call rfl (by rfl) (fun W4 hx4 K hK => ?_); go_simp; (go_at_call 39; refine (compare_u32 _ _ _).mono ?_; rintro e W4' ⟨rfl, hx4'⟩; refine hK _ _ hx4' ?_; clear hK K)
  (refine wpW_say _ (fun g => .slice (some ⟨g, 0, none⟩) 3 3) rfl (by rfl) (fun w' => by go_simp; first | done | with_reducible rfl) ?_)
  refine wpW_make _ (fun g => .slice (some ⟨g, 0, none⟩) 3 3) rfl (by rfl) (fun w' => by go_simp; first | done | with_reducible rfl) ?_; simp only [Act.put, List.setIfInBounds_toArray, List.set_cons_zero, List.set_cons_succ]; intro W7 g7 hx7 hB7 hg7
  refine wpW_call rfl (by rfl) (fun W8 hx8 K hK => ?_); go_simp; (go_at_call 37)
  refine (or_any g7 3 [cmpI x.m y.m, cmpI x.i y.i, cmpI x.g y.g] W8 (hx8.heap hg7) rfl (by omega)).mono ?_
  rintro e W9 ⟨rfl, hx9⟩
  refine hK _ _ hx9 ?_
  clear hK K
  (refine wpW_read (v := ?_) rfl (by rfl) ?_ ?_; rotate_left; (focus (intro w' hx; go_simp; first | done | with_reducible rfl)); simp only [Act.put, List.setIfInBounds_toArray, List.set_cons_zero, List.set_cons_succ])
  (refine wpW_read (v := ?_) rfl (by rfl) ?_ ?_; rotate_left; (focus (intro w' hx; go_simp; first | done | with_reducible rfl)); simp only [Act.put, List.setIfInBounds_toArray, List.set_cons_zero, List.set_cons_succ])
  refine wpW_done ?_
  go_wp2_with fail
  go_ret
  refine ⟨?_, hX.trans (hx1.trans (hx1'.trans (hx3.trans (hx3'.trans (hx4.trans (hx4'.trans (hx7.trans (hx8.trans hx9))))))))⟩
  rw [← HB.out]
  rfl
end Go.Proofs.Ytbchfmadmcppkaa.Rb
