/- Texts joined by a program: RfC, RfD. -/
import Derived.Test.YtkfhkhgiojpfoaaGreatJ8
import Derived.Test.YtkfhkhgiojpfoaaGreatJ9
import Derived.Test.YtkfhkhgiojpfoaaGreatJ22
namespace Go.Proofs.YtkfhkhgiojpfoaaGreat.Rb

set_option maxRecDepth 100000

open Go.RowKit Go.Proofs.YtkfhkhgiojpfoaaGreat

set_option linter.unusedVariables false

set_option linter.unusedSimpArgs false

set_option maxHeartbeats 4000000 in
theorem refBest_in (xb : Nat) (L : List Rt) (ty : TypeId) (rest : List Value) (v : Value) (t a l : Int) (q : Option Addr) (m d : Nat) (U : List Bool) (w : World) (h : RibIn ty rest w xb v L) (hn : L.length ≤ 1000) (hU : Ups w q m U) :
    Calls Tryz.prog 79 #[.pointer (some ⟨xb, 0, none⟩), .int .i64 t, .agg #[.int .u32 a, .int .i64 l], .slice q m d] w (BestAns w (bestO L t a l U)) := by
  obtain ⟨hX, hO⟩ := h
  obtain ⟨p, c, hv, hc1, -, hR⟩ := hO.slice
  subst hv
  have hA : Ext w ((w.alloc (.cells #[.int .u32 a, .int .i64 l] 42)).alloc (.cells #[.int .i64 zeroR.t, .int .u32 zeroR.a, .int .i64 zeroR.l, .int .i64 zeroR.i, .int .u32 zeroR.g, .int .i64 zeroR.m] 48)) := ((Ext.refl w).alloc _).alloc _
  have hB1 : ((w.alloc (.cells #[.int .u32 a, .int .i64 l] 42)).alloc (.cells #[.int .i64 zeroR.t, .int .u32 zeroR.a, .int .i64 zeroR.l, .int .i64 zeroR.i, .int .u32 zeroR.g, .int .i64 zeroR.m] 48)).heap[w.heap.size]? = some (.cells #[.int .u32 a, .int .i64 l] 42 (0, 0)) :=
    (Below.heap_alloc (w.alloc (.cells #[.int .u32 a, .int .i64 l] 42)) _ w.heap.size (by simp)).trans (heap_new w _)
  have hB2 : ((w.alloc (.cells #[.int .u32 a, .int .i64 l] 42)).alloc (.cells #[.int .i64 zeroR.t, .int .u32 zeroR.a, .int .i64 zeroR.l, .int .i64 zeroR.i, .int .u32 zeroR.g, .int .i64 zeroR.m] 48)).heap[w.heap.size + 1]? = some (.cells #[.int .i64 zeroR.t, .int .u32 zeroR.a, .int .i64 zeroR.l, .int .i64 zeroR.i, .int .u32 zeroR.g, .int .i64 zeroR.m] 48 (0, 0)) := by
    have := heap_new (w.alloc (.cells #[.int .u32 a, .int .i64 l] 42)) (.cells #[.int .i64 zeroR.t, .int .u32 zeroR.a, .int .i64 zeroR.l, .int .i64 zeroR.i, .int .u32 zeroR.g, .int .i64 zeroR.m] 48)
    rwa [show (w.alloc (.cells #[.int .u32 a, .int .i64 l] 42)).heap.size = w.heap.size + 1 by simp] at this
  have x00 : ((w.alloc (.cells #[.int .u32 a, .int .i64 l] 42)).alloc (.cells #[.int .i64 zeroR.t, .int .u32 zeroR.a, .int .i64 zeroR.l, .int .i64 zeroR.i, .int .u32 zeroR.g, .int .i64 zeroR.m] 48)).cell? ⟨xb, 0, none⟩ = some (.slice p L.length c) := top_cell (hA.heap hX)
  have HA : Hid (Ext w ((w.alloc (.cells #[.int .u32 a, .int .i64 l] 42)).alloc (.cells #[.int .i64 zeroR.t, .int .u32 zeroR.a, .int .i64 zeroR.l, .int .i64 zeroR.i, .int .u32 zeroR.g, .int .i64 zeroR.m] 48))) := hA
  have HB1 : Hid _ := hB1
  have HB2 : Hid _ := hB2
  have HX : Hid _ := hX
  have HR : Hid (Rd w p L.length c L) := hR
  have HU : Hid (Ups w q m U) := hU
  have ep := fun x y w => eql_prefix x y a l w
  clear hA hB1 hB2 hX hO hR hU
  go_enter Tryz.func79, Tryz.ntmps79
  go_wp2_with fail
  clear x00
  change Code.wp Tryz.prog _ _ _ ((w.alloc (.cells #[.int .u32 a, .int .i64 l] 42)).alloc (.cells #[.int .i64 zeroR.t, .int .u32 zeroR.a, .int .i64 zeroR.l, .int .i64 zeroR.i, .int .u32 zeroR.g, .int .i64 zeroR.m] 48))
  generalize hW0 : ((w.alloc (.cells #[.int .u32 a, .int .i64 l] 42)).alloc (.cells #[.int .i64 zeroR.t, .int .u32 zeroR.a, .int .i64 zeroR.l, .int .i64 zeroR.i, .int .u32 zeroR.g, .int .i64 zeroR.m] 48)) = W0 at *
  clear hW0
  go_loopg [10, 11] L.length (fun kx s10 s11 wr => ∃ (k : Nat) (o : Option Rt) (z : Int), s11 = .int .i64 k ∧ s10 = .int .i64 z ∧ k ≤ L.length ∧ L.length - k ≤ kx ∧ Ext W0 wr ∧ Hid (o = bestO (L.take k) t a l U) ∧ Hid (Idx L o z))
  case atStart => exact ⟨0, none, -1, rfl, rfl, Nat.zero_le _, by omega, Ext.refl _, (rfl : none = bestO (L.take 0) t a l U), (.inl ⟨rfl, rfl⟩ : Idx L none (-1))⟩
  case round =>
    obtain ⟨k, o, z, rfl, rfl, hkn, hkx, hx, HO, HZ⟩ := hrel
    have vr : wr.cell? ⟨xb, 0, none⟩ = some (.slice p L.length c) := top_cell ((HA.out.trans hx).heap HX.out)
    by_cases hlt : k < L.length
    · obtain ⟨x, hxk⟩ : ∃ x, L[k]? = some x := ⟨_, List.getElem?_eq_getElem hlt⟩
      have hst := bestO_take (U := U) (t := t) (a := a) (l := l) hxk
      rw [← HO.out] at hst
      obtain ⟨b, off, rfl, hb, g0, g1, g2, g3, g4, g5⟩ := (HR.out.ext (HA.out.trans hx)).cell hxk
      have hA : Ext wr (wr.alloc (.cells #[.int .i64 x.t, .int .u32 x.a, .int .i64 x.l, .int .i64 x.i, .int .u32 x.g, .int .i64 x.m] 48)) := (Ext.refl wr).alloc _
      have hxA : Ext W0 (wr.alloc (.cells #[.int .i64 x.t, .int .u32 x.a, .int .i64 x.l, .int .i64 x.i, .int .u32 x.g, .int .i64 x.m] 48)) := hx.trans hA
      have HXK : Hid _ := hxk
      have HT : Hid _ := hst
      have hki : (k : Int) < (L.length : Int) := by omega
      have ko := fun w' (hx : Ext W0 w') => on_any x.i q m d U w' (HU.out.ext (HA.out.trans hx))
      obtain ⟨a0, a1, a2, a3, a4, a5⟩ := box_rtE (heap_new wr (.cells #[.int .i64 x.t, .int .u32 x.a, .int .i64 x.l, .int .i64 x.i, .int .u32 x.g, .int .i64 x.m] 48))
      obtain ⟨e0, e1⟩ := box2E HB1.out
      have hdd : Ext (wr.alloc (.cells #[.int .i64 x.t, .int .u32 x.a, .int .i64 x.l, .int .i64 x.i, .int .u32 x.g, .int .i64 x.m] 48)) (wr.alloc (.cells #[.int .i64 x.t, .int .u32 x.a, .int .i64 x.l, .int .i64 x.i, .int .u32 x.g, .int .i64 x.m] 48)).drew := (Ext.refl _).drew
      have x0 := fun w' h => a0 w' (hdd.trans h)
      have x1 := fun w' h => a1 w' (hdd.trans h)
      have x2 := fun w' h => a2 w' (hdd.trans h)
      have x3 := fun w' h => a3 w' (hdd.trans h)
      have x4 := fun w' h => a4 w' (hdd.trans h)
      have x5 := fun w' h => a5 w' (hdd.trans h)
      have b0 := fun w' h => e0 w' (hxA.trans (hdd.trans h))
      have b1 := fun w' h => e1 w' (hxA.trans (hdd.trans h))
      have v0 : ∀ w', Ext (wr.alloc (.cells #[.int .i64 x.t, .int .u32 x.a, .int .i64 x.l, .int .i64 x.i, .int .u32 x.g, .int .i64 x.m] 48)).drew w' → w'.cell? ⟨xb, 0, none⟩ = some (.slice (some ⟨b, off, none⟩) L.length c) := fun w' h => top_cell ((HA.out.trans (hxA.trans (hdd.trans h))).heap HX.out)
      clear a0 a1 a2 a3 a4 a5 e0 e1 hdd hst hxk
      have ex := fun w => ep x.a x.l w
      clear ep
      by_cases h1 : x.t = t
      · have h1a : (x.t == t) = true := by simpa using h1
        by_cases h2 : (x.a == a && x.l == l) = true
        · have hsel : selB t a l x = true := by
            simp only [Bool.and_eq_true, beq_iff_eq] at h2
            exact (selB_iff _ _ _ _).2 ⟨h1, h2.1, h2.2⟩
          rw [h2] at ex
          clear h1 h2
          cases hu : upB U x.i with
          | false =>
            rw [hu] at ko
            have ho : (if selB t a l x = true then stepB U o x else o) = o := by rw [if_pos hsel]; unfold stepB; rw [hu]; simp
            clear hsel hu
            go_wp2_with fail
            refine wp_region_eager [(0, false), (1, false), (2, false), (3, false), (4, false), (5, false), (6, false), (7, false), (8, false), (9, false), (10, false), (11, false), (12, false), (13, false), (14, true), (15, false), (16, false), (17, false), (18, false), (19, false), (20, false), (21, false), (22, false), (23, false), (24, false), (25, false), (26, false), (27, false), (28, true), (29, false), (30, false)] (by kernel_rfl) (by kernel_rfl) rfl (by kernel_rfl) (fun _ _ _ _ _ h => h) ?_
            have hWd : Ext W0 (wr.alloc (.cells #[.int .i64 x.t, .int .u32 x.a, .int .i64 x.l, .int .i64 x.i, .int .u32 x.g, .int .i64 x.m] 48)).drew := hxA.drew
            generalize (wr.alloc (.cells #[.int .i64 x.t, .int .u32 x.a, .int .i64 x.l, .int .i64 x.i, .int .u32 x.g, .int .i64 x.m] 48)).drew = W at *
            iterate 14 (refine wpE_read (v := ?_) rfl (by rfl) ?_ ?_; rotate_left; (focus (intro w' hx; go_simp; first | done | with_reducible rfl)); simp only [Act.put, List.setIfInBounds_toArray, List.set_cons_zero, List.set_cons_succ])
            (refine wpE_call rfl (by rfl) (fun K hK => ?_); go_simp; first
                  | (go_at_call 32; refine (ko _ hWd).mono ?_; rintro e w1 ⟨rfl, hx1⟩; refine hK _ _ hx1 ?_; clear hK K))
            iterate 2 (refine wpE_read (v := ?_) rfl (by rfl) ?_ ?_; rotate_left; (focus (intro w' hx; go_simp; first | done | with_reducible rfl)); simp only [Act.put, List.setIfInBounds_toArray, List.set_cons_zero, List.set_cons_succ])
            iterate 13 (rw [wpE_skip_eq _ rfl (by rfl)]; simp only [Act.put, List.setIfInBounds_toArray, List.set_cons_zero, List.set_cons_succ])
            iterate 1 (refine wpE_read (v := ?_) rfl (by rfl) ?_ ?_; rotate_left; (focus (intro w' hx; go_simp; first | done | with_reducible rfl)); simp only [Act.put, List.setIfInBounds_toArray, List.set_cons_zero, List.set_cons_succ])
            refine wpE_done ?_
            go_wp2_with fail
            go_roundg (L.length - (k + 1))
            case measure => omega
            case rel => exact ⟨k + 1, o, z, by go_num, rfl, by omega, Nat.le_refl _, hWd.trans hx1, (by rw [HT.out, ho] : o = bestO (L.take (k + 1)) t a l U), HZ⟩
          | true =>
            rw [hu] at ko
            rcases HZ.out with ⟨ho0, hz⟩ | ⟨j, y, hz, hj, hy, ho0⟩
            · have ho : (if selB t a l x = true then stepB U o x else o) = some x := by rw [if_pos hsel, ho0]; unfold stepB okB; rw [hu]; simp
              subst hz
              clear hsel hu ho0
              go_wp2_with fail
              refine wp_region_eager [(0, false), (1, false), (2, false), (3, false), (4, false), (5, false), (6, false), (7, false), (8, false), (9, false), (10, false), (11, false), (12, false), (13, false), (14, true), (15, false), (16, false), (17, false), (18, false), (19, false), (20, false), (21, false), (22, false), (23, false), (24, false), (25, false), (26, false), (27, false), (28, true), (29, false), (30, false)] (by kernel_rfl) (by kernel_rfl) rfl (by kernel_rfl) (fun _ _ _ _ _ h => h) ?_
              have hWd : Ext W0 (wr.alloc (.cells #[.int .i64 x.t, .int .u32 x.a, .int .i64 x.l, .int .i64 x.i, .int .u32 x.g, .int .i64 x.m] 48)).drew := hxA.drew
              generalize (wr.alloc (.cells #[.int .i64 x.t, .int .u32 x.a, .int .i64 x.l, .int .i64 x.i, .int .u32 x.g, .int .i64 x.m] 48)).drew = W at *
              iterate 14 (refine wpE_read (v := ?_) rfl (by rfl) ?_ ?_; rotate_left; (focus (intro w' hx; go_simp; first | done | with_reducible rfl)); simp only [Act.put, List.setIfInBounds_toArray, List.set_cons_zero, List.set_cons_succ])
              (refine wpE_call rfl (by rfl) (fun K hK => ?_); go_simp; first
                    | (go_at_call 32; refine (ko _ hWd).mono ?_; rintro e w1 ⟨rfl, hx1⟩; refine hK _ _ hx1 ?_; clear hK K))
              iterate 5 (refine wpE_read (v := ?_) rfl (by rfl) ?_ ?_; rotate_left; (focus (intro w' hx; go_simp; first | done | with_reducible rfl)); simp only [Act.put, List.setIfInBounds_toArray, List.set_cons_zero, List.set_cons_succ])
              iterate 9 (rw [wpE_skip_eq _ rfl (by rfl)]; simp only [Act.put, List.setIfInBounds_toArray, List.set_cons_zero, List.set_cons_succ])
              iterate 2 (refine wpE_read (v := ?_) rfl (by rfl) ?_ ?_; rotate_left; (focus (intro w' hx; go_simp; first | done | with_reducible rfl)); simp only [Act.put, List.setIfInBounds_toArray, List.set_cons_zero, List.set_cons_succ])
              refine wpE_done ?_
              go_wp2_with fail
              go_roundg (L.length - (k + 1))
              case measure => omega
              case rel => exact ⟨k + 1, some x, (k : Int), by go_num, rfl, by omega, Nat.le_refl _, hWd.trans hx1, (by rw [HT.out, ho] : some x = bestO (L.take (k + 1)) t a l U), (.inr ⟨k, x, rfl, hlt, HXK.out, rfl⟩ : Idx L (some x) (k : Int))⟩
            · have kb := fun w => refBetter_any x y w
              obtain ⟨b', off', hbo, hb', y0, y1, y2, y3, y4, y5⟩ := (HR.out.ext (HA.out.trans hxA.drew)).cell hy
              cases hbo
              have z0 : ∀ w', Ext (wr.alloc (.cells #[.int .i64 x.t, .int .u32 x.a, .int .i64 x.l, .int .i64 x.i, .int .u32 x.g, .int .i64 x.m] 48)).drew w' → w'.cell? ⟨b, off + j * 6, none⟩ = some (.int .i64 y.t) := fun w' h => by rw [h.below.cell (p := ⟨b, off + j * 6, none⟩) hb']; exact y0
              have z1 : ∀ w', Ext (wr.alloc (.cells #[.int .i64 x.t, .int .u32 x.a, .int .i64 x.l, .int .i64 x.i, .int .u32 x.g, .int .i64 x.m] 48)).drew w' → w'.cell? ⟨b, off + j * 6 + 1, none⟩ = some (.int .u32 y.a) := fun w' h => by rw [h.below.cell (p := ⟨b, off + j * 6 + 1, none⟩) hb']; exact y1
              have z2 : ∀ w', Ext (wr.alloc (.cells #[.int .i64 x.t, .int .u32 x.a, .int .i64 x.l, .int .i64 x.i, .int .u32 x.g, .int .i64 x.m] 48)).drew w' → w'.cell? ⟨b, off + j * 6 + 2, none⟩ = some (.int .i64 y.l) := fun w' h => by rw [h.below.cell (p := ⟨b, off + j * 6 + 2, none⟩) hb']; exact y2
              have z3 : ∀ w', Ext (wr.alloc (.cells #[.int .i64 x.t, .int .u32 x.a, .int .i64 x.l, .int .i64 x.i, .int .u32 x.g, .int .i64 x.m] 48)).drew w' → w'.cell? ⟨b, off + j * 6 + 3, none⟩ = some (.int .i64 y.i) := fun w' h => by rw [h.below.cell (p := ⟨b, off + j * 6 + 3, none⟩) hb']; exact y3
              have z4 : ∀ w', Ext (wr.alloc (.cells #[.int .i64 x.t, .int .u32 x.a, .int .i64 x.l, .int .i64 x.i, .int .u32 x.g, .int .i64 x.m] 48)).drew w' → w'.cell? ⟨b, off + j * 6 + 4, none⟩ = some (.int .u32 y.g) := fun w' h => by rw [h.below.cell (p := ⟨b, off + j * 6 + 4, none⟩) hb']; exact y4
              have z5 : ∀ w', Ext (wr.alloc (.cells #[.int .i64 x.t, .int .u32 x.a, .int .i64 x.l, .int .i64 x.i, .int .u32 x.g, .int .i64 x.m] 48)).drew w' → w'.cell? ⟨b, off + j * 6 + 5, none⟩ = some (.int .i64 y.m) := fun w' h => by rw [h.below.cell (p := ⟨b, off + j * 6 + 5, none⟩) hb']; exact y5
              clear y0 y1 y2 y3 y4 y5
              have hji : (j : Int) < (L.length : Int) := by omega
              subst hz
              cases hbt : betB x y with
              | false =>
                rw [hbt] at kb
                have ho : (if selB t a l x = true then stepB U o x else o) = o := by rw [if_pos hsel, ho0]; unfold stepB okB; rw [hu]; simp [hbt]
                generalize hzj : (j : Int) = z at HZ
                subst hzj
                clear hsel hu ho0 hbt
                go_wp2_with fail
                refine wp_region_eager [(0, false), (1, false), (2, false), (3, false), (4, false), (5, false), (6, false), (7, false), (8, false), (9, false), (10, false), (11, false), (12, false), (13, false), (14, true), (15, false), (16, false), (17, false), (18, false), (19, false), (20, false), (21, false), (22, false), (23, false), (24, false), (25, false), (26, false), (27, false), (28, true), (29, false), (30, false)] (by kernel_rfl) (by kernel_rfl) rfl (by kernel_rfl) (fun _ _ _ _ _ h => h) ?_
                have hWd : Ext W0 (wr.alloc (.cells #[.int .i64 x.t, .int .u32 x.a, .int .i64 x.l, .int .i64 x.i, .int .u32 x.g, .int .i64 x.m] 48)).drew := hxA.drew
                generalize (wr.alloc (.cells #[.int .i64 x.t, .int .u32 x.a, .int .i64 x.l, .int .i64 x.i, .int .u32 x.g, .int .i64 x.m] 48)).drew = W at *
                iterate 14 (refine wpE_read (v := ?_) rfl (by rfl) ?_ ?_; rotate_left; (focus (intro w' hx; go_simp; first | done | with_reducible rfl)); simp only [Act.put, List.setIfInBounds_toArray, List.set_cons_zero, List.set_cons_succ])
                (refine wpE_call rfl (by rfl) (fun K hK => ?_); go_simp; first
                      | (go_at_call 32; refine (ko _ hWd).mono ?_; rintro e w1 ⟨rfl, hx1⟩; refine hK _ _ hx1 ?_; clear hK K))
                replace v0 := fun w' h => v0 w' (hx1.trans h); replace x0 := fun w' h => x0 w' (hx1.trans h); replace x1 := fun w' h => x1 w' (hx1.trans h); replace x2 := fun w' h => x2 w' (hx1.trans h); replace x3 := fun w' h => x3 w' (hx1.trans h); replace x4 := fun w' h => x4 w' (hx1.trans h); replace x5 := fun w' h => x5 w' (hx1.trans h); replace z0 := fun w' h => z0 w' (hx1.trans h); replace z1 := fun w' h => z1 w' (hx1.trans h); replace z2 := fun w' h => z2 w' (hx1.trans h); replace z3 := fun w' h => z3 w' (hx1.trans h); replace z4 := fun w' h => z4 w' (hx1.trans h); replace z5 := fun w' h => z5 w' (hx1.trans h)
                iterate 13 (refine wpE_read (v := ?_) rfl (by rfl) ?_ ?_; rotate_left; (focus (intro w' hx; go_simp; first | done | with_reducible rfl)); simp only [Act.put, List.setIfInBounds_toArray, List.set_cons_zero, List.set_cons_succ])
                (refine wpE_call rfl (by rfl) (fun K hK => ?_); go_simp; first
                      | (go_at_call 105; refine (kb _).mono ?_; rintro e w2 ⟨rfl, hx2⟩; refine hK _ _ hx2 ?_; clear hK K))
                iterate 2 (refine wpE_read (v := ?_) rfl (by rfl) ?_ ?_; rotate_left; (focus (intro w' hx; go_simp; first | done | with_reducible rfl)); simp only [Act.put, List.setIfInBounds_toArray, List.set_cons_zero, List.set_cons_succ])
                refine wpE_done ?_
                go_wp2_with fail
                go_roundg (L.length - (k + 1))
                case measure => omega
                case rel => exact ⟨k + 1, o, (j : Int), by go_num, rfl, by omega, Nat.le_refl _, (hWd.trans hx1).trans hx2, (by rw [HT.out, ho] : o = bestO (L.take (k + 1)) t a l U), HZ⟩
              | true =>
                rw [hbt] at kb
                have ho : (if selB t a l x = true then stepB U o x else o) = some x := by rw [if_pos hsel, ho0]; unfold stepB okB; rw [hu]; simp [hbt]
                clear hsel hu ho0 hbt
                go_wp2_with fail
                refine wp_region_eager [(0, false), (1, false), (2, false), (3, false), (4, false), (5, false), (6, false), (7, false), (8, false), (9, false), (10, false), (11, false), (12, false), (13, false), (14, true), (15, false), (16, false), (17, false), (18, false), (19, false), (20, false), (21, false), (22, false), (23, false), (24, false), (25, false), (26, false), (27, false), (28, true), (29, false), (30, false)] (by kernel_rfl) (by kernel_rfl) rfl (by kernel_rfl) (fun _ _ _ _ _ h => h) ?_
                have hWd : Ext W0 (wr.alloc (.cells #[.int .i64 x.t, .int .u32 x.a, .int .i64 x.l, .int .i64 x.i, .int .u32 x.g, .int .i64 x.m] 48)).drew := hxA.drew
                generalize (wr.alloc (.cells #[.int .i64 x.t, .int .u32 x.a, .int .i64 x.l, .int .i64 x.i, .int .u32 x.g, .int .i64 x.m] 48)).drew = W at *
                iterate 14 (refine wpE_read (v := ?_) rfl (by rfl) ?_ ?_; rotate_left; (focus (intro w' hx; go_simp; first | done | with_reducible rfl)); simp only [Act.put, List.setIfInBounds_toArray, List.set_cons_zero, List.set_cons_succ])
                (refine wpE_call rfl (by rfl) (fun K hK => ?_); go_simp; first
                      | (go_at_call 32; refine (ko _ hWd).mono ?_; rintro e w1 ⟨rfl, hx1⟩; refine hK _ _ hx1 ?_; clear hK K))
                replace v0 := fun w' h => v0 w' (hx1.trans h); replace x0 := fun w' h => x0 w' (hx1.trans h); replace x1 := fun w' h => x1 w' (hx1.trans h); replace x2 := fun w' h => x2 w' (hx1.trans h); replace x3 := fun w' h => x3 w' (hx1.trans h); replace x4 := fun w' h => x4 w' (hx1.trans h); replace x5 := fun w' h => x5 w' (hx1.trans h); replace z0 := fun w' h => z0 w' (hx1.trans h); replace z1 := fun w' h => z1 w' (hx1.trans h); replace z2 := fun w' h => z2 w' (hx1.trans h); replace z3 := fun w' h => z3 w' (hx1.trans h); replace z4 := fun w' h => z4 w' (hx1.trans h); replace z5 := fun w' h => z5 w' (hx1.trans h)
                iterate 13 (refine wpE_read (v := ?_) rfl (by rfl) ?_ ?_; rotate_left; (focus (intro w' hx; go_simp; first | done | with_reducible rfl)); simp only [Act.put, List.setIfInBounds_toArray, List.set_cons_zero, List.set_cons_succ])
                (refine wpE_call rfl (by rfl) (fun K hK => ?_); go_simp; first
                      | (go_at_call 105; refine (kb _).mono ?_; rintro e w2 ⟨rfl, hx2⟩; refine hK _ _ hx2 ?_; clear hK K))
                iterate 2 (refine wpE_read (v := ?_) rfl (by rfl) ?_ ?_; rotate_left; (focus (intro w' hx; go_simp; first | done | with_reducible rfl)); simp only [Act.put, List.setIfInBounds_toArray, List.set_cons_zero, List.set_cons_succ])
                refine wpE_done ?_
                go_wp2_with fail
                go_roundg (L.length - (k + 1))
                case measure => omega
                case rel => exact ⟨k + 1, some x, (k : Int), by go_num, rfl, by omega, Nat.le_refl _, (hWd.trans hx1).trans hx2, (by rw [HT.out, ho] : some x = bestO (L.take (k + 1)) t a l U), (.inr ⟨k, x, rfl, hlt, HXK.out, rfl⟩ : Idx L (some x) (k : Int))⟩
        · have h2' : (x.a == a && x.l == l) = false := by simpa using h2
          have hsel : ¬ selB t a l x = true := fun e => h2 (by obtain ⟨_, e2, e3⟩ := (selB_iff _ _ _ _).1 e; simp [e2, e3])
          have ho : (if selB t a l x = true then stepB U o x else o) = o := by rw [if_neg hsel]
          rw [h2'] at ex
          clear h1 h2 h2' hsel
          go_wp2_with fail
          refine wp_region_eager [(0, false), (1, false), (2, false), (3, false), (4, false), (5, false), (6, false), (7, false), (8, false), (9, false), (10, false), (11, false), (12, false), (13, false), (14, true), (15, false), (16, false), (17, false), (18, false), (19, false), (20, false), (21, false), (22, false), (23, false), (24, false), (25, false), (26, false), (27, false), (28, true), (29, false), (30, false)] (by kernel_rfl) (by kernel_rfl) rfl (by kernel_rfl) (fun _ _ _ _ _ h => h) ?_
          have hWd : Ext W0 (wr.alloc (.cells #[.int .i64 x.t, .int .u32 x.a, .int .i64 x.l, .int .i64 x.i, .int .u32 x.g, .int .i64 x.m] 48)).drew := hxA.drew
          generalize (wr.alloc (.cells #[.int .i64 x.t, .int .u32 x.a, .int .i64 x.l, .int .i64 x.i, .int .u32 x.g, .int .i64 x.m] 48)).drew = W at *
          iterate 11 (refine wpE_read (v := ?_) rfl (by rfl) ?_ ?_; rotate_left; (focus (intro w' hx; go_simp; first | done | with_reducible rfl)); simp only [Act.put, List.setIfInBounds_toArray, List.set_cons_zero, List.set_cons_succ])
          iterate 4 (rw [wpE_skip_eq _ rfl (by rfl)]; simp only [Act.put, List.setIfInBounds_toArray, List.set_cons_zero, List.set_cons_succ])
          iterate 2 (refine wpE_read (v := ?_) rfl (by rfl) ?_ ?_; rotate_left; (focus (intro w' hx; go_simp; first | done | with_reducible rfl)); simp only [Act.put, List.setIfInBounds_toArray, List.set_cons_zero, List.set_cons_succ])
          iterate 13 (rw [wpE_skip_eq _ rfl (by rfl)]; simp only [Act.put, List.setIfInBounds_toArray, List.set_cons_zero, List.set_cons_succ])
          iterate 1 (refine wpE_read (v := ?_) rfl (by rfl) ?_ ?_; rotate_left; (focus (intro w' hx; go_simp; first | done | with_reducible rfl)); simp only [Act.put, List.setIfInBounds_toArray, List.set_cons_zero, List.set_cons_succ])
          refine wpE_done ?_
          go_wp2_with fail
          go_roundg (L.length - (k + 1))
          case measure => omega
          case rel => exact ⟨k + 1, o, z, by go_num, rfl, by omega, Nat.le_refl _, hWd, (by rw [HT.out, ho] : o = bestO (L.take (k + 1)) t a l U), HZ⟩
      · have h1a : (x.t == t) = false := by simpa using h1
        have hsel : ¬ selB t a l x = true := fun e => h1 ((selB_iff _ _ _ _).1 e).1
        have ho : (if selB t a l x = true then stepB U o x else o) = o := by rw [if_neg hsel]
        clear hsel
        go_wp2_with fail
        refine wp_region_eager [(0, false), (1, false), (2, false), (3, false), (4, false), (5, false), (6, false), (7, false), (8, false), (9, false), (10, false), (11, false), (12, false), (13, false), (14, true), (15, false), (16, false), (17, false), (18, false), (19, false), (20, false), (21, false), (22, false), (23, false), (24, false), (25, false), (26, false), (27, false), (28, true), (29, false), (30, false)] (by kernel_rfl) (by kernel_rfl) rfl (by kernel_rfl) (fun _ _ _ _ _ h => h) ?_
        have hWd : Ext W0 (wr.alloc (.cells #[.int .i64 x.t, .int .u32 x.a, .int .i64 x.l, .int .i64 x.i, .int .u32 x.g, .int .i64 x.m] 48)).drew := hxA.drew
        generalize (wr.alloc (.cells #[.int .i64 x.t, .int .u32 x.a, .int .i64 x.l, .int .i64 x.i, .int .u32 x.g, .int .i64 x.m] 48)).drew = W at *
        iterate 5 (refine wpE_read (v := ?_) rfl (by rfl) ?_ ?_; rotate_left; (focus (intro w' hx; go_simp; first | done | with_reducible rfl)); simp only [Act.put, List.setIfInBounds_toArray, List.set_cons_zero, List.set_cons_succ])
        iterate 4 (rw [wpE_skip_eq _ rfl (by rfl)]; simp only [Act.put, List.setIfInBounds_toArray, List.set_cons_zero, List.set_cons_succ])
        iterate 2 (refine wpE_read (v := ?_) rfl (by rfl) ?_ ?_; rotate_left; (focus (intro w' hx; go_simp; first | done | with_reducible rfl)); simp only [Act.put, List.setIfInBounds_toArray, List.set_cons_zero, List.set_cons_succ])
        iterate 4 (rw [wpE_skip_eq _ rfl (by rfl)]; simp only [Act.put, List.setIfInBounds_toArray, List.set_cons_zero, List.set_cons_succ])
        iterate 2 (refine wpE_read (v := ?_) rfl (by rfl) ?_ ?_; rotate_left; (focus (intro w' hx; go_simp; first | done | with_reducible rfl)); simp only [Act.put, List.setIfInBounds_toArray, List.set_cons_zero, List.set_cons_succ])
        iterate 13 (rw [wpE_skip_eq _ rfl (by rfl)]; simp only [Act.put, List.setIfInBounds_toArray, List.set_cons_zero, List.set_cons_succ])
        iterate 1 (refine wpE_read (v := ?_) rfl (by rfl) ?_ ?_; rotate_left; (focus (intro w' hx; go_simp; first | done | with_reducible rfl)); simp only [Act.put, List.setIfInBounds_toArray, List.set_cons_zero, List.set_cons_succ])
        refine wpE_done ?_
        go_wp2_with fail
        go_roundg (L.length - (k + 1))
        case measure => omega
        case rel => exact ⟨k + 1, o, z, by go_num, rfl, by omega, Nat.le_refl _, hWd, (by rw [HT.out, ho] : o = bestO (L.take (k + 1)) t a l U), HZ⟩
    · obtain rfl : k = L.length := by omega
      have hE := HA.out.trans hx
      have HOo : Hid (o = bestO L t a l U) := by show o = _; rw [HO.out, List.take_length]
      clear HO ep
      rcases HZ.out with ⟨ho0, hz⟩ | ⟨j, y, hz, hj, hy, ho0⟩
      · subst hz
        go_wp2_with (refine wpl_store (by rfl) 48 _ _ rfl rfl 6 (w.heap.size + 1) #[.int .i64 zeroR.t, .int .u32 zeroR.a, .int .i64 zeroR.l, .int .i64 zeroR.i, .int .u32 zeroR.g, .int .i64 zeroR.m] _ _ rfl rfl (hx.heap HB2.out) rt_size rfl rfl (by simp [Value.oneCell']) ?_; intro w5 hx5 k5)
        refine bodyPost_ret (results_two Tryz.results79 _ rfl k5 Tryz.underlying48 rfl rt_size) rfl ?_
        rw [← HOo.out, ho0]
        exact ⟨rfl, ExtX.ext hE hx5 (by omega)⟩
      · subst hz
        obtain ⟨b, off, rfl, hb, g0, g1, g2, g3, g4, g5⟩ := (HR.out.ext hE).cell hy
        have hji : (j : Int) < (L.length : Int) := by omega
        go_wp2_with (refine wpl_store (by rfl) 48 _ _ rfl rfl 6 (w.heap.size + 1) #[.int .i64 y.t, .int .u32 y.a, .int .i64 y.l, .int .i64 y.i, .int .u32 y.g, .int .i64 y.m] _ _ rfl rfl (hx.heap HB2.out) rt_size rfl rfl (by simp [Value.oneCell']) ?_; intro w5 hx5 k5)
        refine bodyPost_ret (results_two Tryz.results79 _ rfl k5 Tryz.underlying48 rfl rt_size) rfl ?_
        rw [← HOo.out, ho0]
        exact ⟨rfl, ExtX.ext hE hx5 (by omega)⟩
end Go.Proofs.YtkfhkhgiojpfoaaGreat.Rb

namespace Go.Proofs.YtkfhkhgiojpfoaaGreat.Rb

set_option maxRecDepth 100000

open Go.RowKit Go.Proofs.YtkfhkhgiojpfoaaGreat

set_option linter.unusedVariables false

set_option linter.unusedSimpArgs false

set_option maxHeartbeats 4000000 in
theorem refActive_in (xb : Nat) (L : List Rt) (ty : TypeId) (rest : List Value) (v : Value) (t : Int) (q : Option Addr) (m d : Nat) (U : List Bool) (w : World) (h : RibIn ty rest w xb v L) (hn : L.length ≤ 1000) (hU : Ups w q m U) :
    Calls Tryz.prog 58 #[.pointer (some ⟨xb, 0, none⟩), .int .i64 t, .slice q m d] w (RowNew w (actL L t U)) := by
  have HH : Hid (RibIn ty rest w xb v L) := h
  obtain ⟨hX, hO⟩ := h
  obtain ⟨p, c, hv, hc1, -, hR⟩ := hO.slice
  subst hv
  have HX : Hid _ := hX
  have HR : Hid (Rd w p L.length c L) := hR
  have HU : Hid (Ups w q m U) := hU
  have vw : w.cell? ⟨xb, 0, none⟩ = some (.slice p L.length c) := top_cell hX
  clear hX hO hR hU
  unfold actL
  go_enter Tryz.func58, Tryz.ntmps58
  go_wp2_with fail
  clear vw
  go_loopg [7, 8] L.length (fun kx s7 s8 wr => ∃ (v : Value) (k : Nat), s7 = v ∧ s8 = .int .i64 k ∧ k ≤ L.length ∧ L.length - k ≤ kx ∧ Ext w wr ∧ Hid (OwnR wr w.heap.size v (actN L t U k)))
  case atStart => exact ⟨.slice none 0 0, 0, rfl, rfl, Nat.zero_le _, by omega, Ext.refl _, OwnR.nil _ _⟩
  case round =>
    obtain ⟨v, k, rfl, rfl, hkn, hkx, hx, HO⟩ := hrel
    have vr : wr.cell? ⟨xb, 0, none⟩ = some (.slice p L.length c) := top_cell (hx.heap HX.out)
    obtain ⟨pv, cv, hv, hv1, -, -⟩ := HO.out.slice
    subst hv
    have hal := actN_len L t U k
    generalize hln : (actN L t U k).length = ln at *
    have HLN : Hid _ := hln
    clear hln
    by_cases hlt : k < L.length
    · obtain ⟨x, hxk⟩ : ∃ x, L[k]? = some x := ⟨_, List.getElem?_eq_getElem hlt⟩
      obtain ⟨b, off, rfl, hb, g0, g1, g2, g3, g4, g5⟩ := (HR.out.ext hx).cell hxk
      have hA : Ext wr (wr.alloc (.cells #[.int .i64 x.t, .int .u32 x.a, .int .i64 x.l, .int .i64 x.i, .int .u32 x.g, .int .i64 x.m] 48)) := (Ext.refl wr).alloc _
      have hki : (k : Int) < (L.length : Int) := by omega
      have kB := fun w' (hx : Ext w w') => refBest_in xb L ty rest _ t x.a x.l q m d U w' (HH.out.ext hx) hn (HU.out.ext hx)
      have hdd : Ext (wr.alloc (.cells #[.int .i64 x.t, .int .u32 x.a, .int .i64 x.l, .int .i64 x.i, .int .u32 x.g, .int .i64 x.m] 48)) (wr.alloc (.cells #[.int .i64 x.t, .int .u32 x.a, .int .i64 x.l, .int .i64 x.i, .int .u32 x.g, .int .i64 x.m] 48)).drew := (Ext.refl _).drew
      obtain ⟨a0, a1, a2, a3, a4, a5⟩ := box_rtE (heap_new wr (.cells #[.int .i64 x.t, .int .u32 x.a, .int .i64 x.l, .int .i64 x.i, .int .u32 x.g, .int .i64 x.m] 48))
      have x0 := fun w' h => a0 w' (hdd.trans h)
      have x1 := fun w' h => a1 w' (hdd.trans h)
      have x2 := fun w' h => a2 w' (hdd.trans h)
      have v0 : ∀ w', Ext (wr.alloc (.cells #[.int .i64 x.t, .int .u32 x.a, .int .i64 x.l, .int .i64 x.i, .int .u32 x.g, .int .i64 x.m] 48)).drew w' → w'.cell? ⟨xb, 0, none⟩ = some (.slice (some ⟨b, off, none⟩) L.length c) := fun w' h => top_cell ((hx.trans (hA.trans (hdd.trans h))).heap HX.out)
      clear a0 a1 a2 a3 a4 a5
      have hact1 := fun h => actN_take (U := U) (t := t) h hxk
      have hact0 := fun h => actN_skip (L := L) (U := U) (t := t) (k := k) h
      by_cases h1 : x.t = t
      · have h1a : (x.t == t) = true := by simpa using h1
        have h1b : (x.t != t) = false := by simp [h1]
        cases k with
        | zero =>
          have hf : firstB L t 0 = true := by unfold firstB; rw [hxk]; simp [h1]
          have hact := hact1 hf
          generalize bestO L t x.a x.l U = o at *
          have hk0 : (0 : Int) < (L.length : Int) := by omega
          simp only [Nat.zero_mul, Nat.add_zero] at g0 g1 g2 g3 g4 g5
          clear hact1 hact0 hf h1 hxk hdd
          go_wp2_with fail
          refine wp_region_eager [(0, false), (1, false), (2, false), (3, false), (4, false), (5, false), (6, false), (7, false), (8, false), (9, false), (10, false), (11, false), (12, false), (13, false), (14, false), (15, false), (16, false), (17, false), (18, false), (19, false), (20, false), (21, false), (22, false), (23, false), (24, false), (25, false), (26, false), (27, false), (28, false), (29, false), (30, false), (31, false), (32, false), (33, false), (34, false)] (by kernel_rfl) (by kernel_rfl) rfl (by kernel_rfl) (fun _ _ _ _ _ h => h) ?_
          have hWd : Ext w (wr.alloc (.cells #[.int .i64 x.t, .int .u32 x.a, .int .i64 x.l, .int .i64 x.i, .int .u32 x.g, .int .i64 x.m] 48)).drew := (hx.trans hA).drew
          have hWo : Ext wr (wr.alloc (.cells #[.int .i64 x.t, .int .u32 x.a, .int .i64 x.l, .int .i64 x.i, .int .u32 x.g, .int .i64 x.m] 48)).drew := hA.drew
          have HXW : Hid ((wr.alloc (.cells #[.int .i64 x.t, .int .u32 x.a, .int .i64 x.l, .int .i64 x.i, .int .u32 x.g, .int .i64 x.m] 48)).drew.heap[wr.heap.size]? = some (.cells #[.int .i64 x.t, .int .u32 x.a, .int .i64 x.l, .int .i64 x.i, .int .u32 x.g, .int .i64 x.m] 48 (0, 0))) := heap_new wr _
          generalize (wr.alloc (.cells #[.int .i64 x.t, .int .u32 x.a, .int .i64 x.l, .int .i64 x.i, .int .u32 x.g, .int .i64 x.m] 48)).drew = W at *
          iterate 8 (refine wpE_read (v := ?_) rfl (by rfl) ?_ ?_; rotate_left; (focus (intro w' hx; go_simp; first | done | with_reducible rfl)); simp only [Act.put, List.setIfInBounds_toArray, List.set_cons_zero, List.set_cons_succ])
          iterate 11 (rw [wpE_skip_eq _ rfl (by rfl)]; simp only [Act.put, List.setIfInBounds_toArray, List.set_cons_zero, List.set_cons_succ])
          iterate 2 (refine wpE_read (v := ?_) rfl (by rfl) ?_ ?_; rotate_left; (focus (intro w' hx; go_simp; first | done | with_reducible rfl)); simp only [Act.put, List.setIfInBounds_toArray, List.set_cons_zero, List.set_cons_succ])
          iterate 12 (rw [wpE_skip_eq _ rfl (by rfl)]; simp only [Act.put, List.setIfInBounds_toArray, List.set_cons_zero, List.set_cons_succ])
          iterate 2 (refine wpE_read (v := ?_) rfl (by rfl) ?_ ?_; rotate_left; (focus (intro w' hx; go_simp; first | done | with_reducible rfl)); simp only [Act.put, List.setIfInBounds_toArray, List.set_cons_zero, List.set_cons_succ])
          refine wpE_done ?_
          obtain ⟨s0, s1, s2, s3, s4, s5⟩ := box_rtE HXW.out
          have y1 := s1 _ (Ext.refl _)
          have y2 := s2 _ (Ext.refl _)
          clear s0 s1 s2 s3 s4 s5 x0 x1 x2 v0
          cases o with
          | none =>
            go_wp2_with (go_at_call 79; refine (kB _ hWd).mono ?_; rintro e w3 ⟨rfl, hx3⟩)
            go_roundg (L.length - (0 + 1))
            case measure => omega
            case rel => exact ⟨_, 0 + 1, rfl, by go_num, by omega, Nat.le_refl _, hWd.trans (hx3.trans ((Ext.refl w3).alloc _)), (by show OwnR _ _ _ _; rw [hact]; simpa using HO.out.ext (hWo.trans (hx3.trans ((Ext.refl w3).alloc _))) : OwnR _ w.heap.size (.slice pv ln cv) (actN L t U (0 + 1)))⟩
          | some z =>
            go_wp2_with (first
              | (go_at_call 79; refine (kB _ hWd).mono ?_; rintro e w3 ⟨rfl, hx3⟩; obtain ⟨z0, z1, z2, z3, z4, z5⟩ := box_rtE (heap_new w3 (.cells #[.int .i64 (theR (some z)).t, .int .u32 (theR (some z)).a, .int .i64 (theR (some z)).l, .int .i64 (theR (some z)).i, .int .u32 (theR (some z)).g, .int .i64 (theR (some z)).m] 48)); have f0 := z0 _ (Ext.refl _); have f1 := z1 _ (Ext.refl _); have f2 := z2 _ (Ext.refl _); have f3 := z3 _ (Ext.refl _); have f4 := z4 _ (Ext.refl _); have f5 := z5 _ (Ext.refl _); clear z0 z1 z2 z3 z4 z5; have TB : Hid _ := two_boxes w3 #[.int .i64 (theR (some z)).t, .int .u32 (theR (some z)).a, .int .i64 (theR (some z)).l, .int .i64 (theR (some z)).i, .int .u32 (theR (some z)).g, .int .i64 (theR (some z)).m] #[.int .i64 (theR (some z)).t, .int .u32 (theR (some z)).a, .int .i64 (theR (some z)).l, .int .i64 (theR (some z)).i, .int .u32 (theR (some z)).g, .int .i64 (theR (some z)).m] 48; have HX5 : Hid (Ext wr ((w3.alloc (.cells #[.int .i64 (theR (some z)).t, .int .u32 (theR (some z)).a, .int .i64 (theR (some z)).l, .int .i64 (theR (some z)).i, .int .u32 (theR (some z)).g, .int .i64 (theR (some z)).m] 48)).alloc (.cells #[.int .i64 (theR (some z)).t, .int .u32 (theR (some z)).a, .int .i64 (theR (some z)).l, .int .i64 (theR (some z)).i, .int .u32 (theR (some z)).g, .int .i64 (theR (some z)).m] 48))) := hWo.trans (hx3.trans TB.out.1))
              | (at_builtin; refine wpList_want rfl (fun K hK => wp_app_rt (.tmp 73) (.tmp 75) rfl w.heap.size (.slice pv ln cv) (actN L t U 0) [z] rfl (HO.out.ext HX5.out) (some ⟨w3.heap.size + 1, 0, none⟩) 1 1 rfl (rd_lit TB.out.2.2) (by rw [HLN.out]; omega) (hx.trans HX5.out).size ?_); intro v6 w6 ho6 hg6 hat6; have HO6 : Hid (OwnR w6 w.heap.size v6 (actN L t U 0 ++ [z])) := ho6; have hx6 : Ext w w6 := Ext.app (hx.trans HX5.out) (HO.out.ext HX5.out) hg6; refine hK _ _ ?_; clear hK K ho6 hg6 hat6))
            go_roundg (L.length - (0 + 1))
            case measure => omega
            case rel => exact ⟨_, 0 + 1, rfl, by go_num, by omega, Nat.le_refl _, hx6, (by show OwnR _ _ _ _; rw [hact]; exact HO6.out : OwnR w6 w.heap.size v6 (actN L t U (0 + 1)))⟩
        | succ j =>
          obtain ⟨y, hyk⟩ : ∃ y, L[j]? = some y := ⟨_, List.getElem?_eq_getElem (by omega)⟩
          obtain ⟨b', off', hbo, hb', y0, y1, y2, -, -, -⟩ := (HR.out.ext (hx.trans (hA.trans hdd))).cell hyk
          cases hbo
          have z0 : ∀ w', Ext (wr.alloc (.cells #[.int .i64 x.t, .int .u32 x.a, .int .i64 x.l, .int .i64 x.i, .int .u32 x.g, .int .i64 x.m] 48)).drew w' → w'.cell? ⟨b, off + j * 6, none⟩ = some (.int .i64 y.t) := fun w' h => by rw [h.below.cell (p := ⟨b, off + j * 6, none⟩) hb']; exact y0
          have z1 : ∀ w', Ext (wr.alloc (.cells #[.int .i64 x.t, .int .u32 x.a, .int .i64 x.l, .int .i64 x.i, .int .u32 x.g, .int .i64 x.m] 48)).drew w' → w'.cell? ⟨b, off + j * 6 + 1, none⟩ = some (.int .u32 y.a) := fun w' h => by rw [h.below.cell (p := ⟨b, off + j * 6 + 1, none⟩) hb']; exact y1
          have z2 : ∀ w', Ext (wr.alloc (.cells #[.int .i64 x.t, .int .u32 x.a, .int .i64 x.l, .int .i64 x.i, .int .u32 x.g, .int .i64 x.m] 48)).drew w' → w'.cell? ⟨b, off + j * 6 + 2, none⟩ = some (.int .i64 y.l) := fun w' h => by rw [h.below.cell (p := ⟨b, off + j * 6 + 2, none⟩) hb']; exact y2
          clear y0 y1 y2
          have c1 : (((j + 1 : Nat) : Int)) = (j : Int) + 1 := by omega
          have c2 : IntKind.i64.wrap (j : Int) = (j : Int) := by rw [IntKind.wrap_i64]; omega
          have c3 : (0 : Int) < (j : Int) + 1 := by omega
          have c4 : (j : Int) < (L.length : Int) := by omega
          have c5 : (j : Int) + 1 < (L.length : Int) := by omega
          have ep := fun w => eql_prefix y.a y.l x.a x.l w
          by_cases h2 : y.t = t
          · have h2a : (y.t == t) = true := by simpa using h2
            by_cases h3 : (y.a == x.a && y.l == x.l) = true
            · rw [h3] at ep
              have hf : firstB L t (j + 1) = false := by
                simp only [Bool.and_eq_true, beq_iff_eq] at h3
                have hs : selB t x.a x.l y = true := (selB_iff _ _ _ _).2 ⟨h2, h3.1, h3.2⟩
                unfold firstB; rw [hxk]; simp [hyk, hs]
              have hact := hact0 hf
              clear hact1 hact0 hf h1 h2 h3 hxk hyk hdd kB
              go_wp2_with fail
              refine wp_region_eager [(0, false), (1, false), (2, false), (3, false), (4, false), (5, false), (6, false), (7, false), (8, false), (9, false), (10, false), (11, false), (12, false), (13, false), (14, false), (15, false), (16, false), (17, false), (18, false), (19, false), (20, false), (21, false), (22, false), (23, false), (24, false), (25, false), (26, false), (27, false), (28, false), (29, false), (30, false), (31, false), (32, false), (33, false), (34, false)] (by kernel_rfl) (by kernel_rfl) rfl (by kernel_rfl) (fun _ _ _ _ _ h => h) ?_
              have hWd : Ext w (wr.alloc (.cells #[.int .i64 x.t, .int .u32 x.a, .int .i64 x.l, .int .i64 x.i, .int .u32 x.g, .int .i64 x.m] 48)).drew := (hx.trans hA).drew
              have hWo : Ext wr (wr.alloc (.cells #[.int .i64 x.t, .int .u32 x.a, .int .i64 x.l, .int .i64 x.i, .int .u32 x.g, .int .i64 x.m] 48)).drew := hA.drew
              have HXW : Hid ((wr.alloc (.cells #[.int .i64 x.t, .int .u32 x.a, .int .i64 x.l, .int .i64 x.i, .int .u32 x.g, .int .i64 x.m] 48)).drew.heap[wr.heap.size]? = some (.cells #[.int .i64 x.t, .int .u32 x.a, .int .i64 x.l, .int .i64 x.i, .int .u32 x.g, .int .i64 x.m] 48 (0, 0))) := heap_new wr _
              generalize (wr.alloc (.cells #[.int .i64 x.t, .int .u32 x.a, .int .i64 x.l, .int .i64 x.i, .int .u32 x.g, .int .i64 x.m] 48)).drew = W at *
              iterate 35 (refine wpE_read (v := ?_) rfl (by rfl) ?_ ?_; rotate_left; (focus (intro w' hx; go_simp; first | done | with_reducible rfl)); simp only [Act.put, List.setIfInBounds_toArray, List.set_cons_zero, List.set_cons_succ])
              refine wpE_done ?_
              go_wp2_with fail
              go_roundg (L.length - ((j + 1) + 1))
              case measure => omega
              case rel => exact ⟨_, (j + 1) + 1, rfl, by go_num, by omega, Nat.le_refl _, hWd, (by show OwnR _ _ _ _; rw [hact]; exact HO.out.ext hWo : OwnR W w.heap.size (.slice pv ln cv) (actN L t U ((j + 1) + 1)))⟩
            · have h3' : (y.a == x.a && y.l == x.l) = false := by simpa using h3
              rw [h3'] at ep
              have hf : firstB L t (j + 1) = true := by
                have hs : selB t x.a x.l y = false := by
                  cases e : selB t x.a x.l y
                  · rfl
                  · obtain ⟨_, e2, e3⟩ := (selB_iff _ _ _ _).1 e
                    exact absurd (by simp [e2, e3]) h3
                unfold firstB; rw [hxk]; simp [hyk, hs, h1]
              have hact := hact1 hf
              generalize bestO L t x.a x.l U = o at *
              clear hact1 hact0 hf h1 h2 h3 h3' hxk hyk hdd
              go_wp2_with fail
              refine wp_region_eager [(0, false), (1, false), (2, false), (3, false), (4, false), (5, false), (6, false), (7, false), (8, false), (9, false), (10, false), (11, false), (12, false), (13, false), (14, false), (15, false), (16, false), (17, false), (18, false), (19, false), (20, false), (21, false), (22, false), (23, false), (24, false), (25, false), (26, false), (27, false), (28, false), (29, false), (30, false), (31, false), (32, false), (33, false), (34, false)] (by kernel_rfl) (by kernel_rfl) rfl (by kernel_rfl) (fun _ _ _ _ _ h => h) ?_
              have hWd : Ext w (wr.alloc (.cells #[.int .i64 x.t, .int .u32 x.a, .int .i64 x.l, .int .i64 x.i, .int .u32 x.g, .int .i64 x.m] 48)).drew := (hx.trans hA).drew
              have hWo : Ext wr (wr.alloc (.cells #[.int .i64 x.t, .int .u32 x.a, .int .i64 x.l, .int .i64 x.i, .int .u32 x.g, .int .i64 x.m] 48)).drew := hA.drew
              have HXW : Hid ((wr.alloc (.cells #[.int .i64 x.t, .int .u32 x.a, .int .i64 x.l, .int .i64 x.i, .int .u32 x.g, .int .i64 x.m] 48)).drew.heap[wr.heap.size]? = some (.cells #[.int .i64 x.t, .int .u32 x.a, .int .i64 x.l, .int .i64 x.i, .int .u32 x.g, .int .i64 x.m] 48 (0, 0))) := heap_new wr _
              generalize (wr.alloc (.cells #[.int .i64 x.t, .int .u32 x.a, .int .i64 x.l, .int .i64 x.i, .int .u32 x.g, .int .i64 x.m] 48)).drew = W at *
              iterate 35 (refine wpE_read (v := ?_) rfl (by rfl) ?_ ?_; rotate_left; (focus (intro w' hx; go_simp; first | done | with_reducible rfl)); simp only [Act.put, List.setIfInBounds_toArray, List.set_cons_zero, List.set_cons_succ])
              refine wpE_done ?_
              obtain ⟨s0, s1, s2, s3, s4, s5⟩ := box_rtE HXW.out
              have y1 := s1 _ (Ext.refl _)
              have y2 := s2 _ (Ext.refl _)
              clear s0 s1 s2 s3 s4 s5 x0 x1 x2 v0
              cases o with
              | none =>
                go_wp2_with (go_at_call 79; refine (kB _ hWd).mono ?_; rintro e w3 ⟨rfl, hx3⟩)
                go_roundg (L.length - ((j + 1) + 1))
                case measure => omega
                case rel => exact ⟨_, (j + 1) + 1, rfl, by go_num, by omega, Nat.le_refl _, hWd.trans (hx3.trans ((Ext.refl w3).alloc _)), (by show OwnR _ _ _ _; rw [hact]; simpa using HO.out.ext (hWo.trans (hx3.trans ((Ext.refl w3).alloc _))) : OwnR _ w.heap.size (.slice pv ln cv) (actN L t U ((j + 1) + 1)))⟩
              | some z =>
                go_wp2_with (first
                  | (go_at_call 79; refine (kB _ hWd).mono ?_; rintro e w3 ⟨rfl, hx3⟩; obtain ⟨z0, z1, z2, z3, z4, z5⟩ := box_rtE (heap_new w3 (.cells #[.int .i64 (theR (some z)).t, .int .u32 (theR (some z)).a, .int .i64 (theR (some z)).l, .int .i64 (theR (some z)).i, .int .u32 (theR (some z)).g, .int .i64 (theR (some z)).m] 48)); have f0 := z0 _ (Ext.refl _); have f1 := z1 _ (Ext.refl _); have f2 := z2 _ (Ext.refl _); have f3 := z3 _ (Ext.refl _); have f4 := z4 _ (Ext.refl _); have f5 := z5 _ (Ext.refl _); clear z0 z1 z2 z3 z4 z5; have TB : Hid _ := two_boxes w3 #[.int .i64 (theR (some z)).t, .int .u32 (theR (some z)).a, .int .i64 (theR (some z)).l, .int .i64 (theR (some z)).i, .int .u32 (theR (some z)).g, .int .i64 (theR (some z)).m] #[.int .i64 (theR (some z)).t, .int .u32 (theR (some z)).a, .int .i64 (theR (some z)).l, .int .i64 (theR (some z)).i, .int .u32 (theR (some z)).g, .int .i64 (theR (some z)).m] 48; have HX5 : Hid (Ext wr ((w3.alloc (.cells #[.int .i64 (theR (some z)).t, .int .u32 (theR (some z)).a, .int .i64 (theR (some z)).l, .int .i64 (theR (some z)).i, .int .u32 (theR (some z)).g, .int .i64 (theR (some z)).m] 48)).alloc (.cells #[.int .i64 (theR (some z)).t, .int .u32 (theR (some z)).a, .int .i64 (theR (some z)).l, .int .i64 (theR (some z)).i, .int .u32 (theR (some z)).g, .int .i64 (theR (some z)).m] 48))) := hWo.trans (hx3.trans TB.out.1))
                  | (at_builtin; refine wpList_want rfl (fun K hK => wp_app_rt (.tmp 73) (.tmp 75) rfl w.heap.size (.slice pv ln cv) (actN L t U (j + 1)) [z] rfl (HO.out.ext HX5.out) (some ⟨w3.heap.size + 1, 0, none⟩) 1 1 rfl (rd_lit TB.out.2.2) (by rw [HLN.out]; omega) (hx.trans HX5.out).size ?_); intro v6 w6 ho6 hg6 hat6; have HO6 : Hid (OwnR w6 w.heap.size v6 (actN L t U (j + 1) ++ [z])) := ho6; have hx6 : Ext w w6 := Ext.app (hx.trans HX5.out) (HO.out.ext HX5.out) hg6; refine hK _ _ ?_; clear hK K ho6 hg6 hat6))
                go_roundg (L.length - ((j + 1) + 1))
                case measure => omega
                case rel => exact ⟨_, (j + 1) + 1, rfl, by go_num, by omega, Nat.le_refl _, hx6, (by show OwnR _ _ _ _; rw [hact]; exact HO6.out : OwnR w6 w.heap.size v6 (actN L t U ((j + 1) + 1)))⟩
          · have h2a : (y.t == t) = false := by simpa using h2
            have hf : firstB L t (j + 1) = true := by
              have hs : selB t x.a x.l y = false := by
                cases e : selB t x.a x.l y
                · rfl
                · exact absurd ((selB_iff _ _ _ _).1 e).1 h2
              unfold firstB; rw [hxk]; simp [hyk, hs, h1]
            have hact := hact1 hf
            generalize bestO L t x.a x.l U = o at *
            clear hact1 hact0 hf h1 hxk hyk hdd
            go_wp2_with fail
            refine wp_region_eager [(0, false), (1, false), (2, false), (3, false), (4, false), (5, false), (6, false), (7, false), (8, false), (9, false), (10, false), (11, false), (12, false), (13, false), (14, false), (15, false), (16, false), (17, false), (18, false), (19, false), (20, false), (21, false), (22, false), (23, false), (24, false), (25, false), (26, false), (27, false), (28, false), (29, false), (30, false), (31, false), (32, false), (33, false), (34, false)] (by kernel_rfl) (by kernel_rfl) rfl (by kernel_rfl) (fun _ _ _ _ _ h => h) ?_
            have hWd : Ext w (wr.alloc (.cells #[.int .i64 x.t, .int .u32 x.a, .int .i64 x.l, .int .i64 x.i, .int .u32 x.g, .int .i64 x.m] 48)).drew := (hx.trans hA).drew
            have hWo : Ext wr (wr.alloc (.cells #[.int .i64 x.t, .int .u32 x.a, .int .i64 x.l, .int .i64 x.i, .int .u32 x.g, .int .i64 x.m] 48)).drew := hA.drew
            have HXW : Hid ((wr.alloc (.cells #[.int .i64 x.t, .int .u32 x.a, .int .i64 x.l, .int .i64 x.i, .int .u32 x.g, .int .i64 x.m] 48)).drew.heap[wr.heap.size]? = some (.cells #[.int .i64 x.t, .int .u32 x.a, .int .i64 x.l, .int .i64 x.i, .int .u32 x.g, .int .i64 x.m] 48 (0, 0))) := heap_new wr _
            generalize (wr.alloc (.cells #[.int .i64 x.t, .int .u32 x.a, .int .i64 x.l, .int .i64 x.i, .int .u32 x.g, .int .i64 x.m] 48)).drew = W at *
            iterate 21 (refine wpE_read (v := ?_) rfl (by rfl) ?_ ?_; rotate_left; (focus (intro w' hx; go_simp; first | done | with_reducible rfl)); simp only [Act.put, List.setIfInBounds_toArray, List.set_cons_zero, List.set_cons_succ])
            iterate 12 (rw [wpE_skip_eq _ rfl (by rfl)]; simp only [Act.put, List.setIfInBounds_toArray, List.set_cons_zero, List.set_cons_succ])
            iterate 2 (refine wpE_read (v := ?_) rfl (by rfl) ?_ ?_; rotate_left; (focus (intro w' hx; go_simp; first | done | with_reducible rfl)); simp only [Act.put, List.setIfInBounds_toArray, List.set_cons_zero, List.set_cons_succ])
            refine wpE_done ?_
            obtain ⟨s0, s1, s2, s3, s4, s5⟩ := box_rtE HXW.out
            have y1 := s1 _ (Ext.refl _)
            have y2 := s2 _ (Ext.refl _)
            clear s0 s1 s2 s3 s4 s5 x0 x1 x2 v0
            cases o with
            | none =>
              go_wp2_with (go_at_call 79; refine (kB _ hWd).mono ?_; rintro e w3 ⟨rfl, hx3⟩)
              go_roundg (L.length - ((j + 1) + 1))
              case measure => omega
              case rel => exact ⟨_, (j + 1) + 1, rfl, by go_num, by omega, Nat.le_refl _, hWd.trans (hx3.trans ((Ext.refl w3).alloc _)), (by show OwnR _ _ _ _; rw [hact]; simpa using HO.out.ext (hWo.trans (hx3.trans ((Ext.refl w3).alloc _))) : OwnR _ w.heap.size (.slice pv ln cv) (actN L t U ((j + 1) + 1)))⟩
            | some z =>
              go_wp2_with (first
                | (go_at_call 79; refine (kB _ hWd).mono ?_; rintro e w3 ⟨rfl, hx3⟩; obtain ⟨z0, z1, z2, z3, z4, z5⟩ := box_rtE (heap_new w3 (.cells #[.int .i64 (theR (some z)).t, .int .u32 (theR (some z)).a, .int .i64 (theR (some z)).l, .int .i64 (theR (some z)).i, .int .u32 (theR (some z)).g, .int .i64 (theR (some z)).m] 48)); have f0 := z0 _ (Ext.refl _); have f1 := z1 _ (Ext.refl _); have f2 := z2 _ (Ext.refl _); have f3 := z3 _ (Ext.refl _); have f4 := z4 _ (Ext.refl _); have f5 := z5 _ (Ext.refl _); clear z0 z1 z2 z3 z4 z5; have TB : Hid _ := two_boxes w3 #[.int .i64 (theR (some z)).t, .int .u32 (theR (some z)).a, .int .i64 (theR (some z)).l, .int .i64 (theR (some z)).i, .int .u32 (theR (some z)).g, .int .i64 (theR (some z)).m] #[.int .i64 (theR (some z)).t, .int .u32 (theR (some z)).a, .int .i64 (theR (some z)).l, .int .i64 (theR (some z)).i, .int .u32 (theR (some z)).g, .int .i64 (theR (some z)).m] 48; have HX5 : Hid (Ext wr ((w3.alloc (.cells #[.int .i64 (theR (some z)).t, .int .u32 (theR (some z)).a, .int .i64 (theR (some z)).l, .int .i64 (theR (some z)).i, .int .u32 (theR (some z)).g, .int .i64 (theR (some z)).m] 48)).alloc (.cells #[.int .i64 (theR (some z)).t, .int .u32 (theR (some z)).a, .int .i64 (theR (some z)).l, .int .i64 (theR (some z)).i, .int .u32 (theR (some z)).g, .int .i64 (theR (some z)).m] 48))) := hWo.trans (hx3.trans TB.out.1))
                | (at_builtin; refine wpList_want rfl (fun K hK => wp_app_rt (.tmp 73) (.tmp 75) rfl w.heap.size (.slice pv ln cv) (actN L t U (j + 1)) [z] rfl (HO.out.ext HX5.out) (some ⟨w3.heap.size + 1, 0, none⟩) 1 1 rfl (rd_lit TB.out.2.2) (by rw [HLN.out]; omega) (hx.trans HX5.out).size ?_); intro v6 w6 ho6 hg6 hat6; have HO6 : Hid (OwnR w6 w.heap.size v6 (actN L t U (j + 1) ++ [z])) := ho6; have hx6 : Ext w w6 := Ext.app (hx.trans HX5.out) (HO.out.ext HX5.out) hg6; refine hK _ _ ?_; clear hK K ho6 hg6 hat6))
              go_roundg (L.length - ((j + 1) + 1))
              case measure => omega
              case rel => exact ⟨_, (j + 1) + 1, rfl, by go_num, by omega, Nat.le_refl _, hx6, (by show OwnR _ _ _ _; rw [hact]; exact HO6.out : OwnR w6 w.heap.size v6 (actN L t U ((j + 1) + 1)))⟩
      · have h1a : (x.t == t) = false := by simpa using h1
        have h1b : (x.t != t) = true := by simpa using h1
        have hf : firstB L t k = false := by unfold firstB; rw [hxk]; simp [h1]
        have hact := hact0 hf
        clear hact1 hact0 hf hxk hdd kB
        go_wp2_with fail
        refine wp_region_eager [(0, false), (1, false), (2, false), (3, false), (4, false), (5, false), (6, false), (7, false), (8, false), (9, false), (10, false), (11, false), (12, false), (13, false), (14, false), (15, false), (16, false), (17, false), (18, false), (19, false), (20, false), (21, false), (22, false), (23, false), (24, false), (25, false), (26, false), (27, false), (28, false), (29, false), (30, false), (31, false), (32, false), (33, false), (34, false)] (by kernel_rfl) (by kernel_rfl) rfl (by kernel_rfl) (fun _ _ _ _ _ h => h) ?_
        have hWd : Ext w (wr.alloc (.cells #[.int .i64 x.t, .int .u32 x.a, .int .i64 x.l, .int .i64 x.i, .int .u32 x.g, .int .i64 x.m] 48)).drew := (hx.trans hA).drew
        have hWo : Ext wr (wr.alloc (.cells #[.int .i64 x.t, .int .u32 x.a, .int .i64 x.l, .int .i64 x.i, .int .u32 x.g, .int .i64 x.m] 48)).drew := hA.drew
        have HXW : Hid ((wr.alloc (.cells #[.int .i64 x.t, .int .u32 x.a, .int .i64 x.l, .int .i64 x.i, .int .u32 x.g, .int .i64 x.m] 48)).drew.heap[wr.heap.size]? = some (.cells #[.int .i64 x.t, .int .u32 x.a, .int .i64 x.l, .int .i64 x.i, .int .u32 x.g, .int .i64 x.m] 48 (0, 0))) := heap_new wr _
        generalize (wr.alloc (.cells #[.int .i64 x.t, .int .u32 x.a, .int .i64 x.l, .int .i64 x.i, .int .u32 x.g, .int .i64 x.m] 48)).drew = W at *
        iterate 5 (refine wpE_read (v := ?_) rfl (by rfl) ?_ ?_; rotate_left; (focus (intro w' hx; go_simp; first | done | with_reducible rfl)); simp only [Act.put, List.setIfInBounds_toArray, List.set_cons_zero, List.set_cons_succ])
        iterate 29 (rw [wpE_skip_eq _ rfl (by rfl)]; simp only [Act.put, List.setIfInBounds_toArray, List.set_cons_zero, List.set_cons_succ])
        iterate 1 (refine wpE_read (v := ?_) rfl (by rfl) ?_ ?_; rotate_left; (focus (intro w' hx; go_simp; first | done | with_reducible rfl)); simp only [Act.put, List.setIfInBounds_toArray, List.set_cons_zero, List.set_cons_succ])
        refine wpE_done ?_
        go_wp2_with fail
        go_roundg (L.length - (k + 1))
        case measure => omega
        case rel => exact ⟨_, k + 1, rfl, by go_num, by omega, Nat.le_refl _, hWd, (by show OwnR _ _ _ _; rw [hact]; exact HO.out.ext hWo : OwnR W w.heap.size (.slice pv ln cv) (actN L t U (k + 1)))⟩
    · obtain rfl : k = L.length := by omega
      go_wp2_with fail
      go_ret
      exact ⟨_, rfl, HO.out, hx⟩
end Go.Proofs.YtkfhkhgiojpfoaaGreat.Rb
