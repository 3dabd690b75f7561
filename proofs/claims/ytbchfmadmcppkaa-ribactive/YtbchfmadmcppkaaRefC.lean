/- The document's Best and Active. -/
import Derived.Test.YtbchfmadmcppkaaRefB
import Derived.Test.YtbchfmadmcppkaaRibA
namespace Go.Proofs.Ytbchfmadmcppkaa.Rb
set_option maxRecDepth 100000
open Go.RowKit Go.Proofs.Ytbchfmadmcppkaa
set_option linter.unusedVariables false
set_option linter.unusedSimpArgs false

/-- The place of what was found. -/
def Idx (L : List Rt) (o : Option Rt) (z : Int) : Prop := (o = none ∧ z = -1) ∨ ∃ (j : Nat) (y : Rt), z = j ∧ j < L.length ∧ L[j]? = some y ∧ o = some y

set_option maxHeartbeats 4000000 in
theorem refBest_any (xb : Nat) (L : List Rt) (F : List Nat) (t a l : Int) (q : Option Addr) (m d : Nat) (U : List Bool) (w : World) (h : RibAt 36 w xb L F) (hn : L.length ≤ 1000) (hU : Ups w q m U) :
    Calls Try.prog 18 #[.pointer (some ⟨xb, 0, none⟩), .int .i64 t, .agg #[.int .u32 a, .int .i64 l], .slice q m d] w (BestAns w (bestO L t a l U)) := by
  obtain ⟨v, -, hX, hO⟩ := h
  obtain ⟨p, c, hv, hc1, -, hR⟩ := hO.slice
  subst hv
  have hA : Ext w ((w.alloc (.cells #[.int .u32 a, .int .i64 l] 25)).alloc (.cells #[.int .i64 zeroR.t, .int .u32 zeroR.a, .int .i64 zeroR.l, .int .i64 zeroR.i, .int .u32 zeroR.g, .int .i64 zeroR.m] 27)) := ((Ext.refl w).alloc _).alloc _
  have hB1 : ((w.alloc (.cells #[.int .u32 a, .int .i64 l] 25)).alloc (.cells #[.int .i64 zeroR.t, .int .u32 zeroR.a, .int .i64 zeroR.l, .int .i64 zeroR.i, .int .u32 zeroR.g, .int .i64 zeroR.m] 27)).heap[w.heap.size]? = some (.cells #[.int .u32 a, .int .i64 l] 25 (0, 0)) :=
    (Below.heap_alloc (w.alloc (.cells #[.int .u32 a, .int .i64 l] 25)) _ w.heap.size (by simp)).trans (heap_new w _)
  have hB2 : ((w.alloc (.cells #[.int .u32 a, .int .i64 l] 25)).alloc (.cells #[.int .i64 zeroR.t, .int .u32 zeroR.a, .int .i64 zeroR.l, .int .i64 zeroR.i, .int .u32 zeroR.g, .int .i64 zeroR.m] 27)).heap[w.heap.size + 1]? = some (.cells #[.int .i64 zeroR.t, .int .u32 zeroR.a, .int .i64 zeroR.l, .int .i64 zeroR.i, .int .u32 zeroR.g, .int .i64 zeroR.m] 27 (0, 0)) := by
    have := heap_new (w.alloc (.cells #[.int .u32 a, .int .i64 l] 25)) (.cells #[.int .i64 zeroR.t, .int .u32 zeroR.a, .int .i64 zeroR.l, .int .i64 zeroR.i, .int .u32 zeroR.g, .int .i64 zeroR.m] 27)
    rwa [show (w.alloc (.cells #[.int .u32 a, .int .i64 l] 25)).heap.size = w.heap.size + 1 by simp] at this
  have x00 : ((w.alloc (.cells #[.int .u32 a, .int .i64 l] 25)).alloc (.cells #[.int .i64 zeroR.t, .int .u32 zeroR.a, .int .i64 zeroR.l, .int .i64 zeroR.i, .int .u32 zeroR.g, .int .i64 zeroR.m] 27)).cell? ⟨xb, 0, none⟩ = some (.slice p L.length c) := by rw [heap_cell (hA.heap hX)]; rfl
  have HA : Hid (Ext w ((w.alloc (.cells #[.int .u32 a, .int .i64 l] 25)).alloc (.cells #[.int .i64 zeroR.t, .int .u32 zeroR.a, .int .i64 zeroR.l, .int .i64 zeroR.i, .int .u32 zeroR.g, .int .i64 zeroR.m] 27))) := hA
  have HB1 : Hid _ := hB1
  have HB2 : Hid _ := hB2
  have HX : Hid _ := hX
  have HR : Hid (Rd w p L.length c L) := hR
  have HU : Hid (Ups w q m U) := hU
  have ep := fun x y w => eql_prefix x y a l w
  clear hA hB1 hB2 hX hO hR hU
  go_enter Try.func18, Try.ntmps18
  go_wp2_with fail
  clear x00
  change Code.wp Try.prog _ _ _ ((w.alloc (.cells #[.int .u32 a, .int .i64 l] 25)).alloc (.cells #[.int .i64 zeroR.t, .int .u32 zeroR.a, .int .i64 zeroR.l, .int .i64 zeroR.i, .int .u32 zeroR.g, .int .i64 zeroR.m] 27))
  generalize hW0 : ((w.alloc (.cells #[.int .u32 a, .int .i64 l] 25)).alloc (.cells #[.int .i64 zeroR.t, .int .u32 zeroR.a, .int .i64 zeroR.l, .int .i64 zeroR.i, .int .u32 zeroR.g, .int .i64 zeroR.m] 27)) = W0 at *
  clear hW0
  go_loopg [10, 11] L.length (fun kx s10 s11 wr => ∃ (k : Nat) (o : Option Rt) (z : Int), s11 = .int .i64 k ∧ s10 = .int .i64 z ∧ k ≤ L.length ∧ L.length - k ≤ kx ∧ Ext W0 wr ∧ Hid (o = bestO (L.take k) t a l U) ∧ Hid (Idx L o z))
  case atStart => exact ⟨0, none, -1, rfl, rfl, Nat.zero_le _, by omega, Ext.refl _, (rfl : none = bestO (L.take 0) t a l U), (.inl ⟨rfl, rfl⟩ : Idx L none (-1))⟩
  case round =>
    obtain ⟨k, o, z, rfl, rfl, hkn, hkx, hx, HO, HZ⟩ := hrel
    have vr : wr.cell? ⟨xb, 0, none⟩ = some (.slice p L.length c) := by rw [heap_cell ((HA.out.trans hx).heap HX.out)]; rfl
    by_cases hlt : k < L.length
    · obtain ⟨x, hxk⟩ : ∃ x, L[k]? = some x := ⟨_, List.getElem?_eq_getElem hlt⟩
      have hst := bestO_take (U := U) (t := t) (a := a) (l := l) hxk
      rw [← HO.out] at hst
      obtain ⟨b, off, rfl, hb, g0, g1, g2, g3, g4, g5⟩ := (HR.out.ext (HA.out.trans hx)).cell hxk
      have hA : Ext wr (wr.alloc (.cells #[.int .i64 x.t, .int .u32 x.a, .int .i64 x.l, .int .i64 x.i, .int .u32 x.g, .int .i64 x.m] 27)) := (Ext.refl wr).alloc _
      have hxA : Ext W0 (wr.alloc (.cells #[.int .i64 x.t, .int .u32 x.a, .int .i64 x.l, .int .i64 x.i, .int .u32 x.g, .int .i64 x.m] 27)) := hx.trans hA
      have HXK : Hid _ := hxk
      have HT : Hid _ := hst
      have hki : (k : Int) < (L.length : Int) := by omega
      have ko := fun w' (hx : Ext W0 w') => on_any x.i q m d U w' (HU.out.ext (HA.out.trans hx))
      obtain ⟨a0, a1, a2, a3, a4, a5⟩ := box_rtE (heap_new wr (.cells #[.int .i64 x.t, .int .u32 x.a, .int .i64 x.l, .int .i64 x.i, .int .u32 x.g, .int .i64 x.m] 27))
      obtain ⟨e0, e1⟩ := box2E HB1.out
      have hdd : Ext (wr.alloc (.cells #[.int .i64 x.t, .int .u32 x.a, .int .i64 x.l, .int .i64 x.i, .int .u32 x.g, .int .i64 x.m] 27)) (wr.alloc (.cells #[.int .i64 x.t, .int .u32 x.a, .int .i64 x.l, .int .i64 x.i, .int .u32 x.g, .int .i64 x.m] 27)).drew := (Ext.refl _).drew
      have x0 := fun w' h => a0 w' (hdd.trans h)
      have x1 := fun w' h => a1 w' (hdd.trans h)
      have x2 := fun w' h => a2 w' (hdd.trans h)
      have x3 := fun w' h => a3 w' (hdd.trans h)
      have x4 := fun w' h => a4 w' (hdd.trans h)
      have x5 := fun w' h => a5 w' (hdd.trans h)
      have b0 := fun w' h => e0 w' (hxA.trans (hdd.trans h))
      have b1 := fun w' h => e1 w' (hxA.trans (hdd.trans h))
      have v0 : ∀ w', Ext (wr.alloc (.cells #[.int .i64 x.t, .int .u32 x.a, .int .i64 x.l, .int .i64 x.i, .int .u32 x.g, .int .i64 x.m] 27)).drew w' → w'.cell? ⟨xb, 0, none⟩ = some (.slice (some ⟨b, off, none⟩) L.length c) := fun w' h => by rw [heap_cell ((HA.out.trans (hxA.trans (hdd.trans h))).heap HX.out)]; rfl
      clear a0 a1 a2 a3 a4 a5 e0 e1 hdd hst hxk
      have ex := fun w => ep x.a x.l w
      clear ep
      by_cases h1 : x.t = t
      · have h1a : (x.t == t) = true := by simpa using h1
        by_cases h2 : (x.a == a && x.l == l) = true
        · have hsel : selB t a l x = true := by
            simp only [Bool.and_eq_true, beq_iff_eq] at h2
            exact (selB_iff _ _ _ _).2 ⟨h1, h2.1, h2.2⟩
          rw [h2] at ex
          clear h1 h2
          cases hu : upB U x.i with
          | false =>
            rw [hu] at ko
            have ho : (if selB t a l x = true then stepB U o x else o) = o := by rw [if_pos hsel]; unfold stepB; rw [hu]; simp
            clear hsel hu
            go_wp2_with fail
            refine wp_region_eager [(0, false), (1, false), (2, false), (3, false), (4, false), (5, false), (6, false), (7, false), (8, false), (9, false), (10, false), (11, false), (12, false), (13, false), (14, true), (15, false), (16, false), (17, false), (18, false), (19, false), (20, false), (21, false), (22, false), (23, false), (24, false), (25, false), (26, false), (27, false), (28, true), (29, false), (30, false)] (by kernel_rfl) (by kernel_rfl) rfl (by kernel_rfl) (fun _ _ _ _ _ h => h) ?_
            have hWd : Ext W0 (wr.alloc (.cells #[.int .i64 x.t, .int .u32 x.a, .int .i64 x.l, .int .i64 x.i, .int .u32 x.g, .int .i64 x.m] 27)).drew := hxA.drew
            generalize (wr.alloc (.cells #[.int .i64 x.t, .int .u32 x.a, .int .i64 x.l, .int .i64 x.i, .int .u32 x.g, .int .i64 x.m] 27)).drew = W at *
            iterate 14 (refine wpE_read (v := ?_) rfl (by rfl) ?_ ?_; rotate_left; (focus (intro w' hx; go_simp; first | done | with_reducible rfl)); simp only [Act.put, List.setIfInBounds_toArray, List.set_cons_zero, List.set_cons_succ])
            (refine wpE_call rfl (by rfl) (fun K hK => ?_); go_simp; first
                  | (go_at_call 27; refine (ko _ hWd).mono ?_; rintro e w1 ⟨rfl, hx1⟩; refine hK _ _ hx1 ?_; clear hK K))
            iterate 2 (refine wpE_read (v := ?_) rfl (by rfl) ?_ ?_; rotate_left; (focus (intro w' hx; go_simp; first | done | with_reducible rfl)); simp only [Act.put, List.setIfInBounds_toArray, List.set_cons_zero, List.set_cons_succ])
            iterate 13 (rw [wpE_skip_eq _ rfl (by rfl)]; simp only [Act.put, List.setIfInBounds_toArray, List.set_cons_zero, List.set_cons_succ])
            iterate 1 (refine wpE_read (v := ?_) rfl (by rfl) ?_ ?_; rotate_left; (focus (intro w' hx; go_simp; first | done | with_reducible rfl)); simp only [Act.put, List.setIfInBounds_toArray, List.set_cons_zero, List.set_cons_succ])
            refine wpE_done ?_
            go_wp2_with fail
            go_roundg (L.length - (k + 1))
            case measure => omega
            case rel => exact ⟨k + 1, o, z, by go_num, rfl, by omega, Nat.le_refl _, hWd.trans hx1, (by rw [HT.out, ho] : o = bestO (L.take (k + 1)) t a l U), HZ⟩
          | true =>
            rw [hu] at ko
            rcases HZ.out with ⟨ho0, hz⟩ | ⟨j, y, hz, hj, hy, ho0⟩
            · have ho : (if selB t a l x = true then stepB U o x else o) = some x := by rw [if_pos hsel, ho0]; unfold stepB okB; rw [hu]; simp
              subst hz
              clear hsel hu ho0
              go_wp2_with fail
              refine wp_region_eager [(0, false), (1, false), (2, false), (3, false), (4, false), (5, false), (6, false), (7, false), (8, false), (9, false), (10, false), (11, false), (12, false), (13, false), (14, true), (15, false), (16, false), (17, false), (18, false), (19, false), (20, false), (21, false), (22, false), (23, false), (24, false), (25, false), (26, false), (27, false), (28, true), (29, false), (30, false)] (by kernel_rfl) (by kernel_rfl) rfl (by kernel_rfl) (fun _ _ _ _ _ h => h) ?_
              have hWd : Ext W0 (wr.alloc (.cells #[.int .i64 x.t, .int .u32 x.a, .int .i64 x.l, .int .i64 x.i, .int .u32 x.g, .int .i64 x.m] 27)).drew := hxA.drew
              generalize (wr.alloc (.cells #[.int .i64 x.t, .int .u32 x.a, .int .i64 x.l, .int .i64 x.i, .int .u32 x.g, .int .i64 x.m] 27)).drew = W at *
              iterate 14 (refine wpE_read (v := ?_) rfl (by rfl) ?_ ?_; rotate_left; (focus (intro w' hx; go_simp; first | done | with_reducible rfl)); simp only [Act.put, List.setIfInBounds_toArray, List.set_cons_zero, List.set_cons_succ])
              (refine wpE_call rfl (by rfl) (fun K hK => ?_); go_simp; first
                    | (go_at_call 27; refine (ko _ hWd).mono ?_; rintro e w1 ⟨rfl, hx1⟩; refine hK _ _ hx1 ?_; clear hK K))
              iterate 5 (refine wpE_read (v := ?_) rfl (by rfl) ?_ ?_; rotate_left; (focus (intro w' hx; go_simp; first | done | with_reducible rfl)); simp only [Act.put, List.setIfInBounds_toArray, List.set_cons_zero, List.set_cons_succ])
              iterate 9 (rw [wpE_skip_eq _ rfl (by rfl)]; simp only [Act.put, List.setIfInBounds_toArray, List.set_cons_zero, List.set_cons_succ])
              iterate 2 (refine wpE_read (v := ?_) rfl (by rfl) ?_ ?_; rotate_left; (focus (intro w' hx; go_simp; first | done | with_reducible rfl)); simp only [Act.put, List.setIfInBounds_toArray, List.set_cons_zero, List.set_cons_succ])
              refine wpE_done ?_
              go_wp2_with fail
              go_roundg (L.length - (k + 1))
              case measure => omega
              case rel => exact ⟨k + 1, some x, (k : Int), by go_num, rfl, by omega, Nat.le_refl _, hWd.trans hx1, (by rw [HT.out, ho] : some x = bestO (L.take (k + 1)) t a l U), (.inr ⟨k, x, rfl, hlt, HXK.out, rfl⟩ : Idx L (some x) (k : Int))⟩
            · have kb := fun w => refBetter_any x y w
              obtain ⟨b', off', hbo, hb', y0, y1, y2, y3, y4, y5⟩ := (HR.out.ext (HA.out.trans hxA.drew)).cell hy
              cases hbo
              have z0 : ∀ w', Ext (wr.alloc (.cells #[.int .i64 x.t, .int .u32 x.a, .int .i64 x.l, .int .i64 x.i, .int .u32 x.g, .int .i64 x.m] 27)).drew w' → w'.cell? ⟨b, off + j * 6, none⟩ = some (.int .i64 y.t) := fun w' h => by rw [h.below.cell (p := ⟨b, off + j * 6, none⟩) hb']; exact y0
              have z1 : ∀ w', Ext (wr.alloc (.cells #[.int .i64 x.t, .int .u32 x.a, .int .i64 x.l, .int .i64 x.i, .int .u32 x.g, .int .i64 x.m] 27)).drew w' → w'.cell? ⟨b, off + j * 6 + 1, none⟩ = some (.int .u32 y.a) := fun w' h => by rw [h.below.cell (p := ⟨b, off + j * 6 + 1, none⟩) hb']; exact y1
              have z2 : ∀ w', Ext (wr.alloc (.cells #[.int .i64 x.t, .int .u32 x.a, .int .i64 x.l, .int .i64 x.i, .int .u32 x.g, .int .i64 x.m] 27)).drew w' → w'.cell? ⟨b, off + j * 6 + 2, none⟩ = some (.int .i64 y.l) := fun w' h => by rw [h.below.cell (p := ⟨b, off + j * 6 + 2, none⟩) hb']; exact y2
              have z3 : ∀ w', Ext (wr.alloc (.cells #[.int .i64 x.t, .int .u32 x.a, .int .i64 x.l, .int .i64 x.i, .int .u32 x.g, .int .i64 x.m] 27)).drew w' → w'.cell? ⟨b, off + j * 6 + 3, none⟩ = some (.int .i64 y.i) := fun w' h => by rw [h.below.cell (p := ⟨b, off + j * 6 + 3, none⟩) hb']; exact y3
              have z4 : ∀ w', Ext (wr.alloc (.cells #[.int .i64 x.t, .int .u32 x.a, .int .i64 x.l, .int .i64 x.i, .int .u32 x.g, .int .i64 x.m] 27)).drew w' → w'.cell? ⟨b, off + j * 6 + 4, none⟩ = some (.int .u32 y.g) := fun w' h => by rw [h.below.cell (p := ⟨b, off + j * 6 + 4, none⟩) hb']; exact y4
              have z5 : ∀ w', Ext (wr.alloc (.cells #[.int .i64 x.t, .int .u32 x.a, .int .i64 x.l, .int .i64 x.i, .int .u32 x.g, .int .i64 x.m] 27)).drew w' → w'.cell? ⟨b, off + j * 6 + 5, none⟩ = some (.int .i64 y.m) := fun w' h => by rw [h.below.cell (p := ⟨b, off + j * 6 + 5, none⟩) hb']; exact y5
              clear y0 y1 y2 y3 y4 y5
              have hji : (j : Int) < (L.length : Int) := by omega
              subst hz
              cases hbt : betB x y with
              | false =>
                rw [hbt] at kb
                have ho : (if selB t a l x = true then stepB U o x else o) = o := by rw [if_pos hsel, ho0]; unfold stepB okB; rw [hu]; simp [hbt]
                generalize hzj : (j : Int) = z at HZ
                subst hzj
                clear hsel hu ho0 hbt
                go_wp2_with fail
                refine wp_region_eager [(0, false), (1, false), (2, false), (3, false), (4, false), (5, false), (6, false), (7, false), (8, false), (9, false), (10, false), (11, false), (12, false), (13, false), (14, true), (15, false), (16, false), (17, false), (18, false), (19, false), (20, false), (21, false), (22, false), (23, false), (24, false), (25, false), (26, false), (27, false), (28, true), (29, false), (30, false)] (by kernel_rfl) (by kernel_rfl) rfl (by kernel_rfl) (fun _ _ _ _ _ h => h) ?_
                have hWd : Ext W0 (wr.alloc (.cells #[.int .i64 x.t, .int .u32 x.a, .int .i64 x.l, .int .i64 x.i, .int .u32 x.g, .int .i64 x.m] 27)).drew := hxA.drew
                generalize (wr.alloc (.cells #[.int .i64 x.t, .int .u32 x.a, .int .i64 x.l, .int .i64 x.i, .int .u32 x.g, .int .i64 x.m] 27)).drew = W at *
                iterate 14 (refine wpE_read (v := ?_) rfl (by rfl) ?_ ?_; rotate_left; (focus (intro w' hx; go_simp; first | done | with_reducible rfl)); simp only [Act.put, List.setIfInBounds_toArray, List.set_cons_zero, List.set_cons_succ])
                (refine wpE_call rfl (by rfl) (fun K hK => ?_); go_simp; first
                      | (go_at_call 27; refine (ko _ hWd).mono ?_; rintro e w1 ⟨rfl, hx1⟩; refine hK _ _ hx1 ?_; clear hK K))
                replace v0 := fun w' h => v0 w' (hx1.trans h); replace x0 := fun w' h => x0 w' (hx1.trans h); replace x1 := fun w' h => x1 w' (hx1.trans h); replace x2 := fun w' h => x2 w' (hx1.trans h); replace x3 := fun w' h => x3 w' (hx1.trans h); replace x4 := fun w' h => x4 w' (hx1.trans h); replace x5 := fun w' h => x5 w' (hx1.trans h); replace z0 := fun w' h => z0 w' (hx1.trans h); replace z1 := fun w' h => z1 w' (hx1.trans h); replace z2 := fun w' h => z2 w' (hx1.trans h); replace z3 := fun w' h => z3 w' (hx1.trans h); replace z4 := fun w' h => z4 w' (hx1.trans h); replace z5 := fun w' h => z5 w' (hx1.trans h)
                iterate 13 (refine wpE_read (v := ?_) rfl (by rfl) ?_ ?_; rotate_left; (focus (intro w' hx; go_simp; first | done | with_reducible rfl)); simp only [Act.put, List.setIfInBounds_toArray, List.set_cons_zero, List.set_cons_succ])
                (refine wpE_call rfl (by rfl) (fun K hK => ?_); go_simp; first
                      | (go_at_call 22; refine (kb _).mono ?_; rintro e w2 ⟨rfl, hx2⟩; refine hK _ _ hx2 ?_; clear hK K))
                iterate 2 (refine wpE_read (v := ?_) rfl (by rfl) ?_ ?_; rotate_left; (focus (intro w' hx; go_simp; first | done | with_reducible rfl)); simp only [Act.put, List.setIfInBounds_toArray, List.set_cons_zero, List.set_cons_succ])
                refine wpE_done ?_
                go_wp2_with fail
                go_roundg (L.length - (k + 1))
                case measure => omega
                case rel => exact ⟨k + 1, o, (j : Int), by go_num, rfl, by omega, Nat.le_refl _, (hWd.trans hx1).trans hx2, (by rw [HT.out, ho] : o = bestO (L.take (k + 1)) t a l U), HZ⟩
              | true =>
                rw [hbt] at kb
                have ho : (if selB t a l x = true then stepB U o x else o) = some x := by rw [if_pos hsel, ho0]; unfold stepB okB; rw [hu]; simp [hbt]
                clear hsel hu ho0 hbt
                go_wp2_with fail
                refine wp_region_eager [(0, false), (1, false), (2, false), (3, false), (4, false), (5, false), (6, false), (7, false), (8, false), (9, false), (10, false), (11, false), (12, false), (13, false), (14, true), (15, false), (16, false), (17, false), (18, false), (19, false), (20, false), (21, false), (22, false), (23, false), (24, false), (25, false), (26, false), (27, false), (28, true), (29, false), (30, false)] (by kernel_rfl) (by kernel_rfl) rfl (by kernel_rfl) (fun _ _ _ _ _ h => h) ?_
                have hWd : Ext W0 (wr.alloc (.cells #[.int .i64 x.t, .int .u32 x.a, .int .i64 x.l, .int .i64 x.i, .int .u32 x.g, .int .i64 x.m] 27)).drew := hxA.drew
                generalize (wr.alloc (.cells #[.int .i64 x.t, .int .u32 x.a, .int .i64 x.l, .int .i64 x.i, .int .u32 x.g, .int .i64 x.m] 27)).drew = W at *
                iterate 14 (refine wpE_read (v := ?_) rfl (by rfl) ?_ ?_; rotate_left; (focus (intro w' hx; go_simp; first | done | with_reducible rfl)); simp only [Act.put, List.setIfInBounds_toArray, List.set_cons_zero, List.set_cons_succ])
                (refine wpE_call rfl (by rfl) (fun K hK => ?_); go_simp; first
                      | (go_at_call 27; refine (ko _ hWd).mono ?_; rintro e w1 ⟨rfl, hx1⟩; refine hK _ _ hx1 ?_; clear hK K))
                replace v0 := fun w' h => v0 w' (hx1.trans h); replace x0 := fun w' h => x0 w' (hx1.trans h); replace x1 := fun w' h => x1 w' (hx1.trans h); replace x2 := fun w' h => x2 w' (hx1.trans h); replace x3 := fun w' h => x3 w' (hx1.trans h); replace x4 := fun w' h => x4 w' (hx1.trans h); replace x5 := fun w' h => x5 w' (hx1.trans h); replace z0 := fun w' h => z0 w' (hx1.trans h); replace z1 := fun w' h => z1 w' (hx1.trans h); replace z2 := fun w' h => z2 w' (hx1.trans h); replace z3 := fun w' h => z3 w' (hx1.trans h); replace z4 := fun w' h => z4 w' (hx1.trans h); replace z5 := fun w' h => z5 w' (hx1.trans h)
                iterate 13 (refine wpE_read (v := ?_) rfl (by rfl) ?_ ?_; rotate_left; (focus (intro w' hx; go_simp; first | done | with_reducible rfl)); simp only [Act.put, List.setIfInBounds_toArray, List.set_cons_zero, List.set_cons_succ])
                (refine wpE_call rfl (by rfl) (fun K hK => ?_); go_simp; first
                      | (go_at_call 22; refine (kb _).mono ?_; rintro e w2 ⟨rfl, hx2⟩; refine hK _ _ hx2 ?_; clear hK K))
                iterate 2 (refine wpE_read (v := ?_) rfl (by rfl) ?_ ?_; rotate_left; (focus (intro w' hx; go_simp; first | done | with_reducible rfl)); simp only [Act.put, List.setIfInBounds_toArray, List.set_cons_zero, List.set_cons_succ])
                refine wpE_done ?_
                go_wp2_with fail
                go_roundg (L.length - (k + 1))
                case measure => omega
                case rel => exact ⟨k + 1, some x, (k : Int), by go_num, rfl, by omega, Nat.le_refl _, (hWd.trans hx1).trans hx2, (by rw [HT.out, ho] : some x = bestO (L.take (k + 1)) t a l U), (.inr ⟨k, x, rfl, hlt, HXK.out, rfl⟩ : Idx L (some x) (k : Int))⟩
        · have h2' : (x.a == a && x.l == l) = false := by simpa using h2
          have hsel : ¬ selB t a l x = true := fun e => h2 (by obtain ⟨_, e2, e3⟩ := (selB_iff _ _ _ _).1 e; simp [e2, e3])
          have ho : (if selB t a l x = true then stepB U o x else o) = o := by rw [if_neg hsel]
          rw [h2'] at ex
          clear h1 h2 h2' hsel
          go_wp2_with fail
          refine wp_region_eager [(0, false), (1, false), (2, false), (3, false), (4, false), (5, false), (6, false), (7, false), (8, false), (9, false), (10, false), (11, false), (12, false), (13, false), (14, true), (15, false), (16, false), (17, false), (18, false), (19, false), (20, false), (21, false), (22, false), (23, false), (24, false), (25, false), (26, false), (27, false), (28, true), (29, false), (30, false)] (by kernel_rfl) (by kernel_rfl) rfl (by kernel_rfl) (fun _ _ _ _ _ h => h) ?_
          have hWd : Ext W0 (wr.alloc (.cells #[.int .i64 x.t, .int .u32 x.a, .int .i64 x.l, .int .i64 x.i, .int .u32 x.g, .int .i64 x.m] 27)).drew := hxA.drew
          generalize (wr.alloc (.cells #[.int .i64 x.t, .int .u32 x.a, .int .i64 x.l, .int .i64 x.i, .int .u32 x.g, .int .i64 x.m] 27)).drew = W at *
          iterate 11 (refine wpE_read (v := ?_) rfl (by rfl) ?_ ?_; rotate_left; (focus (intro w' hx; go_simp; first | done | with_reducible rfl)); simp only [Act.put, List.setIfInBounds_toArray, List.set_cons_zero, List.set_cons_succ])
          iterate 4 (rw [wpE_skip_eq _ rfl (by rfl)]; simp only [Act.put, List.setIfInBounds_toArray, List.set_cons_zero, List.set_cons_succ])
          iterate 2 (refine wpE_read (v := ?_) rfl (by rfl) ?_ ?_; rotate_left; (focus (intro w' hx; go_simp; first | done | with_reducible rfl)); simp only [Act.put, List.setIfInBounds_toArray, List.set_cons_zero, List.set_cons_succ])
          iterate 13 (rw [wpE_skip_eq _ rfl (by rfl)]; simp only [Act.put, List.setIfInBounds_toArray, List.set_cons_zero, List.set_cons_succ])
          iterate 1 (refine wpE_read (v := ?_) rfl (by rfl) ?_ ?_; rotate_left; (focus (intro w' hx; go_simp; first | done | with_reducible rfl)); simp only [Act.put, List.setIfInBounds_toArray, List.set_cons_zero, List.set_cons_succ])
          refine wpE_done ?_
          go_wp2_with fail
          go_roundg (L.length - (k + 1))
          case measure => omega
          case rel => exact ⟨k + 1, o, z, by go_num, rfl, by omega, Nat.le_refl _, hWd, (by rw [HT.out, ho] : o = bestO (L.take (k + 1)) t a l U), HZ⟩
      · have h1a : (x.t == t) = false := by simpa using h1
        have hsel : ¬ selB t a l x = true := fun e => h1 ((selB_iff _ _ _ _).1 e).1
        have ho : (if selB t a l x = true then stepB U o x else o) = o := by rw [if_neg hsel]
        clear hsel
        go_wp2_with fail
        refine wp_region_eager [(0, false), (1, false), (2, false), (3, false), (4, false), (5, false), (6, false), (7, false), (8, false), (9, false), (10, false), (11, false), (12, false), (13, false), (14, true), (15, false), (16, false), (17, false), (18, false), (19, false), (20, false), (21, false), (22, false), (23, false), (24, false), (25, false), (26, false), (27, false), (28, true), (29, false), (30, false)] (by kernel_rfl) (by kernel_rfl) rfl (by kernel_rfl) (fun _ _ _ _ _ h => h) ?_
        have hWd : Ext W0 (wr.alloc (.cells #[.int .i64 x.t, .int .u32 x.a, .int .i64 x.l, .int .i64 x.i, .int .u32 x.g, .int .i64 x.m] 27)).drew := hxA.drew
        generalize (wr.alloc (.cells #[.int .i64 x.t, .int .u32 x.a, .int .i64 x.l, .int .i64 x.i, .int .u32 x.g, .int .i64 x.m] 27)).drew = W at *
        iterate 5 (refine wpE_read (v := ?_) rfl (by rfl) ?_ ?_; rotate_left; (focus (intro w' hx; go_simp; first | done | with_reducible rfl)); simp only [Act.put, List.setIfInBounds_toArray, List.set_cons_zero, List.set_cons_succ])
        iterate 4 (rw [wpE_skip_eq _ rfl (by rfl)]; simp only [Act.put, List.setIfInBounds_toArray, List.set_cons_zero, List.set_cons_succ])
        iterate 2 (refine wpE_read (v := ?_) rfl (by rfl) ?_ ?_; rotate_left; (focus (intro w' hx; go_simp; first | done | with_reducible rfl)); simp only [Act.put, List.setIfInBounds_toArray, List.set_cons_zero, List.set_cons_succ])
        iterate 4 (rw [wpE_skip_eq _ rfl (by rfl)]; simp only [Act.put, List.setIfInBounds_toArray, List.set_cons_zero, List.set_cons_succ])
        iterate 2 (refine wpE_read (v := ?_) rfl (by rfl) ?_ ?_; rotate_left; (focus (intro w' hx; go_simp; first | done | with_reducible rfl)); simp only [Act.put, List.setIfInBounds_toArray, List.set_cons_zero, List.set_cons_succ])
        iterate 13 (rw [wpE_skip_eq _ rfl (by rfl)]; simp only [Act.put, List.setIfInBounds_toArray, List.set_cons_zero, List.set_cons_succ])
        iterate 1 (refine wpE_read (v := ?_) rfl (by rfl) ?_ ?_; rotate_left; (focus (intro w' hx; go_simp; first | done | with_reducible rfl)); simp only [Act.put, List.setIfInBounds_toArray, List.set_cons_zero, List.set_cons_succ])
        refine wpE_done ?_
        go_wp2_with fail
        go_roundg (L.length - (k + 1))
        case measure => omega
        case rel => exact ⟨k + 1, o, z, by go_num, rfl, by omega, Nat.le_refl _, hWd, (by rw [HT.out, ho] : o = bestO (L.take (k + 1)) t a l U), HZ⟩
    · obtain rfl : k = L.length := by omega
      have hE := HA.out.trans hx
      have HOo : Hid (o = bestO L t a l U) := by show o = _; rw [HO.out, List.take_length]
      clear HO ep
      rcases HZ.out with ⟨ho0, hz⟩ | ⟨j, y, hz, hj, hy, ho0⟩
      · subst hz
        go_wp2_with (refine wpl_store (by rfl) 27 _ _ rfl rfl 6 (w.heap.size + 1) #[.int .i64 zeroR.t, .int .u32 zeroR.a, .int .i64 zeroR.l, .int .i64 zeroR.i, .int .u32 zeroR.g, .int .i64 zeroR.m] _ _ rfl rfl (hx.heap HB2.out) rt_size rfl rfl (by simp [Value.oneCell']) ?_; intro w5 hx5 k5)
        refine bodyPost_ret (results_two Try.results18 _ rfl k5 Try.underlying27 rfl rt_size) rfl ?_
        rw [← HOo.out, ho0]
        exact ⟨rfl, ExtX.ext hE hx5 (by omega)⟩
      · subst hz
        obtain ⟨b, off, rfl, hb, g0, g1, g2, g3, g4, g5⟩ := (HR.out.ext hE).cell hy
        have hji : (j : Int) < (L.length : Int) := by omega
        go_wp2_with (refine wpl_store (by rfl) 27 _ _ rfl rfl 6 (w.heap.size + 1) #[.int .i64 y.t, .int .u32 y.a, .int .i64 y.l, .int .i64 y.i, .int .u32 y.g, .int .i64 y.m] _ _ rfl rfl (hx.heap HB2.out) rt_size rfl rfl (by simp [Value.oneCell']) ?_; intro w5 hx5 k5)
        refine bodyPost_ret (results_two Try.results18 _ rfl k5 Try.underlying27 rfl rt_size) rfl ?_
        rw [← HOo.out, ho0]
        exact ⟨rfl, ExtX.ext hE hx5 (by omega)⟩
end Go.Proofs.Ytbchfmadmcppkaa.Rb
