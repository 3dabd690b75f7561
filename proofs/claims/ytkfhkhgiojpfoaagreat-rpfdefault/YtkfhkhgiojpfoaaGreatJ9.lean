/- Texts joined by a program: RefD, Frame, RowG, Law11, Law11P, Law11T. -/
import Derived.Lib.SmallJoins
import Derived.ChangeSlices
import Derived.Test.YtkfhkhgiojpfoaaGreatJ1
import Derived.Test.YtkfhkhgiojpfoaaGreatJ8
namespace Go.Proofs.YtkfhkhgiojpfoaaGreat.Rb

set_option maxRecDepth 100000

open Go.RowKit Go.Proofs.YtkfhkhgiojpfoaaGreat

set_option linter.unusedVariables false

set_option linter.unusedSimpArgs false

theorem actN_skip {L : List Rt} {t : Int} {U : List Bool} {k : Nat} (h : firstB L t k = false) : actN L t U (k + 1) = actN L t U k := by
  conv => lhs; unfold actN
  rw [h]
  simp

theorem actN_take {L : List Rt} {t : Int} {U : List Bool} {k : Nat} {x : Rt} (h : firstB L t k = true) (hx : L[k]? = some x) : actN L t U (k + 1) = actN L t U k ++ (bestO L t x.a x.l U).toList := by
  conv => lhs; unfold actN
  rw [h, hx]
  simp

set_option maxHeartbeats 4000000 in
theorem refActive_any (xb : Nat) (L : List Rt) (F : List Nat) (t : Int) (q : Option Addr) (m d : Nat) (U : List Bool) (w : World) (h : RibAt 51 w xb L F) (hn : L.length ≤ 1000) (hU : Ups w q m U) :
    Calls Tryz.prog 58 #[.pointer (some ⟨xb, 0, none⟩), .int .i64 t, .slice q m d] w (RowNew w (actL L t U)) := by
  have HH : Hid (RibAt 51 w xb L F) := h
  obtain ⟨v, -, hX, hO⟩ := h
  obtain ⟨p, c, hv, hc1, -, hR⟩ := hO.slice
  subst hv
  have HX : Hid _ := hX
  have HR : Hid (Rd w p L.length c L) := hR
  have HU : Hid (Ups w q m U) := hU
  have vw : w.cell? ⟨xb, 0, none⟩ = some (.slice p L.length c) := by rw [heap_cell hX]; rfl
  clear hX hO hR hU
  unfold actL
  go_enter Tryz.func58, Tryz.ntmps58
  go_wp2_with fail
  clear vw
  go_loopg [7, 8] L.length (fun kx s7 s8 wr => ∃ (v : Value) (k : Nat), s7 = v ∧ s8 = .int .i64 k ∧ k ≤ L.length ∧ L.length - k ≤ kx ∧ Ext w wr ∧ Hid (OwnR wr w.heap.size v (actN L t U k)))
  case atStart => exact ⟨.slice none 0 0, 0, rfl, rfl, Nat.zero_le _, by omega, Ext.refl _, OwnR.nil _ _⟩
  case round =>
    obtain ⟨v, k, rfl, rfl, hkn, hkx, hx, HO⟩ := hrel
    have vr : wr.cell? ⟨xb, 0, none⟩ = some (.slice p L.length c) := by rw [heap_cell (hx.heap HX.out)]; rfl
    obtain ⟨pv, cv, hv, hv1, -, -⟩ := HO.out.slice
    subst hv
    have hal := actN_len L t U k
    generalize hln : (actN L t U k).length = ln at *
    have HLN : Hid _ := hln
    clear hln
    by_cases hlt : k < L.length
    · obtain ⟨x, hxk⟩ : ∃ x, L[k]? = some x := ⟨_, List.getElem?_eq_getElem hlt⟩
      obtain ⟨b, off, rfl, hb, g0, g1, g2, g3, g4, g5⟩ := (HR.out.ext hx).cell hxk
      have hA : Ext wr (wr.alloc (.cells #[.int .i64 x.t, .int .u32 x.a, .int .i64 x.l, .int .i64 x.i, .int .u32 x.g, .int .i64 x.m] 48)) := (Ext.refl wr).alloc _
      have hki : (k : Int) < (L.length : Int) := by omega
      have kB := fun w' (hx : Ext w w') => refBest_any xb L F t x.a x.l q m d U w' (HH.out.ext hx) hn (HU.out.ext hx)
      have hdd : Ext (wr.alloc (.cells #[.int .i64 x.t, .int .u32 x.a, .int .i64 x.l, .int .i64 x.i, .int .u32 x.g, .int .i64 x.m] 48)) (wr.alloc (.cells #[.int .i64 x.t, .int .u32 x.a, .int .i64 x.l, .int .i64 x.i, .int .u32 x.g, .int .i64 x.m] 48)).drew := (Ext.refl _).drew
      obtain ⟨a0, a1, a2, a3, a4, a5⟩ := box_rtE (heap_new wr (.cells #[.int .i64 x.t, .int .u32 x.a, .int .i64 x.l, .int .i64 x.i, .int .u32 x.g, .int .i64 x.m] 48))
      have x0 := fun w' h => a0 w' (hdd.trans h)
      have x1 := fun w' h => a1 w' (hdd.trans h)
      have x2 := fun w' h => a2 w' (hdd.trans h)
      have v0 : ∀ w', Ext (wr.alloc (.cells #[.int .i64 x.t, .int .u32 x.a, .int .i64 x.l, .int .i64 x.i, .int .u32 x.g, .int .i64 x.m] 48)).drew w' → w'.cell? ⟨xb, 0, none⟩ = some (.slice (some ⟨b, off, none⟩) L.length c) := fun w' h => by rw [heap_cell ((hx.trans (hA.trans (hdd.trans h))).heap HX.out)]; rfl
      clear a0 a1 a2 a3 a4 a5
      have hact1 := fun h => actN_take (U := U) (t := t) h hxk
      have hact0 := fun h => actN_skip (L := L) (U := U) (t := t) (k := k) h
      by_cases h1 : x.t = t
      · have h1a : (x.t == t) = true := by simpa using h1
        have h1b : (x.t != t) = false := by simp [h1]
        cases k with
        | zero =>
          have hf : firstB L t 0 = true := by unfold firstB; rw [hxk]; simp [h1]
          have hact := hact1 hf
          generalize bestO L t x.a x.l U = o at *
          have hk0 : (0 : Int) < (L.length : Int) := by omega
          simp only [Nat.zero_mul, Nat.add_zero] at g0 g1 g2 g3 g4 g5
          clear hact1 hact0 hf h1 hxk hdd
          go_wp2_with fail
          refine wp_region_eager [(0, false), (1, false), (2, false), (3, false), (4, false), (5, false), (6, false), (7, false), (8, false), (9, false), (10, false), (11, false), (12, false), (13, false), (14, false), (15, false), (16, false), (17, false), (18, false), (19, false), (20, false), (21, false), (22, false), (23, false), (24, false), (25, false), (26, false), (27, false), (28, false), (29, false), (30, false), (31, false), (32, false), (33, false), (34, false)] (by kernel_rfl) (by kernel_rfl) rfl (by kernel_rfl) (fun _ _ _ _ _ h => h) ?_
          have hWd : Ext w (wr.alloc (.cells #[.int .i64 x.t, .int .u32 x.a, .int .i64 x.l, .int .i64 x.i, .int .u32 x.g, .int .i64 x.m] 48)).drew := (hx.trans hA).drew
          have hWo : Ext wr (wr.alloc (.cells #[.int .i64 x.t, .int .u32 x.a, .int .i64 x.l, .int .i64 x.i, .int .u32 x.g, .int .i64 x.m] 48)).drew := hA.drew
          have HXW : Hid ((wr.alloc (.cells #[.int .i64 x.t, .int .u32 x.a, .int .i64 x.l, .int .i64 x.i, .int .u32 x.g, .int .i64 x.m] 48)).drew.heap[wr.heap.size]? = some (.cells #[.int .i64 x.t, .int .u32 x.a, .int .i64 x.l, .int .i64 x.i, .int .u32 x.g, .int .i64 x.m] 48 (0, 0))) := heap_new wr _
          generalize (wr.alloc (.cells #[.int .i64 x.t, .int .u32 x.a, .int .i64 x.l, .int .i64 x.i, .int .u32 x.g, .int .i64 x.m] 48)).drew = W at *
          iterate 8 (refine wpE_read (v := ?_) rfl (by rfl) ?_ ?_; rotate_left; (focus (intro w' hx; go_simp; first | done | with_reducible rfl)); simp only [Act.put, List.setIfInBounds_toArray, List.set_cons_zero, List.set_cons_succ])
          iterate 11 (rw [wpE_skip_eq _ rfl (by rfl)]; simp only [Act.put, List.setIfInBounds_toArray, List.set_cons_zero, List.set_cons_succ])
          iterate 2 (refine wpE_read (v := ?_) rfl (by rfl) ?_ ?_; rotate_left; (focus (intro w' hx; go_simp; first | done | with_reducible rfl)); simp only [Act.put, List.setIfInBounds_toArray, List.set_cons_zero, List.set_cons_succ])
          iterate 12 (rw [wpE_skip_eq _ rfl (by rfl)]; simp only [Act.put, List.setIfInBounds_toArray, List.set_cons_zero, List.set_cons_succ])
          iterate 2 (refine wpE_read (v := ?_) rfl (by rfl) ?_ ?_; rotate_left; (focus (intro w' hx; go_simp; first | done | with_reducible rfl)); simp only [Act.put, List.setIfInBounds_toArray, List.set_cons_zero, List.set_cons_succ])
          refine wpE_done ?_
          obtain ⟨s0, s1, s2, s3, s4, s5⟩ := box_rtE HXW.out
          have y1 := s1 _ (Ext.refl _)
          have y2 := s2 _ (Ext.refl _)
          clear s0 s1 s2 s3 s4 s5 x0 x1 x2 v0
          cases o with
          | none =>
            go_wp2_with (go_at_call 79; refine (kB _ hWd).mono ?_; rintro e w3 ⟨rfl, hx3⟩)
            go_roundg (L.length - (0 + 1))
            case measure => omega
            case rel => exact ⟨_, 0 + 1, rfl, by go_num, by omega, Nat.le_refl _, hWd.trans (hx3.trans ((Ext.refl w3).alloc _)), (by show OwnR _ _ _ _; rw [hact]; simpa using HO.out.ext (hWo.trans (hx3.trans ((Ext.refl w3).alloc _))) : OwnR _ w.heap.size (.slice pv ln cv) (actN L t U (0 + 1)))⟩
          | some z =>
            go_wp2_with (first
              | (go_at_call 79; refine (kB _ hWd).mono ?_; rintro e w3 ⟨rfl, hx3⟩; obtain ⟨z0, z1, z2, z3, z4, z5⟩ := box_rtE (heap_new w3 (.cells #[.int .i64 (theR (some z)).t, .int .u32 (theR (some z)).a, .int .i64 (theR (some z)).l, .int .i64 (theR (some z)).i, .int .u32 (theR (some z)).g, .int .i64 (theR (some z)).m] 48)); have f0 := z0 _ (Ext.refl _); have f1 := z1 _ (Ext.refl _); have f2 := z2 _ (Ext.refl _); have f3 := z3 _ (Ext.refl _); have f4 := z4 _ (Ext.refl _); have f5 := z5 _ (Ext.refl _); clear z0 z1 z2 z3 z4 z5; have TB : Hid _ := two_boxes w3 #[.int .i64 (theR (some z)).t, .int .u32 (theR (some z)).a, .int .i64 (theR (some z)).l, .int .i64 (theR (some z)).i, .int .u32 (theR (some z)).g, .int .i64 (theR (some z)).m] #[.int .i64 (theR (some z)).t, .int .u32 (theR (some z)).a, .int .i64 (theR (some z)).l, .int .i64 (theR (some z)).i, .int .u32 (theR (some z)).g, .int .i64 (theR (some z)).m] 48; have HX5 : Hid (Ext wr ((w3.alloc (.cells #[.int .i64 (theR (some z)).t, .int .u32 (theR (some z)).a, .int .i64 (theR (some z)).l, .int .i64 (theR (some z)).i, .int .u32 (theR (some z)).g, .int .i64 (theR (some z)).m] 48)).alloc (.cells #[.int .i64 (theR (some z)).t, .int .u32 (theR (some z)).a, .int .i64 (theR (some z)).l, .int .i64 (theR (some z)).i, .int .u32 (theR (some z)).g, .int .i64 (theR (some z)).m] 48))) := hWo.trans (hx3.trans TB.out.1))
              | (at_builtin; refine wpList_want rfl (fun K hK => wp_app_rt (.tmp 73) (.tmp 75) rfl w.heap.size (.slice pv ln cv) (actN L t U 0) [z] rfl (HO.out.ext HX5.out) (some ⟨w3.heap.size + 1, 0, none⟩) 1 1 rfl (rd_lit TB.out.2.2) (by rw [HLN.out]; omega) (hx.trans HX5.out).size ?_); intro v6 w6 ho6 hg6 hat6; have HO6 : Hid (OwnR w6 w.heap.size v6 (actN L t U 0 ++ [z])) := ho6; have hx6 : Ext w w6 := Ext.app (hx.trans HX5.out) (HO.out.ext HX5.out) hg6; refine hK _ _ ?_; clear hK K ho6 hg6 hat6))
            go_roundg (L.length - (0 + 1))
            case measure => omega
            case rel => exact ⟨_, 0 + 1, rfl, by go_num, by omega, Nat.le_refl _, hx6, (by show OwnR _ _ _ _; rw [hact]; exact HO6.out : OwnR w6 w.heap.size v6 (actN L t U (0 + 1)))⟩
        | succ j =>
          obtain ⟨y, hyk⟩ : ∃ y, L[j]? = some y := ⟨_, List.getElem?_eq_getElem (by omega)⟩
          obtain ⟨b', off', hbo, hb', y0, y1, y2, -, -, -⟩ := (HR.out.ext (hx.trans (hA.trans hdd))).cell hyk
          cases hbo
          have z0 : ∀ w', Ext (wr.alloc (.cells #[.int .i64 x.t, .int .u32 x.a, .int .i64 x.l, .int .i64 x.i, .int .u32 x.g, .int .i64 x.m] 48)).drew w' → w'.cell? ⟨b, off + j * 6, none⟩ = some (.int .i64 y.t) := fun w' h => by rw [h.below.cell (p := ⟨b, off + j * 6, none⟩) hb']; exact y0
          have z1 : ∀ w', Ext (wr.alloc (.cells #[.int .i64 x.t, .int .u32 x.a, .int .i64 x.l, .int .i64 x.i, .int .u32 x.g, .int .i64 x.m] 48)).drew w' → w'.cell? ⟨b, off + j * 6 + 1, none⟩ = some (.int .u32 y.a) := fun w' h => by rw [h.below.cell (p := ⟨b, off + j * 6 + 1, none⟩) hb']; exact y1
          have z2 : ∀ w', Ext (wr.alloc (.cells #[.int .i64 x.t, .int .u32 x.a, .int .i64 x.l, .int .i64 x.i, .int .u32 x.g, .int .i64 x.m] 48)).drew w' → w'.cell? ⟨b, off + j * 6 + 2, none⟩ = some (.int .i64 y.l) := fun w' h => by rw [h.below.cell (p := ⟨b, off + j * 6 + 2, none⟩) hb']; exact y2
          clear y0 y1 y2
          have c1 : (((j + 1 : Nat) : Int)) = (j : Int) + 1 := by omega
          have c2 : IntKind.i64.wrap (j : Int) = (j : Int) := by rw [IntKind.wrap_i64]; omega
          have c3 : (0 : Int) < (j : Int) + 1 := by omega
          have c4 : (j : Int) < (L.length : Int) := by omega
          have c5 : (j : Int) + 1 < (L.length : Int) := by omega
          have ep := fun w => eql_prefix y.a y.l x.a x.l w
          by_cases h2 : y.t = t
          · have h2a : (y.t == t) = true := by simpa using h2
            by_cases h3 : (y.a == x.a && y.l == x.l) = true
            · rw [h3] at ep
              have hf : firstB L t (j + 1) = false := by
                simp only [Bool.and_eq_true, beq_iff_eq] at h3
                have hs : selB t x.a x.l y = true := (selB_iff _ _ _ _).2 ⟨h2, h3.1, h3.2⟩
                unfold firstB; rw [hxk]; simp [hyk, hs]
              have hact := hact0 hf
              clear hact1 hact0 hf h1 h2 h3 hxk hyk hdd kB
              go_wp2_with fail
              refine wp_region_eager [(0, false), (1, false), (2, false), (3, false), (4, false), (5, false), (6, false), (7, false), (8, false), (9, false), (10, false), (11, false), (12, false), (13, false), (14, false), (15, false), (16, false), (17, false), (18, false), (19, false), (20, false), (21, false), (22, false), (23, false), (24, false), (25, false), (26, false), (27, false), (28, false), (29, false), (30, false), (31, false), (32, false), (33, false), (34, false)] (by kernel_rfl) (by kernel_rfl) rfl (by kernel_rfl) (fun _ _ _ _ _ h => h) ?_
              have hWd : Ext w (wr.alloc (.cells #[.int .i64 x.t, .int .u32 x.a, .int .i64 x.l, .int .i64 x.i, .int .u32 x.g, .int .i64 x.m] 48)).drew := (hx.trans hA).drew
              have hWo : Ext wr (wr.alloc (.cells #[.int .i64 x.t, .int .u32 x.a, .int .i64 x.l, .int .i64 x.i, .int .u32 x.g, .int .i64 x.m] 48)).drew := hA.drew
              have HXW : Hid ((wr.alloc (.cells #[.int .i64 x.t, .int .u32 x.a, .int .i64 x.l, .int .i64 x.i, .int .u32 x.g, .int .i64 x.m] 48)).drew.heap[wr.heap.size]? = some (.cells #[.int .i64 x.t, .int .u32 x.a, .int .i64 x.l, .int .i64 x.i, .int .u32 x.g, .int .i64 x.m] 48 (0, 0))) := heap_new wr _
              generalize (wr.alloc (.cells #[.int .i64 x.t, .int .u32 x.a, .int .i64 x.l, .int .i64 x.i, .int .u32 x.g, .int .i64 x.m] 48)).drew = W at *
              iterate 35 (refine wpE_read (v := ?_) rfl (by rfl) ?_ ?_; rotate_left; (focus (intro w' hx; go_simp; first | done | with_reducible rfl)); simp only [Act.put, List.setIfInBounds_toArray, List.set_cons_zero, List.set_cons_succ])
              refine wpE_done ?_
              go_wp2_with fail
              go_roundg (L.length - ((j + 1) + 1))
              case measure => omega
              case rel => exact ⟨_, (j + 1) + 1, rfl, by go_num, by omega, Nat.le_refl _, hWd, (by show OwnR _ _ _ _; rw [hact]; exact HO.out.ext hWo : OwnR W w.heap.size (.slice pv ln cv) (actN L t U ((j + 1) + 1)))⟩
            · have h3' : (y.a == x.a && y.l == x.l) = false := by simpa using h3
              rw [h3'] at ep
              have hf : firstB L t (j + 1) = true := by
                have hs : selB t x.a x.l y = false := by
                  cases e : selB t x.a x.l y
                  · rfl
                  · obtain ⟨_, e2, e3⟩ := (selB_iff _ _ _ _).1 e
                    exact absurd (by simp [e2, e3]) h3
                unfold firstB; rw [hxk]; simp [hyk, hs, h1]
              have hact := hact1 hf
              generalize bestO L t x.a x.l U = o at *
              clear hact1 hact0 hf h1 h2 h3 h3' hxk hyk hdd
              go_wp2_with fail
              refine wp_region_eager [(0, false), (1, false), (2, false), (3, false), (4, false), (5, false), (6, false), (7, false), (8, false), (9, false), (10, false), (11, false), (12, false), (13, false), (14, false), (15, false), (16, false), (17, false), (18, false), (19, false), (20, false), (21, false), (22, false), (23, false), (24, false), (25, false), (26, false), (27, false), (28, false), (29, false), (30, false), (31, false), (32, false), (33, false), (34, false)] (by kernel_rfl) (by kernel_rfl) rfl (by kernel_rfl) (fun _ _ _ _ _ h => h) ?_
              have hWd : Ext w (wr.alloc (.cells #[.int .i64 x.t, .int .u32 x.a, .int .i64 x.l, .int .i64 x.i, .int .u32 x.g, .int .i64 x.m] 48)).drew := (hx.trans hA).drew
              have hWo : Ext wr (wr.alloc (.cells #[.int .i64 x.t, .int .u32 x.a, .int .i64 x.l, .int .i64 x.i, .int .u32 x.g, .int .i64 x.m] 48)).drew := hA.drew
              have HXW : Hid ((wr.alloc (.cells #[.int .i64 x.t, .int .u32 x.a, .int .i64 x.l, .int .i64 x.i, .int .u32 x.g, .int .i64 x.m] 48)).drew.heap[wr.heap.size]? = some (.cells #[.int .i64 x.t, .int .u32 x.a, .int .i64 x.l, .int .i64 x.i, .int .u32 x.g, .int .i64 x.m] 48 (0, 0))) := heap_new wr _
              generalize (wr.alloc (.cells #[.int .i64 x.t, .int .u32 x.a, .int .i64 x.l, .int .i64 x.i, .int .u32 x.g, .int .i64 x.m] 48)).drew = W at *
              iterate 35 (refine wpE_read (v := ?_) rfl (by rfl) ?_ ?_; rotate_left; (focus (intro w' hx; go_simp; first | done | with_reducible rfl)); simp only [Act.put, List.setIfInBounds_toArray, List.set_cons_zero, List.set_cons_succ])
              refine wpE_done ?_
              obtain ⟨s0, s1, s2, s3, s4, s5⟩ := box_rtE HXW.out
              have y1 := s1 _ (Ext.refl _)
              have y2 := s2 _ (Ext.refl _)
              clear s0 s1 s2 s3 s4 s5 x0 x1 x2 v0
              cases o with
              | none =>
                go_wp2_with (go_at_call 79; refine (kB _ hWd).mono ?_; rintro e w3 ⟨rfl, hx3⟩)
                go_roundg (L.length - ((j + 1) + 1))
                case measure => omega
                case rel => exact ⟨_, (j + 1) + 1, rfl, by go_num, by omega, Nat.le_refl _, hWd.trans (hx3.trans ((Ext.refl w3).alloc _)), (by show OwnR _ _ _ _; rw [hact]; simpa using HO.out.ext (hWo.trans (hx3.trans ((Ext.refl w3).alloc _))) : OwnR _ w.heap.size (.slice pv ln cv) (actN L t U ((j + 1) + 1)))⟩
              | some z =>
                go_wp2_with (first
                  | (go_at_call 79; refine (kB _ hWd).mono ?_; rintro e w3 ⟨rfl, hx3⟩; obtain ⟨z0, z1, z2, z3, z4, z5⟩ := box_rtE (heap_new w3 (.cells #[.int .i64 (theR (some z)).t, .int .u32 (theR (some z)).a, .int .i64 (theR (some z)).l, .int .i64 (theR (some z)).i, .int .u32 (theR (some z)).g, .int .i64 (theR (some z)).m] 48)); have f0 := z0 _ (Ext.refl _); have f1 := z1 _ (Ext.refl _); have f2 := z2 _ (Ext.refl _); have f3 := z3 _ (Ext.refl _); have f4 := z4 _ (Ext.refl _); have f5 := z5 _ (Ext.refl _); clear z0 z1 z2 z3 z4 z5; have TB : Hid _ := two_boxes w3 #[.int .i64 (theR (some z)).t, .int .u32 (theR (some z)).a, .int .i64 (theR (some z)).l, .int .i64 (theR (some z)).i, .int .u32 (theR (some z)).g, .int .i64 (theR (some z)).m] #[.int .i64 (theR (some z)).t, .int .u32 (theR (some z)).a, .int .i64 (theR (some z)).l, .int .i64 (theR (some z)).i, .int .u32 (theR (some z)).g, .int .i64 (theR (some z)).m] 48; have HX5 : Hid (Ext wr ((w3.alloc (.cells #[.int .i64 (theR (some z)).t, .int .u32 (theR (some z)).a, .int .i64 (theR (some z)).l, .int .i64 (theR (some z)).i, .int .u32 (theR (some z)).g, .int .i64 (theR (some z)).m] 48)).alloc (.cells #[.int .i64 (theR (some z)).t, .int .u32 (theR (some z)).a, .int .i64 (theR (some z)).l, .int .i64 (theR (some z)).i, .int .u32 (theR (some z)).g, .int .i64 (theR (some z)).m] 48))) := hWo.trans (hx3.trans TB.out.1))
                  | (at_builtin; refine wpList_want rfl (fun K hK => wp_app_rt (.tmp 73) (.tmp 75) rfl w.heap.size (.slice pv ln cv) (actN L t U (j + 1)) [z] rfl (HO.out.ext HX5.out) (some ⟨w3.heap.size + 1, 0, none⟩) 1 1 rfl (rd_lit TB.out.2.2) (by rw [HLN.out]; omega) (hx.trans HX5.out).size ?_); intro v6 w6 ho6 hg6 hat6; have HO6 : Hid (OwnR w6 w.heap.size v6 (actN L t U (j + 1) ++ [z])) := ho6; have hx6 : Ext w w6 := Ext.app (hx.trans HX5.out) (HO.out.ext HX5.out) hg6; refine hK _ _ ?_; clear hK K ho6 hg6 hat6))
                go_roundg (L.length - ((j + 1) + 1))
                case measure => omega
                case rel => exact ⟨_, (j + 1) + 1, rfl, by go_num, by omega, Nat.le_refl _, hx6, (by show OwnR _ _ _ _; rw [hact]; exact HO6.out : OwnR w6 w.heap.size v6 (actN L t U ((j + 1) + 1)))⟩
          · have h2a : (y.t == t) = false := by simpa using h2
            have hf : firstB L t (j + 1) = true := by
              have hs : selB t x.a x.l y = false := by
                cases e : selB t x.a x.l y
                · rfl
                · exact absurd ((selB_iff _ _ _ _).1 e).1 h2
              unfold firstB; rw [hxk]; simp [hyk, hs, h1]
            have hact := hact1 hf
            generalize bestO L t x.a x.l U = o at *
            clear hact1 hact0 hf h1 hxk hyk hdd
            go_wp2_with fail
            refine wp_region_eager [(0, false), (1, false), (2, false), (3, false), (4, false), (5, false), (6, false), (7, false), (8, false), (9, false), (10, false), (11, false), (12, false), (13, false), (14, false), (15, false), (16, false), (17, false), (18, false), (19, false), (20, false), (21, false), (22, false), (23, false), (24, false), (25, false), (26, false), (27, false), (28, false), (29, false), (30, false), (31, false), (32, false), (33, false), (34, false)] (by kernel_rfl) (by kernel_rfl) rfl (by kernel_rfl) (fun _ _ _ _ _ h => h) ?_
            have hWd : Ext w (wr.alloc (.cells #[.int .i64 x.t, .int .u32 x.a, .int .i64 x.l, .int .i64 x.i, .int .u32 x.g, .int .i64 x.m] 48)).drew := (hx.trans hA).drew
            have hWo : Ext wr (wr.alloc (.cells #[.int .i64 x.t, .int .u32 x.a, .int .i64 x.l, .int .i64 x.i, .int .u32 x.g, .int .i64 x.m] 48)).drew := hA.drew
            have HXW : Hid ((wr.alloc (.cells #[.int .i64 x.t, .int .u32 x.a, .int .i64 x.l, .int .i64 x.i, .int .u32 x.g, .int .i64 x.m] 48)).drew.heap[wr.heap.size]? = some (.cells #[.int .i64 x.t, .int .u32 x.a, .int .i64 x.l, .int .i64 x.i, .int .u32 x.g, .int .i64 x.m] 48 (0, 0))) := heap_new wr _
            generalize (wr.alloc (.cells #[.int .i64 x.t, .int .u32 x.a, .int .i64 x.l, .int .i64 x.i, .int .u32 x.g, .int .i64 x.m] 48)).drew = W at *
            iterate 21 (refine wpE_read (v := ?_) rfl (by rfl) ?_ ?_; rotate_left; (focus (intro w' hx; go_simp; first | done | with_reducible rfl)); simp only [Act.put, List.setIfInBounds_toArray, List.set_cons_zero, List.set_cons_succ])
            iterate 12 (rw [wpE_skip_eq _ rfl (by rfl)]; simp only [Act.put, List.setIfInBounds_toArray, List.set_cons_zero, List.set_cons_succ])
            iterate 2 (refine wpE_read (v := ?_) rfl (by rfl) ?_ ?_; rotate_left; (focus (intro w' hx; go_simp; first | done | with_reducible rfl)); simp only [Act.put, List.setIfInBounds_toArray, List.set_cons_zero, List.set_cons_succ])
            refine wpE_done ?_
            obtain ⟨s0, s1, s2, s3, s4, s5⟩ := box_rtE HXW.out
            have y1 := s1 _ (Ext.refl _)
            have y2 := s2 _ (Ext.refl _)
            clear s0 s1 s2 s3 s4 s5 x0 x1 x2 v0
            cases o with
            | none =>
              go_wp2_with (go_at_call 79; refine (kB _ hWd).mono ?_; rintro e w3 ⟨rfl, hx3⟩)
              go_roundg (L.length - ((j + 1) + 1))
              case measure => omega
              case rel => exact ⟨_, (j + 1) + 1, rfl, by go_num, by omega, Nat.le_refl _, hWd.trans (hx3.trans ((Ext.refl w3).alloc _)), (by show OwnR _ _ _ _; rw [hact]; simpa using HO.out.ext (hWo.trans (hx3.trans ((Ext.refl w3).alloc _))) : OwnR _ w.heap.size (.slice pv ln cv) (actN L t U ((j + 1) + 1)))⟩
            | some z =>
              go_wp2_with (first
                | (go_at_call 79; refine (kB _ hWd).mono ?_; rintro e w3 ⟨rfl, hx3⟩; obtain ⟨z0, z1, z2, z3, z4, z5⟩ := box_rtE (heap_new w3 (.cells #[.int .i64 (theR (some z)).t, .int .u32 (theR (some z)).a, .int .i64 (theR (some z)).l, .int .i64 (theR (some z)).i, .int .u32 (theR (some z)).g, .int .i64 (theR (some z)).m] 48)); have f0 := z0 _ (Ext.refl _); have f1 := z1 _ (Ext.refl _); have f2 := z2 _ (Ext.refl _); have f3 := z3 _ (Ext.refl _); have f4 := z4 _ (Ext.refl _); have f5 := z5 _ (Ext.refl _); clear z0 z1 z2 z3 z4 z5; have TB : Hid _ := two_boxes w3 #[.int .i64 (theR (some z)).t, .int .u32 (theR (some z)).a, .int .i64 (theR (some z)).l, .int .i64 (theR (some z)).i, .int .u32 (theR (some z)).g, .int .i64 (theR (some z)).m] #[.int .i64 (theR (some z)).t, .int .u32 (theR (some z)).a, .int .i64 (theR (some z)).l, .int .i64 (theR (some z)).i, .int .u32 (theR (some z)).g, .int .i64 (theR (some z)).m] 48; have HX5 : Hid (Ext wr ((w3.alloc (.cells #[.int .i64 (theR (some z)).t, .int .u32 (theR (some z)).a, .int .i64 (theR (some z)).l, .int .i64 (theR (some z)).i, .int .u32 (theR (some z)).g, .int .i64 (theR (some z)).m] 48)).alloc (.cells #[.int .i64 (theR (some z)).t, .int .u32 (theR (some z)).a, .int .i64 (theR (some z)).l, .int .i64 (theR (some z)).i, .int .u32 (theR (some z)).g, .int .i64 (theR (some z)).m] 48))) := hWo.trans (hx3.trans TB.out.1))
                | (at_builtin; refine wpList_want rfl (fun K hK => wp_app_rt (.tmp 73) (.tmp 75) rfl w.heap.size (.slice pv ln cv) (actN L t U (j + 1)) [z] rfl (HO.out.ext HX5.out) (some ⟨w3.heap.size + 1, 0, none⟩) 1 1 rfl (rd_lit TB.out.2.2) (by rw [HLN.out]; omega) (hx.trans HX5.out).size ?_); intro v6 w6 ho6 hg6 hat6; have HO6 : Hid (OwnR w6 w.heap.size v6 (actN L t U (j + 1) ++ [z])) := ho6; have hx6 : Ext w w6 := Ext.app (hx.trans HX5.out) (HO.out.ext HX5.out) hg6; refine hK _ _ ?_; clear hK K ho6 hg6 hat6))
              go_roundg (L.length - ((j + 1) + 1))
              case measure => omega
              case rel => exact ⟨_, (j + 1) + 1, rfl, by go_num, by omega, Nat.le_refl _, hx6, (by show OwnR _ _ _ _; rw [hact]; exact HO6.out : OwnR w6 w.heap.size v6 (actN L t U ((j + 1) + 1)))⟩
      · have h1a : (x.t == t) = false := by simpa using h1
        have h1b : (x.t != t) = true := by simpa using h1
        have hf : firstB L t k = false := by unfold firstB; rw [hxk]; simp [h1]
        have hact := hact0 hf
        clear hact1 hact0 hf hxk hdd kB
        go_wp2_with fail
        refine wp_region_eager [(0, false), (1, false), (2, false), (3, false), (4, false), (5, false), (6, false), (7, false), (8, false), (9, false), (10, false), (11, false), (12, false), (13, false), (14, false), (15, false), (16, false), (17, false), (18, false), (19, false), (20, false), (21, false), (22, false), (23, false), (24, false), (25, false), (26, false), (27, false), (28, false), (29, false), (30, false), (31, false), (32, false), (33, false), (34, false)] (by kernel_rfl) (by kernel_rfl) rfl (by kernel_rfl) (fun _ _ _ _ _ h => h) ?_
        have hWd : Ext w (wr.alloc (.cells #[.int .i64 x.t, .int .u32 x.a, .int .i64 x.l, .int .i64 x.i, .int .u32 x.g, .int .i64 x.m] 48)).drew := (hx.trans hA).drew
        have hWo : Ext wr (wr.alloc (.cells #[.int .i64 x.t, .int .u32 x.a, .int .i64 x.l, .int .i64 x.i, .int .u32 x.g, .int .i64 x.m] 48)).drew := hA.drew
        have HXW : Hid ((wr.alloc (.cells #[.int .i64 x.t, .int .u32 x.a, .int .i64 x.l, .int .i64 x.i, .int .u32 x.g, .int .i64 x.m] 48)).drew.heap[wr.heap.size]? = some (.cells #[.int .i64 x.t, .int .u32 x.a, .int .i64 x.l, .int .i64 x.i, .int .u32 x.g, .int .i64 x.m] 48 (0, 0))) := heap_new wr _
        generalize (wr.alloc (.cells #[.int .i64 x.t, .int .u32 x.a, .int .i64 x.l, .int .i64 x.i, .int .u32 x.g, .int .i64 x.m] 48)).drew = W at *
        iterate 5 (refine wpE_read (v := ?_) rfl (by rfl) ?_ ?_; rotate_left; (focus (intro w' hx; go_simp; first | done | with_reducible rfl)); simp only [Act.put, List.setIfInBounds_toArray, List.set_cons_zero, List.set_cons_succ])
        iterate 29 (rw [wpE_skip_eq _ rfl (by rfl)]; simp only [Act.put, List.setIfInBounds_toArray, List.set_cons_zero, List.set_cons_succ])
        iterate 1 (refine wpE_read (v := ?_) rfl (by rfl) ?_ ?_; rotate_left; (focus (intro w' hx; go_simp; first | done | with_reducible rfl)); simp only [Act.put, List.setIfInBounds_toArray, List.set_cons_zero, List.set_cons_succ])
        refine wpE_done ?_
        go_wp2_with fail
        go_roundg (L.length - (k + 1))
        case measure => omega
        case rel => exact ⟨_, k + 1, rfl, by go_num, by omega, Nat.le_refl _, hWd, (by show OwnR _ _ _ _; rw [hact]; exact HO.out.ext hWo : OwnR W w.heap.size (.slice pv ln cv) (actN L t U (k + 1)))⟩
    · obtain rfl : k = L.length := by omega
      go_wp2_with fail
      go_ret
      exact ⟨_, rfl, HO.out, hx⟩
end Go.Proofs.YtkfhkhgiojpfoaaGreat.Rb

namespace Go.Proofs.YtkfhkhgiojpfoaaGreat

open Go.ChangeShapes Go.WideShapes Go.ChangeAt Go.RowKit

set_option linter.unusedVariables false

section

variable {H : Type} {enc : TypeId × Value → H} {P : Program} {w : World} {base : Nat} {spare : Nat → Bool} {held : Bool}

/-- A struct's field, read by itself. -/
theorem field_at {t : TypeId} {fs : Array Field} {fuel : Nat} {cs : List Value} {x : DataW H × List MemPlace} (ht : P.underlying t = some (.struct fs)) (h : DataW.trod enc P w base spare held fuel t cs = some x)
    (i : Nat) {f : Field} (hf : fs[i]? = some f) (c : Nat) (hc : P.cellsOf f.type = c) : ∃ n y, DataW.trod enc P w base spare held n f.type ((cs.drop f.offset).take c) = some y := by
  obtain ⟨xs, n, _, _, _, hlen, hF⟩ := DataW.trod_struct ht h
  have h1 := hF i f hf
  have hi : i < xs.length := by rw [hlen]; exact (Array.getElem?_eq_some_iff.1 hf).1
  rw [hc, List.getElem?_eq_getElem hi] at h1
  exact ⟨n, _, h1⟩

/-- A slice whose elements are not looked at. -/
theorem open_sliceA {t e : TypeId} {fuel : Nat} {cs : List Value} {x : DataW H × List MemPlace} (ht : P.underlying t = some (.slice e)) (h : DataW.trod enc P w base spare held fuel t cs = some x) : ∃ a len cap, cs = [.slice a len cap] := by
  rcases DataW.trod_slice ht h with ⟨rfl, _⟩ | ⟨a, len, cap, elems, rest, n, _, rfl, _⟩
  · exact ⟨none, 0, 0, rfl⟩
  · exact ⟨some a, len, cap, rfl⟩

end
end Go.Proofs.YtkfhkhgiojpfoaaGreat

namespace Go.Proofs.YtkfhkhgiojpfoaaGreat

open Go.ChangeShapes Go.WideShapes Go.ChangeAt Go.RowKit

set_option linter.unusedVariables false

/-- The slice (a, len, cap) reads as the elements zs, each of k cells f z. -/
structure IsRowG {α : Type} (k : Nat) (f : α → List Value) (ok : α → Prop) (w : World) (a : Option Addr) (len cap : Nat) (zs : List α) : Prop where
  length : zs.length = len
  le : len ≤ cap
  room : cap ≤ maxLen
  nil : a = none → cap = 0
  ok : ∀ z ∈ zs, ok z
  cells : len = 0 ∨ ∃ b off, a = some ⟨b, off, none⟩ ∧ ∀ (i : Nat) (z : α), zs[i]? = some z → ∀ j, j < k → w.cell? ⟨b, off + (i * k + j), none⟩ = (f z)[j]?

theorem IsRowG.later {α : Type} {k : Nat} {f : α → List Value} {ok : α → Prop} {w w' : World} {a : Option Addr} {len cap : Nat} {zs : List α} (h : IsRowG k f ok w a len cap zs) (hk : ∀ z, (f z).length = k) (hb : Below w.heap.size w w') : IsRowG k f ok w' a len cap zs := by
  refine ⟨h.length, h.le, h.room, h.nil, h.ok, ?_⟩
  rcases h.cells with h0 | ⟨b, off, rfl, hc⟩
  · exact .inl h0
  · refine .inr ⟨b, off, rfl, fun i z hz j hj => ?_⟩
    have h1 := hc i z hz j hj
    have hj' : j < (f z).length := by rw [hk z]; exact hj
    rw [List.getElem?_eq_getElem hj'] at h1 ⊢
    rw [hb.cell (p := ⟨b, off + (i * k + j), none⟩) (block_lt h1)]
    exact h1

section

variable {H : Type} {enc : TypeId × Value → H} {P : Program} {w : World} {base : Nat} {spare : Nat → Bool} {held : Bool}

theorem choose_list {α : Type} (Q : Nat → α → Prop) : ∀ n, (∀ i, i < n → ∃ z, Q i z) → ∃ zs : List α, zs.length = n ∧ ∀ i z, zs[i]? = some z → Q i z
  | 0, _ => ⟨[], rfl, fun i z h => by simp at h⟩
  | n + 1, h => by
    obtain ⟨zs, hl, hz⟩ := choose_list Q n (fun i hi => h i (by omega))
    obtain ⟨z, hq⟩ := h n (by omega)
    refine ⟨zs ++ [z], by simp [hl], fun i y hy => ?_⟩
    by_cases hi : i < n
    · rw [List.getElem?_append_left (by omega)] at hy
      exact hz i y hy
    · rw [List.getElem?_append_right (by omega)] at hy
      have hi' : i = n := by
        have := (List.getElem?_eq_some_iff.1 hy).1
        simp at this
        omega
      subst hi'
      simp [hl] at hy
      subst hy
      exact hq

/-- A slice of structs, read; e1 says how one struct reads. -/
theorem open_rowG {α : Type} {t e : TypeId} {fuel : Nat} {cs : List Value} {x : DataW H × List MemPlace} (k : Nat) (f : α → List Value) (ok : α → Prop) (hk0 : 0 < k) (hk : ∀ z, (f z).length = k) (ht : P.underlying t = some (.slice e)) (hc : P.cellsOf e = k)
    (e1 : ∀ n cs y, DataW.trod enc P w base spare held n e cs = some y → ∃ z, cs = f z ∧ ok z) (h : DataW.trod enc P w base spare held fuel t cs = some x) : ∃ a len cap zs, cs = [.slice a len cap] ∧ IsRowG k f ok w a len cap zs := by
  rcases DataW.trod_slice ht h with ⟨rfl, _⟩ | ⟨a, len, cap, elems, rest, n, _, rfl, _, hb, hl, hm, hlen, hel, _, _⟩
  · exact ⟨none, 0, 0, [], rfl, ⟨rfl, Nat.le_refl _, by unfold maxLen; omega, fun _ => rfl, (by intro z hz; simp at hz), .inl rfl⟩⟩
  · rw [hc] at hel
    have each : ∀ i, i < len → ∃ z, ok z ∧ ∀ j, j < k → w.cell? ((a.add (i * k)).add j) = (f z)[j]? := fun i hi => by
      have h1 := hel i hi
      rw [List.getElem?_eq_getElem (by omega)] at h1
      obtain ⟨cs', h2, h3⟩ := Option.bind_eq_some_iff.1 h1
      obtain ⟨z, rfl, hz⟩ := e1 _ _ _ h3
      unfold World.cells? at h2
      by_cases hbb : base ≤ (a.add (i * k)).block
      · rw [if_pos hbb] at h2
        refine ⟨z, hz, fun j hj => ?_⟩
        exact mapM_some_get h2 j j (by simp [hj])
      · rw [if_neg hbb] at h2; cases h2
    obtain ⟨zs, hzl, hz⟩ := choose_list (fun i z => ok z ∧ ∀ j, j < k → w.cell? ((a.add (i * k)).add j) = (f z)[j]?) len each
    refine ⟨some a, len, cap, zs, rfl, ⟨hzl, hl, hm, (by intro h; cases h), ?_, ?_⟩⟩
    · intro z hzm
      obtain ⟨i, hi, rfl⟩ := List.getElem_of_mem hzm
      exact (hz i _ (List.getElem?_eq_getElem hi)).1
    · by_cases h0 : len = 0
      · exact .inl h0
      · obtain ⟨b, off, spot⟩ := a
        have hz0 := (hz 0 _ (List.getElem?_eq_getElem (by omega))).2 0 hk0
        rw [List.getElem?_eq_getElem (by rw [hk]; exact hk0)] at hz0
        have hspot : spot = none := by
          have := World.cell?_spot hz0
          simpa [Addr.add] using this
        subst hspot
        refine .inr ⟨b, off, rfl, fun i z hiz j hj => ?_⟩
        have h1 := (hz i z hiz).2 j hj
        rw [← h1]
        congr 1
        by_cases hi0 : i * k = 0
        · by_cases hj0 : j = 0
          · simp [Addr.add, hi0, hj0]
          · simp [Addr.add, hi0, hj0]
        · by_cases hj0 : j = 0
          · simp [Addr.add, hi0, hj0]
          · simp [Addr.add, hi0, hj0, Nat.add_assoc]

end
end Go.Proofs.YtkfhkhgiojpfoaaGreat

namespace Go.Proofs.YtkfhkhgiojpfoaaGreat.Rb

set_option maxRecDepth 100000

open Go.RowKit Go.Proofs.YtkfhkhgiojpfoaaGreat

set_option linter.unusedVariables false

set_option linter.unusedSimpArgs false

theorem ExtS.toN {F : List Nat} {N : Nat} {A B : World} (h : ExtS F A B) (hF : ∀ y ∈ F, N ≤ y) : ExtN N A B :=
  ⟨h.os, h.tape, h.output, h.size, fun k hk hx => h.block k hx (fun e => by have := hF k e; omega)⟩

def eqB (x y : Rt) : Bool := x.t == y.t && ((x.a == y.a && x.l == y.l) && (x.i == y.i && (x.g == y.g && x.m == y.m)))

theorem eqB_refl (x : Rt) : eqB x x = true := by simp [eqB]

theorem eqB_iff (x y : Rt) : eqB x y = true ↔ x = y := by
  obtain ⟨a0, a1, a2, a3, a4, a5⟩ := x
  obtain ⟨b0, b1, b2, b3, b4, b5⟩ := y
  simp [eqB, and_assoc]

theorem rt_guard : Tryz.prog.eqGuardType Tryz.prog.depth 48 = false := by kernel_rfl

theorem equalIn_px (a n b m : Int) (w : World) : (Op.equalIn 9999 42 (.agg #[.int .u32 a, .int .i64 n]) (.agg #[.int .u32 b, .int .i64 m])).run Tryz.prog w = .ok (a == b && n == m) w := by
  rw [run_equalIn_agg w 9998 42 _ _ (by kernel_rfl) (by kernel_rfl)]
  have hf : (Tryz.prog.fieldsOf 42).toList.map (fun f => (f.name == "_", f.type, f.offset)) = [(false, 23, 0), (false, 3, 1)] := by kernel_rfl
  generalize (Tryz.prog.fieldsOf 42).toList = l at hf
  rcases l with _ | ⟨f0, _ | ⟨f1, _ | ⟨f2, r⟩⟩⟩
  · simp at hf
  · simp at hf
  · simp only [List.map_cons, List.map_nil, List.cons.injEq, Prod.mk.injEq, and_true, beq_eq_false_iff_ne, ne_eq] at hf
    obtain ⟨⟨p0, t0, o0⟩, p1, t1, o1⟩ := hf
    simp only [Op.eqFields, ne_eq, p0, p1, not_false_eq_true, if_true, t0, t1, o0, o1]
    go_simp
    by_cases h1 : a = b <;> by_cases h2 : n = m <;> simp [h1, h2]
  · simp at hf

theorem equalIn_rt (x y : Rt) (w : World) : (Op.equalIn 10000 48 (.agg #[.int .i64 x.t, .int .u32 x.a, .int .i64 x.l, .int .i64 x.i, .int .u32 x.g, .int .i64 x.m]) (.agg #[.int .i64 y.t, .int .u32 y.a, .int .i64 y.l, .int .i64 y.i, .int .u32 y.g, .int .i64 y.m])).run Tryz.prog w = .ok (eqB x y) w := by
  have ep := fun w => equalIn_px x.a x.l y.a y.l w
  unfold eqB
  rw [run_equalIn_agg w 9999 48 _ _ (by kernel_rfl) (by kernel_rfl)]
  have hf : (Tryz.prog.fieldsOf 48).toList.map (fun f => (f.name == "_", f.type, f.offset)) = [(false, 3, 0), (false, 42, 1), (false, 3, 3), (false, 23, 4), (false, 3, 5)] := by kernel_rfl
  generalize (Tryz.prog.fieldsOf 48).toList = l at hf
  rcases l with _ | ⟨f0, _ | ⟨f1, _ | ⟨f2, _ | ⟨f3, _ | ⟨f4, _ | ⟨f5, r⟩⟩⟩⟩⟩⟩
  · simp at hf
  · simp at hf
  · simp at hf
  · simp at hf
  · simp at hf
  · simp only [List.map_cons, List.map_nil, List.cons.injEq, Prod.mk.injEq, and_true, beq_eq_false_iff_ne, ne_eq] at hf
    obtain ⟨⟨p0, t0, o0⟩, ⟨p1, t1, o1⟩, ⟨p2, t2, o2⟩, ⟨p3, t3, o3⟩, p4, t4, o4⟩ := hf
    simp only [Op.eqFields, ne_eq, p0, p1, p2, p3, p4, not_false_eq_true, if_true, t0, t1, t2, t3, t4, o0, o1, o2, o3, o4]
    generalize (x.a == y.a && x.l == y.l) = b at *
    go_simp
    cases b <;> by_cases h0 : x.t = y.t <;> by_cases h2 : x.i = y.i <;> by_cases h3 : x.g = y.g <;> by_cases h4 : x.m = y.m <;> simp [h0, h2, h3, h4]
  · simp at hf

theorem neq_rt (x y : Rt) (w : World) : (binOp .neq 48 (.agg #[.int .i64 x.t, .int .u32 x.a, .int .i64 x.l, .int .i64 x.i, .int .u32 x.g, .int .i64 x.m]) (.agg #[.int .i64 y.t, .int .u32 y.a, .int .i64 y.l, .int .i64 y.i, .int .u32 y.g, .int .i64 y.m])).run Tryz.prog w = .ok (.bool (!eqB x y)) w := by
  rw [run_neq_struct, equalIn_rt]; rfl

/-- A Rib that is changed, seen from where it is the call's own. -/
theorem RibAns.own {ty : TypeId} {w0 w w' : World} {rb : Nat} {F : List Nat} {L' : List Rt} (h : RibAns ty w rb F L' w') (hx : Ext w0 w) (hF : ∀ x ∈ F, w0.heap.size ≤ x) : ∃ F', RibAt ty w' rb L' F' ∧ Ext w0 w' ∧ (∀ x ∈ F', w0.heap.size ≤ x) ∧ ExtS F w w' ∧ ∀ x ∈ F', x ∈ F ∨ w.heap.size ≤ x := by
  obtain ⟨F', h1, h2, h3⟩ := h
  refine ⟨F', h1, ?_, fun x hx' => ?_, h2, h3⟩
  · exact ExtS.ext (ExtS.then (hx.toS F) h2 fun b hb => .inl hb) hF
  · rcases h3 x hx' with h | h
    · exact hF x h
    · exact Nat.le_trans hx.size h

def r1 : Rt := ⟨0, 0, 0, 0, 0, 5⟩

def r2 : Rt := ⟨0, 0, 0, 1, 0, 3⟩
end Go.Proofs.YtkfhkhgiojpfoaaGreat.Rb

namespace Go.Proofs.YtkfhkhgiojpfoaaGreat.Rb

set_option maxRecDepth 100000

open Go.RowKit Go.Proofs.YtkfhkhgiojpfoaaGreat

set_option linter.unusedVariables false

set_option linter.unusedSimpArgs false

theorem rtOk_of {t a l i g m : Int} (h0 : (Lit.int .i64 t).wf = true) (h1 : (Lit.int .u32 a).wf = true) (h2 : (Lit.int .i64 l).wf = true) (h3 : (Lit.int .i64 i).wf = true) (h4 : (Lit.int .u32 g).wf = true) (h5 : (Lit.int .i64 m).wf = true) : RtOk ⟨t, a, l, i, g, m⟩ := by
  have b0 := bounds_i64 h0
  have b1 := bounds_u32 h1
  have b2 := bounds_i64 h2
  have b3 := bounds_i64 h3
  have b4 := bounds_u32 h4
  have b5 := bounds_i64 h5
  exact ⟨b0.1, b0.2, b1.1, b1.2, b2.1, b2.2, b3.1, b3.2, b4.1, b4.2, b5.1, b5.2⟩

/-- A Rib of L and the document's of M, in memory of the call's own, apart. -/
structure Two (w wr : World) (rb xb : Nat) (L M : List Rt) (F G : List Nat) : Prop where
  b : RibAt 98 wr rb L F
  x : RibAt 51 wr xb M G
  apart : ∀ y ∈ F, y ∉ G
  f : ∀ y ∈ F, w.heap.size ≤ y
  g : ∀ y ∈ G, w.heap.size ≤ y
  ext : Ext w wr

theorem Two.later {w wr w' : World} {rb xb : Nat} {L M : List Rt} {F G : List Nat} (h : Two w wr rb xb L M F G) (hx : Ext wr w') : Two w w' rb xb L M F G :=
  ⟨h.b.ext hx, h.x.ext hx, h.apart, h.f, h.g, h.ext.trans hx⟩

theorem Two.stepB {w wr w' : World} {rb xb : Nat} {L M L' : List Rt} {F G : List Nat} (h : Two w wr rb xb L M F G) (ha : RibAns 98 wr rb F L' w') : ∃ F', Two w w' rb xb L' M F' G ∧ ExtN w.heap.size wr w' := by
  obtain ⟨F', h1, h2, h3, h4, h5⟩ := ha.own h.ext h.f
  refine ⟨F', ⟨h1, h.x.later h4 fun y hy hf => h.apart y hf hy, fun y hy hg => ?_, h3, h.g, h2⟩, ExtS.toN h4 h.f⟩
  rcases h5 y hy with h6 | h6
  · exact h.apart y h6 hg
  · have := h.x.lt y hg; omega

theorem Two.stepX {w wr w' : World} {rb xb : Nat} {L M M' : List Rt} {F G : List Nat} (h : Two w wr rb xb L M F G) (ha : RibAns 51 wr xb G M' w') : ∃ G', Two w w' rb xb L M' F G' ∧ ExtN w.heap.size wr w' := by
  obtain ⟨G', h1, h2, h3, h4, h5⟩ := ha.own h.ext h.g
  refine ⟨G', ⟨h.b.later h4 fun y hy hg => h.apart y hy hg, h1, fun y hy hg => ?_, h.f, h3, h2⟩, ExtS.toN h4 h.g⟩
  rcases h5 y hg with h6 | h6
  · exact h.apart y hy h6
  · have := h.b.lt y hy; omega
end Go.Proofs.YtkfhkhgiojpfoaaGreat.Rb

namespace Go.Proofs.YtkfhkhgiojpfoaaGreat.Rb

open Go.Proofs.YtkfhkhgiojpfoaaGreat

set_option linter.unusedVariables false

set_option linter.unusedSimpArgs false

theorem act_best {L : List Rt} {t : Int} {U : List Bool} : ∀ {k : Nat} {z : Rt}, z ∈ actN L t U k → bestO L t z.a z.l U = some z ∧ ∃ (j : Nat) (r : Rt), j < k ∧ L[j]? = some r ∧ r.t = t ∧ r.a = z.a ∧ r.l = z.l
  | 0, z, h => by simp [actN] at h
  | k + 1, z, h => by
    unfold actN at h
    rcases List.mem_append.1 h with h | h
    · obtain ⟨h1, j, r, h2, h3⟩ := act_best h
      exact ⟨h1, j, r, by omega, h3⟩
    · split at h
      · rename_i hf
        cases hx : L[k]? with
        | none => rw [hx] at h; simp at h
        | some r =>
          rw [hx] at h
          simp only [Option.mem_toList] at h
          have hb : bestO L t r.a r.l U = some z := h
          obtain ⟨h1, h2⟩ := bestL_is hb
          obtain ⟨_, h4⟩ := List.mem_filter.1 h1
          obtain ⟨e1, e2, e3⟩ := (selB_iff _ _ _ _).1 h4
          have ht : r.t = t := by
            unfold firstB at hf
            rw [hx] at hf
            simp only [Bool.and_eq_true, decide_eq_true_eq] at hf
            exact hf.1
          rw [e2, e3]
          exact ⟨hb, k, r, by omega, hx, ht, rfl, rfl⟩
      · simp at h

def PLt (x y : Rt) : Prop := x.a < y.a ∨ (x.a = y.a ∧ x.l < y.l)

theorem first_lt {L : List Rt} {t : Int} (hs : Srt L) {j k : Nat} {r x : Rt} (hjk : j < k) (hr : L[j]? = some r) (hx : L[k]? = some x) (hrt : r.t = t) (hf : firstB L t k = true) : PLt r x := by
  have hxt : x.t = t := by
    unfold firstB at hf
    rw [hx] at hf
    simp only [Bool.and_eq_true, decide_eq_true_eq] at hf
    exact hf.1
  obtain ⟨i, rfl⟩ : ∃ i, k = i + 1 := ⟨k - 1, by omega⟩
  have hi : i < L.length := by have := (List.getElem?_eq_some_iff.1 hx).1; omega
  obtain ⟨q, hq⟩ : ∃ q, L[i]? = some q := ⟨_, List.getElem?_eq_getElem hi⟩
  have hsel : selB t x.a x.l q = false := by
    unfold firstB at hf
    rw [hx] at hf
    simp only [hq, Bool.and_eq_true, Bool.not_eq_true'] at hf
    exact hf.2
  have h1 := hs.tab_le (show j ≤ i by omega) hr hq
  have h2 := hs.tab_le (Nat.le_succ i) hq hx
  have hqt : q.t = t := by omega
  have h3 := hs.get hq hx (Nat.lt_succ_self i)
  rw [ltB_iff] at h3
  have hn : ¬ (q.a = x.a ∧ q.l = x.l) := fun e => by
    rw [(selB_iff _ _ _ _).2 ⟨hqt, e.1, e.2⟩] at hsel
    cases hsel
  have h4 : r.a < q.a ∨ (r.a = q.a ∧ r.l ≤ q.l) := by
    rcases Nat.lt_or_ge j i with h | h
    · have h5 := hs.get hr hq h
      rw [ltB_iff] at h5
      unfold Lt5 at h5
      omega
    · obtain rfl : j = i := by omega
      rw [hr] at hq; cases hq; omega
  unfold Lt5 at h3
  unfold PLt
  omega

theorem act_sorted {L : List Rt} {t : Int} {U : List Bool} (hs : Srt L) : ∀ k, (actN L t U k).Pairwise PLt
  | 0 => by simp [actN]
  | k + 1 => by
    unfold actN
    refine List.pairwise_append.2 ⟨act_sorted hs k, ?_, ?_⟩
    · split
      · split
        · simp
        · rename_i r _
          cases bestO L t r.a r.l U <;> simp
      · simp
    · intro z hz y hy
      split at hy
      · rename_i hf
        cases hx : L[k]? with
        | none => rw [hx] at hy; simp at hy
        | some x =>
          rw [hx] at hy
          simp only [Option.mem_toList] at hy
          have hb : bestO L t x.a x.l U = some y := hy
          obtain ⟨h1, _⟩ := bestL_is hb
          obtain ⟨_, e2, e3⟩ := (selB_iff _ _ _ _).1 (List.mem_filter.1 h1).2
          obtain ⟨_, j, r, hj, hr, hrt, ha, hl⟩ := act_best hz
          have := first_lt hs hj hr hx hrt hf
          unfold PLt at *
          omega
      · simp at hy
end Go.Proofs.YtkfhkhgiojpfoaaGreat.Rb
