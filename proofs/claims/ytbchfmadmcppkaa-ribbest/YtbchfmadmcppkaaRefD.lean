/- The document's Active. -/
import Derived.Test.YtbchfmadmcppkaaRefC
namespace Go.Proofs.Ytbchfmadmcppkaa.Rb
set_option maxRecDepth 100000
open Go.RowKit Go.Proofs.Ytbchfmadmcppkaa
set_option linter.unusedVariables false
set_option linter.unusedSimpArgs false

theorem actN_skip {L : List Rt} {t : Int} {U : List Bool} {k : Nat} (h : firstB L t k = false) : actN L t U (k + 1) = actN L t U k := by
  conv => lhs; unfold actN
  rw [h]
  simp

theorem actN_take {L : List Rt} {t : Int} {U : List Bool} {k : Nat} {x : Rt} (h : firstB L t k = true) (hx : L[k]? = some x) : actN L t U (k + 1) = actN L t U k ++ (bestO L t x.a x.l U).toList := by
  conv => lhs; unfold actN
  rw [h, hx]
  simp

set_option maxHeartbeats 4000000 in
theorem refActive_any (xb : Nat) (L : List Rt) (F : List Nat) (t : Int) (q : Option Addr) (m d : Nat) (U : List Bool) (w : World) (h : RibAt 36 w xb L F) (hn : L.length ≤ 1000) (hU : Ups w q m U) :
    Calls Try.prog 20 #[.pointer (some ⟨xb, 0, none⟩), .int .i64 t, .slice q m d] w (RowNew w (actL L t U)) := by
  have HH : Hid (RibAt 36 w xb L F) := h
  obtain ⟨v, -, hX, hO⟩ := h
  obtain ⟨p, c, hv, hc1, -, hR⟩ := hO.slice
  subst hv
  have HX : Hid _ := hX
  have HR : Hid (Rd w p L.length c L) := hR
  have HU : Hid (Ups w q m U) := hU
  have vw : w.cell? ⟨xb, 0, none⟩ = some (.slice p L.length c) := by rw [heap_cell hX]; rfl
  clear hX hO hR hU
  unfold actL
  go_enter Try.func20, Try.ntmps20
  go_wp2_with fail
  clear vw
  go_loopg [7, 8] L.length (fun kx s7 s8 wr => ∃ (v : Value) (k : Nat), s7 = v ∧ s8 = .int .i64 k ∧ k ≤ L.length ∧ L.length - k ≤ kx ∧ Ext w wr ∧ Hid (OwnR wr w.heap.size v (actN L t U k)))
  case atStart => exact ⟨.slice none 0 0, 0, rfl, rfl, Nat.zero_le _, by omega, Ext.refl _, OwnR.nil _ _⟩
  case round =>
    obtain ⟨v, k, rfl, rfl, hkn, hkx, hx, HO⟩ := hrel
    have vr : wr.cell? ⟨xb, 0, none⟩ = some (.slice p L.length c) := by rw [heap_cell (hx.heap HX.out)]; rfl
    obtain ⟨pv, cv, hv, hv1, -, -⟩ := HO.out.slice
    subst hv
    have hal := actN_len L t U k
    generalize hln : (actN L t U k).length = ln at *
    have HLN : Hid _ := hln
    clear hln
    by_cases hlt : k < L.length
    · obtain ⟨x, hxk⟩ : ∃ x, L[k]? = some x := ⟨_, List.getElem?_eq_getElem hlt⟩
      obtain ⟨b, off, rfl, hb, g0, g1, g2, g3, g4, g5⟩ := (HR.out.ext hx).cell hxk
      have hA : Ext wr (wr.alloc (.cells #[.int .i64 x.t, .int .u32 x.a, .int .i64 x.l, .int .i64 x.i, .int .u32 x.g, .int .i64 x.m] 27)) := (Ext.refl wr).alloc _
      have hki : (k : Int) < (L.length : Int) := by omega
      have kB := fun w' (hx : Ext w w') => refBest_any xb L F t x.a x.l q m d U w' (HH.out.ext hx) hn (HU.out.ext hx)
      have hdd : Ext (wr.alloc (.cells #[.int .i64 x.t, .int .u32 x.a, .int .i64 x.l, .int .i64 x.i, .int .u32 x.g, .int .i64 x.m] 27)) (wr.alloc (.cells #[.int .i64 x.t, .int .u32 x.a, .int .i64 x.l, .int .i64 x.i, .int .u32 x.g, .int .i64 x.m] 27)).drew := (Ext.refl _).drew
      obtain ⟨a0, a1, a2, a3, a4, a5⟩ := box_rtE (heap_new wr (.cells #[.int .i64 x.t, .int .u32 x.a, .int .i64 x.l, .int .i64 x.i, .int .u32 x.g, .int .i64 x.m] 27))
      have x0 := fun w' h => a0 w' (hdd.trans h)
      have x1 := fun w' h => a1 w' (hdd.trans h)
      have x2 := fun w' h => a2 w' (hdd.trans h)
      have v0 : ∀ w', Ext (wr.alloc (.cells #[.int .i64 x.t, .int .u32 x.a, .int .i64 x.l, .int .i64 x.i, .int .u32 x.g, .int .i64 x.m] 27)).drew w' → w'.cell? ⟨xb, 0, none⟩ = some (.slice (some ⟨b, off, none⟩) L.length c) := fun w' h => by rw [heap_cell ((hx.trans (hA.trans (hdd.trans h))).heap HX.out)]; rfl
      clear a0 a1 a2 a3 a4 a5
      have hact1 := fun h => actN_take (U := U) (t := t) h hxk
      have hact0 := fun h => actN_skip (L := L) (U := U) (t := t) (k := k) h
      by_cases h1 : x.t = t
      · have h1a : (x.t == t) = true := by simpa using h1
        have h1b : (x.t != t) = false := by simp [h1]
        cases k with
        | zero =>
          have hf : firstB L t 0 = true := by unfold firstB; rw [hxk]; simp [h1]
          have hact := hact1 hf
          generalize bestO L t x.a x.l U = o at *
          have hk0 : (0 : Int) < (L.length : Int) := by omega
          simp only [Nat.zero_mul, Nat.add_zero] at g0 g1 g2 g3 g4 g5
          clear hact1 hact0 hf h1 hxk hdd
          go_wp2_with fail
          refine wp_region_eager [(0, false), (1, false), (2, false), (3, false), (4, false), (5, false), (6, false), (7, false), (8, false), (9, false), (10, false), (11, false), (12, false), (13, false), (14, false), (15, false), (16, false), (17, false), (18, false), (19, false), (20, false), (21, false), (22, false), (23, false), (24, false), (25, false), (26, false), (27, false), (28, false), (29, false), (30, false), (31, false), (32, false), (33, false), (34, false)] (by kernel_rfl) (by kernel_rfl) rfl (by kernel_rfl) (fun _ _ _ _ _ h => h) ?_
          have hWd : Ext w (wr.alloc (.cells #[.int .i64 x.t, .int .u32 x.a, .int .i64 x.l, .int .i64 x.i, .int .u32 x.g, .int .i64 x.m] 27)).drew := (hx.trans hA).drew
          have hWo : Ext wr (wr.alloc (.cells #[.int .i64 x.t, .int .u32 x.a, .int .i64 x.l, .int .i64 x.i, .int .u32 x.g, .int .i64 x.m] 27)).drew := hA.drew
          have HXW : Hid ((wr.alloc (.cells #[.int .i64 x.t, .int .u32 x.a, .int .i64 x.l, .int .i64 x.i, .int .u32 x.g, .int .i64 x.m] 27)).drew.heap[wr.heap.size]? = some (.cells #[.int .i64 x.t, .int .u32 x.a, .int .i64 x.l, .int .i64 x.i, .int .u32 x.g, .int .i64 x.m] 27 (0, 0))) := heap_new wr _
          generalize (wr.alloc (.cells #[.int .i64 x.t, .int .u32 x.a, .int .i64 x.l, .int .i64 x.i, .int .u32 x.g, .int .i64 x.m] 27)).drew = W at *
          iterate 8 (refine wpE_read (v := ?_) rfl (by rfl) ?_ ?_; rotate_left; (focus (intro w' hx; go_simp; first | done | with_reducible rfl)); simp only [Act.put, List.setIfInBounds_toArray, List.set_cons_zero, List.set_cons_succ])
          iterate 11 (rw [wpE_skip_eq _ rfl (by rfl)]; simp only [Act.put, List.setIfInBounds_toArray, List.set_cons_zero, List.set_cons_succ])
          iterate 2 (refine wpE_read (v := ?_) rfl (by rfl) ?_ ?_; rotate_left; (focus (intro w' hx; go_simp; first | done | with_reducible rfl)); simp only [Act.put, List.setIfInBounds_toArray, List.set_cons_zero, List.set_cons_succ])
          iterate 12 (rw [wpE_skip_eq _ rfl (by rfl)]; simp only [Act.put, List.setIfInBounds_toArray, List.set_cons_zero, List.set_cons_succ])
          iterate 2 (refine wpE_read (v := ?_) rfl (by rfl) ?_ ?_; rotate_left; (focus (intro w' hx; go_simp; first | done | with_reducible rfl)); simp only [Act.put, List.setIfInBounds_toArray, List.set_cons_zero, List.set_cons_succ])
          refine wpE_done ?_
          obtain ⟨s0, s1, s2, s3, s4, s5⟩ := box_rtE HXW.out
          have y1 := s1 _ (Ext.refl _)
          have y2 := s2 _ (Ext.refl _)
          clear s0 s1 s2 s3 s4 s5 x0 x1 x2 v0
          cases o with
          | none =>
            go_wp2_with (go_at_call 18; refine (kB _ hWd).mono ?_; rintro e w3 ⟨rfl, hx3⟩)
            go_roundg (L.length - (0 + 1))
            case measure => omega
            case rel => exact ⟨_, 0 + 1, rfl, by go_num, by omega, Nat.le_refl _, hWd.trans (hx3.trans ((Ext.refl w3).alloc _)), (by show OwnR _ _ _ _; rw [hact]; simpa using HO.out.ext (hWo.trans (hx3.trans ((Ext.refl w3).alloc _))) : OwnR _ w.heap.size (.slice pv ln cv) (actN L t U (0 + 1)))⟩
          | some z =>
            go_wp2_with (first
              | (go_at_call 18; refine (kB _ hWd).mono ?_; rintro e w3 ⟨rfl, hx3⟩; obtain ⟨z0, z1, z2, z3, z4, z5⟩ := box_rtE (heap_new w3 (.cells #[.int .i64 (theR (some z)).t, .int .u32 (theR (some z)).a, .int .i64 (theR (some z)).l, .int .i64 (theR (some z)).i, .int .u32 (theR (some z)).g, .int .i64 (theR (some z)).m] 27)); have f0 := z0 _ (Ext.refl _); have f1 := z1 _ (Ext.refl _); have f2 := z2 _ (Ext.refl _); have f3 := z3 _ (Ext.refl _); have f4 := z4 _ (Ext.refl _); have f5 := z5 _ (Ext.refl _); clear z0 z1 z2 z3 z4 z5; have TB : Hid _ := two_boxes w3 #[.int .i64 (theR (some z)).t, .int .u32 (theR (some z)).a, .int .i64 (theR (some z)).l, .int .i64 (theR (some z)).i, .int .u32 (theR (some z)).g, .int .i64 (theR (some z)).m] #[.int .i64 (theR (some z)).t, .int .u32 (theR (some z)).a, .int .i64 (theR (some z)).l, .int .i64 (theR (some z)).i, .int .u32 (theR (some z)).g, .int .i64 (theR (some z)).m] 27; have HX5 : Hid (Ext wr ((w3.alloc (.cells #[.int .i64 (theR (some z)).t, .int .u32 (theR (some z)).a, .int .i64 (theR (some z)).l, .int .i64 (theR (some z)).i, .int .u32 (theR (some z)).g, .int .i64 (theR (some z)).m] 27)).alloc (.cells #[.int .i64 (theR (some z)).t, .int .u32 (theR (some z)).a, .int .i64 (theR (some z)).l, .int .i64 (theR (some z)).i, .int .u32 (theR (some z)).g, .int .i64 (theR (some z)).m] 27))) := hWo.trans (hx3.trans TB.out.1))
              | (at_builtin; refine wpList_want rfl (fun K hK => wp_app_rt (.tmp 73) (.tmp 75) rfl w.heap.size (.slice pv ln cv) (actN L t U 0) [z] rfl (HO.out.ext HX5.out) (some ⟨w3.heap.size + 1, 0, none⟩) 1 1 rfl (rd_lit TB.out.2.2) (by rw [HLN.out]; omega) (hx.trans HX5.out).size ?_); intro v6 w6 ho6 hg6 hat6; have HO6 : Hid (OwnR w6 w.heap.size v6 (actN L t U 0 ++ [z])) := ho6; have hx6 : Ext w w6 := Ext.app (hx.trans HX5.out) (HO.out.ext HX5.out) hg6; refine hK _ _ ?_; clear hK K ho6 hg6 hat6))
            go_roundg (L.length - (0 + 1))
            case measure => omega
            case rel => exact ⟨_, 0 + 1, rfl, by go_num, by omega, Nat.le_refl _, hx6, (by show OwnR _ _ _ _; rw [hact]; exact HO6.out : OwnR w6 w.heap.size v6 (actN L t U (0 + 1)))⟩
        | succ j =>
          obtain ⟨y, hyk⟩ : ∃ y, L[j]? = some y := ⟨_, List.getElem?_eq_getElem (by omega)⟩
          obtain ⟨b', off', hbo, hb', y0, y1, y2, -, -, -⟩ := (HR.out.ext (hx.trans (hA.trans hdd))).cell hyk
          cases hbo
          have z0 : ∀ w', Ext (wr.alloc (.cells #[.int .i64 x.t, .int .u32 x.a, .int .i64 x.l, .int .i64 x.i, .int .u32 x.g, .int .i64 x.m] 27)).drew w' → w'.cell? ⟨b, off + j * 6, none⟩ = some (.int .i64 y.t) := fun w' h => by rw [h.below.cell (p := ⟨b, off + j * 6, none⟩) hb']; exact y0
          have z1 : ∀ w', Ext (wr.alloc (.cells #[.int .i64 x.t, .int .u32 x.a, .int .i64 x.l, .int .i64 x.i, .int .u32 x.g, .int .i64 x.m] 27)).drew w' → w'.cell? ⟨b, off + j * 6 + 1, none⟩ = some (.int .u32 y.a) := fun w' h => by rw [h.below.cell (p := ⟨b, off + j * 6 + 1, none⟩) hb']; exact y1
          have z2 : ∀ w', Ext (wr.alloc (.cells #[.int .i64 x.t, .int .u32 x.a, .int .i64 x.l, .int .i64 x.i, .int .u32 x.g, .int .i64 x.m] 27)).drew w' → w'.cell? ⟨b, off + j * 6 + 2, none⟩ = some (.int .i64 y.l) := fun w' h => by rw [h.below.cell (p := ⟨b, off + j * 6 + 2, none⟩) hb']; exact y2
          clear y0 y1 y2
          have c1 : (((j + 1 : Nat) : Int)) = (j : Int) + 1 := by omega
          have c2 : IntKind.i64.wrap (j : Int) = (j : Int) := by rw [IntKind.wrap_i64]; omega
          have c3 : (0 : Int) < (j : Int) + 1 := by omega
          have c4 : (j : Int) < (L.length : Int) := by omega
          have c5 : (j : Int) + 1 < (L.length : Int) := by omega
          have ep := fun w => eql_prefix y.a y.l x.a x.l w
          by_cases h2 : y.t = t
          · have h2a : (y.t == t) = true := by simpa using h2
            by_cases h3 : (y.a == x.a && y.l == x.l) = true
            · rw [h3] at ep
              have hf : firstB L t (j + 1) = false := by
                simp only [Bool.and_eq_true, beq_iff_eq] at h3
                have hs : selB t x.a x.l y = true := (selB_iff _ _ _ _).2 ⟨h2, h3.1, h3.2⟩
                unfold firstB; rw [hxk]; simp [hyk, hs]
              have hact := hact0 hf
              clear hact1 hact0 hf h1 h2 h3 hxk hyk hdd kB
              go_wp2_with fail
              refine wp_region_eager [(0, false), (1, false), (2, false), (3, false), (4, false), (5, false), (6, false), (7, false), (8, false), (9, false), (10, false), (11, false), (12, false), (13, false), (14, false), (15, false), (16, false), (17, false), (18, false), (19, false), (20, false), (21, false), (22, false), (23, false), (24, false), (25, false), (26, false), (27, false), (28, false), (29, false), (30, false), (31, false), (32, false), (33, false), (34, false)] (by kernel_rfl) (by kernel_rfl) rfl (by kernel_rfl) (fun _ _ _ _ _ h => h) ?_
              have hWd : Ext w (wr.alloc (.cells #[.int .i64 x.t, .int .u32 x.a, .int .i64 x.l, .int .i64 x.i, .int .u32 x.g, .int .i64 x.m] 27)).drew := (hx.trans hA).drew
              have hWo : Ext wr (wr.alloc (.cells #[.int .i64 x.t, .int .u32 x.a, .int .i64 x.l, .int .i64 x.i, .int .u32 x.g, .int .i64 x.m] 27)).drew := hA.drew
              have HXW : Hid ((wr.alloc (.cells #[.int .i64 x.t, .int .u32 x.a, .int .i64 x.l, .int .i64 x.i, .int .u32 x.g, .int .i64 x.m] 27)).drew.heap[wr.heap.size]? = some (.cells #[.int .i64 x.t, .int .u32 x.a, .int .i64 x.l, .int .i64 x.i, .int .u32 x.g, .int .i64 x.m] 27 (0, 0))) := heap_new wr _
              generalize (wr.alloc (.cells #[.int .i64 x.t, .int .u32 x.a, .int .i64 x.l, .int .i64 x.i, .int .u32 x.g, .int .i64 x.m] 27)).drew = W at *
              iterate 35 (refine wpE_read (v := ?_) rfl (by rfl) ?_ ?_; rotate_left; (focus (intro w' hx; go_simp; first | done | with_reducible rfl)); simp only [Act.put, List.setIfInBounds_toArray, List.set_cons_zero, List.set_cons_succ])
              refine wpE_done ?_
              go_wp2_with fail
              go_roundg (L.length - ((j + 1) + 1))
              case measure => omega
              case rel => exact ⟨_, (j + 1) + 1, rfl, by go_num, by omega, Nat.le_refl _, hWd, (by show OwnR _ _ _ _; rw [hact]; exact HO.out.ext hWo : OwnR W w.heap.size (.slice pv ln cv) (actN L t U ((j + 1) + 1)))⟩
            · have h3' : (y.a == x.a && y.l == x.l) = false := by simpa using h3
              rw [h3'] at ep
              have hf : firstB L t (j + 1) = true := by
                have hs : selB t x.a x.l y = false := by
                  cases e : selB t x.a x.l y
                  · rfl
                  · obtain ⟨_, e2, e3⟩ := (selB_iff _ _ _ _).1 e
                    exact absurd (by simp [e2, e3]) h3
                unfold firstB; rw [hxk]; simp [hyk, hs, h1]
              have hact := hact1 hf
              generalize bestO L t x.a x.l U = o at *
              clear hact1 hact0 hf h1 h2 h3 h3' hxk hyk hdd
              go_wp2_with fail
              refine wp_region_eager [(0, false), (1, false), (2, false), (3, false), (4, false), (5, false), (6, false), (7, false), (8, false), (9, false), (10, false), (11, false), (12, false), (13, false), (14, false), (15, false), (16, false), (17, false), (18, false), (19, false), (20, false), (21, false), (22, false), (23, false), (24, false), (25, false), (26, false), (27, false), (28, false), (29, false), (30, false), (31, false), (32, false), (33, false), (34, false)] (by kernel_rfl) (by kernel_rfl) rfl (by kernel_rfl) (fun _ _ _ _ _ h => h) ?_
              have hWd : Ext w (wr.alloc (.cells #[.int .i64 x.t, .int .u32 x.a, .int .i64 x.l, .int .i64 x.i, .int .u32 x.g, .int .i64 x.m] 27)).drew := (hx.trans hA).drew
              have hWo : Ext wr (wr.alloc (.cells #[.int .i64 x.t, .int .u32 x.a, .int .i64 x.l, .int .i64 x.i, .int .u32 x.g, .int .i64 x.m] 27)).drew := hA.drew
              have HXW : Hid ((wr.alloc (.cells #[.int .i64 x.t, .int .u32 x.a, .int .i64 x.l, .int .i64 x.i, .int .u32 x.g, .int .i64 x.m] 27)).drew.heap[wr.heap.size]? = some (.cells #[.int .i64 x.t, .int .u32 x.a, .int .i64 x.l, .int .i64 x.i, .int .u32 x.g, .int .i64 x.m] 27 (0, 0))) := heap_new wr _
              generalize (wr.alloc (.cells #[.int .i64 x.t, .int .u32 x.a, .int .i64 x.l, .int .i64 x.i, .int .u32 x.g, .int .i64 x.m] 27)).drew = W at *
              iterate 35 (refine wpE_read (v := ?_) rfl (by rfl) ?_ ?_; rotate_left; (focus (intro w' hx; go_simp; first | done | with_reducible rfl)); simp only [Act.put, List.setIfInBounds_toArray, List.set_cons_zero, List.set_cons_succ])
              refine wpE_done ?_
              obtain ⟨s0, s1, s2, s3, s4, s5⟩ := box_rtE HXW.out
              have y1 := s1 _ (Ext.refl _)
              have y2 := s2 _ (Ext.refl _)
              clear s0 s1 s2 s3 s4 s5 x0 x1 x2 v0
              cases o with
              | none =>
                go_wp2_with (go_at_call 18; refine (kB _ hWd).mono ?_; rintro e w3 ⟨rfl, hx3⟩)
                go_roundg (L.length - ((j + 1) + 1))
                case measure => omega
                case rel => exact ⟨_, (j + 1) + 1, rfl, by go_num, by omega, Nat.le_refl _, hWd.trans (hx3.trans ((Ext.refl w3).alloc _)), (by show OwnR _ _ _ _; rw [hact]; simpa using HO.out.ext (hWo.trans (hx3.trans ((Ext.refl w3).alloc _))) : OwnR _ w.heap.size (.slice pv ln cv) (actN L t U ((j + 1) + 1)))⟩
              | some z =>
                go_wp2_with (first
                  | (go_at_call 18; refine (kB _ hWd).mono ?_; rintro e w3 ⟨rfl, hx3⟩; obtain ⟨z0, z1, z2, z3, z4, z5⟩ := box_rtE (heap_new w3 (.cells #[.int .i64 (theR (some z)).t, .int .u32 (theR (some z)).a, .int .i64 (theR (some z)).l, .int .i64 (theR (some z)).i, .int .u32 (theR (some z)).g, .int .i64 (theR (some z)).m] 27)); have f0 := z0 _ (Ext.refl _); have f1 := z1 _ (Ext.refl _); have f2 := z2 _ (Ext.refl _); have f3 := z3 _ (Ext.refl _); have f4 := z4 _ (Ext.refl _); have f5 := z5 _ (Ext.refl _); clear z0 z1 z2 z3 z4 z5; have TB : Hid _ := two_boxes w3 #[.int .i64 (theR (some z)).t, .int .u32 (theR (some z)).a, .int .i64 (theR (some z)).l, .int .i64 (theR (some z)).i, .int .u32 (theR (some z)).g, .int .i64 (theR (some z)).m] #[.int .i64 (theR (some z)).t, .int .u32 (theR (some z)).a, .int .i64 (theR (some z)).l, .int .i64 (theR (some z)).i, .int .u32 (theR (some z)).g, .int .i64 (theR (some z)).m] 27; have HX5 : Hid (Ext wr ((w3.alloc (.cells #[.int .i64 (theR (some z)).t, .int .u32 (theR (some z)).a, .int .i64 (theR (some z)).l, .int .i64 (theR (some z)).i, .int .u32 (theR (some z)).g, .int .i64 (theR (some z)).m] 27)).alloc (.cells #[.int .i64 (theR (some z)).t, .int .u32 (theR (some z)).a, .int .i64 (theR (some z)).l, .int .i64 (theR (some z)).i, .int .u32 (theR (some z)).g, .int .i64 (theR (some z)).m] 27))) := hWo.trans (hx3.trans TB.out.1))
                  | (at_builtin; refine wpList_want rfl (fun K hK => wp_app_rt (.tmp 73) (.tmp 75) rfl w.heap.size (.slice pv ln cv) (actN L t U (j + 1)) [z] rfl (HO.out.ext HX5.out) (some ⟨w3.heap.size + 1, 0, none⟩) 1 1 rfl (rd_lit TB.out.2.2) (by rw [HLN.out]; omega) (hx.trans HX5.out).size ?_); intro v6 w6 ho6 hg6 hat6; have HO6 : Hid (OwnR w6 w.heap.size v6 (actN L t U (j + 1) ++ [z])) := ho6; have hx6 : Ext w w6 := Ext.app (hx.trans HX5.out) (HO.out.ext HX5.out) hg6; refine hK _ _ ?_; clear hK K ho6 hg6 hat6))
                go_roundg (L.length - ((j + 1) + 1))
                case measure => omega
                case rel => exact ⟨_, (j + 1) + 1, rfl, by go_num, by omega, Nat.le_refl _, hx6, (by show OwnR _ _ _ _; rw [hact]; exact HO6.out : OwnR w6 w.heap.size v6 (actN L t U ((j + 1) + 1)))⟩
          · have h2a : (y.t == t) = false := by simpa using h2
            have hf : firstB L t (j + 1) = true := by
              have hs : selB t x.a x.l y = false := by
                cases e : selB t x.a x.l y
                · rfl
                · exact absurd ((selB_iff _ _ _ _).1 e).1 h2
              unfold firstB; rw [hxk]; simp [hyk, hs, h1]
            have hact := hact1 hf
            generalize bestO L t x.a x.l U = o at *
            clear hact1 hact0 hf h1 hxk hyk hdd
            go_wp2_with fail
            refine wp_region_eager [(0, false), (1, false), (2, false), (3, false), (4, false), (5, false), (6, false), (7, false), (8, false), (9, false), (10, false), (11, false), (12, false), (13, false), (14, false), (15, false), (16, false), (17, false), (18, false), (19, false), (20, false), (21, false), (22, false), (23, false), (24, false), (25, false), (26, false), (27, false), (28, false), (29, false), (30, false), (31, false), (32, false), (33, false), (34, false)] (by kernel_rfl) (by kernel_rfl) rfl (by kernel_rfl) (fun _ _ _ _ _ h => h) ?_
            have hWd : Ext w (wr.alloc (.cells #[.int .i64 x.t, .int .u32 x.a, .int .i64 x.l, .int .i64 x.i, .int .u32 x.g, .int .i64 x.m] 27)).drew := (hx.trans hA).drew
            have hWo : Ext wr (wr.alloc (.cells #[.int .i64 x.t, .int .u32 x.a, .int .i64 x.l, .int .i64 x.i, .int .u32 x.g, .int .i64 x.m] 27)).drew := hA.drew
            have HXW : Hid ((wr.alloc (.cells #[.int .i64 x.t, .int .u32 x.a, .int .i64 x.l, .int .i64 x.i, .int .u32 x.g, .int .i64 x.m] 27)).drew.heap[wr.heap.size]? = some (.cells #[.int .i64 x.t, .int .u32 x.a, .int .i64 x.l, .int .i64 x.i, .int .u32 x.g, .int .i64 x.m] 27 (0, 0))) := heap_new wr _
            generalize (wr.alloc (.cells #[.int .i64 x.t, .int .u32 x.a, .int .i64 x.l, .int .i64 x.i, .int .u32 x.g, .int .i64 x.m] 27)).drew = W at *
            iterate 21 (refine wpE_read (v := ?_) rfl (by rfl) ?_ ?_; rotate_left; (focus (intro w' hx; go_simp; first | done | with_reducible rfl)); simp only [Act.put, List.setIfInBounds_toArray, List.set_cons_zero, List.set_cons_succ])
            iterate 12 (rw [wpE_skip_eq _ rfl (by rfl)]; simp only [Act.put, List.setIfInBounds_toArray, List.set_cons_zero, List.set_cons_succ])
            iterate 2 (refine wpE_read (v := ?_) rfl (by rfl) ?_ ?_; rotate_left; (focus (intro w' hx; go_simp; first | done | with_reducible rfl)); simp only [Act.put, List.setIfInBounds_toArray, List.set_cons_zero, List.set_cons_succ])
            refine wpE_done ?_
            obtain ⟨s0, s1, s2, s3, s4, s5⟩ := box_rtE HXW.out
            have y1 := s1 _ (Ext.refl _)
            have y2 := s2 _ (Ext.refl _)
            clear s0 s1 s2 s3 s4 s5 x0 x1 x2 v0
            cases o with
            | none =>
              go_wp2_with (go_at_call 18; refine (kB _ hWd).mono ?_; rintro e w3 ⟨rfl, hx3⟩)
              go_roundg (L.length - ((j + 1) + 1))
              case measure => omega
              case rel => exact ⟨_, (j + 1) + 1, rfl, by go_num, by omega, Nat.le_refl _, hWd.trans (hx3.trans ((Ext.refl w3).alloc _)), (by show OwnR _ _ _ _; rw [hact]; simpa using HO.out.ext (hWo.trans (hx3.trans ((Ext.refl w3).alloc _))) : OwnR _ w.heap.size (.slice pv ln cv) (actN L t U ((j + 1) + 1)))⟩
            | some z =>
              go_wp2_with (first
                | (go_at_call 18; refine (kB _ hWd).mono ?_; rintro e w3 ⟨rfl, hx3⟩; obtain ⟨z0, z1, z2, z3, z4, z5⟩ := box_rtE (heap_new w3 (.cells #[.int .i64 (theR (some z)).t, .int .u32 (theR (some z)).a, .int .i64 (theR (some z)).l, .int .i64 (theR (some z)).i, .int .u32 (theR (some z)).g, .int .i64 (theR (some z)).m] 27)); have f0 := z0 _ (Ext.refl _); have f1 := z1 _ (Ext.refl _); have f2 := z2 _ (Ext.refl _); have f3 := z3 _ (Ext.refl _); have f4 := z4 _ (Ext.refl _); have f5 := z5 _ (Ext.refl _); clear z0 z1 z2 z3 z4 z5; have TB : Hid _ := two_boxes w3 #[.int .i64 (theR (some z)).t, .int .u32 (theR (some z)).a, .int .i64 (theR (some z)).l, .int .i64 (theR (some z)).i, .int .u32 (theR (some z)).g, .int .i64 (theR (some z)).m] #[.int .i64 (theR (some z)).t, .int .u32 (theR (some z)).a, .int .i64 (theR (some z)).l, .int .i64 (theR (some z)).i, .int .u32 (theR (some z)).g, .int .i64 (theR (some z)).m] 27; have HX5 : Hid (Ext wr ((w3.alloc (.cells #[.int .i64 (theR (some z)).t, .int .u32 (theR (some z)).a, .int .i64 (theR (some z)).l, .int .i64 (theR (some z)).i, .int .u32 (theR (some z)).g, .int .i64 (theR (some z)).m] 27)).alloc (.cells #[.int .i64 (theR (some z)).t, .int .u32 (theR (some z)).a, .int .i64 (theR (some z)).l, .int .i64 (theR (some z)).i, .int .u32 (theR (some z)).g, .int .i64 (theR (some z)).m] 27))) := hWo.trans (hx3.trans TB.out.1))
                | (at_builtin; refine wpList_want rfl (fun K hK => wp_app_rt (.tmp 73) (.tmp 75) rfl w.heap.size (.slice pv ln cv) (actN L t U (j + 1)) [z] rfl (HO.out.ext HX5.out) (some ⟨w3.heap.size + 1, 0, none⟩) 1 1 rfl (rd_lit TB.out.2.2) (by rw [HLN.out]; omega) (hx.trans HX5.out).size ?_); intro v6 w6 ho6 hg6 hat6; have HO6 : Hid (OwnR w6 w.heap.size v6 (actN L t U (j + 1) ++ [z])) := ho6; have hx6 : Ext w w6 := Ext.app (hx.trans HX5.out) (HO.out.ext HX5.out) hg6; refine hK _ _ ?_; clear hK K ho6 hg6 hat6))
              go_roundg (L.length - ((j + 1) + 1))
              case measure => omega
              case rel => exact ⟨_, (j + 1) + 1, rfl, by go_num, by omega, Nat.le_refl _, hx6, (by show OwnR _ _ _ _; rw [hact]; exact HO6.out : OwnR w6 w.heap.size v6 (actN L t U ((j + 1) + 1)))⟩
      · have h1a : (x.t == t) = false := by simpa using h1
        have h1b : (x.t != t) = true := by simpa using h1
        have hf : firstB L t k = false := by unfold firstB; rw [hxk]; simp [h1]
        have hact := hact0 hf
        clear hact1 hact0 hf hxk hdd kB
        go_wp2_with fail
        refine wp_region_eager [(0, false), (1, false), (2, false), (3, false), (4, false), (5, false), (6, false), (7, false), (8, false), (9, false), (10, false), (11, false), (12, false), (13, false), (14, false), (15, false), (16, false), (17, false), (18, false), (19, false), (20, false), (21, false), (22, false), (23, false), (24, false), (25, false), (26, false), (27, false), (28, false), (29, false), (30, false), (31, false), (32, false), (33, false), (34, false)] (by kernel_rfl) (by kernel_rfl) rfl (by kernel_rfl) (fun _ _ _ _ _ h => h) ?_
        have hWd : Ext w (wr.alloc (.cells #[.int .i64 x.t, .int .u32 x.a, .int .i64 x.l, .int .i64 x.i, .int .u32 x.g, .int .i64 x.m] 27)).drew := (hx.trans hA).drew
        have hWo : Ext wr (wr.alloc (.cells #[.int .i64 x.t, .int .u32 x.a, .int .i64 x.l, .int .i64 x.i, .int .u32 x.g, .int .i64 x.m] 27)).drew := hA.drew
        have HXW : Hid ((wr.alloc (.cells #[.int .i64 x.t, .int .u32 x.a, .int .i64 x.l, .int .i64 x.i, .int .u32 x.g, .int .i64 x.m] 27)).drew.heap[wr.heap.size]? = some (.cells #[.int .i64 x.t, .int .u32 x.a, .int .i64 x.l, .int .i64 x.i, .int .u32 x.g, .int .i64 x.m] 27 (0, 0))) := heap_new wr _
        generalize (wr.alloc (.cells #[.int .i64 x.t, .int .u32 x.a, .int .i64 x.l, .int .i64 x.i, .int .u32 x.g, .int .i64 x.m] 27)).drew = W at *
        iterate 5 (refine wpE_read (v := ?_) rfl (by rfl) ?_ ?_; rotate_left; (focus (intro w' hx; go_simp; first | done | with_reducible rfl)); simp only [Act.put, List.setIfInBounds_toArray, List.set_cons_zero, List.set_cons_succ])
        iterate 29 (rw [wpE_skip_eq _ rfl (by rfl)]; simp only [Act.put, List.setIfInBounds_toArray, List.set_cons_zero, List.set_cons_succ])
        iterate 1 (refine wpE_read (v := ?_) rfl (by rfl) ?_ ?_; rotate_left; (focus (intro w' hx; go_simp; first | done | with_reducible rfl)); simp only [Act.put, List.setIfInBounds_toArray, List.set_cons_zero, List.set_cons_succ])
        refine wpE_done ?_
        go_wp2_with fail
        go_roundg (L.length - (k + 1))
        case measure => omega
        case rel => exact ⟨_, k + 1, rfl, by go_num, by omega, Nat.le_refl _, hWd, (by show OwnR _ _ _ _; rw [hact]; exact HO.out.ext hWo : OwnR W w.heap.size (.slice pv ln cv) (actN L t U (k + 1)))⟩
    · obtain rfl : k = L.length := by omega
      go_wp2_with fail
      go_ret
      exact ⟨_, rfl, HO.out, hx⟩
end Go.Proofs.Ytbchfmadmcppkaa.Rb
