/- Texts joined by a program: RfD, RfE, RfF. -/
import Derived.Test.YtmoimkeeldlpkaaGreatJ9
import Derived.Test.YtmoimkeeldlpkaaGreatJ22
import Derived.Test.YtmoimkeeldlpkaaGreatJ23
namespace Go.Proofs.YtmoimkeeldlpkaaGreat.Rb

set_option maxRecDepth 100000

open Go.RowKit Go.Proofs.YtmoimkeeldlpkaaGreat

set_option linter.unusedVariables false

set_option linter.unusedSimpArgs false

set_option maxHeartbeats 4000000 in
theorem refActive_in (xb : Nat) (L : List Rt) (ty : TypeId) (rest : List Value) (v : Value) (t : Int) (q : Option Addr) (m d : Nat) (U : List Bool) (w : World) (h : RibIn ty rest w xb v L) (hn : L.length ≤ 1000) (hU : Ups w q m U) :
    Calls Tryz.prog 39 #[.pointer (some ⟨xb, 0, none⟩), .int .i64 t, .slice q m d] w (RowNew w (actL L t U)) := by
  have HH : Hid (RibIn ty rest w xb v L) := h
  obtain ⟨hX, hO⟩ := h
  obtain ⟨p, c, hv, hc1, -, hR⟩ := hO.slice
  subst hv
  have HX : Hid _ := hX
  have HR : Hid (Rd w p L.length c L) := hR
  have HU : Hid (Ups w q m U) := hU
  have vw : w.cell? ⟨xb, 0, none⟩ = some (.slice p L.length c) := top_cell hX
  clear hX hO hR hU
  unfold actL
  go_enter Tryz.func39, Tryz.ntmps39
  go_wp2_with fail
  clear vw
  go_loopg [7, 8] L.length (fun kx s7 s8 wr => ∃ (v : Value) (k : Nat), s7 = v ∧ s8 = .int .i64 k ∧ k ≤ L.length ∧ L.length - k ≤ kx ∧ Ext w wr ∧ Hid (OwnR wr w.heap.size v (actN L t U k)))
  case atStart => exact ⟨.slice none 0 0, 0, rfl, rfl, Nat.zero_le _, by omega, Ext.refl _, OwnR.nil _ _⟩
  case round =>
    obtain ⟨v, k, rfl, rfl, hkn, hkx, hx, HO⟩ := hrel
    have vr : wr.cell? ⟨xb, 0, none⟩ = some (.slice p L.length c) := top_cell (hx.heap HX.out)
    obtain ⟨pv, cv, hv, hv1, -, -⟩ := HO.out.slice
    subst hv
    have hal := actN_len L t U k
    generalize hln : (actN L t U k).length = ln at *
    have HLN : Hid _ := hln
    clear hln
    by_cases hlt : k < L.length
    · obtain ⟨x, hxk⟩ : ∃ x, L[k]? = some x := ⟨_, List.getElem?_eq_getElem hlt⟩
      obtain ⟨b, off, rfl, hb, g0, g1, g2, g3, g4, g5⟩ := (HR.out.ext hx).cell hxk
      have hA : Ext wr (wr.alloc (.cells #[.int .i64 x.t, .int .u32 x.a, .int .i64 x.l, .int .i64 x.i, .int .u32 x.g, .int .i64 x.m] 33)) := (Ext.refl wr).alloc _
      have hki : (k : Int) < (L.length : Int) := by omega
      have kB := fun w' (hx : Ext w w') => refBest_in xb L ty rest _ t x.a x.l q m d U w' (HH.out.ext hx) hn (HU.out.ext hx)
      have hdd : Ext (wr.alloc (.cells #[.int .i64 x.t, .int .u32 x.a, .int .i64 x.l, .int .i64 x.i, .int .u32 x.g, .int .i64 x.m] 33)) (wr.alloc (.cells #[.int .i64 x.t, .int .u32 x.a, .int .i64 x.l, .int .i64 x.i, .int .u32 x.g, .int .i64 x.m] 33)).drew := (Ext.refl _).drew
      obtain ⟨a0, a1, a2, a3, a4, a5⟩ := box_rtE (heap_new wr (.cells #[.int .i64 x.t, .int .u32 x.a, .int .i64 x.l, .int .i64 x.i, .int .u32 x.g, .int .i64 x.m] 33))
      have x0 := fun w' h => a0 w' (hdd.trans h)
      have x1 := fun w' h => a1 w' (hdd.trans h)
      have x2 := fun w' h => a2 w' (hdd.trans h)
      have v0 : ∀ w', Ext (wr.alloc (.cells #[.int .i64 x.t, .int .u32 x.a, .int .i64 x.l, .int .i64 x.i, .int .u32 x.g, .int .i64 x.m] 33)).drew w' → w'.cell? ⟨xb, 0, none⟩ = some (.slice (some ⟨b, off, none⟩) L.length c) := fun w' h => top_cell ((hx.trans (hA.trans (hdd.trans h))).heap HX.out)
      clear a0 a1 a2 a3 a4 a5
      have hact1 := fun h => actN_take (U := U) (t := t) h hxk
      have hact0 := fun h => actN_skip (L := L) (U := U) (t := t) (k := k) h
      by_cases h1 : x.t = t
      · have h1a : (x.t == t) = true := by simpa using h1
        have h1b : (x.t != t) = false := by simp [h1]
        cases k with
        | zero =>
          have hf : firstB L t 0 = true := by unfold firstB; rw [hxk]; simp [h1]
          have hact := hact1 hf
          generalize bestO L t x.a x.l U = o at *
          have hk0 : (0 : Int) < (L.length : Int) := by omega
          simp only [Nat.zero_mul, Nat.add_zero] at g0 g1 g2 g3 g4 g5
          clear hact1 hact0 hf h1 hxk hdd
          go_wp2_with fail
          refine wp_region_eager [(0, false), (1, false), (2, false), (3, false), (4, false), (5, false), (6, false), (7, false), (8, false), (9, false), (10, false), (11, false), (12, false), (13, false), (14, false), (15, false), (16, false), (17, false), (18, false), (19, false), (20, false), (21, false), (22, false), (23, false), (24, false), (25, false), (26, false), (27, false), (28, false), (29, false), (30, false), (31, false), (32, false), (33, false), (34, false)] (by kernel_rfl) (by kernel_rfl) rfl (by kernel_rfl) (fun _ _ _ _ _ h => h) ?_
          have hWd : Ext w (wr.alloc (.cells #[.int .i64 x.t, .int .u32 x.a, .int .i64 x.l, .int .i64 x.i, .int .u32 x.g, .int .i64 x.m] 33)).drew := (hx.trans hA).drew
          have hWo : Ext wr (wr.alloc (.cells #[.int .i64 x.t, .int .u32 x.a, .int .i64 x.l, .int .i64 x.i, .int .u32 x.g, .int .i64 x.m] 33)).drew := hA.drew
          have HXW : Hid ((wr.alloc (.cells #[.int .i64 x.t, .int .u32 x.a, .int .i64 x.l, .int .i64 x.i, .int .u32 x.g, .int .i64 x.m] 33)).drew.heap[wr.heap.size]? = some (.cells #[.int .i64 x.t, .int .u32 x.a, .int .i64 x.l, .int .i64 x.i, .int .u32 x.g, .int .i64 x.m] 33 (0, 0))) := heap_new wr _
          generalize (wr.alloc (.cells #[.int .i64 x.t, .int .u32 x.a, .int .i64 x.l, .int .i64 x.i, .int .u32 x.g, .int .i64 x.m] 33)).drew = W at *
          iterate 8 (refine wpE_read (v := ?_) rfl (by rfl) ?_ ?_; rotate_left; (focus (intro w' hx; go_simp; first | done | with_reducible rfl)); simp only [Act.put, List.setIfInBounds_toArray, List.set_cons_zero, List.set_cons_succ])
          iterate 11 (rw [wpE_skip_eq _ rfl (by rfl)]; simp only [Act.put, List.setIfInBounds_toArray, List.set_cons_zero, List.set_cons_succ])
          iterate 2 (refine wpE_read (v := ?_) rfl (by rfl) ?_ ?_; rotate_left; (focus (intro w' hx; go_simp; first | done | with_reducible rfl)); simp only [Act.put, List.setIfInBounds_toArray, List.set_cons_zero, List.set_cons_succ])
          iterate 12 (rw [wpE_skip_eq _ rfl (by rfl)]; simp only [Act.put, List.setIfInBounds_toArray, List.set_cons_zero, List.set_cons_succ])
          iterate 2 (refine wpE_read (v := ?_) rfl (by rfl) ?_ ?_; rotate_left; (focus (intro w' hx; go_simp; first | done | with_reducible rfl)); simp only [Act.put, List.setIfInBounds_toArray, List.set_cons_zero, List.set_cons_succ])
          refine wpE_done ?_
          obtain ⟨s0, s1, s2, s3, s4, s5⟩ := box_rtE HXW.out
          have y1 := s1 _ (Ext.refl _)
          have y2 := s2 _ (Ext.refl _)
          clear s0 s1 s2 s3 s4 s5 x0 x1 x2 v0
          cases o with
          | none =>
            go_wp2_with (go_at_call 58; refine (kB _ hWd).mono ?_; rintro e w3 ⟨rfl, hx3⟩)
            go_roundg (L.length - (0 + 1))
            case measure => omega
            case rel => exact ⟨_, 0 + 1, rfl, by go_num, by omega, Nat.le_refl _, hWd.trans (hx3.trans ((Ext.refl w3).alloc _)), (by show OwnR _ _ _ _; rw [hact]; simpa using HO.out.ext (hWo.trans (hx3.trans ((Ext.refl w3).alloc _))) : OwnR _ w.heap.size (.slice pv ln cv) (actN L t U (0 + 1)))⟩
          | some z =>
            go_wp2_with (first
              | (go_at_call 58; refine (kB _ hWd).mono ?_; rintro e w3 ⟨rfl, hx3⟩; obtain ⟨z0, z1, z2, z3, z4, z5⟩ := box_rtE (heap_new w3 (.cells #[.int .i64 (theR (some z)).t, .int .u32 (theR (some z)).a, .int .i64 (theR (some z)).l, .int .i64 (theR (some z)).i, .int .u32 (theR (some z)).g, .int .i64 (theR (some z)).m] 33)); have f0 := z0 _ (Ext.refl _); have f1 := z1 _ (Ext.refl _); have f2 := z2 _ (Ext.refl _); have f3 := z3 _ (Ext.refl _); have f4 := z4 _ (Ext.refl _); have f5 := z5 _ (Ext.refl _); clear z0 z1 z2 z3 z4 z5; have TB : Hid _ := two_boxes w3 #[.int .i64 (theR (some z)).t, .int .u32 (theR (some z)).a, .int .i64 (theR (some z)).l, .int .i64 (theR (some z)).i, .int .u32 (theR (some z)).g, .int .i64 (theR (some z)).m] #[.int .i64 (theR (some z)).t, .int .u32 (theR (some z)).a, .int .i64 (theR (some z)).l, .int .i64 (theR (some z)).i, .int .u32 (theR (some z)).g, .int .i64 (theR (some z)).m] 33; have HX5 : Hid (Ext wr ((w3.alloc (.cells #[.int .i64 (theR (some z)).t, .int .u32 (theR (some z)).a, .int .i64 (theR (some z)).l, .int .i64 (theR (some z)).i, .int .u32 (theR (some z)).g, .int .i64 (theR (some z)).m] 33)).alloc (.cells #[.int .i64 (theR (some z)).t, .int .u32 (theR (some z)).a, .int .i64 (theR (some z)).l, .int .i64 (theR (some z)).i, .int .u32 (theR (some z)).g, .int .i64 (theR (some z)).m] 33))) := hWo.trans (hx3.trans TB.out.1))
              | (at_builtin; refine wpList_want rfl (fun K hK => wp_app_rt (.tmp 73) (.tmp 75) rfl w.heap.size (.slice pv ln cv) (actN L t U 0) [z] rfl (HO.out.ext HX5.out) (some ⟨w3.heap.size + 1, 0, none⟩) 1 1 rfl (rd_lit TB.out.2.2) (by rw [HLN.out]; omega) (hx.trans HX5.out).size ?_); intro v6 w6 ho6 hg6 hat6; have HO6 : Hid (OwnR w6 w.heap.size v6 (actN L t U 0 ++ [z])) := ho6; have hx6 : Ext w w6 := Ext.app (hx.trans HX5.out) (HO.out.ext HX5.out) hg6; refine hK _ _ ?_; clear hK K ho6 hg6 hat6))
            go_roundg (L.length - (0 + 1))
            case measure => omega
            case rel => exact ⟨_, 0 + 1, rfl, by go_num, by omega, Nat.le_refl _, hx6, (by show OwnR _ _ _ _; rw [hact]; exact HO6.out : OwnR w6 w.heap.size v6 (actN L t U (0 + 1)))⟩
        | succ j =>
          obtain ⟨y, hyk⟩ : ∃ y, L[j]? = some y := ⟨_, List.getElem?_eq_getElem (by omega)⟩
          obtain ⟨b', off', hbo, hb', y0, y1, y2, -, -, -⟩ := (HR.out.ext (hx.trans (hA.trans hdd))).cell hyk
          cases hbo
          have z0 : ∀ w', Ext (wr.alloc (.cells #[.int .i64 x.t, .int .u32 x.a, .int .i64 x.l, .int .i64 x.i, .int .u32 x.g, .int .i64 x.m] 33)).drew w' → w'.cell? ⟨b, off + j * 6, none⟩ = some (.int .i64 y.t) := fun w' h => by rw [h.below.cell (p := ⟨b, off + j * 6, none⟩) hb']; exact y0
          have z1 : ∀ w', Ext (wr.alloc (.cells #[.int .i64 x.t, .int .u32 x.a, .int .i64 x.l, .int .i64 x.i, .int .u32 x.g, .int .i64 x.m] 33)).drew w' → w'.cell? ⟨b, off + j * 6 + 1, none⟩ = some (.int .u32 y.a) := fun w' h => by rw [h.below.cell (p := ⟨b, off + j * 6 + 1, none⟩) hb']; exact y1
          have z2 : ∀ w', Ext (wr.alloc (.cells #[.int .i64 x.t, .int .u32 x.a, .int .i64 x.l, .int .i64 x.i, .int .u32 x.g, .int .i64 x.m] 33)).drew w' → w'.cell? ⟨b, off + j * 6 + 2, none⟩ = some (.int .i64 y.l) := fun w' h => by rw [h.below.cell (p := ⟨b, off + j * 6 + 2, none⟩) hb']; exact y2
          clear y0 y1 y2
          have c1 : (((j + 1 : Nat) : Int)) = (j : Int) + 1 := by omega
          have c2 : IntKind.i64.wrap (j : Int) = (j : Int) := by rw [IntKind.wrap_i64]; omega
          have c3 : (0 : Int) < (j : Int) + 1 := by omega
          have c4 : (j : Int) < (L.length : Int) := by omega
          have c5 : (j : Int) + 1 < (L.length : Int) := by omega
          have ep := fun w => eql_prefix y.a y.l x.a x.l w
          by_cases h2 : y.t = t
          · have h2a : (y.t == t) = true := by simpa using h2
            by_cases h3 : (y.a == x.a && y.l == x.l) = true
            · rw [h3] at ep
              have hf : firstB L t (j + 1) = false := by
                simp only [Bool.and_eq_true, beq_iff_eq] at h3
                have hs : selB t x.a x.l y = true := (selB_iff _ _ _ _).2 ⟨h2, h3.1, h3.2⟩
                unfold firstB; rw [hxk]; simp [hyk, hs]
              have hact := hact0 hf
              clear hact1 hact0 hf h1 h2 h3 hxk hyk hdd kB
              go_wp2_with fail
              refine wp_region_eager [(0, false), (1, false), (2, false), (3, false), (4, false), (5, false), (6, false), (7, false), (8, false), (9, false), (10, false), (11, false), (12, false), (13, false), (14, false), (15, false), (16, false), (17, false), (18, false), (19, false), (20, false), (21, false), (22, false), (23, false), (24, false), (25, false), (26, false), (27, false), (28, false), (29, false), (30, false), (31, false), (32, false), (33, false), (34, false)] (by kernel_rfl) (by kernel_rfl) rfl (by kernel_rfl) (fun _ _ _ _ _ h => h) ?_
              have hWd : Ext w (wr.alloc (.cells #[.int .i64 x.t, .int .u32 x.a, .int .i64 x.l, .int .i64 x.i, .int .u32 x.g, .int .i64 x.m] 33)).drew := (hx.trans hA).drew
              have hWo : Ext wr (wr.alloc (.cells #[.int .i64 x.t, .int .u32 x.a, .int .i64 x.l, .int .i64 x.i, .int .u32 x.g, .int .i64 x.m] 33)).drew := hA.drew
              have HXW : Hid ((wr.alloc (.cells #[.int .i64 x.t, .int .u32 x.a, .int .i64 x.l, .int .i64 x.i, .int .u32 x.g, .int .i64 x.m] 33)).drew.heap[wr.heap.size]? = some (.cells #[.int .i64 x.t, .int .u32 x.a, .int .i64 x.l, .int .i64 x.i, .int .u32 x.g, .int .i64 x.m] 33 (0, 0))) := heap_new wr _
              generalize (wr.alloc (.cells #[.int .i64 x.t, .int .u32 x.a, .int .i64 x.l, .int .i64 x.i, .int .u32 x.g, .int .i64 x.m] 33)).drew = W at *
              iterate 35 (refine wpE_read (v := ?_) rfl (by rfl) ?_ ?_; rotate_left; (focus (intro w' hx; go_simp; first | done | with_reducible rfl)); simp only [Act.put, List.setIfInBounds_toArray, List.set_cons_zero, List.set_cons_succ])
              refine wpE_done ?_
              go_wp2_with fail
              go_roundg (L.length - ((j + 1) + 1))
              case measure => omega
              case rel => exact ⟨_, (j + 1) + 1, rfl, by go_num, by omega, Nat.le_refl _, hWd, (by show OwnR _ _ _ _; rw [hact]; exact HO.out.ext hWo : OwnR W w.heap.size (.slice pv ln cv) (actN L t U ((j + 1) + 1)))⟩
            · have h3' : (y.a == x.a && y.l == x.l) = false := by simpa using h3
              rw [h3'] at ep
              have hf : firstB L t (j + 1) = true := by
                have hs : selB t x.a x.l y = false := by
                  cases e : selB t x.a x.l y
                  · rfl
                  · obtain ⟨_, e2, e3⟩ := (selB_iff _ _ _ _).1 e
                    exact absurd (by simp [e2, e3]) h3
                unfold firstB; rw [hxk]; simp [hyk, hs, h1]
              have hact := hact1 hf
              generalize bestO L t x.a x.l U = o at *
              clear hact1 hact0 hf h1 h2 h3 h3' hxk hyk hdd
              go_wp2_with fail
              refine wp_region_eager [(0, false), (1, false), (2, false), (3, false), (4, false), (5, false), (6, false), (7, false), (8, false), (9, false), (10, false), (11, false), (12, false), (13, false), (14, false), (15, false), (16, false), (17, false), (18, false), (19, false), (20, false), (21, false), (22, false), (23, false), (24, false), (25, false), (26, false), (27, false), (28, false), (29, false), (30, false), (31, false), (32, false), (33, false), (34, false)] (by kernel_rfl) (by kernel_rfl) rfl (by kernel_rfl) (fun _ _ _ _ _ h => h) ?_
              have hWd : Ext w (wr.alloc (.cells #[.int .i64 x.t, .int .u32 x.a, .int .i64 x.l, .int .i64 x.i, .int .u32 x.g, .int .i64 x.m] 33)).drew := (hx.trans hA).drew
              have hWo : Ext wr (wr.alloc (.cells #[.int .i64 x.t, .int .u32 x.a, .int .i64 x.l, .int .i64 x.i, .int .u32 x.g, .int .i64 x.m] 33)).drew := hA.drew
              have HXW : Hid ((wr.alloc (.cells #[.int .i64 x.t, .int .u32 x.a, .int .i64 x.l, .int .i64 x.i, .int .u32 x.g, .int .i64 x.m] 33)).drew.heap[wr.heap.size]? = some (.cells #[.int .i64 x.t, .int .u32 x.a, .int .i64 x.l, .int .i64 x.i, .int .u32 x.g, .int .i64 x.m] 33 (0, 0))) := heap_new wr _
              generalize (wr.alloc (.cells #[.int .i64 x.t, .int .u32 x.a, .int .i64 x.l, .int .i64 x.i, .int .u32 x.g, .int .i64 x.m] 33)).drew = W at *
              iterate 35 (refine wpE_read (v := ?_) rfl (by rfl) ?_ ?_; rotate_left; (focus (intro w' hx; go_simp; first | done | with_reducible rfl)); simp only [Act.put, List.setIfInBounds_toArray, List.set_cons_zero, List.set_cons_succ])
              refine wpE_done ?_
              obtain ⟨s0, s1, s2, s3, s4, s5⟩ := box_rtE HXW.out
              have y1 := s1 _ (Ext.refl _)
              have y2 := s2 _ (Ext.refl _)
              clear s0 s1 s2 s3 s4 s5 x0 x1 x2 v0
              cases o with
              | none =>
                go_wp2_with (go_at_call 58; refine (kB _ hWd).mono ?_; rintro e w3 ⟨rfl, hx3⟩)
                go_roundg (L.length - ((j + 1) + 1))
                case measure => omega
                case rel => exact ⟨_, (j + 1) + 1, rfl, by go_num, by omega, Nat.le_refl _, hWd.trans (hx3.trans ((Ext.refl w3).alloc _)), (by show OwnR _ _ _ _; rw [hact]; simpa using HO.out.ext (hWo.trans (hx3.trans ((Ext.refl w3).alloc _))) : OwnR _ w.heap.size (.slice pv ln cv) (actN L t U ((j + 1) + 1)))⟩
              | some z =>
                go_wp2_with (first
                  | (go_at_call 58; refine (kB _ hWd).mono ?_; rintro e w3 ⟨rfl, hx3⟩; obtain ⟨z0, z1, z2, z3, z4, z5⟩ := box_rtE (heap_new w3 (.cells #[.int .i64 (theR (some z)).t, .int .u32 (theR (some z)).a, .int .i64 (theR (some z)).l, .int .i64 (theR (some z)).i, .int .u32 (theR (some z)).g, .int .i64 (theR (some z)).m] 33)); have f0 := z0 _ (Ext.refl _); have f1 := z1 _ (Ext.refl _); have f2 := z2 _ (Ext.refl _); have f3 := z3 _ (Ext.refl _); have f4 := z4 _ (Ext.refl _); have f5 := z5 _ (Ext.refl _); clear z0 z1 z2 z3 z4 z5; have TB : Hid _ := two_boxes w3 #[.int .i64 (theR (some z)).t, .int .u32 (theR (some z)).a, .int .i64 (theR (some z)).l, .int .i64 (theR (some z)).i, .int .u32 (theR (some z)).g, .int .i64 (theR (some z)).m] #[.int .i64 (theR (some z)).t, .int .u32 (theR (some z)).a, .int .i64 (theR (some z)).l, .int .i64 (theR (some z)).i, .int .u32 (theR (some z)).g, .int .i64 (theR (some z)).m] 33; have HX5 : Hid (Ext wr ((w3.alloc (.cells #[.int .i64 (theR (some z)).t, .int .u32 (theR (some z)).a, .int .i64 (theR (some z)).l, .int .i64 (theR (some z)).i, .int .u32 (theR (some z)).g, .int .i64 (theR (some z)).m] 33)).alloc (.cells #[.int .i64 (theR (some z)).t, .int .u32 (theR (some z)).a, .int .i64 (theR (some z)).l, .int .i64 (theR (some z)).i, .int .u32 (theR (some z)).g, .int .i64 (theR (some z)).m] 33))) := hWo.trans (hx3.trans TB.out.1))
                  | (at_builtin; refine wpList_want rfl (fun K hK => wp_app_rt (.tmp 73) (.tmp 75) rfl w.heap.size (.slice pv ln cv) (actN L t U (j + 1)) [z] rfl (HO.out.ext HX5.out) (some ⟨w3.heap.size + 1, 0, none⟩) 1 1 rfl (rd_lit TB.out.2.2) (by rw [HLN.out]; omega) (hx.trans HX5.out).size ?_); intro v6 w6 ho6 hg6 hat6; have HO6 : Hid (OwnR w6 w.heap.size v6 (actN L t U (j + 1) ++ [z])) := ho6; have hx6 : Ext w w6 := Ext.app (hx.trans HX5.out) (HO.out.ext HX5.out) hg6; refine hK _ _ ?_; clear hK K ho6 hg6 hat6))
                go_roundg (L.length - ((j + 1) + 1))
                case measure => omega
                case rel => exact ⟨_, (j + 1) + 1, rfl, by go_num, by omega, Nat.le_refl _, hx6, (by show OwnR _ _ _ _; rw [hact]; exact HO6.out : OwnR w6 w.heap.size v6 (actN L t U ((j + 1) + 1)))⟩
          · have h2a : (y.t == t) = false := by simpa using h2
            have hf : firstB L t (j + 1) = true := by
              have hs : selB t x.a x.l y = false := by
                cases e : selB t x.a x.l y
                · rfl
                · exact absurd ((selB_iff _ _ _ _).1 e).1 h2
              unfold firstB; rw [hxk]; simp [hyk, hs, h1]
            have hact := hact1 hf
            generalize bestO L t x.a x.l U = o at *
            clear hact1 hact0 hf h1 hxk hyk hdd
            go_wp2_with fail
            refine wp_region_eager [(0, false), (1, false), (2, false), (3, false), (4, false), (5, false), (6, false), (7, false), (8, false), (9, false), (10, false), (11, false), (12, false), (13, false), (14, false), (15, false), (16, false), (17, false), (18, false), (19, false), (20, false), (21, false), (22, false), (23, false), (24, false), (25, false), (26, false), (27, false), (28, false), (29, false), (30, false), (31, false), (32, false), (33, false), (34, false)] (by kernel_rfl) (by kernel_rfl) rfl (by kernel_rfl) (fun _ _ _ _ _ h => h) ?_
            have hWd : Ext w (wr.alloc (.cells #[.int .i64 x.t, .int .u32 x.a, .int .i64 x.l, .int .i64 x.i, .int .u32 x.g, .int .i64 x.m] 33)).drew := (hx.trans hA).drew
            have hWo : Ext wr (wr.alloc (.cells #[.int .i64 x.t, .int .u32 x.a, .int .i64 x.l, .int .i64 x.i, .int .u32 x.g, .int .i64 x.m] 33)).drew := hA.drew
            have HXW : Hid ((wr.alloc (.cells #[.int .i64 x.t, .int .u32 x.a, .int .i64 x.l, .int .i64 x.i, .int .u32 x.g, .int .i64 x.m] 33)).drew.heap[wr.heap.size]? = some (.cells #[.int .i64 x.t, .int .u32 x.a, .int .i64 x.l, .int .i64 x.i, .int .u32 x.g, .int .i64 x.m] 33 (0, 0))) := heap_new wr _
            generalize (wr.alloc (.cells #[.int .i64 x.t, .int .u32 x.a, .int .i64 x.l, .int .i64 x.i, .int .u32 x.g, .int .i64 x.m] 33)).drew = W at *
            iterate 21 (refine wpE_read (v := ?_) rfl (by rfl) ?_ ?_; rotate_left; (focus (intro w' hx; go_simp; first | done | with_reducible rfl)); simp only [Act.put, List.setIfInBounds_toArray, List.set_cons_zero, List.set_cons_succ])
            iterate 12 (rw [wpE_skip_eq _ rfl (by rfl)]; simp only [Act.put, List.setIfInBounds_toArray, List.set_cons_zero, List.set_cons_succ])
            iterate 2 (refine wpE_read (v := ?_) rfl (by rfl) ?_ ?_; rotate_left; (focus (intro w' hx; go_simp; first | done | with_reducible rfl)); simp only [Act.put, List.setIfInBounds_toArray, List.set_cons_zero, List.set_cons_succ])
            refine wpE_done ?_
            obtain ⟨s0, s1, s2, s3, s4, s5⟩ := box_rtE HXW.out
            have y1 := s1 _ (Ext.refl _)
            have y2 := s2 _ (Ext.refl _)
            clear s0 s1 s2 s3 s4 s5 x0 x1 x2 v0
            cases o with
            | none =>
              go_wp2_with (go_at_call 58; refine (kB _ hWd).mono ?_; rintro e w3 ⟨rfl, hx3⟩)
              go_roundg (L.length - ((j + 1) + 1))
              case measure => omega
              case rel => exact ⟨_, (j + 1) + 1, rfl, by go_num, by omega, Nat.le_refl _, hWd.trans (hx3.trans ((Ext.refl w3).alloc _)), (by show OwnR _ _ _ _; rw [hact]; simpa using HO.out.ext (hWo.trans (hx3.trans ((Ext.refl w3).alloc _))) : OwnR _ w.heap.size (.slice pv ln cv) (actN L t U ((j + 1) + 1)))⟩
            | some z =>
              go_wp2_with (first
                | (go_at_call 58; refine (kB _ hWd).mono ?_; rintro e w3 ⟨rfl, hx3⟩; obtain ⟨z0, z1, z2, z3, z4, z5⟩ := box_rtE (heap_new w3 (.cells #[.int .i64 (theR (some z)).t, .int .u32 (theR (some z)).a, .int .i64 (theR (some z)).l, .int .i64 (theR (some z)).i, .int .u32 (theR (some z)).g, .int .i64 (theR (some z)).m] 33)); have f0 := z0 _ (Ext.refl _); have f1 := z1 _ (Ext.refl _); have f2 := z2 _ (Ext.refl _); have f3 := z3 _ (Ext.refl _); have f4 := z4 _ (Ext.refl _); have f5 := z5 _ (Ext.refl _); clear z0 z1 z2 z3 z4 z5; have TB : Hid _ := two_boxes w3 #[.int .i64 (theR (some z)).t, .int .u32 (theR (some z)).a, .int .i64 (theR (some z)).l, .int .i64 (theR (some z)).i, .int .u32 (theR (some z)).g, .int .i64 (theR (some z)).m] #[.int .i64 (theR (some z)).t, .int .u32 (theR (some z)).a, .int .i64 (theR (some z)).l, .int .i64 (theR (some z)).i, .int .u32 (theR (some z)).g, .int .i64 (theR (some z)).m] 33; have HX5 : Hid (Ext wr ((w3.alloc (.cells #[.int .i64 (theR (some z)).t, .int .u32 (theR (some z)).a, .int .i64 (theR (some z)).l, .int .i64 (theR (some z)).i, .int .u32 (theR (some z)).g, .int .i64 (theR (some z)).m] 33)).alloc (.cells #[.int .i64 (theR (some z)).t, .int .u32 (theR (some z)).a, .int .i64 (theR (some z)).l, .int .i64 (theR (some z)).i, .int .u32 (theR (some z)).g, .int .i64 (theR (some z)).m] 33))) := hWo.trans (hx3.trans TB.out.1))
                | (at_builtin; refine wpList_want rfl (fun K hK => wp_app_rt (.tmp 73) (.tmp 75) rfl w.heap.size (.slice pv ln cv) (actN L t U (j + 1)) [z] rfl (HO.out.ext HX5.out) (some ⟨w3.heap.size + 1, 0, none⟩) 1 1 rfl (rd_lit TB.out.2.2) (by rw [HLN.out]; omega) (hx.trans HX5.out).size ?_); intro v6 w6 ho6 hg6 hat6; have HO6 : Hid (OwnR w6 w.heap.size v6 (actN L t U (j + 1) ++ [z])) := ho6; have hx6 : Ext w w6 := Ext.app (hx.trans HX5.out) (HO.out.ext HX5.out) hg6; refine hK _ _ ?_; clear hK K ho6 hg6 hat6))
              go_roundg (L.length - ((j + 1) + 1))
              case measure => omega
              case rel => exact ⟨_, (j + 1) + 1, rfl, by go_num, by omega, Nat.le_refl _, hx6, (by show OwnR _ _ _ _; rw [hact]; exact HO6.out : OwnR w6 w.heap.size v6 (actN L t U ((j + 1) + 1)))⟩
      · have h1a : (x.t == t) = false := by simpa using h1
        have h1b : (x.t != t) = true := by simpa using h1
        have hf : firstB L t k = false := by unfold firstB; rw [hxk]; simp [h1]
        have hact := hact0 hf
        clear hact1 hact0 hf hxk hdd kB
        go_wp2_with fail
        refine wp_region_eager [(0, false), (1, false), (2, false), (3, false), (4, false), (5, false), (6, false), (7, false), (8, false), (9, false), (10, false), (11, false), (12, false), (13, false), (14, false), (15, false), (16, false), (17, false), (18, false), (19, false), (20, false), (21, false), (22, false), (23, false), (24, false), (25, false), (26, false), (27, false), (28, false), (29, false), (30, false), (31, false), (32, false), (33, false), (34, false)] (by kernel_rfl) (by kernel_rfl) rfl (by kernel_rfl) (fun _ _ _ _ _ h => h) ?_
        have hWd : Ext w (wr.alloc (.cells #[.int .i64 x.t, .int .u32 x.a, .int .i64 x.l, .int .i64 x.i, .int .u32 x.g, .int .i64 x.m] 33)).drew := (hx.trans hA).drew
        have hWo : Ext wr (wr.alloc (.cells #[.int .i64 x.t, .int .u32 x.a, .int .i64 x.l, .int .i64 x.i, .int .u32 x.g, .int .i64 x.m] 33)).drew := hA.drew
        have HXW : Hid ((wr.alloc (.cells #[.int .i64 x.t, .int .u32 x.a, .int .i64 x.l, .int .i64 x.i, .int .u32 x.g, .int .i64 x.m] 33)).drew.heap[wr.heap.size]? = some (.cells #[.int .i64 x.t, .int .u32 x.a, .int .i64 x.l, .int .i64 x.i, .int .u32 x.g, .int .i64 x.m] 33 (0, 0))) := heap_new wr _
        generalize (wr.alloc (.cells #[.int .i64 x.t, .int .u32 x.a, .int .i64 x.l, .int .i64 x.i, .int .u32 x.g, .int .i64 x.m] 33)).drew = W at *
        iterate 5 (refine wpE_read (v := ?_) rfl (by rfl) ?_ ?_; rotate_left; (focus (intro w' hx; go_simp; first | done | with_reducible rfl)); simp only [Act.put, List.setIfInBounds_toArray, List.set_cons_zero, List.set_cons_succ])
        iterate 29 (rw [wpE_skip_eq _ rfl (by rfl)]; simp only [Act.put, List.setIfInBounds_toArray, List.set_cons_zero, List.set_cons_succ])
        iterate 1 (refine wpE_read (v := ?_) rfl (by rfl) ?_ ?_; rotate_left; (focus (intro w' hx; go_simp; first | done | with_reducible rfl)); simp only [Act.put, List.setIfInBounds_toArray, List.set_cons_zero, List.set_cons_succ])
        refine wpE_done ?_
        go_wp2_with fail
        go_roundg (L.length - (k + 1))
        case measure => omega
        case rel => exact ⟨_, k + 1, rfl, by go_num, by omega, Nat.le_refl _, hWd, (by show OwnR _ _ _ _; rw [hact]; exact HO.out.ext hWo : OwnR W w.heap.size (.slice pv ln cv) (actN L t U (k + 1)))⟩
    · obtain rfl : k = L.length := by omega
      go_wp2_with fail
      go_ret
      exact ⟨_, rfl, HO.out, hx⟩
end Go.Proofs.YtmoimkeeldlpkaaGreat.Rb

namespace Go.Proofs.YtmoimkeeldlpkaaGreat.Fb

set_option maxRecDepth 100000

open Go.RowKit Go.Proofs.YtmoimkeeldlpkaaGreat Go.Proofs.YtmoimkeeldlpkaaGreat.Rb

open Go.Proofs.YtmoimkeeldlpkaaGreat.Tri (PX Vp OwnP append_px)

open Go.Proofs.YtmoimkeeldlpkaaGreat.Dr (owned_any ownN)

set_option linter.unusedVariables false

set_option linter.unusedSimpArgs false

/-- append(row, true). -/
theorem append_bool {w : World} {ops : Array Oper} {rest : List Oper} {o : Oper} {a : Act} {Q : Exit → Act → World → Prop} (hgd : o.guard = none) (s x : Operand)
    (ho : o.op = .call { callee := .builtin .append, args := #[s, x], argTypes := #[51, 51] })
    (B : Nat) (v : Value) (L : List Bool) (hs : a.eval s = v) (hown : OwnB w B v L)
    (g c : Nat) (y : Bool) (hx : a.eval x = .slice (some ⟨g, 0, none⟩) 1 c) (hu : w.heap[g]? = some (.cells #[.bool y] 4 (0, 0)))
    (hsm : L.length ≤ 10000000) (hbase : B ≤ w.heap.size)
    (h : ∀ v' w', OwnB w' B v' (L ++ [y]) → w.grownBy w' v.ownBlock → (v'.ownBlock = v.ownBlock ∨ v'.ownBlock = some w.heap.size) → wpList Tryz.prog ops Q rest (a.put o.dst v') w') : wpList Tryz.prog ops Q (o :: rest) a w := by
  obtain ⟨i, hi, hz, hsz, hby⟩ := info_bool
  refine wpList_append_own_at w hgd s x 51 ho B 4 i _ 1 1 Tryz.underlying51 hi hz hsz hby rfl (by omega) v L.length _ hs hown ⟨g, 0, none⟩ 1 c [.bool y] hx rfl ?_ ?_ (by unfold maxLen; omega) (by omega) hbase ?_
  · intro j u hj
    match j, hj with
    | 0, hj =>
      obtain rfl : Value.bool y = u := by simpa using hj
      show w.cell? ((⟨g, 0, none⟩ : Addr).add 0) = _
      rw [show (⟨g, 0, none⟩ : Addr).add 0 = ⟨g, 0, none⟩ from rfl, heap_cell hu]; rfl
    | j + 1, hj => simp at hj
  · intro u hu'
    rw [List.mem_singleton.1 hu']; rfl
  · intro v' w' h2 h3 _ h5
    refine h v' w' ?_ h3 h5
    unfold OwnB
    rw [List.map_append, List.length_append]
    exact h2

/-- The document's Fib: ways, what is up. -/
def DocAt (w : World) (xb : Nat) (L : List Rt) (U : List Bool) (F : List Nat) : Prop := ∃ vR vU, w.heap[xb]? = some (.cells #[vR, vU] 53 (0, 0)) ∧ OwnR w 0 vR L ∧ OwnB w 0 vU U ∧ xb ∈ F ∧ (∀ x ∈ blks vR, x ∈ F) ∧ (∀ x ∈ blks vU, x ∈ F) ∧ ∀ x ∈ F, x < w.heap.size

theorem DocAt.later {w w' : World} {xb : Nat} {L : List Rt} {U : List Bool} {F G : List Nat} (h : DocAt w xb L U F) (hx : ExtS G w w') (hF : ∀ x ∈ F, x ∉ G) : DocAt w' xb L U F := by
  obtain ⟨vR, vU, h1, h2, h3, h4, h5, h6, h7⟩ := h
  exact ⟨vR, vU, hx.heap (hF xb h4) h1, h2.later hx fun x hh => hF x (h5 x hh), h3.later hx fun x hh => hF x (h6 x hh), h4, h5, h6, fun x hh => Nat.lt_of_lt_of_le (h7 x hh) hx.size⟩

theorem DocAt.ext {w w' : World} {xb : Nat} {L : List Rt} {U : List Bool} {F : List Nat} (h : DocAt w xb L U F) (hx : Ext w w') : DocAt w' xb L U F := h.later (hx.toS []) (by simp)

theorem DocAt.lt {w : World} {xb : Nat} {L : List Rt} {U : List Bool} {F : List Nat} (h : DocAt w xb L U F) : ∀ x ∈ F, x < w.heap.size := by
  obtain ⟨vR, vU, h1, h2, h3, h4, h5, h6, h7⟩ := h
  exact h7

/-- It, and what may have been written for it. -/
def DocAns (w : World) (xb : Nat) (F : List Nat) (L : List Rt) (U : List Bool) (w' : World) : Prop := ∃ F', DocAt w' xb L U F' ∧ ExtS F w w' ∧ ∀ x ∈ F', x ∈ F ∨ w.heap.size ≤ x

theorem DocAns.same {w w' : World} {xb : Nat} {F : List Nat} {L : List Rt} {U : List Bool} (h : DocAt w xb L U F) (hx : Ext w w') : DocAns w xb F L U w' := ⟨F, h.ext hx, hx.toS F, fun x hx => .inl hx⟩

theorem ownB_ne {w : World} {B : Nat} {v : Value} {U : List Bool} {rb : Nat} {cur : Array Value} {ty : TypeId} (h : OwnB w B v U) (hX : w.heap[rb]? = some (.cells cur ty (0, 0))) (ht : ty ≠ 4) : rb ∉ blks v := fun hm => by
  obtain ⟨_, _, cur', hc⟩ := Tri.owns_block h (mem_blks.1 hm)
  rw [hX] at hc
  cases hc
  exact ht rfl

def DocNew (w : World) (n : Nat) (e : Ending) (w' : World) : Prop := ∃ xb F, e = .returned (.pointer (some ⟨xb, 0, none⟩)) ∧ DocAt w' xb [] (List.replicate n true) F ∧ Ext w w' ∧ ∀ x ∈ F, w.heap.size ≤ x

set_option maxHeartbeats 2000000 in
theorem dnew_any (i : Int) (w : World) : Calls Tryz.prog 11 #[.int .i64 i] w (DocNew w (clampN i)) := by
  have hcl := clamp_is i
  have hc8 := clamp_le i
  generalize clampN i = n at *
  have HN : Hid (n ≤ 8) := hc8
  have hA : Ext w (w.alloc (.cells #[.slice none 0 0, .slice none 0 0] 53)) := (Ext.refl w).alloc _
  have HB : Hid ((w.alloc (.cells #[.slice none 0 0, .slice none 0 0] 53)).heap[w.heap.size]? = some (.cells #[.slice none 0 0, .slice none 0 0] 53 (0, 0))) := heap_new w _
  go_enter Tryz.func11, Tryz.ntmps11
  go_wp2_with fail
  generalize hW : (w.alloc (.cells #[.slice none 0 0, .slice none 0 0] 53)) = W0 at *
  clear hW
  go_loopg [4] n (fun kx s4 wr => ∃ (k : Nat) (vU : Value), s4 = .int .i64 k ∧ k ≤ n ∧ n - k ≤ kx ∧ Hid (Ext w wr ∧ wr.heap[w.heap.size]? = some (.cells #[.slice none 0 0, vU] 53 (0, 0)) ∧ OwnB wr w.heap.size vU (List.replicate k true)))
  case atStart => exact ⟨0, _, rfl, Nat.zero_le _, Nat.le_refl _, (⟨hA, HB.out, OwnB.nil _ _⟩ : Ext w W0 ∧ W0.heap[w.heap.size]? = some (.cells #[.slice none 0 0, .slice none 0 0] 53 (0, 0)) ∧ OwnB W0 w.heap.size (.slice none 0 0) (List.replicate 0 true))⟩
  case round =>
    obtain ⟨k, vU, rfl, hkn, hkx, HW⟩ := hrel
    clear hA HB
    by_cases hlt : k < n
    · have hki : (k : Int) < (n : Int) := by omega
      obtain ⟨q, c, rfl, -, -⟩ := HW.out.2.2.slice
      have hA1 : Ext wr (wr.alloc (.cells #[.bool true] 4)) := (Ext.refl wr).alloc _
      have hO1 := HW.out.2.2.ext hA1
      have HO1 : Hid _ := hO1
      have x1 : (wr.alloc (.cells #[.bool true] 4)).cell? ⟨w.heap.size, 1, none⟩ = some (.slice q (List.replicate k true).length c) := by rw [heap_cell (hA1.heap HW.out.2.1)]; rfl
      have x2 : wr.cell? ⟨w.heap.size, 1, none⟩ = some (.slice q (List.replicate k true).length c) := by rw [heap_cell HW.out.2.1]; rfl
      rw [List.length_replicate] at x1 x2
      clear hO1
      have HOA : Hid (OwnB (wr.alloc (.cells #[.bool true] 4)) w.heap.size (.slice q k c) (List.replicate k true)) := by have h : OwnB (wr.alloc (.cells #[.bool true] 4)) w.heap.size (.slice q (List.replicate k true).length c) (List.replicate k true) := HO1.out; rw [List.length_replicate] at h; exact h
      have HXA : Hid ((wr.alloc (.cells #[.bool true] 4)).heap[w.heap.size]? = some (.cells #[.slice none 0 0, .slice q k c] 53 (0, 0))) := by have h := hA1.heap HW.out.2.1; rw [List.length_replicate] at h; exact h
      have far : ∀ (w3 : World), (wr.alloc (.cells #[.bool true] 4)).grownBy w3 (Value.slice q k c).ownBlock → w3.heap[w.heap.size]? = some (.cells #[.slice none 0 0, .slice q k c] 53 (0, 0)) := fun w3 hg3 =>
        (hg3.block _ (heap_lt HXA.out) (fun e => ownB_ne HOA.out HXA.out (by decide) (mem_blks.2 e.symm))).trans HXA.out
      have fex : ∀ (v3 : Value) (w3 : World), OwnB w3 w.heap.size v3 (List.replicate k true ++ [true]) → (wr.alloc (.cells #[.bool true] 4)).grownBy w3 (Value.slice q k c).ownBlock → Ext w w3 := fun v3 w3 ho3 hg3 => Tri.grown_ext (HW.out.1.trans hA1) HOA.out hg3
      go_wp2_with (at_builtin; refine append_bool rfl (.tmp 18) (.tmp 19) rfl w.heap.size (.slice q k c) (List.replicate k true) rfl HOA.out wr.heap.size 1 true rfl (heap_new wr _) (by rw [List.length_replicate]; have := HN.out; omega) (Nat.le_trans HW.out.1.size hA1.size) ?_; intro v3 w3 ho3 hg3 hat3; have hx3 := far w3 hg3; have hE3 := fex v3 w3 ho3 hg3; obtain ⟨q3, c3, hv3, -, -⟩ := ho3.slice; subst hv3; have H3 : Hid (OwnB w3 w.heap.size (.slice q3 (List.replicate k true ++ [true]).length c3) (List.replicate k true ++ [true]) ∧ Ext w w3 ∧ w3.heap[w.heap.size]? = some (.cells #[.slice none 0 0, .slice q k c] 53 (0, 0))) := ⟨ho3, hE3, hx3⟩; have y1 : w3.cell? ⟨w.heap.size, 1, none⟩ = some (.slice q k c) := (by rw [heap_cell hx3]; rfl); have f1 : w3.frozen? ⟨w.heap.size, 1, none⟩ = false := heap_frozen hx3; clear ho3 hg3 hat3 hx3 hE3)
      have hl3 : (List.replicate k true ++ [true]).length = k + 1 := by simp
      have hr3 : List.replicate k true ++ [true] = List.replicate (k + 1) true := by rw [← List.replicate_succ']
      obtain ⟨ho3, hx3, hX3⟩ := H3.out
      rw [hl3, hr3] at ho3
      have hS : ExtS [w.heap.size] w3 (w3.setCell ⟨w.heap.size, 1, none⟩ (.slice q3 (k + 1) c3)) := ExtS.setCell (ExtS.refl _ w3) (p := ⟨w.heap.size, 1, none⟩) (.inl (by simp)) _
      have hX4 : (w3.setCell ⟨w.heap.size, 1, none⟩ (.slice q3 (k + 1) c3)).heap[w.heap.size]? = some (.cells #[.slice none 0 0, .slice q3 (k + 1) c3] 53 (0, 0)) := by rw [heap_set hX3]; rfl
      have hO4 : OwnB (w3.setCell ⟨w.heap.size, 1, none⟩ (.slice q3 (k + 1) c3)) w.heap.size (.slice q3 (k + 1) c3) (List.replicate (k + 1) true) := ho3.later hS fun g hg e => ownB_ne ho3 hX3 (by decide) (by rw [List.mem_singleton.1 e] at hg; exact hg)
      have hE4 : Ext w (w3.setCell ⟨w.heap.size, 1, none⟩ (.slice q3 (k + 1) c3)) := ext_map hx3 (Nat.le_refl _) hS
      go_roundg (n - (k + 1))
      case measure => omega
      case rel => exact ⟨k + 1, .slice q3 (k + 1) c3, by go_num, by omega, Nat.le_refl _, ⟨hE4, hX4, hO4⟩⟩
    · obtain rfl : k = n := by omega
      go_wp2_with fail
      go_ret
      refine ⟨w.heap.size, w.heap.size :: blks vU, rfl, ⟨.slice none 0 0, vU, HW.out.2.1, OwnR.nil _ _, HW.out.2.2.base (Nat.zero_le _), by simp, fun x hx => (by cases hx), fun x hx => by simp [hx], fun x hx => ?_⟩, HW.out.1, fun x hx => ?_⟩
      · rcases List.mem_cons.1 hx with rfl | hx
        · exact heap_lt HW.out.2.1
        · exact (HW.out.2.2.lt x hx).2
      · rcases List.mem_cons.1 hx with rfl | hx
        · exact Nat.le_refl _
        · exact (HW.out.2.2.lt x hx).1

theorem rowP_ways (A : List Rt) : ∀ k, (A.map pxR).take (k + 1) = (A.map pxR).take k ++ (match A[k]? with | some r => [pxR r] | none => []) := fun k => by
  rw [List.take_add_one, List.getElem?_map]
  cases A[k]? <;> rfl

set_option maxHeartbeats 2000000 in
theorem owned_ways (xb : Nat) (L : List Rt) (ty : TypeId) (rest : List Value) (v : Value) (t : Int) (q : Option Addr) (m d : Nat) (U : List Bool) (w : World) (h : RibIn ty rest w xb v L) (hg : Rb.Good L) (hU : Ups w q m U) :
    Calls Tryz.prog 56 #[.pointer (some ⟨xb, 0, none⟩), .int .i64 t, .slice q m d] w fun e w' => e = .returned (.int .i64 (ownA (actL L t U) : Nat)) ∧ Ext w w' := by
  have ca := refActive_in xb L ty rest v t q m d U w h (by have := hg.len; omega) hU
  have hpf := act_pf hg t U
  generalize actL L t U = A at *
  have HA : Hid (Pf A) := hpf
  have hla := hpf.len
  clear h hU hg hpf
  go_enter Tryz.func56, Tryz.ntmps56
  go_wp2_with (go_at_call 39; refine ca.mono ?_; rintro e w1 ⟨v1, rfl, ho1, hx1⟩; obtain ⟨p1, c1, rfl, -, -, hR1⟩ := ho1.slice; have H1 : Hid (Ext w w1 ∧ Rd w1 p1 A.length c1 A) := ⟨hx1, hR1⟩; clear ho1 hx1 hR1)
  clear ca
  go_loopg [7, 9] A.length (fun kx s7 s9 wr => ∃ k : Nat, s9 = .int .i64 k ∧ k ≤ A.length ∧ A.length - k ≤ kx ∧ Hid (Ext w1 wr ∧ OwnP wr w1.heap.size s7 ((A.map pxR).take k)))
  case atStart => exact ⟨0, rfl, Nat.zero_le _, Nat.le_refl _, (⟨Ext.refl _, Tri.OwnP.nil _ _⟩ : Ext w1 w1 ∧ OwnP w1 w1.heap.size (.slice none 0 0) ((A.map pxR).take 0))⟩
  case round =>
    obtain ⟨k, rfl, hkA, hkx, HW⟩ := hrel
    by_cases hlt : k < A.length
    · have hki : (k : Int) < (A.length : Int) := by omega
      obtain ⟨r, hrk⟩ : ∃ r, A[k]? = some r := ⟨_, List.getElem?_eq_getElem hlt⟩
      obtain ⟨b, off, hpb, hb, g0, g1, g2, g3, g4, g5⟩ := (H1.out.2.ext HW.out.1).cell hrk
      subst hpb
      have hnx : (A.map pxR).take (k + 1) = (A.map pxR).take k ++ [(r.a, r.l)] := by rw [rowP_ways, hrk]; rfl
      have HNX : Hid _ := hnx
      have hA1 : Ext wr (wr.alloc (.cells #[.int .u32 r.a, .int .i64 r.l] 31)) := (Ext.refl wr).alloc _
      have HO1 : Hid (OwnP (wr.alloc (.cells #[.int .u32 r.a, .int .i64 r.l] 31)) w1.heap.size u7 ((A.map pxR).take k)) := Tri.owns_later HW.out.2 hA1
      have htl : Hid (((A.map pxR).take k).length ≤ 10000000) := (by simp; omega : ((A.map pxR).take k).length ≤ 10000000)
      clear hrk hnx
      go_wp2_with (at_builtin; refine append_px rfl (.tmp 20) (.tmp 26) rfl w1.heap.size u7 ((A.map pxR).take k) rfl HO1.out wr.heap.size 1 r.a r.l rfl (heap_new wr _) htl.out (Nat.le_trans HW.out.1.size hA1.size) ?_; intro v3 w3 ho3 hg3; have H3 : Hid (OwnP w3 w1.heap.size v3 ((A.map pxR).take k ++ [(r.a, r.l)]) ∧ Ext w1 w3) := ⟨ho3, Tri.grown_ext (HW.out.1.trans hA1) HO1.out hg3⟩; clear ho3 hg3)
      go_roundg (A.length - (k + 1))
      case measure => omega
      case rel => exact ⟨k + 1, by go_num, by omega, Nat.le_refl _, (by rw [HNX.out]; exact ⟨H3.out.2, H3.out.1⟩ : Ext w1 w3 ∧ OwnP w3 w1.heap.size v3 ((A.map pxR).take (k + 1)))⟩
    · obtain rfl : k = A.length := by omega
      have hfull : (A.map pxR).take A.length = A.map pxR := List.take_of_length_le (by simp)
      have hO := HW.out.2
      rw [hfull] at hO
      have cO := owned_any w1.heap.size u7 (A.map pxR) wr hO (fun p hp => by obtain ⟨x, hx, rfl⟩ := List.mem_map.1 hp; exact HA.out.vp x hx) (by simp; omega)
      have HX : Hid (Ext w wr) := H1.out.1.trans HW.out.1
      clear hO hfull
      go_wp2_with (go_at_call 73; refine cO.mono ?_; rintro e w4 ⟨rfl, hx4⟩)
      go_ret
      exact ⟨rfl, HX.out.trans hx4⟩
end Go.Proofs.YtmoimkeeldlpkaaGreat.Fb

namespace Go.Proofs.YtmoimkeeldlpkaaGreat.Fb

set_option maxRecDepth 100000

open Go.RowKit Go.Proofs.YtmoimkeeldlpkaaGreat Go.Proofs.YtmoimkeeldlpkaaGreat.Rb

set_option linter.unusedVariables false

set_option linter.unusedSimpArgs false

set_option maxHeartbeats 2000000 in
theorem full_any (xb : Nat) (L : List Rt) (ty : TypeId) (rest : List Value) (v : Value) (q : Option Addr) (m d : Nat) (U : List Bool) (w : World) (h : RibIn ty rest w xb v L) (hg : Rb.Good L) (hU : Ups w q m U) :
    Calls Tryz.prog 54 #[.pointer (some ⟨xb, 0, none⟩), .slice q m d] w fun e w' => e = .returned (.bool (fullB L U)) ∧ Ext w w' := by
  have co := fun (t : Int) w' (hx : Ext w w') => owned_ways xb L ty rest v t q m d U w' (h.ext hx) hg (hU.ext hx)
  clear h hg hU
  go_enter Tryz.func54, Tryz.ntmps54
  go_wp2_with fail
  go_loopg [5] 4 (fun kx s5 wr => ∃ k : Nat, s5 = .int .i64 k ∧ k ≤ 4 ∧ 4 - k ≤ kx ∧ Hid (Ext w wr ∧ ∀ j : Nat, j < k → ownA (actL L (j : Int) U) ≤ 16))
  case atStart => exact ⟨0, rfl, by omega, by omega, (⟨Ext.refl w, fun j hj => by omega⟩ : Ext w w ∧ ∀ j : Nat, j < 0 → ownA (actL L (j : Int) U) ≤ 16)⟩
  case round =>
    obtain ⟨k, rfl, hk4, hkx, HW⟩ := hrel
    by_cases hlt : k < 4
    · have hki : (k : Int) < 4 := by omega
      by_cases hroom : ownA (actL L (k : Int) U) ≤ 16
      · have hri : (ownA (actL L (k : Int) U) : Int) ≤ 16 := by omega
        have HRM : Hid (ownA (actL L (k : Int) U) ≤ 16) := hroom
        clear hroom
        go_wp2_with (go_at_call 56; refine (co (k : Int) wr HW.out.1).mono ?_; rintro e w1 ⟨rfl, hx1⟩)
        go_roundg (4 - (k + 1))
        case measure => omega
        case rel => exact ⟨k + 1, by go_num, by omega, Nat.le_refl _, (⟨HW.out.1.trans hx1, fun j hj => by
            rcases Nat.lt_or_ge j k with h1 | h1
            · exact HW.out.2 j h1
            · obtain rfl : j = k := by omega
              exact HRM.out⟩ : Ext w w1 ∧ ∀ j : Nat, j < k + 1 → ownA (actL L (j : Int) U) ≤ 16)⟩
      · have hri : ¬ ((ownA (actL L (k : Int) U) : Int) ≤ 16) := by omega
        have HF : Hid (fullB L U = true) := fullB_true hlt (by omega)
        clear hroom
        go_wp2_with (go_at_call 56; refine (co (k : Int) wr HW.out.1).mono ?_; rintro e w1 ⟨rfl, hx1⟩)
        go_ret
        exact ⟨by rw [HF.out]; rfl, HW.out.1.trans hx1⟩
    · obtain rfl : k = 4 := by omega
      have HF : Hid (fullB L U = false) := fullB_false fun k hk => HW.out.2 k hk
      go_wp2_with fail
      go_ret
      exact ⟨by rw [HF.out]; rfl, HW.out.1⟩

theorem dblocks_any (xb : Nat) (t : Int) (L : List Rt) (U : List Bool) (F : List Nat) (w : World) (h : DocAt w xb L U F) (hg : Rb.Good L) (h8 : U.length ≤ 8) :
    Calls Tryz.prog 37 #[.pointer (some ⟨xb, 0, none⟩), .int .i64 t] w fun e w' => e = .returned (.int .i64 (ownA (actL L t U) : Nat)) ∧ Ext w w' := by
  obtain ⟨vR, vU, h1, h2, h3, h4, h5, h6, h7⟩ := h
  obtain ⟨q, c, rfl, -, -⟩ := h3.slice
  have hU := h3.ups (by omega)
  have HX : Hid _ := h1
  have co := fun w' (hx : Ext w w') => owned_ways xb L 53 [.slice q U.length c] vR t q U.length c U w' (⟨hx.heap h1, h2.ext hx⟩ : RibIn 53 [.slice q U.length c] w' xb vR L) hg (hU.ext hx)
  clear h2 h3 h4 h5 h6 h7 hU h1
  go_enter Tryz.func37, Tryz.ntmps37
  go_wp2_with fail
  refine wp_region_eager [(0, false), (1, false), (2, false), (3, false), (4, false), (5, false), (6, false), (7, false), (8, true), (9, false)] (by kernel_rfl) (by kernel_rfl) rfl (by kernel_rfl) (fun _ _ _ _ _ h => h) ?_
  have hxd : Ext w w.drew := (Ext.refl w).drew
  have e1 : ∀ w', Ext w.drew w' → w'.cell? ⟨xb, 1, none⟩ = some (.slice q U.length c) := fun w' h => by rw [heap_cell ((hxd.trans h).heap HX.out)]; rfl
  generalize w.drew = W at *
  iterate 8 (refine wpE_read (v := ?_) rfl (by rfl) ?_ ?_; rotate_left; (focus (intro w' hx; go_simp; first | done | with_reducible rfl)); simp only [Act.put, List.setIfInBounds_toArray, List.set_cons_zero, List.set_cons_succ])
  (refine wpE_call rfl (by rfl) (fun K hK => ?_); go_simp; first | (go_at_call 56; refine (co W hxd).mono ?_; rintro e w1 ⟨rfl, hx1⟩; refine hK _ _ hx1 ?_; clear hK K))
  iterate 1 (refine wpE_read (v := ?_) rfl (by rfl) ?_ ?_; rotate_left; (focus (intro w' hx; go_simp; first | done | with_reducible rfl)); simp only [Act.put, List.setIfInBounds_toArray, List.set_cons_zero, List.set_cons_succ])
  refine wpE_done ?_
  go_wp2_with fail
  go_ret
  exact ⟨rfl, hxd.trans hx1⟩

theorem ddel_any (xb : Nat) (L : List Rt) (U : List Bool) (F : List Nat) (r : Rt) (w : World) (h : DocAt w xb L U F) (hg : Rb.Good L) :
    Calls Tryz.prog 35 #[.pointer (some ⟨xb, 0, none⟩), (.agg #[.int .i64 r.t, .int .u32 r.a, .int .i64 r.l, .int .i64 r.i, .int .u32 r.g, .int .i64 r.m])] w fun e w' => e = .returned (.int .i64 (delE L r)) ∧ DocAns w xb F (delS L r) U w' := by
  obtain ⟨vR, vU, h1, h2, h3, h4, h5, h6, h7⟩ := h
  refine (refDel_in xb L 53 [vU] vR r w (by decide) ⟨h1, h2⟩ (by have := hg.len; omega)).mono ?_
  rintro e w' ⟨rfl, v', ⟨k1, k2⟩, k3, k4⟩
  have hn : ∀ x ∈ blks vU, x ∉ [xb] := fun x hx e => ownB_ne h3 h1 (by decide) (by rw [List.mem_singleton.1 e] at hx; exact hx)
  refine ⟨rfl, F ++ blks v', ⟨v', vU, k1, k2, h3.later k3 hn, List.mem_append_left _ h4, fun x hx => List.mem_append_right _ hx, fun x hx => List.mem_append_left _ (h6 x hx), fun x hx => ?_⟩, k3.mono (fun b hb => by rw [List.mem_singleton.1 hb]; exact h4), fun x hx => ?_⟩
  · rcases List.mem_append.1 hx with hx | hx
    · exact Nat.lt_of_lt_of_le (h7 x hx) k3.size
    · exact (k2.lt x hx).2
  · rcases List.mem_append.1 hx with hx | hx
    · exact .inl hx
    · rcases k4 with k4 | k4
      · rw [k4] at hx; exact .inl (h5 x hx)
      · exact .inr (k4 x hx)
end Go.Proofs.YtmoimkeeldlpkaaGreat.Fb
