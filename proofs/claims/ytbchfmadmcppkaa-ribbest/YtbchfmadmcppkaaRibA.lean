/- Best, Active. -/
import Derived.Test.YtbchfmadmcppkaaRib9
import Derived.Test.YtbchfmadmcppkaaRibR
import Derived.Test.YtbchfmadmcppkaaRib5
namespace Go.Proofs.Ytbchfmadmcppkaa.Rb
set_option maxRecDepth 100000
open Go.RowKit Go.Proofs.Ytbchfmadmcppkaa
set_option linter.unusedVariables false
set_option linter.unusedSimpArgs false

theorem Good.up {L : List Rt} (h : Good L) : ∀ x ∈ L, 0 ≤ x.i := fun x hx => ((isR_iff x).1 (h.is x hx)).2.2.2.1

set_option maxHeartbeats 1000000 in
theorem best_of (rb : Nat) (L : List Rt) (F : List Nat) (t a l : Int) (q : Option Addr) (m d : Nat) (U : List Bool) (w : World) (h : RibAt 60 w rb L F) (hg : Good L) (hU : Ups w q m U) :
    Calls Try.prog 17 #[.pointer (some ⟨rb, 0, none⟩), .int .i64 t, .agg #[.int .u32 a, .int .i64 l], .slice q m d] w (BestAns w (bestO L t a l U)) := by
  obtain ⟨v, -, hX, hO⟩ := h
  obtain ⟨p, c, rfl, hc1, -, hR⟩ := hO.slice
  have hlen := hg.len
  have hA : Ext w ((w.alloc (.cells #[.int .u32 a, .int .i64 l] 25)).alloc (.cells #[.int .i64 zeroR.t, .int .u32 zeroR.a, .int .i64 zeroR.l, .int .i64 zeroR.i, .int .u32 zeroR.g, .int .i64 zeroR.m] 27)) := ((Ext.refl w).alloc _).alloc _
  have hB1 : ((w.alloc (.cells #[.int .u32 a, .int .i64 l] 25)).alloc (.cells #[.int .i64 zeroR.t, .int .u32 zeroR.a, .int .i64 zeroR.l, .int .i64 zeroR.i, .int .u32 zeroR.g, .int .i64 zeroR.m] 27)).heap[w.heap.size]? = some (.cells #[.int .u32 a, .int .i64 l] 25 (0, 0)) :=
    (Below.heap_alloc (w.alloc (.cells #[.int .u32 a, .int .i64 l] 25)) _ w.heap.size (by simp)).trans (heap_new w _)
  have hB2 : ((w.alloc (.cells #[.int .u32 a, .int .i64 l] 25)).alloc (.cells #[.int .i64 zeroR.t, .int .u32 zeroR.a, .int .i64 zeroR.l, .int .i64 zeroR.i, .int .u32 zeroR.g, .int .i64 zeroR.m] 27)).heap[w.heap.size + 1]? = some (.cells #[.int .i64 zeroR.t, .int .u32 zeroR.a, .int .i64 zeroR.l, .int .i64 zeroR.i, .int .u32 zeroR.g, .int .i64 zeroR.m] 27 (0, 0)) := by
    have := heap_new (w.alloc (.cells #[.int .u32 a, .int .i64 l] 25)) (.cells #[.int .i64 zeroR.t, .int .u32 zeroR.a, .int .i64 zeroR.l, .int .i64 zeroR.i, .int .u32 zeroR.g, .int .i64 zeroR.m] 27)
    rwa [show (w.alloc (.cells #[.int .u32 a, .int .i64 l] 25)).heap.size = w.heap.size + 1 by simp] at this
  have k1 := fun w' (hx : Ext w w') => ofTable_any p L.length c L t w w' hR hx hc1 (by omega) hg.srt
  have k2 := fun w' (hx : Ext w w') p' n' c' (hr : Rd w p' n' c' (L.filter (tabB t))) (h1 : n' ≤ c') => ofPrefix_any p' n' c' (L.filter (tabB t)) t a l w w' hr hx h1 (by have := hr.len; have := List.length_filter_le (tabB t) L; omega) (hg.srt.filter _) tab_of
  have k3 := fun w' (hx : Ext w w') p' n' c' (hr : Rd w p' n' c' ((L.filter (tabB t)).filter (selB t a l))) => best_any p' n' c' ((L.filter (tabB t)).filter (selB t a l)) q m d U w' (hr.ext hx) (by have := hr.len; have := List.length_filter_le (tabB t) L; have := List.length_filter_le (selB t a l) (L.filter (tabB t)); omega) (hU.ext hx) (fun x hx => hg.up x (List.mem_filter.1 (List.mem_filter.1 hx).1).1)
  have ho : bestL U ((L.filter (tabB t)).filter (selB t a l)) = bestO L t a l U := by rw [sel_tab]; rfl
  rw [ho] at k3
  generalize bestO L t a l U = o at *
  have K1 : Hid _ := k1
  have K2 : Hid _ := k2
  have K3 : Hid _ := k3
  have HX : Hid _ := hX
  have HB : Hid _ := hB2
  clear k1 k2 k3 hO hR hg hU ho hX
  have hne : rb ≠ w.heap.size + 1 := by have := heap_lt HX.out; omega
  go_enter Try.func17, Try.ntmps17
  go_wp2_with fail
  refine wp_region_eagerX (w.heap.size + 1) [(0, false), (1, false), (2, false), (3, false), (4, false), (6, false), (8, false), (5, true), (7, true), (9, true), (10, false), (11, false), (12, true), (13, false)] (by kernel_rfl) (by kernel_rfl) rfl (by kernel_rfl) (fun _ _ _ _ _ h => h) ?_
  have hE : Ext w ((w.alloc (.cells #[.int .u32 a, .int .i64 l] 25)).alloc (.cells #[.int .i64 zeroR.t, .int .u32 zeroR.a, .int .i64 zeroR.l, .int .i64 zeroR.i, .int .u32 zeroR.g, .int .i64 zeroR.m] 27)).drew := hA.drew
  have hB1' : ((w.alloc (.cells #[.int .u32 a, .int .i64 l] 25)).alloc (.cells #[.int .i64 zeroR.t, .int .u32 zeroR.a, .int .i64 zeroR.l, .int .i64 zeroR.i, .int .u32 zeroR.g, .int .i64 zeroR.m] 27)).drew.heap[w.heap.size]? = some (.cells #[.int .u32 a, .int .i64 l] 25 (0, 0)) := hB1
  have HB' : Hid (((w.alloc (.cells #[.int .u32 a, .int .i64 l] 25)).alloc (.cells #[.int .i64 zeroR.t, .int .u32 zeroR.a, .int .i64 zeroR.l, .int .i64 zeroR.i, .int .u32 zeroR.g, .int .i64 zeroR.m] 27)).drew.heap[w.heap.size + 1]? = some (.cells #[.int .i64 zeroR.t, .int .u32 zeroR.a, .int .i64 zeroR.l, .int .i64 zeroR.i, .int .u32 zeroR.g, .int .i64 zeroR.m] 27 (0, 0))) := HB.out
  clear hB1 hB2 HB hA
  change wpE (ExtX (w.heap.size + 1)) Try.prog _ _ _ _ _ ((w.alloc (.cells #[.int .u32 a, .int .i64 l] 25)).alloc (.cells #[.int .i64 zeroR.t, .int .u32 zeroR.a, .int .i64 zeroR.l, .int .i64 zeroR.i, .int .u32 zeroR.g, .int .i64 zeroR.m] 27)).drew
  generalize ((w.alloc (.cells #[.int .u32 a, .int .i64 l] 25)).alloc (.cells #[.int .i64 zeroR.t, .int .u32 zeroR.a, .int .i64 zeroR.l, .int .i64 zeroR.i, .int .u32 zeroR.g, .int .i64 zeroR.m] 27)).drew = W at *
  obtain ⟨b0, b1⟩ := box2 hB1' (w.heap.size + 1) (by omega)
  have x0 : ∀ w', ExtX (w.heap.size + 1) W w' → w'.cell? ⟨rb, 0, none⟩ = some (.slice p L.length c) := fun w' h => by
    rw [heap_cell ((h.block rb (heap_lt (hE.heap HX.out)) hne).trans (hE.heap HX.out))]; rfl
  iterate 7 (refine wpE_read (v := ?_) rfl (by rfl) ?_ ?_; rotate_left; (focus (intro w' hx; go_simp; first | done | with_reducible rfl)); simp only [Act.put, List.setIfInBounds_toArray, List.set_cons_zero, List.set_cons_succ])
  clear x0 b0 b1
  refine wpE_call rfl (by rfl) (fun K hK => ?_)
  go_simp
  go_at_call 36
  refine (K1.out _ hE).mono ?_
  rintro e w1 ⟨p1, n1, c1, rfl, h1, hR1, hx1⟩
  refine hK _ _ (hx1.but _) ?_
  clear hK K
  refine wpE_call rfl (by rfl) (fun K hK => ?_)
  go_simp
  go_at_call 35
  refine (K2.out _ (hE.trans hx1) _ _ _ hR1 h1).mono ?_
  rintro e w2 ⟨p2, n2, c2, rfl, h2, hR2, hx2⟩
  refine hK _ _ (hx2.but _) ?_
  clear hK K
  refine wpE_call rfl (by rfl) (fun K hK => ?_)
  go_simp
  go_at_call 34
  refine (K3.out _ (hE.trans (hx1.trans hx2)) _ _ _ hR2).mono ?_
  rintro e w3 ⟨rfl, hx3⟩
  refine hK _ _ (hx3.but _) ?_
  clear hK K
  iterate 2 (refine wpE_read (v := ?_) rfl (by rfl) ?_ ?_; rotate_left; (focus (intro w' hx; go_simp; first | done | with_reducible rfl)); simp only [Act.put, List.setIfInBounds_toArray, List.set_cons_zero, List.set_cons_succ])
  have hx13 := hx1.trans (hx2.trans hx3)
  refine wpE_call rfl (by rfl) (fun K hK => ?_)
  refine wp_store 27 _ _ rfl rfl 6 (w.heap.size + 1) #[.int .i64 (theR o).t, .int .u32 (theR o).a, .int .i64 (theR o).l, .int .i64 (theR o).i, .int .u32 (theR o).g, .int .i64 (theR o).m] _ _ rfl rfl (hx13.heap HB'.out) rt_size rfl rfl (by simp [Value.oneCell']) ?_
  intro w5 hx5 k5
  refine hK _ _ hx5 ?_
  clear hK K
  iterate 1 (refine wpE_read (v := ?_) rfl (by rfl) ?_ ?_; rotate_left; (focus (intro w' hx; go_simp; first | done | with_reducible rfl)); simp only [Act.put, List.setIfInBounds_toArray, List.set_cons_zero, List.set_cons_succ])
  refine wpE_done ?_
  go_wp2_with fail
  exact bodyPost_ret (results_two Try.results17 _ rfl k5 Try.underlying27 rfl rt_size) rfl ⟨rfl, ExtX.ext (hE.trans hx13) hx5 (by omega)⟩

theorem actN_len (L : List Rt) (t : Int) (U : List Bool) : ∀ k, (actN L t U k).length ≤ k
  | 0 => Nat.le_refl _
  | k + 1 => by
    have ih := actN_len L t U k
    unfold actN
    rw [List.length_append]
    split
    · split
      · simp only [List.length_nil]; omega
      · rename_i r _
        cases bestO L t r.a r.l U <;> simp only [Option.toList_none, Option.toList_some, List.length_nil, List.length_cons] <;> omega
    · simp only [List.length_nil]; omega

theorem Ext.app {w wr w1 : World} {v : Value} {L : List Rt} (hx : Ext w wr) (ho : OwnR wr w.heap.size v L) (hg : wr.grownBy w1 v.ownBlock) : Ext w w1 := Tri.grown_ext hx ho hg

set_option maxHeartbeats 1000000 in
theorem active_any (rb : Nat) (L : List Rt) (F : List Nat) (t : Int) (q : Option Addr) (m d : Nat) (U : List Bool) (w : World) (h : RibAt 60 w rb L F) (hg : Good L) (hU : Ups w q m U) :
    Calls Try.prog 19 #[.pointer (some ⟨rb, 0, none⟩), .int .i64 t, .slice q m d] w (RowNew w (actL L t U)) := by
  obtain ⟨v, -, hX, hO⟩ := h
  obtain ⟨p, c, rfl, hc1, -, hR⟩ := hO.slice
  have hlen := hg.len
  have k1 := ofTable_any p L.length c L t w w hR (Ext.refl w) hc1 (by omega) hg.srt
  rw [actL_tab hg.srt U]
  have hT := List.length_filter_le (tabB t) L
  have sT := hg.srt.filter (tabB t)
  have tT : ∀ x ∈ L.filter (tabB t), x.t = t := tab_of
  have uT : ∀ x ∈ L.filter (tabB t), 0 ≤ x.i := fun x hx => hg.up x (List.mem_filter.1 hx).1
  have v0 : w.cell? ⟨rb, 0, none⟩ = some (.slice p L.length c) := by rw [heap_cell hX]; rfl
  change Calls Try.prog 36 _ w (PartAns w w (L.filter (tabB t))) at k1
  generalize L.filter (tabB t) = T at *
  have HT : Hid (T.length ≤ 256) := by show T.length ≤ 256; omega
  have HS : Hid (Srt T ∧ (∀ x ∈ T, x.t = t) ∧ ∀ x ∈ T, 0 ≤ x.i) := ⟨sT, tT, uT⟩
  have HU : Hid (Ups w q m U) := hU
  clear hX hO hR hg hU sT tT uT hT hlen
  go_enter Try.func19, Try.ntmps19
  go_wp2_with (go_at_call 36; refine k1.mono ?_; rintro e w1 ⟨p1, n1, c1, rfl, h1, hR1, hx1⟩)
  clear k1 v0
  go_loopg [7, 8] T.length (fun kx s7 s8 wr => ∃ (v : Value) (p' : Option Addr) (n' c' k : Nat), s7 = v ∧ s8 = .slice p' n' c' ∧ n' ≤ c' ∧ k ≤ T.length ∧ T.length - k ≤ kx ∧ Ext w wr ∧ Hid (Rd w p' n' c' (T.drop k)) ∧ Hid (OwnR wr w.heap.size v (actN T t U k)) ∧ Hid (Starts T t k))
  case atStart => exact ⟨.slice none 0 0, p1, n1, c1, 0, rfl, rfl, h1, Nat.zero_le _, by omega, hx1, hR1, OwnR.nil _ _, Starts.zero T t⟩
  case round =>
    clear hR1
    obtain ⟨v, p', n', c', k, rfl, rfl, hnc, hkT, hkx, hx, HR, HO, HK⟩ := hrel
    have hn' := HR.out.len
    rw [List.length_drop] at hn'
    obtain ⟨pv, cv, hv, hv1, -, -⟩ := HO.out.slice
    subst hv
    by_cases hlt : k < T.length
    · obtain ⟨x, hxk⟩ : ∃ x, T[k]? = some x := ⟨_, List.getElem?_eq_getElem hlt⟩
      have hx0 : (T.drop k)[0]? = some x := by rw [List.getElem?_drop]; exact hxk
      obtain ⟨r1, r2, r3, r4⟩ := act_round (U := U) HS.out.1 HS.out.2.1 hxk HK.out
      obtain ⟨b, off, hp', hb, g0, g1, g2, g3, g4, g5⟩ := (HR.out.ext hx).cell hx0
      subst hp'
      simp only [Nat.zero_mul, Nat.add_zero] at g1 g2
      have hc := HT.out
      have k2 := ofPrefix_any (some ⟨b, off, none⟩) n' c' (T.drop k) t x.a x.l w wr HR.out hx hnc (by omega) (HS.out.1.drop k) (fun y hy => HS.out.2.1 y (List.mem_of_mem_drop hy))
      have hal := actN_len T t U k
      generalize hA : (T.drop k).filter (selB t x.a x.l) = A at *
      have k3 := fun w' (hx : Ext w w') p' n' c' (hr : Rd w p' n' c' A) => best_any p' n' c' A q m d U w' (hr.ext hx) (by have := hr.len; omega) (HU.out.ext hx) (fun y hy => by rw [← hA] at hy; exact HS.out.2.2 y (List.mem_of_mem_drop (List.mem_filter.1 hy).1))
      have HA : Hid _ := hA
      generalize bestL U A = o at *
      have HR3 : Hid (Starts T t (k + A.length)) := r3
      have HR4 : Hid _ := r4
      have hnk : (0 : Int) < (n' : Int) := by omega
      clear hA r3 r4 hx0 hxk g0 g3 g4 g5
      generalize hln : (actN T t U k).length = ln at *
      have HLN : Hid _ := hln
      clear hln
      cases o with
      | none =>
        go_wp2_with (first
          | (go_at_call 35; refine k2.mono ?_; rintro e w2 ⟨p2, n2, c2, rfl, h2, hR2, hx2⟩; have hn2 := hR2.len; have HR2 : Hid (Rd w p2 n2 c2 A) := hR2; clear hR2; have hsl := (fun w => cut_l (some ⟨b, off, none⟩) n' c' n2 (by omega) hnc w); generalize hp3 : (if c' = n2 then (some ⟨b, off, none⟩ : Option Addr) else (some ⟨b, off, none⟩ : Option Addr).map (·.add (n2 * 6))) = p3 at hsl; have HP3 : Hid _ := hp3; clear hp3)
          | (go_at_call 34; refine (k3 _ (hx.trans hx2) _ _ _ HR2.out).mono ?_; rintro e w3 ⟨rfl, hx3⟩))
        go_roundg (T.length - (k + A.length))
        case measure => omega
        case rel =>
          have hcut := HR.out.cut (lo := n2) (hi := n') (by omega) (Nat.le_refl _) hnc
          rw [HP3.out, List.drop_drop, List.take_of_length_le (by rw [List.length_drop]; omega), ← hn2] at hcut
          rw [← hn2]
          have hxE := hx.trans (hx2.trans hx3)
          refine ⟨_, p3, n' - A.length, c' - A.length, k + A.length, rfl, rfl, by omega, by omega, Nat.le_refl _, hxE.trans ((Ext.refl w3).alloc _), hcut, ?_, HR3⟩
          have h9 : actN T t U (k + A.length) = actN T t U k := by rw [HR4.out]; simp
          show OwnR _ _ _ _
          rw [h9]
          exact HO.out.ext (hx2.trans (hx3.trans ((Ext.refl w3).alloc _)))
      | some z =>
        go_wp2_with (first
          | (go_at_call 35; refine k2.mono ?_; rintro e w2 ⟨p2, n2, c2, rfl, h2, hR2, hx2⟩; have hn2 := hR2.len; have HR2 : Hid (Rd w p2 n2 c2 A) := hR2; clear hR2; have hsl := (fun w => cut_l (some ⟨b, off, none⟩) n' c' n2 (by omega) hnc w); generalize hp3 : (if c' = n2 then (some ⟨b, off, none⟩ : Option Addr) else (some ⟨b, off, none⟩ : Option Addr).map (·.add (n2 * 6))) = p3 at hsl; have HP3 : Hid _ := hp3; clear hp3)
          | (go_at_call 34; refine (k3 _ (hx.trans hx2) _ _ _ HR2.out).mono ?_; rintro e w3 ⟨rfl, hx3⟩; obtain ⟨z0, z1, z2, z3, z4, z5⟩ := box_rtE (heap_new w3 (.cells #[.int .i64 (theR (some z)).t, .int .u32 (theR (some z)).a, .int .i64 (theR (some z)).l, .int .i64 (theR (some z)).i, .int .u32 (theR (some z)).g, .int .i64 (theR (some z)).m] 27)); have f0 := z0 _ (Ext.refl _); have f1 := z1 _ (Ext.refl _); have f2 := z2 _ (Ext.refl _); have f3 := z3 _ (Ext.refl _); have f4 := z4 _ (Ext.refl _); have f5 := z5 _ (Ext.refl _); clear z0 z1 z2 z3 z4 z5; have TB : Hid _ := two_boxes w3 #[.int .i64 (theR (some z)).t, .int .u32 (theR (some z)).a, .int .i64 (theR (some z)).l, .int .i64 (theR (some z)).i, .int .u32 (theR (some z)).g, .int .i64 (theR (some z)).m] #[.int .i64 (theR (some z)).t, .int .u32 (theR (some z)).a, .int .i64 (theR (some z)).l, .int .i64 (theR (some z)).i, .int .u32 (theR (some z)).g, .int .i64 (theR (some z)).m] 27; have HX5 : Hid (Ext wr ((w3.alloc (.cells #[.int .i64 (theR (some z)).t, .int .u32 (theR (some z)).a, .int .i64 (theR (some z)).l, .int .i64 (theR (some z)).i, .int .u32 (theR (some z)).g, .int .i64 (theR (some z)).m] 27)).alloc (.cells #[.int .i64 (theR (some z)).t, .int .u32 (theR (some z)).a, .int .i64 (theR (some z)).l, .int .i64 (theR (some z)).i, .int .u32 (theR (some z)).g, .int .i64 (theR (some z)).m] 27))) := hx2.trans (hx3.trans TB.out.1))
          | (at_builtin; refine wpList_want rfl (fun K hK => wp_app_rt (.tmp 36) (.tmp 38) rfl w.heap.size (.slice pv ln cv) (actN T t U k) [z] rfl (HO.out.ext HX5.out) (some ⟨w3.heap.size + 1, 0, none⟩) 1 1 rfl (rd_lit TB.out.2.2) (by rw [HLN.out]; omega) (hx.trans HX5.out).size ?_); intro v6 w6 ho6 hg6 hat6; have HO6 : Hid (OwnR w6 w.heap.size v6 (actN T t U k ++ [z])) := ho6; have hx6 : Ext w w6 := Ext.app (hx.trans HX5.out) (HO.out.ext HX5.out) hg6; refine hK _ _ ?_; clear hK K ho6 hg6 hat6))
        go_roundg (T.length - (k + A.length))
        case measure => omega
        case rel =>
          have hcut := HR.out.cut (lo := n2) (hi := n') (by omega) (Nat.le_refl _) hnc
          rw [HP3.out, List.drop_drop, List.take_of_length_le (by rw [List.length_drop]; omega), ← hn2] at hcut
          rw [← hn2]
          refine ⟨_, p3, n' - A.length, c' - A.length, k + A.length, rfl, rfl, by omega, by omega, Nat.le_refl _, hx6, hcut, ?_, HR3⟩
          show OwnR _ _ _ _
          rw [HR4.out]
          exact HO6.out
    · obtain rfl : k = T.length := by omega
      have hnz : n' = 0 := by omega
      subst hnz
      go_wp2_with fail
      go_ret
      exact ⟨_, rfl, HO.out, hx⟩
end Go.Proofs.Ytbchfmadmcppkaa.Rb
