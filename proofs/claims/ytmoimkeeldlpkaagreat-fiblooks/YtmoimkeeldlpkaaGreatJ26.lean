/- Texts joined by a program: Law12L, Law12N, Law12P, Law12Z, Law12T, Law12R. -/
import Derived.Test.YtmoimkeeldlpkaaGreatJ10
import Derived.Test.YtmoimkeeldlpkaaGreatJ25
namespace Go.Proofs.YtmoimkeeldlpkaaGreat.Fb

set_option maxRecDepth 100000

open Go.RowKit Go.Proofs.YtmoimkeeldlpkaaGreat Go.Proofs.YtmoimkeeldlpkaaGreat.Rb

set_option linter.unusedVariables false

set_option linter.unusedSimpArgs false

def k1 : Rt := ⟨0, 0, 0, 0, 0, 0⟩
def k2 : Rt := ⟨0, 167772160, 8, 1, 0, 0⟩

theorem clamp2 : clampN 2 = 2 := by decide
theorem addF1 : addF [] [true, true] k1 = (0, [k1]) := by kernel_rfl
theorem addF2 : addF [k1] [true, true] k2 = (0, [k1, k2]) := by kernel_rfl
theorem way2 : wayO [k1, k2] [true, true] 0 167772165 = some k2 := by kernel_rfl

def OkNew (w : World) (e : Ending) (w' : World) : Prop := e = .returned (.bool true) ∧ Ext w w'

set_option maxHeartbeats 1000000 in
theorem known_any (w : World) : Calls Tryz.prog 14 #[] w (OkNew w) := by
  have cN := fnew_any 2 w
  rw [clamp2] at cN
  have cA := fun w fb F (h : FibAt w fb [] [true, true] F) => add_any fb [] [true, true] F k1 w h ⟨by decide, by decide, by decide, by decide, by decide, by decide, by decide, by decide, by decide, by decide, by decide, by decide⟩
  have cB := fun w fb F (h : FibAt w fb [k1] [true, true] F) => add_any fb [k1] [true, true] F k2 w h ⟨by decide, by decide, by decide, by decide, by decide, by decide, by decide, by decide, by decide, by decide, by decide, by decide⟩
  have cL := fun w fb F (h : FibAt w fb [k1, k2] [true, true] F) => look_any fb 0 167772165 [k1, k2] [true, true] F w h (by omega) (by omega)
  rw [addF1] at cA
  rw [addF2] at cB
  rw [way2] at cL
  have tok1 : Hid True := trivial
  have tok2 : Hid True := trivial
  go_enter Tryz.func14, Tryz.ntmps14
  go_wp2_with (first
    | (go_at_call 10; refine cN.mono ?_; rintro e w1 ⟨fb, F, rfl, h1, hx1, hF⟩; have H1 : Hid (FibAt w1 fb [] [true, true] F ∧ Ext w w1 ∧ ∀ x ∈ F, w.heap.size ≤ x) := ⟨h1, hx1, hF⟩; clear h1 hx1 hF)
    | (go_at_call 24; clear tok1; refine (cA _ _ _ H1.out.1).mono ?_; rintro e w2 ⟨rfl, F2, g1, g2, g3⟩; have H2 : Hid (FibAt w2 fb [k1] [true, true] F2 ∧ Ext w w2 ∧ ∀ x ∈ F2, w.heap.size ≤ x) := ⟨g1, ExtS.ext ((H1.out.2.1.toS F).trans g2) H1.out.2.2, fun x hx => (g3 x hx).elim (H1.out.2.2 x) fun h => Nat.le_trans H1.out.2.1.size h⟩; clear g1 g2 g3)
    | (go_at_call 24; clear tok2; refine (cB _ _ _ H2.out.1).mono ?_; rintro e w3 ⟨rfl, F3, g1, g2, g3⟩; have H3 : Hid (FibAt w3 fb [k1, k2] [true, true] F3 ∧ Ext w w3) := ⟨g1, ExtS.ext ((H2.out.2.1.toS F2).trans g2) H2.out.2.2⟩; clear g1 g2 g3)
    | (go_at_call 16; refine (cL _ _ _ H3.out.1).mono ?_; rintro e w4 ⟨rfl, hx4⟩; obtain ⟨z0, z1, z2, z3, z4, z5⟩ := box_rtE (heap_new w4 (.cells #[.int .i64 (theR (some k2)).t, .int .u32 (theR (some k2)).a, .int .i64 (theR (some k2)).l, .int .i64 (theR (some k2)).i, .int .u32 (theR (some k2)).g, .int .i64 (theR (some k2)).m] 33)); have f3 : (w4.alloc (.cells #[.int .i64 (theR (some k2)).t, .int .u32 (theR (some k2)).a, .int .i64 (theR (some k2)).l, .int .i64 (theR (some k2)).i, .int .u32 (theR (some k2)).g, .int .i64 (theR (some k2)).m] 33)).cell? ⟨w4.heap.size, 2 + 1, none⟩ = some (.int .i64 1) := z3 _ (Ext.refl _); clear z0 z1 z2 z3 z4 z5))
  go_ret
  exact ⟨rfl, (H3.out.2.trans hx4).trans ((Ext.refl w4).alloc _)⟩

/-- The cells of a row of bools. -/
theorem OwnB.cell {w : World} {B : Nat} {q : Option Addr} {n c : Nat} {U : List Bool} (h : OwnB w B (.slice q n c) U) {k : Nat} {u : Bool} (hk : U[k]? = some u) : ∃ g, q = some ⟨g, 0, none⟩ ∧ w.cell? ⟨g, k, none⟩ = some (.bool u) := by
  obtain ⟨g, c', cur, e, -, hg, hc⟩ := h.block (by have := (List.getElem?_eq_some_iff.1 hk).1; omega)
  cases e
  exact ⟨g, rfl, by rw [heap_cell hg]; exact hc k u hk⟩

set_option maxHeartbeats 4000000 in
theorem alike_any (fb xb : Nat) (L : List Rt) (U : List Bool) (H : List Nat) (w w0 : World) (h : BothH w w0 fb xb L U L U H) :
    Calls Tryz.prog 13 #[.pointer (some ⟨fb, 0, none⟩), .pointer (some ⟨xb, 0, none⟩)] w0 (OkNew w0) := by
  obtain ⟨hg, h8, -⟩ := h.good
  obtain ⟨F, G, hF, hX, -⟩ := h
  have HF : Hid (FibAt w0 fb L U F) := hF
  have HX : Hid (DocAt w0 xb L U G) := hX
  have HG : Hid (Rb.Good L ∧ U.length ≤ 8) := ⟨hg, h8⟩
  obtain ⟨vR, vU, h1, h2, h3, -⟩ := hX
  obtain ⟨q, c, rfl, -, -⟩ := h3.slice
  obtain ⟨pR, cR, rfl, -, -, hR⟩ := h2.slice
  have HB : Hid (w0.heap[xb]? = some (.cells #[.slice pR L.length cR, .slice q U.length c] 53 (0, 0)) ∧ Rd w0 pR L.length cR L ∧ OwnB w0 0 (.slice q U.length c) U) := ⟨h1, hR, h3⟩
  have cu := up_any fb L U F w0 hF
  have hl := hg.len
  clear hF h1 h2 h3 hR hg h8
  go_enter Tryz.func13, Tryz.ntmps13
  go_wp2_with (go_at_call 26; refine cu.mono ?_; rintro e w1 ⟨v1, rfl, ho1, hx1⟩; obtain ⟨q1, c1, rfl, -, -⟩ := ho1.slice; have H1 : Hid (OwnB w1 w0.heap.size (.slice q1 U.length c1) U ∧ Ext w0 w1) := ⟨ho1, hx1⟩; clear ho1 hx1)
  clear cu
  refine wp_region_eager [(0, false), (1, false), (2, false), (3, false), (4, false), (5, false), (6, false), (7, false), (8, false), (9, false), (11, false), (12, false), (13, false), (14, false), (15, false), (10, true), (16, true), (17, false), (18, false)] (by kernel_rfl) (by kernel_rfl) rfl (by kernel_rfl) (fun _ _ _ _ _ h => h) ?_
  have hxd : Ext w0 w1.drew := H1.out.2.drew
  have e0 : ∀ w', Ext w1.drew w' → w'.cell? ⟨xb, 0, none⟩ = some (.slice pR L.length cR) := fun w' h => by rw [heap_cell ((hxd.trans h).heap HB.out.1)]; rfl
  have e1 : ∀ w', Ext w1.drew w' → w'.cell? ⟨xb, 1, none⟩ = some (.slice q U.length c) := fun w' h => by rw [heap_cell ((hxd.trans h).heap HB.out.1)]; rfl
  have HO1 : Hid (OwnB w1.drew w0.heap.size (.slice q1 U.length c1) U) := H1.out.1.ext (Ext.refl w1).drew
  have HXD : Hid (Ext w0 w1.drew) := hxd
  clear H1 hxd
  generalize w1.drew = W at *
  iterate 15 (refine wpE_read (v := ?_) rfl (by rfl) ?_ ?_; rotate_left; (focus (intro w' hx; go_simp; first | done | with_reducible rfl)); simp only [Act.put, List.setIfInBounds_toArray, List.set_cons_zero, List.set_cons_succ])
  (refine wpE_call rfl (by rfl) (fun K hK => ?_); go_simp; first | (go_at_call 20; refine (fall_any fb L U F W (HF.out.ext HXD.out)).mono ?_; rintro e w2 ⟨v2, rfl, ho2, hx2⟩; obtain ⟨p2, c2, rfl, -, -, hR2⟩ := ho2.slice; refine hK _ _ hx2 ?_; clear hK K))
  (refine wpE_call rfl (by rfl) (fun K hK => ?_); go_simp; first | (go_at_call 21; refine (routes12 p2 pR L.length L.length c2 cR L w2 hR2 (HB.out.2.1.ext (HXD.out.trans hx2)) (by omega)).mono ?_; rintro e w3 ⟨rfl, hx3⟩; refine hK _ _ hx3 ?_; clear hK K))
  iterate 2 (refine wpE_read (v := ?_) rfl (by rfl) ?_ ?_; rotate_left; (focus (intro w' hx; go_simp; first | done | with_reducible rfl)); simp only [Act.put, List.setIfInBounds_toArray, List.set_cons_zero, List.set_cons_succ])
  refine wpE_done ?_
  have HX3 : Hid (Ext w0 w3) := HXD.out.trans (hx2.trans hx3)
  have HO3 : Hid (OwnB w3 w0.heap.size (.slice q1 U.length c1) U) := HO1.out.ext (hx2.trans hx3)
  clear e0 e1 ho2 hR2 hx2 hx3
  go_wp2_with fail
  go_loopg [6] U.length (fun kx s6 wq => ∃ k : Nat, s6 = .int .i64 k ∧ k ≤ U.length ∧ U.length - k ≤ kx ∧ Ext w3 wq)
  case atStart => exact ⟨0, rfl, Nat.zero_le _, Nat.le_refl _, Ext.refl _⟩
  case round =>
    obtain ⟨k, rfl, hkU, hkx, hx⟩ := hrel
    by_cases hlt : k < U.length
    · have hki : (k : Int) < (U.length : Int) := by omega
      obtain ⟨u, huk⟩ : ∃ u, U[k]? = some u := ⟨_, List.getElem?_eq_getElem hlt⟩
      obtain ⟨g, hq1, hgc⟩ := HO3.out.cell huk
      subst hq1
      obtain ⟨g', hq, hgc'⟩ := HB.out.2.2.cell huk
      subst hq
      have hd : Ext w3 wr.drew := hx.drew
      have x0 : ∀ w', Ext wr.drew w' → w'.cell? ⟨g, k, none⟩ = some (.bool u) := fun w' h => by rw [(hd.trans h).below.cell (p := ⟨g, k, none⟩) (block_lt hgc)]; exact hgc
      have x1 : ∀ w', Ext wr.drew w' → w'.cell? ⟨g', k, none⟩ = some (.bool u) := fun w' h => by rw [(HX3.out.trans (hd.trans h)).below.cell (p := ⟨g', k, none⟩) (block_lt hgc')]; exact hgc'
      have e1 : ∀ w', Ext wr.drew w' → w'.cell? ⟨xb, 1, none⟩ = some (.slice (some ⟨g', 0, none⟩) U.length c) := fun w' h => by rw [heap_cell ((HX3.out.trans (hd.trans h)).heap HB.out.1)]; rfl
      clear hgc hgc' huk
      have HLT : Hid (k < U.length) := hlt
      have hU8 : U.length ≤ 8 := HG.out.2
      go_wp2_with fail
      refine wp_region_eager [(0, false), (1, false), (2, false), (3, false), (4, false), (5, false), (6, false), (7, false), (8, false), (9, false), (10, false), (11, false)] (by kernel_rfl) (by kernel_rfl) rfl (by kernel_rfl) (fun _ _ _ _ _ h => h) ?_
      generalize wr.drew = W2 at *
      iterate 12 (refine wpE_read (v := ?_) rfl (by rfl) ?_ ?_; rotate_left; (focus (intro w' hx; go_simp; first | done | with_reducible rfl)); simp only [Act.put, List.setIfInBounds_toArray, List.set_cons_zero, List.set_cons_succ])
      refine wpE_done ?_
      go_wp2_with fail
      go_roundg (U.length - (k + 1))
      case measure => omega
      case rel => exact ⟨k + 1, by go_num, HLT.out, Nat.le_refl _, hd⟩
    · obtain rfl : k = U.length := by omega
      go_wp2_with fail
      have HX4 : Hid (Ext w0 wr) := HX3.out.trans hx
      clear hx
      go_loopg [7] 6 (fun ky s7 wq => ∃ t : Int, s7 = .int .i64 t ∧ -1 ≤ t ∧ t ≤ 5 ∧ (5 - t).toNat ≤ ky ∧ Ext wr wq)
      case atStart => exact ⟨-1, rfl, by omega, by omega, by omega, Ext.refl _⟩
      case round =>
        rename_i wr_1
        obtain ⟨t, rfl, ht0, ht1, htk, hx⟩ := hrel
        by_cases hlt : t ≤ 4
        · have hwt : IntKind.i64.wrap (t + 1) = t + 1 := by rw [IntKind.wrap_i64]; omega
          have cb := fun W (h : Ext w0 W) => fblocks_any fb t L U F W (HF.out.ext h)
          have cd := fun W (h : Ext w0 W) => dblocks_any xb t L U G W (HX.out.ext h) HG.out.1 HG.out.2
          generalize ownA (actL L t U) = nb at *
          go_wp2_with (first
            | (go_at_call 27; refine (cb _ (HX4.out.trans hx)).mono ?_; rintro e w5 ⟨rfl, hw⟩; obtain rfl := hw.symm; clear hw)
            | (go_at_call 37; refine (cd _ (HX4.out.trans hx)).mono ?_; rintro e w6 ⟨rfl, hx6⟩))
          go_roundg ((5 - (t + 1)).toNat)
          case measure => omega
          case rel => exact ⟨t + 1, by go_num, by omega, by omega, Nat.le_refl _, hx.trans hx6⟩
        · go_wp2_with fail
          go_ret
          exact ⟨rfl, HX4.out.trans hx⟩
end Go.Proofs.YtmoimkeeldlpkaaGreat.Fb

namespace Go.Proofs.YtmoimkeeldlpkaaGreat.Fb

set_option maxRecDepth 100000

open Go.RowKit Go.Proofs.YtmoimkeeldlpkaaGreat Go.Proofs.YtmoimkeeldlpkaaGreat.Rb

set_option linter.unusedVariables false

set_option linter.unusedSimpArgs false

theorem hasN (i : Int) (w : World) : Calls Tryz.prog 45 #[.pointer none, .int .i64 i] w fun e w' => e = .returned (.bool false) ∧ w' = w := by
  go_enter Tryz.func45, Tryz.ntmps45
  go_wp2_with fail
  go_ret
  exact ⟨rfl, rfl⟩

theorem ofN (t : Int) (w : World) : Calls Tryz.prog 40 #[.pointer none, .int .i64 t] w fun e w' => e = .returned (.pointer none) ∧ w' = w := by
  go_enter Tryz.func40, Tryz.ntmps40
  go_wp2_with fail
  go_ret
  exact ⟨rfl, rfl⟩

theorem byTrieN (t a : Int) (w : World) : Calls Tryz.prog 18 #[.pointer none, .int .i64 t, .int .u32 a] w (BestAns w none) := by
  have hA : Ext w (w.alloc (.cells #[.int .i64 0, .int .u32 0, .int .i64 0, .int .i64 0, .int .u32 0, .int .i64 0] 33)) := (Ext.refl w).alloc _
  have HB : Hid _ := heap_new w (.cells #[.int .i64 0, .int .u32 0, .int .i64 0, .int .i64 0, .int .u32 0, .int .i64 0] 33)
  have c0 := fun W => ofN t W
  go_enter Tryz.func18, Tryz.ntmps18
  go_wp2_with (first
    | (go_at_call 40; refine (c0 _).mono ?_; rintro e w1 ⟨rfl, hw⟩; obtain rfl := hw.symm; clear hw)
    | (refine wpl_store (by rfl) 33 _ _ rfl rfl 6 w.heap.size #[.int .i64 zeroR.t, .int .u32 zeroR.a, .int .i64 zeroR.l, .int .i64 zeroR.i, .int .u32 zeroR.g, .int .i64 zeroR.m] _ _ rfl rfl HB.out rt_size rfl rfl (by simp [Value.oneCell']) ?_; intro w5 hx5 k5))
  exact bodyPost_ret (results_two Tryz.results18 _ rfl k5 Tryz.underlying33 rfl rt_size) rfl ⟨rfl, ExtX.ext hA hx5 (Nat.le_refl _)⟩

theorem byDirN (t a : Int) (w : World) : Calls Tryz.prog 19 #[.pointer none, .int .i64 t, .int .u32 a] w (BestAns w none) := by
  have hA : Ext w (w.alloc (.cells #[.int .i64 0, .int .u32 0, .int .i64 0, .int .i64 0, .int .u32 0, .int .i64 0] 33)) := (Ext.refl w).alloc _
  have HB : Hid _ := heap_new w (.cells #[.int .i64 0, .int .u32 0, .int .i64 0, .int .i64 0, .int .u32 0, .int .i64 0] 33)
  have c0 := fun W => ofN t W
  go_enter Tryz.func19, Tryz.ntmps19
  go_wp2_with (first
    | (go_at_call 40; refine (c0 _).mono ?_; rintro e w1 ⟨rfl, hw⟩; obtain rfl := hw.symm; clear hw)
    | (refine wpl_store (by rfl) 33 _ _ rfl rfl 6 w.heap.size #[.int .i64 zeroR.t, .int .u32 zeroR.a, .int .i64 zeroR.l, .int .i64 zeroR.i, .int .u32 zeroR.g, .int .i64 zeroR.m] _ _ rfl rfl HB.out rt_size rfl rfl (by simp [Value.oneCell']) ?_; intro w5 hx5 k5))
  exact bodyPost_ret (results_two Tryz.results19 _ rfl k5 Tryz.underlying33 rfl rt_size) rfl ⟨rfl, ExtX.ext hA hx5 (Nat.le_refl _)⟩

theorem lookN (t a : Int) (w : World) : Calls Tryz.prog 16 #[.pointer none, .int .i64 t, .int .u32 a] w (BestAns w none) := by
  have hA : Ext w (w.alloc (.cells #[.int .i64 0, .int .u32 0, .int .i64 0, .int .i64 0, .int .u32 0, .int .i64 0] 33)) := (Ext.refl w).alloc _
  have HB : Hid _ := heap_new w (.cells #[.int .i64 0, .int .u32 0, .int .i64 0, .int .i64 0, .int .u32 0, .int .i64 0] 33)
  have c0 := fun W => byDirN t a W
  go_enter Tryz.func16, Tryz.ntmps16
  go_wp2_with (first
    | (go_at_call 19; refine (c0 _).mono ?_; rintro e w3 ⟨rfl, hx3⟩; have HB4 : Hid _ := hx3.heap HB.out)
    | (refine wpl_store (by rfl) 33 _ _ rfl rfl 6 w.heap.size #[.int .i64 zeroR.t, .int .u32 zeroR.a, .int .i64 zeroR.l, .int .i64 zeroR.i, .int .u32 zeroR.g, .int .i64 zeroR.m] _ _ rfl rfl HB4.out rt_size rfl rfl (by simp [Value.oneCell']) ?_; intro w5 hx5 k5))
  exact bodyPost_ret (results_two Tryz.results16 _ rfl k5 Tryz.underlying33 rfl rt_size) rfl ⟨rfl, ExtX.ext (hA.trans hx3) hx5 (Nat.le_refl _)⟩

theorem addN (r : Rt) (w : World) : Calls Tryz.prog 24 #[.pointer none, (.agg #[.int .i64 r.t, .int .u32 r.a, .int .i64 r.l, .int .i64 r.i, .int .u32 r.g, .int .i64 r.m])] w fun e w' => e = .returned (.int .i64 1) ∧ Ext w w' := by
  have hA : Ext w (w.alloc (.cells #[.int .i64 r.t, .int .u32 r.a, .int .i64 r.l, .int .i64 r.i, .int .u32 r.g, .int .i64 r.m] 33)) := (Ext.refl w).alloc _
  obtain ⟨b0, b1, b2, b3, b4, b5⟩ := box_rtE (heap_new w (.cells #[.int .i64 r.t, .int .u32 r.a, .int .i64 r.l, .int .i64 r.i, .int .u32 r.g, .int .i64 r.m] 33))
  have y3 := b3 _ (Ext.refl _)
  have c0 := fun W => hasN r.i W
  clear b0 b1 b2 b3 b4 b5
  go_enter Tryz.func24, Tryz.ntmps24
  go_wp2_with (go_at_call 45; refine (c0 _).mono ?_; rintro e w1 ⟨rfl, hw⟩; obtain rfl := hw.symm; clear hw)
  go_ret
  exact ⟨rfl, hA⟩

theorem delN (r : Rt) (w : World) : Calls Tryz.prog 25 #[.pointer none, (.agg #[.int .i64 r.t, .int .u32 r.a, .int .i64 r.l, .int .i64 r.i, .int .u32 r.g, .int .i64 r.m])] w fun e w' => e = .returned (.int .i64 1) ∧ Ext w w' := by
  have hA : Ext w (w.alloc (.cells #[.int .i64 r.t, .int .u32 r.a, .int .i64 r.l, .int .i64 r.i, .int .u32 r.g, .int .i64 r.m] 33)) := (Ext.refl w).alloc _
  go_enter Tryz.func25, Tryz.ntmps25
  go_wp2_with fail
  go_ret
  exact ⟨rfl, hA⟩

theorem setUpN (i : Int) (b : Bool) (w : World) : Calls Tryz.prog 23 #[.pointer none, .int .i64 i, .bool b] w fun e w' => e = .returned (.int .i64 1) ∧ w' = w := by
  have c0 := fun W => hasN i W
  go_enter Tryz.func23, Tryz.ntmps23
  go_wp2_with (go_at_call 45; refine (c0 _).mono ?_; rintro e w1 ⟨rfl, hw⟩; obtain rfl := hw.symm; clear hw)
  go_ret
  exact ⟨rfl, rfl⟩

theorem upN (w : World) : Calls Tryz.prog 26 #[.pointer none] w fun e w' => e = .returned (.slice none 0 0) ∧ w' = w := by
  go_enter Tryz.func26, Tryz.ntmps26
  go_wp2_with fail
  go_ret
  exact ⟨rfl, rfl⟩

theorem allN (w : World) : Calls Tryz.prog 20 #[.pointer none] w fun e w' => e = .returned (.slice none 0 0) ∧ w' = w := by
  go_enter Tryz.func20, Tryz.ntmps20
  go_wp2_with fail
  go_ret
  exact ⟨rfl, rfl⟩

theorem blocksN (t : Int) (w : World) : Calls Tryz.prog 27 #[.pointer none, .int .i64 t] w fun e w' => e = .returned (.int .i64 0) ∧ w' = w := by
  have c0 := fun W => ofN t W
  go_enter Tryz.func27, Tryz.ntmps27
  go_wp2_with (go_at_call 40; refine (c0 _).mono ?_; rintro e w1 ⟨rfl, hw⟩; obtain rfl := hw.symm; clear hw)
  go_ret
  exact ⟨rfl, rfl⟩
end Go.Proofs.YtmoimkeeldlpkaaGreat.Fb

namespace Go.Proofs.YtmoimkeeldlpkaaGreat.Fb

set_option maxRecDepth 100000

open Go.RowKit Go.Proofs.YtmoimkeeldlpkaaGreat Go.Proofs.YtmoimkeeldlpkaaGreat.Rb

set_option linter.unusedVariables false

set_option linter.unusedSimpArgs false

abbrev ActF := Int × Int × Int × Int × Int × Int × Int × Int × Bool
def aC (z : ActF) : List Value := [.int .i64 (z.1), .int .i64 (z.2.1), .int .u32 (z.2.2.1), .int .i64 (z.2.2.2.1), .int .i64 (z.2.2.2.2.1), .int .u32 (z.2.2.2.2.2.1), .int .i64 (z.2.2.2.2.2.2.1), .int .i64 (z.2.2.2.2.2.2.2.1), .bool (z.2.2.2.2.2.2.2.2)]
def aOk (z : ActF) : Prop := (Lit.int .i64 (z.1)).wf = true ∧ (Lit.int .i64 (z.2.1)).wf = true ∧ (Lit.int .u32 (z.2.2.1)).wf = true ∧ (Lit.int .i64 (z.2.2.2.1)).wf = true ∧ (Lit.int .i64 (z.2.2.2.2.1)).wf = true ∧ (Lit.int .u32 (z.2.2.2.2.2.1)).wf = true ∧ (Lit.int .i64 (z.2.2.2.2.2.2.1)).wf = true ∧ (Lit.int .i64 (z.2.2.2.2.2.2.2.1)).wf = true
def aR (z : ActF) : Rt := ⟨z.2.1, z.2.2.1, z.2.2.2.1, z.2.2.2.2.1, z.2.2.2.2.2.1, z.2.2.2.2.2.2.1⟩

/-- The cells of act k, in every later world. -/
theorem aCells {w : World} {a : Option Addr} {len cap : Nat} {zs : List ActF} (h : IsRowG 9 aC aOk w a len cap zs) {k : Nat} (hk : k < len) :
    ∃ (b off : Nat) (kd : Int) (r : Rt) (i : Int) (u : Bool), a = some ⟨b, off, none⟩ ∧ RtOk r ∧ b < w.heap.size ∧ ∀ w' : World, (∀ (j : Nat) (v : Value), w.cell? ⟨b, j, none⟩ = some v → w'.cell? ⟨b, j, none⟩ = some v) →
      w'.cell? ⟨b, off + k * 9, none⟩ = some (.int .i64 kd) ∧ w'.cell? ⟨b, off + k * 9 + 1, none⟩ = some (.int .i64 r.t) ∧ w'.cell? ⟨b, off + k * 9 + 2, none⟩ = some (.int .u32 r.a) ∧ w'.cell? ⟨b, off + k * 9 + 3, none⟩ = some (.int .i64 r.l) ∧ w'.cell? ⟨b, off + k * 9 + 4, none⟩ = some (.int .i64 r.i) ∧ w'.cell? ⟨b, off + k * 9 + 5, none⟩ = some (.int .u32 r.g) ∧ w'.cell? ⟨b, off + k * 9 + 6, none⟩ = some (.int .i64 r.m) ∧ w'.cell? ⟨b, off + k * 9 + 7, none⟩ = some (.int .i64 i) ∧ w'.cell? ⟨b, off + k * 9 + 8, none⟩ = some (.bool u) := by
  have hl := h.length
  obtain ⟨z, hz⟩ : ∃ z, zs[k]? = some z := ⟨_, List.getElem?_eq_getElem (by omega)⟩
  rcases h.cells with h0 | ⟨b, off, rfl, hc⟩
  · omega
  · have h0 := hc k _ hz 0 (by omega)
    have h1 := hc k _ hz 1 (by omega)
    have h2 := hc k _ hz 2 (by omega)
    have h3 := hc k _ hz 3 (by omega)
    have h4 := hc k _ hz 4 (by omega)
    have h5 := hc k _ hz 5 (by omega)
    have h6 := hc k _ hz 6 (by omega)
    have h7 := hc k _ hz 7 (by omega)
    have h8 := hc k _ hz 8 (by omega)
    obtain ⟨w0, w1, w2, w3, w4, w5, w6, w7⟩ := h.ok _ (List.mem_of_getElem? hz)
    simp only [← Nat.add_assoc, Nat.add_zero] at h0 h1 h2 h3 h4 h5 h6 h7 h8
    exact ⟨b, off, z.1, aR z, z.2.2.2.2.2.2.2.1, z.2.2.2.2.2.2.2.2, rfl, rtOk_of w1 w2 w3 w4 w5 w6, block_lt h0, fun w' hx => ⟨hx _ _ h0, hx _ _ h1, hx _ _ h2, hx _ _ h3, hx _ _ h4, hx _ _ h5, hx _ _ h6, hx _ _ h7, hx _ _ h8⟩⟩

theorem cell_ext {w w' : World} {b : Nat} (hb : b < w.heap.size) (hx : Ext w w') : ∀ (j : Nat) (v : Value), w.cell? ⟨b, j, none⟩ = some v → w'.cell? ⟨b, j, none⟩ = some v := fun j v h => by
  rw [hx.below.cell (p := ⟨b, j, none⟩) hb]
  exact h

/-- Both, behind some acts. -/
def Play (w wr : World) (fb xb : Nat) : Prop := ∃ L U H, BothH w wr fb xb L U L U H

theorem BothAns.play {w wr w' : World} {fb xb : Nat} {L : List Rt} {U : List Bool} {H : List Nat} (h : BothAns w wr fb xb L U L U H w') : Play w w' fb xb := by
  obtain ⟨H', h1, -⟩ := h
  exact ⟨L, U, H', h1⟩
end Go.Proofs.YtmoimkeeldlpkaaGreat.Fb

namespace Go.Proofs.YtmoimkeeldlpkaaGreat.Fb

set_option maxRecDepth 100000

open Go.RowKit Go.Proofs.YtmoimkeeldlpkaaGreat Go.Proofs.YtmoimkeeldlpkaaGreat.Rb

open Go.Proofs.YtmoimkeeldlpkaaGreat.Dr (info_u32)

set_option linter.unusedVariables false

set_option linter.unusedSimpArgs false

/-- A row of numbers of four bytes, of the call's own. -/
def OwnZ (w : World) (B : Nat) (v : Value) (xs : List Int) : Prop := w.ownsRow B 29 1 v xs.length (xs.map (Value.int .u32))

theorem OwnZ.cell {w : World} {B : Nat} {v : Value} {L : List Int} (h : OwnZ w B v L) {i : Nat} {p : Int} (hi : L[i]? = some p) :
    ∃ g c, v = .slice (some ⟨g, 0, none⟩) L.length c ∧ g < w.heap.size ∧ w.cell? ⟨g, i, none⟩ = some (.int .u32 p) := by
  obtain ⟨hl, h⟩ := h
  have hil := (List.getElem?_eq_some_iff.1 hi).1
  rcases h with ⟨_, h0⟩ | ⟨g, cap, cur, rfl, _, hg, _, _, _, hc⟩
  · omega
  · have h1 : (L.map (Value.int .u32))[i]? = some (.int .u32 p) := by simp [hi]
    refine ⟨g, cap, rfl, heap_lt hg, ?_⟩
    rw [heap_cell hg, ← Array.getElem?_toList]
    rw [← hc, List.getElem?_take, if_pos (by omega)] at h1
    exact h1

/-- A literal row is of the call's own. -/
theorem ownZ_new {w w' : World} {B : Nat} (xs : List Int) (g : Nat) (hB : B ≤ g) (hg : w'.heap[g]? = some (.cells (xs.map (Value.int .u32)).toArray 29 (0, 0))) (hl : xs.length ≤ maxLen) : OwnZ w' B (.slice (some ⟨g, 0, none⟩) xs.length xs.length) xs := by
  refine ⟨by simp, .inr ⟨g, xs.length, _, rfl, hB, hg, Nat.le_refl _, hl, by simp, ?_⟩⟩
  simp
  exact List.take_of_length_le (by simp)

/-- append(row, several), as an operation of a region. -/
theorem wp_append_z {w : World} {o : Oper} {a : Act} {K : Act → World → Prop} {Q : Exit → Act → World → Prop} (s x : Operand)
    (ho : o.op = .call { callee := .builtin .append, args := #[s, x], argTypes := #[39, 39] })
    (B : Nat) (v : Value) (L : List Int) (hs : a.eval s = v) (hown : OwnZ w B v L)
    (g c : Nat) (ys : List Int) (hx : a.eval x = .slice (some ⟨g, 0, none⟩) ys.length c) (hu : w.heap[g]? = some (.cells (ys.map (Value.int .u32)).toArray 29 (0, 0)))
    (hsm : L.length + ys.length ≤ 10000000) (hbase : B ≤ w.heap.size)
    (h : ∀ v' w', OwnZ w' B v' (L ++ ys) → w.grownBy w' v.ownBlock → (v'.ownBlock = v.ownBlock ∨ v'.ownBlock = some w.heap.size) → K (a.put o.dst v') w') : o.wp Tryz.prog a w K Q := by
  obtain ⟨i, hi, hz, hsz, hby⟩ := info_u32
  obtain ⟨v', w', hr, h2, h3, h4, h5⟩ := run_append_own_at (P := Tryz.prog) w B 39 o.type 29 i (.int .u32 0) 1 4 Tryz.underlying39 hi hz hsz hby rfl (by omega) v L.length _ hown ⟨g, 0, none⟩ ys.length c (ys.map (Value.int .u32)) (by simp)
    (fun j u hj => by
      show w.cell? ((⟨g, 0, none⟩ : Addr).add j) = _
      rw [show (⟨g, 0, none⟩ : Addr).add j = ⟨g, j, none⟩ by simp [Addr.add]; intro h; exact h.symm, heap_cell hu, List.getElem?_toArray]; exact hj)
    (fun u hu' => by obtain ⟨y, -, rfl⟩ := List.mem_map.1 hu'; rfl) (by unfold maxLen; omega) (by omega) hbase
  unfold Oper.wp execOp
  simp only [ho, resolve, invoke, builtin, Sem.run_bind, Sem.run_pure, Result.andThen_ok, List.map_toArray, List.map_cons, List.map_nil, hs, hx, hr]
  refine h v' w' ?_ h3 h5
  unfold OwnZ
  rw [List.map_append, List.length_append]
  exact h2

/-- Both behind k acts, and the row of addresses to ask for. -/
def LooksAt (w0 wr : World) (fb xb : Nat) (v : Value) (k : Nat) : Prop := ∃ L U H xs, BothH w0 wr fb xb L U L U H ∧ OwnZ wr w0.heap.size v xs ∧ (∀ g ∈ blks v, g ∉ H) ∧ xs.length = 1 + 4 * k ∧ ∀ y ∈ xs, 0 ≤ y ∧ y ≤ 4294967295

/-- What both engines and the document tell. -/
theorem asks {w wr : World} {fb xb : Nat} {L : List Rt} {U : List Bool} {H : List Nat} (h : BothH w wr fb xb L U L U H) (t a : Int) (a0 : 0 ≤ a) (a1 : a ≤ 4294967295) : ∀ W, Ext wr W →
    Calls Tryz.prog 16 #[.pointer (some ⟨fb, 0, none⟩), .int .i64 t, .int .u32 a] W (BestAns W (wayO L U t a)) ∧ Calls Tryz.prog 17 #[.pointer (some ⟨xb, 0, none⟩), .int .i64 t, .int .u32 a] W (BestAns W (wayO L U t a)) ∧
    Calls Tryz.prog 18 #[.pointer (some ⟨fb, 0, none⟩), .int .i64 t, .int .u32 a] W (BestAns W (wayO L U t a)) ∧ Calls Tryz.prog 19 #[.pointer (some ⟨fb, 0, none⟩), .int .i64 t, .int .u32 a] W (BestAns W (wayO L U t a)) := fun W hx => by
  obtain ⟨hg, h8, -⟩ := h.good
  obtain ⟨F, G, h1, h2, -⟩ := h.later hx
  exact ⟨look_any fb t a L U F W h1 a0 a1, dlook_any xb t a L U G W h2 hg h8 a0 a1, byTrie_any fb t a L U F W h1 a0 a1, byDir_any fb t a L U F W h1 a0 a1⟩

/-- The cells of a way's block, in that world. -/
theorem rt6 {w : World} {b : Nat} {r : Rt} (h : w.heap[b]? = some (.cells #[.int .i64 r.t, .int .u32 r.a, .int .i64 r.l, .int .i64 r.i, .int .u32 r.g, .int .i64 r.m] 33 (0, 0))) : w.cell? ⟨b, 0, none⟩ = some (.int .i64 r.t) ∧ w.cell? ⟨b, 1, none⟩ = some (.int .u32 r.a) ∧ w.cell? ⟨b, 2, none⟩ = some (.int .i64 r.l) ∧ w.cell? ⟨b, 3, none⟩ = some (.int .i64 r.i) ∧ w.cell? ⟨b, 4, none⟩ = some (.int .u32 r.g) ∧ w.cell? ⟨b, 5, none⟩ = some (.int .i64 r.m) := by
  refine ⟨?_, ?_, ?_, ?_, ?_, ?_⟩ <;> (rw [heap_cell h]; rfl)
end Go.Proofs.YtmoimkeeldlpkaaGreat.Fb

namespace Go.Proofs.YtmoimkeeldlpkaaGreat.Fb

set_option maxRecDepth 100000

open Go.RowKit Go.Proofs.YtmoimkeeldlpkaaGreat Go.Proofs.YtmoimkeeldlpkaaGreat.Rb

open Go.Proofs.YtmoimkeeldlpkaaGreat.Tri (PX Vp cov has_cov)

open Go.Proofs.YtmoimkeeldlpkaaGreat.Dr (ownN own_cons moreN lvN keysL)

set_option linter.unusedVariables false

set_option linter.unusedSimpArgs false

/-- The cells of a way's block, in that world. -/
theorem rt6' {w : World} {b : Nat} {r : Rt} (h : w.heap[b]? = some (.cells #[.int .i64 r.t, .int .u32 r.a, .int .i64 r.l, .int .i64 r.i, .int .u32 r.g, .int .i64 r.m] 33 (0, 0))) : w.cell? ⟨b, 0, none⟩ = some (.int .i64 r.t) ∧ w.cell? ⟨b, 1, none⟩ = some (.int .u32 r.a) ∧ w.cell? ⟨b, 2, none⟩ = some (.int .i64 r.l) ∧ w.cell? ⟨b, 3, none⟩ = some (.int .i64 r.i) ∧ w.cell? ⟨b, 4, none⟩ = some (.int .u32 r.g) ∧ w.cell? ⟨b, 5, none⟩ = some (.int .i64 r.m) := by
  refine ⟨?_, ?_, ?_, ?_, ?_, ?_⟩ <;> (rw [heap_cell h]; rfl)

/-- Nothing older than w is written, from one end to the other. -/
theorem all_below {w wr W v3 V4 v5 wz : World} {F F3 : List Nat} (h0 : Ext w wr) (h1 : Ext wr W) (h2 : ExtS F W v3) (h3 : Ext v3 V4) (h4 : ExtS F3 V4 v5) (h5 : Ext v5 wz) (hF : ∀ x ∈ F, w.heap.size ≤ x) (hF3 : ∀ x ∈ F3, x ∈ F ∨ W.heap.size ≤ x) : Below w.heap.size w wz := by
  have e1 : Ext w W := h0.trans h1
  have e3 : Ext w v3 := ExtS.ext ((e1.toS F).trans h2) hF
  have e5 : Ext w v5 := ExtS.ext (((e3.trans h3).toS F3).trans h4) fun x hx => (hF3 x hx).elim (hF x) fun h => Nat.le_trans e1.size h
  exact (e5.trans h5).below

/-- A Fib behind some acts. -/
def PlayF (w wr : World) (fb : Nat) : Prop := ∃ L U F, FibAt wr fb L U F ∧ Ext w wr ∧ ∀ x ∈ F, w.heap.size ≤ x

theorem playF {w wr w' : World} {fb : Nat} {F : List Nat} {L : List Rt} {U : List Bool} (hE : Ext w wr) (hF : ∀ x ∈ F, w.heap.size ≤ x) (h : FibAns wr fb F L U w') : PlayF w w' fb := by
  obtain ⟨F', h1, h2, h3⟩ := h
  exact ⟨L, U, F', h1, ExtS.ext ((hE.toS F).trans h2) hF, fun x hx => (h3 x hx).elim (hF x) fun h => Nat.le_trans hE.size h⟩

/-! What is told is up. -/

theorem way_mem {L : List Rt} (hg : Rb.Good L) {U : List Bool} {t a : Int} (a0 : 0 ≤ a) (a1 : a ≤ 4294967295) {r : Rt} (h : wayO L U t a = some r) : r ∈ actL L t U ∧ cov (pxR r) (a, 32) = true ∧ ∀ s ∈ actL L t U, cov (pxR s) (a, 32) = true → s.l ≤ r.l := by
  have h1 := look_way (act_pf hg t U) a0 a1
  unfold wayO at h
  rw [h] at h1
  exact h1

theorem way_none {L : List Rt} (hg : Rb.Good L) {U : List Bool} {t a : Int} (a0 : 0 ≤ a) (a1 : a ≤ 4294967295) (h : wayO L U t a = none) : ∀ s ∈ actL L t U, cov (pxR s) (a, 32) = false := by
  have h1 := look_way (act_pf hg t U) a0 a1
  unfold wayO at h
  rw [h] at h1
  exact h1

theorem way_up {L : List Rt} (hg : Rb.Good L) {U : List Bool} {t a : Int} (a0 : 0 ≤ a) (a1 : a ≤ 4294967295) {r : Rt} (h : wayO L U t a = some r) : upB U r.i = true := (act_is (way_mem hg a0 a1 h).1).2.2.2

theorem down_upB {U : List Bool} {n : Nat} {j : Int} (h : upB (U.set n false) j = true) : upB U j = true ∧ j ≠ (n : Int) := by
  unfold upB at *
  rw [Bool.and_eq_true] at *
  obtain ⟨h1, h2⟩ := h
  rw [List.getElem?_set] at h2
  split at h2
  · split at h2 <;> simp at h2
  · rename_i hne
    have := of_decide_eq_true h1
    exact ⟨⟨h1, h2⟩, fun e => hne (by omega)⟩

theorem setF_down {L : List Rt} {U : List Bool} {n : Nat} (hn : n < U.length) (h : fullB L U = false) : setF L U (n : Int) false = (0, U.set n false) := by
  unfold setF
  have hh : hasB U (n : Int) = true := by unfold hasB; simp; omega
  rw [if_neg (by rw [hh]; simp), Int.toNat_natCast, if_neg]
  rw [fullB_sub (fun x hx => hx) (fun i hi => (down_upB hi).1) h]
  simp

theorem set_back {U : List Bool} {n : Nat} (h : U[n]? = some true) : (U.set n false).set n true = U := by
  rw [List.set_set]
  apply List.ext_getElem?
  intro i
  rw [List.getElem?_set]
  split
  · rename_i e
    subst e
    rw [if_pos (List.getElem?_eq_some_iff.1 h).1, h]
  · rfl

theorem setF_up {L : List Rt} {U : List Bool} {n : Nat} (hu : U[n]? = some true) (h : fullB L U = false) : setF L (U.set n false) (n : Int) true = (0, U) := by
  have hn := (List.getElem?_eq_some_iff.1 hu).1
  unfold setF
  have hh : hasB (U.set n false) (n : Int) = true := by unfold hasB; simp; omega
  rw [if_neg (by rw [hh]; simp), Int.toNat_natCast, set_back hu, if_neg (by rw [h]; simp)]

/-! What is told is the best. -/

def candF (U : List Bool) (t a : Int) (x : Rt) : Bool := decide (x.t = t) && upB U x.i && hasV x.a x.l a

theorem cand_iff {U : List Bool} {t a : Int} {x : Rt} : candF U t a x = true ↔ x.t = t ∧ upB U x.i = true ∧ hasV x.a x.l a = true := by
  simp [candF, and_assoc]

/-- A candidate has an active way of its prefix. -/
theorem cand_act {L : List Rt} {U : List Bool} {t a : Int} {x : Rt} (hx : x ∈ L) (hc : candF U t a x = true) : ∃ s ∈ actL L t U, s.a = x.a ∧ s.l = x.l ∧ betB x s = false ∧ bestO L t x.a x.l U = some s := by
  obtain ⟨h1, h2, h3⟩ := cand_iff.1 hc
  have hs : selB t x.a x.l x = true := (selB_iff _ _ _ _).2 ⟨h1, rfl, rfl⟩
  obtain ⟨b, hb, hbb⟩ := bestL_best (U := U) (R := L.filter (selB t x.a x.l)) (List.mem_filter.2 ⟨hx, hs⟩) h2
  obtain ⟨h4, h5⟩ := List.mem_filter.1 (bestL_is hb).1
  obtain ⟨e1, e2, e3⟩ := (selB_iff _ _ _ _).1 h5
  exact ⟨b, act_has hb, e2, e3, hbb, hb⟩

theorem told_good {L : List Rt} (hg : Rb.Good L) {U : List Bool} {t a : Int} (a0 : 0 ≤ a) (a1 : a ≤ 4294967295) {x : Rt} (hx : x ∈ L) (hc : candF U t a x = true) :
    ∃ r, wayO L U t a = some r ∧ x.l ≤ r.l ∧ (x.a = r.a → x.l = r.l → betB x r = false) := by
  obtain ⟨s, h1, h2, h3, h4, h5⟩ := cand_act hx hc
  have hcv : cov (pxR s) (a, 32) = true := by
    rw [has_cov]
    show hasV s.a s.l a = true
    rw [h2, h3]
    exact (cand_iff.1 hc).2.2
  cases hw : wayO L U t a with
  | none => have := way_none hg a0 a1 hw s h1; rw [hcv] at this; cases this
  | some r =>
    obtain ⟨k1, k2, k3⟩ := way_mem hg a0 a1 hw
    refine ⟨r, rfl, by have := k3 s h1 hcv; omega, fun e1 e2 => ?_⟩
    have hb := (act_is k1).1
    rw [← e1, ← e2, h5] at hb
    cases hb
    exact h4

def thereF (L : List Rt) (U : List Bool) (t a : Int) (o : Option Rt) : Bool := L.any fun x => candF U t a x && eqB x (theR o)

theorem thereF_take {L : List Rt} {U : List Bool} {t a : Int} {o : Option Rt} {k : Nat} {x : Rt} (h : L[k]? = some x) : thereF (L.take (k + 1)) U t a o = (thereF (L.take k) U t a o || (candF U t a x && eqB x (theR o))) := by
  unfold thereF
  rw [List.take_add_one, h]
  simp [List.any_append]

theorem thereF_all {L : List Rt} (hg : Rb.Good L) {U : List Bool} {t a : Int} (a0 : 0 ≤ a) (a1 : a ≤ 4294967295) : thereF L U t a (wayO L U t a) = (wayO L U t a).isSome := by
  cases hw : wayO L U t a with
  | none =>
    unfold thereF
    rw [show (none : Option Rt).isSome = false from rfl, List.any_eq_false]
    intro x hx hh
    rw [Bool.and_eq_true] at hh
    obtain ⟨r, hr, -⟩ := told_good hg a0 a1 hx hh.1
    rw [hw] at hr; cases hr
  | some r =>
    unfold thereF
    rw [show (some r).isSome = true from rfl, List.any_eq_true]
    obtain ⟨h1, h2, -⟩ := way_mem hg a0 a1 hw
    obtain ⟨k1, k2, k3, k4⟩ := act_is h1
    refine ⟨r, k2, ?_⟩
    rw [Bool.and_eq_true]
    refine ⟨cand_iff.2 ⟨k3, k4, ?_⟩, eqB_refl r⟩
    rw [has_cov] at h2
    exact h2
end Go.Proofs.YtmoimkeeldlpkaaGreat.Fb

namespace Go.Proofs.YtmoimkeeldlpkaaGreat.Fb

set_option maxRecDepth 100000

open Go.RowKit Go.Proofs.YtmoimkeeldlpkaaGreat Go.Proofs.YtmoimkeeldlpkaaGreat.Rb

open Go.Proofs.YtmoimkeeldlpkaaGreat.Tri (PX Vp cov has_cov vp32)

open Go.Proofs.YtmoimkeeldlpkaaGreat.Dr (ownN own_cons moreN lvN lvN_le keysL)

set_option linter.unusedVariables false

set_option linter.unusedSimpArgs false

/-- The way of an address. -/
def rO (a : Int) : Rt := ⟨1, a, 32, 0, 0, 0⟩

structure RoomL (L : List Rt) : Prop where
  good : Rb.Good L
  all : ∀ x ∈ L, x = rO x.a

theorem rO_ok {a : Int} (a0 : 0 ≤ a) (a1 : a ≤ 4294967295) : RtOk (rO a) := ⟨(by simp only [rO]; omega), (by simp only [rO]; omega), a0, a1, (by simp only [rO]; omega), (by simp only [rO]; omega), (by simp only [rO]; omega), (by simp only [rO]; omega), (by simp only [rO]; omega), (by simp only [rO]; omega), (by simp only [rO]; omega), (by simp only [rO]; omega)⟩

theorem rO_is {a : Int} (a0 : 0 ≤ a) (a1 : a ≤ 4294967295) : isR (rO a) = true := by
  rw [isR_iff]
  exact ⟨(by simp only [rO]; omega), (by simp only [rO]; omega), (vp32 a0 a1).is, (by simp only [rO]; omega), (by simp only [rO]; omega), (by simp only [rO]; omega), (by simp only [rO]; omega)⟩

theorem up1 : upB [true] 0 = true := by decide

theorem room_act {L : List Rt} (h : RoomL L) (x : Rt) : x ∈ actL L 1 [true] ↔ x ∈ L := by
  refine ⟨fun hx => (act_is hx).2.1, fun hx => ?_⟩
  have hxe := h.all x hx
  have ht : x.t = 1 := by rw [hxe]; rfl
  have hi : x.i = 0 := by rw [hxe]; rfl
  have hs : selB 1 x.a x.l x = true := (selB_iff _ _ _ _).2 ⟨ht, rfl, rfl⟩
  obtain ⟨b, hb, -⟩ := bestL_best (U := [true]) (R := L.filter (selB 1 x.a x.l)) (List.mem_filter.2 ⟨hx, hs⟩) (by rw [hi]; exact up1)
  obtain ⟨h4, h5⟩ := List.mem_filter.1 (bestL_is hb).1
  obtain ⟨e1, e2, e3⟩ := (selB_iff _ _ _ _).1 h5
  have hbx : b = x := by rw [h.all b h4, e2, ← hxe]
  rw [hbx] at hb
  exact act_has hb

theorem room_other {L : List Rt} (h : RoomL L) {t : Int} (ht : t ≠ 1) : actL L t [true] = [] := by
  cases hl : actL L t [true] with
  | nil => rfl
  | cons s M =>
    have hs : s ∈ actL L t [true] := by rw [hl]; exact List.mem_cons_self
    obtain ⟨h1, h2, h3, h4⟩ := act_is hs
    rw [h.all s h2] at h3
    exact absurd h3.symm ht

theorem self_ins : ∀ (L : List Rt) (r : Rt), r ∈ insR L r
  | [], r => by simp [insR]
  | y :: L, r => by
    unfold insR
    split
    · exact List.mem_cons_of_mem _ (self_ins L r)
    · split <;> exact List.mem_cons_self

theorem more_le (K : List PX) (A : Nat) : ∀ j, moreN K A j ≤ j
  | 0 => Nat.le_refl _
  | j + 1 => by
    have := more_le K A j
    simp only [moreN]
    split <;> omega

theorem room_way {L : List Rt} (h : RoomL L) {a : Int} (a0 : 0 ≤ a) (a1 : a ≤ 4294967295) : (∀ s, wayO L [true] 1 a = some s → s.a = a ∧ s ∈ L) ∧ (wayO L [true] 1 a = none → rO a ∉ L) := by
  have hv := vp32 a0 a1
  refine ⟨fun s hs => ?_, fun hn hm => ?_⟩
  · obtain ⟨k1, k2, -⟩ := way_mem h.good a0 a1 hs
    have hsL := (act_is k1).2.1
    have hse := h.all s hsL
    have hvs := (act_pf h.good 1 [true]).vp s k1
    have hl : s.l = 32 := by rw [hse]; rfl
    have := Tri.cov_eq hvs hv k2 (by show (32 : Int) ≤ s.l; omega)
    exact ⟨congrArg Prod.fst this, hsL⟩
  · have hc := way_none h.good a0 a1 hn (rO a) ((room_act h _).2 hm)
    have : cov (pxR (rO a)) (a, 32) = true := Tri.cov_refl _
    rw [this] at hc
    cases hc

theorem room_step {L : List Rt} (h : RoomL L) (hl : L.length < 256) (hroom : fullB L [true] = false) {a : Int} (a0 : 0 ≤ a) (a1 : a ≤ 4294967295) :
    (addF L [true] (rO a) = (6, L) ∧ 15 ≤ ownA (actL L 1 [true]) ∧ wayO L [true] 1 a = none) ∨ (∃ L', addF L [true] (rO a) = (0, L') ∧ RoomL L' ∧ L'.length ≤ L.length + 1 ∧ ∃ s, wayO L' [true] 1 a = some s ∧ s.a = a) := by
  have hE : addE L (rO a) = 0 := by
    unfold addE
    rw [if_pos (rO_is a0 a1)]
    split
    · rfl
    · rw [if_neg (by omega)]
  have hS : addS L (rO a) = insR L (rO a) := by unfold addS; rw [if_pos hE]
  have hR : RoomL (insR L (rO a)) := ⟨by rw [← hS]; exact h.good.add (rO_ok a0 a1), fun x hx => by
    rcases mem_ins hx with rfl | hx
    · rfl
    · exact h.all x hx⟩
  have hb : hasB [true] (rO a).i = true := by show hasB [true] 0 = true; decide
  cases hf : fullB (addS L (rO a)) [true] with
  | true =>
    refine .inl ⟨by unfold addF; rw [if_neg (by rw [hb]; simp), if_pos hE, if_pos hf], ?_, ?_⟩
    · rcases Nat.lt_or_ge 16 (ownA (actL (insR L (rO a)) 1 [true])) with hlt | hge
      · have h1 : ownA (actL (insR L (rO a)) 1 [true]) ≤ ownA (actL L 1 [true]) + 2 := by
          have h2 : ownA (actL (insR L (rO a)) 1 [true]) ≤ ownN (pxR (rO a) :: (actL L 1 [true]).map pxR) := by
            unfold ownA
            refine own_sub fun p hp => ?_
            obtain ⟨x, hx, rfl⟩ := List.mem_map.1 hp
            rcases mem_ins ((room_act hR x).1 hx) with rfl | hx
            · exact List.mem_cons_self
            · exact List.mem_cons_of_mem _ (List.mem_map.2 ⟨x, (room_act h x).2 hx, rfl⟩)
          have h3 := own_cons (pxR (rO a)) (vp32 a0 a1) ((actL L 1 [true]).map pxR)
          have h4 := more_le ((actL L 1 [true]).map pxR) (pxR (rO a)).1.toNat (lvN (pxR (rO a)).2.toNat)
          have h5 := lvN_le (pxR (rO a)).2.toNat
          unfold ownA at *
          omega
        omega
      · exfalso
        rw [hS] at hf
        have : fullB (insR L (rO a)) [true] = false := fullB_false fun k hk => by
          by_cases e : (k : Int) = 1
          · rw [e]; exact hge
          · rw [room_other hR e]; exact Nat.zero_le _
        rw [this] at hf; cases hf
    · cases hw : wayO L [true] 1 a with
      | none => rfl
      | some s =>
        obtain ⟨k1, k2⟩ := (room_way h a0 a1).1 s hw
        have hm : rO a ∈ L := by rw [← k1, ← h.all s k2]; exact k2
        have : fullB (insR L (rO a)) [true] = false := fullB_sub (fun x hx => (mem_ins hx).elim (fun e => e ▸ hm) id) (fun _ h => h) hroom
        rw [hS, this] at hf; cases hf
  | false =>
    refine .inr ⟨insR L (rO a), by unfold addF; rw [if_neg (by rw [hb]; simp), if_pos hE, if_neg (by rw [hf]; simp), hS], hR, by rw [ins_len]; split <;> omega, ?_⟩
    cases hw : wayO (insR L (rO a)) [true] 1 a with
    | none => exact absurd (self_ins L (rO a)) ((room_way hR a0 a1).2 hw)
    | some s => exact ⟨s, rfl, ((room_way hR a0 a1).1 s hw).1⟩

theorem room_le {w : World} {fb : Nat} {L : List Rt} {U : List Bool} {F : List Nat} {k : Nat} (h : FibAt w fb L U F) (hk : k < 4) : ((ownA (actL L k U) : Nat) : Int) ≤ 16 := by
  have := fullB_le h.room hk
  omega

theorem room_nil : RoomL [] := ⟨Good.nil, fun x hx => by cases hx⟩
end Go.Proofs.YtmoimkeeldlpkaaGreat.Fb
