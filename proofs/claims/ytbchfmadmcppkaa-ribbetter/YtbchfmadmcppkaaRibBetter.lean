/- For every three ways, the law RibBetter returns true: Better as the document says, of two that are not of one metric, interface and gate just one is better, and it goes on to a third; no condition. -/
import Derived.Test.YtbchfmadmcppkaaRows
import Derived.Test.YtbchfmadmcppkaaLaw11
import Derived.Test.YtbchfmadmcppkaaFrame
import Derived.WalkKit
import Derived.ProofKit
import Derived.OpenShut
import Derived.ShutString
import Derived.ChangeOld
import Derived.Deep.DeepHandedRow
import Derived.Lib.LaidTab
import Derived.Lib.SmallJoins
import Derived.LaidMore
import Derived.Stop.LaidErr
import Derived.ChangeMaps5
namespace Go.Proofs.Ytbchfmadmcppkaa.ribBetter
open Go.ChangeShapes Go.WideShapes Go.ChangeAt Go.RowKit Go.ChangeMaps
set_option linter.unusedVariables false
set_option maxRecDepth 100000

theorem own : ownKnob Try.prog.godebug = none := by kernel_rfl
theorem laidOut : laidOutB Try.prog = true := by kernel_rfl

theorem arr6 {α : Type} {cs : Array α} (h : cs.size = 6) : ∃ c0 c1 c2 c3 c4 c5, cs = #[c0, c1, c2, c3, c4, c5] := by
  obtain ⟨l⟩ := cs
  match l, h with
  | [c0, c1, c2, c3, c4, c5], _ => exact ⟨c0, c1, c2, c3, c4, c5, rfl⟩

open Go.Proofs.Ytbchfmadmcppkaa.Tri Go.Proofs.Ytbchfmadmcppkaa.Rb
/-- The first of two is better, or the second, unless they are alike. -/
theorem bet_one (x y : Rt) : (betB x y = false ∧ betB y x = false ∧ (x.m == y.m) = true ∧ (x.i == y.i) = true ∧ (x.g == y.g) = true) ∨ ((betB x y = true ∧ betB y x = false) ∨ (betB x y = false ∧ betB y x = true)) ∧ ((x.m == y.m) = false ∨ ((x.m == y.m) = true ∧ (x.i == y.i) = false) ∨ ((x.m == y.m) = true ∧ (x.i == y.i) = true ∧ (x.g == y.g) = false)) := by
  by_cases h : x.m = y.m ∧ x.i = y.i ∧ x.g = y.g
  · refine .inl ⟨?_, ?_, by simp [h.1], by simp [h.2.1], by simp [h.2.2]⟩
    · rw [betB_not]; unfold Lt3; omega
    · rw [betB_not]; unfold Lt3; omega
  · refine .inr ⟨?_, ?_⟩
    · by_cases hl : Lt3 x y
      · exact .inl ⟨(betB_iff _ _).2 hl, betB_asymm ((betB_iff _ _).2 hl)⟩
      · refine .inr ⟨(betB_not _ _).2 hl, (betB_iff _ _).2 ?_⟩
        unfold Lt3 at *
        omega
    · by_cases h1 : x.m = y.m
      · by_cases h2 : x.i = y.i
        · have h3 : ¬ x.g = y.g := fun e => h ⟨h1, h2, e⟩
          exact .inr (.inr ⟨by simp [h1], by simp [h2], by simpa using h3⟩)
        · exact .inr (.inl ⟨by simp [h1], by simpa using h2⟩)
      · exact .inl (by simpa using h1)

set_option maxHeartbeats 4000000 in
theorem walk (a00 : Int) (a010 : Int) (a011 : Int) (a02 : Int) (a03 : Int) (a04 : Int) (a10 : Int) (a110 : Int) (a111 : Int) (a12 : Int) (a13 : Int) (a14 : Int) (a20 : Int) (a210 : Int) (a211 : Int) (a22 : Int) (a23 : Int) (a24 : Int) (w : World) (w00 : (Lit.int .i64 a00).wf = true) (w010 : (Lit.int .u32 a010).wf = true) (w011 : (Lit.int .i64 a011).wf = true) (w02 : (Lit.int .i64 a02).wf = true) (w03 : (Lit.int .u32 a03).wf = true) (w04 : (Lit.int .i64 a04).wf = true) (w10 : (Lit.int .i64 a10).wf = true) (w110 : (Lit.int .u32 a110).wf = true) (w111 : (Lit.int .i64 a111).wf = true) (w12 : (Lit.int .i64 a12).wf = true) (w13 : (Lit.int .u32 a13).wf = true) (w14 : (Lit.int .i64 a14).wf = true) (w20 : (Lit.int .i64 a20).wf = true) (w210 : (Lit.int .u32 a210).wf = true) (w211 : (Lit.int .i64 a211).wf = true) (w22 : (Lit.int .i64 a22).wf = true) (w23 : (Lit.int .u32 a23).wf = true) (w24 : (Lit.int .i64 a24).wf = true) (hsh : w.ShapedOpen Try.prog) :
    Calls Try.prog 5 #[.agg #[.int .i64 a00, .int .u32 a010, .int .i64 a011, .int .i64 a02, .int .u32 a03, .int .i64 a04], .agg #[.int .i64 a10, .int .u32 a110, .int .i64 a111, .int .i64 a12, .int .u32 a13, .int .i64 a14], .agg #[.int .i64 a20, .int .u32 a210, .int .i64 a211, .int .i64 a22, .int .u32 a23, .int .i64 a24]] w fun e w' => e = .returned (.bool true) ∧ Below w.heap.size w w' := by
  obtain ⟨a, ha⟩ : ∃ r : Rt, r = ⟨a00, a010, a011, a02, a03, a04⟩ := ⟨_, rfl⟩
  obtain ⟨b, hb⟩ : ∃ r : Rt, r = ⟨a10, a110, a111, a12, a13, a14⟩ := ⟨_, rfl⟩
  obtain ⟨c, hc⟩ : ∃ r : Rt, r = ⟨a20, a210, a211, a22, a23, a24⟩ := ⟨_, rfl⟩
  have go : Calls Try.prog 5 #[(.agg #[.int .i64 a.t, .int .u32 a.a, .int .i64 a.l, .int .i64 a.i, .int .u32 a.g, .int .i64 a.m]), (.agg #[.int .i64 b.t, .int .u32 b.a, .int .i64 b.l, .int .i64 b.i, .int .u32 b.g, .int .i64 b.m]), (.agg #[.int .i64 c.t, .int .u32 c.a, .int .i64 c.l, .int .i64 c.i, .int .u32 c.g, .int .i64 c.m])] w fun e w' => e = .returned (.bool true) ∧ Below w.heap.size w w' := by
    clear ha hb hc w00 w010 w011 w02 w03 w04 w10 w110 w111 w12 w13 w14 w20 w210 w211 w22 w23 w24
    have kn := fun w => known_any w
    have hA : Ext w (((w.alloc (.cells #[.int .i64 a.t, .int .u32 a.a, .int .i64 a.l, .int .i64 a.i, .int .u32 a.g, .int .i64 a.m] 27)).alloc (.cells #[.int .i64 b.t, .int .u32 b.a, .int .i64 b.l, .int .i64 b.i, .int .u32 b.g, .int .i64 b.m] 27)).alloc (.cells #[.int .i64 c.t, .int .u32 c.a, .int .i64 c.l, .int .i64 c.i, .int .u32 c.g, .int .i64 c.m] 27)) := (((Ext.refl w).alloc _).alloc _).alloc _
    have z1 : (w.alloc (.cells #[.int .i64 a.t, .int .u32 a.a, .int .i64 a.l, .int .i64 a.i, .int .u32 a.g, .int .i64 a.m] 27)).heap.size = w.heap.size + 1 := by simp
    have z2 : ((w.alloc (.cells #[.int .i64 a.t, .int .u32 a.a, .int .i64 a.l, .int .i64 a.i, .int .u32 a.g, .int .i64 a.m] 27)).alloc (.cells #[.int .i64 b.t, .int .u32 b.a, .int .i64 b.l, .int .i64 b.i, .int .u32 b.g, .int .i64 b.m] 27)).heap.size = w.heap.size + 1 + 1 := by simp
    have h1 := heap_new w (.cells #[.int .i64 a.t, .int .u32 a.a, .int .i64 a.l, .int .i64 a.i, .int .u32 a.g, .int .i64 a.m] 27)
    have h2 := heap_new (w.alloc (.cells #[.int .i64 a.t, .int .u32 a.a, .int .i64 a.l, .int .i64 a.i, .int .u32 a.g, .int .i64 a.m] 27)) (.cells #[.int .i64 b.t, .int .u32 b.a, .int .i64 b.l, .int .i64 b.i, .int .u32 b.g, .int .i64 b.m] 27)
    have h3 := heap_new ((w.alloc (.cells #[.int .i64 a.t, .int .u32 a.a, .int .i64 a.l, .int .i64 a.i, .int .u32 a.g, .int .i64 a.m] 27)).alloc (.cells #[.int .i64 b.t, .int .u32 b.a, .int .i64 b.l, .int .i64 b.i, .int .u32 b.g, .int .i64 b.m] 27)) (.cells #[.int .i64 c.t, .int .u32 c.a, .int .i64 c.l, .int .i64 c.i, .int .u32 c.g, .int .i64 c.m] 27)
    rw [z1] at h2
    rw [z2] at h3
    have h1' := (((Ext.refl (w.alloc (.cells #[.int .i64 a.t, .int .u32 a.a, .int .i64 a.l, .int .i64 a.i, .int .u32 a.g, .int .i64 a.m] 27))).alloc (.cells #[.int .i64 b.t, .int .u32 b.a, .int .i64 b.l, .int .i64 b.i, .int .u32 b.g, .int .i64 b.m] 27)).alloc (.cells #[.int .i64 c.t, .int .u32 c.a, .int .i64 c.l, .int .i64 c.i, .int .u32 c.g, .int .i64 c.m] 27)).heap h1
    have h2' := ((Ext.refl ((w.alloc (.cells #[.int .i64 a.t, .int .u32 a.a, .int .i64 a.l, .int .i64 a.i, .int .u32 a.g, .int .i64 a.m] 27)).alloc (.cells #[.int .i64 b.t, .int .u32 b.a, .int .i64 b.l, .int .i64 b.i, .int .u32 b.g, .int .i64 b.m] 27))).alloc (.cells #[.int .i64 c.t, .int .u32 c.a, .int .i64 c.l, .int .i64 c.i, .int .u32 c.g, .int .i64 c.m] 27)).heap h2
    have HA : Hid _ := box_rtE h1'
    have HB : Hid _ := box_rtE h2'
    have HC : Hid _ := box_rtE h3
    have kab := fun w => better_any a b w
    have kba := fun w => better_any b a w
    have kbc := fun w => better_any b c w
    have kac := fun w => better_any a c w
    have kr := fun w => refBetter_any a b w
    have htr : betB a b = true → betB b c = true → betB a c = true := fun h k => betB_trans h k
    have hone := bet_one a b
    clear z1 z2 h1 h2 h3 h1' h2'
    rcases hone with ⟨hx, hy, e1, e2, e3⟩ | ⟨hxy, hs⟩
    · rw [hx] at kab kr
      rw [hy] at kba
      clear htr hx hy kbc kac
      go_enter Try.func5, Try.ntmps5
      go_wp2_with fail
      refine wp_region_eager [(0, false), (1, false), (3, false), (4, false), (2, true), (5, true), (6, false), (7, false)] (by kernel_rfl) (by kernel_rfl) rfl (by kernel_rfl) (fun _ _ _ _ _ h => h) ?_
      obtain ⟨A0, A1, A2, A3, A4, A5⟩ := HA.out
      obtain ⟨B0, B1, B2, B3, B4, B5⟩ := HB.out
      obtain ⟨C0, C1, C2, C3, C4, C5⟩ := HC.out
      have hd := (Ext.refl (((w.alloc (.cells #[.int .i64 a.t, .int .u32 a.a, .int .i64 a.l, .int .i64 a.i, .int .u32 a.g, .int .i64 a.m] 27)).alloc (.cells #[.int .i64 b.t, .int .u32 b.a, .int .i64 b.l, .int .i64 b.i, .int .u32 b.g, .int .i64 b.m] 27)).alloc (.cells #[.int .i64 c.t, .int .u32 c.a, .int .i64 c.l, .int .i64 c.i, .int .u32 c.g, .int .i64 c.m] 27))).drew
      have a0' := fun w' h => A0 w' (hd.trans h)
      have a1' := fun w' h => A1 w' (hd.trans h)
      have a2' := fun w' h => A2 w' (hd.trans h)
      have a3' := fun w' h => A3 w' (hd.trans h)
      have a4' := fun w' h => A4 w' (hd.trans h)
      have a5' := fun w' h => A5 w' (hd.trans h)
      have b0' := fun w' h => B0 w' (hd.trans h)
      have b1' := fun w' h => B1 w' (hd.trans h)
      have b2' := fun w' h => B2 w' (hd.trans h)
      have b3' := fun w' h => B3 w' (hd.trans h)
      have b4' := fun w' h => B4 w' (hd.trans h)
      have b5' := fun w' h => B5 w' (hd.trans h)
      have hE := hA.trans hd
      generalize (((w.alloc (.cells #[.int .i64 a.t, .int .u32 a.a, .int .i64 a.l, .int .i64 a.i, .int .u32 a.g, .int .i64 a.m] 27)).alloc (.cells #[.int .i64 b.t, .int .u32 b.a, .int .i64 b.l, .int .i64 b.i, .int .u32 b.g, .int .i64 b.m] 27)).alloc (.cells #[.int .i64 c.t, .int .u32 c.a, .int .i64 c.l, .int .i64 c.i, .int .u32 c.g, .int .i64 c.m] 27)).drew = V at *
      generalize (((w.alloc (.cells #[.int .i64 a.t, .int .u32 a.a, .int .i64 a.l, .int .i64 a.i, .int .u32 a.g, .int .i64 a.m] 27)).alloc (.cells #[.int .i64 b.t, .int .u32 b.a, .int .i64 b.l, .int .i64 b.i, .int .u32 b.g, .int .i64 b.m] 27)).alloc (.cells #[.int .i64 c.t, .int .u32 c.a, .int .i64 c.l, .int .i64 c.i, .int .u32 c.g, .int .i64 c.m] 27)) = W at *
      iterate 4 (refine wpE_read (v := ?_) rfl (by rfl) ?_ ?_; rotate_left; (focus (intro w' hx; go_simp; first | done | with_reducible rfl)); simp only [Act.put, List.setIfInBounds_toArray, List.set_cons_zero, List.set_cons_succ])
      refine wpE_call rfl (by rfl) (fun K hK => ?_)
      go_simp
      go_at_call 21
      refine (kab _).mono ?_
      rintro e w1 ⟨rfl, hx1⟩
      refine hK _ _ hx1 ?_
      clear hK K
      refine wpE_call rfl (by rfl) (fun K hK => ?_)
      go_simp
      go_at_call 21
      refine (kba _).mono ?_
      rintro e w2 ⟨rfl, hx2⟩
      refine hK _ _ hx2 ?_
      clear hK K
      iterate 2 (refine wpE_read (v := ?_) rfl (by rfl) ?_ ?_; rotate_left; (focus (intro w' hx; go_simp; first | done | with_reducible rfl)); simp only [Act.put, List.setIfInBounds_toArray, List.set_cons_zero, List.set_cons_succ])
      refine wpE_done ?_
      clear a0' a1' a2' a3' a4' a5' b0' b1' b2' b3' b4' b5'
      have hW2 := hd.trans (hx1.trans hx2)
      have tok1 : Hid True := trivial
      go_wp2_with (first
        | (go_at_call 22; refine (kr _).mono ?_; rintro e w3 ⟨rfl, hx3⟩; have hW3 := hW2.trans hx3)
        | (go_at_call 16; refine (kn _).mono ?_; rintro e w7 ⟨rfl, hx7⟩))
      go_ret
      exact ⟨rfl, hA.trans (hW3.trans hx7)⟩
    · rcases hxy with ⟨hx, hy⟩ | ⟨hx, hy⟩
      · rw [hx] at kab kr
        rw [hy] at kba
        have htr' := htr hx
        clear htr
        cases hz : betB b c with
        | false =>
          rw [hz] at kbc
          clear htr' hx hy hz kac
          rcases hs with e1 | ⟨e1, e2⟩ | ⟨e1, e2, e3⟩
          · go_enter Try.func5, Try.ntmps5
            go_wp2_with fail
            refine wp_region_eager [(0, false), (1, false), (3, false), (4, false), (2, true), (5, true), (6, false), (7, false)] (by kernel_rfl) (by kernel_rfl) rfl (by kernel_rfl) (fun _ _ _ _ _ h => h) ?_
            obtain ⟨A0, A1, A2, A3, A4, A5⟩ := HA.out
            obtain ⟨B0, B1, B2, B3, B4, B5⟩ := HB.out
            obtain ⟨C0, C1, C2, C3, C4, C5⟩ := HC.out
            have hd := (Ext.refl (((w.alloc (.cells #[.int .i64 a.t, .int .u32 a.a, .int .i64 a.l, .int .i64 a.i, .int .u32 a.g, .int .i64 a.m] 27)).alloc (.cells #[.int .i64 b.t, .int .u32 b.a, .int .i64 b.l, .int .i64 b.i, .int .u32 b.g, .int .i64 b.m] 27)).alloc (.cells #[.int .i64 c.t, .int .u32 c.a, .int .i64 c.l, .int .i64 c.i, .int .u32 c.g, .int .i64 c.m] 27))).drew
            have a0' := fun w' h => A0 w' (hd.trans h)
            have a1' := fun w' h => A1 w' (hd.trans h)
            have a2' := fun w' h => A2 w' (hd.trans h)
            have a3' := fun w' h => A3 w' (hd.trans h)
            have a4' := fun w' h => A4 w' (hd.trans h)
            have a5' := fun w' h => A5 w' (hd.trans h)
            have b0' := fun w' h => B0 w' (hd.trans h)
            have b1' := fun w' h => B1 w' (hd.trans h)
            have b2' := fun w' h => B2 w' (hd.trans h)
            have b3' := fun w' h => B3 w' (hd.trans h)
            have b4' := fun w' h => B4 w' (hd.trans h)
            have b5' := fun w' h => B5 w' (hd.trans h)
            have hE := hA.trans hd
            generalize (((w.alloc (.cells #[.int .i64 a.t, .int .u32 a.a, .int .i64 a.l, .int .i64 a.i, .int .u32 a.g, .int .i64 a.m] 27)).alloc (.cells #[.int .i64 b.t, .int .u32 b.a, .int .i64 b.l, .int .i64 b.i, .int .u32 b.g, .int .i64 b.m] 27)).alloc (.cells #[.int .i64 c.t, .int .u32 c.a, .int .i64 c.l, .int .i64 c.i, .int .u32 c.g, .int .i64 c.m] 27)).drew = V at *
            generalize (((w.alloc (.cells #[.int .i64 a.t, .int .u32 a.a, .int .i64 a.l, .int .i64 a.i, .int .u32 a.g, .int .i64 a.m] 27)).alloc (.cells #[.int .i64 b.t, .int .u32 b.a, .int .i64 b.l, .int .i64 b.i, .int .u32 b.g, .int .i64 b.m] 27)).alloc (.cells #[.int .i64 c.t, .int .u32 c.a, .int .i64 c.l, .int .i64 c.i, .int .u32 c.g, .int .i64 c.m] 27)) = W at *
            iterate 4 (refine wpE_read (v := ?_) rfl (by rfl) ?_ ?_; rotate_left; (focus (intro w' hx; go_simp; first | done | with_reducible rfl)); simp only [Act.put, List.setIfInBounds_toArray, List.set_cons_zero, List.set_cons_succ])
            refine wpE_call rfl (by rfl) (fun K hK => ?_)
            go_simp
            go_at_call 21
            refine (kab _).mono ?_
            rintro e w1 ⟨rfl, hx1⟩
            refine hK _ _ hx1 ?_
            clear hK K
            refine wpE_call rfl (by rfl) (fun K hK => ?_)
            go_simp
            go_at_call 21
            refine (kba _).mono ?_
            rintro e w2 ⟨rfl, hx2⟩
            refine hK _ _ hx2 ?_
            clear hK K
            iterate 2 (refine wpE_read (v := ?_) rfl (by rfl) ?_ ?_; rotate_left; (focus (intro w' hx; go_simp; first | done | with_reducible rfl)); simp only [Act.put, List.setIfInBounds_toArray, List.set_cons_zero, List.set_cons_succ])
            refine wpE_done ?_
            clear a0' a1' a2' a3' a4' a5' b0' b1' b2' b3' b4' b5'
            have hW2 := hd.trans (hx1.trans hx2)
            have tok1 : Hid True := trivial
            go_wp2_with (first
              | (go_at_call 22; refine (kr _).mono ?_; rintro e w3 ⟨rfl, hx3⟩; have hW3 := hW2.trans hx3)
              | (go_at_call 21; clear tok1; refine (kbc _).mono ?_; rintro e w4 ⟨rfl, hx4⟩; have hW4 := hW3.trans hx4)
              | (go_at_call 16; refine (kn _).mono ?_; rintro e w7 ⟨rfl, hx7⟩))
            go_ret
            exact ⟨rfl, hA.trans (hW4.trans hx7)⟩
          · go_enter Try.func5, Try.ntmps5
            go_wp2_with fail
            refine wp_region_eager [(0, false), (1, false), (3, false), (4, false), (2, true), (5, true), (6, false), (7, false)] (by kernel_rfl) (by kernel_rfl) rfl (by kernel_rfl) (fun _ _ _ _ _ h => h) ?_
            obtain ⟨A0, A1, A2, A3, A4, A5⟩ := HA.out
            obtain ⟨B0, B1, B2, B3, B4, B5⟩ := HB.out
            obtain ⟨C0, C1, C2, C3, C4, C5⟩ := HC.out
            have hd := (Ext.refl (((w.alloc (.cells #[.int .i64 a.t, .int .u32 a.a, .int .i64 a.l, .int .i64 a.i, .int .u32 a.g, .int .i64 a.m] 27)).alloc (.cells #[.int .i64 b.t, .int .u32 b.a, .int .i64 b.l, .int .i64 b.i, .int .u32 b.g, .int .i64 b.m] 27)).alloc (.cells #[.int .i64 c.t, .int .u32 c.a, .int .i64 c.l, .int .i64 c.i, .int .u32 c.g, .int .i64 c.m] 27))).drew
            have a0' := fun w' h => A0 w' (hd.trans h)
            have a1' := fun w' h => A1 w' (hd.trans h)
            have a2' := fun w' h => A2 w' (hd.trans h)
            have a3' := fun w' h => A3 w' (hd.trans h)
            have a4' := fun w' h => A4 w' (hd.trans h)
            have a5' := fun w' h => A5 w' (hd.trans h)
            have b0' := fun w' h => B0 w' (hd.trans h)
            have b1' := fun w' h => B1 w' (hd.trans h)
            have b2' := fun w' h => B2 w' (hd.trans h)
            have b3' := fun w' h => B3 w' (hd.trans h)
            have b4' := fun w' h => B4 w' (hd.trans h)
            have b5' := fun w' h => B5 w' (hd.trans h)
            have hE := hA.trans hd
            generalize (((w.alloc (.cells #[.int .i64 a.t, .int .u32 a.a, .int .i64 a.l, .int .i64 a.i, .int .u32 a.g, .int .i64 a.m] 27)).alloc (.cells #[.int .i64 b.t, .int .u32 b.a, .int .i64 b.l, .int .i64 b.i, .int .u32 b.g, .int .i64 b.m] 27)).alloc (.cells #[.int .i64 c.t, .int .u32 c.a, .int .i64 c.l, .int .i64 c.i, .int .u32 c.g, .int .i64 c.m] 27)).drew = V at *
            generalize (((w.alloc (.cells #[.int .i64 a.t, .int .u32 a.a, .int .i64 a.l, .int .i64 a.i, .int .u32 a.g, .int .i64 a.m] 27)).alloc (.cells #[.int .i64 b.t, .int .u32 b.a, .int .i64 b.l, .int .i64 b.i, .int .u32 b.g, .int .i64 b.m] 27)).alloc (.cells #[.int .i64 c.t, .int .u32 c.a, .int .i64 c.l, .int .i64 c.i, .int .u32 c.g, .int .i64 c.m] 27)) = W at *
            iterate 4 (refine wpE_read (v := ?_) rfl (by rfl) ?_ ?_; rotate_left; (focus (intro w' hx; go_simp; first | done | with_reducible rfl)); simp only [Act.put, List.setIfInBounds_toArray, List.set_cons_zero, List.set_cons_succ])
            refine wpE_call rfl (by rfl) (fun K hK => ?_)
            go_simp
            go_at_call 21
            refine (kab _).mono ?_
            rintro e w1 ⟨rfl, hx1⟩
            refine hK _ _ hx1 ?_
            clear hK K
            refine wpE_call rfl (by rfl) (fun K hK => ?_)
            go_simp
            go_at_call 21
            refine (kba _).mono ?_
            rintro e w2 ⟨rfl, hx2⟩
            refine hK _ _ hx2 ?_
            clear hK K
            iterate 2 (refine wpE_read (v := ?_) rfl (by rfl) ?_ ?_; rotate_left; (focus (intro w' hx; go_simp; first | done | with_reducible rfl)); simp only [Act.put, List.setIfInBounds_toArray, List.set_cons_zero, List.set_cons_succ])
            refine wpE_done ?_
            clear a0' a1' a2' a3' a4' a5' b0' b1' b2' b3' b4' b5'
            have hW2 := hd.trans (hx1.trans hx2)
            have tok1 : Hid True := trivial
            go_wp2_with (first
              | (go_at_call 22; refine (kr _).mono ?_; rintro e w3 ⟨rfl, hx3⟩; have hW3 := hW2.trans hx3)
              | (go_at_call 21; clear tok1; refine (kbc _).mono ?_; rintro e w4 ⟨rfl, hx4⟩; have hW4 := hW3.trans hx4)
              | (go_at_call 16; refine (kn _).mono ?_; rintro e w7 ⟨rfl, hx7⟩))
            go_ret
            exact ⟨rfl, hA.trans (hW4.trans hx7)⟩
          · go_enter Try.func5, Try.ntmps5
            go_wp2_with fail
            refine wp_region_eager [(0, false), (1, false), (3, false), (4, false), (2, true), (5, true), (6, false), (7, false)] (by kernel_rfl) (by kernel_rfl) rfl (by kernel_rfl) (fun _ _ _ _ _ h => h) ?_
            obtain ⟨A0, A1, A2, A3, A4, A5⟩ := HA.out
            obtain ⟨B0, B1, B2, B3, B4, B5⟩ := HB.out
            obtain ⟨C0, C1, C2, C3, C4, C5⟩ := HC.out
            have hd := (Ext.refl (((w.alloc (.cells #[.int .i64 a.t, .int .u32 a.a, .int .i64 a.l, .int .i64 a.i, .int .u32 a.g, .int .i64 a.m] 27)).alloc (.cells #[.int .i64 b.t, .int .u32 b.a, .int .i64 b.l, .int .i64 b.i, .int .u32 b.g, .int .i64 b.m] 27)).alloc (.cells #[.int .i64 c.t, .int .u32 c.a, .int .i64 c.l, .int .i64 c.i, .int .u32 c.g, .int .i64 c.m] 27))).drew
            have a0' := fun w' h => A0 w' (hd.trans h)
            have a1' := fun w' h => A1 w' (hd.trans h)
            have a2' := fun w' h => A2 w' (hd.trans h)
            have a3' := fun w' h => A3 w' (hd.trans h)
            have a4' := fun w' h => A4 w' (hd.trans h)
            have a5' := fun w' h => A5 w' (hd.trans h)
            have b0' := fun w' h => B0 w' (hd.trans h)
            have b1' := fun w' h => B1 w' (hd.trans h)
            have b2' := fun w' h => B2 w' (hd.trans h)
            have b3' := fun w' h => B3 w' (hd.trans h)
            have b4' := fun w' h => B4 w' (hd.trans h)
            have b5' := fun w' h => B5 w' (hd.trans h)
            have hE := hA.trans hd
            generalize (((w.alloc (.cells #[.int .i64 a.t, .int .u32 a.a, .int .i64 a.l, .int .i64 a.i, .int .u32 a.g, .int .i64 a.m] 27)).alloc (.cells #[.int .i64 b.t, .int .u32 b.a, .int .i64 b.l, .int .i64 b.i, .int .u32 b.g, .int .i64 b.m] 27)).alloc (.cells #[.int .i64 c.t, .int .u32 c.a, .int .i64 c.l, .int .i64 c.i, .int .u32 c.g, .int .i64 c.m] 27)).drew = V at *
            generalize (((w.alloc (.cells #[.int .i64 a.t, .int .u32 a.a, .int .i64 a.l, .int .i64 a.i, .int .u32 a.g, .int .i64 a.m] 27)).alloc (.cells #[.int .i64 b.t, .int .u32 b.a, .int .i64 b.l, .int .i64 b.i, .int .u32 b.g, .int .i64 b.m] 27)).alloc (.cells #[.int .i64 c.t, .int .u32 c.a, .int .i64 c.l, .int .i64 c.i, .int .u32 c.g, .int .i64 c.m] 27)) = W at *
            iterate 4 (refine wpE_read (v := ?_) rfl (by rfl) ?_ ?_; rotate_left; (focus (intro w' hx; go_simp; first | done | with_reducible rfl)); simp only [Act.put, List.setIfInBounds_toArray, List.set_cons_zero, List.set_cons_succ])
            refine wpE_call rfl (by rfl) (fun K hK => ?_)
            go_simp
            go_at_call 21
            refine (kab _).mono ?_
            rintro e w1 ⟨rfl, hx1⟩
            refine hK _ _ hx1 ?_
            clear hK K
            refine wpE_call rfl (by rfl) (fun K hK => ?_)
            go_simp
            go_at_call 21
            refine (kba _).mono ?_
            rintro e w2 ⟨rfl, hx2⟩
            refine hK _ _ hx2 ?_
            clear hK K
            iterate 2 (refine wpE_read (v := ?_) rfl (by rfl) ?_ ?_; rotate_left; (focus (intro w' hx; go_simp; first | done | with_reducible rfl)); simp only [Act.put, List.setIfInBounds_toArray, List.set_cons_zero, List.set_cons_succ])
            refine wpE_done ?_
            clear a0' a1' a2' a3' a4' a5' b0' b1' b2' b3' b4' b5'
            have hW2 := hd.trans (hx1.trans hx2)
            have tok1 : Hid True := trivial
            go_wp2_with (first
              | (go_at_call 22; refine (kr _).mono ?_; rintro e w3 ⟨rfl, hx3⟩; have hW3 := hW2.trans hx3)
              | (go_at_call 21; clear tok1; refine (kbc _).mono ?_; rintro e w4 ⟨rfl, hx4⟩; have hW4 := hW3.trans hx4)
              | (go_at_call 16; refine (kn _).mono ?_; rintro e w7 ⟨rfl, hx7⟩))
            go_ret
            exact ⟨rfl, hA.trans (hW4.trans hx7)⟩
        | true =>
          rw [hz] at kbc
          rw [htr' hz] at kac
          clear htr' hx hy hz
          rcases hs with e1 | ⟨e1, e2⟩ | ⟨e1, e2, e3⟩
          · go_enter Try.func5, Try.ntmps5
            go_wp2_with fail
            refine wp_region_eager [(0, false), (1, false), (3, false), (4, false), (2, true), (5, true), (6, false), (7, false)] (by kernel_rfl) (by kernel_rfl) rfl (by kernel_rfl) (fun _ _ _ _ _ h => h) ?_
            obtain ⟨A0, A1, A2, A3, A4, A5⟩ := HA.out
            obtain ⟨B0, B1, B2, B3, B4, B5⟩ := HB.out
            obtain ⟨C0, C1, C2, C3, C4, C5⟩ := HC.out
            have hd := (Ext.refl (((w.alloc (.cells #[.int .i64 a.t, .int .u32 a.a, .int .i64 a.l, .int .i64 a.i, .int .u32 a.g, .int .i64 a.m] 27)).alloc (.cells #[.int .i64 b.t, .int .u32 b.a, .int .i64 b.l, .int .i64 b.i, .int .u32 b.g, .int .i64 b.m] 27)).alloc (.cells #[.int .i64 c.t, .int .u32 c.a, .int .i64 c.l, .int .i64 c.i, .int .u32 c.g, .int .i64 c.m] 27))).drew
            have a0' := fun w' h => A0 w' (hd.trans h)
            have a1' := fun w' h => A1 w' (hd.trans h)
            have a2' := fun w' h => A2 w' (hd.trans h)
            have a3' := fun w' h => A3 w' (hd.trans h)
            have a4' := fun w' h => A4 w' (hd.trans h)
            have a5' := fun w' h => A5 w' (hd.trans h)
            have b0' := fun w' h => B0 w' (hd.trans h)
            have b1' := fun w' h => B1 w' (hd.trans h)
            have b2' := fun w' h => B2 w' (hd.trans h)
            have b3' := fun w' h => B3 w' (hd.trans h)
            have b4' := fun w' h => B4 w' (hd.trans h)
            have b5' := fun w' h => B5 w' (hd.trans h)
            have hE := hA.trans hd
            generalize (((w.alloc (.cells #[.int .i64 a.t, .int .u32 a.a, .int .i64 a.l, .int .i64 a.i, .int .u32 a.g, .int .i64 a.m] 27)).alloc (.cells #[.int .i64 b.t, .int .u32 b.a, .int .i64 b.l, .int .i64 b.i, .int .u32 b.g, .int .i64 b.m] 27)).alloc (.cells #[.int .i64 c.t, .int .u32 c.a, .int .i64 c.l, .int .i64 c.i, .int .u32 c.g, .int .i64 c.m] 27)).drew = V at *
            generalize (((w.alloc (.cells #[.int .i64 a.t, .int .u32 a.a, .int .i64 a.l, .int .i64 a.i, .int .u32 a.g, .int .i64 a.m] 27)).alloc (.cells #[.int .i64 b.t, .int .u32 b.a, .int .i64 b.l, .int .i64 b.i, .int .u32 b.g, .int .i64 b.m] 27)).alloc (.cells #[.int .i64 c.t, .int .u32 c.a, .int .i64 c.l, .int .i64 c.i, .int .u32 c.g, .int .i64 c.m] 27)) = W at *
            iterate 4 (refine wpE_read (v := ?_) rfl (by rfl) ?_ ?_; rotate_left; (focus (intro w' hx; go_simp; first | done | with_reducible rfl)); simp only [Act.put, List.setIfInBounds_toArray, List.set_cons_zero, List.set_cons_succ])
            refine wpE_call rfl (by rfl) (fun K hK => ?_)
            go_simp
            go_at_call 21
            refine (kab _).mono ?_
            rintro e w1 ⟨rfl, hx1⟩
            refine hK _ _ hx1 ?_
            clear hK K
            refine wpE_call rfl (by rfl) (fun K hK => ?_)
            go_simp
            go_at_call 21
            refine (kba _).mono ?_
            rintro e w2 ⟨rfl, hx2⟩
            refine hK _ _ hx2 ?_
            clear hK K
            iterate 2 (refine wpE_read (v := ?_) rfl (by rfl) ?_ ?_; rotate_left; (focus (intro w' hx; go_simp; first | done | with_reducible rfl)); simp only [Act.put, List.setIfInBounds_toArray, List.set_cons_zero, List.set_cons_succ])
            refine wpE_done ?_
            clear a0' a1' a2' a3' a4' a5' b0' b1' b2' b3' b4' b5'
            have hW2 := hd.trans (hx1.trans hx2)
            have tok1 : Hid True := trivial
            go_wp2_with (first
              | (go_at_call 22; refine (kr _).mono ?_; rintro e w3 ⟨rfl, hx3⟩; have hW3 := hW2.trans hx3)
              | (go_at_call 21; clear tok1; refine (kbc _).mono ?_; rintro e w4 ⟨rfl, hx4⟩; have hW4 := hW3.trans hx4)
              | (go_at_call 21; refine (kac _).mono ?_; rintro e w5 ⟨rfl, hx5⟩; have hW5 := hW4.trans hx5)
              | (go_at_call 16; refine (kn _).mono ?_; rintro e w7 ⟨rfl, hx7⟩))
            go_ret
            exact ⟨rfl, hA.trans (hW5.trans hx7)⟩
          · go_enter Try.func5, Try.ntmps5
            go_wp2_with fail
            refine wp_region_eager [(0, false), (1, false), (3, false), (4, false), (2, true), (5, true), (6, false), (7, false)] (by kernel_rfl) (by kernel_rfl) rfl (by kernel_rfl) (fun _ _ _ _ _ h => h) ?_
            obtain ⟨A0, A1, A2, A3, A4, A5⟩ := HA.out
            obtain ⟨B0, B1, B2, B3, B4, B5⟩ := HB.out
            obtain ⟨C0, C1, C2, C3, C4, C5⟩ := HC.out
            have hd := (Ext.refl (((w.alloc (.cells #[.int .i64 a.t, .int .u32 a.a, .int .i64 a.l, .int .i64 a.i, .int .u32 a.g, .int .i64 a.m] 27)).alloc (.cells #[.int .i64 b.t, .int .u32 b.a, .int .i64 b.l, .int .i64 b.i, .int .u32 b.g, .int .i64 b.m] 27)).alloc (.cells #[.int .i64 c.t, .int .u32 c.a, .int .i64 c.l, .int .i64 c.i, .int .u32 c.g, .int .i64 c.m] 27))).drew
            have a0' := fun w' h => A0 w' (hd.trans h)
            have a1' := fun w' h => A1 w' (hd.trans h)
            have a2' := fun w' h => A2 w' (hd.trans h)
            have a3' := fun w' h => A3 w' (hd.trans h)
            have a4' := fun w' h => A4 w' (hd.trans h)
            have a5' := fun w' h => A5 w' (hd.trans h)
            have b0' := fun w' h => B0 w' (hd.trans h)
            have b1' := fun w' h => B1 w' (hd.trans h)
            have b2' := fun w' h => B2 w' (hd.trans h)
            have b3' := fun w' h => B3 w' (hd.trans h)
            have b4' := fun w' h => B4 w' (hd.trans h)
            have b5' := fun w' h => B5 w' (hd.trans h)
            have hE := hA.trans hd
            generalize (((w.alloc (.cells #[.int .i64 a.t, .int .u32 a.a, .int .i64 a.l, .int .i64 a.i, .int .u32 a.g, .int .i64 a.m] 27)).alloc (.cells #[.int .i64 b.t, .int .u32 b.a, .int .i64 b.l, .int .i64 b.i, .int .u32 b.g, .int .i64 b.m] 27)).alloc (.cells #[.int .i64 c.t, .int .u32 c.a, .int .i64 c.l, .int .i64 c.i, .int .u32 c.g, .int .i64 c.m] 27)).drew = V at *
            generalize (((w.alloc (.cells #[.int .i64 a.t, .int .u32 a.a, .int .i64 a.l, .int .i64 a.i, .int .u32 a.g, .int .i64 a.m] 27)).alloc (.cells #[.int .i64 b.t, .int .u32 b.a, .int .i64 b.l, .int .i64 b.i, .int .u32 b.g, .int .i64 b.m] 27)).alloc (.cells #[.int .i64 c.t, .int .u32 c.a, .int .i64 c.l, .int .i64 c.i, .int .u32 c.g, .int .i64 c.m] 27)) = W at *
            iterate 4 (refine wpE_read (v := ?_) rfl (by rfl) ?_ ?_; rotate_left; (focus (intro w' hx; go_simp; first | done | with_reducible rfl)); simp only [Act.put, List.setIfInBounds_toArray, List.set_cons_zero, List.set_cons_succ])
            refine wpE_call rfl (by rfl) (fun K hK => ?_)
            go_simp
            go_at_call 21
            refine (kab _).mono ?_
            rintro e w1 ⟨rfl, hx1⟩
            refine hK _ _ hx1 ?_
            clear hK K
            refine wpE_call rfl (by rfl) (fun K hK => ?_)
            go_simp
            go_at_call 21
            refine (kba _).mono ?_
            rintro e w2 ⟨rfl, hx2⟩
            refine hK _ _ hx2 ?_
            clear hK K
            iterate 2 (refine wpE_read (v := ?_) rfl (by rfl) ?_ ?_; rotate_left; (focus (intro w' hx; go_simp; first | done | with_reducible rfl)); simp only [Act.put, List.setIfInBounds_toArray, List.set_cons_zero, List.set_cons_succ])
            refine wpE_done ?_
            clear a0' a1' a2' a3' a4' a5' b0' b1' b2' b3' b4' b5'
            have hW2 := hd.trans (hx1.trans hx2)
            have tok1 : Hid True := trivial
            go_wp2_with (first
              | (go_at_call 22; refine (kr _).mono ?_; rintro e w3 ⟨rfl, hx3⟩; have hW3 := hW2.trans hx3)
              | (go_at_call 21; clear tok1; refine (kbc _).mono ?_; rintro e w4 ⟨rfl, hx4⟩; have hW4 := hW3.trans hx4)
              | (go_at_call 21; refine (kac _).mono ?_; rintro e w5 ⟨rfl, hx5⟩; have hW5 := hW4.trans hx5)
              | (go_at_call 16; refine (kn _).mono ?_; rintro e w7 ⟨rfl, hx7⟩))
            go_ret
            exact ⟨rfl, hA.trans (hW5.trans hx7)⟩
          · go_enter Try.func5, Try.ntmps5
            go_wp2_with fail
            refine wp_region_eager [(0, false), (1, false), (3, false), (4, false), (2, true), (5, true), (6, false), (7, false)] (by kernel_rfl) (by kernel_rfl) rfl (by kernel_rfl) (fun _ _ _ _ _ h => h) ?_
            obtain ⟨A0, A1, A2, A3, A4, A5⟩ := HA.out
            obtain ⟨B0, B1, B2, B3, B4, B5⟩ := HB.out
            obtain ⟨C0, C1, C2, C3, C4, C5⟩ := HC.out
            have hd := (Ext.refl (((w.alloc (.cells #[.int .i64 a.t, .int .u32 a.a, .int .i64 a.l, .int .i64 a.i, .int .u32 a.g, .int .i64 a.m] 27)).alloc (.cells #[.int .i64 b.t, .int .u32 b.a, .int .i64 b.l, .int .i64 b.i, .int .u32 b.g, .int .i64 b.m] 27)).alloc (.cells #[.int .i64 c.t, .int .u32 c.a, .int .i64 c.l, .int .i64 c.i, .int .u32 c.g, .int .i64 c.m] 27))).drew
            have a0' := fun w' h => A0 w' (hd.trans h)
            have a1' := fun w' h => A1 w' (hd.trans h)
            have a2' := fun w' h => A2 w' (hd.trans h)
            have a3' := fun w' h => A3 w' (hd.trans h)
            have a4' := fun w' h => A4 w' (hd.trans h)
            have a5' := fun w' h => A5 w' (hd.trans h)
            have b0' := fun w' h => B0 w' (hd.trans h)
            have b1' := fun w' h => B1 w' (hd.trans h)
            have b2' := fun w' h => B2 w' (hd.trans h)
            have b3' := fun w' h => B3 w' (hd.trans h)
            have b4' := fun w' h => B4 w' (hd.trans h)
            have b5' := fun w' h => B5 w' (hd.trans h)
            have hE := hA.trans hd
            generalize (((w.alloc (.cells #[.int .i64 a.t, .int .u32 a.a, .int .i64 a.l, .int .i64 a.i, .int .u32 a.g, .int .i64 a.m] 27)).alloc (.cells #[.int .i64 b.t, .int .u32 b.a, .int .i64 b.l, .int .i64 b.i, .int .u32 b.g, .int .i64 b.m] 27)).alloc (.cells #[.int .i64 c.t, .int .u32 c.a, .int .i64 c.l, .int .i64 c.i, .int .u32 c.g, .int .i64 c.m] 27)).drew = V at *
            generalize (((w.alloc (.cells #[.int .i64 a.t, .int .u32 a.a, .int .i64 a.l, .int .i64 a.i, .int .u32 a.g, .int .i64 a.m] 27)).alloc (.cells #[.int .i64 b.t, .int .u32 b.a, .int .i64 b.l, .int .i64 b.i, .int .u32 b.g, .int .i64 b.m] 27)).alloc (.cells #[.int .i64 c.t, .int .u32 c.a, .int .i64 c.l, .int .i64 c.i, .int .u32 c.g, .int .i64 c.m] 27)) = W at *
            iterate 4 (refine wpE_read (v := ?_) rfl (by rfl) ?_ ?_; rotate_left; (focus (intro w' hx; go_simp; first | done | with_reducible rfl)); simp only [Act.put, List.setIfInBounds_toArray, List.set_cons_zero, List.set_cons_succ])
            refine wpE_call rfl (by rfl) (fun K hK => ?_)
            go_simp
            go_at_call 21
            refine (kab _).mono ?_
            rintro e w1 ⟨rfl, hx1⟩
            refine hK _ _ hx1 ?_
            clear hK K
            refine wpE_call rfl (by rfl) (fun K hK => ?_)
            go_simp
            go_at_call 21
            refine (kba _).mono ?_
            rintro e w2 ⟨rfl, hx2⟩
            refine hK _ _ hx2 ?_
            clear hK K
            iterate 2 (refine wpE_read (v := ?_) rfl (by rfl) ?_ ?_; rotate_left; (focus (intro w' hx; go_simp; first | done | with_reducible rfl)); simp only [Act.put, List.setIfInBounds_toArray, List.set_cons_zero, List.set_cons_succ])
            refine wpE_done ?_
            clear a0' a1' a2' a3' a4' a5' b0' b1' b2' b3' b4' b5'
            have hW2 := hd.trans (hx1.trans hx2)
            have tok1 : Hid True := trivial
            go_wp2_with (first
              | (go_at_call 22; refine (kr _).mono ?_; rintro e w3 ⟨rfl, hx3⟩; have hW3 := hW2.trans hx3)
              | (go_at_call 21; clear tok1; refine (kbc _).mono ?_; rintro e w4 ⟨rfl, hx4⟩; have hW4 := hW3.trans hx4)
              | (go_at_call 21; refine (kac _).mono ?_; rintro e w5 ⟨rfl, hx5⟩; have hW5 := hW4.trans hx5)
              | (go_at_call 16; refine (kn _).mono ?_; rintro e w7 ⟨rfl, hx7⟩))
            go_ret
            exact ⟨rfl, hA.trans (hW5.trans hx7)⟩
      · rw [hx] at kab kr
        rw [hy] at kba
        clear htr hx hy kbc kac
        rcases hs with e1 | ⟨e1, e2⟩ | ⟨e1, e2, e3⟩
        · go_enter Try.func5, Try.ntmps5
          go_wp2_with fail
          refine wp_region_eager [(0, false), (1, false), (3, false), (4, false), (2, true), (5, true), (6, false), (7, false)] (by kernel_rfl) (by kernel_rfl) rfl (by kernel_rfl) (fun _ _ _ _ _ h => h) ?_
          obtain ⟨A0, A1, A2, A3, A4, A5⟩ := HA.out
          obtain ⟨B0, B1, B2, B3, B4, B5⟩ := HB.out
          obtain ⟨C0, C1, C2, C3, C4, C5⟩ := HC.out
          have hd := (Ext.refl (((w.alloc (.cells #[.int .i64 a.t, .int .u32 a.a, .int .i64 a.l, .int .i64 a.i, .int .u32 a.g, .int .i64 a.m] 27)).alloc (.cells #[.int .i64 b.t, .int .u32 b.a, .int .i64 b.l, .int .i64 b.i, .int .u32 b.g, .int .i64 b.m] 27)).alloc (.cells #[.int .i64 c.t, .int .u32 c.a, .int .i64 c.l, .int .i64 c.i, .int .u32 c.g, .int .i64 c.m] 27))).drew
          have a0' := fun w' h => A0 w' (hd.trans h)
          have a1' := fun w' h => A1 w' (hd.trans h)
          have a2' := fun w' h => A2 w' (hd.trans h)
          have a3' := fun w' h => A3 w' (hd.trans h)
          have a4' := fun w' h => A4 w' (hd.trans h)
          have a5' := fun w' h => A5 w' (hd.trans h)
          have b0' := fun w' h => B0 w' (hd.trans h)
          have b1' := fun w' h => B1 w' (hd.trans h)
          have b2' := fun w' h => B2 w' (hd.trans h)
          have b3' := fun w' h => B3 w' (hd.trans h)
          have b4' := fun w' h => B4 w' (hd.trans h)
          have b5' := fun w' h => B5 w' (hd.trans h)
          have hE := hA.trans hd
          generalize (((w.alloc (.cells #[.int .i64 a.t, .int .u32 a.a, .int .i64 a.l, .int .i64 a.i, .int .u32 a.g, .int .i64 a.m] 27)).alloc (.cells #[.int .i64 b.t, .int .u32 b.a, .int .i64 b.l, .int .i64 b.i, .int .u32 b.g, .int .i64 b.m] 27)).alloc (.cells #[.int .i64 c.t, .int .u32 c.a, .int .i64 c.l, .int .i64 c.i, .int .u32 c.g, .int .i64 c.m] 27)).drew = V at *
          generalize (((w.alloc (.cells #[.int .i64 a.t, .int .u32 a.a, .int .i64 a.l, .int .i64 a.i, .int .u32 a.g, .int .i64 a.m] 27)).alloc (.cells #[.int .i64 b.t, .int .u32 b.a, .int .i64 b.l, .int .i64 b.i, .int .u32 b.g, .int .i64 b.m] 27)).alloc (.cells #[.int .i64 c.t, .int .u32 c.a, .int .i64 c.l, .int .i64 c.i, .int .u32 c.g, .int .i64 c.m] 27)) = W at *
          iterate 4 (refine wpE_read (v := ?_) rfl (by rfl) ?_ ?_; rotate_left; (focus (intro w' hx; go_simp; first | done | with_reducible rfl)); simp only [Act.put, List.setIfInBounds_toArray, List.set_cons_zero, List.set_cons_succ])
          refine wpE_call rfl (by rfl) (fun K hK => ?_)
          go_simp
          go_at_call 21
          refine (kab _).mono ?_
          rintro e w1 ⟨rfl, hx1⟩
          refine hK _ _ hx1 ?_
          clear hK K
          refine wpE_call rfl (by rfl) (fun K hK => ?_)
          go_simp
          go_at_call 21
          refine (kba _).mono ?_
          rintro e w2 ⟨rfl, hx2⟩
          refine hK _ _ hx2 ?_
          clear hK K
          iterate 2 (refine wpE_read (v := ?_) rfl (by rfl) ?_ ?_; rotate_left; (focus (intro w' hx; go_simp; first | done | with_reducible rfl)); simp only [Act.put, List.setIfInBounds_toArray, List.set_cons_zero, List.set_cons_succ])
          refine wpE_done ?_
          clear a0' a1' a2' a3' a4' a5' b0' b1' b2' b3' b4' b5'
          have hW2 := hd.trans (hx1.trans hx2)
          have tok1 : Hid True := trivial
          go_wp2_with (first
            | (go_at_call 22; refine (kr _).mono ?_; rintro e w3 ⟨rfl, hx3⟩; have hW3 := hW2.trans hx3)
            | (go_at_call 16; refine (kn _).mono ?_; rintro e w7 ⟨rfl, hx7⟩))
          go_ret
          exact ⟨rfl, hA.trans (hW3.trans hx7)⟩
        · go_enter Try.func5, Try.ntmps5
          go_wp2_with fail
          refine wp_region_eager [(0, false), (1, false), (3, false), (4, false), (2, true), (5, true), (6, false), (7, false)] (by kernel_rfl) (by kernel_rfl) rfl (by kernel_rfl) (fun _ _ _ _ _ h => h) ?_
          obtain ⟨A0, A1, A2, A3, A4, A5⟩ := HA.out
          obtain ⟨B0, B1, B2, B3, B4, B5⟩ := HB.out
          obtain ⟨C0, C1, C2, C3, C4, C5⟩ := HC.out
          have hd := (Ext.refl (((w.alloc (.cells #[.int .i64 a.t, .int .u32 a.a, .int .i64 a.l, .int .i64 a.i, .int .u32 a.g, .int .i64 a.m] 27)).alloc (.cells #[.int .i64 b.t, .int .u32 b.a, .int .i64 b.l, .int .i64 b.i, .int .u32 b.g, .int .i64 b.m] 27)).alloc (.cells #[.int .i64 c.t, .int .u32 c.a, .int .i64 c.l, .int .i64 c.i, .int .u32 c.g, .int .i64 c.m] 27))).drew
          have a0' := fun w' h => A0 w' (hd.trans h)
          have a1' := fun w' h => A1 w' (hd.trans h)
          have a2' := fun w' h => A2 w' (hd.trans h)
          have a3' := fun w' h => A3 w' (hd.trans h)
          have a4' := fun w' h => A4 w' (hd.trans h)
          have a5' := fun w' h => A5 w' (hd.trans h)
          have b0' := fun w' h => B0 w' (hd.trans h)
          have b1' := fun w' h => B1 w' (hd.trans h)
          have b2' := fun w' h => B2 w' (hd.trans h)
          have b3' := fun w' h => B3 w' (hd.trans h)
          have b4' := fun w' h => B4 w' (hd.trans h)
          have b5' := fun w' h => B5 w' (hd.trans h)
          have hE := hA.trans hd
          generalize (((w.alloc (.cells #[.int .i64 a.t, .int .u32 a.a, .int .i64 a.l, .int .i64 a.i, .int .u32 a.g, .int .i64 a.m] 27)).alloc (.cells #[.int .i64 b.t, .int .u32 b.a, .int .i64 b.l, .int .i64 b.i, .int .u32 b.g, .int .i64 b.m] 27)).alloc (.cells #[.int .i64 c.t, .int .u32 c.a, .int .i64 c.l, .int .i64 c.i, .int .u32 c.g, .int .i64 c.m] 27)).drew = V at *
          generalize (((w.alloc (.cells #[.int .i64 a.t, .int .u32 a.a, .int .i64 a.l, .int .i64 a.i, .int .u32 a.g, .int .i64 a.m] 27)).alloc (.cells #[.int .i64 b.t, .int .u32 b.a, .int .i64 b.l, .int .i64 b.i, .int .u32 b.g, .int .i64 b.m] 27)).alloc (.cells #[.int .i64 c.t, .int .u32 c.a, .int .i64 c.l, .int .i64 c.i, .int .u32 c.g, .int .i64 c.m] 27)) = W at *
          iterate 4 (refine wpE_read (v := ?_) rfl (by rfl) ?_ ?_; rotate_left; (focus (intro w' hx; go_simp; first | done | with_reducible rfl)); simp only [Act.put, List.setIfInBounds_toArray, List.set_cons_zero, List.set_cons_succ])
          refine wpE_call rfl (by rfl) (fun K hK => ?_)
          go_simp
          go_at_call 21
          refine (kab _).mono ?_
          rintro e w1 ⟨rfl, hx1⟩
          refine hK _ _ hx1 ?_
          clear hK K
          refine wpE_call rfl (by rfl) (fun K hK => ?_)
          go_simp
          go_at_call 21
          refine (kba _).mono ?_
          rintro e w2 ⟨rfl, hx2⟩
          refine hK _ _ hx2 ?_
          clear hK K
          iterate 2 (refine wpE_read (v := ?_) rfl (by rfl) ?_ ?_; rotate_left; (focus (intro w' hx; go_simp; first | done | with_reducible rfl)); simp only [Act.put, List.setIfInBounds_toArray, List.set_cons_zero, List.set_cons_succ])
          refine wpE_done ?_
          clear a0' a1' a2' a3' a4' a5' b0' b1' b2' b3' b4' b5'
          have hW2 := hd.trans (hx1.trans hx2)
          have tok1 : Hid True := trivial
          go_wp2_with (first
            | (go_at_call 22; refine (kr _).mono ?_; rintro e w3 ⟨rfl, hx3⟩; have hW3 := hW2.trans hx3)
            | (go_at_call 16; refine (kn _).mono ?_; rintro e w7 ⟨rfl, hx7⟩))
          go_ret
          exact ⟨rfl, hA.trans (hW3.trans hx7)⟩
        · go_enter Try.func5, Try.ntmps5
          go_wp2_with fail
          refine wp_region_eager [(0, false), (1, false), (3, false), (4, false), (2, true), (5, true), (6, false), (7, false)] (by kernel_rfl) (by kernel_rfl) rfl (by kernel_rfl) (fun _ _ _ _ _ h => h) ?_
          obtain ⟨A0, A1, A2, A3, A4, A5⟩ := HA.out
          obtain ⟨B0, B1, B2, B3, B4, B5⟩ := HB.out
          obtain ⟨C0, C1, C2, C3, C4, C5⟩ := HC.out
          have hd := (Ext.refl (((w.alloc (.cells #[.int .i64 a.t, .int .u32 a.a, .int .i64 a.l, .int .i64 a.i, .int .u32 a.g, .int .i64 a.m] 27)).alloc (.cells #[.int .i64 b.t, .int .u32 b.a, .int .i64 b.l, .int .i64 b.i, .int .u32 b.g, .int .i64 b.m] 27)).alloc (.cells #[.int .i64 c.t, .int .u32 c.a, .int .i64 c.l, .int .i64 c.i, .int .u32 c.g, .int .i64 c.m] 27))).drew
          have a0' := fun w' h => A0 w' (hd.trans h)
          have a1' := fun w' h => A1 w' (hd.trans h)
          have a2' := fun w' h => A2 w' (hd.trans h)
          have a3' := fun w' h => A3 w' (hd.trans h)
          have a4' := fun w' h => A4 w' (hd.trans h)
          have a5' := fun w' h => A5 w' (hd.trans h)
          have b0' := fun w' h => B0 w' (hd.trans h)
          have b1' := fun w' h => B1 w' (hd.trans h)
          have b2' := fun w' h => B2 w' (hd.trans h)
          have b3' := fun w' h => B3 w' (hd.trans h)
          have b4' := fun w' h => B4 w' (hd.trans h)
          have b5' := fun w' h => B5 w' (hd.trans h)
          have hE := hA.trans hd
          generalize (((w.alloc (.cells #[.int .i64 a.t, .int .u32 a.a, .int .i64 a.l, .int .i64 a.i, .int .u32 a.g, .int .i64 a.m] 27)).alloc (.cells #[.int .i64 b.t, .int .u32 b.a, .int .i64 b.l, .int .i64 b.i, .int .u32 b.g, .int .i64 b.m] 27)).alloc (.cells #[.int .i64 c.t, .int .u32 c.a, .int .i64 c.l, .int .i64 c.i, .int .u32 c.g, .int .i64 c.m] 27)).drew = V at *
          generalize (((w.alloc (.cells #[.int .i64 a.t, .int .u32 a.a, .int .i64 a.l, .int .i64 a.i, .int .u32 a.g, .int .i64 a.m] 27)).alloc (.cells #[.int .i64 b.t, .int .u32 b.a, .int .i64 b.l, .int .i64 b.i, .int .u32 b.g, .int .i64 b.m] 27)).alloc (.cells #[.int .i64 c.t, .int .u32 c.a, .int .i64 c.l, .int .i64 c.i, .int .u32 c.g, .int .i64 c.m] 27)) = W at *
          iterate 4 (refine wpE_read (v := ?_) rfl (by rfl) ?_ ?_; rotate_left; (focus (intro w' hx; go_simp; first | done | with_reducible rfl)); simp only [Act.put, List.setIfInBounds_toArray, List.set_cons_zero, List.set_cons_succ])
          refine wpE_call rfl (by rfl) (fun K hK => ?_)
          go_simp
          go_at_call 21
          refine (kab _).mono ?_
          rintro e w1 ⟨rfl, hx1⟩
          refine hK _ _ hx1 ?_
          clear hK K
          refine wpE_call rfl (by rfl) (fun K hK => ?_)
          go_simp
          go_at_call 21
          refine (kba _).mono ?_
          rintro e w2 ⟨rfl, hx2⟩
          refine hK _ _ hx2 ?_
          clear hK K
          iterate 2 (refine wpE_read (v := ?_) rfl (by rfl) ?_ ?_; rotate_left; (focus (intro w' hx; go_simp; first | done | with_reducible rfl)); simp only [Act.put, List.setIfInBounds_toArray, List.set_cons_zero, List.set_cons_succ])
          refine wpE_done ?_
          clear a0' a1' a2' a3' a4' a5' b0' b1' b2' b3' b4' b5'
          have hW2 := hd.trans (hx1.trans hx2)
          have tok1 : Hid True := trivial
          go_wp2_with (first
            | (go_at_call 22; refine (kr _).mono ?_; rintro e w3 ⟨rfl, hx3⟩; have hW3 := hW2.trans hx3)
            | (go_at_call 16; refine (kn _).mono ?_; rintro e w7 ⟨rfl, hx7⟩))
          go_ret
          exact ⟨rfl, hA.trans (hW3.trans hx7)⟩
  subst ha hb hc
  exact go

theorem contract (H : Type) (enc : TypeId × Value → H) (W : World) (base : Nat) (args : Array Value) (ds gs : List (DataW H)) (before : List MemPlace)
    (hval : ∀ (j : Nat) t v, Try.f5.params[j]? = some t → args[j]? = some v → Value.okWide Try.prog W .any base t v)
    (hW : DataW.Whole enc Try.prog Try.f5.params.toList Rows.ribBetterSpec.vars false W args.toList ds gs before) (hsh : W.ShapedOpen Try.prog) :
    Calls Try.prog 5 args W fun e W' => ∃ v, e = .returned v ∧ Rows.ribBetterSpec.post enc Try.prog Try.f5 false true false false W args v W' := by
  have hW' := hW
  obtain ⟨p, q, hA0, hV, rfl, hfz, hnd⟩ := hW
  have hA : DataW.TrodAll enc Try.prog W 0 (fun _ => true) true Try.f5.params.toList args.toList ds p := hA0
  rw [Try.params5] at hA hval
  obtain ⟨v0, vs0, d0, ds0, p0, q0, hargs, rfl, rfl, h0, r0⟩ := trodAll_cons hA
  obtain ⟨v1, vs1, d1, ds1, p1, q1, rfl, rfl, rfl, h1, r1⟩ := trodAll_cons r0
  obtain ⟨v2, vs2, d2, ds2, p2, q2, rfl, rfl, rfl, h2, r2⟩ := trodAll_cons r1
  obtain ⟨rfl, rfl, rfl⟩ := trodAll_nil r2
  obtain rfl : args = #[v0, v1, v2] := by cases args; simp_all
  obtain ⟨rfl, rfl⟩ := trodVars_none hV
  have k0 := h0
  have lt0 : ∀ x ∈ p0, x.block < W.heap.size := by obtain ⟨m, hm⟩ := k0; exact DataW.trod_lt m _ _ _ hm
  obtain ⟨cs0, rfl, hs0⟩ := okWide_struct Try.underlying27 (hval 0 27 v0 rfl rfl)
  obtain ⟨u0a, u0b, u0c, u0d, u0e, u0f, rfl⟩ := arr6 (hs0.trans (by kernel_rfl))
  obtain ⟨fu0, hf0⟩ := h0
  obtain ⟨_, _, e1⟩ := field_at Try.underlying27 hf0 0 rfl 1 (by kernel_rfl)
  obtain ⟨a00, c2, _, w00⟩ := DataW.trod_int Try.underlying3 e1
  obtain rfl : u0a = .int .i64 a00 := by simpa [Value.cells] using c2
  obtain ⟨_, _, e3⟩ := field_at Try.underlying27 hf0 1 rfl 2 (by kernel_rfl)
  obtain ⟨_, _, e4⟩ := field_at Try.underlying25 e3 0 rfl 1 (by kernel_rfl)
  obtain ⟨a010, c5, _, w010⟩ := DataW.trod_int Try.underlying23 e4
  obtain rfl : u0b = .int .u32 a010 := by simpa [Value.cells] using c5
  obtain ⟨_, _, e6⟩ := field_at Try.underlying25 e3 1 rfl 1 (by kernel_rfl)
  obtain ⟨a011, c7, _, w011⟩ := DataW.trod_int Try.underlying3 e6
  obtain rfl : u0c = .int .i64 a011 := by simpa [Value.cells] using c7
  obtain ⟨_, _, e8⟩ := field_at Try.underlying27 hf0 2 rfl 1 (by kernel_rfl)
  obtain ⟨a02, c9, _, w02⟩ := DataW.trod_int Try.underlying3 e8
  obtain rfl : u0d = .int .i64 a02 := by simpa [Value.cells] using c9
  obtain ⟨_, _, e10⟩ := field_at Try.underlying27 hf0 3 rfl 1 (by kernel_rfl)
  obtain ⟨a03, c11, _, w03⟩ := DataW.trod_int Try.underlying23 e10
  obtain rfl : u0e = .int .u32 a03 := by simpa [Value.cells] using c11
  obtain ⟨_, _, e12⟩ := field_at Try.underlying27 hf0 4 rfl 1 (by kernel_rfl)
  obtain ⟨a04, c13, _, w04⟩ := DataW.trod_int Try.underlying3 e12
  obtain rfl : u0f = .int .i64 a04 := by simpa [Value.cells] using c13
  have k1 := h1
  have lt1 : ∀ x ∈ p1, x.block < W.heap.size := by obtain ⟨m, hm⟩ := k1; exact DataW.trod_lt m _ _ _ hm
  obtain ⟨cs1, rfl, hs1⟩ := okWide_struct Try.underlying27 (hval 1 27 v1 rfl rfl)
  obtain ⟨u1a, u1b, u1c, u1d, u1e, u1f, rfl⟩ := arr6 (hs1.trans (by kernel_rfl))
  obtain ⟨fu1, hf1⟩ := h1
  obtain ⟨_, _, e14⟩ := field_at Try.underlying27 hf1 0 rfl 1 (by kernel_rfl)
  obtain ⟨a10, c15, _, w10⟩ := DataW.trod_int Try.underlying3 e14
  obtain rfl : u1a = .int .i64 a10 := by simpa [Value.cells] using c15
  obtain ⟨_, _, e16⟩ := field_at Try.underlying27 hf1 1 rfl 2 (by kernel_rfl)
  obtain ⟨_, _, e17⟩ := field_at Try.underlying25 e16 0 rfl 1 (by kernel_rfl)
  obtain ⟨a110, c18, _, w110⟩ := DataW.trod_int Try.underlying23 e17
  obtain rfl : u1b = .int .u32 a110 := by simpa [Value.cells] using c18
  obtain ⟨_, _, e19⟩ := field_at Try.underlying25 e16 1 rfl 1 (by kernel_rfl)
  obtain ⟨a111, c20, _, w111⟩ := DataW.trod_int Try.underlying3 e19
  obtain rfl : u1c = .int .i64 a111 := by simpa [Value.cells] using c20
  obtain ⟨_, _, e21⟩ := field_at Try.underlying27 hf1 2 rfl 1 (by kernel_rfl)
  obtain ⟨a12, c22, _, w12⟩ := DataW.trod_int Try.underlying3 e21
  obtain rfl : u1d = .int .i64 a12 := by simpa [Value.cells] using c22
  obtain ⟨_, _, e23⟩ := field_at Try.underlying27 hf1 3 rfl 1 (by kernel_rfl)
  obtain ⟨a13, c24, _, w13⟩ := DataW.trod_int Try.underlying23 e23
  obtain rfl : u1e = .int .u32 a13 := by simpa [Value.cells] using c24
  obtain ⟨_, _, e25⟩ := field_at Try.underlying27 hf1 4 rfl 1 (by kernel_rfl)
  obtain ⟨a14, c26, _, w14⟩ := DataW.trod_int Try.underlying3 e25
  obtain rfl : u1f = .int .i64 a14 := by simpa [Value.cells] using c26
  have k2 := h2
  have lt2 : ∀ x ∈ p2, x.block < W.heap.size := by obtain ⟨m, hm⟩ := k2; exact DataW.trod_lt m _ _ _ hm
  obtain ⟨cs2, rfl, hs2⟩ := okWide_struct Try.underlying27 (hval 2 27 v2 rfl rfl)
  obtain ⟨u2a, u2b, u2c, u2d, u2e, u2f, rfl⟩ := arr6 (hs2.trans (by kernel_rfl))
  obtain ⟨fu2, hf2⟩ := h2
  obtain ⟨_, _, e27⟩ := field_at Try.underlying27 hf2 0 rfl 1 (by kernel_rfl)
  obtain ⟨a20, c28, _, w20⟩ := DataW.trod_int Try.underlying3 e27
  obtain rfl : u2a = .int .i64 a20 := by simpa [Value.cells] using c28
  obtain ⟨_, _, e29⟩ := field_at Try.underlying27 hf2 1 rfl 2 (by kernel_rfl)
  obtain ⟨_, _, e30⟩ := field_at Try.underlying25 e29 0 rfl 1 (by kernel_rfl)
  obtain ⟨a210, c31, _, w210⟩ := DataW.trod_int Try.underlying23 e30
  obtain rfl : u2b = .int .u32 a210 := by simpa [Value.cells] using c31
  obtain ⟨_, _, e32⟩ := field_at Try.underlying25 e29 1 rfl 1 (by kernel_rfl)
  obtain ⟨a211, c33, _, w211⟩ := DataW.trod_int Try.underlying3 e32
  obtain rfl : u2c = .int .i64 a211 := by simpa [Value.cells] using c33
  obtain ⟨_, _, e34⟩ := field_at Try.underlying27 hf2 2 rfl 1 (by kernel_rfl)
  obtain ⟨a22, c35, _, w22⟩ := DataW.trod_int Try.underlying3 e34
  obtain rfl : u2d = .int .i64 a22 := by simpa [Value.cells] using c35
  obtain ⟨_, _, e36⟩ := field_at Try.underlying27 hf2 3 rfl 1 (by kernel_rfl)
  obtain ⟨a23, c37, _, w23⟩ := DataW.trod_int Try.underlying23 e36
  obtain rfl : u2e = .int .u32 a23 := by simpa [Value.cells] using c37
  obtain ⟨_, _, e38⟩ := field_at Try.underlying27 hf2 4 rfl 1 (by kernel_rfl)
  obtain ⟨a24, c39, _, w24⟩ := DataW.trod_int Try.underlying3 e38
  obtain rfl : u2f = .int .i64 a24 := by simpa [Value.cells] using c39
  clear hA0
  refine (walk a00 a010 a011 a02 a03 a04 a10 a110 a111 a12 a13 a14 a20 a210 a211 a22 a23 a24 W w00 w010 w011 w02 w03 w04 w10 w110 w111 w12 w13 w14 w20 w210 w211 w22 w23 w24 hsh).mono fun e W' ⟨he, bel⟩ => ?_
  subst he
  exact ⟨_, rfl, _, _, _, [], _, [], hW', trodAll_mk1 (shut_bool Try.underlying4 _), (trodAll_cons_mk (Below.trod laidOut (by kernel_rfl) (of_decide_eq_true (by kernel_rfl)) k0 bel lt0) (trodAll_cons_mk (Below.trod laidOut (by kernel_rfl) (of_decide_eq_true (by kernel_rfl)) k1 bel lt1) (trodAll_cons_mk (Below.trod laidOut (by kernel_rfl) (of_decide_eq_true (by kernel_rfl)) k2 bel lt2) trodAll_mk0))), rfl, bel.frame _, fun h => by cases h⟩

theorem laid_met (os : Os) : laidMet Try.prog Rows.ribBetterRow.laid ((World.doorLaid Try.prog 24 os).forCall (fun _ _ => 0) ⟨#[], #[.agg #[.int .i64 0, .int .u32 0, .int .i64 0, .int .i64 0, .int .u32 0, .int .i64 0], .agg #[.int .i64 0, .int .u32 0, .int .i64 0, .int .i64 0, .int .u32 0, .int .i64 0], .agg #[.int .i64 0, .int .u32 0, .int .i64 0, .int .i64 0, .int .u32 0, .int .i64 0]], []⟩).memory :=
  laidMet_of_run' 8 (by kernel_rfl) (by kernel_rfl)
theorem reads (os : Os) {H : Type} (enc : TypeId × Value → H) : ∃ places, DataW.whole enc Try.prog ((World.doorLaid Try.prog 24 os).forCall (fun _ _ => 0) ⟨#[], #[.agg #[.int .i64 0, .int .u32 0, .int .i64 0, .int .i64 0, .int .u32 0, .int .i64 0], .agg #[.int .i64 0, .int .u32 0, .int .i64 0, .int .i64 0, .int .u32 0, .int .i64 0], .agg #[.int .i64 0, .int .u32 0, .int .i64 0, .int .i64 0, .int .u32 0, .int .i64 0]], []⟩).memory Try.f5.params.toList Rows.ribBetterSpec.vars false (#[.agg #[.int .i64 0, .int .u32 0, .int .i64 0, .int .i64 0, .int .u32 0, .int .i64 0], .agg #[.int .i64 0, .int .u32 0, .int .i64 0, .int .i64 0, .int .u32 0, .int .i64 0], .agg #[.int .i64 0, .int .u32 0, .int .i64 0, .int .i64 0, .int .u32 0, .int .i64 0]] : Array Value).toList 8 = some ([.agg [.lit (.int .i64 0), .agg [.lit (.int .u32 0), .lit (.int .i64 0)], .lit (.int .i64 0), .lit (.int .u32 0), .lit (.int .i64 0)], .agg [.lit (.int .i64 0), .agg [.lit (.int .u32 0), .lit (.int .i64 0)], .lit (.int .i64 0), .lit (.int .u32 0), .lit (.int .i64 0)], .agg [.lit (.int .i64 0), .agg [.lit (.int .u32 0), .lit (.int .i64 0)], .lit (.int .i64 0), .lit (.int .u32 0), .lit (.int .i64 0)]], [], places) :=
  ⟨[], by kernel_rfl⟩

set_option maxRecDepth 100000 in
theorem lifted (os : Os) (started : os.Started) (H : Type) (enc : TypeId × Value → H) (F : Stop.Interp) :
    ReturnsInHanded {} Try.checked os 5 .any ((OpenSpec.ofChange Rows.ribBetterSpec).preRow enc Try.prog Try.f5 Rows.ribBetterRow.domain false Rows.ribBetterRow.laid) (((OpenSpec.ofChange Rows.ribBetterSpec).at F).post enc Try.prog Try.f5 false true false false) := by
  obtain ⟨places, hx⟩ := reads os enc
  refine returnsInHanded_of_row (C := Try.checked) (s := (OpenSpec.ofChange Rows.ribBetterSpec)) own started (by kernel_rfl) Try.func5
    (witness_row_at (enc := enc) (C := Try.checked) false (World.doorLaid Try.prog 24 os) #[.agg #[.int .i64 0, .int .u32 0, .int .i64 0, .int .i64 0, .int .u32 0, .int .i64 0], .agg #[.int .i64 0, .int .u32 0, .int .i64 0, .int .i64 0, .int .u32 0, .int .i64 0], .agg #[.int .i64 0, .int .u32 0, .int .i64 0, .int .i64 0, .int .u32 0, .int .i64 0]] rfl (by kernel_rfl) (by kernel_rfl) (by kernel_rfl)
      (OpenSpec.preRow_of_cond 8 hx (by kernel_rfl) (fun k hk => by cases hk) (by kernel_rfl) (laid_met os))) ?_
  intro W base args ds gs before hval hW _ hcond _ hL hsh _
  exact contract H enc W base args ds gs before hval hW hsh

theorem said : Rows.RibBetterSaid :=
  OpenClaim.holds_of_cond 5 Try.f5 rfl rfl rfl rfl rfl rfl rfl ⟨rfl, rfl, rfl, rfl, rfl⟩ rfl rfl rfl rfl rfl (by kernel_rfl) Try.func5 (by kernel_rfl)
    (of_decide_eq_true (by kernel_rfl)) (by unfold Func.isWrapper; first | (rw [if_pos (by decide +kernel)]; kernel_rfl) | (rw [if_neg (by decide +kernel)]; exact ⟨rfl, rfl⟩))
    (fun os started H enc _ F => by rw [OpenClaim.pre_eq_preRow]; exact lifted os started H enc F)

end Go.Proofs.Ytbchfmadmcppkaa.ribBetter

namespace Go.Proofs.Ytbchfmadmcppkaa
theorem ribBetter_holds : Rows.RibBetterSaid := ribBetter.said
#print axioms ribBetter_holds
end Go.Proofs.Ytbchfmadmcppkaa
