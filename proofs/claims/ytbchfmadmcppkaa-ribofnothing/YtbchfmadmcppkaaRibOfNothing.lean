/- For every way, the law RibOfNothing returns true: of a nil Rib Add and Del answer ErrArg, all else is nothing; no condition. -/
import Derived.Test.YtbchfmadmcppkaaRows
import Derived.Test.YtbchfmadmcppkaaLaw11Q
import Derived.Test.YtbchfmadmcppkaaFrame
import Derived.WalkKit
import Derived.ProofKit
import Derived.OpenShut
import Derived.ShutString
import Derived.ChangeOld
import Derived.Deep.DeepHandedRow
import Derived.Lib.LaidTab
import Derived.Lib.SmallJoins
import Derived.LaidMore
import Derived.Stop.LaidErr
import Derived.ChangeMaps5
namespace Go.Proofs.Ytbchfmadmcppkaa.ribOfNothing
open Go.ChangeShapes Go.WideShapes Go.ChangeAt Go.RowKit Go.ChangeMaps
set_option linter.unusedVariables false
set_option maxRecDepth 100000

theorem own : ownKnob Try.prog.godebug = none := by kernel_rfl
theorem laidOut : laidOutB Try.prog = true := by kernel_rfl

theorem arr6 {α : Type} {cs : Array α} (h : cs.size = 6) : ∃ c0 c1 c2 c3 c4 c5, cs = #[c0, c1, c2, c3, c4, c5] := by
  obtain ⟨l⟩ := cs
  match l, h with
  | [c0, c1, c2, c3, c4, c5], _ => exact ⟨c0, c1, c2, c3, c4, c5, rfl⟩

open Go.Proofs.Ytbchfmadmcppkaa.Tri Go.Proofs.Ytbchfmadmcppkaa.Rb

set_option maxHeartbeats 4000000 in
theorem walk (a00 : Int) (a010 : Int) (a011 : Int) (a02 : Int) (a03 : Int) (a04 : Int) (w : World) (w00 : (Lit.int .i64 a00).wf = true) (w010 : (Lit.int .u32 a010).wf = true) (w011 : (Lit.int .i64 a011).wf = true) (w02 : (Lit.int .i64 a02).wf = true) (w03 : (Lit.int .u32 a03).wf = true) (w04 : (Lit.int .i64 a04).wf = true) (hsh : w.ShapedOpen Try.prog) :
    Calls Try.prog 8 #[.agg #[.int .i64 a00, .int .u32 a010, .int .i64 a011, .int .i64 a02, .int .u32 a03, .int .i64 a04]] w fun e w' => e = .returned (.bool true) ∧ Below w.heap.size w w' := by
  have hA : Ext w (w.alloc (.cells #[.int .i64 a00, .int .u32 a010, .int .i64 a011, .int .i64 a02, .int .u32 a03, .int .i64 a04] 27)) := (Ext.refl w).alloc _
  obtain ⟨q0, q1, q2, q3, q4, q5⟩ := box_rtE (heap_new w (.cells #[.int .i64 a00, .int .u32 a010, .int .i64 a011, .int .i64 a02, .int .u32 a03, .int .i64 a04] 27))
  have p0 := q0 _ (Ext.refl _)
  have p1 := q1 _ (Ext.refl _)
  have p2 := q2 _ (Ext.refl _)
  have k1 := fun v w => nil_best a00 a010 a011 v w
  have k2 := fun w => nil_add ⟨a00, a010, a011, a02, a03, a04⟩ w
  have k3 := fun w => nil_del ⟨a00, a010, a011, a02, a03, a04⟩ w
  dsimp only at k2 k3
  have k4 := fun v w => nil_active 0 v w
  have k5 := fun w => nil_all w
  have k6 := fun w => nil_copy w
  have kn := fun w => known_any w
  go_enter Try.func8, Try.ntmps8
  go_wp2_with (first
    | (go_at_call 17; refine (k1 _ _).mono ?_; rintro e w1 ⟨rfl, hx1⟩; have hx1' : Ext (w.alloc (.cells #[.int .i64 a00, .int .u32 a010, .int .i64 a011, .int .i64 a02, .int .u32 a03, .int .i64 a04] 27)) (w1.alloc (.cells #[.int .i64 (theR none).t, .int .u32 (theR none).a, .int .i64 (theR none).l, .int .i64 (theR none).i, .int .u32 (theR none).g, .int .i64 (theR none).m] 27)) := ((Ext.refl _).alloc _).trans (hx1.trans ((Ext.refl w1).alloc _)); have r0 := q0 _ hx1'; have r1 := q1 _ hx1'; have r2 := q2 _ hx1'; have r3 := q3 _ hx1'; have r4 := q4 _ hx1'; have r5 := q5 _ hx1')
    | (go_at_call 25; refine (k2 _).mono ?_; rintro e w2 ⟨rfl, hx2⟩; have hx2' := hx1'.trans hx2; have s0 := q0 _ hx2'; have s1 := q1 _ hx2'; have s2 := q2 _ hx2'; have s3 := q3 _ hx2'; have s4 := q4 _ hx2'; have s5 := q5 _ hx2')
    | (go_at_call 26; refine (k3 _).mono ?_; rintro e w3 ⟨rfl, hx3⟩)
    | (go_at_call 19; refine (k4 _ _).mono ?_; rintro e w4 ⟨rfl, hx4⟩)
    | (go_at_call 13; refine (k5 _).mono ?_; rintro e w5 ⟨rfl, hx5⟩)
    | (go_at_call 24; refine (k6 _).mono ?_; rintro e w6 ⟨rfl, hx6⟩)
    | (go_at_call 16; refine (kn _).mono ?_; rintro e w7 ⟨rfl, hx7⟩))
  go_ret
  exact ⟨rfl, hA.trans (hx2'.trans (hx3.trans (hx4.trans (hx5.trans (hx6.trans hx7)))))⟩

theorem contract (H : Type) (enc : TypeId × Value → H) (W : World) (base : Nat) (args : Array Value) (ds gs : List (DataW H)) (before : List MemPlace)
    (hval : ∀ (j : Nat) t v, Try.f8.params[j]? = some t → args[j]? = some v → Value.okWide Try.prog W .any base t v)
    (hW : DataW.Whole enc Try.prog Try.f8.params.toList Rows.ribOfNothingSpec.vars false W args.toList ds gs before) (hsh : W.ShapedOpen Try.prog) :
    Calls Try.prog 8 args W fun e W' => ∃ v, e = .returned v ∧ Rows.ribOfNothingSpec.post enc Try.prog Try.f8 false true false false W args v W' := by
  have hW' := hW
  obtain ⟨p, q, hA0, hV, rfl, hfz, hnd⟩ := hW
  have hA : DataW.TrodAll enc Try.prog W 0 (fun _ => true) true Try.f8.params.toList args.toList ds p := hA0
  rw [Try.params8] at hA hval
  obtain ⟨v0, vs0, d0, ds0, p0, q0, hargs, rfl, rfl, h0, r0⟩ := trodAll_cons hA
  obtain ⟨rfl, rfl, rfl⟩ := trodAll_nil r0
  obtain rfl : args = #[v0] := by cases args; simp_all
  obtain ⟨rfl, rfl⟩ := trodVars_none hV
  have k0 := h0
  have lt0 : ∀ x ∈ p0, x.block < W.heap.size := by obtain ⟨m, hm⟩ := k0; exact DataW.trod_lt m _ _ _ hm
  obtain ⟨cs0, rfl, hs0⟩ := okWide_struct Try.underlying27 (hval 0 27 v0 rfl rfl)
  obtain ⟨u0a, u0b, u0c, u0d, u0e, u0f, rfl⟩ := arr6 (hs0.trans (by kernel_rfl))
  obtain ⟨fu0, hf0⟩ := h0
  obtain ⟨_, _, e1⟩ := field_at Try.underlying27 hf0 0 rfl 1 (by kernel_rfl)
  obtain ⟨a00, c2, _, w00⟩ := DataW.trod_int Try.underlying3 e1
  obtain rfl : u0a = .int .i64 a00 := by simpa [Value.cells] using c2
  obtain ⟨_, _, e3⟩ := field_at Try.underlying27 hf0 1 rfl 2 (by kernel_rfl)
  obtain ⟨_, _, e4⟩ := field_at Try.underlying25 e3 0 rfl 1 (by kernel_rfl)
  obtain ⟨a010, c5, _, w010⟩ := DataW.trod_int Try.underlying23 e4
  obtain rfl : u0b = .int .u32 a010 := by simpa [Value.cells] using c5
  obtain ⟨_, _, e6⟩ := field_at Try.underlying25 e3 1 rfl 1 (by kernel_rfl)
  obtain ⟨a011, c7, _, w011⟩ := DataW.trod_int Try.underlying3 e6
  obtain rfl : u0c = .int .i64 a011 := by simpa [Value.cells] using c7
  obtain ⟨_, _, e8⟩ := field_at Try.underlying27 hf0 2 rfl 1 (by kernel_rfl)
  obtain ⟨a02, c9, _, w02⟩ := DataW.trod_int Try.underlying3 e8
  obtain rfl : u0d = .int .i64 a02 := by simpa [Value.cells] using c9
  obtain ⟨_, _, e10⟩ := field_at Try.underlying27 hf0 3 rfl 1 (by kernel_rfl)
  obtain ⟨a03, c11, _, w03⟩ := DataW.trod_int Try.underlying23 e10
  obtain rfl : u0e = .int .u32 a03 := by simpa [Value.cells] using c11
  obtain ⟨_, _, e12⟩ := field_at Try.underlying27 hf0 4 rfl 1 (by kernel_rfl)
  obtain ⟨a04, c13, _, w04⟩ := DataW.trod_int Try.underlying3 e12
  obtain rfl : u0f = .int .i64 a04 := by simpa [Value.cells] using c13
  clear hA0
  refine (walk a00 a010 a011 a02 a03 a04 W w00 w010 w011 w02 w03 w04 hsh).mono fun e W' ⟨he, bel⟩ => ?_
  subst he
  exact ⟨_, rfl, _, _, _, [], _, [], hW', trodAll_mk1 (shut_bool Try.underlying4 _), (trodAll_cons_mk (Below.trod laidOut (by kernel_rfl) (of_decide_eq_true (by kernel_rfl)) k0 bel lt0) trodAll_mk0), rfl, bel.frame _, fun h => by cases h⟩

theorem laid_met (os : Os) : laidMet Try.prog Rows.ribOfNothingRow.laid ((World.doorLaid Try.prog 24 os).forCall (fun _ _ => 0) ⟨#[], #[.agg #[.int .i64 0, .int .u32 0, .int .i64 0, .int .i64 0, .int .u32 0, .int .i64 0]], []⟩).memory :=
  laidMet_of_run' 8 (by kernel_rfl) (by kernel_rfl)
theorem reads (os : Os) {H : Type} (enc : TypeId × Value → H) : ∃ places, DataW.whole enc Try.prog ((World.doorLaid Try.prog 24 os).forCall (fun _ _ => 0) ⟨#[], #[.agg #[.int .i64 0, .int .u32 0, .int .i64 0, .int .i64 0, .int .u32 0, .int .i64 0]], []⟩).memory Try.f8.params.toList Rows.ribOfNothingSpec.vars false (#[.agg #[.int .i64 0, .int .u32 0, .int .i64 0, .int .i64 0, .int .u32 0, .int .i64 0]] : Array Value).toList 8 = some ([.agg [.lit (.int .i64 0), .agg [.lit (.int .u32 0), .lit (.int .i64 0)], .lit (.int .i64 0), .lit (.int .u32 0), .lit (.int .i64 0)]], [], places) :=
  ⟨[], by kernel_rfl⟩

set_option maxRecDepth 100000 in
theorem lifted (os : Os) (started : os.Started) (H : Type) (enc : TypeId × Value → H) (F : Stop.Interp) :
    ReturnsInHanded {} Try.checked os 8 .any ((OpenSpec.ofChange Rows.ribOfNothingSpec).preRow enc Try.prog Try.f8 Rows.ribOfNothingRow.domain false Rows.ribOfNothingRow.laid) (((OpenSpec.ofChange Rows.ribOfNothingSpec).at F).post enc Try.prog Try.f8 false true false false) := by
  obtain ⟨places, hx⟩ := reads os enc
  refine returnsInHanded_of_row (C := Try.checked) (s := (OpenSpec.ofChange Rows.ribOfNothingSpec)) own started (by kernel_rfl) Try.func8
    (witness_row_at (enc := enc) (C := Try.checked) false (World.doorLaid Try.prog 24 os) #[.agg #[.int .i64 0, .int .u32 0, .int .i64 0, .int .i64 0, .int .u32 0, .int .i64 0]] rfl (by kernel_rfl) (by kernel_rfl) (by kernel_rfl)
      (OpenSpec.preRow_of_cond 8 hx (by kernel_rfl) (fun k hk => by cases hk) (by kernel_rfl) (laid_met os))) ?_
  intro W base args ds gs before hval hW _ hcond _ hL hsh _
  exact contract H enc W base args ds gs before hval hW hsh

theorem said : Rows.RibOfNothingSaid :=
  OpenClaim.holds_of_cond 8 Try.f8 rfl rfl rfl rfl rfl rfl rfl ⟨rfl, rfl, rfl, rfl, rfl⟩ rfl rfl rfl rfl rfl (by kernel_rfl) Try.func8 (by kernel_rfl)
    (of_decide_eq_true (by kernel_rfl)) (by unfold Func.isWrapper; first | (rw [if_pos (by decide +kernel)]; kernel_rfl) | (rw [if_neg (by decide +kernel)]; exact ⟨rfl, rfl⟩))
    (fun os started H enc _ F => by rw [OpenClaim.pre_eq_preRow]; exact lifted os started H enc F)

end Go.Proofs.Ytbchfmadmcppkaa.ribOfNothing

namespace Go.Proofs.Ytbchfmadmcppkaa
theorem ribOfNothing_holds : Rows.RibOfNothingSaid := ribOfNothing.said
#print axioms ribOfNothing_holds
end Go.Proofs.Ytbchfmadmcppkaa
