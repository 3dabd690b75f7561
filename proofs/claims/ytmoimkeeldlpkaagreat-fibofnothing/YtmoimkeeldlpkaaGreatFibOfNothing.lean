/- For every way and address, the law FibOfNothing returns true: of a nil Fib Add, Del and SetUp answer ErrArg, all else is nothing; no condition. -/
import Derived.Test.YtmoimkeeldlpkaaGreatRows
import Derived.Test.YtmoimkeeldlpkaaGreatJ1
import Derived.Test.YtmoimkeeldlpkaaGreatJ2
import Derived.Test.YtmoimkeeldlpkaaGreatJ3
import Derived.Test.YtmoimkeeldlpkaaGreatJ4
import Derived.Test.YtmoimkeeldlpkaaGreatJ5
import Derived.Test.YtmoimkeeldlpkaaGreatJ6
import Derived.Test.YtmoimkeeldlpkaaGreatJ7
import Derived.Test.YtmoimkeeldlpkaaGreatJ8
import Derived.Test.YtmoimkeeldlpkaaGreatJ9
import Derived.Test.YtmoimkeeldlpkaaGreatJ10
import Derived.Test.YtmoimkeeldlpkaaGreatJ11
import Derived.Test.YtmoimkeeldlpkaaGreatJ12
import Derived.Test.YtmoimkeeldlpkaaGreatJ13
import Derived.Test.YtmoimkeeldlpkaaGreatJ14
import Derived.Test.YtmoimkeeldlpkaaGreatJ15
import Derived.Test.YtmoimkeeldlpkaaGreatJ16
import Derived.Test.YtmoimkeeldlpkaaGreatJ17
import Derived.Test.YtmoimkeeldlpkaaGreatJ18
import Derived.Test.YtmoimkeeldlpkaaGreatJ19
import Derived.Test.YtmoimkeeldlpkaaGreatJ20
import Derived.Test.YtmoimkeeldlpkaaGreatJ21
import Derived.Test.YtmoimkeeldlpkaaGreatJ22
import Derived.Test.YtmoimkeeldlpkaaGreatJ23
import Derived.Test.YtmoimkeeldlpkaaGreatJ24
import Derived.Test.YtmoimkeeldlpkaaGreatJ25
import Derived.Test.YtmoimkeeldlpkaaGreatJ26
import Derived.WalkKit
import Derived.ProofKit
import Derived.OpenShut
import Derived.ShutString
import Derived.ChangeOld
import Derived.Deep.DeepHandedRow
import Derived.Lib.LaidTab
import Derived.Lib.SmallJoins
import Derived.LaidMore
import Derived.Stop.LaidErr
import Derived.ChangeMaps5
namespace Go.Proofs.YtmoimkeeldlpkaaGreat.fibOfNothing
open Go.ChangeShapes Go.WideShapes Go.ChangeAt Go.RowKit Go.ChangeMaps
set_option linter.unusedVariables false
set_option maxRecDepth 100000

theorem own : ownKnob Tryz.prog.godebug = none := by kernel_rfl
theorem laidOut : laidOutB Tryz.prog = true := by kernel_rfl

theorem arr6 {α : Type} {cs : Array α} (h : cs.size = 6) : ∃ c0 c1 c2 c3 c4 c5, cs = #[c0, c1, c2, c3, c4, c5] := by
  obtain ⟨l⟩ := cs
  match l, h with
  | [c0, c1, c2, c3, c4, c5], _ => exact ⟨c0, c1, c2, c3, c4, c5, rfl⟩

open Go.Proofs.YtmoimkeeldlpkaaGreat.Tri Go.Proofs.YtmoimkeeldlpkaaGreat.Rb Go.Proofs.YtmoimkeeldlpkaaGreat.Fb

set_option maxHeartbeats 40000000 in
theorem walk (a00 : Int) (a010 : Int) (a011 : Int) (a02 : Int) (a03 : Int) (a04 : Int) (a1 : Int) (w : World) (w00 : (Lit.int .i64 a00).wf = true) (w010 : (Lit.int .u32 a010).wf = true) (w011 : (Lit.int .i64 a011).wf = true) (w02 : (Lit.int .i64 a02).wf = true) (w03 : (Lit.int .u32 a03).wf = true) (w04 : (Lit.int .i64 a04).wf = true) (w1 : (Lit.int .u32 a1).wf = true) (hsh : w.ShapedOpen Tryz.prog) :
    Calls Tryz.prog 7 #[.agg #[.int .i64 a00, .int .u32 a010, .int .i64 a011, .int .i64 a02, .int .u32 a03, .int .i64 a04], .int .u32 a1] w fun e w' => e = .returned (.bool true) ∧ Below w.heap.size w w' := by
  have hA : Ext w (w.alloc (.cells #[.int .i64 a00, .int .u32 a010, .int .i64 a011, .int .i64 a02, .int .u32 a03, .int .i64 a04] 33)) := (Ext.refl w).alloc _
  obtain ⟨q0, q1, q2, q3, q4, q5⟩ := box_rtE (heap_new w (.cells #[.int .i64 a00, .int .u32 a010, .int .i64 a011, .int .i64 a02, .int .u32 a03, .int .i64 a04] 33))
  have kL := fun w => lookN 0 a1 w
  have kT := fun w => byTrieN 0 a1 w
  have kD := fun w => byDirN 0 a1 w
  have kA := fun w => addN ⟨a00, a010, a011, a02, a03, a04⟩ w
  have kE := fun w => delN ⟨a00, a010, a011, a02, a03, a04⟩ w
  dsimp only at kA kE
  have kS := fun w => setUpN 0 true w
  have kU := fun w => upN w
  have kW := fun w => allN w
  have kB := fun w => blocksN 0 w
  have kn := fun w => known_any w
  go_enter Tryz.func7, Tryz.ntmps7
  go_wp2_with (first
    | (go_at_call 16; refine (kL _).mono ?_; rintro e w1 ⟨rfl, hx1⟩; have hx1' : Ext (w.alloc (.cells #[.int .i64 a00, .int .u32 a010, .int .i64 a011, .int .i64 a02, .int .u32 a03, .int .i64 a04] 33)) (w1.alloc (.cells #[.int .i64 (theR none).t, .int .u32 (theR none).a, .int .i64 (theR none).l, .int .i64 (theR none).i, .int .u32 (theR none).g, .int .i64 (theR none).m] 33)) := hx1.trans ((Ext.refl w1).alloc _))
    | (go_at_call 18; refine (kT _).mono ?_; rintro e w2 ⟨rfl, hx2⟩; have hx2' : Ext (w.alloc (.cells #[.int .i64 a00, .int .u32 a010, .int .i64 a011, .int .i64 a02, .int .u32 a03, .int .i64 a04] 33)) (w2.alloc (.cells #[.int .i64 (theR none).t, .int .u32 (theR none).a, .int .i64 (theR none).l, .int .i64 (theR none).i, .int .u32 (theR none).g, .int .i64 (theR none).m] 33)) := hx1'.trans (hx2.trans ((Ext.refl w2).alloc _)))
    | (go_at_call 19; refine (kD _).mono ?_; rintro e w3 ⟨rfl, hx3⟩; have hx3' : Ext (w.alloc (.cells #[.int .i64 a00, .int .u32 a010, .int .i64 a011, .int .i64 a02, .int .u32 a03, .int .i64 a04] 33)) (w3.alloc (.cells #[.int .i64 (theR none).t, .int .u32 (theR none).a, .int .i64 (theR none).l, .int .i64 (theR none).i, .int .u32 (theR none).g, .int .i64 (theR none).m] 33)) := hx2'.trans (hx3.trans ((Ext.refl w3).alloc _)); have r0 := q0 _ hx3'; have r1 := q1 _ hx3'; have r2 := q2 _ hx3'; have r3 := q3 _ hx3'; have r4 := q4 _ hx3'; have r5 := q5 _ hx3')
    | (go_at_call 24; refine (kA _).mono ?_; rintro e w4 ⟨rfl, hx4⟩; have hx4' := hx3'.trans hx4; have s0 := q0 _ hx4'; have s1 := q1 _ hx4'; have s2 := q2 _ hx4'; have s3 := q3 _ hx4'; have s4 := q4 _ hx4'; have s5 := q5 _ hx4')
    | (go_at_call 25; refine (kE _).mono ?_; rintro e w5 ⟨rfl, hx5⟩)
    | (go_at_call 23; refine (kS _).mono ?_; rintro e w6 ⟨rfl, hw⟩; obtain rfl := hw.symm; clear hw)
    | (go_at_call 26; refine (kU _).mono ?_; rintro e w7 ⟨rfl, hw⟩; obtain rfl := hw.symm; clear hw)
    | (go_at_call 20; refine (kW _).mono ?_; rintro e w8 ⟨rfl, hw⟩; obtain rfl := hw.symm; clear hw)
    | (go_at_call 27; refine (kB _).mono ?_; rintro e w9 ⟨rfl, hw⟩; obtain rfl := hw.symm; clear hw)
    | (go_at_call 14; refine (kn _).mono ?_; rintro e wz ⟨rfl, hxz⟩))
  go_ret
  exact ⟨rfl, (hA.trans (hx4'.trans (hx5.trans hxz))).below⟩

theorem contract (H : Type) (enc : TypeId × Value → H) (W : World) (base : Nat) (args : Array Value) (ds gs : List (DataW H)) (before : List MemPlace)
    (hval : ∀ (j : Nat) t v, Tryz.f7.params[j]? = some t → args[j]? = some v → Value.okWide Tryz.prog W .any base t v)
    (hW : DataW.Whole enc Tryz.prog Tryz.f7.params.toList Rows.fibOfNothingSpec.vars false W args.toList ds gs before) (hsh : W.ShapedOpen Tryz.prog) :
    Calls Tryz.prog 7 args W fun e W' => ∃ v, e = .returned v ∧ Rows.fibOfNothingSpec.post enc Tryz.prog Tryz.f7 false true false false W args v W' := by
  have hW' := hW
  obtain ⟨p, q, hA0, hV, rfl, hfz, hnd⟩ := hW
  have hA : DataW.TrodAll enc Tryz.prog W 0 (fun _ => true) true Tryz.f7.params.toList args.toList ds p := hA0
  rw [Tryz.params7] at hA hval
  obtain ⟨v0, vs0, d0, ds0, p0, q0, hargs, rfl, rfl, h0, r0⟩ := trodAll_cons hA
  obtain ⟨v1, vs1, d1, ds1, p1, q1, rfl, rfl, rfl, h1, r1⟩ := trodAll_cons r0
  obtain ⟨rfl, rfl, rfl⟩ := trodAll_nil r1
  obtain rfl : args = #[v0, v1] := by cases args; simp_all
  obtain ⟨rfl, rfl⟩ := trodVars_none hV
  have k0 := h0
  have lt0 : ∀ x ∈ p0, x.block < W.heap.size := by obtain ⟨m, hm⟩ := k0; exact DataW.trod_lt m _ _ _ hm
  obtain ⟨cs0, rfl, hs0⟩ := okWide_struct Tryz.underlying33 (hval 0 33 v0 rfl rfl)
  obtain ⟨u0a, u0b, u0c, u0d, u0e, u0f, rfl⟩ := arr6 (hs0.trans (by kernel_rfl))
  obtain ⟨fu0, hf0⟩ := h0
  obtain ⟨_, _, e1⟩ := field_at Tryz.underlying33 hf0 0 rfl 1 (by kernel_rfl)
  obtain ⟨a00, c2, _, w00⟩ := DataW.trod_int Tryz.underlying3 e1
  obtain rfl : u0a = .int .i64 a00 := by simpa [Value.cells] using c2
  obtain ⟨_, _, e3⟩ := field_at Tryz.underlying33 hf0 1 rfl 2 (by kernel_rfl)
  obtain ⟨_, _, e4⟩ := field_at Tryz.underlying31 e3 0 rfl 1 (by kernel_rfl)
  obtain ⟨a010, c5, _, w010⟩ := DataW.trod_int Tryz.underlying29 e4
  obtain rfl : u0b = .int .u32 a010 := by simpa [Value.cells] using c5
  obtain ⟨_, _, e6⟩ := field_at Tryz.underlying31 e3 1 rfl 1 (by kernel_rfl)
  obtain ⟨a011, c7, _, w011⟩ := DataW.trod_int Tryz.underlying3 e6
  obtain rfl : u0c = .int .i64 a011 := by simpa [Value.cells] using c7
  obtain ⟨_, _, e8⟩ := field_at Tryz.underlying33 hf0 2 rfl 1 (by kernel_rfl)
  obtain ⟨a02, c9, _, w02⟩ := DataW.trod_int Tryz.underlying3 e8
  obtain rfl : u0d = .int .i64 a02 := by simpa [Value.cells] using c9
  obtain ⟨_, _, e10⟩ := field_at Tryz.underlying33 hf0 3 rfl 1 (by kernel_rfl)
  obtain ⟨a03, c11, _, w03⟩ := DataW.trod_int Tryz.underlying29 e10
  obtain rfl : u0e = .int .u32 a03 := by simpa [Value.cells] using c11
  obtain ⟨_, _, e12⟩ := field_at Tryz.underlying33 hf0 4 rfl 1 (by kernel_rfl)
  obtain ⟨a04, c13, _, w04⟩ := DataW.trod_int Tryz.underlying3 e12
  obtain rfl : u0f = .int .i64 a04 := by simpa [Value.cells] using c13
  obtain ⟨a1, rfl, rfl, rfl, w1⟩ := open_int Tryz.underlying29 (hval 1 29 v1 rfl rfl) h1
  clear hA0
  refine (walk a00 a010 a011 a02 a03 a04 a1 W w00 w010 w011 w02 w03 w04 w1 hsh).mono fun e W' ⟨he, bel⟩ => ?_
  subst he
  exact ⟨_, rfl, _, _, _, [], _, [], hW', trodAll_mk1 (shut_bool Tryz.underlying4 _), (trodAll_cons_mk (Below.trod laidOut (by kernel_rfl) (of_decide_eq_true (by kernel_rfl)) k0 bel lt0) (trodAll_cons_mk (shut_int Tryz.underlying29 w1) trodAll_mk0)), rfl, bel.frame _, fun h => by cases h⟩

theorem laid_met (os : Os) : laidMet Tryz.prog Rows.fibOfNothingRow.laid ((World.doorLaid Tryz.prog 24 os).forCall (fun _ _ => 0) ⟨#[], #[.agg #[.int .i64 0, .int .u32 0, .int .i64 0, .int .i64 0, .int .u32 0, .int .i64 0], .int .u32 0], []⟩).memory :=
  laidMet_of_run' 8 (by kernel_rfl) (by kernel_rfl)
theorem reads (os : Os) {H : Type} (enc : TypeId × Value → H) : ∃ places, DataW.whole enc Tryz.prog ((World.doorLaid Tryz.prog 24 os).forCall (fun _ _ => 0) ⟨#[], #[.agg #[.int .i64 0, .int .u32 0, .int .i64 0, .int .i64 0, .int .u32 0, .int .i64 0], .int .u32 0], []⟩).memory Tryz.f7.params.toList Rows.fibOfNothingSpec.vars false (#[.agg #[.int .i64 0, .int .u32 0, .int .i64 0, .int .i64 0, .int .u32 0, .int .i64 0], .int .u32 0] : Array Value).toList 8 = some ([.agg [.lit (.int .i64 0), .agg [.lit (.int .u32 0), .lit (.int .i64 0)], .lit (.int .i64 0), .lit (.int .u32 0), .lit (.int .i64 0)], .lit (.int .u32 0)], [], places) :=
  ⟨[], by kernel_rfl⟩

set_option maxRecDepth 100000 in
theorem lifted (os : Os) (started : os.Started) (H : Type) (enc : TypeId × Value → H) (F : Stop.Interp) :
    ReturnsInHanded {} Tryz.checked os 7 .any ((OpenSpec.ofChange Rows.fibOfNothingSpec).preRow enc Tryz.prog Tryz.f7 Rows.fibOfNothingRow.domain false Rows.fibOfNothingRow.laid) (((OpenSpec.ofChange Rows.fibOfNothingSpec).at F).post enc Tryz.prog Tryz.f7 false true false false) := by
  obtain ⟨places, hx⟩ := reads os enc
  refine returnsInHanded_of_row (C := Tryz.checked) (s := (OpenSpec.ofChange Rows.fibOfNothingSpec)) own started (by kernel_rfl) Tryz.func7
    (witness_row_at (enc := enc) (C := Tryz.checked) false (World.doorLaid Tryz.prog 24 os) #[.agg #[.int .i64 0, .int .u32 0, .int .i64 0, .int .i64 0, .int .u32 0, .int .i64 0], .int .u32 0] rfl (by kernel_rfl) (by kernel_rfl) (by kernel_rfl)
      (OpenSpec.preRow_of_cond 8 hx (by kernel_rfl) (fun k hk => by cases hk) (by kernel_rfl) (laid_met os))) ?_
  intro W base args ds gs before hval hW _ hcond _ hL hsh _
  exact contract H enc W base args ds gs before hval hW hsh

theorem said : Rows.FibOfNothingSaid :=
  OpenClaim.holds_of_cond 7 Tryz.f7 rfl rfl rfl rfl rfl rfl rfl ⟨rfl, rfl, rfl, rfl, rfl⟩ rfl rfl rfl rfl rfl (by kernel_rfl) Tryz.func7 (by kernel_rfl)
    (of_decide_eq_true (by kernel_rfl)) (by unfold Func.isWrapper; first | (rw [if_pos (by decide +kernel)]; kernel_rfl) | (rw [if_neg (by decide +kernel)]; exact ⟨rfl, rfl⟩))
    (fun os started H enc _ F => by rw [OpenClaim.pre_eq_preRow]; exact lifted os started H enc F)

end Go.Proofs.YtmoimkeeldlpkaaGreat.fibOfNothing

namespace Go.Proofs.YtmoimkeeldlpkaaGreat
theorem fibOfNothing_holds : Rows.FibOfNothingSaid := fibOfNothing.said
#print axioms fibOfNothing_holds
end Go.Proofs.YtmoimkeeldlpkaaGreat
