/- For every interface and source, the law RpfDefault returns true: a default way alone is looser, never loose, strict and feasible at its own interface alone, and another mode lets nothing come; no condition. -/
import Derived.Test.YtkfhkhgiojpfoaaGreatRows
import Derived.Test.YtkfhkhgiojpfoaaGreatJ1
import Derived.Test.YtkfhkhgiojpfoaaGreatJ2
import Derived.Test.YtkfhkhgiojpfoaaGreatJ3
import Derived.Test.YtkfhkhgiojpfoaaGreatJ4
import Derived.Test.YtkfhkhgiojpfoaaGreatJ5
import Derived.Test.YtkfhkhgiojpfoaaGreatJ6
import Derived.Test.YtkfhkhgiojpfoaaGreatJ7
import Derived.Test.YtkfhkhgiojpfoaaGreatJ8
import Derived.Test.YtkfhkhgiojpfoaaGreatJ9
import Derived.Test.YtkfhkhgiojpfoaaGreatJ10
import Derived.Test.YtkfhkhgiojpfoaaGreatJ11
import Derived.Test.YtkfhkhgiojpfoaaGreatJ12
import Derived.Test.YtkfhkhgiojpfoaaGreatJ13
import Derived.Test.YtkfhkhgiojpfoaaGreatJ14
import Derived.Test.YtkfhkhgiojpfoaaGreatJ15
import Derived.Test.YtkfhkhgiojpfoaaGreatJ16
import Derived.Test.YtkfhkhgiojpfoaaGreatJ17
import Derived.Test.YtkfhkhgiojpfoaaGreatJ18
import Derived.Test.YtkfhkhgiojpfoaaGreatJ19
import Derived.Test.YtkfhkhgiojpfoaaGreatJ20
import Derived.Test.YtkfhkhgiojpfoaaGreatJ21
import Derived.Test.YtkfhkhgiojpfoaaGreatJ22
import Derived.Test.YtkfhkhgiojpfoaaGreatJ23
import Derived.Test.YtkfhkhgiojpfoaaGreatJ24
import Derived.Test.YtkfhkhgiojpfoaaGreatJ25
import Derived.Test.YtkfhkhgiojpfoaaGreatJ26
import Derived.Test.YtkfhkhgiojpfoaaGreatJ27
import Derived.WalkKit
import Derived.ProofKit
import Derived.OpenShut
import Derived.ShutString
import Derived.ChangeOld
import Derived.Deep.DeepHandedRow
import Derived.Lib.LaidTab
import Derived.Lib.SmallJoins
import Derived.LaidMore
import Derived.Stop.LaidErr
import Derived.ChangeMaps5
namespace Go.Proofs.YtkfhkhgiojpfoaaGreat.rpfDefault
open Go.ChangeShapes Go.WideShapes Go.ChangeAt Go.RowKit Go.ChangeMaps
set_option linter.unusedVariables false
set_option maxRecDepth 100000

theorem own : ownKnob Tryz.prog.godebug = none := by kernel_rfl
theorem laidOut : laidOutB Tryz.prog = true := by kernel_rfl

open Go.Proofs.YtkfhkhgiojpfoaaGreat.Tri Go.Proofs.YtkfhkhgiojpfoaaGreat.Rb Go.Proofs.YtkfhkhgiojpfoaaGreat.Fb Go.Proofs.YtkfhkhgiojpfoaaGreat.Rp

def d1 : Rt := ⟨0, 0, 0, 1, 0, 0⟩

theorem layD : layL (List.replicate (clampN 3) true) [] ([d1].take 40) = [d1] := by kernel_rfl
theorem setD : (setF [d1] (List.replicate (clampN 3) true) (-1) false).2 = [true, true, true] := by kernel_rfl
theorem inD : InB [d1] [true, true, true] := fun r hr => by rw [List.mem_singleton.1 hr]; decide

theorem actD : actL [d1] 0 [true, true, true] = [d1] := by kernel_rfl

theorem hasD (src : Int) (s0 : 0 ≤ src) (s1 : src ≤ 4294967295) : hasV 0 0 src = true := by
  unfold hasV sizeN
  have e : (2 : Nat) ^ (32 - holdV 0).toNat = 4294967296 := by decide
  rw [e]
  refine decide_eq_true ?_
  have h1 : src.toNat / 4294967296 = 0 := Nat.div_eq_of_lt (by omega)
  rw [h1]; rfl

theorem wayD (src : Int) (s0 : 0 ≤ src) (s1 : src ≤ 4294967295) : wayO [d1] [true, true, true] 0 src = some d1 := by
  have hg : Rb.Good [d1] := by have h := Good.nil.add (r := d1) ⟨by decide, by decide, by decide, by decide, by decide, by decide, by decide, by decide, by decide, by decide, by decide, by decide⟩; exact h
  cases hw : wayO [d1] [true, true, true] 0 src with
  | none =>
    have h := way_none hg s0 s1 hw d1 (by rw [actD]; simp)
    rw [has_cov (pxR d1) src] at h
    have h2 : hasV (pxR d1).1 (pxR d1).2 src = true := hasD src s0 s1
    rw [h2] at h
    cases h
  | some r =>
    have h := (way_mem hg s0 s1 hw).1
    rw [actD, List.mem_singleton] at h
    rw [h]

theorem eqD (a : Int) : decide (1 = a) = (a == 1) := by
  by_cases h : a = 1
  · subst h; rfl
  · have h1 : (a == 1) = false := by simpa using h
    rw [h1]; exact decide_eq_false fun e => h e.symm

theorem aliveD (src : Int) (s0 : 0 ≤ src) (s1 : src ≤ 4294967295) : aliveB [true, true, true] src d1 = true := by
  unfold aliveB
  have h : hasV d1.a d1.l src = true := hasD src s0 s1
  rw [h]; rfl

theorem checkD (src : Int) (s0 : 0 ≤ src) (s1 : src ≤ 4294967295) (i : Int) : checkV [d1] [true, true, true] 2 i src = false ∧ checkV [d1] [true, true, true] 3 i src = true ∧ checkV [d1] [true, true, true] 1 i src = decide (1 = i) ∧ checkV [d1] [true, true, true] 4 i src = decide (1 = i) ∧ checkV [d1] [true, true, true] 9 i src = false := by
  have ha := aliveD src s0 s1
  have e : ∀ f : Rt → Bool, [d1].any f = f d1 := fun f => by simp
  refine ⟨?_, ?_, ?_, ?_, ?_⟩
  · show ([d1].any fun r => aliveB [true, true, true] src r && suchV 2 i r) = false
    rw [e, ha]; rfl
  · show ([d1].any fun r => aliveB [true, true, true] src r && suchV 3 i r) = true
    rw [e, ha]; rfl
  · show ((wayO [d1] [true, true, true] 0 src).isSome && decide ((theR (wayO [d1] [true, true, true] 0 src)).i = i)) = decide (1 = i)
    rw [wayD src s0 s1]; rfl
  · show ([d1].any fun r => aliveB [true, true, true] src r && suchV 4 i r) = decide (1 = i)
    rw [e, ha]; rfl
  · show ([d1].any fun r => aliveB [true, true, true] src r && suchV 9 i r) = false
    rw [e, ha]; rfl

set_option maxHeartbeats 40000000 in
theorem walk (a0 : Int) (a1 : Int) (w : World) (w0 : (Lit.int .i64 a0).wf = true) (w1 : (Lit.int .u32 a1).wf = true) (hsh : w.ShapedOpen Tryz.prog) :
    Calls Tryz.prog 7 #[.int .i64 a0, .int .u32 a1] w fun e w' => e = .returned (.bool true) ∧ Below w.heap.size w w' := by
  have kn := fun w => known_any w
  obtain ⟨s0, s1⟩ := bounds_u32 w1
  obtain ⟨e2, e3, e1, e4, e9⟩ := checkD a1 s0 s1 a0
  have cl := laidTo_any 3 (-1) (some ⟨w.heap.size, 0, none⟩) 1 1 [d1] (w.alloc (.cells #[.int .i64 d1.t, .int .u32 d1.a, .int .i64 d1.l, .int .i64 d1.i, .int .u32 d1.g, .int .i64 d1.m] 48)) (rd_lit (L := [d1]) (heap_new w _) rfl) (fun r hr => by rw [List.mem_singleton.1 hr]; exact ⟨by decide, by decide, by decide, by decide, by decide, by decide, by decide, by decide, by decide, by decide, by decide, by decide⟩)
  rw [layD, setD] at cl
  have HA : Hid (Ext w (w.alloc (.cells #[.int .i64 d1.t, .int .u32 d1.a, .int .i64 d1.l, .int .i64 d1.i, .int .u32 d1.g, .int .i64 d1.m] 48))) := (Ext.refl w).alloc _
  have hd1 : (w.alloc (.cells #[.int .i64 d1.t, .int .u32 d1.a, .int .i64 d1.l, .int .i64 d1.i, .int .u32 d1.g, .int .i64 d1.m] 48)) = (w.alloc (.cells #[.int .i64 0, .int .u32 0, .int .i64 0, .int .i64 1, .int .u32 0, .int .i64 0] 48)) := rfl
  rw [hd1] at cl HA
  clear hd1
  have tok1 : Hid True := trivial
  have tok2 : Hid True := trivial
  have tok3 : Hid True := trivial
  have tok4 : Hid True := trivial
  go_enter Tryz.func7, Tryz.ntmps7
  go_wp2_with (go_at_call 9; refine cl.mono ?_; rintro e w2 ⟨fb, xb, rfl, hT⟩; have HT : Hid (Mates _ w2 fb xb [d1] [true, true, true]) := hT; clear hT)
  have ck := fun (m : Int) w' (hx : Ext w2 w') => (HT.out.later hx).check inD m a0 a1 s0 s1
  have c2 := fun w' hx => ck 2 w' hx
  have c3 := fun w' hx => ck 3 w' hx
  have c1 := fun w' hx => ck 1 w' hx
  have c4 := fun w' hx => ck 4 w' hx
  have c9 := fun w' hx => ck 9 w' hx
  rw [e2] at c2
  rw [e3] at c3
  rw [e1] at c1
  rw [e4] at c4
  rw [e9] at c9
  clear ck cl e1 e2 e3 e4 e9
  have HY : Hid (decide (1 = a0) = (a0 == 1)) := eqD a0
  rw [HY.out] at c1 c4
  cases hq : (a0 == 1) <;> (
    rw [hq] at c1 c4
    go_wp2_with (first
      | (go_at_call 10; clear tok1; refine (c2 _ (Ext.refl _)).mono ?_; rintro e w3 ⟨rfl, hx3⟩)
      | (go_at_call 10; clear tok2; refine (c3 _ hx3).mono ?_; rintro e w4 ⟨rfl, hx4⟩)
      | (go_at_call 10; clear tok3; refine (c1 _ (hx3.trans hx4)).mono ?_; rintro e w5 ⟨rfl, hx5⟩)
      | (go_at_call 10; clear tok4; refine (c4 _ (hx3.trans (hx4.trans hx5))).mono ?_; rintro e w6 ⟨rfl, hx6⟩)
      | (go_at_call 10; refine (c9 _ (hx3.trans (hx4.trans (hx5.trans hx6)))).mono ?_; rintro e w7 ⟨rfl, hx7⟩)
      | (go_at_call 12; refine (kn _).mono ?_; rintro e w8 ⟨rfl, hx8⟩))
    go_ret
    exact ⟨rfl, (HA.out.trans (HT.out.ext.trans (hx3.trans (hx4.trans (hx5.trans (hx6.trans (hx7.trans hx8))))))).below⟩)

theorem contract (H : Type) (enc : TypeId × Value → H) (W : World) (base : Nat) (args : Array Value) (ds gs : List (DataW H)) (before : List MemPlace)
    (hval : ∀ (j : Nat) t v, Tryz.f7.params[j]? = some t → args[j]? = some v → Value.okWide Tryz.prog W .any base t v)
    (hW : DataW.Whole enc Tryz.prog Tryz.f7.params.toList Rows.rpfDefaultSpec.vars false W args.toList ds gs before) (hsh : W.ShapedOpen Tryz.prog) :
    Calls Tryz.prog 7 args W fun e W' => ∃ v, e = .returned v ∧ Rows.rpfDefaultSpec.post enc Tryz.prog Tryz.f7 false true false false W args v W' := by
  have hW' := hW
  obtain ⟨p, q, hA0, hV, rfl, hfz, hnd⟩ := hW
  have hA : DataW.TrodAll enc Tryz.prog W 0 (fun _ => true) true Tryz.f7.params.toList args.toList ds p := hA0
  rw [Tryz.params7] at hA hval
  obtain ⟨v0, vs0, d0, ds0, p0, q0, hargs, rfl, rfl, h0, r0⟩ := trodAll_cons hA
  obtain ⟨v1, vs1, d1, ds1, p1, q1, rfl, rfl, rfl, h1, r1⟩ := trodAll_cons r0
  obtain ⟨rfl, rfl, rfl⟩ := trodAll_nil r1
  obtain rfl : args = #[v0, v1] := by cases args; simp_all
  obtain ⟨rfl, rfl⟩ := trodVars_none hV
  obtain ⟨a0, rfl, rfl, rfl, w0⟩ := open_int Tryz.underlying3 (hval 0 3 v0 rfl rfl) h0
  obtain ⟨a1, rfl, rfl, rfl, w1⟩ := open_int Tryz.underlying23 (hval 1 23 v1 rfl rfl) h1
  clear hA0
  refine (walk a0 a1 W w0 w1 hsh).mono fun e W' ⟨he, bel⟩ => ?_
  subst he
  exact ⟨_, rfl, _, _, _, [], _, [], hW', trodAll_mk1 (shut_bool Tryz.underlying4 _), (trodAll_cons_mk (shut_int Tryz.underlying3 w0) (trodAll_cons_mk (shut_int Tryz.underlying23 w1) trodAll_mk0)), rfl, bel.frame _, fun h => by cases h⟩

theorem laid_met (os : Os) : laidMet Tryz.prog Rows.rpfDefaultRow.laid ((World.doorLaid Tryz.prog 24 os).forCall (fun _ _ => 0) ⟨#[], #[.int .i64 0, .int .u32 0], []⟩).memory :=
  laidMet_of_run' 8 (by kernel_rfl) (by kernel_rfl)
theorem reads (os : Os) {H : Type} (enc : TypeId × Value → H) : ∃ places, DataW.whole enc Tryz.prog ((World.doorLaid Tryz.prog 24 os).forCall (fun _ _ => 0) ⟨#[], #[.int .i64 0, .int .u32 0], []⟩).memory Tryz.f7.params.toList Rows.rpfDefaultSpec.vars false (#[.int .i64 0, .int .u32 0] : Array Value).toList 8 = some ([.lit (.int .i64 0), .lit (.int .u32 0)], [], places) :=
  ⟨[], by kernel_rfl⟩

set_option maxRecDepth 100000 in
theorem lifted (os : Os) (started : os.Started) (H : Type) (enc : TypeId × Value → H) (F : Stop.Interp) :
    ReturnsInHanded {} Tryz.checked os 7 .any ((OpenSpec.ofChange Rows.rpfDefaultSpec).preRow enc Tryz.prog Tryz.f7 Rows.rpfDefaultRow.domain false Rows.rpfDefaultRow.laid) (((OpenSpec.ofChange Rows.rpfDefaultSpec).at F).post enc Tryz.prog Tryz.f7 false true false false) := by
  obtain ⟨places, hx⟩ := reads os enc
  refine returnsInHanded_of_row (C := Tryz.checked) (s := (OpenSpec.ofChange Rows.rpfDefaultSpec)) own started (by kernel_rfl) Tryz.func7
    (witness_row_at (enc := enc) (C := Tryz.checked) false (World.doorLaid Tryz.prog 24 os) #[.int .i64 0, .int .u32 0] rfl (by kernel_rfl) (by kernel_rfl) (by kernel_rfl)
      (OpenSpec.preRow_of_cond 8 hx (by kernel_rfl) (fun k hk => by cases hk) (by kernel_rfl) (laid_met os))) ?_
  intro W base args ds gs before hval hW _ hcond _ hL hsh _
  exact contract H enc W base args ds gs before hval hW hsh

theorem said : Rows.RpfDefaultSaid :=
  OpenClaim.holds_of_cond 7 Tryz.f7 rfl rfl rfl rfl rfl rfl rfl ⟨rfl, rfl, rfl, rfl, rfl⟩ rfl rfl rfl rfl rfl (by kernel_rfl) Tryz.func7 (by kernel_rfl)
    (of_decide_eq_true (by kernel_rfl)) (by unfold Func.isWrapper; first | (rw [if_pos (by decide +kernel)]; kernel_rfl) | (rw [if_neg (by decide +kernel)]; exact ⟨rfl, rfl⟩))
    (fun os started H enc _ F => by rw [OpenClaim.pre_eq_preRow]; exact lifted os started H enc F)

end Go.Proofs.YtkfhkhgiojpfoaaGreat.rpfDefault

namespace Go.Proofs.YtkfhkhgiojpfoaaGreat
theorem rpfDefault_holds : Rows.RpfDefaultSaid := rpfDefault.said
#print axioms rpfDefault_holds
end Go.Proofs.YtkfhkhgiojpfoaaGreat
