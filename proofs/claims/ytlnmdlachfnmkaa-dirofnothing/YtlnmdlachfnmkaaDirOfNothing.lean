/- For every prefix and every address, the law DirOfNothing returns true: a nil Dir has nothing; no condition. -/
import Derived.Test.YtlnmdlachfnmkaaRows
import Derived.Test.YtlnmdlachfnmkaaLaw10K
import Derived.Test.YtlnmdlachfnmkaaFrame
import Derived.WalkKit
import Derived.ProofKit
import Derived.OpenShut
import Derived.ShutString
import Derived.ChangeOld
import Derived.Deep.DeepHandedRow
import Derived.Lib.LaidTab
import Derived.Lib.SmallJoins
import Derived.LaidMore
import Derived.Stop.LaidErr
import Derived.ChangeMaps5
namespace Go.Proofs.Ytlnmdlachfnmkaa.dirOfNothing
open Go.ChangeShapes Go.WideShapes Go.ChangeAt Go.RowKit Go.ChangeMaps
set_option linter.unusedVariables false
set_option maxRecDepth 100000

theorem own : ownKnob Try.prog.godebug = none := by kernel_rfl
theorem laidOut : laidOutB Try.prog = true := by kernel_rfl

theorem arr2 {α : Type} {cs : Array α} (h : cs.size = 2) : ∃ c0 c1, cs = #[c0, c1] := by
  obtain ⟨l⟩ := cs
  match l, h with
  | [c0, c1], _ => exact ⟨c0, c1, rfl⟩

open Go.Proofs.Ytlnmdlachfnmkaa.Tri Go.Proofs.Ytlnmdlachfnmkaa.Dr

theorem look_none (a : Int) (w : World) : Calls Try.prog 18 #[.pointer none, .int .u32 a] w fun e w' => e = .returned (.tuple #[.int .i64 0, .bool false]) ∧ w' = w := by
  go_enter Try.func18, Try.ntmps18
  go_wp2_with fail
  go_ret2
  exact ⟨rfl, rfl⟩

theorem blocks_none (w : World) : Calls Try.prog 13 #[.pointer none] w fun e w' => e = .returned (.int .i64 0) ∧ w' = w := by
  go_enter Try.func13, Try.ntmps13
  go_wp2_with fail
  go_ret
  exact ⟨rfl, rfl⟩

theorem len_none (w : World) : Calls Try.prog 15 #[.pointer none] w fun e w' => e = .returned (.int .i64 0) ∧ w' = w := by
  go_enter Try.func15, Try.ntmps15
  go_wp2_with fail
  go_ret
  exact ⟨rfl, rfl⟩

set_option maxHeartbeats 4000000 in
theorem walk (a00 : Int) (a01 : Int) (a1 : Int) (w : World) (w00 : (Lit.int .u32 a00).wf = true) (w01 : (Lit.int .i64 a01).wf = true) (w1 : (Lit.int .u32 a1).wf = true) (hsh : w.ShapedOpen Try.prog) :
    Calls Try.prog 7 #[.agg #[.int .u32 a00, .int .i64 a01], .int .u32 a1] w fun e w' => e = .returned (.bool true) ∧ Below w.heap.size w w' := by
  have k2 := fun w => look_none a1 w
  have k3 := fun w => set_nil a00 a01 1 w
  have k4 := fun w => del_nil a00 a01 w
  have k7 := fun w => blocks_none w
  have k8 := fun w => len_none w
  have k9 := fun w => known_any w
  have hnot : ∀ (x : Bool) (w : World), (Op.unary .not (.bool x)).run Try.prog w = .ok (.bool (!x)) w := fun _ _ => rfl
  have hA : Ext w (w.alloc (.cells #[.int .u32 a00, .int .i64 a01] 30)) := (Ext.refl w).alloc _
  have hn := heap_new w (.cells #[.int .u32 a00, .int .i64 a01] 30)
  have hp : ∀ w', Ext (w.alloc (.cells #[.int .u32 a00, .int .i64 a01] 30)) w' → w'.cell? ⟨w.heap.size, 0, none⟩ = some (.int .u32 a00) ∧ w'.cell? ⟨w.heap.size, 1, none⟩ = some (.int .i64 a01) := fun w' hx => ⟨by rw [heap_cell (hx.heap hn)]; rfl, by rw [heap_cell (hx.heap hn)]; rfl⟩
  have HP : Hid _ := hp
  obtain ⟨q0, q1⟩ := hp _ (Ext.refl _)
  have hv : Ext (w.alloc (.cells #[.int .u32 a00, .int .i64 a01] 30)) (w.alloc (.cells #[.int .u32 a00, .int .i64 a01] 30)) := Ext.refl _
  have HA : Hid (Ext w (w.alloc (.cells #[.int .u32 a00, .int .i64 a01] 30))) := hA
  clear hn hp hA
  go_enter Try.func7, Try.ntmps7
  go_wp2_with (first
    | (go_at_call 18; refine (k2 _).mono ?_; rintro e w2 ⟨rfl, rfl⟩)
    | (go_at_call 20; refine (k3 _).mono ?_; rintro e w3 ⟨rfl, hx⟩; replace hv := hv.trans hx; obtain ⟨q6, q7⟩ := HP.out _ hv; clear hx)
    | (go_at_call 21; refine (k4 _).mono ?_; rintro e w4 ⟨rfl, hx⟩; replace hv := hv.trans hx; obtain ⟨q8, q9⟩ := HP.out _ hv; clear hx)
    | (go_at_call 13; refine (k7 _).mono ?_; rintro e w7 ⟨rfl, rfl⟩)
    | (go_at_call 15; refine (k8 _).mono ?_; rintro e w8 ⟨rfl, rfl⟩)
    | (go_at_call 16; refine (k9 _).mono ?_; rintro e w9 ⟨rfl, hx⟩; replace hv := hv.trans hx; clear hx))
  go_ret
  exact ⟨rfl, Ext.trans HA.out hv⟩

theorem contract (H : Type) (enc : TypeId × Value → H) (W : World) (base : Nat) (args : Array Value) (ds gs : List (DataW H)) (before : List MemPlace)
    (hval : ∀ (j : Nat) t v, Try.f7.params[j]? = some t → args[j]? = some v → Value.okWide Try.prog W .any base t v)
    (hW : DataW.Whole enc Try.prog Try.f7.params.toList Rows.dirOfNothingSpec.vars false W args.toList ds gs before) (hsh : W.ShapedOpen Try.prog) :
    Calls Try.prog 7 args W fun e W' => ∃ v, e = .returned v ∧ Rows.dirOfNothingSpec.post enc Try.prog Try.f7 false true false false W args v W' := by
  have hW' := hW
  obtain ⟨p, q, hA0, hV, rfl, hfz, hnd⟩ := hW
  have hA : DataW.TrodAll enc Try.prog W 0 (fun _ => true) true Try.f7.params.toList args.toList ds p := hA0
  rw [Try.params7] at hA hval
  obtain ⟨v0, vs0, d0, ds0, p0, q0, hargs, rfl, rfl, h0, r0⟩ := trodAll_cons hA
  obtain ⟨v1, vs1, d1, ds1, p1, q1, rfl, rfl, rfl, h1, r1⟩ := trodAll_cons r0
  obtain ⟨rfl, rfl, rfl⟩ := trodAll_nil r1
  obtain rfl : args = #[v0, v1] := by cases args; simp_all
  obtain ⟨rfl, rfl⟩ := trodVars_none hV
  have k0 := h0
  have lt0 : ∀ x ∈ p0, x.block < W.heap.size := by obtain ⟨m, hm⟩ := k0; exact DataW.trod_lt m _ _ _ hm
  obtain ⟨cs0, rfl, hs0⟩ := okWide_struct Try.underlying30 (hval 0 30 v0 rfl rfl)
  obtain ⟨u0a, u0b, rfl⟩ := arr2 (hs0.trans (by kernel_rfl))
  obtain ⟨fu0, hf0⟩ := h0
  obtain ⟨_, _, e1⟩ := field_at Try.underlying30 hf0 0 rfl 1 (by kernel_rfl)
  obtain ⟨a00, c2, _, w00⟩ := DataW.trod_int Try.underlying28 e1
  obtain rfl : u0a = .int .u32 a00 := by simpa [Value.cells] using c2
  obtain ⟨_, _, e3⟩ := field_at Try.underlying30 hf0 1 rfl 1 (by kernel_rfl)
  obtain ⟨a01, c4, _, w01⟩ := DataW.trod_int Try.underlying3 e3
  obtain rfl : u0b = .int .i64 a01 := by simpa [Value.cells] using c4
  obtain ⟨a1, rfl, rfl, rfl, w1⟩ := open_int Try.underlying28 (hval 1 28 v1 rfl rfl) h1
  clear hA0
  refine (walk a00 a01 a1 W w00 w01 w1 hsh).mono fun e W' ⟨he, bel⟩ => ?_
  subst he
  exact ⟨_, rfl, _, _, _, [], _, [], hW', trodAll_mk1 (shut_bool Try.underlying4 _), (trodAll_cons_mk (Below.trod laidOut (by kernel_rfl) (of_decide_eq_true (by kernel_rfl)) k0 bel lt0) (trodAll_cons_mk (shut_int Try.underlying28 w1) trodAll_mk0)), rfl, bel.frame _, fun h => by cases h⟩

theorem laid_met (os : Os) : laidMet Try.prog Rows.dirOfNothingRow.laid ((World.doorLaid Try.prog 24 os).forCall (fun _ _ => 0) ⟨#[], #[.agg #[.int .u32 0, .int .i64 0], .int .u32 0], []⟩).memory :=
  laidMet_of_run' 8 (by kernel_rfl) (by kernel_rfl)
theorem reads (os : Os) {H : Type} (enc : TypeId × Value → H) : ∃ places, DataW.whole enc Try.prog ((World.doorLaid Try.prog 24 os).forCall (fun _ _ => 0) ⟨#[], #[.agg #[.int .u32 0, .int .i64 0], .int .u32 0], []⟩).memory Try.f7.params.toList Rows.dirOfNothingSpec.vars false (#[.agg #[.int .u32 0, .int .i64 0], .int .u32 0] : Array Value).toList 8 = some ([.agg [.lit (.int .u32 0), .lit (.int .i64 0)], .lit (.int .u32 0)], [], places) :=
  ⟨[], by kernel_rfl⟩

set_option maxRecDepth 100000 in
theorem lifted (os : Os) (started : os.Started) (H : Type) (enc : TypeId × Value → H) (F : Stop.Interp) :
    ReturnsInHanded {} Try.checked os 7 .any ((OpenSpec.ofChange Rows.dirOfNothingSpec).preRow enc Try.prog Try.f7 Rows.dirOfNothingRow.domain false Rows.dirOfNothingRow.laid) (((OpenSpec.ofChange Rows.dirOfNothingSpec).at F).post enc Try.prog Try.f7 false true false false) := by
  obtain ⟨places, hx⟩ := reads os enc
  refine returnsInHanded_of_row (C := Try.checked) (s := (OpenSpec.ofChange Rows.dirOfNothingSpec)) own started (by kernel_rfl) Try.func7
    (witness_row_at (enc := enc) (C := Try.checked) false (World.doorLaid Try.prog 24 os) #[.agg #[.int .u32 0, .int .i64 0], .int .u32 0] rfl (by kernel_rfl) (by kernel_rfl) (by kernel_rfl)
      (OpenSpec.preRow_of_cond 8 hx (by kernel_rfl) (fun k hk => by cases hk) (by kernel_rfl) (laid_met os))) ?_
  intro W base args ds gs before hval hW _ hcond _ hL hsh _
  exact contract H enc W base args ds gs before hval hW hsh

theorem said : Rows.DirOfNothingSaid :=
  OpenClaim.holds_of_cond 7 Try.f7 rfl rfl rfl rfl rfl rfl rfl ⟨rfl, rfl, rfl, rfl, rfl⟩ rfl rfl rfl rfl rfl (by kernel_rfl) Try.func7 (by kernel_rfl)
    (of_decide_eq_true (by kernel_rfl)) (by unfold Func.isWrapper; first | (rw [if_pos (by decide +kernel)]; kernel_rfl) | (rw [if_neg (by decide +kernel)]; exact ⟨rfl, rfl⟩))
    (fun os started H enc _ F => by rw [OpenClaim.pre_eq_preRow]; exact lifted os started H enc F)

end Go.Proofs.Ytlnmdlachfnmkaa.dirOfNothing

namespace Go.Proofs.Ytlnmdlachfnmkaa
theorem dirOfNothing_holds : Rows.DirOfNothingSaid := dirOfNothing.said
#print axioms dirOfNothing_holds
end Go.Proofs.Ytlnmdlachfnmkaa
