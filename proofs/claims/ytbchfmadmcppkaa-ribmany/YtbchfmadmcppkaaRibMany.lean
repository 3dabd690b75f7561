/- For every number, the law RibMany returns true: so many ways may be, and no more, and those that are there may still be given another metric (of fewer than none or more than three hundred it asks only what is known); no condition. -/
import Derived.Test.YtbchfmadmcppkaaRows
import Derived.Test.YtbchfmadmcppkaaLaw11M
import Derived.Test.YtbchfmadmcppkaaFrame
import Derived.WalkKit
import Derived.ProofKit
import Derived.OpenShut
import Derived.ShutString
import Derived.ChangeOld
import Derived.Deep.DeepHandedRow
import Derived.Lib.LaidTab
import Derived.Lib.SmallJoins
import Derived.LaidMore
import Derived.Stop.LaidErr
import Derived.ChangeMaps5
namespace Go.Proofs.Ytbchfmadmcppkaa.ribMany
open Go.ChangeShapes Go.WideShapes Go.ChangeAt Go.RowKit Go.ChangeMaps
set_option linter.unusedVariables false
set_option maxRecDepth 100000

theorem own : ownKnob Try.prog.godebug = none := by kernel_rfl
theorem laidOut : laidOutB Try.prog = true := by kernel_rfl

open Go.Proofs.Ytbchfmadmcppkaa.Tri Go.Proofs.Ytbchfmadmcppkaa.Rb

set_option maxHeartbeats 4000000 in
theorem walk (a0 : Int) (w : World) (w0 : (Lit.int .i64 a0).wf = true) (hsh : w.ShapedOpen Try.prog) :
    Calls Try.prog 7 #[.int .i64 a0] w fun e w' => e = .returned (.bool true) ∧ Below w.heap.size w w' := by
  have kn := fun w => known_any w
  by_cases h1 : a0 < 0
  · go_enter Try.func7, Try.ntmps7
    go_wp2_with (go_at_call 16; refine (kn _).mono ?_; rintro e w7 ⟨rfl, hx7⟩)
    go_ret
    exact ⟨rfl, hx7⟩
  · by_cases h2 : 300 < a0
    · go_enter Try.func7, Try.ntmps7
      go_wp2_with (go_at_call 16; refine (kn _).mono ?_; rintro e w7 ⟨rfl, hx7⟩)
      go_ret
      exact ⟨rfl, hx7⟩
    · obtain ⟨n, rfl⟩ : ∃ n : Nat, a0 = (n : Int) := ⟨a0.toNat, by omega⟩
      have hn : n ≤ 300 := by omega
      have hnz : (n : Int) ≤ 300 := by omega
      have k0 := fun w => new_any w
      clear h1 h2
      go_enter Try.func7, Try.ntmps7
      go_wp2_with (go_at_call 23; refine (k0 _).mono ?_; rintro e w1 ⟨rfl, h1, hx1⟩)
      have HB0 : Hid (RibAt 60 w1 w.heap.size (manyL (min 0 256)) [w.heap.size]) := h1
      generalize hrb : w.heap.size = rb at *
      have HRB : Hid _ := hrb
      clear h1 hrb k0
      go_loopw [4] (fun i wr => ∃ (k : Nat) (F : List Nat), k ≤ n ∧ i = .int .i64 k ∧ Ext w wr ∧ Hid (RibAt 60 wr rb (manyL (min k 256)) F) ∧ Hid (∀ x ∈ F, w.heap.size ≤ x)) (fun i _ => n - (intOf i).toNat)
      case atStart => exact ⟨0, [rb], Nat.zero_le _, rfl, hx1, HB0, (by simp [HRB.out] : ∀ x ∈ [rb], w.heap.size ≤ x)⟩
      case round =>
        obtain ⟨k, F, hk, rfl, hx, HB, HF⟩ := hrel
        by_cases hlt : k < n
        · have hki : (k : Int) < (n : Int) := by omega
          have e1 : IntKind.u32.wrap (k : Int) = (k : Int) := by rw [IntKind.wrap_u32]; omega
          have e2 : IntKind.u32.wrap ((k : Int) * 256) = (k : Int) * 256 := by rw [IntKind.wrap_u32]; omega
          by_cases h256 : k < 256
          · have hkz : (k : Int) < 256 := by omega
            have hm : min k 256 = k := by omega
            rw [hm] at HB
            have kA := add_any rb (manyL k) F (rtM k) wr HB.out (many_good (by omega)) (rtM_ok (by omega))
            rw [(many_add h256).1, (many_add h256).2] at kA
            go_wp2_with (go_at_call 25; refine kA.mono ?_; rintro e w2 ⟨rfl, hA2⟩; obtain ⟨F2, h2, hx2, hF2, -, -⟩ := hA2.own hx HF.out)
            go_roundw
            case rel => exact ⟨k + 1, F2, by omega, by go_num, hx2, (by show RibAt _ _ _ _ _; rw [show min (k + 1) 256 = k + 1 by omega]; exact h2 : RibAt 60 w2 rb (manyL (min (k + 1) 256)) F2), hF2⟩
            case measure => simp [intOf]; omega
          · have hkz : (256 : Int) ≤ (k : Int) := by omega
            have hkz' : ¬ ((k : Int) < 256) := by omega
            have hm : min k 256 = 256 := by omega
            rw [hm] at HB
            have kA := add_any rb (manyL 256) F (rtM k) wr HB.out (many_good (by omega)) (rtM_ok (by omega))
            rw [(many_full (show 256 ≤ k by omega)).1, (many_full (show 256 ≤ k by omega)).2] at kA
            go_wp2_with (go_at_call 25; refine kA.mono ?_; rintro e w2 ⟨rfl, hA2⟩; obtain ⟨F2, h2, hx2, hF2, -, -⟩ := hA2.own hx HF.out)
            go_roundw
            case rel => exact ⟨k + 1, F2, by omega, by go_num, hx2, (by show RibAt _ _ _ _ _; rw [show min (k + 1) 256 = 256 by omega]; exact h2 : RibAt 60 w2 rb (manyL (min (k + 1) 256)) F2), hF2⟩
            case measure => simp [intOf]; omega
        · obtain rfl : k = n := by omega
          by_cases h0 : k = 0
          · subst h0
            have kL := all_any rb (manyL 0) F wr HB.out (by rw [manyL_len]; omega)
            go_wp2_with (first
              | (go_at_call 13; refine kL.mono ?_; rintro e w4 ⟨v4, rfl, ho4, hx4⟩; obtain ⟨p4, c4, hv4, hR4⟩ := own_rd ho4; rw [manyL_len] at hv4; subst hv4; clear ho4 hR4)
              | (go_at_call 16; refine (kn _).mono ?_; rintro e w7 ⟨rfl, hx7⟩))
            go_ret
            exact ⟨rfl, hx.trans (hx4.trans hx7)⟩
          · have hk0 : (0 : Int) < (k : Int) := by omega
            have hmp : 0 < min k 256 := by omega
            have kA := add_any rb (manyL (min k 256)) F rtN wr HB.out (many_good (by omega)) rtN_ok
            rw [(many_again hmp).1] at kA
            have hln := (many_again hmp).2
            generalize addS (manyL (min k 256)) rtN = L' at *
            have hmin : ((min k 256 : Nat) : Int) = min (k : Int) 256 := by omega
            generalize hmk : min k 256 = mk at *
            have HLN : Hid _ := hln
            have hmk' : mk ≤ 256 := by omega
            have HMK : Hid _ := hmk
            clear hln hmk
            go_wp2_with (first
              | (go_at_call 25; refine kA.mono ?_; rintro e w2 ⟨rfl, hA2⟩; obtain ⟨F2, h2, hx2, hF2, -, -⟩ := hA2.own hx HF.out; have kL := all_any rb L' F2 w2 h2 (by rw [HLN.out]; omega))
              | (go_at_call 13; refine kL.mono ?_; rintro e w4 ⟨v4, rfl, ho4, hx4⟩; obtain ⟨p4, c4, hv4, hR4⟩ := own_rd ho4; rw [HLN.out] at hv4; subst hv4; clear ho4 hR4)
              | (go_at_call 16; refine (kn _).mono ?_; rintro e w7 ⟨rfl, hx7⟩))
            all_goals (go_ret; exact ⟨rfl, hx2.trans (hx4.trans hx7)⟩)

theorem contract (H : Type) (enc : TypeId × Value → H) (W : World) (base : Nat) (args : Array Value) (ds gs : List (DataW H)) (before : List MemPlace)
    (hval : ∀ (j : Nat) t v, Try.f7.params[j]? = some t → args[j]? = some v → Value.okWide Try.prog W .any base t v)
    (hW : DataW.Whole enc Try.prog Try.f7.params.toList Rows.ribManySpec.vars false W args.toList ds gs before) (hsh : W.ShapedOpen Try.prog) :
    Calls Try.prog 7 args W fun e W' => ∃ v, e = .returned v ∧ Rows.ribManySpec.post enc Try.prog Try.f7 false true false false W args v W' := by
  have hW' := hW
  obtain ⟨p, q, hA0, hV, rfl, hfz, hnd⟩ := hW
  have hA : DataW.TrodAll enc Try.prog W 0 (fun _ => true) true Try.f7.params.toList args.toList ds p := hA0
  rw [Try.params7] at hA hval
  obtain ⟨v0, vs0, d0, ds0, p0, q0, hargs, rfl, rfl, h0, r0⟩ := trodAll_cons hA
  obtain ⟨rfl, rfl, rfl⟩ := trodAll_nil r0
  obtain rfl : args = #[v0] := by cases args; simp_all
  obtain ⟨rfl, rfl⟩ := trodVars_none hV
  obtain ⟨a0, rfl, rfl, rfl, w0⟩ := open_int Try.underlying3 (hval 0 3 v0 rfl rfl) h0
  clear hA0
  refine (walk a0 W w0 hsh).mono fun e W' ⟨he, bel⟩ => ?_
  subst he
  exact ⟨_, rfl, _, _, _, [], _, [], hW', trodAll_mk1 (shut_bool Try.underlying4 _), (trodAll_cons_mk (shut_int Try.underlying3 w0) trodAll_mk0), rfl, bel.frame _, fun h => by cases h⟩

theorem laid_met (os : Os) : laidMet Try.prog Rows.ribManyRow.laid ((World.doorLaid Try.prog 24 os).forCall (fun _ _ => 0) ⟨#[], #[.int .i64 0], []⟩).memory :=
  laidMet_of_run' 8 (by kernel_rfl) (by kernel_rfl)
theorem reads (os : Os) {H : Type} (enc : TypeId × Value → H) : ∃ places, DataW.whole enc Try.prog ((World.doorLaid Try.prog 24 os).forCall (fun _ _ => 0) ⟨#[], #[.int .i64 0], []⟩).memory Try.f7.params.toList Rows.ribManySpec.vars false (#[.int .i64 0] : Array Value).toList 8 = some ([.lit (.int .i64 0)], [], places) :=
  ⟨[], by kernel_rfl⟩

set_option maxRecDepth 100000 in
theorem lifted (os : Os) (started : os.Started) (H : Type) (enc : TypeId × Value → H) (F : Stop.Interp) :
    ReturnsInHanded {} Try.checked os 7 .any ((OpenSpec.ofChange Rows.ribManySpec).preRow enc Try.prog Try.f7 Rows.ribManyRow.domain false Rows.ribManyRow.laid) (((OpenSpec.ofChange Rows.ribManySpec).at F).post enc Try.prog Try.f7 false true false false) := by
  obtain ⟨places, hx⟩ := reads os enc
  refine returnsInHanded_of_row (C := Try.checked) (s := (OpenSpec.ofChange Rows.ribManySpec)) own started (by kernel_rfl) Try.func7
    (witness_row_at (enc := enc) (C := Try.checked) false (World.doorLaid Try.prog 24 os) #[.int .i64 0] rfl (by kernel_rfl) (by kernel_rfl) (by kernel_rfl)
      (OpenSpec.preRow_of_cond 8 hx (by kernel_rfl) (fun k hk => by cases hk) (by kernel_rfl) (laid_met os))) ?_
  intro W base args ds gs before hval hW _ hcond _ hL hsh _
  exact contract H enc W base args ds gs before hval hW hsh

theorem said : Rows.RibManySaid :=
  OpenClaim.holds_of_cond 7 Try.f7 rfl rfl rfl rfl rfl rfl rfl ⟨rfl, rfl, rfl, rfl, rfl⟩ rfl rfl rfl rfl rfl (by kernel_rfl) Try.func7 (by kernel_rfl)
    (of_decide_eq_true (by kernel_rfl)) (by unfold Func.isWrapper; first | (rw [if_pos (by decide +kernel)]; kernel_rfl) | (rw [if_neg (by decide +kernel)]; exact ⟨rfl, rfl⟩))
    (fun os started H enc _ F => by rw [OpenClaim.pre_eq_preRow]; exact lifted os started H enc F)

end Go.Proofs.Ytbchfmadmcppkaa.ribMany

namespace Go.Proofs.Ytbchfmadmcppkaa
theorem ribMany_holds : Rows.RibManySaid := ribMany.said
#print axioms ribMany_holds
end Go.Proofs.Ytbchfmadmcppkaa
