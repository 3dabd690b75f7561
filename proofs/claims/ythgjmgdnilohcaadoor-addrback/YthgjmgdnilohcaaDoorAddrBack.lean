/- For every address and every length, the law AddrBack returns true: what is printed is read as it was, an address and a prefix; no condition. -/
import Derived.Test.YthgjmgdnilohcaaDoorCards
import Derived.Test.YthgjmgdnilohcaaDoorTie
import Derived.Test.YthgjmgdnilohcaaDoorBack
import Derived.WalkKit
import Derived.ProofKit
import Derived.OpenShut
import Derived.ShutString
import Derived.ChangeOld
import Derived.Deep.DeepHandedRow
import Derived.Lib.LaidTab
import Derived.Lib.SmallJoins
import Derived.LaidMore
import Derived.Stop.LaidErr
namespace Go.Proofs.YthgjmgdnilohcaaDoor.addrBack
open Go.ChangeShapes Go.WideShapes Go.ChangeAt Go.RowKit
set_option linter.unusedVariables false

theorem own : ownKnob Tryd.prog.godebug = none := by kernel_rfl
theorem laidOut : laidOutB Tryd.prog = true := by kernel_rfl

set_option maxHeartbeats 4000000 in
theorem walk (a0 : Int) (a1 : Int) (w : World) (w0 : (Lit.int .u32 a0).wf = true) (w1 : (Lit.int .i64 a1).wf = true) (ht : Tab w) (hsh : w.ShapedOpen Tryd.prog) :
    Calls Tryd.prog 5 #[.int .u32 a0, .int .i64 a1] w fun e w' => e = .returned (.bool true) ∧ Below w.heap.size w w' := by
  have hb0 := bounds_u32 w0
  have hb1 := bounds_i64 w1
  have hM := max_of_shaped hsh
  have e31 := i64_and31 a1
  have hn : 0 ≤ a1 % 32 ∧ a1 % 32 ≤ 31 := by omega
  have c1 := fun w h => print_any a0 w hb0.1 hb0.2 h
  have c2 := fun w h => parse_any (printB a0) w (by have := printB_size a0; omega) h
  have c3 := fun w h => printPrefix_any a0 (a1 % 32) w hb0.1 hb0.2 h
  have c4 := fun w h => parsePrefix_any (printPB a0 (a1 % 32)) w (printPB_size a0 (a1 % 32) (by omega)) h
  rw [show parseE (printB a0).data.toList = .returned (.tuple #[.int .u32 a0, .int .i64 0]) by unfold parseE; rw [parse_print a0 hb0.1 hb0.2]; simp only; rw [Int.toNat_of_nonneg hb0.1]] at c2
  rw [show parsePE (printPB a0 (a1 % 32)).data.toList = .returned (.tuple #[.agg #[.int .u32 a0, .int .i64 (a1 % 32)], .int .i64 0]) by unfold parsePE; rw [parse_printP a0 (a1 % 32) hb0.1 hb0.2 (by omega) (by omega)]; simp only; rw [Int.toNat_of_nonneg hb0.1, Int.toNat_of_nonneg hn.1]] at c4
  generalize printB a0 = P at *
  generalize printPB a0 (a1 % 32) = Q at *
  generalize a1 % 32 = n at *
  have eg := eq_guard
  have eq := fun w => eql_prefix a0 n a0 n w
  clear w0 w1 hsh
  have hx0 : Ext w (w.alloc (.cells #[.int .u32 a0, .int .i64 n] 24)) := (Ext.refl w).alloc _
  have hv : Ext (w.alloc (.cells #[.int .u32 a0, .int .i64 n] 24)) (w.alloc (.cells #[.int .u32 a0, .int .i64 n] 24)) := Ext.refl _
  obtain ⟨p0, p1⟩ := box2 (heap_new w (.cells #[.int .u32 a0, .int .i64 n] 24)) (w.heap.size + 1) (by omega)
  have hp0 := fun w' (hx : Ext (w.alloc (.cells #[.int .u32 a0, .int .i64 n] 24)) w') => p0 w' (hx.but _)
  have hp1 := fun w' (hx : Ext (w.alloc (.cells #[.int .u32 a0, .int .i64 n] 24)) w') => p1 w' (hx.but _)
  clear p0 p1
  go_enter Tryd.func5, Tryd.ntmps5
  go_wp2_with (first
    | (go_at_call 13; refine (c1 _ (ht.later (hx0.trans hv))).mono ?_; rintro e1 w3 ⟨rfl, hx⟩; replace hv := hv.trans hx; clear hx)
    | (go_at_call 9; refine (c2 _ (hM.later (hx0.trans hv))).mono ?_; rintro e1 w4 ⟨rfl, hx⟩; replace hv := hv.trans hx; clear hx)
    | (go_at_call 15; refine (c3 _ (ht.later (hx0.trans hv))).mono ?_; rintro e1 w5 ⟨rfl, hx⟩; replace hv := hv.trans hx; clear hx)
    | (go_at_call 11; refine (c4 _ (hM.later (hx0.trans hv))).mono ?_; rintro e1 w6 ⟨rfl, hx⟩; replace hv := hv.trans hx; clear hx; have q0 := fun o => hp0 (w6.alloc o) (hv.alloc o); have q1 := fun o => hp1 (w6.alloc o) (hv.alloc o))
    | (go_at_call 17; refine (addrKnown_any _ (ht.later (hx0.trans (hv.alloc _)))).mono ?_; rintro e1 w7 ⟨rfl, hx⟩; replace hv := (hv.alloc _).trans hx; clear hx))
  go_ret
  exact ⟨rfl, hx0.trans hv⟩

theorem table {W : World} (h : laidMetH Tryd.prog Rows.addrBackRow.laid W) : Tab W := by
  have h1 : laidMet Tryd.prog Rows.addrBackRow.laid W := h
  have e : (Rows.laid_internal_strconv_uint64pow10 : DataW Unit) = Lib.tabData .u64 Lib.pow10Tab := by kernel_rfl
  have h2 : laidMet Tryd.prog [("internal/strconv.uint64pow10", Rows.laid_internal_strconv_uint64pow10)] W := h1.tail.tail
  rw [e] at h2
  exact Lib.tabIs_of_head (g := 1) (t := 70) (e := 57) (n := 20) (by kernel_rfl) (by kernel_rfl) Tryd.underlying70 Tryd.underlying57 (by kernel_rfl) (by kernel_rfl) h2

theorem contract (H : Type) (enc : TypeId × Value → H) (W : World) (base : Nat) (args : Array Value) (ds gs : List (DataW H)) (before : List MemPlace)
    (hval : ∀ (j : Nat) t v, Tryd.f5.params[j]? = some t → args[j]? = some v → Value.okWide Tryd.prog W .any base t v)
    (hW : DataW.Whole enc Tryd.prog Tryd.f5.params.toList Rows.addrBackSpec.vars false W args.toList ds gs before) (ht : Tab W) (hsh : W.ShapedOpen Tryd.prog) :
    Calls Tryd.prog 5 args W fun e W' => ∃ v, e = .returned v ∧ Rows.addrBackSpec.post enc Tryd.prog Tryd.f5 false true false false W args v W' := by
  have hW' := hW
  obtain ⟨p, q, hA0, hV, rfl, hfz, hnd⟩ := hW
  have hA : DataW.TrodAll enc Tryd.prog W 0 (fun _ => true) true Tryd.f5.params.toList args.toList ds p := hA0
  rw [Tryd.params5] at hA hval
  obtain ⟨v0, vs0, d0, ds0, p0, q0, hargs, rfl, rfl, h0, r0⟩ := trodAll_cons hA
  obtain ⟨v1, vs1, d1, ds1, p1, q1, rfl, rfl, rfl, h1, r1⟩ := trodAll_cons r0
  obtain ⟨rfl, rfl, rfl⟩ := trodAll_nil r1
  obtain rfl : args = #[v0, v1] := by cases args; simp_all
  obtain ⟨rfl, rfl⟩ := trodVars_none hV
  obtain ⟨a0, rfl, rfl, rfl, w0⟩ := open_int Tryd.underlying22 (hval 0 22 v0 rfl rfl) h0
  obtain ⟨a1, rfl, rfl, rfl, w1⟩ := open_int Tryd.underlying3 (hval 1 3 v1 rfl rfl) h1
  clear hA0
  refine (walk a0 a1 W w0 w1 ht hsh).mono fun e W' ⟨he, bel⟩ => ?_
  subst he
  exact ⟨_, rfl, _, _, _, [], _, [], hW', trodAll_mk1 (shut_bool Tryd.underlying4 _), (trodAll_cons_mk (shut_int Tryd.underlying22 w0) (trodAll_cons_mk (shut_int Tryd.underlying3 w1) trodAll_mk0)), rfl, bel.frame _, fun h => by cases h⟩

theorem laid_met (os : Os) : laidMet Tryd.prog Rows.addrBackRow.laid ((World.doorLaid Tryd.prog 24 os).forCall (fun _ _ => 0) ⟨#[], #[.int .u32 0, .int .i64 0], []⟩).memory :=
  laidMet_of_run' 8 (by kernel_rfl) (by kernel_rfl)
theorem reads (os : Os) {H : Type} (enc : TypeId × Value → H) : ∃ places, DataW.whole enc Tryd.prog ((World.doorLaid Tryd.prog 24 os).forCall (fun _ _ => 0) ⟨#[], #[.int .u32 0, .int .i64 0], []⟩).memory Tryd.f5.params.toList Rows.addrBackSpec.vars false (#[.int .u32 0, .int .i64 0] : Array Value).toList 8 = some ([.lit (.int .u32 0), .lit (.int .i64 0)], [], places) :=
  ⟨[], by kernel_rfl⟩

set_option maxRecDepth 100000 in
theorem lifted (os : Os) (started : os.Started) (H : Type) (enc : TypeId × Value → H) (F : Stop.Interp) :
    ReturnsInHanded {} Tryd.checked os 5 .any ((OpenSpec.ofChange Rows.addrBackSpec).preRow enc Tryd.prog Tryd.f5 Rows.addrBackRow.domain false Rows.addrBackRow.laid) (((OpenSpec.ofChange Rows.addrBackSpec).at F).post enc Tryd.prog Tryd.f5 false true false false) := by
  obtain ⟨places, hx⟩ := reads os enc
  refine returnsInHanded_of_row (C := Tryd.checked) (s := (OpenSpec.ofChange Rows.addrBackSpec)) own started (by kernel_rfl) Tryd.func5
    (witness_row_at (enc := enc) (C := Tryd.checked) false (World.doorLaid Tryd.prog 24 os) #[.int .u32 0, .int .i64 0] rfl (by kernel_rfl) (by kernel_rfl) (by kernel_rfl)
      (OpenSpec.preRow_of_cond 8 hx (by kernel_rfl) (fun k hk => by cases hk) (by kernel_rfl) (laid_met os))) ?_
  intro W base args ds gs before hval hW _ hcond _ hL hsh _
  exact contract H enc W base args ds gs before hval hW (table hL) hsh

theorem said : Rows.AddrBackSaid :=
  OpenClaim.holds_of_cond 5 Tryd.f5 rfl rfl rfl rfl rfl rfl rfl ⟨rfl, rfl, rfl, rfl, rfl⟩ rfl rfl rfl rfl rfl (by kernel_rfl) Tryd.func5 (by kernel_rfl)
    (of_decide_eq_true (by kernel_rfl)) (by unfold Func.isWrapper; first | (rw [if_pos (by decide +kernel)]; kernel_rfl) | (rw [if_neg (by decide +kernel)]; exact ⟨rfl, rfl⟩))
    (fun os started H enc _ F => by rw [OpenClaim.pre_eq_preRow]; exact lifted os started H enc F)

theorem plain (f : FuncId) (fn : Func) (hf : Tryd.pinned.checked.prog.funcNamed "castellan/castellanlaw3.AddrBack" = some f) (hfn : Tryd.pinned.checked.prog.funcs[f]? = some fn) :
    false = Tryd.pinned.checked.prog.looks [] ∧ ∀ (j : Nat) t, fn.params[j]? = some t → Tryd.pinned.checked.prog.wantsStandIn t = false := by
  obtain rfl : f = 5 := Option.some.inj ((show Tryd.prog.funcNamed "castellan/castellanlaw3.AddrBack" = some 5 by kernel_rfl).symm.trans hf) |>.symm
  obtain rfl : fn = Tryd.f5 := (Option.some.inj (Tryd.func5.symm.trans hfn)).symm
  refine ⟨by kernel_rfl, fun j t ht => ?_⟩
  rw [Tryd.params5] at ht
  have hm : t ∈ [22, 3] := by simpa using Array.mem_of_getElem? ht
  have hall : ([22, 3].all fun u => !Tryd.prog.wantsStandIn u) = true := by kernel_rfl
  exact (show Tryd.prog.wantsStandIn t = false by simpa using List.all_eq_true.1 hall t hm)

theorem card : Rows.AddrBackCardSaid :=
  Claim7.holds_tied_plain_at .later [] _ _ _ _ said (fun _ h => by cases h) (by kernel_rfl) (fun _ h => by cases h) addrBack_row_tie rfl ⟨rfl, rfl⟩ (by kernel_rfl) rfl plain (by kernel_rfl)
end Go.Proofs.YthgjmgdnilohcaaDoor.addrBack

namespace Go.Proofs.YthgjmgdnilohcaaDoor
theorem addrBack_holds : Rows.AddrBackCardSaid := addrBack.card
#print axioms addrBack_holds
end Go.Proofs.YthgjmgdnilohcaaDoor
