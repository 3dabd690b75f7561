/- For every prefix and every address, the law TrieOfNothing returns true: a nil Trie has nothing; no condition. -/
import Derived.Test.YtgcnnblngmomhaaRows
import Derived.Test.YtgcnnblngmomhaaLaw9K
import Derived.Test.YtgcnnblngmomhaaFrame
import Derived.WalkKit
import Derived.ProofKit
import Derived.OpenShut
import Derived.ShutString
import Derived.ChangeOld
import Derived.Deep.DeepHandedRow
import Derived.Lib.LaidTab
import Derived.Lib.SmallJoins
import Derived.LaidMore
import Derived.Stop.LaidErr
import Derived.ChangeMaps5
namespace Go.Proofs.Ytgcnnblngmomhaa.trieOfNothing
open Go.ChangeShapes Go.WideShapes Go.ChangeAt Go.RowKit Go.ChangeMaps
set_option linter.unusedVariables false
set_option maxRecDepth 100000

theorem own : ownKnob Try.prog.godebug = none := by kernel_rfl
theorem laidOut : laidOutB Try.prog = true := by kernel_rfl

theorem arr2 {α : Type} {cs : Array α} (h : cs.size = 2) : ∃ c0 c1, cs = #[c0, c1] := by
  obtain ⟨l⟩ := cs
  match l, h with
  | [c0, c1], _ => exact ⟨c0, c1, rfl⟩

open Go.Proofs.Ytgcnnblngmomhaa.Tri

theorem begS_nil (p : PX) : begS .nil p = .nil := by unfold begS; split <;> rfl

set_option maxHeartbeats 4000000 in
theorem walk (a00 : Int) (a01 : Int) (a1 : Int) (w : World) (w00 : (Lit.int .u32 a00).wf = true) (w01 : (Lit.int .i64 a01).wf = true) (w1 : (Lit.int .u32 a1).wf = true) (hsh : w.ShapedOpen Try.prog) :
    Calls Try.prog 8 #[.agg #[.int .u32 a00, .int .i64 a01], .int .u32 a1] w fun e w' => e = .returned (.bool true) ∧ Below w.heap.size w w' := by
  have hb0 := bounds_u32 w00
  have hb1 := bounds_u32 w1
  have tn := fun w => (Or.inl ⟨rfl, rfl⟩ : Top w none none)
  have isn : ∀ w, Is w .nil none := fun w => rfl
  have k1 := fun w => get_any none none .nil a00 a01 w (tn w) (isn w) trivial hb0.1 hb0.2
  have k2 := fun w => Longest_any none none .nil a1 w (tn w) (isn w) trivial hb1.1 hb1.2
  have k3 := fun w => Set_nil a00 a01 1 w
  have k4 := fun w => Del_no none none .nil a00 a01 w (tn w) (isn w) trivial hb0.1 hb0.2 (by rw [begS_nil]; rfl)
  have k5 := fun w => Covers_any none none .nil a00 a01 w (tn w) (isn w) trivial (by simp [szS]) hb0.1 hb0.2
  have k6 := fun w => Walk_any none none .nil w (tn w) (isn w) (by simp [szS])
  have k7 := fun w => Len_any none none .nil w (tn w) (isn w) (by simp [szS])
  have k8 := fun w => Nodes_any none none .nil w (tn w) (isn w) (by simp [szS])
  have k9 := fun w => known_any w
  rw [begS_nil] at k1 k2 k5
  simp only [coversS, lastF, getF, ansO, toL, szS, List.map_nil, List.length_nil] at k1 k2 k5 k6 k7 k8
  have hA : Ext w (w.alloc (.cells #[.int .u32 a00, .int .i64 a01] 32)) := (Ext.refl w).alloc _
  have hn := heap_new w (.cells #[.int .u32 a00, .int .i64 a01] 32)
  have hp : ∀ w', Ext (w.alloc (.cells #[.int .u32 a00, .int .i64 a01] 32)) w' → w'.cell? ⟨w.heap.size, 0, none⟩ = some (.int .u32 a00) ∧ w'.cell? ⟨w.heap.size, 1, none⟩ = some (.int .i64 a01) := fun w' hx => ⟨by rw [heap_cell (hx.heap hn)]; rfl, by rw [heap_cell (hx.heap hn)]; rfl⟩
  have HP : Hid _ := hp
  obtain ⟨q0, q1⟩ := hp _ (Ext.refl _)
  have hv : Ext (w.alloc (.cells #[.int .u32 a00, .int .i64 a01] 32)) (w.alloc (.cells #[.int .u32 a00, .int .i64 a01] 32)) := Ext.refl _
  have HA : Hid (Ext w (w.alloc (.cells #[.int .u32 a00, .int .i64 a01] 32))) := hA
  clear hn hp hA tn isn
  go_enter Try.func8, Try.ntmps8
  go_wp2_with (first
    | (go_at_call 17; refine (k1 _).mono ?_; rintro e w1 ⟨rfl, hx⟩; replace hv := hv.trans hx; obtain ⟨q2, q3⟩ := HP.out _ hv; clear hx)
    | (go_at_call 22; refine (k2 _).mono ?_; rintro e w2 ⟨rfl, hx⟩; replace hv := (hv.trans hx).alloc (.cells #[.int .u32 0, .int .i64 0] 32); obtain ⟨q4, q5⟩ := HP.out _ hv; clear hx)
    | (go_at_call 15; refine (k3 _).mono ?_; rintro e w3 ⟨rfl, hx⟩; replace hv := hv.trans hx; obtain ⟨q6, q7⟩ := HP.out _ hv; clear hx)
    | (go_at_call 13; refine (k4 _).mono ?_; rintro e w4 ⟨rfl, hx⟩; replace hv := hv.trans hx; obtain ⟨q8, q9⟩ := HP.out _ hv; clear hx)
    | (go_at_call 25; refine (k5 _).mono ?_; rintro e w5 ⟨v5, rfl, ho, hx⟩; obtain ⟨y5, c5, rfl, -, -, -⟩ := owns_slice ho; clear ho; replace hv := hv.trans hx; clear hx)
    | (go_at_call 27; refine (k6 _).mono ?_; rintro e w6 ⟨v6, rfl, ho, hx⟩; obtain ⟨y6, c6, rfl, -, -, -⟩ := owns_slice ho; clear ho; replace hv := hv.trans hx; clear hx)
    | (go_at_call 31; refine (k7 _).mono ?_; rintro e w7 ⟨rfl, rfl⟩)
    | (go_at_call 28; refine (k8 _).mono ?_; rintro e w8 ⟨rfl, rfl⟩)
    | (go_at_call 20; refine (k9 _).mono ?_; rintro e w9 ⟨rfl, hx⟩; replace hv := hv.trans hx; clear hx))
  go_ret
  exact ⟨rfl, Ext.trans HA.out hv⟩

theorem contract (H : Type) (enc : TypeId × Value → H) (W : World) (base : Nat) (args : Array Value) (ds gs : List (DataW H)) (before : List MemPlace)
    (hval : ∀ (j : Nat) t v, Try.f8.params[j]? = some t → args[j]? = some v → Value.okWide Try.prog W .any base t v)
    (hW : DataW.Whole enc Try.prog Try.f8.params.toList Rows.trieOfNothingSpec.vars false W args.toList ds gs before) (hsh : W.ShapedOpen Try.prog) :
    Calls Try.prog 8 args W fun e W' => ∃ v, e = .returned v ∧ Rows.trieOfNothingSpec.post enc Try.prog Try.f8 false true false false W args v W' := by
  have hW' := hW
  obtain ⟨p, q, hA0, hV, rfl, hfz, hnd⟩ := hW
  have hA : DataW.TrodAll enc Try.prog W 0 (fun _ => true) true Try.f8.params.toList args.toList ds p := hA0
  rw [Try.params8] at hA hval
  obtain ⟨v0, vs0, d0, ds0, p0, q0, hargs, rfl, rfl, h0, r0⟩ := trodAll_cons hA
  obtain ⟨v1, vs1, d1, ds1, p1, q1, rfl, rfl, rfl, h1, r1⟩ := trodAll_cons r0
  obtain ⟨rfl, rfl, rfl⟩ := trodAll_nil r1
  obtain rfl : args = #[v0, v1] := by cases args; simp_all
  obtain ⟨rfl, rfl⟩ := trodVars_none hV
  have k0 := h0
  have lt0 : ∀ x ∈ p0, x.block < W.heap.size := by obtain ⟨m, hm⟩ := k0; exact DataW.trod_lt m _ _ _ hm
  obtain ⟨cs0, rfl, hs0⟩ := okWide_struct Try.underlying32 (hval 0 32 v0 rfl rfl)
  obtain ⟨u0a, u0b, rfl⟩ := arr2 (hs0.trans (by kernel_rfl))
  obtain ⟨fu0, hf0⟩ := h0
  obtain ⟨_, _, e1⟩ := field_at Try.underlying32 hf0 0 rfl 1 (by kernel_rfl)
  obtain ⟨a00, c2, _, w00⟩ := DataW.trod_int Try.underlying30 e1
  obtain rfl : u0a = .int .u32 a00 := by simpa [Value.cells] using c2
  obtain ⟨_, _, e3⟩ := field_at Try.underlying32 hf0 1 rfl 1 (by kernel_rfl)
  obtain ⟨a01, c4, _, w01⟩ := DataW.trod_int Try.underlying3 e3
  obtain rfl : u0b = .int .i64 a01 := by simpa [Value.cells] using c4
  obtain ⟨a1, rfl, rfl, rfl, w1⟩ := open_int Try.underlying30 (hval 1 30 v1 rfl rfl) h1
  clear hA0
  refine (walk a00 a01 a1 W w00 w01 w1 hsh).mono fun e W' ⟨he, bel⟩ => ?_
  subst he
  exact ⟨_, rfl, _, _, _, [], _, [], hW', trodAll_mk1 (shut_bool Try.underlying4 _), (trodAll_cons_mk (Below.trod laidOut (by kernel_rfl) (of_decide_eq_true (by kernel_rfl)) k0 bel lt0) (trodAll_cons_mk (shut_int Try.underlying30 w1) trodAll_mk0)), rfl, bel.frame _, fun h => by cases h⟩

theorem laid_met (os : Os) : laidMet Try.prog Rows.trieOfNothingRow.laid ((World.doorLaid Try.prog 24 os).forCall (fun _ _ => 0) ⟨#[], #[.agg #[.int .u32 0, .int .i64 0], .int .u32 0], []⟩).memory :=
  laidMet_of_run' 8 (by kernel_rfl) (by kernel_rfl)
theorem reads (os : Os) {H : Type} (enc : TypeId × Value → H) : ∃ places, DataW.whole enc Try.prog ((World.doorLaid Try.prog 24 os).forCall (fun _ _ => 0) ⟨#[], #[.agg #[.int .u32 0, .int .i64 0], .int .u32 0], []⟩).memory Try.f8.params.toList Rows.trieOfNothingSpec.vars false (#[.agg #[.int .u32 0, .int .i64 0], .int .u32 0] : Array Value).toList 8 = some ([.agg [.lit (.int .u32 0), .lit (.int .i64 0)], .lit (.int .u32 0)], [], places) :=
  ⟨[], by kernel_rfl⟩

set_option maxRecDepth 100000 in
theorem lifted (os : Os) (started : os.Started) (H : Type) (enc : TypeId × Value → H) (F : Stop.Interp) :
    ReturnsInHanded {} Try.checked os 8 .any ((OpenSpec.ofChange Rows.trieOfNothingSpec).preRow enc Try.prog Try.f8 Rows.trieOfNothingRow.domain false Rows.trieOfNothingRow.laid) (((OpenSpec.ofChange Rows.trieOfNothingSpec).at F).post enc Try.prog Try.f8 false true false false) := by
  obtain ⟨places, hx⟩ := reads os enc
  refine returnsInHanded_of_row (C := Try.checked) (s := (OpenSpec.ofChange Rows.trieOfNothingSpec)) own started (by kernel_rfl) Try.func8
    (witness_row_at (enc := enc) (C := Try.checked) false (World.doorLaid Try.prog 24 os) #[.agg #[.int .u32 0, .int .i64 0], .int .u32 0] rfl (by kernel_rfl) (by kernel_rfl) (by kernel_rfl)
      (OpenSpec.preRow_of_cond 8 hx (by kernel_rfl) (fun k hk => by cases hk) (by kernel_rfl) (laid_met os))) ?_
  intro W base args ds gs before hval hW _ hcond _ hL hsh _
  exact contract H enc W base args ds gs before hval hW hsh

theorem said : Rows.TrieOfNothingSaid :=
  OpenClaim.holds_of_cond 8 Try.f8 rfl rfl rfl rfl rfl rfl rfl ⟨rfl, rfl, rfl, rfl, rfl⟩ rfl rfl rfl rfl rfl (by kernel_rfl) Try.func8 (by kernel_rfl)
    (of_decide_eq_true (by kernel_rfl)) (by unfold Func.isWrapper; first | (rw [if_pos (by decide +kernel)]; kernel_rfl) | (rw [if_neg (by decide +kernel)]; exact ⟨rfl, rfl⟩))
    (fun os started H enc _ F => by rw [OpenClaim.pre_eq_preRow]; exact lifted os started H enc F)

end Go.Proofs.Ytgcnnblngmomhaa.trieOfNothing

namespace Go.Proofs.Ytgcnnblngmomhaa
theorem trieOfNothing_holds : Rows.TrieOfNothingSaid := trieOfNothing.said
#print axioms trieOfNothing_holds
end Go.Proofs.Ytgcnnblngmomhaa
