/- For every two addresses, the law TrieHalves returns true: they have a fork between them, wherever they part; no condition. -/
import Derived.Test.YtgcnnblngmomhaaRows
import Derived.Test.YtgcnnblngmomhaaLaw9K
import Derived.Test.YtgcnnblngmomhaaFrame
import Derived.WalkKit
import Derived.ProofKit
import Derived.OpenShut
import Derived.ShutString
import Derived.ChangeOld
import Derived.Deep.DeepHandedRow
import Derived.Lib.LaidTab
import Derived.Lib.SmallJoins
import Derived.LaidMore
import Derived.Stop.LaidErr
import Derived.ChangeMaps5
namespace Go.Proofs.Ytgcnnblngmomhaa.trieHalves
open Go.ChangeShapes Go.WideShapes Go.ChangeAt Go.RowKit Go.ChangeMaps
set_option linter.unusedVariables false
set_option maxRecDepth 100000

theorem own : ownKnob Try.prog.godebug = none := by kernel_rfl
theorem laidOut : laidOutB Try.prog = true := by kernel_rfl

open Go.Proofs.Ytgcnnblngmomhaa.Tri

theorem vp32 {a : Int} (h0 : 0 ≤ a) (h1 : a ≤ 4294967295) : Vp (a, 32) := by
  obtain ⟨A, rfl⟩ := Int.eq_ofNat_of_zero_le h0
  exact ⟨A, 32, rfl, by omega, by omega, by simp [Nat.mod_one]⟩

theorem halves_sz {a b : Int} (ha : Vp (a, 32)) (hb : Vp (b, 32)) : szS (putS (putS .nil (a, 32) 1) (b, 32) 2) = if a = b then 1 else 3 := by
  obtain ⟨cv, cq, cp, _, _, _⟩ := com_spec ha hb
  by_cases e : a = b
  · subst e
    rw [if_pos rfl]
    simp only [putS, leaf, cov_refl, if_true]
    rfl
  · rw [if_neg e]
    have hc : ¬ cov (a, 32) (b, 32) = true := fun h => e (congrArg Prod.fst (cov_eq ha hb h (Int.le_refl _)))
    have hne : com (a, 32) (b, 32) ≠ (b, 32) := fun h => by
      rw [h] at cq
      exact e (congrArg Prod.fst (cov_eq hb ha cq (Int.le_refl _))).symm
    simp only [putS, leaf, if_neg hc, overS, if_neg hne]
    split <;> rfl

set_option maxHeartbeats 4000000 in
theorem walk (a0 : Int) (a1 : Int) (w : World) (w0 : (Lit.int .u32 a0).wf = true) (w1 : (Lit.int .u32 a1).wf = true) (hsh : w.ShapedOpen Try.prog) :
    Calls Try.prog 11 #[.int .u32 a0, .int .u32 a1] w fun e w' => e = .returned (.bool true) ∧ Below w.heap.size w w' := by
  have hb0 := bounds_u32 w0
  have hb1 := bounds_u32 w1
  have hp1 := vp32 hb0.1 hb0.2
  have hp2 := vp32 hb1.1 hb1.2
  have hsz := halves_sz hp1 hp2
  have k0 := fun w => new_any w
  have k1 := Set_good w.heap.size a0 32 1 .nil [w.heap.size] _ hp1 (trie_new w)
  have k2 := fun w2 F2 (h : TrieAt w2 w.heap.size (putS .nil (a0, 32) 1) F2) => Set_good w.heap.size a1 32 2 _ F2 w2 hp2 h
  have k4 := fun w3 root (h1 : Top w3 (some ⟨w.heap.size, 0, none⟩) root) (h2 : Is w3 (putS (putS .nil (a0, 32) 1) (a1, 32) 2) root) => Nodes_any _ root _ w3 h1 h2 (by rw [hsz]; split <;> omega)
  have k9 := fun w => known_any w
  rw [hsz] at k4
  generalize putS (putS .nil (a0, 32) 1) (a1, 32) 2 = s2 at *
  generalize putS .nil (a0, 32) 1 = s1 at *
  have hx1 : Ext w (w.alloc (.cells #[.pointer none] 62)) := (Ext.refl w).alloc _
  have HX : Hid _ := hx1
  have tok1 : Hid True := trivial
  clear hp1 hp2 hsz hx1
  by_cases e : a0 = a1
  · simp only [if_pos e] at k4
    subst e
    go_enter Try.func11, Try.ntmps11
    go_wp2_with (first
      | (go_at_call 12; refine (k0 _).mono ?_; rintro e w1 ⟨rfl, rfl⟩)
      | (go_at_call 15; clear tok1; refine k1.mono ?_; rintro e w2 ⟨rfl, F2, hT2, hx2, hn2⟩)
      | (go_at_call 15; refine (k2 _ _ hT2).mono ?_; rintro e w3 ⟨rfl, F3, hT3, hx3, hn3⟩; obtain ⟨root, ht1, ht2⟩ := hT3.top)
      | (go_at_call 28; refine (k4 _ _ ht1 ht2).mono ?_; rintro e w5 ⟨rfl, rfl⟩)
      | (go_at_call 20; refine (k9 _).mono ?_; rintro e w9 ⟨rfl, hx9⟩))
    go_ret
    have hxB : ExtS [w.heap.size] w w5 := ((Ext.toS HX.out _).trans hx2).then hx3 (fun x hx => (hn2 x hx).imp id (fun h => Nat.le_trans HX.out.size h))
    exact ⟨rfl, (hxB.ext (by simp)).trans hx9⟩
  · simp only [if_neg e] at k4
    have ee : (a0 == a1) = false := by rw [beq_eq_false_iff_ne]; exact e
    clear e
    go_enter Try.func11, Try.ntmps11
    go_wp2_with (first
      | (go_at_call 12; refine (k0 _).mono ?_; rintro e w1 ⟨rfl, rfl⟩)
      | (go_at_call 15; clear tok1; refine k1.mono ?_; rintro e w2 ⟨rfl, F2, hT2, hx2, hn2⟩)
      | (go_at_call 15; refine (k2 _ _ hT2).mono ?_; rintro e w3 ⟨rfl, F3, hT3, hx3, hn3⟩; obtain ⟨root, ht1, ht2⟩ := hT3.top)
      | (go_at_call 28; refine (k4 _ _ ht1 ht2).mono ?_; rintro e w5 ⟨rfl, rfl⟩)
      | (go_at_call 20; refine (k9 _).mono ?_; rintro e w9 ⟨rfl, hx9⟩))
    go_ret
    have hxB : ExtS [w.heap.size] w w5 := ((Ext.toS HX.out _).trans hx2).then hx3 (fun x hx => (hn2 x hx).imp id (fun h => Nat.le_trans HX.out.size h))
    exact ⟨rfl, (hxB.ext (by simp)).trans hx9⟩

theorem contract (H : Type) (enc : TypeId × Value → H) (W : World) (base : Nat) (args : Array Value) (ds gs : List (DataW H)) (before : List MemPlace)
    (hval : ∀ (j : Nat) t v, Try.f11.params[j]? = some t → args[j]? = some v → Value.okWide Try.prog W .any base t v)
    (hW : DataW.Whole enc Try.prog Try.f11.params.toList Rows.trieHalvesSpec.vars false W args.toList ds gs before) (hsh : W.ShapedOpen Try.prog) :
    Calls Try.prog 11 args W fun e W' => ∃ v, e = .returned v ∧ Rows.trieHalvesSpec.post enc Try.prog Try.f11 false true false false W args v W' := by
  have hW' := hW
  obtain ⟨p, q, hA0, hV, rfl, hfz, hnd⟩ := hW
  have hA : DataW.TrodAll enc Try.prog W 0 (fun _ => true) true Try.f11.params.toList args.toList ds p := hA0
  rw [Try.params11] at hA hval
  obtain ⟨v0, vs0, d0, ds0, p0, q0, hargs, rfl, rfl, h0, r0⟩ := trodAll_cons hA
  obtain ⟨v1, vs1, d1, ds1, p1, q1, rfl, rfl, rfl, h1, r1⟩ := trodAll_cons r0
  obtain ⟨rfl, rfl, rfl⟩ := trodAll_nil r1
  obtain rfl : args = #[v0, v1] := by cases args; simp_all
  obtain ⟨rfl, rfl⟩ := trodVars_none hV
  obtain ⟨a0, rfl, rfl, rfl, w0⟩ := open_int Try.underlying30 (hval 0 30 v0 rfl rfl) h0
  obtain ⟨a1, rfl, rfl, rfl, w1⟩ := open_int Try.underlying30 (hval 1 30 v1 rfl rfl) h1
  clear hA0
  refine (walk a0 a1 W w0 w1 hsh).mono fun e W' ⟨he, bel⟩ => ?_
  subst he
  exact ⟨_, rfl, _, _, _, [], _, [], hW', trodAll_mk1 (shut_bool Try.underlying4 _), (trodAll_cons_mk (shut_int Try.underlying30 w0) (trodAll_cons_mk (shut_int Try.underlying30 w1) trodAll_mk0)), rfl, bel.frame _, fun h => by cases h⟩

theorem laid_met (os : Os) : laidMet Try.prog Rows.trieHalvesRow.laid ((World.doorLaid Try.prog 24 os).forCall (fun _ _ => 0) ⟨#[], #[.int .u32 0, .int .u32 0], []⟩).memory :=
  laidMet_of_run' 8 (by kernel_rfl) (by kernel_rfl)
theorem reads (os : Os) {H : Type} (enc : TypeId × Value → H) : ∃ places, DataW.whole enc Try.prog ((World.doorLaid Try.prog 24 os).forCall (fun _ _ => 0) ⟨#[], #[.int .u32 0, .int .u32 0], []⟩).memory Try.f11.params.toList Rows.trieHalvesSpec.vars false (#[.int .u32 0, .int .u32 0] : Array Value).toList 8 = some ([.lit (.int .u32 0), .lit (.int .u32 0)], [], places) :=
  ⟨[], by kernel_rfl⟩

set_option maxRecDepth 100000 in
theorem lifted (os : Os) (started : os.Started) (H : Type) (enc : TypeId × Value → H) (F : Stop.Interp) :
    ReturnsInHanded {} Try.checked os 11 .any ((OpenSpec.ofChange Rows.trieHalvesSpec).preRow enc Try.prog Try.f11 Rows.trieHalvesRow.domain false Rows.trieHalvesRow.laid) (((OpenSpec.ofChange Rows.trieHalvesSpec).at F).post enc Try.prog Try.f11 false true false false) := by
  obtain ⟨places, hx⟩ := reads os enc
  refine returnsInHanded_of_row (C := Try.checked) (s := (OpenSpec.ofChange Rows.trieHalvesSpec)) own started (by kernel_rfl) Try.func11
    (witness_row_at (enc := enc) (C := Try.checked) false (World.doorLaid Try.prog 24 os) #[.int .u32 0, .int .u32 0] rfl (by kernel_rfl) (by kernel_rfl) (by kernel_rfl)
      (OpenSpec.preRow_of_cond 8 hx (by kernel_rfl) (fun k hk => by cases hk) (by kernel_rfl) (laid_met os))) ?_
  intro W base args ds gs before hval hW _ hcond _ hL hsh _
  exact contract H enc W base args ds gs before hval hW hsh

theorem said : Rows.TrieHalvesSaid :=
  OpenClaim.holds_of_cond 11 Try.f11 rfl rfl rfl rfl rfl rfl rfl ⟨rfl, rfl, rfl, rfl, rfl⟩ rfl rfl rfl rfl rfl (by kernel_rfl) Try.func11 (by kernel_rfl)
    (of_decide_eq_true (by kernel_rfl)) (by unfold Func.isWrapper; first | (rw [if_pos (by decide +kernel)]; kernel_rfl) | (rw [if_neg (by decide +kernel)]; exact ⟨rfl, rfl⟩))
    (fun os started H enc _ F => by rw [OpenClaim.pre_eq_preRow]; exact lifted os started H enc F)

end Go.Proofs.Ytgcnnblngmomhaa.trieHalves

namespace Go.Proofs.Ytgcnnblngmomhaa
theorem trieHalves_holds : Rows.TrieHalvesSaid := trieHalves.said
#print axioms trieHalves_holds
end Go.Proofs.Ytgcnnblngmomhaa
