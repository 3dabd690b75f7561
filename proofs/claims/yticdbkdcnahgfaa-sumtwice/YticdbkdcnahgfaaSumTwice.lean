/- For every three numbers of 16 bits, the law SumTwice returns true: a change of a checksum that is taken back leaves it, but for 0 and 65535; no condition. -/
import Derived.Test.YticdbkdcnahgfaaRows
import Derived.Test.YticdbkdcnahgfaaSum
import Derived.WalkKit
import Derived.ProofKit
import Derived.OpenShut
import Derived.ShutString
namespace Go.Proofs.Yticdbkdcnahgfaa.sumTwice
open Go.ChangeShapes Go.WideShapes Go.ChangeAt Go.RowKit
open Go.ChangeMaps (open_string shut_string)
set_option linter.unusedVariables false      -- a walk need not use every 'w<i>' (that an integer argument fits its kind)

theorem own : ownKnob Try.prog.godebug = none := by kernel_rfl

theorem twice (s was now : Int) (h0 : 0 ≤ s) (h1 : s ≤ 65535) (w0 : 0 ≤ was) (w1 : was ≤ 65535) (n0 : 0 ≤ now) (n1 : now ≤ 65535) :
    updV (updV s was now) now was = if s = 65535 then 0 else s := by
  have hu := updV_bd s was now
  have e1 : updV (updV s was now) now was = 65535 - foldV (65535 - updV s was now + (65535 - now + was)) := by
    show 65535 - foldV _ = _
    congr 2
    omega
  have e2 : 65535 - updV s was now = foldV (65535 - s + (65535 - was) + now) := by
    have e : updV s was now = 65535 - foldV (65535 - s % 65536 + (65535 - was % 65536) + now % 65536) := rfl
    rw [e, show s % 65536 = s by omega, show was % 65536 = was by omega, show now % 65536 = now by omega]; omega
  rw [e1, e2, foldV_add (by omega) (by omega)]
  unfold foldV
  split <;> split <;> omega

set_option maxHeartbeats 4000000 in
theorem walk (a0 : Int) (a1 : Int) (a2 : Int) (w0 : (Lit.int .u16 a0).wf = true) (w1 : (Lit.int .u16 a1).wf = true) (w2 : (Lit.int .u16 a2).wf = true) (w : World) :
    Calls Try.prog 8 #[.int .u16 a0, .int .u16 a1, .int .u16 a2] w fun e w' => e = .returned (.bool true) ∧ Below w.heap.size w w' := by
  have hb0 := bounds_u16 w0
  have hb1 := bounds_u16 w1
  have hb2 := bounds_u16 w2
  have ht := twice a0 a1 a2 (by omega) (by omega) (by omega) (by omega) (by omega) (by omega)
  have hu := updV_bd a0 a1 a2
  clear w0 w1 w2
  by_cases hs : a0 = 65535
  · subst hs
    rw [if_pos rfl] at ht
    obtain ⟨u, hue⟩ : ∃ u, u = updV 65535 a1 a2 := ⟨_, rfl⟩
    have c1 := fun w => update_any 65535 a1 a2 w
    have c2 := fun w => update_any u a2 a1 w
    rw [← hue] at ht hu c1
    rw [ht] at c2
    clear ht hue
    have tok1 : Hid True := trivial
    go_enter Try.func8, Try.ntmps8
    go_wp2_with (first
      | (go_at_call 14; clear tok1; refine (c1 _).mono ?_; rintro e w' ⟨rfl, rfl⟩)
      | (go_at_call 14; refine (c2 _).mono ?_; rintro e w' ⟨rfl, rfl⟩)
      | (go_at_call 18; refine (sumKnown_any _).mono ?_; rintro e w5 ⟨rfl, hx5⟩))
    go_ret
    exact ⟨rfl, hx5⟩
  · rw [if_neg hs] at ht
    obtain ⟨u, hue⟩ : ∃ u, u = updV a0 a1 a2 := ⟨_, rfl⟩
    have c1 := fun w => update_any a0 a1 a2 w
    have c2 := fun w => update_any u a2 a1 w
    rw [← hue] at ht hu c1
    rw [ht] at c2
    clear ht hue
    have tok1 : Hid True := trivial
    go_enter Try.func8, Try.ntmps8
    go_wp2_with (first
      | (go_at_call 14; clear tok1; refine (c1 _).mono ?_; rintro e w' ⟨rfl, rfl⟩)
      | (go_at_call 14; refine (c2 _).mono ?_; rintro e w' ⟨rfl, rfl⟩)
      | (go_at_call 18; refine (sumKnown_any _).mono ?_; rintro e w5 ⟨rfl, hx5⟩))
    go_ret
    exact ⟨rfl, hx5⟩
  -- go_enter Try.func8, Try.ntmps8
  -- go_wp2
  -- go_ret
  -- exact ⟨rfl, by repeat (first | exact Grown.refl _ | apply Grown.drew | apply Grown.alloc)⟩

set_option maxRecDepth 100000 in
theorem lifted (os : Os) (started : os.Started) (H : Type) (enc : TypeId × Value → H) :
    ReturnsInHanded {} Try.checked os 8 .any (Rows.sumTwiceSpec.pre6 enc Try.prog Try.f8 Rows.sumTwiceRow.domain false) (Rows.sumTwiceSpec.post enc Try.prog Try.f8 false true false false) := by
  refine returnsInHanded_of_change (C := Try.checked) own started (by kernel_rfl) Try.func8
    (ChangeSpec.witness6 (enc := enc) (C := Try.checked) false ⟨#[], #[.int .u16 0, .int .u16 0, .int .u16 0], []⟩ 8 (by kernel_rfl) (by kernel_rfl) (by kernel_rfl) (by kernel_rfl)) ?_
  intro W base args ds gs before hval0 hW hcnd _
  have hval : ∀ (j : Nat) t v, Try.f8.params[j]? = some t → args[j]? = some v → Value.okWide Try.prog W .any base t v := hval0
  have hW' := hW
  obtain ⟨p, q, hA0, hV, rfl, hfz, hnd⟩ := hW
  have hA : DataW.TrodAll enc Try.prog W 0 (fun _ => true) true Try.f8.params.toList args.toList ds p := hA0
  rw [Try.params8] at hA hval
  obtain ⟨v0, vs0, d0, ds0, p0, q0, hargs, rfl, rfl, h0, r0⟩ := trodAll_cons hA
  obtain ⟨v1, vs1, d1, ds1, p1, q1, rfl, rfl, rfl, h1, r1⟩ := trodAll_cons r0
  obtain ⟨v2, vs2, d2, ds2, p2, q2, rfl, rfl, rfl, h2, r2⟩ := trodAll_cons r1
  obtain ⟨rfl, rfl, rfl⟩ := trodAll_nil r2
  obtain rfl : args = #[v0, v1, v2] := by cases args; simp_all
  obtain ⟨rfl, rfl⟩ := trodVars_none hV
  obtain ⟨a0, rfl, rfl, rfl, w0⟩ := open_int Try.underlying35 (hval 0 35 v0 rfl rfl) h0
  obtain ⟨a1, rfl, rfl, rfl, w1⟩ := open_int Try.underlying35 (hval 1 35 v1 rfl rfl) h1
  obtain ⟨a2, rfl, rfl, rfl, w2⟩ := open_int Try.underlying35 (hval 2 35 v2 rfl rfl) h2
  clear hA0 hval0
  refine (walk a0 a1 a2 w0 w1 w2 W).mono fun e W' ⟨he, hg⟩ => ?_
  subst he
  exact ⟨_, rfl, _, _, _, [], _, [], hW', (trodAll_cons_mk (shut_bool Try.underlying4 _) trodAll_mk0), (trodAll_cons_mk (shut_int Try.underlying35 w0) (trodAll_cons_mk (shut_int Try.underlying35 w1) (trodAll_cons_mk (shut_int Try.underlying35 w2) trodAll_mk0))), rfl, hg.frame _, fun h => by cases h⟩

theorem over : Rows.sumTwiceRow.holds Try.pinned (OpenSpec.ofChange Rows.sumTwiceSpec) :=
  OpenClaim.holds_of_wide 8 Try.f8 rfl rfl rfl rfl rfl rfl rfl ⟨rfl, rfl, rfl, rfl, rfl⟩ rfl rfl rfl rfl rfl (by kernel_rfl) Try.func8 (by kernel_rfl)
    (of_decide_eq_true (by kernel_rfl)) (by unfold Func.isWrapper; first | (rw [if_pos (by decide +kernel)]; kernel_rfl) | (rw [if_neg (by decide +kernel)]; exact ⟨rfl, rfl⟩))
    (fun os started H enc _ => lifted os started H enc)

theorem proved : Rows.SumTwiceSaid :=
  over
end Go.Proofs.Yticdbkdcnahgfaa.sumTwice

namespace Go.Proofs.Yticdbkdcnahgfaa
theorem sumTwice_holds : Rows.SumTwiceSaid := sumTwice.proved
#print axioms sumTwice_holds
end Go.Proofs.Yticdbkdcnahgfaa
