/- For every slice of bytes and every two numbers, the law WordBack returns true: numbers in bytes are read as they were, wherever they stand; no condition. -/
import Derived.Test.YtihhcnfekbjbhaaRows
import Derived.Test.YtihhcnfekbjbhaaWordJ
import Derived.Test.YtihhcnfekbjbhaaRef1
import Derived.Test.YtihhcnfekbjbhaaGrow
import Derived.WalkKit
import Derived.ProofKit
import Derived.OpenShut
import Derived.ShutString
import Derived.ChangeOld
import Derived.Below
namespace Go.Proofs.Ytihhcnfekbjbhaa.wordBack
open Go.ChangeShapes Go.WideShapes Go.ChangeAt Go.RowKit
open Go.ChangeMaps (open_string shut_string)
set_option linter.unusedVariables false

theorem own : ownKnob Try.prog.godebug = none := by kernel_rfl
theorem laidOut : laidOutB Try.prog = true := by kernel_rfl

set_option maxHeartbeats 4000000 in
theorem walk (a0 : Option Addr) (len0 cap0 : Nat) (z0 : List Int) (a1 : Int) (a2 : Int) (w : World) (w0 : IsRow .u8 w a0 len0 cap0 z0) (w1 : (Lit.int .u16 a1).wf = true) (w2 : (Lit.int .u32 a2).wf = true) :
    Calls Try.prog 4 #[.slice a0 len0 cap0, .int .u16 a1, .int .u32 a2] w fun e w' => e = .returned (.bool true) ∧ Below w.heap.size w w' := by
  have hB := w0.bytes
  have hz := w0.nil_cap
  have hl := hB.small
  have hb1 := bounds_u16 w1
  have hb2 := bounds_u32 w2
  by_cases g1 : 2000 < (len0 : Int)
  · go_enter Try.func4, Try.ntmps4
    go_wp2
    go_ret
    exact ⟨rfl, Below.refl _ _⟩
  generalize z0.take len0 = xs at hB
  have hlen := hB.length
  have e16 : get16V (xs ++ ([a1 / 256 % 256, a1 % 256] ++ [a2 / 16777216, a2 / 65536 % 256, a2 / 256 % 256, a2 % 256])) len0 = a1 := by
    unfold get16V
    rw [byteV_append xs _ 0 _ (by omega), byteV_append xs _ 1 _ (by omega)]
    unfold byteV; simp; omega
  have e32 : accV (xs ++ ([a1 / 256 % 256, a1 % 256] ++ [a2 / 16777216, a2 / 65536 % 256, a2 / 256 % 256, a2 % 256])) (len0 + 2) 4 = a2 := by
    rw [accV_four, byteV_append xs _ 2 _ (by omega), byteV_append xs _ 3 _ (by omega), byteV_append xs _ 4 _ (by omega), byteV_append xs _ 5 _ (by omega)]
    unfold byteV; simp; omega
  clear w0 w1 w2 hlen
  go_enter Try.func4, Try.ntmps4
  go_wp2_with (first
    | (go_at_call 12; refine (put16_new _ _ (by omega) (by omega)).mono ?_; rintro e w1 ⟨p1, rfl, hp1, hx1⟩; have hz1 : p1 = none → 2 = 0 := by rintro rfl; rcases hp1.cells with h | ⟨_, _, h, _⟩ <;> cases h)
    | (go_at_call 14; refine (put32_new _ _ (by omega) (by omega)).mono ?_; rintro e w2 ⟨p2, rfl, hp2, hx2⟩; have hz2 : p2 = none → 4 = 0 := by rintro rfl; rcases hp2.cells with h | ⟨_, _, h, _⟩ <;> cases h)
    | (go_at_call 17; refine (join3_any _ _ _ _ _ _ _ _ _ _ _ _ _ (hB.below (hx1.trans hx2)) (hp1.below hx2) hp2 hz hz1 hz2 (by omega)).mono ?_; rintro e w3 ⟨p3, c3, rfl, hp3, hz3, hx3⟩; clear hp1 hp2 hz hz1 hz2 hz3)
    | (go_at_call 8; refine (get16_any _ _ _ _ _ _ hp3 (by omega) (by omega)).mono ?_; rintro e w' ⟨rfl, rfl⟩)
    | (go_at_call 10; refine (get32_any _ _ _ _ _ _ hp3 (by omega) (by omega)).mono ?_; rintro e w' ⟨rfl, rfl⟩)
    | (go_at_call 16; refine (known_ext _).mono ?_; rintro e w5 ⟨rfl, hx5⟩))
  go_ret
  exact ⟨rfl, (((hx1.trans hx2).trans hx3).trans hx5)⟩

set_option maxRecDepth 100000 in
theorem lifted (os : Os) (started : os.Started) (H : Type) (enc : TypeId × Value → H) :
    ReturnsInHanded {} Try.checked os 4 .any (Rows.wordBackSpec.pre6 enc Try.prog Try.f4 Rows.wordBackRow.domain false) (Rows.wordBackSpec.post enc Try.prog Try.f4 false true false false) := by
  refine returnsInHanded_of_change (C := Try.checked) own started (by kernel_rfl) Try.func4
    (ChangeSpec.witness6 (enc := enc) (C := Try.checked) false ⟨#[], #[.slice none 0 0, .int .u16 0, .int .u32 0], []⟩ 8 (by kernel_rfl) (by kernel_rfl) (by kernel_rfl) (by kernel_rfl)) ?_
  intro W base args ds gs before hval0 hW hcnd _
  have hval : ∀ (j : Nat) t v, Try.f4.params[j]? = some t → args[j]? = some v → Value.okWide Try.prog W .any base t v := hval0
  have hW' := hW
  obtain ⟨p, q, hA0, hV, rfl, hfz, hnd⟩ := hW
  have hA : DataW.TrodAll enc Try.prog W 0 (fun _ => true) true Try.f4.params.toList args.toList ds p := hA0
  rw [Try.params4] at hA hval
  obtain ⟨v0, vs0, d0, ds0, p0, q0, hargs, rfl, rfl, h0, r0⟩ := trodAll_cons hA
  obtain ⟨v1, vs1, d1, ds1, p1, q1, rfl, rfl, rfl, h1, r1⟩ := trodAll_cons r0
  obtain ⟨v2, vs2, d2, ds2, p2, q2, rfl, rfl, rfl, h2, r2⟩ := trodAll_cons r1
  obtain ⟨rfl, rfl, rfl⟩ := trodAll_nil r2
  obtain rfl : args = #[v0, v1, v2] := by cases args; simp_all
  obtain ⟨rfl, rfl⟩ := trodVars_none hV
  obtain ⟨a0, len0, cap0, rfl⟩ := okWide_slice Try.underlying22 (hval 0 22 v0 rfl rfl)
  have k0 := h0
  have lt0 : ∀ x ∈ p0, x.block < W.heap.size := by obtain ⟨m, hm⟩ := k0; exact DataW.trod_lt m _ _ _ hm
  obtain ⟨z0, w0⟩ : ∃ zs, IsRow .u8 W a0 len0 cap0 zs := by
    obtain ⟨fuel, hf⟩ := h0
    rcases open_ints Try.underlying22 Try.underlying5 (by kernel_rfl) hf with ⟨hcs, _⟩ | ⟨x, l, c, zs, hcs, _, hl, hm, hz, _, hcell, hwz⟩
    · simp [Value.cells] at hcs
      obtain ⟨rfl, rfl, rfl⟩ := hcs
      exact ⟨[], .inl ⟨rfl, rfl, rfl, rfl⟩⟩
    · simp [Value.cells] at hcs
      obtain ⟨rfl, rfl, rfl⟩ := hcs
      exact ⟨zs, .inr ⟨_, rfl, hl, hm, by simpa using hz, hcell, hwz⟩⟩
  obtain ⟨a1, rfl, rfl, rfl, w1⟩ := open_int Try.underlying30 (hval 1 30 v1 rfl rfl) h1
  obtain ⟨a2, rfl, rfl, rfl, w2⟩ := open_int Try.underlying23 (hval 2 23 v2 rfl rfl) h2
  clear hA0 hval0
  refine (walk a0 len0 cap0 z0 a1 a2 W w0 w1 w2).mono fun e W' ⟨he, bel⟩ => ?_
  subst he
  exact ⟨_, rfl, _, _, _, [], _, [], hW', trodAll_mk1 (shut_bool Try.underlying4 _), (trodAll_cons_mk (Below.trod laidOut (by kernel_rfl) (of_decide_eq_true (by kernel_rfl)) k0 bel lt0) (trodAll_cons_mk (shut_int Try.underlying30 w1) (trodAll_cons_mk (shut_int Try.underlying23 w2) trodAll_mk0))), rfl, bel.frame _, fun h => by cases h⟩

theorem over : Rows.wordBackRow.holds Try.pinned (OpenSpec.ofChange Rows.wordBackSpec) :=
  OpenClaim.holds_of_wide 4 Try.f4 rfl rfl rfl rfl rfl rfl rfl ⟨rfl, rfl, rfl, rfl, rfl⟩ rfl rfl rfl rfl rfl (by kernel_rfl) Try.func4 (by kernel_rfl)
    (of_decide_eq_true (by kernel_rfl)) (by unfold Func.isWrapper; first | (rw [if_pos (by decide +kernel)]; kernel_rfl) | (rw [if_neg (by decide +kernel)]; exact ⟨rfl, rfl⟩))
    (fun os started H enc _ => lifted os started H enc)

theorem proved : Rows.WordBackSaid := over
end Go.Proofs.Ytihhcnfekbjbhaa.wordBack

namespace Go.Proofs.Ytihhcnfekbjbhaa
theorem wordBack_holds : Rows.WordBackSaid := wordBack.proved
#print axioms wordBack_holds
end Go.Proofs.Ytihhcnfekbjbhaa
