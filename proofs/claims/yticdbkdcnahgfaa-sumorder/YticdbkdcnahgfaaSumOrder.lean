/- For every two slices of bytes, the law SumOrder returns true: words may stand in any order, bytes in parts are bytes as they stand; no condition. -/
import Derived.Test.YticdbkdcnahgfaaRows
import Derived.Test.YticdbkdcnahgfaaSum
import Derived.Test.YticdbkdcnahgfaaOwn
import Derived.WalkKit
import Derived.ProofKit
import Derived.OpenShut
import Derived.ShutString
import Derived.ChangeOld
import Derived.Below
namespace Go.Proofs.Yticdbkdcnahgfaa.sumOrder
open Go.ChangeShapes Go.WideShapes Go.ChangeAt Go.RowKit
open Go.ChangeMaps (open_string shut_string)
set_option linter.unusedVariables false

theorem own : ownKnob Try.prog.godebug = none := by kernel_rfl
theorem laidOut : laidOutB Try.prog = true := by kernel_rfl

theorem order (xs ys : List Int) (h1 : xs.length % 2 = 0) (h2 : ys.length % 2 = 0) : ofV (ys ++ xs) = ofV (xs ++ ys) := by
  unfold ofV
  rw [sumB_append, sumB_append, par_even _ h1, par_even _ h2, Int.add_comm]

set_option maxHeartbeats 4000000 in
theorem walk (a0 : Option Addr) (len0 cap0 : Nat) (z0 : List Int) (a1 : Option Addr) (len1 cap1 : Nat) (z1 : List Int) (w : World) (w0 : IsRow .u8 w a0 len0 cap0 z0) (w1 : IsRow .u8 w a1 len1 cap1 z1) :
    Calls Try.prog 6 #[.slice a0 len0 cap0, .slice a1 len1 cap1] w fun e w' => e = .returned (.bool true) ∧ Below w.heap.size w w' := by
  have hA := w0.bytes
  have hB := w1.bytes
  have za := w0.nil_cap
  have zb := w1.nil_cap
  have la := hA.small
  have lb := hB.small
  by_cases g1 : 1000 < (len0 : Int)
  · go_enter Try.func6, Try.ntmps6
    go_wp2
    go_ret
    exact ⟨rfl, Below.refl _ _⟩
  by_cases g2 : 1000 < (len1 : Int)
  · go_enter Try.func6, Try.ntmps6
    go_wp2
    go_ret
    exact ⟨rfl, Below.refl _ _⟩
  by_cases g3 : (len0 : Int) % 2 = 1
  · go_enter Try.func6, Try.ntmps6
    go_wp2
    go_ret
    exact ⟨rfl, Below.refl _ _⟩
  by_cases g4 : (len1 : Int) % 2 = 1
  · go_enter Try.func6, Try.ntmps6
    go_wp2
    go_ret
    exact ⟨rfl, Below.refl _ _⟩
  replace g3 : (len0 : Int) % 2 = 0 := by omega
  replace g4 : (len1 : Int) % 2 = 0 := by omega
  generalize z0.take len0 = xs at hA
  generalize z1.take len1 = ys at hB
  have ho := order xs ys (by rw [hA.length]; omega) (by rw [hB.length]; omega)
  have hok := bytesOk_append hA.ok hB.ok
  obtain ⟨s, hs⟩ : ∃ s, s = ofV (xs ++ ys) := ⟨_, rfl⟩
  obtain ⟨i0, hi, hz0, hz1, hz2⟩ := info_parts Try.infoByte
  have c1 := fun w hA hB => of2_any a0 len0 cap0 a1 len1 cap1 xs ys w hA hB za zb (by omega)
  have c2 := fun w hA hB => of2_any a1 len1 cap1 a0 len0 cap0 ys xs w hB hA zb za (by omega)
  have c4 := fun w p c hp hz => of1_any p (len0 + len1) c (xs ++ ys) w hp hz (by omega)
  rw [ho] at c2
  rw [← hs] at c1 c2 c4
  clear ho hs w0 w1
  have tok1 : Hid True := trivial
  have tok2 : Hid True := trivial
  have tok3 : Hid True := trivial
  have tok4 : Hid True := trivial
  have tok5 : Hid True := trivial
  go_enter Try.func6, Try.ntmps6
  go_wp2_with (first
    | (go_at_call 10; clear tok1; refine (c1 w hA hB).mono ?_; rintro e w1 ⟨rfl, hx1⟩)
    | (go_at_call 10; clear tok2; refine (c2 w1 (hA.below hx1) (hB.below hx1)).mono ?_; rintro e w2 ⟨rfl, hx2⟩)
    | (go_at_call 10; clear tok3; refine (c1 w2 (hA.below (hx1.trans hx2)) (hB.below (hx1.trans hx2))).mono ?_; rintro e w3 ⟨rfl, hx3⟩)
    | (at_builtin; clear tok4; refine append_bytes (by rfl) (.tmp 39) (.tmp 40) 24 rfl w3.heap.size 5 i0 (.int .u8 0) Try.underlying24 hi hz0 hz1 hz2 rfl _ _ _ rfl (own_empty w3) a0 len0 cap0 xs rfl (hA.below (((hx1.trans hx2).trans hx3).alloc _)) za (by omega) (by simp) ?_; intro v4 w4 ho4 hg4; have hx4 := grown_ext ((Ext.refl w3).alloc _) (own_empty w3) hg4; clear hg4)
    | (at_builtin; clear tok5; refine append_bytes (by rfl) (.tmp 41) (.tmp 42) 24 rfl w3.heap.size 5 i0 (.int .u8 0) Try.underlying24 hi hz0 hz1 hz2 rfl _ _ _ rfl ho4 a1 len1 cap1 ys rfl (hB.below (((hx1.trans hx2).trans hx3).trans hx4)) zb (by omega) hx4.size ?_; intro v5 w5 ho5 hg5; have hx5 := grown_ext hx4 ho4 hg5; clear hg5; simp only [List.nil_append, Nat.zero_add] at ho5; obtain ⟨p5, cc5, rfl, hp5, hz5⟩ := owns_bytes ho5 hok)
    | (go_at_call 10; refine (c4 w5 p5 cc5 hp5 hz5).mono ?_; rintro e w6 ⟨rfl, hx6⟩)
    | (go_at_call 18; refine (sumKnown_any _).mono ?_; rintro e w7 ⟨rfl, hx7⟩))
  go_ret
  exact ⟨rfl, ((((hx1.trans hx2).trans hx3).trans hx5).trans hx6).trans hx7⟩

set_option maxRecDepth 100000 in
theorem lifted (os : Os) (started : os.Started) (H : Type) (enc : TypeId × Value → H) :
    ReturnsInHanded {} Try.checked os 6 .any (Rows.sumOrderSpec.pre6 enc Try.prog Try.f6 Rows.sumOrderRow.domain false) (Rows.sumOrderSpec.post enc Try.prog Try.f6 false true false false) := by
  refine returnsInHanded_of_change (C := Try.checked) own started (by kernel_rfl) Try.func6
    (ChangeSpec.witness6 (enc := enc) (C := Try.checked) false ⟨#[], #[.slice none 0 0, .slice none 0 0], []⟩ 8 (by kernel_rfl) (by kernel_rfl) (by kernel_rfl) (by kernel_rfl)) ?_
  intro W base args ds gs before hval0 hW hcnd _
  have hval : ∀ (j : Nat) t v, Try.f6.params[j]? = some t → args[j]? = some v → Value.okWide Try.prog W .any base t v := hval0
  have hW' := hW
  obtain ⟨p, q, hA0, hV, rfl, hfz, hnd⟩ := hW
  have hA : DataW.TrodAll enc Try.prog W 0 (fun _ => true) true Try.f6.params.toList args.toList ds p := hA0
  rw [Try.params6] at hA hval
  obtain ⟨v0, vs0, d0, ds0, p0, q0, hargs, rfl, rfl, h0, r0⟩ := trodAll_cons hA
  obtain ⟨v1, vs1, d1, ds1, p1, q1, rfl, rfl, rfl, h1, r1⟩ := trodAll_cons r0
  obtain ⟨rfl, rfl, rfl⟩ := trodAll_nil r1
  obtain rfl : args = #[v0, v1] := by cases args; simp_all
  obtain ⟨rfl, rfl⟩ := trodVars_none hV
  obtain ⟨a0, len0, cap0, rfl⟩ := okWide_slice Try.underlying24 (hval 0 24 v0 rfl rfl)
  have k0 := h0
  have lt0 : ∀ x ∈ p0, x.block < W.heap.size := by obtain ⟨m, hm⟩ := k0; exact DataW.trod_lt m _ _ _ hm
  obtain ⟨z0, w0⟩ : ∃ zs, IsRow .u8 W a0 len0 cap0 zs := by
    obtain ⟨fuel, hf⟩ := h0
    rcases open_ints Try.underlying24 Try.underlying5 (by kernel_rfl) hf with ⟨hcs, _⟩ | ⟨x, l, c, zs, hcs, _, hl, hm, hz, _, hcell, hwz⟩
    · simp [Value.cells] at hcs
      obtain ⟨rfl, rfl, rfl⟩ := hcs
      exact ⟨[], .inl ⟨rfl, rfl, rfl, rfl⟩⟩
    · simp [Value.cells] at hcs
      obtain ⟨rfl, rfl, rfl⟩ := hcs
      exact ⟨zs, .inr ⟨_, rfl, hl, hm, by simpa using hz, hcell, hwz⟩⟩
  obtain ⟨a1, len1, cap1, rfl⟩ := okWide_slice Try.underlying24 (hval 1 24 v1 rfl rfl)
  have k1 := h1
  have lt1 : ∀ x ∈ p1, x.block < W.heap.size := by obtain ⟨m, hm⟩ := k1; exact DataW.trod_lt m _ _ _ hm
  obtain ⟨z1, w1⟩ : ∃ zs, IsRow .u8 W a1 len1 cap1 zs := by
    obtain ⟨fuel, hf⟩ := h1
    rcases open_ints Try.underlying24 Try.underlying5 (by kernel_rfl) hf with ⟨hcs, _⟩ | ⟨x, l, c, zs, hcs, _, hl, hm, hz, _, hcell, hwz⟩
    · simp [Value.cells] at hcs
      obtain ⟨rfl, rfl, rfl⟩ := hcs
      exact ⟨[], .inl ⟨rfl, rfl, rfl, rfl⟩⟩
    · simp [Value.cells] at hcs
      obtain ⟨rfl, rfl, rfl⟩ := hcs
      exact ⟨zs, .inr ⟨_, rfl, hl, hm, by simpa using hz, hcell, hwz⟩⟩
  clear hA0 hval0
  refine (walk a0 len0 cap0 z0 a1 len1 cap1 z1 W w0 w1).mono fun e W' ⟨he, bel⟩ => ?_
  subst he
  exact ⟨_, rfl, _, _, _, [], _, [], hW', trodAll_mk1 (shut_bool Try.underlying4 _), (trodAll_cons_mk (Below.trod laidOut (by kernel_rfl) (of_decide_eq_true (by kernel_rfl)) k0 bel lt0) (trodAll_cons_mk (Below.trod laidOut (by kernel_rfl) (of_decide_eq_true (by kernel_rfl)) k1 bel lt1) trodAll_mk0)), rfl, bel.frame _, fun h => by cases h⟩

theorem over : Rows.sumOrderRow.holds Try.pinned (OpenSpec.ofChange Rows.sumOrderSpec) :=
  OpenClaim.holds_of_wide 6 Try.f6 rfl rfl rfl rfl rfl rfl rfl ⟨rfl, rfl, rfl, rfl, rfl⟩ rfl rfl rfl rfl rfl (by kernel_rfl) Try.func6 (by kernel_rfl)
    (of_decide_eq_true (by kernel_rfl)) (by unfold Func.isWrapper; first | (rw [if_pos (by decide +kernel)]; kernel_rfl) | (rw [if_neg (by decide +kernel)]; exact ⟨rfl, rfl⟩))
    (fun os started H enc _ => lifted os started H enc)

theorem proved : Rows.SumOrderSaid := over
end Go.Proofs.Yticdbkdcnahgfaa.sumOrder

namespace Go.Proofs.Yticdbkdcnahgfaa
theorem sumOrder_holds : Rows.SumOrderSaid := sumOrder.proved
#print axioms sumOrder_holds
end Go.Proofs.Yticdbkdcnahgfaa
