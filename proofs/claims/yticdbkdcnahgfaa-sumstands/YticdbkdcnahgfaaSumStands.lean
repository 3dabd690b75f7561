/- For every slice of bytes, places and byte, the law SumStands returns true: a checksum that stands in its own bytes, made with noughts there, is right, and with a byte turned it is right just where the document says so; no condition. -/
import Derived.Test.YticdbkdcnahgfaaRows
import Derived.Test.YticdbkdcnahgfaaRef2
import Derived.WalkKit
import Derived.ProofKit
import Derived.OpenShut
import Derived.ShutString
import Derived.ChangeOld
import Derived.Below
namespace Go.Proofs.Yticdbkdcnahgfaa.sumStands
open Go.ChangeShapes Go.WideShapes Go.ChangeAt Go.RowKit
open Go.ChangeMaps (open_string shut_string)
set_option linter.unusedVariables false

theorem own : ownKnob Try.prog.godebug = none := by kernel_rfl
theorem laidOut : laidOutB Try.prog = true := by kernel_rfl

set_option maxHeartbeats 4000000 in
theorem walk (a0 : Option Addr) (len0 cap0 : Nat) (z0 : List Int) (a1 : Int) (a2 : Int) (a3 : Int) (w : World) (w0 : IsRow .u8 w a0 len0 cap0 z0) (w1 : (Lit.int .i64 a1).wf = true) (w2 : (Lit.int .i64 a2).wf = true) (w3 : (Lit.int .u8 a3).wf = true) :
    Calls Try.prog 4 #[.slice a0 len0 cap0, .int .i64 a1, .int .i64 a2, .int .u8 a3] w fun e w' => e = .returned (.bool true) ∧ Below w.heap.size w w' := by
  have hA := w0.bytes
  have za := w0.nil_cap
  have la := hA.small
  have hb1 := bounds_i64 w1
  have hb2 := bounds_i64 w2
  have hb3 := bounds_u8 w3
  by_cases g1 : (len0 : Int) < 4
  · go_enter Try.func4, Try.ntmps4
    go_wp2
    go_ret
    exact ⟨rfl, Below.refl _ _⟩
  by_cases g2 : 1500 < (len0 : Int)
  · go_enter Try.func4, Try.ntmps4
    go_wp2
    go_ret
    exact ⟨rfl, Below.refl _ _⟩
  by_cases g3 : a3 = 0
  · subst g3
    go_enter Try.func4, Try.ntmps4
    go_wp2
    go_ret
    exact ⟨rfl, Below.refl _ _⟩
  generalize z0.take len0 = xs at hA
  obtain ⟨i0, hi, hz0, hz1, hz2⟩ := info_parts Try.infoByte
  have ha1 := i64_and16 a1
  have ha2 := i64_and16 a2
  have hlen := hA.length
  obtain ⟨k, hk⟩ : ∃ k : Nat, 2 * (a1 % 65536 % ((len0 : Int) / 2)) = (k : Int) := ⟨(2 * (a1 % 65536 % ((len0 : Int) / 2))).toNat, by
    have := Int.emod_nonneg (a1 % 65536) (show (len0 : Int) / 2 ≠ 0 by omega); omega⟩
  have hk2 : k % 2 = 0 := by omega
  have hk3 : k + 1 < len0 := by
    have := Int.emod_lt_of_pos (a1 % 65536) (show 0 < (len0 : Int) / 2 by omega); omega
  obtain ⟨j, hj⟩ : ∃ j : Nat, a2 % 65536 % (len0 : Int) = (j : Int) := ⟨(a2 % 65536 % (len0 : Int)).toNat, by
    have := Int.emod_nonneg (a2 % 65536) (show (len0 : Int) ≠ 0 by omega); omega⟩
  have hj3 : j < len0 := by
    have := Int.emod_lt_of_pos (a2 % 65536) (show 0 < (len0 : Int) by omega); omega
  obtain ⟨ys, hys⟩ : ∃ ys, ys = (xs.set k 0).set (k + 1) 0 := ⟨_, rfl⟩
  have hyl : ys.length = len0 := by rw [hys]; simpa using hlen
  have hy0 : get16V ys (k : Int) = 0 := by rw [hys, get16_word xs k k 0 0 (by omega) hk2 hk2]; simp
  obtain ⟨s, hs⟩ : ∃ s, s = ofV ys := ⟨_, rfl⟩
  obtain ⟨zs, hzs⟩ : ∃ zs, zs = (ys.set k (s / 256)).set (k + 1) (s % 256) := ⟨_, rfl⟩
  have hzr : BytesOk ys → ofV zs = 0 := fun h => by rw [hzs, hs]; exact ofV_word h k (by omega) hk2 hy0
  have hsb : BytesOk ys → 0 ≤ s ∧ s ≤ 65535 := fun h => by rw [hs]; exact ofV_bd h
  have HY : Hid _ := hys
  have HS : Hid _ := hs
  have HZ : Hid _ := hzs
  have HR : Hid _ := hzr
  have HB : Hid _ := hsb
  have tok1 : Hid True := trivial
  have tok2 : Hid True := trivial
  have tok3 : Hid True := trivial
  clear w0 w1 w2 w3 hys hs hzs hzr hsb hy0 hyl
  go_enter Try.func4, Try.ntmps4
  go_wp2_with (first
    | (at_builtin; refine append_bytes (by rfl) (.tmp 24) (.tmp 25) 24 rfl w.heap.size 5 i0 (.int .u8 0) Try.underlying24 hi hz0 hz1 hz2 rfl _ _ _ rfl (own_empty w) a0 len0 cap0 xs rfl (hA.below ((Ext.refl _).alloc _)) za (by omega) (by simp) ?_; intro v4 w4 ho4 hg4; have hx4 := grown_ext ((Ext.refl w).alloc _) (own_empty w) hg4; clear hg4; simp only [List.nil_append, Nat.zero_add] at ho4; obtain ⟨g, c, rfl, hO⟩ := OwnB.of_owns ho4 (by omega) hA.ok; clear ho4; have hc1 := hO.cell (k := k) (by omega); have hf1 := hO.frozen k; have hc2 := hO.cell (k := k + 1) (by omega); have hf2 := hO.frozen (k + 1))
    | (go_at_call 10; clear tok1; clear hc1 hf1 hc2 hf2; have hO5 := (hO.set (k := k) (v := 0) (by omega) (by omega)).set (k := k + 1) (v := 0) (by omega) (by omega); rw [← HY.out] at hO5; have hx5 := Below.setCell (Below.setCell hx4 (p := ⟨g, k, none⟩) hO.base (.int .u8 0)) (p := ⟨g, k + 1, none⟩) hO.base (.int .u8 0); have hc := of1_at w4.heap.size _ len0 c ys _ (by rw [size_set, size_set]) hO5.bytes (by simp) (by omega); rw [← HS.out] at hc; refine hc.mono ?_; clear hc; rintro e w5 ⟨rfl, hx⟩; replace hx5 := Ext.trans hx5 hx; replace hO5 := hO5.later hx; clear hx hO hx4; have hsb := HB.out hO5.ok; have hc1 := hO5.cell (k := k) (by omega); have hf1 := hO5.frozen k; have hc2 := hO5.cell (k := k + 1) (by omega); have hf2 := hO5.frozen (k + 1))
    | (go_at_call 12; clear tok2; clear hc1 hf1 hc2 hf2; have hO6 := (hO5.set (k := k) (v := s / 256) (by omega) (by omega)).set (k := k + 1) (v := s % 256) (by omega) (by omega); rw [← HZ.out] at hO6; have hx6 := Below.setCell (Below.setCell hx5 (p := ⟨g, k, none⟩) hO5.base (.int .u8 (s / 256))) (p := ⟨g, k + 1, none⟩) hO5.base (.int .u8 (s % 256)); refine (right_true _ len0 c zs _ hO6.bytes (by simp) (by omega) (HR.out hO5.ok)).mono ?_; rintro e w6 ⟨rfl, hx⟩; replace hx6 := Ext.trans hx6 hx; replace hO6 := hO6.later hx; clear hx hO5 hx5; obtain ⟨q, hq⟩ : ∃ q, q = zs[j]?.getD 0 := ⟨_, rfl⟩; have hcj := hO6.cell (k := j) (by omega); have hqb := hO6.ok.get j; rw [← hq] at hcj hqb; have hfj := hO6.frozen j; obtain ⟨r, hr⟩ : ∃ r, bits .xor .u8 q a3 = r := ⟨_, rfl⟩; have hrb := u8_xor_bd q a3 hqb.1 hqb.2 hb3.1 hb3.2; rw [hr] at hrb; clear hq)
    | (go_at_call 12; clear tok3; clear hcj hfj; have hO7 := hO6.set (k := j) (v := r) hrb.1 hrb.2; have hx7 := Below.setCell hx6 (p := ⟨g, j, none⟩) hO6.base (.int .u8 r); have hc := right_any _ len0 c _ _ hO7.bytes (by simp) (by omega); obtain ⟨d, hd⟩ : ∃ d, d = decide (ofV (zs.set j r) = 0) := ⟨_, rfl⟩; rw [← hd] at hc; have HD : Hid _ := hd; clear hd; refine hc.mono ?_; clear hc; rintro e w7 ⟨rfl, hx⟩; replace hx7 := Ext.trans hx7 hx; replace hO7 := hO7.later hx; clear hx hO6 hx6)
    | (go_at_call 13; have hc := refRight_any _ len0 c _ _ hO7.bytes (by omega); rw [← HD.out] at hc; refine hc.mono ?_; clear hc; rintro e w' ⟨rfl, rfl⟩)
    | (go_at_call 18; refine (sumKnown_any _).mono ?_; rintro e w8 ⟨rfl, hx8⟩))
  go_ret
  exact ⟨rfl, Ext.trans hx7 hx8⟩

set_option maxRecDepth 100000 in
theorem lifted (os : Os) (started : os.Started) (H : Type) (enc : TypeId × Value → H) :
    ReturnsInHanded {} Try.checked os 4 .any (Rows.sumStandsSpec.pre6 enc Try.prog Try.f4 Rows.sumStandsRow.domain false) (Rows.sumStandsSpec.post enc Try.prog Try.f4 false true false false) := by
  refine returnsInHanded_of_change (C := Try.checked) own started (by kernel_rfl) Try.func4
    (ChangeSpec.witness6 (enc := enc) (C := Try.checked) false ⟨#[], #[.slice none 0 0, .int .i64 0, .int .i64 0, .int .u8 0], []⟩ 8 (by kernel_rfl) (by kernel_rfl) (by kernel_rfl) (by kernel_rfl)) ?_
  intro W base args ds gs before hval0 hW hcnd _
  have hval : ∀ (j : Nat) t v, Try.f4.params[j]? = some t → args[j]? = some v → Value.okWide Try.prog W .any base t v := hval0
  have hW' := hW
  obtain ⟨p, q, hA0, hV, rfl, hfz, hnd⟩ := hW
  have hA : DataW.TrodAll enc Try.prog W 0 (fun _ => true) true Try.f4.params.toList args.toList ds p := hA0
  rw [Try.params4] at hA hval
  obtain ⟨v0, vs0, d0, ds0, p0, q0, hargs, rfl, rfl, h0, r0⟩ := trodAll_cons hA
  obtain ⟨v1, vs1, d1, ds1, p1, q1, rfl, rfl, rfl, h1, r1⟩ := trodAll_cons r0
  obtain ⟨v2, vs2, d2, ds2, p2, q2, rfl, rfl, rfl, h2, r2⟩ := trodAll_cons r1
  obtain ⟨v3, vs3, d3, ds3, p3, q3, rfl, rfl, rfl, h3, r3⟩ := trodAll_cons r2
  obtain ⟨rfl, rfl, rfl⟩ := trodAll_nil r3
  obtain rfl : args = #[v0, v1, v2, v3] := by cases args; simp_all
  obtain ⟨rfl, rfl⟩ := trodVars_none hV
  obtain ⟨a0, len0, cap0, rfl⟩ := okWide_slice Try.underlying24 (hval 0 24 v0 rfl rfl)
  have k0 := h0
  have lt0 : ∀ x ∈ p0, x.block < W.heap.size := by obtain ⟨m, hm⟩ := k0; exact DataW.trod_lt m _ _ _ hm
  obtain ⟨z0, w0⟩ : ∃ zs, IsRow .u8 W a0 len0 cap0 zs := by
    obtain ⟨fuel, hf⟩ := h0
    rcases open_ints Try.underlying24 Try.underlying5 (by kernel_rfl) hf with ⟨hcs, _⟩ | ⟨x, l, c, zs, hcs, _, hl, hm, hz, _, hcell, hwz⟩
    · simp [Value.cells] at hcs
      obtain ⟨rfl, rfl, rfl⟩ := hcs
      exact ⟨[], .inl ⟨rfl, rfl, rfl, rfl⟩⟩
    · simp [Value.cells] at hcs
      obtain ⟨rfl, rfl, rfl⟩ := hcs
      exact ⟨zs, .inr ⟨_, rfl, hl, hm, by simpa using hz, hcell, hwz⟩⟩
  obtain ⟨a1, rfl, rfl, rfl, w1⟩ := open_int Try.underlying3 (hval 1 3 v1 rfl rfl) h1
  obtain ⟨a2, rfl, rfl, rfl, w2⟩ := open_int Try.underlying3 (hval 2 3 v2 rfl rfl) h2
  obtain ⟨a3, rfl, rfl, rfl, w3⟩ := open_int Try.underlying5 (hval 3 5 v3 rfl rfl) h3
  clear hA0 hval0
  refine (walk a0 len0 cap0 z0 a1 a2 a3 W w0 w1 w2 w3).mono fun e W' ⟨he, bel⟩ => ?_
  subst he
  exact ⟨_, rfl, _, _, _, [], _, [], hW', trodAll_mk1 (shut_bool Try.underlying4 _), (trodAll_cons_mk (Below.trod laidOut (by kernel_rfl) (of_decide_eq_true (by kernel_rfl)) k0 bel lt0) (trodAll_cons_mk (shut_int Try.underlying3 w1) (trodAll_cons_mk (shut_int Try.underlying3 w2) (trodAll_cons_mk (shut_int Try.underlying5 w3) trodAll_mk0)))), rfl, bel.frame _, fun h => by cases h⟩

theorem over : Rows.sumStandsRow.holds Try.pinned (OpenSpec.ofChange Rows.sumStandsSpec) :=
  OpenClaim.holds_of_wide 4 Try.f4 rfl rfl rfl rfl rfl rfl rfl ⟨rfl, rfl, rfl, rfl, rfl⟩ rfl rfl rfl rfl rfl (by kernel_rfl) Try.func4 (by kernel_rfl)
    (of_decide_eq_true (by kernel_rfl)) (by unfold Func.isWrapper; first | (rw [if_pos (by decide +kernel)]; kernel_rfl) | (rw [if_neg (by decide +kernel)]; exact ⟨rfl, rfl⟩))
    (fun os started H enc _ => lifted os started H enc)

theorem proved : Rows.SumStandsSaid := over
end Go.Proofs.Yticdbkdcnahgfaa.sumStands

namespace Go.Proofs.Yticdbkdcnahgfaa
theorem sumStands_holds : Rows.SumStandsSaid := sumStands.proved
#print axioms sumStands_holds
end Go.Proofs.Yticdbkdcnahgfaa
