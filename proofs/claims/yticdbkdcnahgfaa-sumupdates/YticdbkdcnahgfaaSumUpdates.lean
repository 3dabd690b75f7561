/- For every slice of bytes, place and number of 16 bits, the law SumUpdates returns true: where a word is replaced, the checksum that is brought up to date is right, too, or all bytes are noughts; no condition. -/
import Derived.Test.YticdbkdcnahgfaaRows
import Derived.Test.YticdbkdcnahgfaaRef2
import Derived.WalkKit
import Derived.ProofKit
import Derived.OpenShut
import Derived.ShutString
import Derived.ChangeOld
import Derived.Below
namespace Go.Proofs.Yticdbkdcnahgfaa.sumUpdates
open Go.ChangeShapes Go.WideShapes Go.ChangeAt Go.RowKit
open Go.ChangeMaps (open_string shut_string)
set_option linter.unusedVariables false

theorem own : ownKnob Try.prog.godebug = none := by kernel_rfl
theorem laidOut : laidOutB Try.prog = true := by kernel_rfl

set_option maxHeartbeats 4000000 in
theorem walk (a0 : Option Addr) (len0 cap0 : Nat) (z0 : List Int) (a1 : Int) (a2 : Int) (w : World) (w0 : IsRow .u8 w a0 len0 cap0 z0) (w1 : (Lit.int .i64 a1).wf = true) (w2 : (Lit.int .u16 a2).wf = true) :
    Calls Try.prog 5 #[.slice a0 len0 cap0, .int .i64 a1, .int .u16 a2] w fun e w' => e = .returned (.bool true) ∧ Below w.heap.size w w' := by
  have hA := w0.bytes
  have hle := w0.le
  have la := hA.small
  have hb1 := bounds_i64 w1
  have hb2 := bounds_u16 w2
  by_cases g1 : (len0 : Int) < 6
  · go_enter Try.func5, Try.ntmps5
    go_wp2
    go_ret
    exact ⟨rfl, Below.refl _ _⟩
  by_cases g2 : 1500 < (len0 : Int)
  · go_enter Try.func5, Try.ntmps5
    go_wp2
    go_ret
    exact ⟨rfl, Below.refl _ _⟩
  generalize z0.take len0 = xs at hA
  obtain ⟨i0, hi, hz0, hz1, hz2⟩ := info_parts Try.infoByte
  have ha1 := i64_and16 a1
  obtain ⟨n, hn⟩ : ∃ n : Nat, (len0 : Int) / 2 * 2 = (n : Int) := ⟨len0 / 2 * 2, by omega⟩
  have hn2 : n % 2 = 0 := by omega
  have hnl : n ≤ len0 := by omega
  have hn6 : 6 ≤ n := by omega
  have hX := hA.take hnl
  generalize xs.take n = X at hX
  have hlen := hX.length
  obtain ⟨b0, off0, rfl⟩ : ∃ b off, a0 = some ⟨b, off, none⟩ := by
    rcases hX.cells with h | ⟨b, off, h, _⟩
    · omega
    · exact ⟨b, off, h⟩
  obtain ⟨k, hk⟩ : ∃ k : Nat, 2 + 2 * (a1 % 65536 % ((n : Int) / 2 - 1)) = (k : Int) := ⟨(2 + 2 * (a1 % 65536 % ((n : Int) / 2 - 1))).toNat, by
    have := Int.emod_nonneg (a1 % 65536) (show (n : Int) / 2 - 1 ≠ 0 by omega); omega⟩
  have hk2 : k % 2 = 0 := by omega
  have hk4 : 2 ≤ k := by
    have := Int.emod_nonneg (a1 % 65536) (show (n : Int) / 2 - 1 ≠ 0 by omega); omega
  have hk3 : k + 1 < n := by
    have := Int.emod_lt_of_pos (a1 % 65536) (show 0 < (n : Int) / 2 - 1 by omega); omega
  obtain ⟨ys, hys⟩ : ∃ ys, ys = (X.set 0 0).set 1 0 := ⟨_, rfl⟩
  obtain ⟨s, hs⟩ : ∃ s, s = ofV ys := ⟨_, rfl⟩
  obtain ⟨zs, hzs⟩ : ∃ zs, zs = (ys.set 0 (s / 256)).set 1 (s % 256) := ⟨_, rfl⟩
  obtain ⟨was, hwas⟩ : ∃ was, was = get16V zs (k : Int) := ⟨_, rfl⟩
  obtain ⟨u, hu⟩ : ∃ u, u = updV s was a2 := ⟨_, rfl⟩
  obtain ⟨ts, hts⟩ : ∃ ts, ts = (((zs.set 0 (u / 256)).set 1 (u % 256)).set k (a2 / 256)).set (k + 1) (a2 % 256) := ⟨_, rfl⟩
  have hup := updates hX.ok hk4 hk2 (by omega) hb2.1 hb2.2 hys hs hzs hwas hu hts
  have oy : BytesOk ys := by rw [hys]; exact (hX.ok.set 0 (by omega) (by omega)).set 1 (by omega) (by omega)
  have bs := ofV_bd oy
  rw [← hs] at bs
  have z0' : get16V zs 0 = s := by
    have := get16_word ys 0 0 (s / 256) (s % 256) (by rw [hys]; simp; omega) (by omega) (by omega)
    rw [if_pos rfl] at this
    rw [hzs]
    have e : ((0 : Nat) : Int) = 0 := rfl
    rw [e] at this
    rw [this]; omega
  have bu := updV_bd s was a2
  rw [← hu] at bu
  have HY : Hid _ := hys
  have HS : Hid _ := hs
  have HZ : Hid _ := hzs
  have HW : Hid _ := hwas
  have HU : Hid _ := hu
  have HT : Hid _ := hts
  have HUP : Hid _ := hup
  have HZ0 : Hid _ := z0'
  have tok1 : Hid True := trivial
  clear w0 w1 w2 hys hs hzs hwas hu hts hup z0' oy
  go_enter Try.func5, Try.ntmps5
  go_wp2_with (first
    | (at_builtin; refine append_bytes (by rfl) (.tmp 21) (.tmp 27) 24 rfl w.heap.size 5 i0 (.int .u8 0) Try.underlying24 hi hz0 hz1 hz2 rfl _ _ _ rfl (own_empty w) (some ⟨b0, off0, none⟩) n cap0 X rfl (hX.below ((Ext.refl _).alloc _)) (by simp) (by omega) (by simp) ?_; intro v4 w4 ho4 hg4; have hx4 := grown_ext ((Ext.refl w).alloc _) (own_empty w) hg4; clear hg4; simp only [List.nil_append, Nat.zero_add] at ho4; obtain ⟨g, c, rfl, hO⟩ := OwnB.of_owns ho4 (by omega) hX.ok; clear ho4; have hc1 := hO.cell (k := 0) (by omega); have hf1 := hO.frozen 0; have hc2 := hO.cell (k := 1) (by omega); have hf2 := hO.frozen 1)
    | (go_at_call 11; clear hc1 hf1 hc2 hf2; have hO5 := (hO.set (k := 0) (v := 0) (by omega) (by omega)).set (k := 1) (v := 0) (by omega) (by omega); rw [← HY.out] at hO5; have hx5 := Below.setCell (Below.setCell hx4 (p := ⟨g, 0, none⟩) hO.base (.int .u8 0)) (p := ⟨g, 1, none⟩) hO.base (.int .u8 0); have hc := refOf_any _ n c ys _ hO5.bytes (by omega); rw [← HS.out] at hc; refine hc.mono ?_; clear hc; rintro e w5 ⟨rfl, hw5⟩; rw [← hw5] at hO5 hx5; clear hw5 hO hx4))
  go_at_call 19
  refine (refPut16_new s _ (by omega) (by omega)).mono ?_
  rintro e w6 ⟨p6, rfl, hp6, hx⟩
  have hO6 := hO5.later hx
  have hx6 := Ext.trans hx5 hx
  clear hx hO5 hx5
  obtain ⟨b6, off6, rfl, hcs⟩ := hp6.cells.resolve_left (by omega)
  have es : s / 256 % 256 = s / 256 := by omega
  have hs0 : w6.cell? ⟨b6, off6, none⟩ = some (.int .u8 (s / 256)) := by
    have := hcs 0 (by omega)
    simpa [es] using this
  have hs1 : w6.cell? ⟨b6, off6 + 1, none⟩ = some (.int .u8 (s % 256)) := by
    have := hcs 1 (by omega)
    simpa using this
  clear hp6 hcs es
  have hc1 := hO6.cell (k := 0) (by omega)
  have hf1 := hO6.frozen 0
  have hc2 := hO6.cell (k := 1) (by omega)
  have hf2 := hO6.frozen 1
  go_wp2
  go_region
  clear hc1 hf1 hc2 hf2 hs0 hs1
  have hO7 := (((hO6.set (k := 0) (v := s / 256) (by omega) (by omega)).set (k := 1) (v := s % 256) (by omega) (by omega)).later (Ext.refl _).drew)
  rw [← HZ.out] at hO7
  have hx7 := Below.drew (Below.setCell (Below.setCell hx6 (p := ⟨g, 0, none⟩) hO6.base (.int .u8 (s / 256))) (p := ⟨g, 1, none⟩) hO6.base (.int .u8 (s % 256)))
  clear hO6 hx6
  go_wp2_with (fail)
  generalize ((w6.setCell ⟨g, 0, none⟩ (.int .u8 (s / 256))).setCell ⟨g, 1, none⟩ (.int .u8 (s % 256))).drew = w7 at hO7 hx7 ⊢
  have c1 := refGet16_any _ n c zs 0 w7 hO7.bytes (by omega) (by omega)
  have c2 := refGet16_any _ n c zs (k : Int) w7 hO7.bytes (by omega) (by omega)
  have c3 := update_any s was a2 w7
  rw [HZ0.out] at c1
  rw [← HW.out] at c2
  rw [← HU.out] at c3
  have hcA := hO7.cell (k := 0) (by omega)
  have hcB := hO7.cell (k := 1) (by omega)
  have hcC := hO7.cell (k := k) (by omega)
  have hcD := hO7.cell (k := k + 1) (by omega)
  have hfA := hO7.frozen 0
  have hfB := hO7.frozen 1
  have hfC := hO7.frozen k
  have hfD := hO7.frozen (k + 1)
  have hn0 : ¬ k = 0 := by omega
  have hn1 : ¬ k = 1 := by omega
  go_wp2_with (first
    | (go_at_call 20; clear tok1; refine c1.mono ?_; rintro e w7 ⟨rfl, rfl⟩)
    | (go_at_call 20; refine c2.mono ?_; rintro e w7 ⟨rfl, rfl⟩)
    | (go_at_call 14; refine c3.mono ?_; rintro e w7 ⟨rfl, rfl⟩))
  clear hcA hcB hcC hcD hfA hfB hfC hfD c1 c2 c3
  have hO8 := (((hO7.set (k := 0) (v := u / 256) (by omega) (by omega)).set (k := 1) (v := u % 256) (by omega) (by omega)).set (k := k) (v := a2 / 256) (by omega) (by omega)).set (k := k + 1) (v := a2 % 256) (by omega) (by omega)
  rw [← HT.out] at hO8
  have hx8 := Below.setCell (Below.setCell (Below.setCell (Below.setCell hx7 (p := ⟨g, 0, none⟩) hO7.base (.int .u8 (u / 256))) (p := ⟨g, 1, none⟩) hO7.base (.int .u8 (u % 256))) (p := ⟨g, k, none⟩) hO7.base (.int .u8 (a2 / 256))) (p := ⟨g, k + 1, none⟩) hO7.base (.int .u8 (a2 % 256))
  clear hO7 hx7
  generalize (((w7.setCell ⟨g, 0, none⟩ (.int .u8 (u / 256))).setCell ⟨g, 1, none⟩ (.int .u8 (u % 256))).setCell ⟨g, k, none⟩ (.int .u8 (a2 / 256))).setCell ⟨g, k + 1, none⟩ (.int .u8 (a2 % 256)) = w8 at hO8 hx8 ⊢
  have hll := hO8.length
  go_loop [11, 12] (fun t i => ∃ (j : Nat) (m : Int), j ≤ n ∧ i = .int .i64 j ∧ t = .int .i64 m ∧ 0 ≤ m ∧ m ≤ 255 ∧ Hid (sumB true (ts.take j) = 0 → m = 0)) (fun _ i => n - (intOf i).toNat)
  case atStart => exact ⟨0, 0, Nat.zero_le _, rfl, rfl, by omega, by omega, fun _ => rfl⟩
  case round =>
    obtain ⟨j, m, hj, rfl, rfl, m0, m1, hm⟩ := hrel
    by_cases hlt : j < n
    · have hc := hO8.cell hlt
      obtain ⟨h1, h2, h3⟩ := or_step hO8.ok (k := j) (by omega) m0 m1 hm.out
      have hxb := hO8.ok.get j
      obtain ⟨x, hx⟩ : ∃ x, x = ts[j]?.getD 0 := ⟨_, rfl⟩
      rw [← hx] at hc h1 h2 h3 hxb
      have H3 : Hid _ := h3
      clear h3 hx hm
      go_wp2
      go_round
      case rel => exact ⟨j + 1, _, by omega, by go_num, rfl, h1, h2, H3⟩
      case measure => simp [intOf]; omega
    · obtain rfl : j = n := by omega
      have e : ts.take j = ts := List.take_of_length_le (by omega)
      rw [e] at hm
      by_cases hm0 : ofV ts = 0
      · clear hm
        go_wp2_with (first
          | (go_at_call 12; refine (right_true _ j c ts w8 hO8.bytes (by simp) (by omega) hm0).mono ?_; rintro e w9 ⟨rfl, hx9⟩)
          | (go_at_call 18; refine (sumKnown_any _).mono ?_; rintro e w10 ⟨rfl, hx10⟩))
        go_ret
        exact ⟨rfl, (Ext.trans hx8 hx9).trans hx10⟩
      · obtain rfl : m = 0 := hm.out (HUP.out.resolve_left hm0)
        have hr := right_any _ j c ts w8 hO8.bytes (by simp) (by omega)
        rw [show decide (ofV ts = 0) = false by simpa using hm0] at hr
        clear hm
        go_wp2_with (first
          | (go_at_call 12; refine hr.mono ?_; rintro e w9 ⟨rfl, hx9⟩)
          | (go_at_call 18; refine (sumKnown_any _).mono ?_; rintro e w10 ⟨rfl, hx10⟩))
        go_ret
        exact ⟨rfl, (Ext.trans hx8 hx9).trans hx10⟩

set_option maxRecDepth 100000 in
theorem lifted (os : Os) (started : os.Started) (H : Type) (enc : TypeId × Value → H) :
    ReturnsInHanded {} Try.checked os 5 .any (Rows.sumUpdatesSpec.pre6 enc Try.prog Try.f5 Rows.sumUpdatesRow.domain false) (Rows.sumUpdatesSpec.post enc Try.prog Try.f5 false true false false) := by
  refine returnsInHanded_of_change (C := Try.checked) own started (by kernel_rfl) Try.func5
    (ChangeSpec.witness6 (enc := enc) (C := Try.checked) false ⟨#[], #[.slice none 0 0, .int .i64 0, .int .u16 0], []⟩ 8 (by kernel_rfl) (by kernel_rfl) (by kernel_rfl) (by kernel_rfl)) ?_
  intro W base args ds gs before hval0 hW hcnd _
  have hval : ∀ (j : Nat) t v, Try.f5.params[j]? = some t → args[j]? = some v → Value.okWide Try.prog W .any base t v := hval0
  have hW' := hW
  obtain ⟨p, q, hA0, hV, rfl, hfz, hnd⟩ := hW
  have hA : DataW.TrodAll enc Try.prog W 0 (fun _ => true) true Try.f5.params.toList args.toList ds p := hA0
  rw [Try.params5] at hA hval
  obtain ⟨v0, vs0, d0, ds0, p0, q0, hargs, rfl, rfl, h0, r0⟩ := trodAll_cons hA
  obtain ⟨v1, vs1, d1, ds1, p1, q1, rfl, rfl, rfl, h1, r1⟩ := trodAll_cons r0
  obtain ⟨v2, vs2, d2, ds2, p2, q2, rfl, rfl, rfl, h2, r2⟩ := trodAll_cons r1
  obtain ⟨rfl, rfl, rfl⟩ := trodAll_nil r2
  obtain rfl : args = #[v0, v1, v2] := by cases args; simp_all
  obtain ⟨rfl, rfl⟩ := trodVars_none hV
  obtain ⟨a0, len0, cap0, rfl⟩ := okWide_slice Try.underlying24 (hval 0 24 v0 rfl rfl)
  have k0 := h0
  have lt0 : ∀ x ∈ p0, x.block < W.heap.size := by obtain ⟨m, hm⟩ := k0; exact DataW.trod_lt m _ _ _ hm
  obtain ⟨z0, w0⟩ : ∃ zs, IsRow .u8 W a0 len0 cap0 zs := by
    obtain ⟨fuel, hf⟩ := h0
    rcases open_ints Try.underlying24 Try.underlying5 (by kernel_rfl) hf with ⟨hcs, _⟩ | ⟨x, l, c, zs, hcs, _, hl, hm, hz, _, hcell, hwz⟩
    · simp [Value.cells] at hcs
      obtain ⟨rfl, rfl, rfl⟩ := hcs
      exact ⟨[], .inl ⟨rfl, rfl, rfl, rfl⟩⟩
    · simp [Value.cells] at hcs
      obtain ⟨rfl, rfl, rfl⟩ := hcs
      exact ⟨zs, .inr ⟨_, rfl, hl, hm, by simpa using hz, hcell, hwz⟩⟩
  obtain ⟨a1, rfl, rfl, rfl, w1⟩ := open_int Try.underlying3 (hval 1 3 v1 rfl rfl) h1
  obtain ⟨a2, rfl, rfl, rfl, w2⟩ := open_int Try.underlying35 (hval 2 35 v2 rfl rfl) h2
  clear hA0 hval0
  refine (walk a0 len0 cap0 z0 a1 a2 W w0 w1 w2).mono fun e W' ⟨he, bel⟩ => ?_
  subst he
  exact ⟨_, rfl, _, _, _, [], _, [], hW', trodAll_mk1 (shut_bool Try.underlying4 _), (trodAll_cons_mk (Below.trod laidOut (by kernel_rfl) (of_decide_eq_true (by kernel_rfl)) k0 bel lt0) (trodAll_cons_mk (shut_int Try.underlying3 w1) (trodAll_cons_mk (shut_int Try.underlying35 w2) trodAll_mk0))), rfl, bel.frame _, fun h => by cases h⟩

theorem over : Rows.sumUpdatesRow.holds Try.pinned (OpenSpec.ofChange Rows.sumUpdatesSpec) :=
  OpenClaim.holds_of_wide 5 Try.f5 rfl rfl rfl rfl rfl rfl rfl ⟨rfl, rfl, rfl, rfl, rfl⟩ rfl rfl rfl rfl rfl (by kernel_rfl) Try.func5 (by kernel_rfl)
    (of_decide_eq_true (by kernel_rfl)) (by unfold Func.isWrapper; first | (rw [if_pos (by decide +kernel)]; kernel_rfl) | (rw [if_neg (by decide +kernel)]; exact ⟨rfl, rfl⟩))
    (fun os started H enc _ => lifted os started H enc)

theorem proved : Rows.SumUpdatesSaid := over
end Go.Proofs.Yticdbkdcnahgfaa.sumUpdates

namespace Go.Proofs.Yticdbkdcnahgfaa
theorem sumUpdates_holds : Rows.SumUpdatesSaid := sumUpdates.proved
#print axioms sumUpdates_holds
end Go.Proofs.Yticdbkdcnahgfaa
