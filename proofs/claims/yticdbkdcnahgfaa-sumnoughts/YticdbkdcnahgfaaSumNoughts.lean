/- For every slice of bytes and every number, the law SumNoughts returns true: noughts behind an even row, and words of nothing but ones, change no checksum, but for one of noughts; no condition. -/
import Derived.Test.YticdbkdcnahgfaaRows
import Derived.Test.YticdbkdcnahgfaaSum
import Derived.Test.YticdbkdcnahgfaaOwn
import Derived.WalkKit
import Derived.ProofKit
import Derived.OpenShut
import Derived.ShutString
import Derived.ChangeOld
import Derived.Below
namespace Go.Proofs.Yticdbkdcnahgfaa.sumNoughts
open Go.ChangeShapes Go.WideShapes Go.ChangeAt Go.RowKit
open Go.ChangeMaps (open_string shut_string)
set_option linter.unusedVariables false

theorem own : ownKnob Try.prog.godebug = none := by kernel_rfl
theorem laidOut : laidOutB Try.prog = true := by kernel_rfl

theorem noughts (xs : List Int) (n : Nat) : ofV (xs ++ List.replicate n 0) = ofV xs := by
  unfold ofV; rw [sumB_append, sumB_noughts, Int.add_zero]

theorem ones (xs : List Int) (h : BytesOk xs) (h1 : xs.length % 2 = 0) (h2 : sumB true xs ≠ 0) : ofV (xs ++ [255, 255]) = ofV xs := by
  have hb := (sumB_bd h true).1
  have e : sumB true [255, 255] = 65535 := by decide
  unfold ofV
  rw [sumB_append, par_even _ h1, e]
  unfold foldV
  rw [if_neg (by omega), if_neg h2]
  omega

theorem of_ones (p : Option Addr) (n c : Nat) (xs : List Int) (w : World) (h : Bytes w p n xs) (z : p = none → c = 0) (hn : n ≤ 500) :
    Calls Try.prog 10 #[.slice (some ⟨w.heap.size + 1, 0, none⟩) 2 2] ((w.alloc (.cells #[.int .u8 255, .int .u8 255] 5)).alloc (.cells #[.slice p n c, .slice (some ⟨w.heap.size, 0, none⟩) 2 2] 24))
      fun e w' => e = .returned (.int .i64 (ofV (xs ++ [255, 255]))) ∧ Ext w w' := by
  have hx : Ext w (w.alloc (.cells #[.int .u8 255, .int .u8 255] 5)) := (Ext.refl _).alloc _
  have hn2 : Bytes (w.alloc (.cells #[.int .u8 255, .int .u8 255] 5)) (some ⟨w.heap.size, 0, none⟩) 2 [255, 255] := Bytes.new w _ [255, 255] (by intro x hx; simp at hx; omega) (by simp)
  have hc := of2_any p n c _ 2 2 xs [255, 255] _ (h.below hx) hn2 z (by simp) (by omega)
  have hsz : (w.alloc (.cells #[.int .u8 255, .int .u8 255] 5)).heap.size = w.heap.size + 1 := by simp
  rw [hsz] at hc
  exact hc.mono fun e w' ⟨he, h2⟩ => ⟨he, hx.trans h2⟩

set_option maxHeartbeats 4000000 in
theorem walk (a0 : Option Addr) (len0 cap0 : Nat) (z0 : List Int) (a1 : Int) (w : World) (w0 : IsRow .u8 w a0 len0 cap0 z0) (w1 : (Lit.int .i64 a1).wf = true) :
    Calls Try.prog 7 #[.slice a0 len0 cap0, .int .i64 a1] w fun e w' => e = .returned (.bool true) ∧ Below w.heap.size w w' := by
  have hA := w0.bytes
  have za := w0.nil_cap
  have la := hA.small
  have hb1 := bounds_i64 w1
  by_cases g1 : 500 < (len0 : Int)
  · go_enter Try.func7, Try.ntmps7
    go_wp2
    go_ret
    exact ⟨rfl, Below.refl _ _⟩
  by_cases g2 : (len0 : Int) % 2 = 1
  · go_enter Try.func7, Try.ntmps7
    go_wp2
    go_ret
    exact ⟨rfl, Below.refl _ _⟩
  replace g2 : (len0 : Int) % 2 = 0 := by omega
  by_cases g3 : a1 < 0
  · go_enter Try.func7, Try.ntmps7
    go_wp2
    go_ret
    exact ⟨rfl, Below.refl _ _⟩
  by_cases g4 : 50 < a1
  · go_enter Try.func7, Try.ntmps7
    go_wp2
    go_ret
    exact ⟨rfl, Below.refl _ _⟩
  generalize z0.take len0 = xs at hA
  obtain ⟨n, rfl⟩ : ∃ n : Nat, a1 = n := ⟨a1.toNat, by omega⟩
  have hone := ones xs hA.ok (by rw [hA.length]; omega)
  have hnou := noughts xs n
  obtain ⟨s, hs⟩ : ∃ s, s = ofV xs := ⟨_, rfl⟩
  obtain ⟨s2, hs2⟩ : ∃ s2, s2 = ofV (xs ++ [255, 255]) := ⟨_, rfl⟩
  obtain ⟨i0, hi, hz0, hz1, hz2⟩ := info_parts Try.infoByte
  have c1 := fun w g hA hB => of2_any a0 len0 cap0 (some ⟨g, 0, none⟩) n n xs (List.replicate n 0) w hA hB za (by simp) (by omega)
  have c2 := fun w hA => of_ones a0 len0 cap0 xs w hA za (by omega)
  have c3 := fun w hA => of1_any a0 len0 cap0 xs w hA za (by omega)
  rw [hnou] at c1
  rw [← hs] at c1 c3 hone
  rw [← hs2] at c2 hone
  clear hnou hs hs2 w0 w1
  have HONE : Hid _ := hone
  clear hone
  have tok1 : Hid True := trivial
  have tok2 : Hid True := trivial
  go_enter Try.func7, Try.ntmps7
  go_wp2_with (first
    | (at_make; refine make_bytes rfl (.tmp 27) (.tmp 27) 24 rfl 5 i0 Try.underlying24 hi hz0 hz1 hz2 .i64 .i64 _ _ n rfl rfl (by omega) (by omega) (by omega) ?_; intro w1 hg1 hb1; have hx1 : Ext w w1 := hb1; clear hb1)
    | (go_at_call 10; clear tok1; refine (c1 w1 w.heap.size (hA.below hx1) (noughts_bytes hg1 (by omega))).mono ?_; rintro e w2 ⟨rfl, hx2⟩; clear hg1)
    | (go_at_call 10; clear tok2; refine (c2 w2 (hA.below (hx1.trans hx2))).mono ?_; rintro e w3 ⟨rfl, hx3⟩))
  have hX := (hx1.trans hx2).trans hx3
  have hA3 := hA.below hX
  have hll := hA3.length
  clear hx1 hx2 hx3
  go_loop [7, 8] (fun t i => ∃ (k : Nat) (m : Int), k ≤ len0 ∧ i = .int .i64 k ∧ t = .int .i64 m ∧ 0 ≤ m ∧ m ≤ 255 ∧ Hid (sumB true (xs.take k) = 0 → m = 0)) (fun _ i => len0 - (intOf i).toNat)
  case atStart => exact ⟨0, 0, Nat.zero_le _, rfl, rfl, by omega, by omega, fun _ => rfl⟩
  case round =>
    obtain ⟨k, m, hk, rfl, rfl, m0, m1, hm⟩ := hrel
    by_cases hlt : k < len0
    · obtain ⟨b, off, rfl, hc⟩ := hA3.cell hlt
      obtain ⟨h1, h2, h3⟩ := or_step hA3.ok (k := k) (by omega) m0 m1 hm.out
      have hxb := hA3.ok.get k
      obtain ⟨x, hx⟩ : ∃ x, x = xs[k]?.getD 0 := ⟨_, rfl⟩
      rw [← hx] at hc h1 h2 h3 hxb
      have H3 : Hid _ := h3
      clear h3 hx hm
      go_wp2
      go_round
      case rel => exact ⟨k + 1, _, by omega, by go_num, rfl, h1, h2, H3⟩
      case measure => simp [intOf]; omega
    · obtain rfl : k = len0 := by omega
      have e : xs.take k = xs := List.take_of_length_le (by omega)
      rw [e] at hm
      by_cases hm0 : m = 0
      · subst hm0
        clear hm HONE
        go_wp2_with (first
          | (go_at_call_of 10 (Value.slice none 0 0); refine (of0_any _).mono ?_; rintro e w5 ⟨rfl, hx5⟩)
          | (go_at_call 10; refine (c3 w3 hA3).mono ?_; rintro e w4 ⟨rfl, hx4⟩)
          | (go_at_call 18; refine (sumKnown_any _).mono ?_; rintro e w7 ⟨rfl, hx7⟩))
        go_ret
        exact ⟨rfl, ((hX.trans hx4).trans hx5).trans hx7⟩
      · obtain rfl : s2 = s := HONE.out (fun h => hm0 (hm.out h))
        clear hm HONE
        have tok1 : Hid True := trivial
        go_wp2_with (first
          | (go_at_call_of 10 (Value.slice none 0 0); refine (of0_any _).mono ?_; rintro e w5 ⟨rfl, hx5⟩)
          | (go_at_call 10; clear tok1; refine (c3 w3 hA3).mono ?_; rintro e w4 ⟨rfl, hx4⟩)
          | (go_at_call 10; refine (c3 w4 (hA3.below hx4)).mono ?_; rintro e w6 ⟨rfl, hx6⟩)
          | (go_at_call 18; refine (sumKnown_any _).mono ?_; rintro e w7 ⟨rfl, hx7⟩))
        go_ret
        exact ⟨rfl, (((hX.trans hx4).trans hx6).trans hx5).trans hx7⟩

set_option maxRecDepth 100000 in
theorem lifted (os : Os) (started : os.Started) (H : Type) (enc : TypeId × Value → H) :
    ReturnsInHanded {} Try.checked os 7 .any (Rows.sumNoughtsSpec.pre6 enc Try.prog Try.f7 Rows.sumNoughtsRow.domain false) (Rows.sumNoughtsSpec.post enc Try.prog Try.f7 false true false false) := by
  refine returnsInHanded_of_change (C := Try.checked) own started (by kernel_rfl) Try.func7
    (ChangeSpec.witness6 (enc := enc) (C := Try.checked) false ⟨#[], #[.slice none 0 0, .int .i64 0], []⟩ 8 (by kernel_rfl) (by kernel_rfl) (by kernel_rfl) (by kernel_rfl)) ?_
  intro W base args ds gs before hval0 hW hcnd _
  have hval : ∀ (j : Nat) t v, Try.f7.params[j]? = some t → args[j]? = some v → Value.okWide Try.prog W .any base t v := hval0
  have hW' := hW
  obtain ⟨p, q, hA0, hV, rfl, hfz, hnd⟩ := hW
  have hA : DataW.TrodAll enc Try.prog W 0 (fun _ => true) true Try.f7.params.toList args.toList ds p := hA0
  rw [Try.params7] at hA hval
  obtain ⟨v0, vs0, d0, ds0, p0, q0, hargs, rfl, rfl, h0, r0⟩ := trodAll_cons hA
  obtain ⟨v1, vs1, d1, ds1, p1, q1, rfl, rfl, rfl, h1, r1⟩ := trodAll_cons r0
  obtain ⟨rfl, rfl, rfl⟩ := trodAll_nil r1
  obtain rfl : args = #[v0, v1] := by cases args; simp_all
  obtain ⟨rfl, rfl⟩ := trodVars_none hV
  obtain ⟨a0, len0, cap0, rfl⟩ := okWide_slice Try.underlying24 (hval 0 24 v0 rfl rfl)
  have k0 := h0
  have lt0 : ∀ x ∈ p0, x.block < W.heap.size := by obtain ⟨m, hm⟩ := k0; exact DataW.trod_lt m _ _ _ hm
  obtain ⟨z0, w0⟩ : ∃ zs, IsRow .u8 W a0 len0 cap0 zs := by
    obtain ⟨fuel, hf⟩ := h0
    rcases open_ints Try.underlying24 Try.underlying5 (by kernel_rfl) hf with ⟨hcs, _⟩ | ⟨x, l, c, zs, hcs, _, hl, hm, hz, _, hcell, hwz⟩
    · simp [Value.cells] at hcs
      obtain ⟨rfl, rfl, rfl⟩ := hcs
      exact ⟨[], .inl ⟨rfl, rfl, rfl, rfl⟩⟩
    · simp [Value.cells] at hcs
      obtain ⟨rfl, rfl, rfl⟩ := hcs
      exact ⟨zs, .inr ⟨_, rfl, hl, hm, by simpa using hz, hcell, hwz⟩⟩
  obtain ⟨a1, rfl, rfl, rfl, w1⟩ := open_int Try.underlying3 (hval 1 3 v1 rfl rfl) h1
  clear hA0 hval0
  refine (walk a0 len0 cap0 z0 a1 W w0 w1).mono fun e W' ⟨he, bel⟩ => ?_
  subst he
  exact ⟨_, rfl, _, _, _, [], _, [], hW', trodAll_mk1 (shut_bool Try.underlying4 _), (trodAll_cons_mk (Below.trod laidOut (by kernel_rfl) (of_decide_eq_true (by kernel_rfl)) k0 bel lt0) (trodAll_cons_mk (shut_int Try.underlying3 w1) trodAll_mk0)), rfl, bel.frame _, fun h => by cases h⟩

theorem over : Rows.sumNoughtsRow.holds Try.pinned (OpenSpec.ofChange Rows.sumNoughtsSpec) :=
  OpenClaim.holds_of_wide 7 Try.f7 rfl rfl rfl rfl rfl rfl rfl ⟨rfl, rfl, rfl, rfl, rfl⟩ rfl rfl rfl rfl rfl (by kernel_rfl) Try.func7 (by kernel_rfl)
    (of_decide_eq_true (by kernel_rfl)) (by unfold Func.isWrapper; first | (rw [if_pos (by decide +kernel)]; kernel_rfl) | (rw [if_neg (by decide +kernel)]; exact ⟨rfl, rfl⟩))
    (fun os started H enc _ => lifted os started H enc)

theorem proved : Rows.SumNoughtsSaid := over
end Go.Proofs.Yticdbkdcnahgfaa.sumNoughts

namespace Go.Proofs.Yticdbkdcnahgfaa
theorem sumNoughts_holds : Rows.SumNoughtsSaid := sumNoughts.proved
#print axioms sumNoughts_holds
end Go.Proofs.Yticdbkdcnahgfaa
