/- For every number and bool, the law UdpBounds returns true: ports that are none, and too many bytes, are refused; no condition. -/
import Derived.Test.YtgbpljkfefdilaaRows
import Derived.Test.YtgbpljkfefdilaaUdp4K
import Derived.Test.YtgbpljkfefdilaaFrame
import Derived.WalkKit
import Derived.ProofKit
import Derived.OpenShut
import Derived.ShutString
import Derived.ChangeOld
import Derived.Deep.DeepHandedRow
import Derived.Lib.LaidTab
import Derived.Lib.SmallJoins
import Derived.LaidMore
import Derived.Stop.LaidErr
import Derived.ChangeMaps5
namespace Go.Proofs.Ytgbpljkfefdilaa.udpBounds
open Go.ChangeShapes Go.WideShapes Go.ChangeAt Go.RowKit Go.ChangeMaps
set_option linter.unusedVariables false

theorem own : ownKnob Try.prog.godebug = none := by kernel_rfl
theorem laidOut : laidOutB Try.prog = true := by kernel_rfl

set_option maxHeartbeats 4000000 in
theorem walk (a0 : Int) (a1 : Bool) (w : World) (w0 : (Lit.int .i64 a0).wf = true) (hsh : w.ShapedOpen Try.prog) :
    Calls Try.prog 6 #[.int .i64 a0, .bool a1] w fun e w' => e = .returned (.bool true) ∧ Below w.heap.size w w' := by
  obtain ⟨i0, hi, hz0, hz1, hz2⟩ := info_parts Try.infoByte
  have tok1 : Hid True := trivial
  have hx0 : Ext w (w.alloc (.cells #[.int .i64 a0, .int .i64 1, .slice none 0 0] 25)) := (Ext.refl w).alloc _
  cases a1
  · by_cases hp : 0 ≤ a0 ∧ a0 ≤ 65535
    · have f1 : Udp.Fits ⟨a0, 1, []⟩ := ⟨hp.1, hp.2, by dsimp only; omega, by dsimp only; omega, by simp⟩
      have f2 : Udp.Fits ⟨1, a0, []⟩ := ⟨by dsimp only; omega, by dsimp only; omega, hp.1, hp.2, by simp⟩
      have c1 := fun w => (Udp.build_good 1 2 ⟨a0, 1, []⟩ none 0 0 w (bytes_nil w) (fun _ => rfl) f1 (by omega) (by omega) (by omega) (by omega) 8 rfl).mono (fun e w' (h : Udp.BuildAns _ _ _ _ _ e w') => (show ∃ q c, e = .returned (.tuple #[.slice q 8 c, .int .i64 0]) ∧ Ext w w' from by obtain ⟨q, c, he, _, hx⟩ := h; exact ⟨q, c, he, hx⟩))
      have c2 := fun w => (Udp.build_good 1 2 ⟨1, a0, []⟩ none 0 0 w (bytes_nil w) (fun _ => rfl) f2 (by omega) (by omega) (by omega) (by omega) 8 rfl).mono (fun e w' (h : Udp.BuildAns _ _ _ _ _ e w') => (show ∃ q c, e = .returned (.tuple #[.slice q 8 c, .int .i64 0]) ∧ Ext w w' from by obtain ⟨q, c, he, _, hx⟩ := h; exact ⟨q, c, he, hx⟩))
      dsimp only at c1 c2
      obtain ⟨h0, h1⟩ := hp
      clear f1 f2
      go_enter Try.func6, Try.ntmps6
      go_wp2_with (first
        | (go_at_call 9; clear tok1; refine (c1 _).mono ?_; rintro e w1 ⟨q1, k1, rfl, hx1⟩; have G1 : Hid (w1.heap[w.heap.size]? = some (.cells [.int .i64 a0, .int .i64 1, .slice none 0 0].toArray 25 (0, 0))) := hx1.heap (heap_new' w _); have fz := frozen_ip G1.out; obtain ⟨s0, s1, s2⟩ := box_dat (x := w.heap.size + 1) G1.out (by omega) w1 (ExtX.refl _ _); have G2 : Hid (((w1.setCell ⟨w.heap.size, 0, none⟩ (.int .i64 1)).setCell ⟨w.heap.size, 1, none⟩ (.int .i64 a0)).heap[w.heap.size]? = some (.cells [.int .i64 1, .int .i64 a0, .slice none 0 0].toArray 25 (0, 0))) := set_at 1 (.int .i64 a0) (set_at 0 (.int .i64 1) G1.out); obtain ⟨t0, t1, t2⟩ := box_dat (x := w.heap.size + 1) G2.out (by omega) _ (ExtX.refl _ _); have hx2 := ExtX.ext (hx0.trans hx1) (((ExtX.refl w.heap.size w1).setCell (p := ⟨w.heap.size, 0, none⟩) rfl (.int .i64 1)).setCell (p := ⟨w.heap.size, 1, none⟩) rfl (.int .i64 a0)) (Nat.le_refl _))
        | (go_at_call 9; refine (c2 _).mono ?_; rintro e w3 ⟨q3, k3, rfl, hx3⟩)
        | (go_at_call 13; refine (Udp.known_any _).mono ?_; rintro e w5 ⟨rfl, hx5⟩))
      go_ret
      exact ⟨rfl, hx2.trans (hx3.trans hx5)⟩
    · have c1 := fun w => Udp.build_bad 1 2 ⟨a0, 1, []⟩ none 0 0 w rfl (by unfold Udp.isV; rw [decide_eq_false_iff_not]; dsimp only; omega)
      have c2 := fun w => Udp.build_bad 1 2 ⟨1, a0, []⟩ none 0 0 w rfl (by unfold Udp.isV; rw [decide_eq_false_iff_not]; dsimp only; omega)
      dsimp only at c1 c2
      rcases (by omega : a0 < 0 ∨ (0 ≤ a0 ∧ 65535 < a0)) with h0 | ⟨h0, h1⟩
      all_goals
        clear hp
        go_enter Try.func6, Try.ntmps6
        go_wp2_with (first
          | (go_at_call 9; clear tok1; refine (c1 _).mono ?_; rintro e w1 ⟨rfl, hx1⟩; have G1 : Hid (w1.heap[w.heap.size]? = some (.cells [.int .i64 a0, .int .i64 1, .slice none 0 0].toArray 25 (0, 0))) := hx1.heap (heap_new' w _); have fz := frozen_ip G1.out; obtain ⟨s0, s1, s2⟩ := box_dat (x := w.heap.size + 1) G1.out (by omega) w1 (ExtX.refl _ _); have G2 : Hid (((w1.setCell ⟨w.heap.size, 0, none⟩ (.int .i64 1)).setCell ⟨w.heap.size, 1, none⟩ (.int .i64 a0)).heap[w.heap.size]? = some (.cells [.int .i64 1, .int .i64 a0, .slice none 0 0].toArray 25 (0, 0))) := set_at 1 (.int .i64 a0) (set_at 0 (.int .i64 1) G1.out); obtain ⟨t0, t1, t2⟩ := box_dat (x := w.heap.size + 1) G2.out (by omega) _ (ExtX.refl _ _); have hx2 := ExtX.ext (hx0.trans hx1) (((ExtX.refl w.heap.size w1).setCell (p := ⟨w.heap.size, 0, none⟩) rfl (.int .i64 1)).setCell (p := ⟨w.heap.size, 1, none⟩) rfl (.int .i64 a0)) (Nat.le_refl _))
          | (go_at_call 9; refine (c2 _).mono ?_; rintro e w3 ⟨rfl, hx3⟩)
          | (go_at_call 13; refine (Udp.known_any _).mono ?_; rintro e w5 ⟨rfl, hx5⟩))
        go_ret
        exact ⟨rfl, hx2.trans (hx3.trans hx5)⟩
  · have hl : (List.replicate 65001 (0 : Int)).length = 65001 := List.length_replicate
    have c1 := fun w q => Udp.build_bad 1 2 ⟨a0, 1, List.replicate 65001 0⟩ q 65001 65001 w hl (by unfold Udp.isV; rw [decide_eq_false_iff_not]; dsimp only; rw [hl]; omega)
    have c2 := fun w q => Udp.build_bad 1 2 ⟨1, a0, List.replicate 65001 0⟩ q 65001 65001 w hl (by unfold Udp.isV; rw [decide_eq_false_iff_not]; dsimp only; rw [hl]; omega)
    clear hl
    dsimp only at c1 c2
    have hs : (w.alloc (.cells #[.int .i64 a0, .int .i64 1, .slice none 0 0] 25)).heap.size = w.heap.size + 1 := by simp
    rcases (by omega : a0 < 0 ∨ (0 ≤ a0 ∧ 65535 < a0) ∨ (0 ≤ a0 ∧ a0 ≤ 65535)) with h0 | ⟨h0, h1⟩ | ⟨h0, h1⟩
    all_goals
      go_enter Try.func6, Try.ntmps6
      go_wp2_with (first
        | (at_make; refine make_bytes rfl _ _ 22 rfl 5 i0 Try.underlying22 hi hz0 hz1 hz2 .i64 .i64 _ _ 65001 rfl rfl (by omega) (by omega) (by omega) ?_; intro wm hgm hbm; have hxm : Ext (w.alloc (.cells #[.int .i64 a0, .int .i64 1, .slice none 0 0] 25)) wm := hbm; clear hbm hgm; have Gm : Hid (wm.heap[w.heap.size]? = some (.cells [.int .i64 a0, .int .i64 1, .slice none 0 0].toArray 25 (0, 0))) := hxm.heap (heap_new' w _); have fm := frozen_ip Gm.out; obtain ⟨r0, r1, r2⟩ := box_dat (x := w.heap.size + 1) Gm.out (by omega) wm (ExtX.refl _ _); rw [hs]; have GA : Hid ((wm.setCell ⟨w.heap.size, 2, none⟩ (.slice (some ⟨w.heap.size + 1, 0, none⟩) 65001 65001)).heap[w.heap.size]? = some (.cells [.int .i64 a0, .int .i64 1, .slice (some ⟨w.heap.size + 1, 0, none⟩) 65001 65001].toArray 25 (0, 0))) := set_at 2 _ Gm.out; obtain ⟨p0, p1, p2⟩ := box_dat (x := w.heap.size + 1) GA.out (by omega) _ (ExtX.refl _ _); have hxA := ExtX.ext (hx0.trans hxm) ((ExtX.refl w.heap.size wm).setCell (p := ⟨w.heap.size, 2, none⟩) rfl (.slice (some ⟨w.heap.size + 1, 0, none⟩) 65001 65001)) (Nat.le_refl _))
        | (go_at_call 9; clear tok1; refine (c1 _ _).mono ?_; rintro e w1 ⟨rfl, hx1⟩; have G1 : Hid (w1.heap[w.heap.size]? = some (.cells [.int .i64 a0, .int .i64 1, .slice (some ⟨w.heap.size + 1, 0, none⟩) 65001 65001].toArray 25 (0, 0))) := hx1.heap GA.out; have fz := frozen_ip G1.out; obtain ⟨s0, s1, s2⟩ := box_dat (x := w.heap.size + 1) G1.out (by omega) w1 (ExtX.refl _ _); have G2 : Hid (((w1.setCell ⟨w.heap.size, 0, none⟩ (.int .i64 1)).setCell ⟨w.heap.size, 1, none⟩ (.int .i64 a0)).heap[w.heap.size]? = some (.cells [.int .i64 1, .int .i64 a0, .slice (some ⟨w.heap.size + 1, 0, none⟩) 65001 65001].toArray 25 (0, 0))) := set_at 1 (.int .i64 a0) (set_at 0 (.int .i64 1) G1.out); obtain ⟨t0, t1, t2⟩ := box_dat (x := w.heap.size + 1) G2.out (by omega) _ (ExtX.refl _ _); have hx2 := ExtX.ext (hxA.trans hx1) (((ExtX.refl w.heap.size w1).setCell (p := ⟨w.heap.size, 0, none⟩) rfl (.int .i64 1)).setCell (p := ⟨w.heap.size, 1, none⟩) rfl (.int .i64 a0)) (Nat.le_refl _))
        | (go_at_call 9; refine (c2 _ _).mono ?_; rintro e w3 ⟨rfl, hx3⟩)
        | (go_at_call 13; refine (Udp.known_any _).mono ?_; rintro e w5 ⟨rfl, hx5⟩))
      go_ret
      exact ⟨rfl, hx2.trans (hx3.trans hx5)⟩

theorem contract (H : Type) (enc : TypeId × Value → H) (W : World) (base : Nat) (args : Array Value) (ds gs : List (DataW H)) (before : List MemPlace)
    (hval : ∀ (j : Nat) t v, Try.f6.params[j]? = some t → args[j]? = some v → Value.okWide Try.prog W .any base t v)
    (hW : DataW.Whole enc Try.prog Try.f6.params.toList Rows.udpBoundsSpec.vars false W args.toList ds gs before) (hsh : W.ShapedOpen Try.prog) :
    Calls Try.prog 6 args W fun e W' => ∃ v, e = .returned v ∧ Rows.udpBoundsSpec.post enc Try.prog Try.f6 false true false false W args v W' := by
  have hW' := hW
  obtain ⟨p, q, hA0, hV, rfl, hfz, hnd⟩ := hW
  have hA : DataW.TrodAll enc Try.prog W 0 (fun _ => true) true Try.f6.params.toList args.toList ds p := hA0
  rw [Try.params6] at hA hval
  obtain ⟨v0, vs0, d0, ds0, p0, q0, hargs, rfl, rfl, h0, r0⟩ := trodAll_cons hA
  obtain ⟨v1, vs1, d1, ds1, p1, q1, rfl, rfl, rfl, h1, r1⟩ := trodAll_cons r0
  obtain ⟨rfl, rfl, rfl⟩ := trodAll_nil r1
  obtain rfl : args = #[v0, v1] := by cases args; simp_all
  obtain ⟨rfl, rfl⟩ := trodVars_none hV
  obtain ⟨a0, rfl, rfl, rfl, w0⟩ := open_int Try.underlying3 (hval 0 3 v0 rfl rfl) h0
  obtain ⟨a1, rfl, rfl, rfl⟩ := open_bool Try.underlying4 (hval 1 4 v1 rfl rfl) h1
  clear hA0
  refine (walk a0 a1 W w0 hsh).mono fun e W' ⟨he, bel⟩ => ?_
  subst he
  exact ⟨_, rfl, _, _, _, [], _, [], hW', trodAll_mk1 (shut_bool Try.underlying4 _), (trodAll_cons_mk (shut_int Try.underlying3 w0) (trodAll_cons_mk (shut_bool Try.underlying4 _) trodAll_mk0)), rfl, bel.frame _, fun h => by cases h⟩

theorem laid_met (os : Os) : laidMet Try.prog Rows.udpBoundsRow.laid ((World.doorLaid Try.prog 24 os).forCall (fun _ _ => 0) ⟨#[], #[.int .i64 0, .bool false], []⟩).memory :=
  laidMet_of_run' 8 (by kernel_rfl) (by kernel_rfl)
theorem reads (os : Os) {H : Type} (enc : TypeId × Value → H) : ∃ places, DataW.whole enc Try.prog ((World.doorLaid Try.prog 24 os).forCall (fun _ _ => 0) ⟨#[], #[.int .i64 0, .bool false], []⟩).memory Try.f6.params.toList Rows.udpBoundsSpec.vars false (#[.int .i64 0, .bool false] : Array Value).toList 8 = some ([.lit (.int .i64 0), .lit (.bool false)], [], places) :=
  ⟨[], by kernel_rfl⟩

set_option maxRecDepth 100000 in
theorem lifted (os : Os) (started : os.Started) (H : Type) (enc : TypeId × Value → H) (F : Stop.Interp) :
    ReturnsInHanded {} Try.checked os 6 .any ((OpenSpec.ofChange Rows.udpBoundsSpec).preRow enc Try.prog Try.f6 Rows.udpBoundsRow.domain false Rows.udpBoundsRow.laid) (((OpenSpec.ofChange Rows.udpBoundsSpec).at F).post enc Try.prog Try.f6 false true false false) := by
  obtain ⟨places, hx⟩ := reads os enc
  refine returnsInHanded_of_row (C := Try.checked) (s := (OpenSpec.ofChange Rows.udpBoundsSpec)) own started (by kernel_rfl) Try.func6
    (witness_row_at (enc := enc) (C := Try.checked) false (World.doorLaid Try.prog 24 os) #[.int .i64 0, .bool false] rfl (by kernel_rfl) (by kernel_rfl) (by kernel_rfl)
      (OpenSpec.preRow_of_cond 8 hx (by kernel_rfl) (fun k hk => by cases hk) (by kernel_rfl) (laid_met os))) ?_
  intro W base args ds gs before hval hW _ hcond _ hL hsh _
  exact contract H enc W base args ds gs before hval hW hsh

theorem said : Rows.UdpBoundsSaid :=
  OpenClaim.holds_of_cond 6 Try.f6 rfl rfl rfl rfl rfl rfl rfl ⟨rfl, rfl, rfl, rfl, rfl⟩ rfl rfl rfl rfl rfl (by kernel_rfl) Try.func6 (by kernel_rfl)
    (of_decide_eq_true (by kernel_rfl)) (by unfold Func.isWrapper; first | (rw [if_pos (by decide +kernel)]; kernel_rfl) | (rw [if_neg (by decide +kernel)]; exact ⟨rfl, rfl⟩))
    (fun os started H enc _ F => by rw [OpenClaim.pre_eq_preRow]; exact lifted os started H enc F)

end Go.Proofs.Ytgbpljkfefdilaa.udpBounds

namespace Go.Proofs.Ytgbpljkfefdilaa
theorem udpBounds_holds : Rows.UdpBoundsSaid := udpBounds.said
#print axioms udpBounds_holds
end Go.Proofs.Ytgbpljkfefdilaa
