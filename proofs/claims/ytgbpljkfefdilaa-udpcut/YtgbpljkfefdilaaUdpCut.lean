/- For every bytes and every number, the law UdpCut returns true: a datagram that is cut short is too short, wherever it is cut; no condition. -/
import Derived.Test.YtgbpljkfefdilaaRows
import Derived.Test.YtgbpljkfefdilaaUdp4K
import Derived.Test.YtgbpljkfefdilaaFrame
import Derived.WalkKit
import Derived.ProofKit
import Derived.OpenShut
import Derived.ShutString
import Derived.ChangeOld
import Derived.Deep.DeepHandedRow
import Derived.Lib.LaidTab
import Derived.Lib.SmallJoins
import Derived.LaidMore
import Derived.Stop.LaidErr
import Derived.ChangeMaps5
namespace Go.Proofs.Ytgbpljkfefdilaa.udpCut
open Go.ChangeShapes Go.WideShapes Go.ChangeAt Go.RowKit Go.ChangeMaps
set_option linter.unusedVariables false

theorem own : ownKnob Try.prog.godebug = none := by kernel_rfl
theorem laidOut : laidOutB Try.prog = true := by kernel_rfl

set_option maxHeartbeats 4000000 in
theorem walk (a0 : Option Addr) (len0 cap0 : Nat) (zs0 : List Int) (a1 : Int) (w : World) (row0 : IsRow .u8 w a0 len0 cap0 zs0) (w1 : (Lit.int .i64 a1).wf = true) (hsh : w.ShapedOpen Try.prog) :
    Calls Try.prog 5 #[.slice a0 len0 cap0, .int .i64 a1] w fun e w' => e = .returned (.bool true) ∧ Below w.heap.size w w' := by
  have r := row0.bytes
  have z := row0.nil_cap
  by_cases hlong : 1000 < len0
  · go_enter Try.func5, Try.ntmps5
    go_wp2
    go_ret
    exact ⟨rfl, Ext.refl _⟩
  have l : (⟨3, 4, zs0.take len0⟩ : Udp.DATv).data.length = len0 := r.length
  have hp : Udp.Fits ⟨3, 4, zs0.take len0⟩ := ⟨by dsimp only; omega, by dsimp only; omega, by dsimp only; omega, by dsimp only; omega, by rw [l]; omega⟩
  obtain ⟨N, hN⟩ : ∃ N, 8 + len0 = N := ⟨_, rfl⟩
  have cb := fun w h => Udp.build_good 1 2 ⟨3, 4, zs0.take len0⟩ a0 len0 cap0 w h z hp (by omega) (by omega) (by omega) (by omega) N hN
  have HB : Hid (∀ w e w', Udp.BuildAns w 1 2 ⟨3, 4, zs0.take len0⟩ N e w' → ∃ q c, e = .returned (.tuple #[.slice q N c, .int .i64 0]) ∧ w'.ownsRow w.heap.size 5 1 (.slice q N c) N ((Udp.buildV 1 2 ⟨3, 4, zs0.take len0⟩).map (Value.int .u8)) ∧ Ext w w') := fun w e w' h => h
  have okY := Udp.build_ok (p := ⟨3, 4, zs0.take len0⟩) 1 2 r.ok
  have hN0 : 8 ≤ N := by omega
  have hN1 : N ≤ 1008 := by omega
  have hand := i64_and16 a1
  obtain ⟨k, hk⟩ : ∃ k : Nat, a1 % 65536 % (N : Int) = (k : Int) := ⟨(a1 % 65536 % (N : Int)).toNat, by have := Int.emod_nonneg (a1 % 65536) (show (N : Int) ≠ 0 by omega); omega⟩
  have hkN : k < N := by have := Int.emod_lt_of_pos (a1 % 65536) (show (0 : Int) < N by omega); omega
  have hcut : Udp.lookV ((Udp.buildV 1 2 ⟨3, 4, zs0.take len0⟩).take k) = 3 := Udp.cut_short 1 2 hp k (by rw [l]; omega)
  have cp := fun q c w h hc => Udp.parse_not q k c ((Udp.buildV 1 2 ⟨3, 4, zs0.take len0⟩).take k) 3 w h hc (by omega) hcut (by omega)
  clear hcut hp l
  dsimp only [Udp.zeroDat] at *
  generalize Udp.BuildAns = BA at *
  generalize Udp.buildV 1 2 ⟨3, 4, zs0.take len0⟩ = Y at *
  have HN : Hid _ := hN
  clear hN
  go_enter Try.func5, Try.ntmps5
  go_wp2_with (first
    | (go_at_call 9; refine (cb _ r).mono ?_; intro e w3 hB; obtain ⟨q, c, rfl, ho, hx3⟩ := HB.out _ _ _ hB; clear hB; obtain ⟨hb, hz, hc'⟩ := owns_slice ho okY; clear ho; have hbt := hb.take (n := k) (by omega); have hkc : k ≤ c := (by omega))
    | (go_at_call 7; refine (cp q c _ hbt hkc).mono ?_; rintro e w4 ⟨g1, m1, e1, rfl, _, _, hx4⟩; have hx14 := (hx3.trans hx4).alloc (.cells #[.int .i64 0, .int .i64 0, .slice g1 m1 e1] 25))
    | (go_at_call 13; refine (Udp.known_any _).mono ?_; rintro e w5 ⟨rfl, hx5⟩))
  go_ret
  exact ⟨rfl, hx14.trans hx5⟩

theorem contract (H : Type) (enc : TypeId × Value → H) (W : World) (base : Nat) (args : Array Value) (ds gs : List (DataW H)) (before : List MemPlace)
    (hval : ∀ (j : Nat) t v, Try.f5.params[j]? = some t → args[j]? = some v → Value.okWide Try.prog W .any base t v)
    (hW : DataW.Whole enc Try.prog Try.f5.params.toList Rows.udpCutSpec.vars false W args.toList ds gs before) (hsh : W.ShapedOpen Try.prog) :
    Calls Try.prog 5 args W fun e W' => ∃ v, e = .returned v ∧ Rows.udpCutSpec.post enc Try.prog Try.f5 false true false false W args v W' := by
  have hW' := hW
  obtain ⟨p, q, hA0, hV, rfl, hfz, hnd⟩ := hW
  have hA : DataW.TrodAll enc Try.prog W 0 (fun _ => true) true Try.f5.params.toList args.toList ds p := hA0
  rw [Try.params5] at hA hval
  obtain ⟨v0, vs0, d0, ds0, p0, q0, hargs, rfl, rfl, h0, r0⟩ := trodAll_cons hA
  obtain ⟨v1, vs1, d1, ds1, p1, q1, rfl, rfl, rfl, h1, r1⟩ := trodAll_cons r0
  obtain ⟨rfl, rfl, rfl⟩ := trodAll_nil r1
  obtain rfl : args = #[v0, v1] := by cases args; simp_all
  obtain ⟨rfl, rfl⟩ := trodVars_none hV
  have k0 := h0
  have lt0 : ∀ x ∈ p0, x.block < W.heap.size := by obtain ⟨m, hm⟩ := k0; exact DataW.trod_lt m _ _ _ hm
  obtain ⟨b0, l0, c0, rfl⟩ := okWide_slice Try.underlying22 (hval 0 22 v0 rfl rfl)
  obtain ⟨fu0, hf0⟩ := h0
  obtain ⟨a0, len0, cap0, zs0, ce0, row0⟩ := open_rowI Try.underlying22 Try.underlying5 (by kernel_rfl) (fun _ => rfl) hf0
  obtain ⟨rfl, rfl, rfl⟩ : a0 = b0 ∧ len0 = l0 ∧ cap0 = c0 := by simpa [Value.cells, eq_comm] using ce0
  obtain ⟨a1, rfl, rfl, rfl, w1⟩ := open_int Try.underlying3 (hval 1 3 v1 rfl rfl) h1
  clear hA0
  refine (walk a0 len0 cap0 zs0 a1 W row0 w1 hsh).mono fun e W' ⟨he, bel⟩ => ?_
  subst he
  exact ⟨_, rfl, _, _, _, [], _, [], hW', trodAll_mk1 (shut_bool Try.underlying4 _), (trodAll_cons_mk (Below.trod laidOut (by kernel_rfl) (of_decide_eq_true (by kernel_rfl)) k0 bel lt0) (trodAll_cons_mk (shut_int Try.underlying3 w1) trodAll_mk0)), rfl, bel.frame _, fun h => by cases h⟩

theorem laid_met (os : Os) : laidMet Try.prog Rows.udpCutRow.laid ((World.doorLaid Try.prog 24 os).forCall (fun _ _ => 0) ⟨#[], #[.slice none 0 0, .int .i64 0], []⟩).memory :=
  laidMet_of_run' 8 (by kernel_rfl) (by kernel_rfl)
theorem reads (os : Os) {H : Type} (enc : TypeId × Value → H) : ∃ places, DataW.whole enc Try.prog ((World.doorLaid Try.prog 24 os).forCall (fun _ _ => 0) ⟨#[], #[.slice none 0 0, .int .i64 0], []⟩).memory Try.f5.params.toList Rows.udpCutSpec.vars false (#[.slice none 0 0, .int .i64 0] : Array Value).toList 8 = some ([.nil, .lit (.int .i64 0)], [], places) :=
  ⟨[], by kernel_rfl⟩

set_option maxRecDepth 100000 in
theorem lifted (os : Os) (started : os.Started) (H : Type) (enc : TypeId × Value → H) (F : Stop.Interp) :
    ReturnsInHanded {} Try.checked os 5 .any ((OpenSpec.ofChange Rows.udpCutSpec).preRow enc Try.prog Try.f5 Rows.udpCutRow.domain false Rows.udpCutRow.laid) (((OpenSpec.ofChange Rows.udpCutSpec).at F).post enc Try.prog Try.f5 false true false false) := by
  obtain ⟨places, hx⟩ := reads os enc
  refine returnsInHanded_of_row (C := Try.checked) (s := (OpenSpec.ofChange Rows.udpCutSpec)) own started (by kernel_rfl) Try.func5
    (witness_row_at (enc := enc) (C := Try.checked) false (World.doorLaid Try.prog 24 os) #[.slice none 0 0, .int .i64 0] rfl (by kernel_rfl) (by kernel_rfl) (by kernel_rfl)
      (OpenSpec.preRow_of_cond 8 hx (by kernel_rfl) (fun k hk => by cases hk) (by kernel_rfl) (laid_met os))) ?_
  intro W base args ds gs before hval hW _ hcond _ hL hsh _
  exact contract H enc W base args ds gs before hval hW hsh

theorem said : Rows.UdpCutSaid :=
  OpenClaim.holds_of_cond 5 Try.f5 rfl rfl rfl rfl rfl rfl rfl ⟨rfl, rfl, rfl, rfl, rfl⟩ rfl rfl rfl rfl rfl (by kernel_rfl) Try.func5 (by kernel_rfl)
    (of_decide_eq_true (by kernel_rfl)) (by unfold Func.isWrapper; first | (rw [if_pos (by decide +kernel)]; kernel_rfl) | (rw [if_neg (by decide +kernel)]; exact ⟨rfl, rfl⟩))
    (fun os started H enc _ F => by rw [OpenClaim.pre_eq_preRow]; exact lifted os started H enc F)

end Go.Proofs.Ytgbpljkfefdilaa.udpCut

namespace Go.Proofs.Ytgbpljkfefdilaa
theorem udpCut_holds : Rows.UdpCutSaid := udpCut.said
#print axioms udpCut_holds
end Go.Proofs.Ytgbpljkfefdilaa
