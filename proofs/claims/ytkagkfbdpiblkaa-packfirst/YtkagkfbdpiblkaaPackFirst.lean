/- For every two ports, number and bool, the law PackFirst returns true: of a first part of a datagram the ports are told, though its length is more than is there; of a whole one it is refused; no condition. -/
import Derived.Test.YtkagkfbdpiblkaaRows
import Derived.Test.YtkagkfbdpiblkaaPack7
import Derived.Test.YtkagkfbdpiblkaaPackQ
import Derived.Test.YtkagkfbdpiblkaaUdp7
import Derived.Test.YtkagkfbdpiblkaaIp9
import Derived.Test.YtkagkfbdpiblkaaFrame
import Derived.WalkKit
import Derived.ProofKit
import Derived.OpenShut
import Derived.ShutString
import Derived.ChangeOld
import Derived.Deep.DeepHandedRow
import Derived.Lib.LaidTab
import Derived.Lib.SmallJoins
import Derived.LaidMore
import Derived.Stop.LaidErr
import Derived.ChangeMaps5
namespace Go.Proofs.Ytkagkfbdpiblkaa.packFirst
open Go.ChangeShapes Go.WideShapes Go.ChangeAt Go.RowKit Go.ChangeMaps
set_option linter.unusedVariables false
set_option maxRecDepth 100000

theorem own : ownKnob Try.prog.godebug = none := by kernel_rfl
theorem laidOut : laidOutB Try.prog = true := by kernel_rfl

set_option maxHeartbeats 4000000 in
theorem walk (a0 : Int) (a1 : Int) (a2 : Int) (a3 : Bool) (w : World) (w0 : (Lit.int .u16 a0).wf = true) (w1 : (Lit.int .u16 a1).wf = true) (w2 : (Lit.int .i64 a2).wf = true) (hsh : w.ShapedOpen Try.prog) :
    Calls Try.prog 7 #[.int .u16 a0, .int .u16 a1, .int .i64 a2, .bool a3] w fun e w' => e = .returned (.bool true) ∧ Below w.heap.size w w' := by
  have ba := bounds_u16 w0
  have bb := bounds_u16 w1
  by_cases hlo : a2 < 1
  · go_enter Try.func7, Try.ntmps7
    go_wp2
    go_ret
    exact ⟨rfl, Ext.refl _⟩
  by_cases hhi : 500 < a2
  · have hlo' : 1 ≤ a2 := by omega
    go_enter Try.func7, Try.ntmps7
    go_wp2
    go_ret
    exact ⟨rfl, Ext.refl _⟩
  obtain ⟨n, rfl⟩ : ∃ n : Nat, a2 = n := ⟨a2.toNat, by omega⟩
  obtain ⟨m, hm⟩ : ∃ m, 8 + n = m := ⟨_, rfl⟩
  obtain ⟨N, hN⟩ : ∃ N, 8 + m = N := ⟨_, rfl⟩
  have hf := Pack.datF_fits ba.1 ba.2 bb.1 bb.2 (show n ≤ 500 by omega)
  have hd : Pack.datF a0 a1 n = ⟨a0, a1, List.replicate m 0⟩ := by unfold Pack.datF; rw [hm]
  have okY : BytesOk (Udp.buildV 1 2 (Pack.datF a0 a1 n)) := Udp.build_ok 1 2 (Pack.noughts_ok _)
  have cb := fun W (h : Bytes W (some ⟨w.heap.size, 0, none⟩) m (Pack.datF a0 a1 n).data) => (Udp.refBuild_own 1 2 (Pack.datF a0 a1 n) (some ⟨w.heap.size, 0, none⟩) m m W h (by simp) hf (by omega) (by omega) (by omega) (by omega) N hN).mono
    (fun e w' (h : Udp.RefBuildOwn W 1 2 (Pack.datF a0 a1 n) N e w') => (show ∃ q c, e = .returned (.tuple #[.slice q N c, .int .i64 0]) ∧ w'.ownsRow W.heap.size 5 1 (.slice q N c) N ((Udp.buildV 1 2 (Pack.datF a0 a1 n)).map (Value.int .u8)) ∧ Ext W w' from h))
  have okF := fun f => build_ok (Pack.ipF_fine a0 a1 n f) (Pack.ipF_fits a0 a1 n f)
  have ci := fun f q c W (h : Bytes W q 16 ((Udp.buildV 1 2 (Pack.datF a0 a1 n)).take 16)) (hz : q = none → c = 0) => (refBuild_own (Pack.ipF a0 a1 n f) none 0 0 q 16 c W (bytes_nil W) (fun _ => rfl) h hz (Pack.ipF_fine a0 a1 n f) (Pack.ipF_fits a0 a1 n f) (by omega)).mono
    (fun e w' (h : RefBuildOwn W (Pack.ipF a0 a1 n f) 36 e w') => (show ∃ q c, e = .returned (.tuple #[.slice q 36 c, .int .i64 0]) ∧ w'.ownsRow W.heap.size 5 1 (.slice q 36 c) 36 ((buildV (Pack.ipF a0 a1 n f)).map (Value.int .u8)) ∧ Ext W w' from h))
  have cp := fun f q c W (h : Bytes W q 36 (buildV (Pack.ipF a0 a1 n f))) (hc : 36 ≤ c) => (Pack.packParse_any q 36 c _ W h hc (by omega)).mono
    (fun e w' (h : Pack.PackAns W _ e w') => (show ∃ v, e = .returned (.tuple #[v, .int .i64 (Pack.lookX (buildV (Pack.ipF a0 a1 n f)))]) ∧ Pack.IsPkt w' v (Pack.packX (buildV (Pack.ipF a0 a1 n f))) ∧ Ext W w' from h))
  obtain ⟨f1, f2⟩ := Pack.ipF_whole hf (show 1 ≤ n by omega)
  obtain ⟨f3, f4⟩ := Pack.ipF_first hf
  have cp0 := cp false
  have cp1 := cp true
  rw [f1, f2] at cp0
  rw [f3, f4] at cp1
  clear f1 f2 f3 f4 cp
  have hd16 : (N : Int) - (n : Int) = 16 := by omega
  have hdd : (Pack.datF a0 a1 n).data = List.replicate m 0 := by rw [hd]
  rw [hdd] at cb
  rw [hd] at cb ci okY
  generalize Udp.buildV 1 2 ⟨a0, a1, List.replicate m 0⟩ = Y at *
  have v0 := wraps_i64 a0 ba.1 (by omega)
  have v1 := wraps_i64 a1 bb.1 (by omega)
  obtain ⟨i0, hi, hz0, hz1, hz2⟩ := info_parts Try.infoByte
  cases a3 with
  | false =>
    have ci := ci false
    have okF := okF false
    generalize buildV (Pack.ipF a0 a1 n false) = F at *
    simp only [Pack.ipF, Pack.zeroPkt, zeroIP] at ci cp0
    clear cp1 hd hdd hf
    go_enter Try.func7, Try.ntmps7
    go_wp2_with (first
      | (at_make; refine make_bytes rfl (.tmp 27) (.tmp 27) 22 rfl 5 i0 Try.underlying22 hi hz0 hz1 hz2 .i64 .i64 _ _ m rfl rfl (by omega) (by omega) (by omega) ?_; intro w1 hg1 hb1; have hx1 : Ext w w1 := hb1; clear hb1; have b1 := noughts_bytes hg1 (by omega))
      | (go_at_call 26; refine (cb _ b1).mono ?_; rintro e w2 ⟨q, c, rfl, ho, hx2⟩; obtain ⟨b2, z2, hc2⟩ := owns_slice ho okY; obtain ⟨gb, off, rfl, _⟩ := b2.cell (k := 0) (by omega); have t2 := b2.take (n := 16) (by omega); have hcc : (16 : Int) ≤ (c : Int) := by omega)
      | (go_at_call 21; refine (ci _ _ _ t2 (by simp)).mono ?_; rintro e w3 ⟨q3, c3, rfl, ho3, hx3⟩; obtain ⟨b3, z3, hc3⟩ := owns_slice ho3 okF)
      | (go_at_call 8; refine (cp0 _ _ _ b3 hc3).mono ?_; rintro e w4 ⟨v, rfl, ⟨⟨g1, l1, e1, g2, l2, e2, kp, rfl, hg1, hg2, hk1⟩⟩, hx4⟩; dsimp only)
      | (refine wpl_store (by rfl) 28 _ _ rfl rfl 18 w4.heap.size _ _ _ rfl rfl (heap_new' w4 _) Pack.pkt_size rfl rfl (by simp [Value.oneCell']) ?_; intro w5 hx5 k5; have hx45 : Ext w4 w5 := ExtX.ext ((Ext.refl w4).alloc _) hx5 (Nat.le_refl _))
      | (go_at_call 11; refine (Pack.known_any _).mono ?_; rintro e w6 ⟨rfl, hx6⟩))
    go_ret
    exact ⟨rfl, hx1.trans (hx2.trans (hx3.trans (hx4.trans (hx45.trans hx6))))⟩
  | true =>
    have ci := ci true
    have okF := okF true
    generalize buildV (Pack.ipF a0 a1 n true) = F at *
    simp only [Pack.ipF] at ci cp1
    clear cp0 hd hdd hf
    go_enter Try.func7, Try.ntmps7
    go_wp2_with (first
      | (at_make; refine make_bytes rfl (.tmp 27) (.tmp 27) 22 rfl 5 i0 Try.underlying22 hi hz0 hz1 hz2 .i64 .i64 _ _ m rfl rfl (by omega) (by omega) (by omega) ?_; intro w1 hg1 hb1; have hx1 : Ext w w1 := hb1; clear hb1; have b1 := noughts_bytes hg1 (by omega))
      | (go_at_call 26; refine (cb _ b1).mono ?_; rintro e w2 ⟨q, c, rfl, ho, hx2⟩; obtain ⟨b2, z2, hc2⟩ := owns_slice ho okY; obtain ⟨gb, off, rfl, _⟩ := b2.cell (k := 0) (by omega); have t2 := b2.take (n := 16) (by omega); have hcc : (16 : Int) ≤ (c : Int) := by omega)
      | (go_at_call 21; refine (ci _ _ _ t2 (by simp)).mono ?_; rintro e w3 ⟨q3, c3, rfl, ho3, hx3⟩; obtain ⟨b3, z3, hc3⟩ := owns_slice ho3 okF)
      | (go_at_call 8; refine (cp1 _ _ _ b3 hc3).mono ?_; rintro e w4 ⟨v, rfl, ⟨⟨g1, l1, e1, g2, l2, e2, kp, rfl, hg1, hg2, hk1⟩⟩, hx4⟩; dsimp only)
      | (refine wpl_store (by rfl) 28 _ _ rfl rfl 18 w4.heap.size _ _ _ rfl rfl (heap_new' w4 _) Pack.pkt_size rfl rfl (by simp [Value.oneCell']) ?_; intro w5 hx5 k5; have hx45 : Ext w4 w5 := ExtX.ext ((Ext.refl w4).alloc _) hx5 (Nat.le_refl _); have mb := heap_cell (k := 11) k5; have mc := heap_cell (k := 12) k5; have md := heap_cell (k := 13) k5; clear k5)
      | (go_at_call 11; refine (Pack.known_any _).mono ?_; rintro e w6 ⟨rfl, hx6⟩))
    go_ret
    exact ⟨rfl, hx1.trans (hx2.trans (hx3.trans (hx4.trans (hx45.trans hx6))))⟩

theorem contract (H : Type) (enc : TypeId × Value → H) (W : World) (base : Nat) (args : Array Value) (ds gs : List (DataW H)) (before : List MemPlace)
    (hval : ∀ (j : Nat) t v, Try.f7.params[j]? = some t → args[j]? = some v → Value.okWide Try.prog W .any base t v)
    (hW : DataW.Whole enc Try.prog Try.f7.params.toList Rows.packFirstSpec.vars false W args.toList ds gs before) (hsh : W.ShapedOpen Try.prog) :
    Calls Try.prog 7 args W fun e W' => ∃ v, e = .returned v ∧ Rows.packFirstSpec.post enc Try.prog Try.f7 false true false false W args v W' := by
  have hW' := hW
  obtain ⟨p, q, hA0, hV, rfl, hfz, hnd⟩ := hW
  have hA : DataW.TrodAll enc Try.prog W 0 (fun _ => true) true Try.f7.params.toList args.toList ds p := hA0
  rw [Try.params7] at hA hval
  obtain ⟨v0, vs0, d0, ds0, p0, q0, hargs, rfl, rfl, h0, r0⟩ := trodAll_cons hA
  obtain ⟨v1, vs1, d1, ds1, p1, q1, rfl, rfl, rfl, h1, r1⟩ := trodAll_cons r0
  obtain ⟨v2, vs2, d2, ds2, p2, q2, rfl, rfl, rfl, h2, r2⟩ := trodAll_cons r1
  obtain ⟨v3, vs3, d3, ds3, p3, q3, rfl, rfl, rfl, h3, r3⟩ := trodAll_cons r2
  obtain ⟨rfl, rfl, rfl⟩ := trodAll_nil r3
  obtain rfl : args = #[v0, v1, v2, v3] := by cases args; simp_all
  obtain ⟨rfl, rfl⟩ := trodVars_none hV
  obtain ⟨a0, rfl, rfl, rfl, w0⟩ := open_int Try.underlying56 (hval 0 56 v0 rfl rfl) h0
  obtain ⟨a1, rfl, rfl, rfl, w1⟩ := open_int Try.underlying56 (hval 1 56 v1 rfl rfl) h1
  obtain ⟨a2, rfl, rfl, rfl, w2⟩ := open_int Try.underlying3 (hval 2 3 v2 rfl rfl) h2
  obtain ⟨a3, rfl, rfl, rfl⟩ := open_bool Try.underlying4 (hval 3 4 v3 rfl rfl) h3
  clear hA0
  refine (walk a0 a1 a2 a3 W w0 w1 w2 hsh).mono fun e W' ⟨he, bel⟩ => ?_
  subst he
  exact ⟨_, rfl, _, _, _, [], _, [], hW', trodAll_mk1 (shut_bool Try.underlying4 _), (trodAll_cons_mk (shut_int Try.underlying56 w0) (trodAll_cons_mk (shut_int Try.underlying56 w1) (trodAll_cons_mk (shut_int Try.underlying3 w2) (trodAll_cons_mk (shut_bool Try.underlying4 _) trodAll_mk0)))), rfl, bel.frame _, fun h => by cases h⟩

theorem laid_met (os : Os) : laidMet Try.prog Rows.packFirstRow.laid ((World.doorLaid Try.prog 24 os).forCall (fun _ _ => 0) ⟨#[], #[.int .u16 0, .int .u16 0, .int .i64 0, .bool false], []⟩).memory :=
  laidMet_of_run' 8 (by kernel_rfl) (by kernel_rfl)
theorem reads (os : Os) {H : Type} (enc : TypeId × Value → H) : ∃ places, DataW.whole enc Try.prog ((World.doorLaid Try.prog 24 os).forCall (fun _ _ => 0) ⟨#[], #[.int .u16 0, .int .u16 0, .int .i64 0, .bool false], []⟩).memory Try.f7.params.toList Rows.packFirstSpec.vars false (#[.int .u16 0, .int .u16 0, .int .i64 0, .bool false] : Array Value).toList 8 = some ([.lit (.int .u16 0), .lit (.int .u16 0), .lit (.int .i64 0), .lit (.bool false)], [], places) :=
  ⟨[], by kernel_rfl⟩

set_option maxRecDepth 100000 in
theorem lifted (os : Os) (started : os.Started) (H : Type) (enc : TypeId × Value → H) (F : Stop.Interp) :
    ReturnsInHanded {} Try.checked os 7 .any ((OpenSpec.ofChange Rows.packFirstSpec).preRow enc Try.prog Try.f7 Rows.packFirstRow.domain false Rows.packFirstRow.laid) (((OpenSpec.ofChange Rows.packFirstSpec).at F).post enc Try.prog Try.f7 false true false false) := by
  obtain ⟨places, hx⟩ := reads os enc
  refine returnsInHanded_of_row (C := Try.checked) (s := (OpenSpec.ofChange Rows.packFirstSpec)) own started (by kernel_rfl) Try.func7
    (witness_row_at (enc := enc) (C := Try.checked) false (World.doorLaid Try.prog 24 os) #[.int .u16 0, .int .u16 0, .int .i64 0, .bool false] rfl (by kernel_rfl) (by kernel_rfl) (by kernel_rfl)
      (OpenSpec.preRow_of_cond 8 hx (by kernel_rfl) (fun k hk => by cases hk) (by kernel_rfl) (laid_met os))) ?_
  intro W base args ds gs before hval hW _ hcond _ hL hsh _
  exact contract H enc W base args ds gs before hval hW hsh

theorem said : Rows.PackFirstSaid :=
  OpenClaim.holds_of_cond 7 Try.f7 rfl rfl rfl rfl rfl rfl rfl ⟨rfl, rfl, rfl, rfl, rfl⟩ rfl rfl rfl rfl rfl (by kernel_rfl) Try.func7 (by kernel_rfl)
    (of_decide_eq_true (by kernel_rfl)) (by unfold Func.isWrapper; first | (rw [if_pos (by decide +kernel)]; kernel_rfl) | (rw [if_neg (by decide +kernel)]; exact ⟨rfl, rfl⟩))
    (fun os started H enc _ F => by rw [OpenClaim.pre_eq_preRow]; exact lifted os started H enc F)

end Go.Proofs.Ytkagkfbdpiblkaa.packFirst

namespace Go.Proofs.Ytkagkfbdpiblkaa
theorem packFirst_holds : Rows.PackFirstSaid := packFirst.said
#print axioms packFirst_holds
end Go.Proofs.Ytkagkfbdpiblkaa
