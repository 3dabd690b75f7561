/- For every two addresses, ports and bytes, the law UdpBack returns true: a datagram that is built is parsed as it was, whatever stands behind, and its sum is right and not 0; no condition. -/
import Derived.Test.YtgbpljkfefdilaaRows
import Derived.Test.YtgbpljkfefdilaaUdp4K
import Derived.Test.YtgbpljkfefdilaaUdp5R
import Derived.Test.YtgbpljkfefdilaaPseudoO
import Derived.Test.YtgbpljkfefdilaaRef2
import Derived.Test.YtgbpljkfefdilaaFrame
import Derived.WalkKit
import Derived.ProofKit
import Derived.OpenShut
import Derived.ShutString
import Derived.ChangeOld
import Derived.Deep.DeepHandedRow
import Derived.Lib.LaidTab
import Derived.Lib.SmallJoins
import Derived.LaidMore
import Derived.Stop.LaidErr
import Derived.ChangeMaps5
namespace Go.Proofs.Ytgbpljkfefdilaa.udpBack
open Go.ChangeShapes Go.WideShapes Go.ChangeAt Go.RowKit Go.ChangeMaps
set_option linter.unusedVariables false

theorem own : ownKnob Try.prog.godebug = none := by kernel_rfl
theorem laidOut : laidOutB Try.prog = true := by kernel_rfl

set_option maxHeartbeats 4000000 in
theorem walk (a0 : Int) (a1 : Int) (a2 : Int) (a3 : Int) (a4 : Option Addr) (len4 cap4 : Nat) (zs4 : List Int) (a5 : Option Addr) (len5 cap5 : Nat) (zs5 : List Int) (w : World) (w0 : (Lit.int .u32 a0).wf = true) (w1 : (Lit.int .u32 a1).wf = true) (w2 : (Lit.int .u16 a2).wf = true) (w3 : (Lit.int .u16 a3).wf = true) (row4 : IsRow .u8 w a4 len4 cap4 zs4) (row5 : IsRow .u8 w a5 len5 cap5 zs5) (hsh : w.ShapedOpen Try.prog) :
    Calls Try.prog 4 #[.int .u32 a0, .int .u32 a1, .int .u16 a2, .int .u16 a3, .slice a4 len4 cap4, .slice a5 len5 cap5] w fun e w' => e = .returned (.bool true) ∧ Below w.heap.size w w' := by
  have bs := bounds_u32 w0
  have bd := bounds_u32 w1
  have ba := bounds_u16 w2
  have bb := bounds_u16 w3
  have r4 := row4.bytes
  have z4 := row4.nil_cap
  have r5 := row5.bytes
  have z5 := row5.nil_cap
  by_cases hlong : 1000 < len4
  · go_enter Try.func4, Try.ntmps4
    go_wp2
    go_ret
    exact ⟨rfl, Ext.refl _⟩
  by_cases hlonm : 100 < len5
  · go_enter Try.func4, Try.ntmps4
    go_wp2
    go_ret
    exact ⟨rfl, Ext.refl _⟩
  have l4 : (⟨a2, a3, zs4.take len4⟩ : Udp.DATv).data.length = len4 := r4.length
  have hp : Udp.Fits ⟨a2, a3, zs4.take len4⟩ := ⟨ba.1, ba.2, bb.1, bb.2, by rw [l4]; omega⟩
  obtain ⟨N, hN⟩ : ∃ N, 8 + len4 = N := ⟨_, rfl⟩
  have lY : (Udp.buildV a0 a1 ⟨a2, a3, zs4.take len4⟩).length = N := by rw [Udp.build_len, ← hN, l4]
  have cb := fun w h => Udp.build_good a0 a1 ⟨a2, a3, zs4.take len4⟩ a4 len4 cap4 w h z4 hp bs.1 bs.2 bd.1 bd.2 N hN
  have HB : Hid (∀ w e w', Udp.BuildAns w a0 a1 ⟨a2, a3, zs4.take len4⟩ N e w' → ∃ q c, e = .returned (.tuple #[.slice q N c, .int .i64 0]) ∧ w'.ownsRow w.heap.size 5 1 (.slice q N c) N ((Udp.buildV a0 a1 ⟨a2, a3, zs4.take len4⟩).map (Value.int .u8)) ∧ Ext w w') := fun w e w' h => h
  have okY := Udp.build_ok (p := ⟨a2, a3, zs4.take len4⟩) a0 a1 r4.ok
  have hN0 : 8 ≤ N := by omega
  have hN1 : N ≤ 1008 := by omega
  have hv := (Udp.looks_iff _).2 (Udp.build_looks a0 a1 hp (zs5.take len5))
  have pp := Udp.build_parse a0 a1 hp (zs5.take len5)
  have hr := Udp.build_right (p := ⟨a2, a3, zs4.take len4⟩) r4.ok bs.1 bs.2 bd.1 bd.2
  obtain ⟨x, y, hx6, hy7, hxy⟩ := Udp.build_sum (p := ⟨a2, a3, zs4.take len4⟩) r4.ok bs.1 bs.2 bd.1 bd.2
  have hE : Udp.pseuV a0 a1 ⟨a2, a3, zs4.take len4⟩ = pseudoV a0 a1 17 (N : Int) := by
    unfold Udp.pseuV; rw [l4, ← hN]; congr 1
  rw [hE] at hr
  have oP : BytesOk (pseudoV a0 a1 17 (N : Int)) := pseudoV_ok _ _ bs.1 bs.2 bd.1 bd.2
  have cE : ∀ w, _ := fun w => refPseudo_own a0 a1 17 (N : Int) w bs.1 bs.2 bd.1 bd.2 (by omega) (by omega) (by omega) (by omega)
  have lP : (pseudoV a0 a1 17 (N : Int)).length = 12 := rfl
  have cR := fun p c w h => refRight_any p (12 + N) c (pseudoV a0 a1 17 (N : Int) ++ Udp.buildV a0 a1 ⟨a2, a3, zs4.take len4⟩) w h (by omega)
  rw [hr, show decide ((0 : Int) = 0) = true by decide] at cR
  have cp := fun q c w h hc => Udp.parse_is q (N + len5) c (Udp.buildV a0 a1 ⟨a2, a3, zs4.take len4⟩ ++ zs5.take len5) ⟨a2, a3, zs4.take len4⟩ w h hc (by omega) hv pp
  have cs := fun g1 m1 e1 w h1 h2 => Udp.refSame_any ⟨a2, a3, zs4.take len4⟩ ⟨a2, a3, zs4.take len4⟩ a4 len4 cap4 g1 m1 e1 w h1 h2
  rw [Udp.sameV_self] at cs
  have hx0 : Ext w (w.alloc (.cells #[.int .i64 a2, .int .i64 a3, .slice a4 len4 cap4] 25)) := (Ext.refl w).alloc _
  obtain ⟨b0, b1, b2⟩ := box_datE (heap_new' w (.cells #[.int .i64 a2, .int .i64 a3, .slice a4 len4 cap4] 25))
  clear hv pp hr hE hp l4
  dsimp only at *
  generalize pseudoV a0 a1 17 (N : Int) = E at *
  generalize Udp.BuildAns = BA at *
  generalize Udp.buildV a0 a1 ⟨a2, a3, zs4.take len4⟩ = Y at *
  obtain ⟨i0, hi, hz0, hz1, hz2⟩ := info_parts Try.infoByte
  have okX := bytesOk_append oP okY
  have okZ := bytesOk_append okY r5.ok
  have HN : Hid _ := hN
  have tA : Hid True := trivial
  have tB : Hid True := trivial
  have H6 : Hid _ := hx6
  have H7 : Hid _ := hy7
  clear hx6 hy7
  have b6 : (6 : Int) < (N : Int) := by omega
  have b7 : (7 : Int) < (N : Int) := by omega
  have e4 : 8 + (len4 : Int) = (N : Int) := by omega
  have hxy' : x ≠ 0 ∨ (x = 0 ∧ y ≠ 0 ∧ (y == 0) = false ∧ decide (y = 0) = false ∧ (y != 0) = true) := by
    by_cases h : x = 0
    · have hy : y ≠ 0 := by omega
      exact .inr ⟨h, hy, by simpa using hy, by simpa using hy, by simpa using hy⟩
    · exact .inl h
  clear hxy
  rcases hxy' with hx | ⟨rfl, hy, hy1, hy2, hy3⟩
  all_goals
    go_enter Try.func4, Try.ntmps4
    go_wp2_with (first
      | (go_at_call 9; refine (cb _ (r4.below hx0)).mono ?_; intro e w3 hB; obtain ⟨q, c, rfl, ho, hx3⟩ := HB.out _ _ _ hB; clear hB; obtain ⟨hb, hz, hc⟩ := owns_slice ho okY; clear ho)
      | (at_builtin; clear tA; have hoE := own_empty w3; have hxe : Ext w3 (w3.alloc (.cells #[] 5)) := (Ext.refl _).alloc _; refine append_bytes (by rfl) (.tmp 40) (.tmp 41) 22 rfl w3.heap.size 5 i0 (.int .u8 0) Try.underlying22 hi hz0 hz1 hz2 rfl _ _ _ rfl hoE q N c _ rfl (hb.below hxe) hz (by omega) hxe.size ?_; intro v4 w4 ho4 hg4; have hx4 := grown_ext hxe hoE hg4; rw [Nat.zero_add, List.nil_append] at ho4; clear hg4 hoE)
      | (at_builtin; clear tB; refine append_bytes (by rfl) (.tmp 42) (.tmp 43) 22 rfl w3.heap.size 5 i0 (.int .u8 0) Try.underlying22 hi hz0 hz1 hz2 rfl _ _ _ rfl ho4 a5 len5 cap5 _ rfl (r5.below (hx0.trans (hx3.trans hx4))) z5 (by omega) hx4.size ?_; intro v5 w5 ho5 hg5; have hx5 := grown_ext hx4 ho4 hg5; obtain ⟨q5, c5, rfl⟩ := owns_shape ho5; obtain ⟨hb5, _, hc5⟩ := owns_slice ho5 okZ; clear hg5 ho4 ho5)
      | (go_at_call 7; refine (cp q5 c5 _ hb5 hc5).mono ?_; rintro e w6 ⟨g1, m1, e1, rfl, hq1, _, hx6⟩; have hx6a : Ext w6 (w6.alloc (.cells #[.int .i64 a2, .int .i64 a3, .slice g1 m1 e1] 25)) := (Ext.refl _).alloc _; have hx36 := hx5.trans (hx6.trans hx6a); have hx06 := hx3.trans hx36)
      | (go_at_call 11; refine (cs g1 m1 e1 _ (r4.below (hx0.trans hx06)) (hq1.below hx6a)).mono ?_; rintro e w7 ⟨rfl, hx7⟩; have hb7 := hb.below (hx36.trans hx7); have hx07 := hx06.trans hx7; obtain ⟨bq, oq, rfl, m6⟩ := hb7.cell (k := 6) (by omega); obtain ⟨bq', oq', hq', m7⟩ := hb7.cell (k := 7) (by omega); obtain ⟨rfl, rfl⟩ : bq = bq' ∧ oq = oq' := (by simpa using hq'); rw [H6.out] at m6; rw [H7.out] at m7)
      | (go_at_call 15; refine (cE w7).mono ?_; rintro e w8 ⟨pE, dE, rfl, hoE, hx8⟩; have hb8 := hb7.below hx8)
      | (at_builtin; refine append_bytes (by rfl) (.tmp 82) (.tmp 83) 22 rfl w7.heap.size 5 i0 (.int .u8 0) Try.underlying22 hi hz0 hz1 hz2 rfl _ _ _ rfl hoE _ N c _ rfl hb8 hz (by omega) hx8.size ?_; intro v9 w9 ho9 hg9; have hx9 := grown_ext hx8 hoE hg9; obtain ⟨a9, c9, rfl⟩ := owns_shape ho9; obtain ⟨hb9, _, _⟩ := owns_slice ho9 okX; clear hg9 ho9 hoE)
      | (go_at_call 14; refine (cR a9 c9 _ hb9).mono ?_; rintro e w10 ⟨rfl, rfl⟩)
      | (go_at_call 13; refine (Udp.known_any _).mono ?_; rintro e w11 ⟨rfl, hx11⟩))
    go_ret
    exact ⟨rfl, hx0.trans (hx07.trans (hx9.trans hx11))⟩

theorem contract (H : Type) (enc : TypeId × Value → H) (W : World) (base : Nat) (args : Array Value) (ds gs : List (DataW H)) (before : List MemPlace)
    (hval : ∀ (j : Nat) t v, Try.f4.params[j]? = some t → args[j]? = some v → Value.okWide Try.prog W .any base t v)
    (hW : DataW.Whole enc Try.prog Try.f4.params.toList Rows.udpBackSpec.vars false W args.toList ds gs before) (hsh : W.ShapedOpen Try.prog) :
    Calls Try.prog 4 args W fun e W' => ∃ v, e = .returned v ∧ Rows.udpBackSpec.post enc Try.prog Try.f4 false true false false W args v W' := by
  have hW' := hW
  obtain ⟨p, q, hA0, hV, rfl, hfz, hnd⟩ := hW
  have hA : DataW.TrodAll enc Try.prog W 0 (fun _ => true) true Try.f4.params.toList args.toList ds p := hA0
  rw [Try.params4] at hA hval
  obtain ⟨v0, vs0, d0, ds0, p0, q0, hargs, rfl, rfl, h0, r0⟩ := trodAll_cons hA
  obtain ⟨v1, vs1, d1, ds1, p1, q1, rfl, rfl, rfl, h1, r1⟩ := trodAll_cons r0
  obtain ⟨v2, vs2, d2, ds2, p2, q2, rfl, rfl, rfl, h2, r2⟩ := trodAll_cons r1
  obtain ⟨v3, vs3, d3, ds3, p3, q3, rfl, rfl, rfl, h3, r3⟩ := trodAll_cons r2
  obtain ⟨v4, vs4, d4, ds4, p4, q4, rfl, rfl, rfl, h4, r4⟩ := trodAll_cons r3
  obtain ⟨v5, vs5, d5, ds5, p5, q5, rfl, rfl, rfl, h5, r5⟩ := trodAll_cons r4
  obtain ⟨rfl, rfl, rfl⟩ := trodAll_nil r5
  obtain rfl : args = #[v0, v1, v2, v3, v4, v5] := by cases args; simp_all
  obtain ⟨rfl, rfl⟩ := trodVars_none hV
  obtain ⟨a0, rfl, rfl, rfl, w0⟩ := open_int Try.underlying23 (hval 0 23 v0 rfl rfl) h0
  obtain ⟨a1, rfl, rfl, rfl, w1⟩ := open_int Try.underlying23 (hval 1 23 v1 rfl rfl) h1
  obtain ⟨a2, rfl, rfl, rfl, w2⟩ := open_int Try.underlying38 (hval 2 38 v2 rfl rfl) h2
  obtain ⟨a3, rfl, rfl, rfl, w3⟩ := open_int Try.underlying38 (hval 3 38 v3 rfl rfl) h3
  have k4 := h4
  have lt4 : ∀ x ∈ p4, x.block < W.heap.size := by obtain ⟨m, hm⟩ := k4; exact DataW.trod_lt m _ _ _ hm
  obtain ⟨b4, l4, c4, rfl⟩ := okWide_slice Try.underlying22 (hval 4 22 v4 rfl rfl)
  obtain ⟨fu4, hf4⟩ := h4
  obtain ⟨a4, len4, cap4, zs4, ce4, row4⟩ := open_rowI Try.underlying22 Try.underlying5 (by kernel_rfl) (fun _ => rfl) hf4
  obtain ⟨rfl, rfl, rfl⟩ : a4 = b4 ∧ len4 = l4 ∧ cap4 = c4 := by simpa [Value.cells, eq_comm] using ce4
  have k5 := h5
  have lt5 : ∀ x ∈ p5, x.block < W.heap.size := by obtain ⟨m, hm⟩ := k5; exact DataW.trod_lt m _ _ _ hm
  obtain ⟨b5, l5, c5, rfl⟩ := okWide_slice Try.underlying22 (hval 5 22 v5 rfl rfl)
  obtain ⟨fu5, hf5⟩ := h5
  obtain ⟨a5, len5, cap5, zs5, ce5, row5⟩ := open_rowI Try.underlying22 Try.underlying5 (by kernel_rfl) (fun _ => rfl) hf5
  obtain ⟨rfl, rfl, rfl⟩ : a5 = b5 ∧ len5 = l5 ∧ cap5 = c5 := by simpa [Value.cells, eq_comm] using ce5
  clear hA0
  refine (walk a0 a1 a2 a3 a4 len4 cap4 zs4 a5 len5 cap5 zs5 W w0 w1 w2 w3 row4 row5 hsh).mono fun e W' ⟨he, bel⟩ => ?_
  subst he
  exact ⟨_, rfl, _, _, _, [], _, [], hW', trodAll_mk1 (shut_bool Try.underlying4 _), (trodAll_cons_mk (shut_int Try.underlying23 w0) (trodAll_cons_mk (shut_int Try.underlying23 w1) (trodAll_cons_mk (shut_int Try.underlying38 w2) (trodAll_cons_mk (shut_int Try.underlying38 w3) (trodAll_cons_mk (Below.trod laidOut (by kernel_rfl) (of_decide_eq_true (by kernel_rfl)) k4 bel lt4) (trodAll_cons_mk (Below.trod laidOut (by kernel_rfl) (of_decide_eq_true (by kernel_rfl)) k5 bel lt5) trodAll_mk0)))))), rfl, bel.frame _, fun h => by cases h⟩

theorem laid_met (os : Os) : laidMet Try.prog Rows.udpBackRow.laid ((World.doorLaid Try.prog 24 os).forCall (fun _ _ => 0) ⟨#[], #[.int .u32 0, .int .u32 0, .int .u16 0, .int .u16 0, .slice none 0 0, .slice none 0 0], []⟩).memory :=
  laidMet_of_run' 8 (by kernel_rfl) (by kernel_rfl)
theorem reads (os : Os) {H : Type} (enc : TypeId × Value → H) : ∃ places, DataW.whole enc Try.prog ((World.doorLaid Try.prog 24 os).forCall (fun _ _ => 0) ⟨#[], #[.int .u32 0, .int .u32 0, .int .u16 0, .int .u16 0, .slice none 0 0, .slice none 0 0], []⟩).memory Try.f4.params.toList Rows.udpBackSpec.vars false (#[.int .u32 0, .int .u32 0, .int .u16 0, .int .u16 0, .slice none 0 0, .slice none 0 0] : Array Value).toList 8 = some ([.lit (.int .u32 0), .lit (.int .u32 0), .lit (.int .u16 0), .lit (.int .u16 0), .nil, .nil], [], places) :=
  ⟨[], by kernel_rfl⟩

set_option maxRecDepth 100000 in
theorem lifted (os : Os) (started : os.Started) (H : Type) (enc : TypeId × Value → H) (F : Stop.Interp) :
    ReturnsInHanded {} Try.checked os 4 .any ((OpenSpec.ofChange Rows.udpBackSpec).preRow enc Try.prog Try.f4 Rows.udpBackRow.domain false Rows.udpBackRow.laid) (((OpenSpec.ofChange Rows.udpBackSpec).at F).post enc Try.prog Try.f4 false true false false) := by
  obtain ⟨places, hx⟩ := reads os enc
  refine returnsInHanded_of_row (C := Try.checked) (s := (OpenSpec.ofChange Rows.udpBackSpec)) own started (by kernel_rfl) Try.func4
    (witness_row_at (enc := enc) (C := Try.checked) false (World.doorLaid Try.prog 24 os) #[.int .u32 0, .int .u32 0, .int .u16 0, .int .u16 0, .slice none 0 0, .slice none 0 0] rfl (by kernel_rfl) (by kernel_rfl) (by kernel_rfl)
      (OpenSpec.preRow_of_cond 8 hx (by kernel_rfl) (fun k hk => by cases hk) (by kernel_rfl) (laid_met os))) ?_
  intro W base args ds gs before hval hW _ hcond _ hL hsh _
  exact contract H enc W base args ds gs before hval hW hsh

theorem said : Rows.UdpBackSaid :=
  OpenClaim.holds_of_cond 4 Try.f4 rfl rfl rfl rfl rfl rfl rfl ⟨rfl, rfl, rfl, rfl, rfl⟩ rfl rfl rfl rfl rfl (by kernel_rfl) Try.func4 (by kernel_rfl)
    (of_decide_eq_true (by kernel_rfl)) (by unfold Func.isWrapper; first | (rw [if_pos (by decide +kernel)]; kernel_rfl) | (rw [if_neg (by decide +kernel)]; exact ⟨rfl, rfl⟩))
    (fun os started H enc _ F => by rw [OpenClaim.pre_eq_preRow]; exact lifted os started H enc F)

end Go.Proofs.Ytgbpljkfefdilaa.udpBack

namespace Go.Proofs.Ytgbpljkfefdilaa
theorem udpBack_holds : Rows.UdpBackSaid := udpBack.said
#print axioms udpBack_holds
end Go.Proofs.Ytgbpljkfefdilaa
