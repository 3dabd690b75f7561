/- For every type, code, rest, bytes, number and byte, the law IcmpBack returns true: a message that is built is parsed as it was, and its sum is right; with a byte spoilt, wherever it stands, it is none; no condition. -/
import Derived.Test.YtllnphbeoaobdaaRows
import Derived.Test.YtllnphbeoaobdaaIcmp2
import Derived.Test.YtllnphbeoaobdaaIcmp1
import Derived.Test.YtllnphbeoaobdaaIcmp3
import Derived.Test.YtllnphbeoaobdaaIcmp5R
import Derived.Test.YtllnphbeoaobdaaRef2
import Derived.Test.YtllnphbeoaobdaaFrame
import Derived.WalkKit
import Derived.ProofKit
import Derived.OpenShut
import Derived.ShutString
import Derived.ChangeOld
import Derived.Deep.DeepHandedRow
import Derived.Lib.LaidTab
import Derived.Lib.SmallJoins
import Derived.LaidMore
import Derived.Stop.LaidErr
import Derived.ChangeMaps5
namespace Go.Proofs.Ytllnphbeoaobdaa.icmpBack
open Go.ChangeShapes Go.WideShapes Go.ChangeAt Go.RowKit Go.ChangeMaps
set_option linter.unusedVariables false

theorem own : ownKnob Try.prog.godebug = none := by kernel_rfl
theorem laidOut : laidOutB Try.prog = true := by kernel_rfl

set_option maxHeartbeats 4000000 in
theorem walk (a0 : Int) (a1 : Int) (a2 : Int) (a3 : Option Addr) (len3 cap3 : Nat) (zs3 : List Int) (a4 : Int) (a5 : Int) (w : World) (w0 : (Lit.int .u8 a0).wf = true) (w1 : (Lit.int .u8 a1).wf = true) (w2 : (Lit.int .u32 a2).wf = true) (row3 : IsRow .u8 w a3 len3 cap3 zs3) (w4 : (Lit.int .i64 a4).wf = true) (w5 : (Lit.int .u8 a5).wf = true) (hsh : w.ShapedOpen Try.prog) :
    Calls Try.prog 4 #[.int .u8 a0, .int .u8 a1, .int .u32 a2, .slice a3 len3 cap3, .int .i64 a4, .int .u8 a5] w fun e w' => e = .returned (.bool true) ∧ Below w.heap.size w w' := by
  have bt := bounds_u8 w0
  have bc := bounds_u8 w1
  have br := bounds_u32 w2
  have r3 := row3.bytes
  have z3 := row3.nil_cap
  have b5 := bounds_u8 w5
  by_cases hlong : 1000 < len3
  · go_enter Try.func4, Try.ntmps4
    go_wp2
    go_ret
    exact ⟨rfl, Ext.refl _⟩
  by_cases hz5 : a5 = 0
  · subst hz5
    go_enter Try.func4, Try.ntmps4
    go_wp2
    all_goals
      go_ret
      exact ⟨rfl, Ext.refl _⟩
  have hne : (a5 == 0) = false := by simpa using hz5
  have l3 : (⟨a0, a1, a2, zs3.take len3⟩ : Icmp.MSGv).data.length = len3 := r3.length
  have hp : Icmp.Fits ⟨a0, a1, a2, zs3.take len3⟩ := ⟨bt.1, bt.2, bc.1, bc.2, by rw [l3]; omega⟩
  have f : Icmp.Fine ⟨a0, a1, a2, zs3.take len3⟩ := ⟨br.1, br.2, r3.ok⟩
  obtain ⟨N, hN⟩ : ∃ N, 8 + len3 = N := ⟨_, rfl⟩
  have lY : (Icmp.buildV ⟨a0, a1, a2, zs3.take len3⟩).length = N := by rw [Icmp.build_len, ← hN, l3]
  have cb := fun w h => Icmp.build_good ⟨a0, a1, a2, zs3.take len3⟩ a3 len3 cap3 w h z3 hp br.1 br.2 N hN
  have HB : Hid (∀ w e w', Icmp.BuildAns w ⟨a0, a1, a2, zs3.take len3⟩ N e w' → ∃ q c, e = .returned (.tuple #[.slice q N c, .int .i64 0]) ∧ w'.ownsRow w.heap.size 5 1 (.slice q N c) N ((Icmp.buildV ⟨a0, a1, a2, zs3.take len3⟩).map (Value.int .u8)) ∧ Ext w w') := fun w e w' h => h
  have okY := Icmp.build_ok f hp
  have hN0 : 8 ≤ N := by omega
  have hN1 : N ≤ 1008 := by omega
  have hv := (Icmp.looks_iff _).2 (Icmp.build_looks f hp)
  have pp := Icmp.build_parse f
  have hr := Icmp.build_right f hp
  have cR := fun p c w h => refRight_any p N c (Icmp.buildV ⟨a0, a1, a2, zs3.take len3⟩) w h (by omega)
  rw [hr, show decide ((0 : Int) = 0) = true by decide] at cR
  have cp := fun q c w h hc => Icmp.parse_is q N c (Icmp.buildV ⟨a0, a1, a2, zs3.take len3⟩) ⟨a0, a1, a2, zs3.take len3⟩ w h hc (by omega) hv pp
  have cs := fun g1 m1 e1 w h1 h2 => Icmp.refSame_any ⟨a0, a1, a2, zs3.take len3⟩ ⟨a0, a1, a2, zs3.take len3⟩ a3 len3 cap3 g1 m1 e1 w h1 h2
  rw [Icmp.sameV_self] at cs
  have hand := i64_and16 a4
  obtain ⟨k, hk⟩ : ∃ k : Nat, a4 % 65536 % (N : Int) = (k : Int) := ⟨(a4 % 65536 % (N : Int)).toNat, by have := Int.emod_nonneg (a4 % 65536) (show (N : Int) ≠ 0 by omega); omega⟩
  have hkN : k < N := by have := Int.emod_lt_of_pos (a4 % 65536) (show (0 : Int) < N by omega); omega
  have oy := okY.get k
  have hxb := u8_xor_bd _ a5 oy.1 oy.2 b5.1 b5.2
  have hxn := Icmp.xor_ne _ a5 oy.1 oy.2 b5.1 b5.2 hz5
  have hsp := Icmp.spoilt okY hr k (by omega) _ hxb.1 hxb.2 hxn
  have hlk : Icmp.lookV ((Icmp.buildV ⟨a0, a1, a2, zs3.take len3⟩).set k (bits .xor .u8 ((Icmp.buildV ⟨a0, a1, a2, zs3.take len3⟩)[k]?.getD 0) a5)) = 4 := by
    unfold Icmp.lookV; rw [if_neg (by rw [List.length_set, lY]; omega), if_neg hsp]
  have hx0 : Ext w (w.alloc (.cells #[.int .i64 a0, .int .i64 a1, .int .u32 a2, .slice a3 len3 cap3] 25)) := (Ext.refl w).alloc _
  obtain ⟨b0', b1', b2', b3'⟩ := box_msgE (heap_new' w (.cells #[.int .i64 a0, .int .i64 a1, .int .u32 a2, .slice a3 len3 cap3] 25))
  have v0 : IntKind.i64.wrap a0 = a0 := wraps_i64 _ bt.1 (by omega)
  have v1 : IntKind.i64.wrap a1 = a1 := wraps_i64 _ bc.1 (by omega)
  clear hv pp hr hp f l3 hxn hsp
  dsimp only at *
  generalize Icmp.BuildAns = BA at *
  generalize Icmp.buildV ⟨a0, a1, a2, zs3.take len3⟩ = Y at *
  obtain ⟨y, hy⟩ : ∃ y, Y[k]?.getD 0 = y := ⟨_, rfl⟩
  rw [hy] at oy hxb hlk
  obtain ⟨v, hvv⟩ : ∃ v, bits .xor .u8 y a5 = v := ⟨_, rfl⟩
  rw [hvv] at hxb hlk
  have cp2 := fun q c w h hc => Icmp.parse_not q N c (Y.set k v) 4 w h hc (by omega) hlk (by omega)
  dsimp only [Icmp.zeroMsg] at cp2
  have HN : Hid _ := hN
  have HY : Hid _ := hy
  have hlong' : (len3 : Int) ≤ 1000 := by omega
  clear hN hy hlk
  have tok1 : Hid True := trivial
  go_enter Try.func4, Try.ntmps4
  go_wp2_with (first
    | (go_at_call 10; refine (cb _ (r3.below hx0)).mono ?_; intro e w3 hB; obtain ⟨q, c, rfl, ho, hx3⟩ := HB.out _ _ _ hB; clear hB; obtain ⟨g, c', hvq, hO⟩ := OwnB.of_owns ho (by omega) okY; obtain ⟨hb, hz, hc⟩ := owns_slice ho okY; obtain ⟨rfl, rfl⟩ := own_eq hvq; clear ho)
    | (go_at_call 8; clear tok1; refine (cp _ c _ hb hc).mono ?_; rintro e w6 ⟨g1, m1, e1, rfl, hq1, _, hx6⟩; have hx6a : Ext w6 (w6.alloc (.cells #[.int .i64 a0, .int .i64 a1, .int .u32 a2, .slice g1 m1 e1] 25)) := (Ext.refl _).alloc _; have hx36 := hx6.trans hx6a; have hx06 := hx3.trans hx36)
    | (go_at_call 12; refine (cs g1 m1 e1 _ (r3.below (hx0.trans hx06)) (hq1.below hx6a)).mono ?_; rintro e w7 ⟨rfl, hx7⟩; have hO7 := hO.later (hx36.trans hx7); have hb7 := hO7.bytes; have hx07 := hx0.trans (hx06.trans hx7))
    | (go_at_call 21; refine (cR _ c _ hb7).mono ?_; rintro e w8 ⟨rfl, rfl⟩; have hcell := hO7.cell hkN; rw [HY.out] at hcell; have hfr := hO7.frozen k))
  have hO5 := hO7.set (k := k) hxb.1 hxb.2
  have hx5 : Ext w (w8.setCell ⟨g, k, none⟩ (.int .u8 v)) := ExtX.ext hx07 ((ExtX.refl g w8).setCell rfl _) (by have := hO.base; have := hx0.size; omega)
  clear hcell hfr hb hO hb7 hO7 hx07 hx7
  generalize (w8.setCell ⟨g, k, none⟩ (.int .u8 v)) = w9 at hO5 hx5 ⊢
  have hb5 := hO5.bytes
  go_wp2_with (first
    | (go_at_call 8; refine (cp2 _ c _ hb5 hc).mono ?_; rintro e w10 ⟨g2, m2, e2, rfl, _, _, hx10⟩)
    | (go_at_call 20; refine (Icmp.known_any _).mono ?_; rintro e w11 ⟨rfl, rfl⟩))
  go_ret
  exact ⟨rfl, hx5.trans (hx10.alloc _)⟩

theorem contract (H : Type) (enc : TypeId × Value → H) (W : World) (base : Nat) (args : Array Value) (ds gs : List (DataW H)) (before : List MemPlace)
    (hval : ∀ (j : Nat) t v, Try.f4.params[j]? = some t → args[j]? = some v → Value.okWide Try.prog W .any base t v)
    (hW : DataW.Whole enc Try.prog Try.f4.params.toList Rows.icmpBackSpec.vars false W args.toList ds gs before) (hsh : W.ShapedOpen Try.prog) :
    Calls Try.prog 4 args W fun e W' => ∃ v, e = .returned v ∧ Rows.icmpBackSpec.post enc Try.prog Try.f4 false true false false W args v W' := by
  have hW' := hW
  obtain ⟨p, q, hA0, hV, rfl, hfz, hnd⟩ := hW
  have hA : DataW.TrodAll enc Try.prog W 0 (fun _ => true) true Try.f4.params.toList args.toList ds p := hA0
  rw [Try.params4] at hA hval
  obtain ⟨v0, vs0, d0, ds0, p0, q0, hargs, rfl, rfl, h0, r0⟩ := trodAll_cons hA
  obtain ⟨v1, vs1, d1, ds1, p1, q1, rfl, rfl, rfl, h1, r1⟩ := trodAll_cons r0
  obtain ⟨v2, vs2, d2, ds2, p2, q2, rfl, rfl, rfl, h2, r2⟩ := trodAll_cons r1
  obtain ⟨v3, vs3, d3, ds3, p3, q3, rfl, rfl, rfl, h3, r3⟩ := trodAll_cons r2
  obtain ⟨v4, vs4, d4, ds4, p4, q4, rfl, rfl, rfl, h4, r4⟩ := trodAll_cons r3
  obtain ⟨v5, vs5, d5, ds5, p5, q5, rfl, rfl, rfl, h5, r5⟩ := trodAll_cons r4
  obtain ⟨rfl, rfl, rfl⟩ := trodAll_nil r5
  obtain rfl : args = #[v0, v1, v2, v3, v4, v5] := by cases args; simp_all
  obtain ⟨rfl, rfl⟩ := trodVars_none hV
  obtain ⟨a0, rfl, rfl, rfl, w0⟩ := open_int Try.underlying5 (hval 0 5 v0 rfl rfl) h0
  obtain ⟨a1, rfl, rfl, rfl, w1⟩ := open_int Try.underlying5 (hval 1 5 v1 rfl rfl) h1
  obtain ⟨a2, rfl, rfl, rfl, w2⟩ := open_int Try.underlying23 (hval 2 23 v2 rfl rfl) h2
  have k3 := h3
  have lt3 : ∀ x ∈ p3, x.block < W.heap.size := by obtain ⟨m, hm⟩ := k3; exact DataW.trod_lt m _ _ _ hm
  obtain ⟨b3, l3, c3, rfl⟩ := okWide_slice Try.underlying22 (hval 3 22 v3 rfl rfl)
  obtain ⟨fu3, hf3⟩ := h3
  obtain ⟨a3, len3, cap3, zs3, ce3, row3⟩ := open_rowI Try.underlying22 Try.underlying5 (by kernel_rfl) (fun _ => rfl) hf3
  obtain ⟨rfl, rfl, rfl⟩ : a3 = b3 ∧ len3 = l3 ∧ cap3 = c3 := by simpa [Value.cells, eq_comm] using ce3
  obtain ⟨a4, rfl, rfl, rfl, w4⟩ := open_int Try.underlying3 (hval 4 3 v4 rfl rfl) h4
  obtain ⟨a5, rfl, rfl, rfl, w5⟩ := open_int Try.underlying5 (hval 5 5 v5 rfl rfl) h5
  clear hA0
  refine (walk a0 a1 a2 a3 len3 cap3 zs3 a4 a5 W w0 w1 w2 row3 w4 w5 hsh).mono fun e W' ⟨he, bel⟩ => ?_
  subst he
  exact ⟨_, rfl, _, _, _, [], _, [], hW', trodAll_mk1 (shut_bool Try.underlying4 _), (trodAll_cons_mk (shut_int Try.underlying5 w0) (trodAll_cons_mk (shut_int Try.underlying5 w1) (trodAll_cons_mk (shut_int Try.underlying23 w2) (trodAll_cons_mk (Below.trod laidOut (by kernel_rfl) (of_decide_eq_true (by kernel_rfl)) k3 bel lt3) (trodAll_cons_mk (shut_int Try.underlying3 w4) (trodAll_cons_mk (shut_int Try.underlying5 w5) trodAll_mk0)))))), rfl, bel.frame _, fun h => by cases h⟩

theorem laid_met (os : Os) : laidMet Try.prog Rows.icmpBackRow.laid ((World.doorLaid Try.prog 24 os).forCall (fun _ _ => 0) ⟨#[], #[.int .u8 0, .int .u8 0, .int .u32 0, .slice none 0 0, .int .i64 0, .int .u8 0], []⟩).memory :=
  laidMet_of_run' 8 (by kernel_rfl) (by kernel_rfl)
theorem reads (os : Os) {H : Type} (enc : TypeId × Value → H) : ∃ places, DataW.whole enc Try.prog ((World.doorLaid Try.prog 24 os).forCall (fun _ _ => 0) ⟨#[], #[.int .u8 0, .int .u8 0, .int .u32 0, .slice none 0 0, .int .i64 0, .int .u8 0], []⟩).memory Try.f4.params.toList Rows.icmpBackSpec.vars false (#[.int .u8 0, .int .u8 0, .int .u32 0, .slice none 0 0, .int .i64 0, .int .u8 0] : Array Value).toList 8 = some ([.lit (.int .u8 0), .lit (.int .u8 0), .lit (.int .u32 0), .nil, .lit (.int .i64 0), .lit (.int .u8 0)], [], places) :=
  ⟨[], by kernel_rfl⟩

set_option maxRecDepth 100000 in
theorem lifted (os : Os) (started : os.Started) (H : Type) (enc : TypeId × Value → H) (F : Stop.Interp) :
    ReturnsInHanded {} Try.checked os 4 .any ((OpenSpec.ofChange Rows.icmpBackSpec).preRow enc Try.prog Try.f4 Rows.icmpBackRow.domain false Rows.icmpBackRow.laid) (((OpenSpec.ofChange Rows.icmpBackSpec).at F).post enc Try.prog Try.f4 false true false false) := by
  obtain ⟨places, hx⟩ := reads os enc
  refine returnsInHanded_of_row (C := Try.checked) (s := (OpenSpec.ofChange Rows.icmpBackSpec)) own started (by kernel_rfl) Try.func4
    (witness_row_at (enc := enc) (C := Try.checked) false (World.doorLaid Try.prog 24 os) #[.int .u8 0, .int .u8 0, .int .u32 0, .slice none 0 0, .int .i64 0, .int .u8 0] rfl (by kernel_rfl) (by kernel_rfl) (by kernel_rfl)
      (OpenSpec.preRow_of_cond 8 hx (by kernel_rfl) (fun k hk => by cases hk) (by kernel_rfl) (laid_met os))) ?_
  intro W base args ds gs before hval hW _ hcond _ hL hsh _
  exact contract H enc W base args ds gs before hval hW hsh

theorem said : Rows.IcmpBackSaid :=
  OpenClaim.holds_of_cond 4 Try.f4 rfl rfl rfl rfl rfl rfl rfl ⟨rfl, rfl, rfl, rfl, rfl⟩ rfl rfl rfl rfl rfl (by kernel_rfl) Try.func4 (by kernel_rfl)
    (of_decide_eq_true (by kernel_rfl)) (by unfold Func.isWrapper; first | (rw [if_pos (by decide +kernel)]; kernel_rfl) | (rw [if_neg (by decide +kernel)]; exact ⟨rfl, rfl⟩))
    (fun os started H enc _ F => by rw [OpenClaim.pre_eq_preRow]; exact lifted os started H enc F)

end Go.Proofs.Ytllnphbeoaobdaa.icmpBack

namespace Go.Proofs.Ytllnphbeoaobdaa
theorem icmpBack_holds : Rows.IcmpBackSaid := icmpBack.said
#print axioms icmpBack_holds
end Go.Proofs.Ytllnphbeoaobdaa
