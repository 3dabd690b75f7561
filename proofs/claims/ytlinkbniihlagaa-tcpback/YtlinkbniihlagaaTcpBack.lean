/- For every two addresses and every segment, the law TcpBack returns true: a segment that is built is parsed as it was, and its sum, with the header that is not sent, is right; no condition. -/
import Derived.Test.YtlinkbniihlagaaRows
import Derived.Test.YtlinkbniihlagaaTcp4K
import Derived.Test.YtlinkbniihlagaaTcp1
import Derived.Test.YtlinkbniihlagaaTcp3
import Derived.Test.YtlinkbniihlagaaTcp5R
import Derived.Test.YtlinkbniihlagaaPseudoO
import Derived.Test.YtlinkbniihlagaaRef2
import Derived.Test.YtlinkbniihlagaaFrame
import Derived.WalkKit
import Derived.ProofKit
import Derived.OpenShut
import Derived.ShutString
import Derived.ChangeOld
import Derived.Deep.DeepHandedRow
import Derived.Lib.LaidTab
import Derived.Lib.SmallJoins
import Derived.LaidMore
import Derived.Stop.LaidErr
import Derived.ChangeMaps5
namespace Go.Proofs.Ytlinkbniihlagaa.tcpBack
open Go.ChangeShapes Go.WideShapes Go.ChangeAt Go.RowKit Go.ChangeMaps
set_option linter.unusedVariables false

theorem own : ownKnob Try.prog.godebug = none := by kernel_rfl
theorem laidOut : laidOutB Try.prog = true := by kernel_rfl

theorem arr9 {α : Type} {cs : Array α} (h : cs.size = 9) : ∃ c0 c1 c2 c3 c4 c5 c6 c7 c8, cs = #[c0, c1, c2, c3, c4, c5, c6, c7, c8] := by
  obtain ⟨l⟩ := cs
  match l, h with
  | [c0, c1, c2, c3, c4, c5, c6, c7, c8], _ => exact ⟨c0, c1, c2, c3, c4, c5, c6, c7, c8, rfl⟩

set_option maxHeartbeats 4000000 in
theorem walk (a0 : Int) (a1 : Int) (a20 : Int) (a21 : Int) (a22 : Int) (a23 : Int) (a24 : Int) (a25 : Int) (a26 : Int) (a27 : Option Addr) (len27 cap27 : Nat) (zs27 : List Int) (a28 : Option Addr) (len28 cap28 : Nat) (zs28 : List Int) (w : World) (w0 : (Lit.int .u32 a0).wf = true) (w1 : (Lit.int .u32 a1).wf = true) (w20 : (Lit.int .i64 a20).wf = true) (w21 : (Lit.int .i64 a21).wf = true) (w22 : (Lit.int .u32 a22).wf = true) (w23 : (Lit.int .u32 a23).wf = true) (w24 : (Lit.int .i64 a24).wf = true) (w25 : (Lit.int .i64 a25).wf = true) (w26 : (Lit.int .i64 a26).wf = true) (row27 : IsRow .u8 w a27 len27 cap27 zs27) (row28 : IsRow .u8 w a28 len28 cap28 zs28) (hsh : w.ShapedOpen Try.prog) :
    Calls Try.prog 5 #[.int .u32 a0, .int .u32 a1, .agg #[.int .i64 a20, .int .i64 a21, .int .u32 a22, .int .u32 a23, .int .i64 a24, .int .i64 a25, .int .i64 a26, .slice a27 len27 cap27, .slice a28 len28 cap28]] w fun e w' => e = .returned (.bool true) ∧ Below w.heap.size w w' := by
  have bs := bounds_u32 w0
  have bd := bounds_u32 w1
  have r7 := row27.bytes
  have z7 := row27.nil_cap
  have r8 := row28.bytes
  have z8 := row28.nil_cap
  have bq := bounds_u32 w22
  have bk := bounds_u32 w23
  have f : Tcp.Fine ⟨a20, a21, a22, a23, a24, a25, a26, zs27.take len27, zs28.take len28⟩ := ⟨bq.1, bq.2, bk.1, bk.2, r7.ok, r8.ok⟩
  have cl := fun w => Tcp.long_any ⟨a20, a21, a22, a23, a24, a25, a26, zs27.take len27, zs28.take len28⟩ a27 len27 cap27 a28 len28 cap28 w
  have hx0 : Ext w (w.alloc (.cells #[.int .i64 a20, .int .i64 a21, .int .u32 a22, .int .u32 a23, .int .i64 a24, .int .i64 a25, .int .i64 a26, .slice a27 len27 cap27, .slice a28 len28 cap28] 25)) := (Ext.refl w).alloc _
  obtain ⟨b0, b1, b2, b3, b4, b5, b6, b7, b8⟩ := box_segE (heap_new' w (.cells #[.int .i64 a20, .int .i64 a21, .int .u32 a22, .int .u32 a23, .int .i64 a24, .int .i64 a25, .int .i64 a26, .slice a27 len27 cap27, .slice a28 len28 cap28] 25))
  by_cases hlong : 60 < len27 ∨ 1500 < len28
  · rw [show decide (60 < len27 ∨ 1500 < len28) = true by simpa using hlong] at cl
    clear hlong f
    dsimp only at *
    go_enter Try.func5, Try.ntmps5
    go_wp2_with (go_at_call 13; refine (cl _).mono ?_; rintro e w1 ⟨rfl, hx1⟩)
    go_ret
    exact ⟨rfl, hx0.trans hx1⟩
  rw [show decide (60 < len27 ∨ 1500 < len28) = false by simpa using hlong] at cl
  have ci := fun w => Tcp.refIs_any ⟨a20, a21, a22, a23, a24, a25, a26, zs27.take len27, zs28.take len28⟩ a27 len27 cap27 a28 len28 cap28 w r7.length r8.length (by omega) (by omega)
  by_cases his : Tcp.isV ⟨a20, a21, a22, a23, a24, a25, a26, zs27.take len27, zs28.take len28⟩ = true
  rotate_left
  · rw [Bool.not_eq_true] at his
    rw [his] at ci
    clear his f
    dsimp only at *
    go_enter Try.func5, Try.ntmps5
    go_wp2_with (first
      | (go_at_call 13; refine (cl _).mono ?_; rintro e w1 ⟨rfl, hx1⟩)
      | (go_at_call 19; refine (ci _).mono ?_; rintro e w2 ⟨rfl, hx2⟩))
    go_ret
    exact ⟨rfl, hx0.trans (hx1.trans hx2)⟩
  rw [his] at ci
  have hp := (Tcp.isV_iff _).1 his
  clear his
  have l7 : (⟨a20, a21, a22, a23, a24, a25, a26, zs27.take len27, zs28.take len28⟩ : Tcp.SEGv).opts.length = len27 := r7.length
  have l8 : (⟨a20, a21, a22, a23, a24, a25, a26, zs27.take len27, zs28.take len28⟩ : Tcp.SEGv).data.length = len28 := r8.length
  have n1 : len27 ≤ 40 := by have := hp.n40; rw [l7] at this; exact this
  have n2 : len28 ≤ 1500 := by omega
  obtain ⟨N, hN⟩ : ∃ N, 20 + len27 + len28 = N := ⟨_, rfl⟩
  have lY : (Tcp.buildV a0 a1 ⟨a20, a21, a22, a23, a24, a25, a26, zs27.take len27, zs28.take len28⟩).length = N := by rw [Tcp.build_len, ← hN, l7, l8]
  have cb := fun w h h' => Tcp.build_good a0 a1 ⟨a20, a21, a22, a23, a24, a25, a26, zs27.take len27, zs28.take len28⟩ a27 len27 cap27 a28 len28 cap28 w h z7 h' z8 f hp bs.1 bs.2 bd.1 bd.2 N hN
  have HB : Hid (∀ w e w', Tcp.BuildAns w a0 a1 ⟨a20, a21, a22, a23, a24, a25, a26, zs27.take len27, zs28.take len28⟩ N e w' → ∃ q c, e = .returned (.tuple #[.slice q N c, .int .i64 0]) ∧ w'.ownsRow w.heap.size 5 1 (.slice q N c) N ((Tcp.buildV a0 a1 ⟨a20, a21, a22, a23, a24, a25, a26, zs27.take len27, zs28.take len28⟩).map (Value.int .u8)) ∧ Ext w w') := fun w e w' h => h
  have okY := Tcp.build_ok (s := a0) (d := a1) f hp bs.1 bs.2 bd.1 bd.2
  have hN0 : 20 ≤ N := by omega
  have hN1 : N ≤ 1560 := by omega
  have hv := (Tcp.looks_iff _).2 (Tcp.build_looks a0 a1 f hp)
  have pp := Tcp.build_parse a0 a1 f hp
  have hr := Tcp.build_right f hp bs.1 bs.2 bd.1 bd.2
  have hE : Tcp.pseuV a0 a1 ⟨a20, a21, a22, a23, a24, a25, a26, zs27.take len27, zs28.take len28⟩ = pseudoV a0 a1 6 (N : Int) := by
    unfold Tcp.pseuV; rw [l7, l8, ← hN]; congr 1
  rw [hE] at hr
  have oP : BytesOk (pseudoV a0 a1 6 (N : Int)) := pseudoV_ok _ _ bs.1 bs.2 bd.1 bd.2
  have cE : ∀ w, _ := fun w => refPseudo_own a0 a1 6 (N : Int) w bs.1 bs.2 bd.1 bd.2 (by omega) (by omega) (by omega) (by omega)
  have lP : (pseudoV a0 a1 6 (N : Int)).length = 12 := rfl
  have cR := fun p c w h => refRight_any p (12 + N) c (pseudoV a0 a1 6 (N : Int) ++ Tcp.buildV a0 a1 ⟨a20, a21, a22, a23, a24, a25, a26, zs27.take len27, zs28.take len28⟩) w h (by omega)
  rw [hr, show decide ((0 : Int) = 0) = true by decide] at cR
  have cp := fun q c w h hc => Tcp.parse_is q N c (Tcp.buildV a0 a1 ⟨a20, a21, a22, a23, a24, a25, a26, zs27.take len27, zs28.take len28⟩) ⟨a20, a21, a22, a23, a24, a25, a26, zs27.take len27, zs28.take len28⟩ w h hc (by omega) hv pp
  have cs := fun g1 m1 e1 g2 m2 e2 w h1 h2 h3 h4 => Tcp.refSame_any ⟨a20, a21, a22, a23, a24, a25, a26, zs27.take len27, zs28.take len28⟩ ⟨a20, a21, a22, a23, a24, a25, a26, zs27.take len27, zs28.take len28⟩ a27 len27 cap27 a28 len28 cap28 g1 m1 e1 g2 m2 e2 w h1 h2 h3 h4
  rw [Tcp.sameV_self] at cs
  clear hv pp hr hE f hp l7 l8
  dsimp only at *
  generalize pseudoV a0 a1 6 (N : Int) = E at *
  generalize Tcp.BuildAns = BA at *
  generalize Tcp.buildV a0 a1 ⟨a20, a21, a22, a23, a24, a25, a26, zs27.take len27, zs28.take len28⟩ = Y at *
  obtain ⟨i0, hi, hz0, hz1, hz2⟩ := info_parts Try.infoByte
  have okX := bytesOk_append oP okY
  have HN : Hid _ := hN
  clear hN hlong
  go_enter Try.func5, Try.ntmps5
  go_wp2_with (first
    | (go_at_call 13; refine (cl _).mono ?_; rintro e w1 ⟨rfl, hx1⟩)
    | (go_at_call 19; refine (ci _).mono ?_; rintro e w2 ⟨rfl, hx2⟩; have hx12 := hx1.trans hx2; have hy2 := hx0.trans hx12)
    | (go_at_call 14; refine (cb _ (r7.below hy2) (r8.below hy2)).mono ?_; intro e w3 hB; obtain ⟨q, c, rfl, ho, hx3⟩ := HB.out _ _ _ hB; clear hB; obtain ⟨hb, hz, hc⟩ := owns_slice ho okY; clear ho; have hx13 := hx12.trans hx3)
    | (go_at_call 9; refine (cp q c _ hb hc).mono ?_; rintro e w4 ⟨g1, m1, e1, g2, m2, e2, rfl, hq1, _, hq2, _, hx4⟩; have hx4a : Ext w4 (w4.alloc (.cells #[.int .i64 a20, .int .i64 a21, .int .u32 a22, .int .u32 a23, .int .i64 a24, .int .i64 a25, .int .i64 a26, .slice g1 m1 e1, .slice g2 m2 e2] 25)) := (Ext.refl _).alloc _; have hx14 := hx13.trans (hx4.trans hx4a))
    | (go_at_call 11; refine (cs g1 m1 e1 g2 m2 e2 _ (r7.below (hx0.trans hx14)) (r8.below (hx0.trans hx14)) (hq1.below hx4a) (hq2.below hx4a)).mono ?_; rintro e w5 ⟨rfl, hx5⟩; have hb5 := hb.below (hx4.trans (hx4a.trans hx5)); have hx15 := hx14.trans hx5)
    | (go_at_call 21; refine (cE w5).mono ?_; rintro e w6 ⟨pE, dE, rfl, hoE, hx6⟩; have hb6 := hb5.below hx6)
    | (at_builtin; refine append_bytes (by rfl) (.tmp 46) (.tmp 47) 22 rfl w5.heap.size 5 i0 (.int .u8 0) Try.underlying22 hi hz0 hz1 hz2 rfl _ _ _ rfl hoE q N c _ rfl hb6 hz (by omega) hx6.size ?_; intro v7 w7 ho7 hg7; have hx7 := grown_ext hx6 hoE hg7; obtain ⟨a7, c7, rfl⟩ := owns_shape ho7; obtain ⟨hb7, _, _⟩ := owns_slice ho7 okX; have hx17 := hx15.trans hx7; clear hg7 ho7 hoE)
    | (go_at_call 20; refine (cR a7 c7 _ hb7).mono ?_; rintro e w8 ⟨rfl, rfl⟩)
    | (go_at_call 12; refine (Tcp.known_any _).mono ?_; rintro e w9 ⟨rfl, hx9⟩))
  go_ret
  exact ⟨rfl, hx0.trans (hx17.trans hx9)⟩

theorem contract (H : Type) (enc : TypeId × Value → H) (W : World) (base : Nat) (args : Array Value) (ds gs : List (DataW H)) (before : List MemPlace)
    (hval : ∀ (j : Nat) t v, Try.f5.params[j]? = some t → args[j]? = some v → Value.okWide Try.prog W .any base t v)
    (hW : DataW.Whole enc Try.prog Try.f5.params.toList Rows.tcpBackSpec.vars false W args.toList ds gs before) (hsh : W.ShapedOpen Try.prog) :
    Calls Try.prog 5 args W fun e W' => ∃ v, e = .returned v ∧ Rows.tcpBackSpec.post enc Try.prog Try.f5 false true false false W args v W' := by
  have hW' := hW
  obtain ⟨p, q, hA0, hV, rfl, hfz, hnd⟩ := hW
  have hA : DataW.TrodAll enc Try.prog W 0 (fun _ => true) true Try.f5.params.toList args.toList ds p := hA0
  rw [Try.params5] at hA hval
  obtain ⟨v0, vs0, d0, ds0, p0, q0, hargs, rfl, rfl, h0, r0⟩ := trodAll_cons hA
  obtain ⟨v1, vs1, d1, ds1, p1, q1, rfl, rfl, rfl, h1, r1⟩ := trodAll_cons r0
  obtain ⟨v2, vs2, d2, ds2, p2, q2, rfl, rfl, rfl, h2, r2⟩ := trodAll_cons r1
  obtain ⟨rfl, rfl, rfl⟩ := trodAll_nil r2
  obtain rfl : args = #[v0, v1, v2] := by cases args; simp_all
  obtain ⟨rfl, rfl⟩ := trodVars_none hV
  obtain ⟨a0, rfl, rfl, rfl, w0⟩ := open_int Try.underlying23 (hval 0 23 v0 rfl rfl) h0
  obtain ⟨a1, rfl, rfl, rfl, w1⟩ := open_int Try.underlying23 (hval 1 23 v1 rfl rfl) h1
  have k2 := h2
  have lt2 : ∀ x ∈ p2, x.block < W.heap.size := by obtain ⟨m, hm⟩ := k2; exact DataW.trod_lt m _ _ _ hm
  obtain ⟨cs2, rfl, hs2⟩ := okWide_struct Try.underlying25 (hval 2 25 v2 rfl rfl)
  obtain ⟨u2a, u2b, u2c, u2d, u2e, u2f, u2g, u2h, u2i, rfl⟩ := arr9 (hs2.trans (by kernel_rfl))
  obtain ⟨fu2, hf2⟩ := h2
  obtain ⟨_, _, e1⟩ := field_at Try.underlying25 hf2 0 rfl 1 (by kernel_rfl)
  obtain ⟨a20, c2, _, w20⟩ := DataW.trod_int Try.underlying3 e1
  obtain rfl : u2a = .int .i64 a20 := by simpa [Value.cells] using c2
  obtain ⟨_, _, e3⟩ := field_at Try.underlying25 hf2 1 rfl 1 (by kernel_rfl)
  obtain ⟨a21, c4, _, w21⟩ := DataW.trod_int Try.underlying3 e3
  obtain rfl : u2b = .int .i64 a21 := by simpa [Value.cells] using c4
  obtain ⟨_, _, e5⟩ := field_at Try.underlying25 hf2 2 rfl 1 (by kernel_rfl)
  obtain ⟨a22, c6, _, w22⟩ := DataW.trod_int Try.underlying23 e5
  obtain rfl : u2c = .int .u32 a22 := by simpa [Value.cells] using c6
  obtain ⟨_, _, e7⟩ := field_at Try.underlying25 hf2 3 rfl 1 (by kernel_rfl)
  obtain ⟨a23, c8, _, w23⟩ := DataW.trod_int Try.underlying23 e7
  obtain rfl : u2d = .int .u32 a23 := by simpa [Value.cells] using c8
  obtain ⟨_, _, e9⟩ := field_at Try.underlying25 hf2 4 rfl 1 (by kernel_rfl)
  obtain ⟨a24, c10, _, w24⟩ := DataW.trod_int Try.underlying3 e9
  obtain rfl : u2e = .int .i64 a24 := by simpa [Value.cells] using c10
  obtain ⟨_, _, e11⟩ := field_at Try.underlying25 hf2 5 rfl 1 (by kernel_rfl)
  obtain ⟨a25, c12, _, w25⟩ := DataW.trod_int Try.underlying3 e11
  obtain rfl : u2f = .int .i64 a25 := by simpa [Value.cells] using c12
  obtain ⟨_, _, e13⟩ := field_at Try.underlying25 hf2 6 rfl 1 (by kernel_rfl)
  obtain ⟨a26, c14, _, w26⟩ := DataW.trod_int Try.underlying3 e13
  obtain rfl : u2g = .int .i64 a26 := by simpa [Value.cells] using c14
  obtain ⟨_, _, e15⟩ := field_at Try.underlying25 hf2 7 rfl 1 (by kernel_rfl)
  obtain ⟨a27, len27, cap27, zs27, c16, row27⟩ := open_rowI Try.underlying22 Try.underlying5 (by kernel_rfl) (fun _ => rfl) e15
  obtain rfl : u2h = .slice a27 len27 cap27 := by simpa [Value.cells] using c16
  obtain ⟨_, _, e17⟩ := field_at Try.underlying25 hf2 8 rfl 1 (by kernel_rfl)
  obtain ⟨a28, len28, cap28, zs28, c18, row28⟩ := open_rowI Try.underlying22 Try.underlying5 (by kernel_rfl) (fun _ => rfl) e17
  obtain rfl : u2i = .slice a28 len28 cap28 := by simpa [Value.cells] using c18
  clear hA0
  refine (walk a0 a1 a20 a21 a22 a23 a24 a25 a26 a27 len27 cap27 zs27 a28 len28 cap28 zs28 W w0 w1 w20 w21 w22 w23 w24 w25 w26 row27 row28 hsh).mono fun e W' ⟨he, bel⟩ => ?_
  subst he
  exact ⟨_, rfl, _, _, _, [], _, [], hW', trodAll_mk1 (shut_bool Try.underlying4 _), (trodAll_cons_mk (shut_int Try.underlying23 w0) (trodAll_cons_mk (shut_int Try.underlying23 w1) (trodAll_cons_mk (Below.trod laidOut (by kernel_rfl) (of_decide_eq_true (by kernel_rfl)) k2 bel lt2) trodAll_mk0))), rfl, bel.frame _, fun h => by cases h⟩

theorem laid_met (os : Os) : laidMet Try.prog Rows.tcpBackRow.laid ((World.doorLaid Try.prog 24 os).forCall (fun _ _ => 0) ⟨#[], #[.int .u32 0, .int .u32 0, .agg #[.int .i64 0, .int .i64 0, .int .u32 0, .int .u32 0, .int .i64 0, .int .i64 0, .int .i64 0, .slice none 0 0, .slice none 0 0]], []⟩).memory :=
  laidMet_of_run' 8 (by kernel_rfl) (by kernel_rfl)
theorem reads (os : Os) {H : Type} (enc : TypeId × Value → H) : ∃ places, DataW.whole enc Try.prog ((World.doorLaid Try.prog 24 os).forCall (fun _ _ => 0) ⟨#[], #[.int .u32 0, .int .u32 0, .agg #[.int .i64 0, .int .i64 0, .int .u32 0, .int .u32 0, .int .i64 0, .int .i64 0, .int .i64 0, .slice none 0 0, .slice none 0 0]], []⟩).memory Try.f5.params.toList Rows.tcpBackSpec.vars false (#[.int .u32 0, .int .u32 0, .agg #[.int .i64 0, .int .i64 0, .int .u32 0, .int .u32 0, .int .i64 0, .int .i64 0, .int .i64 0, .slice none 0 0, .slice none 0 0]] : Array Value).toList 8 = some ([.lit (.int .u32 0), .lit (.int .u32 0), .agg [.lit (.int .i64 0), .lit (.int .i64 0), .lit (.int .u32 0), .lit (.int .u32 0), .lit (.int .i64 0), .lit (.int .i64 0), .lit (.int .i64 0), .nil, .nil]], [], places) :=
  ⟨[], by kernel_rfl⟩

set_option maxRecDepth 100000 in
theorem lifted (os : Os) (started : os.Started) (H : Type) (enc : TypeId × Value → H) (F : Stop.Interp) :
    ReturnsInHanded {} Try.checked os 5 .any ((OpenSpec.ofChange Rows.tcpBackSpec).preRow enc Try.prog Try.f5 Rows.tcpBackRow.domain false Rows.tcpBackRow.laid) (((OpenSpec.ofChange Rows.tcpBackSpec).at F).post enc Try.prog Try.f5 false true false false) := by
  obtain ⟨places, hx⟩ := reads os enc
  refine returnsInHanded_of_row (C := Try.checked) (s := (OpenSpec.ofChange Rows.tcpBackSpec)) own started (by kernel_rfl) Try.func5
    (witness_row_at (enc := enc) (C := Try.checked) false (World.doorLaid Try.prog 24 os) #[.int .u32 0, .int .u32 0, .agg #[.int .i64 0, .int .i64 0, .int .u32 0, .int .u32 0, .int .i64 0, .int .i64 0, .int .i64 0, .slice none 0 0, .slice none 0 0]] rfl (by kernel_rfl) (by kernel_rfl) (by kernel_rfl)
      (OpenSpec.preRow_of_cond 8 hx (by kernel_rfl) (fun k hk => by cases hk) (by kernel_rfl) (laid_met os))) ?_
  intro W base args ds gs before hval hW _ hcond _ hL hsh _
  exact contract H enc W base args ds gs before hval hW hsh

theorem said : Rows.TcpBackSaid :=
  OpenClaim.holds_of_cond 5 Try.f5 rfl rfl rfl rfl rfl rfl rfl ⟨rfl, rfl, rfl, rfl, rfl⟩ rfl rfl rfl rfl rfl (by kernel_rfl) Try.func5 (by kernel_rfl)
    (of_decide_eq_true (by kernel_rfl)) (by unfold Func.isWrapper; first | (rw [if_pos (by decide +kernel)]; kernel_rfl) | (rw [if_neg (by decide +kernel)]; exact ⟨rfl, rfl⟩))
    (fun os started H enc _ F => by rw [OpenClaim.pre_eq_preRow]; exact lifted os started H enc F)

end Go.Proofs.Ytlinkbniihlagaa.tcpBack

namespace Go.Proofs.Ytlinkbniihlagaa
theorem tcpBack_holds : Rows.TcpBackSaid := tcpBack.said
#print axioms tcpBack_holds
end Go.Proofs.Ytlinkbniihlagaa
