/- For every segment and every number, the law TcpCut returns true: a segment that is cut within its header is too short; behind that its data are shorter; no condition. -/
import Derived.Test.YtlinkbniihlagaaRows
import Derived.Test.YtlinkbniihlagaaTcp4K
import Derived.Test.YtlinkbniihlagaaTcp1
import Derived.Test.YtlinkbniihlagaaTcp3
import Derived.Test.YtlinkbniihlagaaFrame
import Derived.WalkKit
import Derived.ProofKit
import Derived.OpenShut
import Derived.ShutString
import Derived.ChangeOld
import Derived.Deep.DeepHandedRow
import Derived.Lib.LaidTab
import Derived.Lib.SmallJoins
import Derived.LaidMore
import Derived.Stop.LaidErr
import Derived.ChangeMaps5
namespace Go.Proofs.Ytlinkbniihlagaa.tcpCut
open Go.ChangeShapes Go.WideShapes Go.ChangeAt Go.RowKit Go.ChangeMaps
set_option linter.unusedVariables false

theorem own : ownKnob Try.prog.godebug = none := by kernel_rfl
theorem laidOut : laidOutB Try.prog = true := by kernel_rfl

theorem arr9 {α : Type} {cs : Array α} (h : cs.size = 9) : ∃ c0 c1 c2 c3 c4 c5 c6 c7 c8, cs = #[c0, c1, c2, c3, c4, c5, c6, c7, c8] := by
  obtain ⟨l⟩ := cs
  match l, h with
  | [c0, c1, c2, c3, c4, c5, c6, c7, c8], _ => exact ⟨c0, c1, c2, c3, c4, c5, c6, c7, c8, rfl⟩

set_option maxHeartbeats 4000000 in
theorem walk (a00 : Int) (a01 : Int) (a02 : Int) (a03 : Int) (a04 : Int) (a05 : Int) (a06 : Int) (a07 : Option Addr) (len07 cap07 : Nat) (zs07 : List Int) (a08 : Option Addr) (len08 cap08 : Nat) (zs08 : List Int) (a1 : Int) (w : World) (w00 : (Lit.int .i64 a00).wf = true) (w01 : (Lit.int .i64 a01).wf = true) (w02 : (Lit.int .u32 a02).wf = true) (w03 : (Lit.int .u32 a03).wf = true) (w04 : (Lit.int .i64 a04).wf = true) (w05 : (Lit.int .i64 a05).wf = true) (w06 : (Lit.int .i64 a06).wf = true) (row07 : IsRow .u8 w a07 len07 cap07 zs07) (row08 : IsRow .u8 w a08 len08 cap08 zs08) (w1 : (Lit.int .i64 a1).wf = true) (hsh : w.ShapedOpen Try.prog) :
    Calls Try.prog 7 #[.agg #[.int .i64 a00, .int .i64 a01, .int .u32 a02, .int .u32 a03, .int .i64 a04, .int .i64 a05, .int .i64 a06, .slice a07 len07 cap07, .slice a08 len08 cap08], .int .i64 a1] w fun e w' => e = .returned (.bool true) ∧ Below w.heap.size w w' := by
  have r7 := row07.bytes
  have z7 := row07.nil_cap
  have r8 := row08.bytes
  have z8 := row08.nil_cap
  have bq := bounds_u32 w02
  have bk := bounds_u32 w03
  have f : Tcp.Fine ⟨a00, a01, a02, a03, a04, a05, a06, zs07.take len07, zs08.take len08⟩ := ⟨bq.1, bq.2, bk.1, bk.2, r7.ok, r8.ok⟩
  have cl := fun w => Tcp.long_any ⟨a00, a01, a02, a03, a04, a05, a06, zs07.take len07, zs08.take len08⟩ a07 len07 cap07 a08 len08 cap08 w
  have hx0 : Ext w (w.alloc (.cells #[.int .i64 a00, .int .i64 a01, .int .u32 a02, .int .u32 a03, .int .i64 a04, .int .i64 a05, .int .i64 a06, .slice a07 len07 cap07, .slice a08 len08 cap08] 25)) := (Ext.refl w).alloc _
  obtain ⟨b0, b1, b2, b3, b4, b5, b6, b7, b8⟩ := box_segE (heap_new' w (.cells #[.int .i64 a00, .int .i64 a01, .int .u32 a02, .int .u32 a03, .int .i64 a04, .int .i64 a05, .int .i64 a06, .slice a07 len07 cap07, .slice a08 len08 cap08] 25))
  by_cases hlong : 60 < len07 ∨ 1500 < len08
  · rw [show decide (60 < len07 ∨ 1500 < len08) = true by simpa using hlong] at cl
    clear hlong f
    dsimp only at *
    go_enter Try.func7, Try.ntmps7
    go_wp2_with (go_at_call 13; refine (cl _).mono ?_; rintro e w1 ⟨rfl, hx1⟩)
    go_ret
    exact ⟨rfl, hx0.trans hx1⟩
  rw [show decide (60 < len07 ∨ 1500 < len08) = false by simpa using hlong] at cl
  have ci := fun w => Tcp.refIs_any ⟨a00, a01, a02, a03, a04, a05, a06, zs07.take len07, zs08.take len08⟩ a07 len07 cap07 a08 len08 cap08 w r7.length r8.length (by omega) (by omega)
  by_cases his : Tcp.isV ⟨a00, a01, a02, a03, a04, a05, a06, zs07.take len07, zs08.take len08⟩ = true
  rotate_left
  · rw [Bool.not_eq_true] at his
    rw [his] at ci
    clear his f
    dsimp only at *
    go_enter Try.func7, Try.ntmps7
    go_wp2_with (first
      | (go_at_call 13; refine (cl _).mono ?_; rintro e w1 ⟨rfl, hx1⟩)
      | (go_at_call 19; refine (ci _).mono ?_; rintro e w2 ⟨rfl, hx2⟩))
    go_ret
    exact ⟨rfl, hx0.trans (hx1.trans hx2)⟩
  rw [his] at ci
  have hp := (Tcp.isV_iff _).1 his
  clear his
  have l7 : (⟨a00, a01, a02, a03, a04, a05, a06, zs07.take len07, zs08.take len08⟩ : Tcp.SEGv).opts.length = len07 := r7.length
  have l8 : (⟨a00, a01, a02, a03, a04, a05, a06, zs07.take len07, zs08.take len08⟩ : Tcp.SEGv).data.length = len08 := r8.length
  have n1 : len07 ≤ 40 := by have := hp.n40; rw [l7] at this; exact this
  have n2 : len08 ≤ 1500 := by omega
  obtain ⟨N, hN⟩ : ∃ N, 20 + len07 + len08 = N := ⟨_, rfl⟩
  have lY : (Tcp.buildV 1 2 ⟨a00, a01, a02, a03, a04, a05, a06, zs07.take len07, zs08.take len08⟩).length = N := by rw [Tcp.build_len, ← hN, l7, l8]
  have cb := fun w h h' => Tcp.build_good 1 2 ⟨a00, a01, a02, a03, a04, a05, a06, zs07.take len07, zs08.take len08⟩ a07 len07 cap07 a08 len08 cap08 w h z7 h' z8 f hp (by omega) (by omega) (by omega) (by omega) N hN
  have HB : Hid (∀ w e w', Tcp.BuildAns w 1 2 ⟨a00, a01, a02, a03, a04, a05, a06, zs07.take len07, zs08.take len08⟩ N e w' → ∃ q c, e = .returned (.tuple #[.slice q N c, .int .i64 0]) ∧ w'.ownsRow w.heap.size 5 1 (.slice q N c) N ((Tcp.buildV 1 2 ⟨a00, a01, a02, a03, a04, a05, a06, zs07.take len07, zs08.take len08⟩).map (Value.int .u8)) ∧ Ext w w') := fun w e w' h => h
  have okY := Tcp.build_ok (s := 1) (d := 2) f hp (by omega) (by omega) (by omega) (by omega)
  have hN0 : 20 ≤ N := by omega
  have hN1 : N ≤ 1560 := by omega
  have hand := i64_and16 a1
  obtain ⟨k, hk⟩ : ∃ k : Nat, a1 % 65536 % (N : Int) = (k : Int) := ⟨(a1 % 65536 % (N : Int)).toNat, by have := Int.emod_nonneg (a1 % 65536) (show (N : Int) ≠ 0 by omega); omega⟩
  have hkN : k < N := by have := Int.emod_lt_of_pos (a1 % 65536) (show (0 : Int) < N by omega); omega
  by_cases hc : k < 20 + len07
  · have hcut : Tcp.lookV ((Tcp.buildV 1 2 ⟨a00, a01, a02, a03, a04, a05, a06, zs07.take len07, zs08.take len08⟩).take k) = 3 := Tcp.cut_short 1 2 f hp k (by rw [l7]; exact hc)
    have cp := fun q c w h hc => Tcp.parse_not q k c ((Tcp.buildV 1 2 ⟨a00, a01, a02, a03, a04, a05, a06, zs07.take len07, zs08.take len08⟩).take k) 3 w h hc (by omega) hcut (by omega)
    clear hcut f hp l7 l8
    dsimp only [Tcp.zeroSeg] at *
    generalize Tcp.BuildAns = BA at *
    generalize Tcp.buildV 1 2 ⟨a00, a01, a02, a03, a04, a05, a06, zs07.take len07, zs08.take len08⟩ = Y at *
    have HN : Hid _ := hN
    clear hN hlong
    go_enter Try.func7, Try.ntmps7
    go_wp2_with (first
      | (go_at_call 13; refine (cl _).mono ?_; rintro e w1 ⟨rfl, hx1⟩)
      | (go_at_call 19; refine (ci _).mono ?_; rintro e w2 ⟨rfl, hx2⟩; have hx12 := hx1.trans hx2; have hy2 := hx0.trans hx12)
      | (go_at_call 14; refine (cb _ (r7.below hy2) (r8.below hy2)).mono ?_; intro e w3 hB; obtain ⟨q, c, rfl, ho, hx3⟩ := HB.out _ _ _ hB; clear hB; obtain ⟨hb, hz, hc'⟩ := owns_slice ho okY; clear ho; have hbt := hb.take (n := k) (by omega); have hkc : k ≤ c := (by omega); have hx13 := hx12.trans hx3)
      | (go_at_call 9; refine (cp q c _ hbt hkc).mono ?_; rintro e w4 ⟨g1, m1, e1, g2, m2, e2, rfl, _, _, _, _, hx4⟩; have hx14 := (hx13.trans hx4).alloc (.cells #[.int .i64 0, .int .i64 0, .int .u32 0, .int .u32 0, .int .i64 0, .int .i64 0, .int .i64 0, .slice g1 m1 e1, .slice g2 m2 e2] 25))
      | (go_at_call 12; refine (Tcp.known_any _).mono ?_; rintro e w5 ⟨rfl, hx5⟩))
    go_ret
    exact ⟨rfl, hx0.trans (hx14.trans hx5)⟩
  · obtain ⟨hv, hdl⟩ := Tcp.cut_long 1 2 f hp k (by rw [l7]; omega) (by rw [l7, l8]; omega)
    rw [l7] at hdl
    have cp := fun q c w h hc => Tcp.parse_is q k c ((Tcp.buildV 1 2 ⟨a00, a01, a02, a03, a04, a05, a06, zs07.take len07, zs08.take len08⟩).take k) _ w h hc (by omega) hv rfl
    clear hv f hp l7 l8
    dsimp only at *
    generalize Tcp.parseV ((Tcp.buildV 1 2 ⟨a00, a01, a02, a03, a04, a05, a06, zs07.take len07, zs08.take len08⟩).take k) = S at *
    obtain ⟨t0, t1, t2, t3, t4, t5, t6, t7, t8⟩ := S
    dsimp only at *
    generalize Tcp.BuildAns = BA at *
    generalize Tcp.buildV 1 2 ⟨a00, a01, a02, a03, a04, a05, a06, zs07.take len07, zs08.take len08⟩ = Y at *
    have HN : Hid _ := hN
    clear hN hlong
    replace hc : 20 + len07 ≤ k := by omega
    go_enter Try.func7, Try.ntmps7
    go_wp2_with (first
      | (go_at_call 13; refine (cl _).mono ?_; rintro e w1 ⟨rfl, hx1⟩)
      | (go_at_call 19; refine (ci _).mono ?_; rintro e w2 ⟨rfl, hx2⟩; have hx12 := hx1.trans hx2; have hy2 := hx0.trans hx12)
      | (go_at_call 14; refine (cb _ (r7.below hy2) (r8.below hy2)).mono ?_; intro e w3 hB; obtain ⟨q, c, rfl, ho, hx3⟩ := HB.out _ _ _ hB; clear hB; obtain ⟨hb, hz, hc'⟩ := owns_slice ho okY; clear ho; have hbt := hb.take (n := k) (by omega); have hkc : k ≤ c := (by omega); have hx13 := hx12.trans hx3)
      | (go_at_call 9; refine (cp q c _ hbt hkc).mono ?_; rintro e w4 ⟨g1, m1, e1, g2, m2, e2, rfl, _, _, hd2, _, hx4⟩; have hx14 := (hx13.trans hx4).alloc (.cells #[.int .i64 t0, .int .i64 t1, .int .u32 t2, .int .u32 t3, .int .i64 t4, .int .i64 t5, .int .i64 t6, .slice g1 m1 e1, .slice g2 m2 e2] 25); have hm2 : (m2 : Int) = (k : Int) - (20 + (len07 : Int)) := (by have := hd2.length; omega); clear hd2)
      | (go_at_call 12; refine (Tcp.known_any _).mono ?_; rintro e w5 ⟨rfl, hx5⟩))
    go_ret
    exact ⟨rfl, hx0.trans (hx14.trans hx5)⟩

theorem contract (H : Type) (enc : TypeId × Value → H) (W : World) (base : Nat) (args : Array Value) (ds gs : List (DataW H)) (before : List MemPlace)
    (hval : ∀ (j : Nat) t v, Try.f7.params[j]? = some t → args[j]? = some v → Value.okWide Try.prog W .any base t v)
    (hW : DataW.Whole enc Try.prog Try.f7.params.toList Rows.tcpCutSpec.vars false W args.toList ds gs before) (hsh : W.ShapedOpen Try.prog) :
    Calls Try.prog 7 args W fun e W' => ∃ v, e = .returned v ∧ Rows.tcpCutSpec.post enc Try.prog Try.f7 false true false false W args v W' := by
  have hW' := hW
  obtain ⟨p, q, hA0, hV, rfl, hfz, hnd⟩ := hW
  have hA : DataW.TrodAll enc Try.prog W 0 (fun _ => true) true Try.f7.params.toList args.toList ds p := hA0
  rw [Try.params7] at hA hval
  obtain ⟨v0, vs0, d0, ds0, p0, q0, hargs, rfl, rfl, h0, r0⟩ := trodAll_cons hA
  obtain ⟨v1, vs1, d1, ds1, p1, q1, rfl, rfl, rfl, h1, r1⟩ := trodAll_cons r0
  obtain ⟨rfl, rfl, rfl⟩ := trodAll_nil r1
  obtain rfl : args = #[v0, v1] := by cases args; simp_all
  obtain ⟨rfl, rfl⟩ := trodVars_none hV
  have k0 := h0
  have lt0 : ∀ x ∈ p0, x.block < W.heap.size := by obtain ⟨m, hm⟩ := k0; exact DataW.trod_lt m _ _ _ hm
  obtain ⟨cs0, rfl, hs0⟩ := okWide_struct Try.underlying25 (hval 0 25 v0 rfl rfl)
  obtain ⟨u0a, u0b, u0c, u0d, u0e, u0f, u0g, u0h, u0i, rfl⟩ := arr9 (hs0.trans (by kernel_rfl))
  obtain ⟨fu0, hf0⟩ := h0
  obtain ⟨_, _, e1⟩ := field_at Try.underlying25 hf0 0 rfl 1 (by kernel_rfl)
  obtain ⟨a00, c2, _, w00⟩ := DataW.trod_int Try.underlying3 e1
  obtain rfl : u0a = .int .i64 a00 := by simpa [Value.cells] using c2
  obtain ⟨_, _, e3⟩ := field_at Try.underlying25 hf0 1 rfl 1 (by kernel_rfl)
  obtain ⟨a01, c4, _, w01⟩ := DataW.trod_int Try.underlying3 e3
  obtain rfl : u0b = .int .i64 a01 := by simpa [Value.cells] using c4
  obtain ⟨_, _, e5⟩ := field_at Try.underlying25 hf0 2 rfl 1 (by kernel_rfl)
  obtain ⟨a02, c6, _, w02⟩ := DataW.trod_int Try.underlying23 e5
  obtain rfl : u0c = .int .u32 a02 := by simpa [Value.cells] using c6
  obtain ⟨_, _, e7⟩ := field_at Try.underlying25 hf0 3 rfl 1 (by kernel_rfl)
  obtain ⟨a03, c8, _, w03⟩ := DataW.trod_int Try.underlying23 e7
  obtain rfl : u0d = .int .u32 a03 := by simpa [Value.cells] using c8
  obtain ⟨_, _, e9⟩ := field_at Try.underlying25 hf0 4 rfl 1 (by kernel_rfl)
  obtain ⟨a04, c10, _, w04⟩ := DataW.trod_int Try.underlying3 e9
  obtain rfl : u0e = .int .i64 a04 := by simpa [Value.cells] using c10
  obtain ⟨_, _, e11⟩ := field_at Try.underlying25 hf0 5 rfl 1 (by kernel_rfl)
  obtain ⟨a05, c12, _, w05⟩ := DataW.trod_int Try.underlying3 e11
  obtain rfl : u0f = .int .i64 a05 := by simpa [Value.cells] using c12
  obtain ⟨_, _, e13⟩ := field_at Try.underlying25 hf0 6 rfl 1 (by kernel_rfl)
  obtain ⟨a06, c14, _, w06⟩ := DataW.trod_int Try.underlying3 e13
  obtain rfl : u0g = .int .i64 a06 := by simpa [Value.cells] using c14
  obtain ⟨_, _, e15⟩ := field_at Try.underlying25 hf0 7 rfl 1 (by kernel_rfl)
  obtain ⟨a07, len07, cap07, zs07, c16, row07⟩ := open_rowI Try.underlying22 Try.underlying5 (by kernel_rfl) (fun _ => rfl) e15
  obtain rfl : u0h = .slice a07 len07 cap07 := by simpa [Value.cells] using c16
  obtain ⟨_, _, e17⟩ := field_at Try.underlying25 hf0 8 rfl 1 (by kernel_rfl)
  obtain ⟨a08, len08, cap08, zs08, c18, row08⟩ := open_rowI Try.underlying22 Try.underlying5 (by kernel_rfl) (fun _ => rfl) e17
  obtain rfl : u0i = .slice a08 len08 cap08 := by simpa [Value.cells] using c18
  obtain ⟨a1, rfl, rfl, rfl, w1⟩ := open_int Try.underlying3 (hval 1 3 v1 rfl rfl) h1
  clear hA0
  refine (walk a00 a01 a02 a03 a04 a05 a06 a07 len07 cap07 zs07 a08 len08 cap08 zs08 a1 W w00 w01 w02 w03 w04 w05 w06 row07 row08 w1 hsh).mono fun e W' ⟨he, bel⟩ => ?_
  subst he
  exact ⟨_, rfl, _, _, _, [], _, [], hW', trodAll_mk1 (shut_bool Try.underlying4 _), (trodAll_cons_mk (Below.trod laidOut (by kernel_rfl) (of_decide_eq_true (by kernel_rfl)) k0 bel lt0) (trodAll_cons_mk (shut_int Try.underlying3 w1) trodAll_mk0)), rfl, bel.frame _, fun h => by cases h⟩

theorem laid_met (os : Os) : laidMet Try.prog Rows.tcpCutRow.laid ((World.doorLaid Try.prog 24 os).forCall (fun _ _ => 0) ⟨#[], #[.agg #[.int .i64 0, .int .i64 0, .int .u32 0, .int .u32 0, .int .i64 0, .int .i64 0, .int .i64 0, .slice none 0 0, .slice none 0 0], .int .i64 0], []⟩).memory :=
  laidMet_of_run' 8 (by kernel_rfl) (by kernel_rfl)
theorem reads (os : Os) {H : Type} (enc : TypeId × Value → H) : ∃ places, DataW.whole enc Try.prog ((World.doorLaid Try.prog 24 os).forCall (fun _ _ => 0) ⟨#[], #[.agg #[.int .i64 0, .int .i64 0, .int .u32 0, .int .u32 0, .int .i64 0, .int .i64 0, .int .i64 0, .slice none 0 0, .slice none 0 0], .int .i64 0], []⟩).memory Try.f7.params.toList Rows.tcpCutSpec.vars false (#[.agg #[.int .i64 0, .int .i64 0, .int .u32 0, .int .u32 0, .int .i64 0, .int .i64 0, .int .i64 0, .slice none 0 0, .slice none 0 0], .int .i64 0] : Array Value).toList 8 = some ([.agg [.lit (.int .i64 0), .lit (.int .i64 0), .lit (.int .u32 0), .lit (.int .u32 0), .lit (.int .i64 0), .lit (.int .i64 0), .lit (.int .i64 0), .nil, .nil], .lit (.int .i64 0)], [], places) :=
  ⟨[], by kernel_rfl⟩

set_option maxRecDepth 100000 in
theorem lifted (os : Os) (started : os.Started) (H : Type) (enc : TypeId × Value → H) (F : Stop.Interp) :
    ReturnsInHanded {} Try.checked os 7 .any ((OpenSpec.ofChange Rows.tcpCutSpec).preRow enc Try.prog Try.f7 Rows.tcpCutRow.domain false Rows.tcpCutRow.laid) (((OpenSpec.ofChange Rows.tcpCutSpec).at F).post enc Try.prog Try.f7 false true false false) := by
  obtain ⟨places, hx⟩ := reads os enc
  refine returnsInHanded_of_row (C := Try.checked) (s := (OpenSpec.ofChange Rows.tcpCutSpec)) own started (by kernel_rfl) Try.func7
    (witness_row_at (enc := enc) (C := Try.checked) false (World.doorLaid Try.prog 24 os) #[.agg #[.int .i64 0, .int .i64 0, .int .u32 0, .int .u32 0, .int .i64 0, .int .i64 0, .int .i64 0, .slice none 0 0, .slice none 0 0], .int .i64 0] rfl (by kernel_rfl) (by kernel_rfl) (by kernel_rfl)
      (OpenSpec.preRow_of_cond 8 hx (by kernel_rfl) (fun k hk => by cases hk) (by kernel_rfl) (laid_met os))) ?_
  intro W base args ds gs before hval hW _ hcond _ hL hsh _
  exact contract H enc W base args ds gs before hval hW hsh

theorem said : Rows.TcpCutSaid :=
  OpenClaim.holds_of_cond 7 Try.f7 rfl rfl rfl rfl rfl rfl rfl ⟨rfl, rfl, rfl, rfl, rfl⟩ rfl rfl rfl rfl rfl (by kernel_rfl) Try.func7 (by kernel_rfl)
    (of_decide_eq_true (by kernel_rfl)) (by unfold Func.isWrapper; first | (rw [if_pos (by decide +kernel)]; kernel_rfl) | (rw [if_neg (by decide +kernel)]; exact ⟨rfl, rfl⟩))
    (fun os started H enc _ F => by rw [OpenClaim.pre_eq_preRow]; exact lifted os started H enc F)

end Go.Proofs.Ytlinkbniihlagaa.tcpCut

namespace Go.Proofs.Ytlinkbniihlagaa
theorem tcpCut_holds : Rows.TcpCutSaid := tcpCut.said
#print axioms tcpCut_holds
end Go.Proofs.Ytlinkbniihlagaa
