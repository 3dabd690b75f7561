/- For every segment, the law TcpResets returns true: no answer answers an answer; each goes back, and says what was heard; no condition. -/
import Derived.Test.YtlinkbniihlagaaRows
import Derived.Test.YtlinkbniihlagaaTcp4K
import Derived.Test.YtlinkbniihlagaaFrame
import Derived.WalkKit
import Derived.ProofKit
import Derived.OpenShut
import Derived.ShutString
import Derived.ChangeOld
import Derived.Deep.DeepHandedRow
import Derived.Lib.LaidTab
import Derived.Lib.SmallJoins
import Derived.LaidMore
import Derived.Stop.LaidErr
import Derived.ChangeMaps5
namespace Go.Proofs.Ytlinkbniihlagaa.tcpResets
open Go.ChangeShapes Go.WideShapes Go.ChangeAt Go.RowKit Go.ChangeMaps
set_option linter.unusedVariables false

theorem own : ownKnob Try.prog.godebug = none := by kernel_rfl
theorem laidOut : laidOutB Try.prog = true := by kernel_rfl

theorem arr9 {α : Type} {cs : Array α} (h : cs.size = 9) : ∃ c0 c1 c2 c3 c4 c5 c6 c7 c8, cs = #[c0, c1, c2, c3, c4, c5, c6, c7, c8] := by
  obtain ⟨l⟩ := cs
  match l, h with
  | [c0, c1, c2, c3, c4, c5, c6, c7, c8], _ => exact ⟨c0, c1, c2, c3, c4, c5, c6, c7, c8, rfl⟩

set_option maxHeartbeats 4000000 in
theorem walk (a00 : Int) (a01 : Int) (a02 : Int) (a03 : Int) (a04 : Int) (a05 : Int) (a06 : Int) (a07 : Option Addr) (len07 cap07 : Nat) (zs07 : List Int) (a08 : Option Addr) (len08 cap08 : Nat) (zs08 : List Int) (w : World) (w00 : (Lit.int .i64 a00).wf = true) (w01 : (Lit.int .i64 a01).wf = true) (w02 : (Lit.int .u32 a02).wf = true) (w03 : (Lit.int .u32 a03).wf = true) (w04 : (Lit.int .i64 a04).wf = true) (w05 : (Lit.int .i64 a05).wf = true) (w06 : (Lit.int .i64 a06).wf = true) (row07 : IsRow .u8 w a07 len07 cap07 zs07) (row08 : IsRow .u8 w a08 len08 cap08 zs08) (hsh : w.ShapedOpen Try.prog) :
    Calls Try.prog 6 #[.agg #[.int .i64 a00, .int .i64 a01, .int .u32 a02, .int .u32 a03, .int .i64 a04, .int .i64 a05, .int .i64 a06, .slice a07 len07 cap07, .slice a08 len08 cap08]] w fun e w' => e = .returned (.bool true) ∧ Below w.heap.size w w' := by
  have r7 := row07.bytes
  have r8 := row08.bytes
  have bq := bounds_u32 w02
  have cl := fun w => Tcp.long_any ⟨a00, a01, a02, a03, a04, a05, a06, zs07.take len07, zs08.take len08⟩ a07 len07 cap07 a08 len08 cap08 w
  have hx0 : Ext w (w.alloc (.cells #[.int .i64 a00, .int .i64 a01, .int .u32 a02, .int .u32 a03, .int .i64 a04, .int .i64 a05, .int .i64 a06, .slice a07 len07 cap07, .slice a08 len08 cap08] 25)) := (Ext.refl w).alloc _
  obtain ⟨b0, b1, b2, b3, b4, b5, b6, b7, b8⟩ := box_segE (heap_new' w (.cells #[.int .i64 a00, .int .i64 a01, .int .u32 a02, .int .u32 a03, .int .i64 a04, .int .i64 a05, .int .i64 a06, .slice a07 len07 cap07, .slice a08 len08 cap08] 25))
  by_cases hlong : 60 < len07 ∨ 1500 < len08
  · rw [show decide (60 < len07 ∨ 1500 < len08) = true by simpa using hlong] at cl
    clear hlong
    dsimp only at *
    go_enter Try.func6, Try.ntmps6
    go_wp2_with (go_at_call 13; refine (cl _).mono ?_; rintro e w1 ⟨rfl, hx1⟩)
    go_ret
    exact ⟨rfl, hx0.trans hx1⟩
  rw [show decide (60 < len07 ∨ 1500 < len08) = false by simpa using hlong] at cl
  have cr := fun w => Tcp.reset_any ⟨a00, a01, a02, a03, a04, a05, a06, zs07.take len07, zs08.take len08⟩ a07 len07 cap07 a08 len08 cap08 w r8.length (by omega) bq.1 bq.2
  have hF4 : (bits .and .i64 a04 4 != 0) = Tcp.flagV ⟨a00, a01, a02, a03, a04, a05, a06, zs07.take len07, zs08.take len08⟩ 4 := rfl
  have hF16 : (bits .and .i64 a04 16 != 0) = Tcp.flagV ⟨a00, a01, a02, a03, a04, a05, a06, zs07.take len07, zs08.take len08⟩ 16 := rfl
  have tok1 : Hid True := trivial
  clear hlong
  cases h4 : Tcp.flagV ⟨a00, a01, a02, a03, a04, a05, a06, zs07.take len07, zs08.take len08⟩ 4 with
  | true =>
    rw [Tcp.resetE_no h4] at cr
    rw [h4] at hF4
    have cz := fun w => Tcp.reset_any Tcp.zeroSeg none 0 0 none 0 0 w rfl (by omega) (by decide) (by decide)
    have ez : Tcp.resetE Tcp.zeroSeg = .returned (.tuple #[.agg #[.int .i64 0, .int .i64 0, .int .u32 0, .int .u32 0, .int .i64 20, .int .i64 0, .int .i64 0, .slice none 0 0, .slice none 0 0], .bool true]) := by
      rw [Tcp.resetE_non (by decide) (by decide)]
      have : (Tcp.zeroSeg.seq + Tcp.roomV Tcp.zeroSeg) % 4294967296 = 0 := by decide
      rw [this]; rfl
    rw [ez] at cz
    clear h4 ez hF16
    dsimp only [Tcp.zeroSeg] at *
    go_enter Try.func6, Try.ntmps6
    go_wp2_with (first
      | (go_at_call 13; refine (cl _).mono ?_; rintro e w1 ⟨rfl, hx1⟩)
      | (go_at_call 16; clear tok1; refine (cr _).mono ?_; rintro e w2 ⟨rfl, hx2⟩; have hx12 := hx1.trans hx2; obtain ⟨d0, d1, d2, d3, d4, d5, d6, d7, d8⟩ := box_segE (heap_new' w2 (.cells #[.int .i64 0, .int .i64 0, .int .u32 0, .int .u32 0, .int .i64 0, .int .i64 0, .int .i64 0, .slice none 0 0, .slice none 0 0] 25)); have hx2a := hx12.alloc (.cells #[.int .i64 0, .int .i64 0, .int .u32 0, .int .u32 0, .int .i64 0, .int .i64 0, .int .i64 0, .slice none 0 0, .slice none 0 0] 25))
      | (go_at_call 16; refine (cz _).mono ?_; rintro e w3 ⟨rfl, hx3⟩; have hx3a := (hx2a.trans hx3).alloc (.cells #[.int .i64 0, .int .i64 0, .int .u32 0, .int .u32 0, .int .i64 20, .int .i64 0, .int .i64 0, .slice none 0 0, .slice none 0 0] 25))
      | (go_at_call 12; refine (Tcp.known_any _).mono ?_; rintro e w4 ⟨rfl, hx4⟩))
    go_ret
    exact ⟨rfl, hx0.trans (hx3a.trans hx4)⟩
  | false =>
    have go : ∀ (s2 s3 s4 : Int) (q4 : bits .and .i64 s4 4 != 0) (q16 : (bits .and .i64 s4 16 != 0) = (bits .and .i64 a04 16 == 0)) (u0 : 0 ≤ s2) (u1 : s2 ≤ 4294967295) (cr : ∀ w, Calls Try.prog 16 #[.agg #[.int .i64 a00, .int .i64 a01, .int .u32 a02, .int .u32 a03, .int .i64 a04, .int .i64 a05, .int .i64 a06, .slice a07 len07 cap07, .slice a08 len08 cap08]] w fun e w' => e = .returned (.tuple #[.agg #[.int .i64 a01, .int .i64 a00, .int .u32 s2, .int .u32 s3, .int .i64 s4, .int .i64 0, .int .i64 0, .slice none 0 0, .slice none 0 0], .bool true]) ∧ Ext w w'),
        Calls Try.prog 6 #[.agg #[.int .i64 a00, .int .i64 a01, .int .u32 a02, .int .u32 a03, .int .i64 a04, .int .i64 a05, .int .i64 a06, .slice a07 len07 cap07, .slice a08 len08 cap08]] w fun e w' => e = .returned (.bool true) ∧ Below w.heap.size w w' := by
      intro s2 s3 s4 q4 q16 u0 u1 cr
      have cz := fun w => Tcp.reset_any ⟨a01, a00, s2, s3, s4, 0, 0, [], []⟩ none 0 0 none 0 0 w rfl (by omega) u0 u1
      rw [Tcp.resetE_no (p := ⟨a01, a00, s2, s3, s4, 0, 0, [], []⟩) q4] at cz
      clear hF4 hF16 h4
      dsimp only at *
      go_enter Try.func6, Try.ntmps6
      go_wp2_with (first
        | (go_at_call 13; refine (cl _).mono ?_; rintro e w1 ⟨rfl, hx1⟩)
        | (go_at_call 16; clear tok1; refine (cr _).mono ?_; rintro e w2 ⟨rfl, hx2⟩; have hx12 := hx1.trans hx2; obtain ⟨d0, d1, d2, d3, d4, d5, d6, d7, d8⟩ := box_segE (heap_new' w2 (.cells #[.int .i64 a01, .int .i64 a00, .int .u32 s2, .int .u32 s3, .int .i64 s4, .int .i64 0, .int .i64 0, .slice none 0 0, .slice none 0 0] 25)); have hx2a := hx12.alloc (.cells #[.int .i64 a01, .int .i64 a00, .int .u32 s2, .int .u32 s3, .int .i64 s4, .int .i64 0, .int .i64 0, .slice none 0 0, .slice none 0 0] 25))
        | (go_at_call 16; refine (cz _).mono ?_; rintro e w3 ⟨rfl, hx3⟩; have hx3b := hx3.alloc (.cells #[.int .i64 0, .int .i64 0, .int .u32 0, .int .u32 0, .int .i64 0, .int .i64 0, .int .i64 0, .slice none 0 0, .slice none 0 0] 25); have hx3a := hx2a.trans hx3b)
        | (go_at_call 12; refine (Tcp.known_any _).mono ?_; rintro e w4 ⟨rfl, hx4⟩))
      go_ret
      exact ⟨rfl, hx0.trans (hx3a.trans hx4)⟩
    have b3' := bounds_u32 w03
    cases h16 : Tcp.flagV ⟨a00, a01, a02, a03, a04, a05, a06, zs07.take len07, zs08.take len08⟩ 16 with
    | true =>
      rw [Tcp.resetE_ack h4 h16] at cr
      rw [h16] at hF16
      refine go a03 0 4 (by decide) ?_ b3'.1 b3'.2 cr
      have : bits .and .i64 a04 16 ≠ 0 := by simpa using hF16
      have h' : (bits .and .i64 a04 16 == 0) = false := by simpa using this
      rw [h']; decide
    | false =>
      rw [Tcp.resetE_non h4 h16] at cr
      rw [h16] at hF16
      refine go 0 _ 20 (by decide) ?_ (by omega) (by omega) cr
      have : bits .and .i64 a04 16 = 0 := by simpa using hF16
      rw [this]; decide

theorem contract (H : Type) (enc : TypeId × Value → H) (W : World) (base : Nat) (args : Array Value) (ds gs : List (DataW H)) (before : List MemPlace)
    (hval : ∀ (j : Nat) t v, Try.f6.params[j]? = some t → args[j]? = some v → Value.okWide Try.prog W .any base t v)
    (hW : DataW.Whole enc Try.prog Try.f6.params.toList Rows.tcpResetsSpec.vars false W args.toList ds gs before) (hsh : W.ShapedOpen Try.prog) :
    Calls Try.prog 6 args W fun e W' => ∃ v, e = .returned v ∧ Rows.tcpResetsSpec.post enc Try.prog Try.f6 false true false false W args v W' := by
  have hW' := hW
  obtain ⟨p, q, hA0, hV, rfl, hfz, hnd⟩ := hW
  have hA : DataW.TrodAll enc Try.prog W 0 (fun _ => true) true Try.f6.params.toList args.toList ds p := hA0
  rw [Try.params6] at hA hval
  obtain ⟨v0, vs0, d0, ds0, p0, q0, hargs, rfl, rfl, h0, r0⟩ := trodAll_cons hA
  obtain ⟨rfl, rfl, rfl⟩ := trodAll_nil r0
  obtain rfl : args = #[v0] := by cases args; simp_all
  obtain ⟨rfl, rfl⟩ := trodVars_none hV
  have k0 := h0
  have lt0 : ∀ x ∈ p0, x.block < W.heap.size := by obtain ⟨m, hm⟩ := k0; exact DataW.trod_lt m _ _ _ hm
  obtain ⟨cs0, rfl, hs0⟩ := okWide_struct Try.underlying25 (hval 0 25 v0 rfl rfl)
  obtain ⟨u0a, u0b, u0c, u0d, u0e, u0f, u0g, u0h, u0i, rfl⟩ := arr9 (hs0.trans (by kernel_rfl))
  obtain ⟨fu0, hf0⟩ := h0
  obtain ⟨_, _, e1⟩ := field_at Try.underlying25 hf0 0 rfl 1 (by kernel_rfl)
  obtain ⟨a00, c2, _, w00⟩ := DataW.trod_int Try.underlying3 e1
  obtain rfl : u0a = .int .i64 a00 := by simpa [Value.cells] using c2
  obtain ⟨_, _, e3⟩ := field_at Try.underlying25 hf0 1 rfl 1 (by kernel_rfl)
  obtain ⟨a01, c4, _, w01⟩ := DataW.trod_int Try.underlying3 e3
  obtain rfl : u0b = .int .i64 a01 := by simpa [Value.cells] using c4
  obtain ⟨_, _, e5⟩ := field_at Try.underlying25 hf0 2 rfl 1 (by kernel_rfl)
  obtain ⟨a02, c6, _, w02⟩ := DataW.trod_int Try.underlying23 e5
  obtain rfl : u0c = .int .u32 a02 := by simpa [Value.cells] using c6
  obtain ⟨_, _, e7⟩ := field_at Try.underlying25 hf0 3 rfl 1 (by kernel_rfl)
  obtain ⟨a03, c8, _, w03⟩ := DataW.trod_int Try.underlying23 e7
  obtain rfl : u0d = .int .u32 a03 := by simpa [Value.cells] using c8
  obtain ⟨_, _, e9⟩ := field_at Try.underlying25 hf0 4 rfl 1 (by kernel_rfl)
  obtain ⟨a04, c10, _, w04⟩ := DataW.trod_int Try.underlying3 e9
  obtain rfl : u0e = .int .i64 a04 := by simpa [Value.cells] using c10
  obtain ⟨_, _, e11⟩ := field_at Try.underlying25 hf0 5 rfl 1 (by kernel_rfl)
  obtain ⟨a05, c12, _, w05⟩ := DataW.trod_int Try.underlying3 e11
  obtain rfl : u0f = .int .i64 a05 := by simpa [Value.cells] using c12
  obtain ⟨_, _, e13⟩ := field_at Try.underlying25 hf0 6 rfl 1 (by kernel_rfl)
  obtain ⟨a06, c14, _, w06⟩ := DataW.trod_int Try.underlying3 e13
  obtain rfl : u0g = .int .i64 a06 := by simpa [Value.cells] using c14
  obtain ⟨_, _, e15⟩ := field_at Try.underlying25 hf0 7 rfl 1 (by kernel_rfl)
  obtain ⟨a07, len07, cap07, zs07, c16, row07⟩ := open_rowI Try.underlying22 Try.underlying5 (by kernel_rfl) (fun _ => rfl) e15
  obtain rfl : u0h = .slice a07 len07 cap07 := by simpa [Value.cells] using c16
  obtain ⟨_, _, e17⟩ := field_at Try.underlying25 hf0 8 rfl 1 (by kernel_rfl)
  obtain ⟨a08, len08, cap08, zs08, c18, row08⟩ := open_rowI Try.underlying22 Try.underlying5 (by kernel_rfl) (fun _ => rfl) e17
  obtain rfl : u0i = .slice a08 len08 cap08 := by simpa [Value.cells] using c18
  clear hA0
  refine (walk a00 a01 a02 a03 a04 a05 a06 a07 len07 cap07 zs07 a08 len08 cap08 zs08 W w00 w01 w02 w03 w04 w05 w06 row07 row08 hsh).mono fun e W' ⟨he, bel⟩ => ?_
  subst he
  exact ⟨_, rfl, _, _, _, [], _, [], hW', trodAll_mk1 (shut_bool Try.underlying4 _), (trodAll_cons_mk (Below.trod laidOut (by kernel_rfl) (of_decide_eq_true (by kernel_rfl)) k0 bel lt0) trodAll_mk0), rfl, bel.frame _, fun h => by cases h⟩

theorem laid_met (os : Os) : laidMet Try.prog Rows.tcpResetsRow.laid ((World.doorLaid Try.prog 24 os).forCall (fun _ _ => 0) ⟨#[], #[.agg #[.int .i64 0, .int .i64 0, .int .u32 0, .int .u32 0, .int .i64 0, .int .i64 0, .int .i64 0, .slice none 0 0, .slice none 0 0]], []⟩).memory :=
  laidMet_of_run' 8 (by kernel_rfl) (by kernel_rfl)
theorem reads (os : Os) {H : Type} (enc : TypeId × Value → H) : ∃ places, DataW.whole enc Try.prog ((World.doorLaid Try.prog 24 os).forCall (fun _ _ => 0) ⟨#[], #[.agg #[.int .i64 0, .int .i64 0, .int .u32 0, .int .u32 0, .int .i64 0, .int .i64 0, .int .i64 0, .slice none 0 0, .slice none 0 0]], []⟩).memory Try.f6.params.toList Rows.tcpResetsSpec.vars false (#[.agg #[.int .i64 0, .int .i64 0, .int .u32 0, .int .u32 0, .int .i64 0, .int .i64 0, .int .i64 0, .slice none 0 0, .slice none 0 0]] : Array Value).toList 8 = some ([.agg [.lit (.int .i64 0), .lit (.int .i64 0), .lit (.int .u32 0), .lit (.int .u32 0), .lit (.int .i64 0), .lit (.int .i64 0), .lit (.int .i64 0), .nil, .nil]], [], places) :=
  ⟨[], by kernel_rfl⟩

set_option maxRecDepth 100000 in
theorem lifted (os : Os) (started : os.Started) (H : Type) (enc : TypeId × Value → H) (F : Stop.Interp) :
    ReturnsInHanded {} Try.checked os 6 .any ((OpenSpec.ofChange Rows.tcpResetsSpec).preRow enc Try.prog Try.f6 Rows.tcpResetsRow.domain false Rows.tcpResetsRow.laid) (((OpenSpec.ofChange Rows.tcpResetsSpec).at F).post enc Try.prog Try.f6 false true false false) := by
  obtain ⟨places, hx⟩ := reads os enc
  refine returnsInHanded_of_row (C := Try.checked) (s := (OpenSpec.ofChange Rows.tcpResetsSpec)) own started (by kernel_rfl) Try.func6
    (witness_row_at (enc := enc) (C := Try.checked) false (World.doorLaid Try.prog 24 os) #[.agg #[.int .i64 0, .int .i64 0, .int .u32 0, .int .u32 0, .int .i64 0, .int .i64 0, .int .i64 0, .slice none 0 0, .slice none 0 0]] rfl (by kernel_rfl) (by kernel_rfl) (by kernel_rfl)
      (OpenSpec.preRow_of_cond 8 hx (by kernel_rfl) (fun k hk => by cases hk) (by kernel_rfl) (laid_met os))) ?_
  intro W base args ds gs before hval hW _ hcond _ hL hsh _
  exact contract H enc W base args ds gs before hval hW hsh

theorem said : Rows.TcpResetsSaid :=
  OpenClaim.holds_of_cond 6 Try.f6 rfl rfl rfl rfl rfl rfl rfl ⟨rfl, rfl, rfl, rfl, rfl⟩ rfl rfl rfl rfl rfl (by kernel_rfl) Try.func6 (by kernel_rfl)
    (of_decide_eq_true (by kernel_rfl)) (by unfold Func.isWrapper; first | (rw [if_pos (by decide +kernel)]; kernel_rfl) | (rw [if_neg (by decide +kernel)]; exact ⟨rfl, rfl⟩))
    (fun os started H enc _ F => by rw [OpenClaim.pre_eq_preRow]; exact lifted os started H enc F)

end Go.Proofs.Ytlinkbniihlagaa.tcpResets

namespace Go.Proofs.Ytlinkbniihlagaa
theorem tcpResets_holds : Rows.TcpResetsSaid := tcpResets.said
#print axioms tcpResets_holds
end Go.Proofs.Ytlinkbniihlagaa
