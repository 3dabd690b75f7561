/- For every bytes, the law TcpParses returns true: as a segment, or the error; no condition. -/
import Derived.Test.YtlinkbniihlagaaRows
import Derived.Test.YtlinkbniihlagaaTcp4K
import Derived.Test.YtlinkbniihlagaaTcp1
import Derived.Test.YtlinkbniihlagaaTcp5R
import Derived.Test.YtlinkbniihlagaaTcp6
import Derived.Test.YtlinkbniihlagaaFrame
import Derived.WalkKit
import Derived.ProofKit
import Derived.OpenShut
import Derived.ShutString
import Derived.ChangeOld
import Derived.Deep.DeepHandedRow
import Derived.Lib.LaidTab
import Derived.Lib.SmallJoins
import Derived.LaidMore
import Derived.Stop.LaidErr
import Derived.ChangeMaps5
namespace Go.Proofs.Ytlinkbniihlagaa.tcpParses
open Go.ChangeShapes Go.WideShapes Go.ChangeAt Go.RowKit Go.ChangeMaps
set_option linter.unusedVariables false

theorem own : ownKnob Try.prog.godebug = none := by kernel_rfl
theorem laidOut : laidOutB Try.prog = true := by kernel_rfl

set_option maxHeartbeats 4000000 in
theorem walk (a0 : Option Addr) (len0 cap0 : Nat) (zs0 : List Int) (w : World) (row0 : IsRow .u8 w a0 len0 cap0 zs0) (hsh : w.ShapedOpen Try.prog) :
    Calls Try.prog 3 #[.slice a0 len0 cap0] w fun e w' => e = .returned (.bool true) ∧ Below w.heap.size w w' := by
  have rb := row0.bytes
  have hle := row0.le
  by_cases h2000 : 2000 < len0
  · go_enter Try.func3, Try.ntmps3
    go_wp2
    go_ret
    exact ⟨rfl, Ext.refl _⟩
  generalize zs0.take len0 = xs at *
  have c1 := fun W h => Tcp.parse_any a0 len0 cap0 xs W h hle (by omega)
  have c2 := fun W h => Tcp.refParse_any a0 len0 cap0 xs W h hle (by omega)
  have HR : Hid (∀ w e w', Tcp.ParseAns w xs e w' → ∃ v, e = .returned (.tuple #[v, .int .i64 (Tcp.lookV xs)]) ∧ Tcp.IsSeg w' v (Tcp.packV xs) ∧ Ext w w') := fun w e w' h => h
  have cs := fun g1 m1 e1 g2 m2 e2 f1 l1 d1 f2 l2 d2 W h1 h2 h3 h4 => Tcp.refSame_any (Tcp.packV xs) (Tcp.packV xs) g1 m1 e1 g2 m2 e2 f1 l1 d1 f2 l2 d2 W h1 h2 h3 h4
  rw [Tcp.sameV_self] at cs
  generalize Tcp.packV xs = p at *
  generalize Tcp.lookV xs = er at *
  obtain ⟨p0, p1, p2, p3, p4, p5, p6, p7, p8⟩ := p
  dsimp only at cs
  go_enter Try.func3, Try.ntmps3
  go_wp2_with (first
    | (go_at_call 9; refine (c1 _ rb).mono ?_; intro e w1 hRd; obtain ⟨v, rfl, ⟨⟨g1, m1, e1, g2, m2, e2, rfl, hg1, _, hg2, _⟩⟩, hx1⟩ := HR.out _ _ _ hRd; clear hRd; have hxa : Ext w1 (w1.alloc (.cells #[.int .i64 p0, .int .i64 p1, .int .u32 p2, .int .u32 p3, .int .i64 p4, .int .i64 p5, .int .i64 p6, .slice g1 m1 e1, .slice g2 m2 e2] 25)) := (Ext.refl _).alloc _; have hx1a := hx1.trans hxa)
    | (go_at_call 10; refine (c2 _ (rb.below hx1a)).mono ?_; intro e w2 hRd; obtain ⟨v, rfl, ⟨⟨f1, l1, d1, f2, l2, d2, rfl, hf1, _, hf2, _⟩⟩, hx2⟩ := HR.out _ _ _ hRd; clear hRd; obtain ⟨x0, x1, x2, x3, x4, x5, x6, x7, x8⟩ := box_segE (heap_new' w1 (.cells #[.int .i64 p0, .int .i64 p1, .int .u32 p2, .int .u32 p3, .int .i64 p4, .int .i64 p5, .int .i64 p6, .slice g1 m1 e1, .slice g2 m2 e2] 25)); have hx2a := hx2.alloc (.cells #[.int .i64 p0, .int .i64 p1, .int .u32 p2, .int .u32 p3, .int .i64 p4, .int .i64 p5, .int .i64 p6, .slice f1 l1 d1, .slice f2 l2 d2] 25); have hx2b : Ext w2 (w2.alloc (.cells #[.int .i64 p0, .int .i64 p1, .int .u32 p2, .int .u32 p3, .int .i64 p4, .int .i64 p5, .int .i64 p6, .slice f1 l1 d1, .slice f2 l2 d2] 25)) := (Ext.refl _).alloc _)
    | (go_at_call 11; refine (cs g1 m1 e1 g2 m2 e2 f1 l1 d1 f2 l2 d2 _ (hg1.below (hxa.trans hx2a)) (hg2.below (hxa.trans hx2a)) (hf1.below hx2b) (hf2.below hx2b)).mono ?_; rintro e w3 ⟨rfl, hx3⟩; have hX3 := hx1a.trans (hx2a.trans hx3))
    | (go_at_call 12; refine (Tcp.known_any _).mono ?_; rintro e w6 ⟨rfl, hx6⟩))
  go_ret
  exact ⟨rfl, hX3.trans hx6⟩

theorem contract (H : Type) (enc : TypeId × Value → H) (W : World) (base : Nat) (args : Array Value) (ds gs : List (DataW H)) (before : List MemPlace)
    (hval : ∀ (j : Nat) t v, Try.f3.params[j]? = some t → args[j]? = some v → Value.okWide Try.prog W .any base t v)
    (hW : DataW.Whole enc Try.prog Try.f3.params.toList Rows.tcpParsesSpec.vars false W args.toList ds gs before) (hsh : W.ShapedOpen Try.prog) :
    Calls Try.prog 3 args W fun e W' => ∃ v, e = .returned v ∧ Rows.tcpParsesSpec.post enc Try.prog Try.f3 false true false false W args v W' := by
  have hW' := hW
  obtain ⟨p, q, hA0, hV, rfl, hfz, hnd⟩ := hW
  have hA : DataW.TrodAll enc Try.prog W 0 (fun _ => true) true Try.f3.params.toList args.toList ds p := hA0
  rw [Try.params3] at hA hval
  obtain ⟨v0, vs0, d0, ds0, p0, q0, hargs, rfl, rfl, h0, r0⟩ := trodAll_cons hA
  obtain ⟨rfl, rfl, rfl⟩ := trodAll_nil r0
  obtain rfl : args = #[v0] := by cases args; simp_all
  obtain ⟨rfl, rfl⟩ := trodVars_none hV
  have k0 := h0
  have lt0 : ∀ x ∈ p0, x.block < W.heap.size := by obtain ⟨m, hm⟩ := k0; exact DataW.trod_lt m _ _ _ hm
  obtain ⟨b0, l0, c0, rfl⟩ := okWide_slice Try.underlying22 (hval 0 22 v0 rfl rfl)
  obtain ⟨fu0, hf0⟩ := h0
  obtain ⟨a0, len0, cap0, zs0, ce0, row0⟩ := open_rowI Try.underlying22 Try.underlying5 (by kernel_rfl) (fun _ => rfl) hf0
  obtain ⟨rfl, rfl, rfl⟩ : a0 = b0 ∧ len0 = l0 ∧ cap0 = c0 := by simpa [Value.cells, eq_comm] using ce0
  clear hA0
  refine (walk a0 len0 cap0 zs0 W row0 hsh).mono fun e W' ⟨he, bel⟩ => ?_
  subst he
  exact ⟨_, rfl, _, _, _, [], _, [], hW', trodAll_mk1 (shut_bool Try.underlying4 _), (trodAll_cons_mk (Below.trod laidOut (by kernel_rfl) (of_decide_eq_true (by kernel_rfl)) k0 bel lt0) trodAll_mk0), rfl, bel.frame _, fun h => by cases h⟩

theorem laid_met (os : Os) : laidMet Try.prog Rows.tcpParsesRow.laid ((World.doorLaid Try.prog 24 os).forCall (fun _ _ => 0) ⟨#[], #[.slice none 0 0], []⟩).memory :=
  laidMet_of_run' 8 (by kernel_rfl) (by kernel_rfl)
theorem reads (os : Os) {H : Type} (enc : TypeId × Value → H) : ∃ places, DataW.whole enc Try.prog ((World.doorLaid Try.prog 24 os).forCall (fun _ _ => 0) ⟨#[], #[.slice none 0 0], []⟩).memory Try.f3.params.toList Rows.tcpParsesSpec.vars false (#[.slice none 0 0] : Array Value).toList 8 = some ([.nil], [], places) :=
  ⟨[], by kernel_rfl⟩

set_option maxRecDepth 100000 in
theorem lifted (os : Os) (started : os.Started) (H : Type) (enc : TypeId × Value → H) (F : Stop.Interp) :
    ReturnsInHanded {} Try.checked os 3 .any ((OpenSpec.ofChange Rows.tcpParsesSpec).preRow enc Try.prog Try.f3 Rows.tcpParsesRow.domain false Rows.tcpParsesRow.laid) (((OpenSpec.ofChange Rows.tcpParsesSpec).at F).post enc Try.prog Try.f3 false true false false) := by
  obtain ⟨places, hx⟩ := reads os enc
  refine returnsInHanded_of_row (C := Try.checked) (s := (OpenSpec.ofChange Rows.tcpParsesSpec)) own started (by kernel_rfl) Try.func3
    (witness_row_at (enc := enc) (C := Try.checked) false (World.doorLaid Try.prog 24 os) #[.slice none 0 0] rfl (by kernel_rfl) (by kernel_rfl) (by kernel_rfl)
      (OpenSpec.preRow_of_cond 8 hx (by kernel_rfl) (fun k hk => by cases hk) (by kernel_rfl) (laid_met os))) ?_
  intro W base args ds gs before hval hW _ hcond _ hL hsh _
  exact contract H enc W base args ds gs before hval hW hsh

theorem said : Rows.TcpParsesSaid :=
  OpenClaim.holds_of_cond 3 Try.f3 rfl rfl rfl rfl rfl rfl rfl ⟨rfl, rfl, rfl, rfl, rfl⟩ rfl rfl rfl rfl rfl (by kernel_rfl) Try.func3 (by kernel_rfl)
    (of_decide_eq_true (by kernel_rfl)) (by unfold Func.isWrapper; first | (rw [if_pos (by decide +kernel)]; kernel_rfl) | (rw [if_neg (by decide +kernel)]; exact ⟨rfl, rfl⟩))
    (fun os started H enc _ F => by rw [OpenClaim.pre_eq_preRow]; exact lifted os started H enc F)

end Go.Proofs.Ytlinkbniihlagaa.tcpParses

namespace Go.Proofs.Ytlinkbniihlagaa
theorem tcpParses_holds : Rows.TcpParsesSaid := tcpParses.said
#print axioms tcpParses_holds
end Go.Proofs.Ytlinkbniihlagaa
