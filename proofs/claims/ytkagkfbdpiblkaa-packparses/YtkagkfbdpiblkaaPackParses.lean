/- For every bytes, the law PackParses returns true: any bytes as what is looked at, or the error; no condition. -/
import Derived.Test.YtkagkfbdpiblkaaRows
import Derived.Test.YtkagkfbdpiblkaaPack7
import Derived.Test.YtkagkfbdpiblkaaPackD
import Derived.Test.YtkagkfbdpiblkaaFrame
import Derived.WalkKit
import Derived.ProofKit
import Derived.OpenShut
import Derived.ShutString
import Derived.ChangeOld
import Derived.Deep.DeepHandedRow
import Derived.Lib.LaidTab
import Derived.Lib.SmallJoins
import Derived.LaidMore
import Derived.Stop.LaidErr
import Derived.ChangeMaps5
namespace Go.Proofs.Ytkagkfbdpiblkaa.packParses
open Go.ChangeShapes Go.WideShapes Go.ChangeAt Go.RowKit Go.ChangeMaps
set_option linter.unusedVariables false
set_option maxRecDepth 100000

theorem own : ownKnob Try.prog.godebug = none := by kernel_rfl
theorem laidOut : laidOutB Try.prog = true := by kernel_rfl

set_option maxHeartbeats 4000000 in
theorem walk (a0 : Option Addr) (len0 cap0 : Nat) (zs0 : List Int) (w : World) (row0 : IsRow .u8 w a0 len0 cap0 zs0) (hsh : w.ShapedOpen Try.prog) :
    Calls Try.prog 3 #[.slice a0 len0 cap0] w fun e w' => e = .returned (.bool true) ∧ Below w.heap.size w w' := by
  have rb := row0.bytes
  have hle := row0.le
  by_cases h2000 : 2000 < len0
  · go_enter Try.func3, Try.ntmps3
    go_wp2
    go_ret
    exact ⟨rfl, Ext.refl _⟩
  generalize zs0.take len0 = xs at *
  have c1 := fun W h => (Pack.packParse_any a0 len0 cap0 xs W h hle (by omega)).mono (fun e w' (h : Pack.PackAns W xs e w') => (show ∃ v, e = .returned (.tuple #[v, .int .i64 (Pack.lookX xs)]) ∧ Pack.IsPkt w' v (Pack.packX xs) ∧ Ext W w' from h))
  have c2 := fun W h => (Pack.refPackParse_any a0 len0 cap0 xs W h hle (by omega)).mono (fun e w' (h : Pack.PackAns W xs e w') => (show ∃ v, e = .returned (.tuple #[v, .int .i64 (Pack.lookX xs)]) ∧ Pack.IsPkt w' v (Pack.packX xs) ∧ Ext W w' from h))
  have cs := fun v1 v2 W h1 h2 => Pack.refPackSame_any v1 v2 (Pack.packX xs) (Pack.packX xs) W h1 h2
  rw [Pack.sameP_self] at cs
  generalize Pack.packX xs = p at *
  generalize Pack.lookX xs = er at *
  obtain ⟨⟨p0, p1, p2, p3, p4, p5, p6, p7, p8, p9, pa⟩, m0, m1, m2, m3, m4, m5, ii⟩ := p
  go_enter Try.func3, Try.ntmps3
  go_wp2_with (first
    | (go_at_call 8; refine (c1 _ rb).mono ?_; rintro e w1 ⟨v, rfl, ⟨⟨g1, l1, e1, g2, l2, e2, kp, rfl, hg1, hg2, hk1⟩⟩, hx1⟩; dsimp only)
    | (refine wpl_store (by rfl) 28 _ _ rfl rfl 18 w1.heap.size _ _ _ rfl rfl (heap_new' w1 _) Pack.pkt_size rfl rfl (by simp [Value.oneCell']) ?_; intro w2 hx2 k2; have hx12 : Ext w1 w2 := ExtX.ext ((Ext.refl w1).alloc _) hx2 (Nat.le_refl _); have K2 : Hid _ := k2; clear k2)
    | (go_at_call 9; refine (c2 _ (rb.below (hx1.trans hx12))).mono ?_; rintro e w3 ⟨v, rfl, ⟨⟨f1, n1, d1, f2, n2, d2, kq, rfl, hf1, hf2, hk2⟩⟩, hx3⟩; dsimp only)
    | (refine wpl_store (by rfl) 28 _ _ rfl rfl 18 w3.heap.size _ _ _ rfl rfl (heap_new' w3 _) Pack.pkt_size rfl rfl (by simp [Value.oneCell']) ?_; intro w4 hx4 k4; have hx34 : Ext w3 w4 := ExtX.ext ((Ext.refl w3).alloc _) hx4 (Nat.le_refl _); have K4 : Hid _ := k4; clear k4; have hxa := hx12.trans (hx3.trans hx34))
    | (refine wpl_load (by rfl) 28 _ rfl w1.heap.size _ _ _ rfl ((hx3.trans hx34).heap K2.out) Try.underlying28 rfl Pack.pkt_size ?_)
    | (refine wpl_load (by rfl) 28 _ rfl w3.heap.size _ _ _ rfl K4.out Try.underlying28 rfl Pack.pkt_size ?_)
    | (go_at_call 10; refine (cs _ _ _ ⟨g1, l1, e1, g2, l2, e2, kp, rfl, hg1.below hxa, hg2.below hxa, Pack.IsKey.later (o := ii) hk1 hxa⟩ ⟨f1, n1, d1, f2, n2, d2, kq, rfl, hf1.below hx34, hf2.below hx34, Pack.IsKey.later (o := ii) hk2 hx34⟩).mono ?_; rintro e w5 ⟨rfl, hx5⟩)
    | (go_at_call 11; refine (Pack.known_any _).mono ?_; rintro e w6 ⟨rfl, hx6⟩))
  go_ret
  exact ⟨rfl, (hx1.trans hxa).trans (hx5.trans hx6)⟩

theorem contract (H : Type) (enc : TypeId × Value → H) (W : World) (base : Nat) (args : Array Value) (ds gs : List (DataW H)) (before : List MemPlace)
    (hval : ∀ (j : Nat) t v, Try.f3.params[j]? = some t → args[j]? = some v → Value.okWide Try.prog W .any base t v)
    (hW : DataW.Whole enc Try.prog Try.f3.params.toList Rows.packParsesSpec.vars false W args.toList ds gs before) (hsh : W.ShapedOpen Try.prog) :
    Calls Try.prog 3 args W fun e W' => ∃ v, e = .returned v ∧ Rows.packParsesSpec.post enc Try.prog Try.f3 false true false false W args v W' := by
  have hW' := hW
  obtain ⟨p, q, hA0, hV, rfl, hfz, hnd⟩ := hW
  have hA : DataW.TrodAll enc Try.prog W 0 (fun _ => true) true Try.f3.params.toList args.toList ds p := hA0
  rw [Try.params3] at hA hval
  obtain ⟨v0, vs0, d0, ds0, p0, q0, hargs, rfl, rfl, h0, r0⟩ := trodAll_cons hA
  obtain ⟨rfl, rfl, rfl⟩ := trodAll_nil r0
  obtain rfl : args = #[v0] := by cases args; simp_all
  obtain ⟨rfl, rfl⟩ := trodVars_none hV
  have k0 := h0
  have lt0 : ∀ x ∈ p0, x.block < W.heap.size := by obtain ⟨m, hm⟩ := k0; exact DataW.trod_lt m _ _ _ hm
  obtain ⟨b0, l0, c0, rfl⟩ := okWide_slice Try.underlying22 (hval 0 22 v0 rfl rfl)
  obtain ⟨fu0, hf0⟩ := h0
  obtain ⟨a0, len0, cap0, zs0, ce0, row0⟩ := open_rowI Try.underlying22 Try.underlying5 (by kernel_rfl) (fun _ => rfl) hf0
  obtain ⟨rfl, rfl, rfl⟩ : a0 = b0 ∧ len0 = l0 ∧ cap0 = c0 := by simpa [Value.cells, eq_comm] using ce0
  clear hA0
  refine (walk a0 len0 cap0 zs0 W row0 hsh).mono fun e W' ⟨he, bel⟩ => ?_
  subst he
  exact ⟨_, rfl, _, _, _, [], _, [], hW', trodAll_mk1 (shut_bool Try.underlying4 _), (trodAll_cons_mk (Below.trod laidOut (by kernel_rfl) (of_decide_eq_true (by kernel_rfl)) k0 bel lt0) trodAll_mk0), rfl, bel.frame _, fun h => by cases h⟩

theorem laid_met (os : Os) : laidMet Try.prog Rows.packParsesRow.laid ((World.doorLaid Try.prog 24 os).forCall (fun _ _ => 0) ⟨#[], #[.slice none 0 0], []⟩).memory :=
  laidMet_of_run' 8 (by kernel_rfl) (by kernel_rfl)
theorem reads (os : Os) {H : Type} (enc : TypeId × Value → H) : ∃ places, DataW.whole enc Try.prog ((World.doorLaid Try.prog 24 os).forCall (fun _ _ => 0) ⟨#[], #[.slice none 0 0], []⟩).memory Try.f3.params.toList Rows.packParsesSpec.vars false (#[.slice none 0 0] : Array Value).toList 8 = some ([.nil], [], places) :=
  ⟨[], by kernel_rfl⟩

set_option maxRecDepth 100000 in
theorem lifted (os : Os) (started : os.Started) (H : Type) (enc : TypeId × Value → H) (F : Stop.Interp) :
    ReturnsInHanded {} Try.checked os 3 .any ((OpenSpec.ofChange Rows.packParsesSpec).preRow enc Try.prog Try.f3 Rows.packParsesRow.domain false Rows.packParsesRow.laid) (((OpenSpec.ofChange Rows.packParsesSpec).at F).post enc Try.prog Try.f3 false true false false) := by
  obtain ⟨places, hx⟩ := reads os enc
  refine returnsInHanded_of_row (C := Try.checked) (s := (OpenSpec.ofChange Rows.packParsesSpec)) own started (by kernel_rfl) Try.func3
    (witness_row_at (enc := enc) (C := Try.checked) false (World.doorLaid Try.prog 24 os) #[.slice none 0 0] rfl (by kernel_rfl) (by kernel_rfl) (by kernel_rfl)
      (OpenSpec.preRow_of_cond 8 hx (by kernel_rfl) (fun k hk => by cases hk) (by kernel_rfl) (laid_met os))) ?_
  intro W base args ds gs before hval hW _ hcond _ hL hsh _
  exact contract H enc W base args ds gs before hval hW hsh

theorem said : Rows.PackParsesSaid :=
  OpenClaim.holds_of_cond 3 Try.f3 rfl rfl rfl rfl rfl rfl rfl ⟨rfl, rfl, rfl, rfl, rfl⟩ rfl rfl rfl rfl rfl (by kernel_rfl) Try.func3 (by kernel_rfl)
    (of_decide_eq_true (by kernel_rfl)) (by unfold Func.isWrapper; first | (rw [if_pos (by decide +kernel)]; kernel_rfl) | (rw [if_neg (by decide +kernel)]; exact ⟨rfl, rfl⟩))
    (fun os started H enc _ F => by rw [OpenClaim.pre_eq_preRow]; exact lifted os started H enc F)

end Go.Proofs.Ytkagkfbdpiblkaa.packParses

namespace Go.Proofs.Ytkagkfbdpiblkaa
theorem packParses_holds : Rows.PackParsesSaid := packParses.said
#print axioms packParses_holds
end Go.Proofs.Ytkagkfbdpiblkaa
