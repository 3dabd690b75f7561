/- For every script of ways and every way, the law RibPlays returns true: each answer, and all ways in order, as the document says; no condition. -/
import Derived.Test.YtbchfmadmcppkaaRows
import Derived.Test.YtbchfmadmcppkaaLaw11P
import Derived.Test.YtbchfmadmcppkaaFrame
import Derived.Test.YtbchfmadmcppkaaRowG
import Derived.WalkKit
import Derived.ProofKit
import Derived.OpenShut
import Derived.ShutString
import Derived.ChangeOld
import Derived.Deep.DeepHandedRow
import Derived.Lib.LaidTab
import Derived.Lib.SmallJoins
import Derived.LaidMore
import Derived.Stop.LaidErr
import Derived.ChangeMaps5
namespace Go.Proofs.Ytbchfmadmcppkaa.ribPlays
open Go.ChangeShapes Go.WideShapes Go.ChangeAt Go.RowKit Go.ChangeMaps
set_option linter.unusedVariables false
set_option maxRecDepth 100000

theorem own : ownKnob Try.prog.godebug = none := by kernel_rfl
theorem laidOut : laidOutB Try.prog = true := by kernel_rfl

theorem arr6 {α : Type} {cs : Array α} (h : cs.size = 6) : ∃ c0 c1 c2 c3 c4 c5, cs = #[c0, c1, c2, c3, c4, c5] := by
  obtain ⟨l⟩ := cs
  match l, h with
  | [c0, c1, c2, c3, c4, c5], _ => exact ⟨c0, c1, c2, c3, c4, c5, rfl⟩

abbrev Elem56 := Bool × Int × Int × Int × Int × Int × Int
def cells56 (z : Elem56) : List Value := [.bool (z.1), .int .i64 (z.2.1), .int .u32 (z.2.2.1), .int .i64 (z.2.2.2.1), .int .i64 (z.2.2.2.2.1), .int .u32 (z.2.2.2.2.2.1), .int .i64 (z.2.2.2.2.2.2)]
def ok56 (z : Elem56) : Prop := (Lit.int .i64 (z.2.1)).wf = true ∧ (Lit.int .u32 (z.2.2.1)).wf = true ∧ (Lit.int .i64 (z.2.2.2.1)).wf = true ∧ (Lit.int .i64 (z.2.2.2.2.1)).wf = true ∧ (Lit.int .u32 (z.2.2.2.2.2.1)).wf = true ∧ (Lit.int .i64 (z.2.2.2.2.2.2)).wf = true
theorem cells56_length (z : Elem56) : (cells56 z).length = 7 := rfl
theorem elem56 {H : Type} {enc : TypeId × Value → H} {w : World} {base : Nat} {spare : Nat → Bool} {held : Bool} (n : Nat) (cs : List Value) (y : DataW H × List MemPlace)
    (h : DataW.trod enc Try.prog w base spare held n 56 cs = some y) : ∃ z : Elem56, cs = cells56 z ∧ ok56 z := by
  have hl : cs.length = 7 := by
    obtain ⟨_, _, _, _, hl, _⟩ := DataW.trod_struct Try.underlying56 h
    exact hl.trans (by kernel_rfl)
  obtain ⟨u0, u1, u2, u3, u4, u5, u6, rfl⟩ : ∃ u0 u1 u2 u3 u4 u5 u6, cs = [u0, u1, u2, u3, u4, u5, u6] := by
    match cs, hl with
    | [u0, u1, u2, u3, u4, u5, u6], _ => exact ⟨u0, u1, u2, u3, u4, u5, u6, rfl⟩
  obtain ⟨_, _, e1⟩ := field_at Try.underlying56 h 0 rfl 1 (by kernel_rfl)
  obtain ⟨az0, c2, _⟩ := DataW.trod_bool Try.underlying4 e1
  obtain rfl : u0 = .bool az0 := by simpa using c2
  obtain ⟨_, _, e3⟩ := field_at Try.underlying56 h 1 rfl 6 (by kernel_rfl)
  obtain ⟨_, _, e4⟩ := field_at Try.underlying27 e3 0 rfl 1 (by kernel_rfl)
  obtain ⟨az10, c5, _, wz10⟩ := DataW.trod_int Try.underlying3 e4
  obtain rfl : u1 = .int .i64 az10 := by simpa using c5
  obtain ⟨_, _, e6⟩ := field_at Try.underlying27 e3 1 rfl 2 (by kernel_rfl)
  obtain ⟨_, _, e7⟩ := field_at Try.underlying25 e6 0 rfl 1 (by kernel_rfl)
  obtain ⟨az110, c8, _, wz110⟩ := DataW.trod_int Try.underlying23 e7
  obtain rfl : u2 = .int .u32 az110 := by simpa using c8
  obtain ⟨_, _, e9⟩ := field_at Try.underlying25 e6 1 rfl 1 (by kernel_rfl)
  obtain ⟨az111, c10, _, wz111⟩ := DataW.trod_int Try.underlying3 e9
  obtain rfl : u3 = .int .i64 az111 := by simpa using c10
  obtain ⟨_, _, e11⟩ := field_at Try.underlying27 e3 2 rfl 1 (by kernel_rfl)
  obtain ⟨az12, c12, _, wz12⟩ := DataW.trod_int Try.underlying3 e11
  obtain rfl : u4 = .int .i64 az12 := by simpa using c12
  obtain ⟨_, _, e13⟩ := field_at Try.underlying27 e3 3 rfl 1 (by kernel_rfl)
  obtain ⟨az13, c14, _, wz13⟩ := DataW.trod_int Try.underlying23 e13
  obtain rfl : u5 = .int .u32 az13 := by simpa using c14
  obtain ⟨_, _, e15⟩ := field_at Try.underlying27 e3 4 rfl 1 (by kernel_rfl)
  obtain ⟨az14, c16, _, wz14⟩ := DataW.trod_int Try.underlying3 e15
  obtain rfl : u6 = .int .i64 az14 := by simpa using c16
  exact ⟨(az0, az10, az110, az111, az12, az13, az14), rfl, ⟨wz10, wz110, wz111, wz12, wz13, wz14⟩⟩

open Go.Proofs.Ytbchfmadmcppkaa.Tri Go.Proofs.Ytbchfmadmcppkaa.Rb

set_option maxHeartbeats 4000000 in
theorem walk (a0 : Option Addr) (len0 cap0 : Nat) (zs0 : List Elem56) (a10 : Int) (a110 : Int) (a111 : Int) (a12 : Int) (a13 : Int) (a14 : Int) (w : World) (row0 : IsRowG 7 cells56 ok56 w a0 len0 cap0 zs0) (w10 : (Lit.int .i64 a10).wf = true) (w110 : (Lit.int .u32 a110).wf = true) (w111 : (Lit.int .i64 a111).wf = true) (w12 : (Lit.int .i64 a12).wf = true) (w13 : (Lit.int .u32 a13).wf = true) (w14 : (Lit.int .i64 a14).wf = true) (hsh : w.ShapedOpen Try.prog) :
    Calls Try.prog 3 #[.slice a0 len0 cap0, .agg #[.int .i64 a10, .int .u32 a110, .int .i64 a111, .int .i64 a12, .int .u32 a13, .int .i64 a14]] w fun e w' => e = .returned (.bool true) ∧ Below w.heap.size w w' := by
  have row : IsRowG 7 actC actOk w a0 len0 cap0 zs0 := row0
  have hA : Ext w (w.alloc (.cells #[.int .i64 a10, .int .u32 a110, .int .i64 a111, .int .i64 a12, .int .u32 a13, .int .i64 a14] 27)) := (Ext.refl w).alloc _
  have kp := played_any a0 len0 cap0 zs0 _ (row.later (fun z => rfl) hA)
  have hok := rtOk_of w10 w110 w111 w12 w13 w14
  have a0' := hok.2.2.1
  have a1' := hok.2.2.2.1
  have kn := fun w => known_any w
  have k1 := fun w => is_any' ⟨a10, a110, a111, a12, a13, a14⟩ w a0' a1'
  have k2 := fun w => refIs_any' ⟨a10, a110, a111, a12, a13, a14⟩ w a0' a1'
  dsimp only at k1 k2 a0' a1'
  generalize isR ⟨a10, a110, a111, a12, a13, a14⟩ = bi at *
  have HQ : Hid _ := box_rtE (heap_new w (.cells #[.int .i64 a10, .int .u32 a110, .int .i64 a111, .int .i64 a12, .int .u32 a13, .int .i64 a14] 27))
  clear row row0 hok
  go_enter Try.func3, Try.ntmps3
  go_wp2_with (go_at_call 11; refine kp.mono ?_; rintro e w1 ⟨rb, xb, L, F, G, rfl, hg, hT⟩)
  refine wp_region_eager [(0, false), (1, false), (2, false), (4, false), (5, false), (6, false), (7, false), (3, true), (8, true), (9, false), (10, false), (11, false), (13, false), (12, true), (14, true), (15, false), (16, false), (17, false), (18, true), (19, false), (20, false)] (by kernel_rfl) (by kernel_rfl) rfl (by kernel_rfl) (fun _ _ _ _ _ h => h) ?_
  have hd : Ext w1 w1.drew := (Ext.refl w1).drew
  have hT1 := hT.later hd
  have hE : Ext w w1.drew := hA.trans hT1.ext
  have hlen := hg.len
  obtain ⟨vx, hgx, hX, hOx⟩ := hT1.x
  obtain ⟨px, cx, hvx, -, -, hRx⟩ := hOx.slice
  subst hvx
  have HRx : Hid (Rd w1.drew px L.length cx L) := hRx
  have x0 : ∀ w', Ext w1.drew w' → w'.cell? ⟨xb, 0, none⟩ = some (.slice px L.length cx) := fun w' h => by rw [heap_cell (h.heap hX)]; rfl
  have kA := all_any rb L F w1.drew hT1.b (by omega)
  have HC : Hid (Ext (w.alloc (.cells #[.int .i64 a10, .int .u32 a110, .int .i64 a111, .int .i64 a12, .int .u32 a13, .int .i64 a14] 27)) w1.drew) := hT1.ext
  clear hT hT1 hgx hX hOx hRx kp hg
  generalize w1.drew = W at *
  iterate 7 (refine wpE_read (v := ?_) rfl (by rfl) ?_ ?_; rotate_left; (focus (intro w' hx; go_simp; first | done | with_reducible rfl)); simp only [Act.put, List.setIfInBounds_toArray, List.set_cons_zero, List.set_cons_succ])
  clear x0
  refine wpE_call rfl (by rfl) (fun K hK => ?_)
  go_simp
  go_at_call 13
  refine kA.mono ?_
  rintro e w2 ⟨v', rfl, ho2, hx2⟩
  obtain ⟨p2, c2, hv2, hR2⟩ := own_rd ho2
  subst hv2
  refine hK _ _ hx2 ?_
  clear hK K
  refine wpE_call rfl (by rfl) (fun K hK => ?_)
  go_simp
  go_at_call 12
  refine (routes_same p2 px L.length L.length c2 cx L w2 hR2 (HRx.out.ext hx2) (by omega)).mono ?_
  rintro e w3 ⟨rfl, hx3⟩
  refine hK _ _ hx3 ?_
  clear hK K
  have hC3 := HC.out.trans (hx2.trans hx3)
  obtain ⟨q0, q1, q2, q3, q4, q5⟩ := HQ.out
  have t0 := fun w' h => q0 w' (hC3.trans h)
  have t1 := fun w' h => q1 w' (hC3.trans h)
  have t2 := fun w' h => q2 w' (hC3.trans h)
  have t3 := fun w' h => q3 w' (hC3.trans h)
  have t4 := fun w' h => q4 w' (hC3.trans h)
  have t5 := fun w' h => q5 w' (hC3.trans h)
  clear q0 q1 q2 q3 q4 q5
  iterate 4 (refine wpE_read (v := ?_) rfl (by rfl) ?_ ?_; rotate_left; (focus (intro w' hx; go_simp; first | done | with_reducible rfl)); simp only [Act.put, List.setIfInBounds_toArray, List.set_cons_zero, List.set_cons_succ])
  clear t0 t1 t2 t3 t4 t5
  refine wpE_call rfl (by rfl) (fun K hK => ?_)
  go_simp
  go_at_call 14
  refine (k1 _).mono ?_
  rintro e w4 ⟨rfl, hx4⟩
  refine hK _ _ hx4 ?_
  clear hK K
  refine wpE_call rfl (by rfl) (fun K hK => ?_)
  go_simp
  go_at_call 15
  refine (k2 _).mono ?_
  rintro e w5 ⟨rfl, hx5⟩
  refine hK _ _ hx5 ?_
  clear hK K
  iterate 3 (refine wpE_read (v := ?_) rfl (by rfl) ?_ ?_; rotate_left; (focus (intro w' hx; go_simp; first | done | with_reducible rfl)); simp only [Act.put, List.setIfInBounds_toArray, List.set_cons_zero, List.set_cons_succ])
  refine wpE_call rfl (by rfl) (fun K hK => ?_)
  go_simp
  go_at_call 16
  refine (kn _).mono ?_
  rintro e w6 ⟨rfl, hx6⟩
  refine hK _ _ hx6 ?_
  clear hK K
  iterate 2 (refine wpE_read (v := ?_) rfl (by rfl) ?_ ?_; rotate_left; (focus (intro w' hx; go_simp; first | done | with_reducible rfl)); simp only [Act.put, List.setIfInBounds_toArray, List.set_cons_zero, List.set_cons_succ])
  refine wpE_done ?_
  go_wp2_with fail
  go_ret
  exact ⟨rfl, hE.trans (hx2.trans (hx3.trans (hx4.trans (hx5.trans hx6))))⟩

theorem contract (H : Type) (enc : TypeId × Value → H) (W : World) (base : Nat) (args : Array Value) (ds gs : List (DataW H)) (before : List MemPlace)
    (hval : ∀ (j : Nat) t v, Try.f3.params[j]? = some t → args[j]? = some v → Value.okWide Try.prog W .any base t v)
    (hW : DataW.Whole enc Try.prog Try.f3.params.toList Rows.ribPlaysSpec.vars false W args.toList ds gs before) (hsh : W.ShapedOpen Try.prog) :
    Calls Try.prog 3 args W fun e W' => ∃ v, e = .returned v ∧ Rows.ribPlaysSpec.post enc Try.prog Try.f3 false true false false W args v W' := by
  have hW' := hW
  obtain ⟨p, q, hA0, hV, rfl, hfz, hnd⟩ := hW
  have hA : DataW.TrodAll enc Try.prog W 0 (fun _ => true) true Try.f3.params.toList args.toList ds p := hA0
  rw [Try.params3] at hA hval
  obtain ⟨v0, vs0, d0, ds0, p0, q0, hargs, rfl, rfl, h0, r0⟩ := trodAll_cons hA
  obtain ⟨v1, vs1, d1, ds1, p1, q1, rfl, rfl, rfl, h1, r1⟩ := trodAll_cons r0
  obtain ⟨rfl, rfl, rfl⟩ := trodAll_nil r1
  obtain rfl : args = #[v0, v1] := by cases args; simp_all
  obtain ⟨rfl, rfl⟩ := trodVars_none hV
  have k0 := h0
  have lt0 : ∀ x ∈ p0, x.block < W.heap.size := by obtain ⟨m, hm⟩ := k0; exact DataW.trod_lt m _ _ _ hm
  obtain ⟨b0, l0, c0, rfl⟩ := okWide_slice Try.underlying22 (hval 0 22 v0 rfl rfl)
  obtain ⟨fu0, hf0⟩ := h0
  obtain ⟨a0, len0, cap0, zs0, ce0, row0⟩ := open_rowG 7 cells56 ok56 (by omega) cells56_length Try.underlying22 (by kernel_rfl) elem56 hf0
  obtain ⟨rfl, rfl, rfl⟩ : a0 = b0 ∧ len0 = l0 ∧ cap0 = c0 := by simpa [Value.cells, eq_comm] using ce0
  have k1 := h1
  have lt1 : ∀ x ∈ p1, x.block < W.heap.size := by obtain ⟨m, hm⟩ := k1; exact DataW.trod_lt m _ _ _ hm
  obtain ⟨cs1, rfl, hs1⟩ := okWide_struct Try.underlying27 (hval 1 27 v1 rfl rfl)
  obtain ⟨u1a, u1b, u1c, u1d, u1e, u1f, rfl⟩ := arr6 (hs1.trans (by kernel_rfl))
  obtain ⟨fu1, hf1⟩ := h1
  obtain ⟨_, _, e17⟩ := field_at Try.underlying27 hf1 0 rfl 1 (by kernel_rfl)
  obtain ⟨a10, c18, _, w10⟩ := DataW.trod_int Try.underlying3 e17
  obtain rfl : u1a = .int .i64 a10 := by simpa [Value.cells] using c18
  obtain ⟨_, _, e19⟩ := field_at Try.underlying27 hf1 1 rfl 2 (by kernel_rfl)
  obtain ⟨_, _, e20⟩ := field_at Try.underlying25 e19 0 rfl 1 (by kernel_rfl)
  obtain ⟨a110, c21, _, w110⟩ := DataW.trod_int Try.underlying23 e20
  obtain rfl : u1b = .int .u32 a110 := by simpa [Value.cells] using c21
  obtain ⟨_, _, e22⟩ := field_at Try.underlying25 e19 1 rfl 1 (by kernel_rfl)
  obtain ⟨a111, c23, _, w111⟩ := DataW.trod_int Try.underlying3 e22
  obtain rfl : u1c = .int .i64 a111 := by simpa [Value.cells] using c23
  obtain ⟨_, _, e24⟩ := field_at Try.underlying27 hf1 2 rfl 1 (by kernel_rfl)
  obtain ⟨a12, c25, _, w12⟩ := DataW.trod_int Try.underlying3 e24
  obtain rfl : u1d = .int .i64 a12 := by simpa [Value.cells] using c25
  obtain ⟨_, _, e26⟩ := field_at Try.underlying27 hf1 3 rfl 1 (by kernel_rfl)
  obtain ⟨a13, c27, _, w13⟩ := DataW.trod_int Try.underlying23 e26
  obtain rfl : u1e = .int .u32 a13 := by simpa [Value.cells] using c27
  obtain ⟨_, _, e28⟩ := field_at Try.underlying27 hf1 4 rfl 1 (by kernel_rfl)
  obtain ⟨a14, c29, _, w14⟩ := DataW.trod_int Try.underlying3 e28
  obtain rfl : u1f = .int .i64 a14 := by simpa [Value.cells] using c29
  clear hA0
  refine (walk a0 len0 cap0 zs0 a10 a110 a111 a12 a13 a14 W row0 w10 w110 w111 w12 w13 w14 hsh).mono fun e W' ⟨he, bel⟩ => ?_
  subst he
  exact ⟨_, rfl, _, _, _, [], _, [], hW', trodAll_mk1 (shut_bool Try.underlying4 _), (trodAll_cons_mk (Below.trod laidOut (by kernel_rfl) (of_decide_eq_true (by kernel_rfl)) k0 bel lt0) (trodAll_cons_mk (Below.trod laidOut (by kernel_rfl) (of_decide_eq_true (by kernel_rfl)) k1 bel lt1) trodAll_mk0)), rfl, bel.frame _, fun h => by cases h⟩

theorem laid_met (os : Os) : laidMet Try.prog Rows.ribPlaysRow.laid ((World.doorLaid Try.prog 24 os).forCall (fun _ _ => 0) ⟨#[], #[.slice none 0 0, .agg #[.int .i64 0, .int .u32 0, .int .i64 0, .int .i64 0, .int .u32 0, .int .i64 0]], []⟩).memory :=
  laidMet_of_run' 8 (by kernel_rfl) (by kernel_rfl)
theorem reads (os : Os) {H : Type} (enc : TypeId × Value → H) : ∃ places, DataW.whole enc Try.prog ((World.doorLaid Try.prog 24 os).forCall (fun _ _ => 0) ⟨#[], #[.slice none 0 0, .agg #[.int .i64 0, .int .u32 0, .int .i64 0, .int .i64 0, .int .u32 0, .int .i64 0]], []⟩).memory Try.f3.params.toList Rows.ribPlaysSpec.vars false (#[.slice none 0 0, .agg #[.int .i64 0, .int .u32 0, .int .i64 0, .int .i64 0, .int .u32 0, .int .i64 0]] : Array Value).toList 8 = some ([.nil, .agg [.lit (.int .i64 0), .agg [.lit (.int .u32 0), .lit (.int .i64 0)], .lit (.int .i64 0), .lit (.int .u32 0), .lit (.int .i64 0)]], [], places) :=
  ⟨[], by kernel_rfl⟩

set_option maxRecDepth 100000 in
theorem lifted (os : Os) (started : os.Started) (H : Type) (enc : TypeId × Value → H) (F : Stop.Interp) :
    ReturnsInHanded {} Try.checked os 3 .any ((OpenSpec.ofChange Rows.ribPlaysSpec).preRow enc Try.prog Try.f3 Rows.ribPlaysRow.domain false Rows.ribPlaysRow.laid) (((OpenSpec.ofChange Rows.ribPlaysSpec).at F).post enc Try.prog Try.f3 false true false false) := by
  obtain ⟨places, hx⟩ := reads os enc
  refine returnsInHanded_of_row (C := Try.checked) (s := (OpenSpec.ofChange Rows.ribPlaysSpec)) own started (by kernel_rfl) Try.func3
    (witness_row_at (enc := enc) (C := Try.checked) false (World.doorLaid Try.prog 24 os) #[.slice none 0 0, .agg #[.int .i64 0, .int .u32 0, .int .i64 0, .int .i64 0, .int .u32 0, .int .i64 0]] rfl (by kernel_rfl) (by kernel_rfl) (by kernel_rfl)
      (OpenSpec.preRow_of_cond 8 hx (by kernel_rfl) (fun k hk => by cases hk) (by kernel_rfl) (laid_met os))) ?_
  intro W base args ds gs before hval hW _ hcond _ hL hsh _
  exact contract H enc W base args ds gs before hval hW hsh

theorem said : Rows.RibPlaysSaid :=
  OpenClaim.holds_of_cond 3 Try.f3 rfl rfl rfl rfl rfl rfl rfl ⟨rfl, rfl, rfl, rfl, rfl⟩ rfl rfl rfl rfl rfl (by kernel_rfl) Try.func3 (by kernel_rfl)
    (of_decide_eq_true (by kernel_rfl)) (by unfold Func.isWrapper; first | (rw [if_pos (by decide +kernel)]; kernel_rfl) | (rw [if_neg (by decide +kernel)]; exact ⟨rfl, rfl⟩))
    (fun os started H enc _ F => by rw [OpenClaim.pre_eq_preRow]; exact lifted os started H enc F)

end Go.Proofs.Ytbchfmadmcppkaa.ribPlays

namespace Go.Proofs.Ytbchfmadmcppkaa
theorem ribPlays_holds : Rows.RibPlaysSaid := ribPlays.said
#print axioms ribPlays_holds
end Go.Proofs.Ytbchfmadmcppkaa
