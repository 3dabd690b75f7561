/- For every two prefixes, every address and every length, the law AddrLooks returns true: masks, prefixes without other bits, which has which, which are many, the last address: as the document says; no condition. -/
import Derived.Test.YthgjmgdnilohcaaDoorCards
import Derived.Test.YthgjmgdnilohcaaDoorTie
import Derived.Test.YthgjmgdnilohcaaDoorAddrT
import Derived.Test.YthgjmgdnilohcaaDoorRef3
import Derived.WalkKit
import Derived.ProofKit
import Derived.OpenShut
import Derived.ShutString
import Derived.ChangeOld
import Derived.Deep.DeepHandedRow
import Derived.Lib.LaidTab
import Derived.Lib.SmallJoins
import Derived.LaidMore
import Derived.Stop.LaidErr
namespace Go.Proofs.YthgjmgdnilohcaaDoor.addrLooks
open Go.ChangeShapes Go.WideShapes Go.ChangeAt Go.RowKit
set_option linter.unusedVariables false

theorem own : ownKnob Tryd.prog.godebug = none := by kernel_rfl
theorem laidOut : laidOutB Tryd.prog = true := by kernel_rfl

set_option maxHeartbeats 4000000 in
theorem walk (a00 a01 : Int) (a10 a11 : Int) (a2 : Int) (a3 : Int) (w : World) (w00 : (Lit.int .u32 a00).wf = true) (w01 : (Lit.int .i64 a01).wf = true) (w10 : (Lit.int .u32 a10).wf = true) (w11 : (Lit.int .i64 a11).wf = true) (w2 : (Lit.int .u32 a2).wf = true) (w3 : (Lit.int .i64 a3).wf = true) (ht : Tab w) (hsh : w.ShapedOpen Tryd.prog) :
    Calls Tryd.prog 4 #[.agg #[.int .u32 a00, .int .i64 a01], .agg #[.int .u32 a10, .int .i64 a11], .int .u32 a2, .int .i64 a3] w fun e w' => e = .returned (.bool true) ∧ Below w.heap.size w w' := by
  have hb0 := bounds_u32 w00
  have hb1 := bounds_u32 w10
  have hb2 := bounds_u32 w2
  have c1 := fun w => mask_any a3 w
  have r1 := fun w => refMask_any a3 w
  have c2 := fun w => norm_any a00 a01 w hb0.1 hb0.2
  have r2 := fun w => refNorm_any a00 a01 w hb0.1 hb0.2
  have c3 := fun w => is_any a00 a01 w hb0.1 hb0.2
  have r3 := fun w => refIs_any a00 a01 w hb0.1 hb0.2
  have c4 := fun w => has_any a00 a01 a2 w hb0.1 hb0.2 hb2.1 hb2.2
  have r4 := fun w => refHas_any a00 a01 a2 w hb0.1 hb0.2 hb2.1 hb2.2
  have c5 := fun w => covers_any a00 a01 a10 a11 w hb0.1 hb0.2 hb1.1 hb1.2
  have r5 := fun w => refCovers_any a00 a01 a10 a11 w hb0.1 hb0.2 hb1.1 hb1.2
  have c6 := fun w => cast_any a2 w hb2.1 hb2.2
  have r6 := fun w => refCast_any a2 w hb2.1 hb2.2
  have c7 := fun w => wide_any a00 a01 w hb0.1 hb0.2
  have r7 := fun w => refWide_any a00 a01 w hb0.1 hb0.2
  generalize maskV a3 = m at *
  generalize normV a00 a01 = d at *
  generalize holdV a01 = h at *
  generalize isV a00 a01 = i at *
  generalize hasV a00 a01 a2 = r at *
  generalize coversV a00 a01 a10 a11 = o at *
  generalize castV a2 = s at *
  generalize wideV a00 a01 = q at *
  have eg := eq_guard
  have eq := fun w => eql_prefix d h d h w
  clear w00 w01 w10 w11 w2 w3
  obtain ⟨hx0, hp0, hp1, hq0, hq1⟩ := boxed22 w (.int .u32 a00) (.int .i64 a01) (.int .u32 a10) (.int .i64 a11) 24
  go_enter Tryd.func4, Tryd.ntmps4
  go_wp2
  refine wp_region_eager [(0, false), (2, false), (1, true), (3, true), (4, false), (5, false), (6, false), (8, false), (7, true), (9, true), (10, false), (11, false), (12, false), (13, false), (15, false), (14, true), (16, true), (17, false), (18, false), (19, false), (20, false), (21, false), (23, false), (24, false), (22, true), (25, true), (26, false), (27, false), (28, false), (29, false), (30, false), (32, false), (33, false), (31, true), (34, true), (35, false), (36, false), (37, false), (38, false), (40, false), (39, true), (41, true), (42, false), (43, false), (44, false), (45, false), (47, false), (46, true), (48, true), (49, false), (50, false), (51, false), (52, true), (53, false), (54, false)] (by kernel_rfl) (by kernel_rfl) rfl (by kernel_rfl) (fun _ _ _ _ _ h => h) ?_
  generalize ((w.alloc (.cells #[.int .u32 a00, .int .i64 a01] 24)).alloc (.cells #[.int .u32 a10, .int .i64 a11] 24)).drew = W at *
  repeat (first
    | (refine wpE_read (v := ?_) rfl (by rfl) ?_ ?_; rotate_left; (focus (intro w' hx; go_simp; first | done | with_reducible rfl)); simp only [Act.put, List.setIfInBounds_toArray, List.set_cons_zero, List.set_cons_succ])
    | (refine wpE_call rfl (by rfl) (fun K hK => ?_); go_simp; first
        | (go_at_call 18; refine (c1 _).mono ?_; rintro e w1 ⟨rfl, rfl⟩; refine hK _ _ (Ext.refl _) ?_; clear hK K)
        | (go_at_call 19; refine (r1 _).mono ?_; rintro e w1 ⟨rfl, rfl⟩; refine hK _ _ (Ext.refl _) ?_; clear hK K)
        | (go_at_call 20; refine (c2 _).mono ?_; rintro e w1 ⟨rfl, hx1⟩; refine hK _ _ hx1 ?_; clear hK K; replace hp0 := fun w' h => hp0 w' (hx1.trans h); replace hp1 := fun w' h => hp1 w' (hx1.trans h); replace hq0 := fun w' h => hq0 w' (hx1.trans h); replace hq1 := fun w' h => hq1 w' (hx1.trans h); replace hx0 := hx0.trans hx1; clear hx1)
        | (go_at_call 21; refine (r2 _).mono ?_; rintro e w1 ⟨rfl, hx1⟩; refine hK _ _ hx1 ?_; clear hK K; replace hp0 := fun w' h => hp0 w' (hx1.trans h); replace hp1 := fun w' h => hp1 w' (hx1.trans h); replace hq0 := fun w' h => hq0 w' (hx1.trans h); replace hq1 := fun w' h => hq1 w' (hx1.trans h); replace hx0 := hx0.trans hx1; clear hx1)
        | (go_at_call 22; refine (c3 _).mono ?_; rintro e w1 ⟨rfl, hx1⟩; refine hK _ _ hx1 ?_; clear hK K; replace hp0 := fun w' h => hp0 w' (hx1.trans h); replace hp1 := fun w' h => hp1 w' (hx1.trans h); replace hq0 := fun w' h => hq0 w' (hx1.trans h); replace hq1 := fun w' h => hq1 w' (hx1.trans h); replace hx0 := hx0.trans hx1; clear hx1)
        | (go_at_call 23; refine (r3 _).mono ?_; rintro e w1 ⟨rfl, hx1⟩; refine hK _ _ hx1 ?_; clear hK K; replace hp0 := fun w' h => hp0 w' (hx1.trans h); replace hp1 := fun w' h => hp1 w' (hx1.trans h); replace hq0 := fun w' h => hq0 w' (hx1.trans h); replace hq1 := fun w' h => hq1 w' (hx1.trans h); replace hx0 := hx0.trans hx1; clear hx1)
        | (go_at_call 24; refine (c4 _).mono ?_; rintro e w1 ⟨rfl, hx1⟩; refine hK _ _ hx1 ?_; clear hK K; replace hp0 := fun w' h => hp0 w' (hx1.trans h); replace hp1 := fun w' h => hp1 w' (hx1.trans h); replace hq0 := fun w' h => hq0 w' (hx1.trans h); replace hq1 := fun w' h => hq1 w' (hx1.trans h); replace hx0 := hx0.trans hx1; clear hx1)
        | (go_at_call 25; refine (r4 _).mono ?_; rintro e w1 ⟨rfl, hx1⟩; refine hK _ _ hx1 ?_; clear hK K; replace hp0 := fun w' h => hp0 w' (hx1.trans h); replace hp1 := fun w' h => hp1 w' (hx1.trans h); replace hq0 := fun w' h => hq0 w' (hx1.trans h); replace hq1 := fun w' h => hq1 w' (hx1.trans h); replace hx0 := hx0.trans hx1; clear hx1)
        | (go_at_call 26; refine (c5 _).mono ?_; rintro e w1 ⟨rfl, hx1⟩; refine hK _ _ hx1 ?_; clear hK K; replace hp0 := fun w' h => hp0 w' (hx1.trans h); replace hp1 := fun w' h => hp1 w' (hx1.trans h); replace hq0 := fun w' h => hq0 w' (hx1.trans h); replace hq1 := fun w' h => hq1 w' (hx1.trans h); replace hx0 := hx0.trans hx1; clear hx1)
        | (go_at_call 27; refine (r5 _).mono ?_; rintro e w1 ⟨rfl, hx1⟩; refine hK _ _ hx1 ?_; clear hK K; replace hp0 := fun w' h => hp0 w' (hx1.trans h); replace hp1 := fun w' h => hp1 w' (hx1.trans h); replace hq0 := fun w' h => hq0 w' (hx1.trans h); replace hq1 := fun w' h => hq1 w' (hx1.trans h); replace hx0 := hx0.trans hx1; clear hx1)
        | (go_at_call 28; refine (c6 _).mono ?_; rintro e w1 ⟨rfl, rfl⟩; refine hK _ _ (Ext.refl _) ?_; clear hK K)
        | (go_at_call 29; refine (r6 _).mono ?_; rintro e w1 ⟨rfl, rfl⟩; refine hK _ _ (Ext.refl _) ?_; clear hK K)
        | (go_at_call 30; refine (c7 _).mono ?_; rintro e w1 ⟨rfl, hx1⟩; refine hK _ _ hx1 ?_; clear hK K; replace hp0 := fun w' h => hp0 w' (hx1.trans h); replace hp1 := fun w' h => hp1 w' (hx1.trans h); replace hq0 := fun w' h => hq0 w' (hx1.trans h); replace hq1 := fun w' h => hq1 w' (hx1.trans h); replace hx0 := hx0.trans hx1; clear hx1)
        | (go_at_call 31; refine (r7 _).mono ?_; rintro e w1 ⟨rfl, hx1⟩; refine hK _ _ hx1 ?_; clear hK K; replace hp0 := fun w' h => hp0 w' (hx1.trans h); replace hp1 := fun w' h => hp1 w' (hx1.trans h); replace hq0 := fun w' h => hq0 w' (hx1.trans h); replace hq1 := fun w' h => hq1 w' (hx1.trans h); replace hx0 := hx0.trans hx1; clear hx1)
        | (go_at_call 17; refine (addrKnown_any _ (ht.later hx0)).mono ?_; rintro e w1 ⟨rfl, hx1⟩; refine hK _ _ hx1 ?_; clear hK K; replace hx0 := hx0.trans hx1; clear hx1)))
  refine wpE_done ?_
  go_wp2
  go_ret
  exact ⟨rfl, hx0⟩

theorem table {W : World} (h : laidMetH Tryd.prog Rows.addrLooksRow.laid W) : Tab W := by
  have h1 : laidMet Tryd.prog Rows.addrLooksRow.laid W := h
  have e : (Rows.laid_internal_strconv_uint64pow10 : DataW Unit) = Lib.tabData .u64 Lib.pow10Tab := by kernel_rfl
  have h2 : laidMet Tryd.prog [("internal/strconv.uint64pow10", Rows.laid_internal_strconv_uint64pow10)] W := h1.tail.tail
  rw [e] at h2
  exact Lib.tabIs_of_head (g := 1) (t := 70) (e := 57) (n := 20) (by kernel_rfl) (by kernel_rfl) Tryd.underlying70 Tryd.underlying57 (by kernel_rfl) (by kernel_rfl) h2

theorem contract (H : Type) (enc : TypeId × Value → H) (W : World) (base : Nat) (args : Array Value) (ds gs : List (DataW H)) (before : List MemPlace)
    (hval : ∀ (j : Nat) t v, Tryd.f4.params[j]? = some t → args[j]? = some v → Value.okWide Tryd.prog W .any base t v)
    (hW : DataW.Whole enc Tryd.prog Tryd.f4.params.toList Rows.addrLooksSpec.vars false W args.toList ds gs before) (ht : Tab W) (hsh : W.ShapedOpen Tryd.prog) :
    Calls Tryd.prog 4 args W fun e W' => ∃ v, e = .returned v ∧ Rows.addrLooksSpec.post enc Tryd.prog Tryd.f4 false true false false W args v W' := by
  have hW' := hW
  obtain ⟨p, q, hA0, hV, rfl, hfz, hnd⟩ := hW
  have hA : DataW.TrodAll enc Tryd.prog W 0 (fun _ => true) true Tryd.f4.params.toList args.toList ds p := hA0
  rw [Tryd.params4] at hA hval
  obtain ⟨v0, vs0, d0, ds0, p0, q0, hargs, rfl, rfl, h0, r0⟩ := trodAll_cons hA
  obtain ⟨v1, vs1, d1, ds1, p1, q1, rfl, rfl, rfl, h1, r1⟩ := trodAll_cons r0
  obtain ⟨v2, vs2, d2, ds2, p2, q2, rfl, rfl, rfl, h2, r2⟩ := trodAll_cons r1
  obtain ⟨v3, vs3, d3, ds3, p3, q3, rfl, rfl, rfl, h3, r3⟩ := trodAll_cons r2
  obtain ⟨rfl, rfl, rfl⟩ := trodAll_nil r3
  obtain rfl : args = #[v0, v1, v2, v3] := by cases args; simp_all
  obtain ⟨rfl, rfl⟩ := trodVars_none hV
  have k0 := h0
  have lt0 : ∀ x ∈ p0, x.block < W.heap.size := by obtain ⟨m, hm⟩ := k0; exact DataW.trod_lt m _ _ _ hm
  obtain ⟨u00, u01, y00, y01, m0, rfl, _, _, e00, e01⟩ := Joins.open_agg2 Tryd.underlying24 (by kernel_rfl) (by kernel_rfl) (hval 0 24 v0 rfl rfl) h0
  obtain ⟨a00, c00, _, w00⟩ := DataW.trod_int Tryd.underlying22 e00
  obtain rfl : u00 = .int .u32 a00 := by simpa using c00
  obtain ⟨a01, c01, _, w01⟩ := DataW.trod_int Tryd.underlying3 e01
  obtain rfl : u01 = .int .i64 a01 := by simpa using c01
  have k1 := h1
  have lt1 : ∀ x ∈ p1, x.block < W.heap.size := by obtain ⟨m, hm⟩ := k1; exact DataW.trod_lt m _ _ _ hm
  obtain ⟨u10, u11, y10, y11, m1, rfl, _, _, e10, e11⟩ := Joins.open_agg2 Tryd.underlying24 (by kernel_rfl) (by kernel_rfl) (hval 1 24 v1 rfl rfl) h1
  obtain ⟨a10, c10, _, w10⟩ := DataW.trod_int Tryd.underlying22 e10
  obtain rfl : u10 = .int .u32 a10 := by simpa using c10
  obtain ⟨a11, c11, _, w11⟩ := DataW.trod_int Tryd.underlying3 e11
  obtain rfl : u11 = .int .i64 a11 := by simpa using c11
  obtain ⟨a2, rfl, rfl, rfl, w2⟩ := open_int Tryd.underlying22 (hval 2 22 v2 rfl rfl) h2
  obtain ⟨a3, rfl, rfl, rfl, w3⟩ := open_int Tryd.underlying3 (hval 3 3 v3 rfl rfl) h3
  clear hA0
  refine (walk a00 a01 a10 a11 a2 a3 W w00 w01 w10 w11 w2 w3 ht hsh).mono fun e W' ⟨he, bel⟩ => ?_
  subst he
  exact ⟨_, rfl, _, _, _, [], _, [], hW', trodAll_mk1 (shut_bool Tryd.underlying4 _), (trodAll_cons_mk (Below.trod laidOut (by kernel_rfl) (of_decide_eq_true (by kernel_rfl)) k0 bel lt0) (trodAll_cons_mk (Below.trod laidOut (by kernel_rfl) (of_decide_eq_true (by kernel_rfl)) k1 bel lt1) (trodAll_cons_mk (shut_int Tryd.underlying22 w2) (trodAll_cons_mk (shut_int Tryd.underlying3 w3) trodAll_mk0)))), rfl, bel.frame _, fun h => by cases h⟩

theorem laid_met (os : Os) : laidMet Tryd.prog Rows.addrLooksRow.laid ((World.doorLaid Tryd.prog 24 os).forCall (fun _ _ => 0) ⟨#[], #[.agg #[.int .u32 0, .int .i64 0], .agg #[.int .u32 0, .int .i64 0], .int .u32 0, .int .i64 0], []⟩).memory :=
  laidMet_of_run' 8 (by kernel_rfl) (by kernel_rfl)
theorem reads (os : Os) {H : Type} (enc : TypeId × Value → H) : ∃ places, DataW.whole enc Tryd.prog ((World.doorLaid Tryd.prog 24 os).forCall (fun _ _ => 0) ⟨#[], #[.agg #[.int .u32 0, .int .i64 0], .agg #[.int .u32 0, .int .i64 0], .int .u32 0, .int .i64 0], []⟩).memory Tryd.f4.params.toList Rows.addrLooksSpec.vars false (#[.agg #[.int .u32 0, .int .i64 0], .agg #[.int .u32 0, .int .i64 0], .int .u32 0, .int .i64 0] : Array Value).toList 8 = some ([.agg [.lit (.int .u32 0), .lit (.int .i64 0)], .agg [.lit (.int .u32 0), .lit (.int .i64 0)], .lit (.int .u32 0), .lit (.int .i64 0)], [], places) :=
  ⟨[], by kernel_rfl⟩

set_option maxRecDepth 100000 in
theorem lifted (os : Os) (started : os.Started) (H : Type) (enc : TypeId × Value → H) (F : Stop.Interp) :
    ReturnsInHanded {} Tryd.checked os 4 .any ((OpenSpec.ofChange Rows.addrLooksSpec).preRow enc Tryd.prog Tryd.f4 Rows.addrLooksRow.domain false Rows.addrLooksRow.laid) (((OpenSpec.ofChange Rows.addrLooksSpec).at F).post enc Tryd.prog Tryd.f4 false true false false) := by
  obtain ⟨places, hx⟩ := reads os enc
  refine returnsInHanded_of_row (C := Tryd.checked) (s := (OpenSpec.ofChange Rows.addrLooksSpec)) own started (by kernel_rfl) Tryd.func4
    (witness_row_at (enc := enc) (C := Tryd.checked) false (World.doorLaid Tryd.prog 24 os) #[.agg #[.int .u32 0, .int .i64 0], .agg #[.int .u32 0, .int .i64 0], .int .u32 0, .int .i64 0] rfl (by kernel_rfl) (by kernel_rfl) (by kernel_rfl)
      (OpenSpec.preRow_of_cond 8 hx (by kernel_rfl) (fun k hk => by cases hk) (by kernel_rfl) (laid_met os))) ?_
  intro W base args ds gs before hval hW _ hcond _ hL hsh _
  exact contract H enc W base args ds gs before hval hW (table hL) hsh

theorem said : Rows.AddrLooksSaid :=
  OpenClaim.holds_of_cond 4 Tryd.f4 rfl rfl rfl rfl rfl rfl rfl ⟨rfl, rfl, rfl, rfl, rfl⟩ rfl rfl rfl rfl rfl (by kernel_rfl) Tryd.func4 (by kernel_rfl)
    (of_decide_eq_true (by kernel_rfl)) (by unfold Func.isWrapper; first | (rw [if_pos (by decide +kernel)]; kernel_rfl) | (rw [if_neg (by decide +kernel)]; exact ⟨rfl, rfl⟩))
    (fun os started H enc _ F => by rw [OpenClaim.pre_eq_preRow]; exact lifted os started H enc F)

theorem plain (f : FuncId) (fn : Func) (hf : Tryd.pinned.checked.prog.funcNamed "castellan/castellanlaw3.AddrLooks" = some f) (hfn : Tryd.pinned.checked.prog.funcs[f]? = some fn) :
    false = Tryd.pinned.checked.prog.looks [] ∧ ∀ (j : Nat) t, fn.params[j]? = some t → Tryd.pinned.checked.prog.wantsStandIn t = false := by
  obtain rfl : f = 4 := Option.some.inj ((show Tryd.prog.funcNamed "castellan/castellanlaw3.AddrLooks" = some 4 by kernel_rfl).symm.trans hf) |>.symm
  obtain rfl : fn = Tryd.f4 := (Option.some.inj (Tryd.func4.symm.trans hfn)).symm
  refine ⟨by kernel_rfl, fun j t ht => ?_⟩
  rw [Tryd.params4] at ht
  have hm : t ∈ [24, 24, 22, 3] := by simpa using Array.mem_of_getElem? ht
  have hall : ([24, 24, 22, 3].all fun u => !Tryd.prog.wantsStandIn u) = true := by kernel_rfl
  exact (show Tryd.prog.wantsStandIn t = false by simpa using List.all_eq_true.1 hall t hm)

theorem card : Rows.AddrLooksCardSaid :=
  Claim7.holds_tied_plain_at .later [] _ _ _ _ said (fun _ h => by cases h) (by kernel_rfl) (fun _ h => by cases h) addrLooks_row_tie rfl ⟨rfl, rfl⟩ (by kernel_rfl) rfl plain (by kernel_rfl)
end Go.Proofs.YthgjmgdnilohcaaDoor.addrLooks

namespace Go.Proofs.YthgjmgdnilohcaaDoor
theorem addrLooks_holds : Rows.AddrLooksCardSaid := addrLooks.card
#print axioms addrLooks_holds
end Go.Proofs.YthgjmgdnilohcaaDoor
