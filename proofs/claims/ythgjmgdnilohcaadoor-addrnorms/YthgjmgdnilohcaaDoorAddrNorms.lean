/- For every prefix and every address, the law AddrNorms returns true: a prefix without other bits may be, has the same addresses, and stays; no condition. -/
import Derived.Test.YthgjmgdnilohcaaDoorCards
import Derived.Test.YthgjmgdnilohcaaDoorTie
import Derived.Test.YthgjmgdnilohcaaDoorAddrT
import Derived.WalkKit
import Derived.ProofKit
import Derived.OpenShut
import Derived.ShutString
import Derived.ChangeOld
import Derived.Deep.DeepHandedRow
import Derived.Lib.LaidTab
import Derived.Lib.SmallJoins
import Derived.LaidMore
import Derived.Stop.LaidErr
namespace Go.Proofs.YthgjmgdnilohcaaDoor.addrNorms
open Go.ChangeShapes Go.WideShapes Go.ChangeAt Go.RowKit
set_option linter.unusedVariables false

theorem own : ownKnob Tryd.prog.godebug = none := by kernel_rfl
theorem laidOut : laidOutB Tryd.prog = true := by kernel_rfl

set_option maxHeartbeats 4000000 in
theorem walk (a00 a01 : Int) (a1 : Int) (w : World) (w00 : (Lit.int .u32 a00).wf = true) (w01 : (Lit.int .i64 a01).wf = true) (w1 : (Lit.int .u32 a1).wf = true) (ht : Tab w) (hsh : w.ShapedOpen Tryd.prog) :
    Calls Tryd.prog 7 #[.agg #[.int .u32 a00, .int .i64 a01], .int .u32 a1] w fun e w' => e = .returned (.bool true) ∧ Below w.heap.size w w' := by
  have hb0 := bounds_u32 w00
  have hb1 := bounds_u32 w1
  have hd := normV_bd a00 a01 hb0.1 hb0.2
  have c1 := fun w => norm_any a00 a01 w hb0.1 hb0.2
  have c2 := fun w => is_any (normV a00 a01) (holdV a01) w hd.1 hd.2
  have c3 := fun w => norm_any (normV a00 a01) (holdV a01) w hd.1 hd.2
  have c4 := fun w => has_any (normV a00 a01) (holdV a01) a1 w hd.1 hd.2 hb1.1 hb1.2
  have c5 := fun w => has_any a00 a01 a1 w hb0.1 hb0.2 hb1.1 hb1.2
  have c6 := fun w => wide_any (normV a00 a01) (holdV a01) w hd.1 hd.2
  have c7 := fun w => wide_any a00 a01 w hb0.1 hb0.2
  rw [is_norm] at c2
  rw [norm_norm, holdV_held] at c3
  rw [has_norm] at c4
  rw [wide_norm] at c6
  generalize normV a00 a01 = d at *
  generalize holdV a01 = h at *
  generalize hasV a00 a01 a1 = r at *
  generalize wideV a00 a01 = q at *
  have eg := eq_guard
  have eq := fun w => eql_prefix d h d h w
  clear w00 w01 w1
  have hx0 : Ext w (w.alloc (.cells #[.int .u32 a00, .int .i64 a01] 24)) := (Ext.refl w).alloc _
  obtain ⟨_, hp0, hp1⟩ := boxed2 w (.int .u32 a00) (.int .i64 a01) 24
  have tok1 : Hid True := trivial
  have tok2 : Hid True := trivial
  have tok3 : Hid True := trivial
  go_enter Tryd.func7, Tryd.ntmps7
  go_wp2_with (go_at_call 20; clear tok1; refine (c1 _).mono ?_; rintro e w1 ⟨rfl, hx1⟩)
  refine wp_region_eager [(0, false), (1, true), (2, false), (3, false), (5, false), (4, true), (6, false), (7, false), (8, false), (9, false), (10, false), (12, false), (13, false), (11, true), (14, true), (15, false), (16, false), (17, false), (18, false), (20, false), (19, true), (21, true), (22, false), (23, false), (24, false), (25, true), (26, false), (27, false)] (by kernel_rfl) (by kernel_rfl) rfl (by kernel_rfl) (fun _ _ _ _ _ h => h) ?_
  obtain ⟨hxb, hn0, hn1⟩ := boxed2 w1 (.int .u32 d) (.int .i64 h) 24
  replace hxb := hx1.trans hxb
  have hxc : Ext (w.alloc (.cells #[.int .u32 a00, .int .i64 a01] 24)).drew (w1.alloc (.cells #[.int .u32 d, .int .i64 h] 24)).drew := ⟨hxb.os, hxb.tape, hxb.output, hxb.size, hxb.block⟩
  replace hp0 := fun w' h => hp0 w' (hxc.trans h); replace hp1 := fun w' h => hp1 w' (hxc.trans h)
  replace hx0 := hx0.trans hxb
  clear hxb hxc hx1
  generalize (w1.alloc (.cells #[.int .u32 d, .int .i64 h] 24)).drew = W at *
  repeat (first
    | (refine wpE_read (v := ?_) rfl (by rfl) ?_ ?_; rotate_left; (focus (intro w' hx; go_simp; first | done | with_reducible rfl)); simp only [Act.put, List.setIfInBounds_toArray, List.set_cons_zero, List.set_cons_succ])
    | (refine wpE_call rfl (by rfl) (fun K hK => ?_); go_simp; first
        | (go_at_call 22; refine (c2 _).mono ?_; rintro e w2 ⟨rfl, hx2⟩; refine hK _ _ hx2 ?_; clear hK K; replace hp0 := fun w' h => hp0 w' (hx2.trans h); replace hp1 := fun w' h => hp1 w' (hx2.trans h); replace hn0 := fun w' h => hn0 w' (hx2.trans h); replace hn1 := fun w' h => hn1 w' (hx2.trans h))
        | (go_at_call 20; refine (c3 _).mono ?_; rintro e w3 ⟨rfl, hx3⟩; refine hK _ _ hx3 ?_; clear hK K; replace hp0 := fun w' h => hp0 w' (hx3.trans h); replace hp1 := fun w' h => hp1 w' (hx3.trans h); replace hn0 := fun w' h => hn0 w' (hx3.trans h); replace hn1 := fun w' h => hn1 w' (hx3.trans h))
        | (go_at_call 24; clear tok2; refine (c4 _).mono ?_; rintro e w4 ⟨rfl, hx4⟩; refine hK _ _ hx4 ?_; clear hK K; replace hp0 := fun w' h => hp0 w' (hx4.trans h); replace hp1 := fun w' h => hp1 w' (hx4.trans h); replace hn0 := fun w' h => hn0 w' (hx4.trans h); replace hn1 := fun w' h => hn1 w' (hx4.trans h))
        | (go_at_call 24; refine (c5 _).mono ?_; rintro e w5 ⟨rfl, hx5⟩; refine hK _ _ hx5 ?_; clear hK K; replace hp0 := fun w' h => hp0 w' (hx5.trans h); replace hp1 := fun w' h => hp1 w' (hx5.trans h); replace hn0 := fun w' h => hn0 w' (hx5.trans h); replace hn1 := fun w' h => hn1 w' (hx5.trans h))
        | (go_at_call 30; clear tok3; refine (c6 _).mono ?_; rintro e w6 ⟨rfl, hx6⟩; refine hK _ _ hx6 ?_; clear hK K; replace hp0 := fun w' h => hp0 w' (hx6.trans h); replace hp1 := fun w' h => hp1 w' (hx6.trans h); replace hn0 := fun w' h => hn0 w' (hx6.trans h); replace hn1 := fun w' h => hn1 w' (hx6.trans h))
        | (go_at_call 30; refine (c7 _).mono ?_; rintro e w7 ⟨rfl, hx7⟩; refine hK _ _ hx7 ?_; clear hK K)
        | (go_at_call 17; refine (addrKnown_any _ (ht.later (((((hx0.trans hx2).trans hx3).trans hx4).trans hx5).trans (hx6.trans hx7)))).mono ?_; rintro e w8 ⟨rfl, hx8⟩; refine hK _ _ hx8 ?_; clear hK K)))
  refine wpE_done ?_
  go_wp2
  go_ret
  exact ⟨rfl, ((((hx0.trans hx2).trans hx3).trans hx4).trans hx5).trans ((hx6.trans hx7).trans hx8)⟩

theorem table {W : World} (h : laidMetH Tryd.prog Rows.addrNormsRow.laid W) : Tab W := by
  have h1 : laidMet Tryd.prog Rows.addrNormsRow.laid W := h
  have e : (Rows.laid_internal_strconv_uint64pow10 : DataW Unit) = Lib.tabData .u64 Lib.pow10Tab := by kernel_rfl
  have h2 : laidMet Tryd.prog [("internal/strconv.uint64pow10", Rows.laid_internal_strconv_uint64pow10)] W := h1.tail.tail
  rw [e] at h2
  exact Lib.tabIs_of_head (g := 1) (t := 70) (e := 57) (n := 20) (by kernel_rfl) (by kernel_rfl) Tryd.underlying70 Tryd.underlying57 (by kernel_rfl) (by kernel_rfl) h2

theorem contract (H : Type) (enc : TypeId × Value → H) (W : World) (base : Nat) (args : Array Value) (ds gs : List (DataW H)) (before : List MemPlace)
    (hval : ∀ (j : Nat) t v, Tryd.f7.params[j]? = some t → args[j]? = some v → Value.okWide Tryd.prog W .any base t v)
    (hW : DataW.Whole enc Tryd.prog Tryd.f7.params.toList Rows.addrNormsSpec.vars false W args.toList ds gs before) (ht : Tab W) (hsh : W.ShapedOpen Tryd.prog) :
    Calls Tryd.prog 7 args W fun e W' => ∃ v, e = .returned v ∧ Rows.addrNormsSpec.post enc Tryd.prog Tryd.f7 false true false false W args v W' := by
  have hW' := hW
  obtain ⟨p, q, hA0, hV, rfl, hfz, hnd⟩ := hW
  have hA : DataW.TrodAll enc Tryd.prog W 0 (fun _ => true) true Tryd.f7.params.toList args.toList ds p := hA0
  rw [Tryd.params7] at hA hval
  obtain ⟨v0, vs0, d0, ds0, p0, q0, hargs, rfl, rfl, h0, r0⟩ := trodAll_cons hA
  obtain ⟨v1, vs1, d1, ds1, p1, q1, rfl, rfl, rfl, h1, r1⟩ := trodAll_cons r0
  obtain ⟨rfl, rfl, rfl⟩ := trodAll_nil r1
  obtain rfl : args = #[v0, v1] := by cases args; simp_all
  obtain ⟨rfl, rfl⟩ := trodVars_none hV
  have k0 := h0
  have lt0 : ∀ x ∈ p0, x.block < W.heap.size := by obtain ⟨m, hm⟩ := k0; exact DataW.trod_lt m _ _ _ hm
  obtain ⟨u00, u01, y00, y01, m0, rfl, _, _, e00, e01⟩ := Joins.open_agg2 Tryd.underlying24 (by kernel_rfl) (by kernel_rfl) (hval 0 24 v0 rfl rfl) h0
  obtain ⟨a00, c00, _, w00⟩ := DataW.trod_int Tryd.underlying22 e00
  obtain rfl : u00 = .int .u32 a00 := by simpa using c00
  obtain ⟨a01, c01, _, w01⟩ := DataW.trod_int Tryd.underlying3 e01
  obtain rfl : u01 = .int .i64 a01 := by simpa using c01
  obtain ⟨a1, rfl, rfl, rfl, w1⟩ := open_int Tryd.underlying22 (hval 1 22 v1 rfl rfl) h1
  clear hA0
  refine (walk a00 a01 a1 W w00 w01 w1 ht hsh).mono fun e W' ⟨he, bel⟩ => ?_
  subst he
  exact ⟨_, rfl, _, _, _, [], _, [], hW', trodAll_mk1 (shut_bool Tryd.underlying4 _), (trodAll_cons_mk (Below.trod laidOut (by kernel_rfl) (of_decide_eq_true (by kernel_rfl)) k0 bel lt0) (trodAll_cons_mk (shut_int Tryd.underlying22 w1) trodAll_mk0)), rfl, bel.frame _, fun h => by cases h⟩

theorem laid_met (os : Os) : laidMet Tryd.prog Rows.addrNormsRow.laid ((World.doorLaid Tryd.prog 24 os).forCall (fun _ _ => 0) ⟨#[], #[.agg #[.int .u32 0, .int .i64 0], .int .u32 0], []⟩).memory :=
  laidMet_of_run' 8 (by kernel_rfl) (by kernel_rfl)
theorem reads (os : Os) {H : Type} (enc : TypeId × Value → H) : ∃ places, DataW.whole enc Tryd.prog ((World.doorLaid Tryd.prog 24 os).forCall (fun _ _ => 0) ⟨#[], #[.agg #[.int .u32 0, .int .i64 0], .int .u32 0], []⟩).memory Tryd.f7.params.toList Rows.addrNormsSpec.vars false (#[.agg #[.int .u32 0, .int .i64 0], .int .u32 0] : Array Value).toList 8 = some ([.agg [.lit (.int .u32 0), .lit (.int .i64 0)], .lit (.int .u32 0)], [], places) :=
  ⟨[], by kernel_rfl⟩

set_option maxRecDepth 100000 in
theorem lifted (os : Os) (started : os.Started) (H : Type) (enc : TypeId × Value → H) (F : Stop.Interp) :
    ReturnsInHanded {} Tryd.checked os 7 .any ((OpenSpec.ofChange Rows.addrNormsSpec).preRow enc Tryd.prog Tryd.f7 Rows.addrNormsRow.domain false Rows.addrNormsRow.laid) (((OpenSpec.ofChange Rows.addrNormsSpec).at F).post enc Tryd.prog Tryd.f7 false true false false) := by
  obtain ⟨places, hx⟩ := reads os enc
  refine returnsInHanded_of_row (C := Tryd.checked) (s := (OpenSpec.ofChange Rows.addrNormsSpec)) own started (by kernel_rfl) Tryd.func7
    (witness_row_at (enc := enc) (C := Tryd.checked) false (World.doorLaid Tryd.prog 24 os) #[.agg #[.int .u32 0, .int .i64 0], .int .u32 0] rfl (by kernel_rfl) (by kernel_rfl) (by kernel_rfl)
      (OpenSpec.preRow_of_cond 8 hx (by kernel_rfl) (fun k hk => by cases hk) (by kernel_rfl) (laid_met os))) ?_
  intro W base args ds gs before hval hW _ hcond _ hL hsh _
  exact contract H enc W base args ds gs before hval hW (table hL) hsh

theorem said : Rows.AddrNormsSaid :=
  OpenClaim.holds_of_cond 7 Tryd.f7 rfl rfl rfl rfl rfl rfl rfl ⟨rfl, rfl, rfl, rfl, rfl⟩ rfl rfl rfl rfl rfl (by kernel_rfl) Tryd.func7 (by kernel_rfl)
    (of_decide_eq_true (by kernel_rfl)) (by unfold Func.isWrapper; first | (rw [if_pos (by decide +kernel)]; kernel_rfl) | (rw [if_neg (by decide +kernel)]; exact ⟨rfl, rfl⟩))
    (fun os started H enc _ F => by rw [OpenClaim.pre_eq_preRow]; exact lifted os started H enc F)

theorem plain (f : FuncId) (fn : Func) (hf : Tryd.pinned.checked.prog.funcNamed "castellan/castellanlaw3.AddrNorms" = some f) (hfn : Tryd.pinned.checked.prog.funcs[f]? = some fn) :
    false = Tryd.pinned.checked.prog.looks [] ∧ ∀ (j : Nat) t, fn.params[j]? = some t → Tryd.pinned.checked.prog.wantsStandIn t = false := by
  obtain rfl : f = 7 := Option.some.inj ((show Tryd.prog.funcNamed "castellan/castellanlaw3.AddrNorms" = some 7 by kernel_rfl).symm.trans hf) |>.symm
  obtain rfl : fn = Tryd.f7 := (Option.some.inj (Tryd.func7.symm.trans hfn)).symm
  refine ⟨by kernel_rfl, fun j t ht => ?_⟩
  rw [Tryd.params7] at ht
  have hm : t ∈ [24, 22] := by simpa using Array.mem_of_getElem? ht
  have hall : ([24, 22].all fun u => !Tryd.prog.wantsStandIn u) = true := by kernel_rfl
  exact (show Tryd.prog.wantsStandIn t = false by simpa using List.all_eq_true.1 hall t hm)

theorem card : Rows.AddrNormsCardSaid :=
  Claim7.holds_tied_plain_at .later [] _ _ _ _ said (fun _ h => by cases h) (by kernel_rfl) (fun _ h => by cases h) addrNorms_row_tie rfl ⟨rfl, rfl⟩ (by kernel_rfl) rfl plain (by kernel_rfl)
end Go.Proofs.YthgjmgdnilohcaaDoor.addrNorms

namespace Go.Proofs.YthgjmgdnilohcaaDoor
theorem addrNorms_holds : Rows.AddrNormsCardSaid := addrNorms.card
#print axioms addrNorms_holds
end Go.Proofs.YthgjmgdnilohcaaDoor
