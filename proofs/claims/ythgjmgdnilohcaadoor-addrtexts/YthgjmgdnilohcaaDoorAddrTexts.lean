/- For every text, every address and every prefix, the law AddrTexts returns true: the text as an address and as a prefix, or refused, and both as a text: as the document says; no condition. -/
import Derived.Test.YthgjmgdnilohcaaDoorCards
import Derived.Test.YthgjmgdnilohcaaDoorTie
import Derived.Test.YthgjmgdnilohcaaDoorRefQ
import Derived.WalkKit
import Derived.ProofKit
import Derived.OpenShut
import Derived.ShutString
import Derived.ChangeOld
import Derived.Deep.DeepHandedRow
import Derived.Lib.LaidTab
import Derived.Lib.SmallJoins
import Derived.LaidMore
import Derived.Stop.LaidErr
import Derived.ChangeMaps5
namespace Go.Proofs.YthgjmgdnilohcaaDoor.addrTexts
open Go.ChangeShapes Go.WideShapes Go.ChangeAt Go.RowKit Go.ChangeMaps
set_option linter.unusedVariables false

theorem own : ownKnob Tryd.prog.godebug = none := by kernel_rfl
theorem laidOut : laidOutB Tryd.prog = true := by kernel_rfl

theorem parseE_form (l : List UInt8) : ∃ x y : Int, parseE l = .returned (.tuple #[.int .u32 x, .int .i64 y]) := by
  unfold parseE
  split
  · exact ⟨_, _, rfl⟩
  · exact ⟨_, _, rfl⟩

theorem parsePE_form (l : List UInt8) : ∃ x n y : Int, parsePE l = .returned (.tuple #[.agg #[.int .u32 x, .int .i64 n], .int .i64 y]) := by
  unfold parsePE
  split
  · exact ⟨_, _, _, rfl⟩
  · exact ⟨_, _, _, rfl⟩

theorem boxes {w : World} {b : Nat} {v0 v1 : Value} {t : TypeId} (h : w.heap[b]? = some (.cells #[v0, v1] t (0, 0))) :
    (∀ w', Ext w w' → w'.cell? ⟨b, 0, none⟩ = some v0) ∧ (∀ w', Ext w w' → w'.cell? ⟨b, 1, none⟩ = some v1) := by
  obtain ⟨p0, p1⟩ := box2 h (b + 1) (by omega)
  exact ⟨fun w' hx => p0 w' (hx.but _), fun w' hx => p1 w' (hx.but _)⟩

set_option maxHeartbeats 4000000 in
theorem walk (a0 : ByteArray) (a1 : Int) (a20 a21 : Int) (w : World) (w0 : a0.size ≤ maxLen) (w1 : (Lit.int .u32 a1).wf = true) (w20 : (Lit.int .u32 a20).wf = true) (w21 : (Lit.int .i64 a21).wf = true) (ht : Tab w) (hsh : w.ShapedOpen Tryd.prog) :
    Calls Tryd.prog 3 #[.string a0, .int .u32 a1, .agg #[.int .u32 a20, .int .i64 a21]] w fun e w' => e = .returned (.bool true) ∧ Below w.heap.size w w' := by
  have hb1 := bounds_u32 w1
  have hb2 := bounds_u32 w20
  have hM := max_of_shaped hsh
  clear w0 w1 w20 w21 hsh
  by_cases hsz : 100 < a0.size
  · go_enter Tryd.func3, Tryd.ntmps3
    go_wp2
    go_ret
    exact ⟨rfl, (Ext.refl w).alloc _⟩
  have hs1 : a0.size ≤ 1000000 := by omega
  have hs2 : a0.size ≤ 100 := by omega
  have c1 := fun w h => parse_any a0 w hs1 h
  have c2 := fun w => refParse_any a0 w hs1
  have c3 := fun w h => parsePrefix_any a0 w hs1 h
  have c4 := fun w => refParsePrefix_any a0 w hs1
  have c5 := fun w h => print_any a1 w hb1.1 hb1.2 h
  have c6 := fun w => refPrint_any a1 w hb1.1 hb1.2
  have c7 := fun w h => printPrefix_any a20 a21 w hb2.1 hb2.2 h
  have c8 := fun w => refPrintPrefix_any a20 a21 w hb2.1 hb2.2
  obtain ⟨x, y, hE⟩ := parseE_form a0.data.toList
  obtain ⟨u, n, z, hF⟩ := parsePE_form a0.data.toList
  rw [hE] at c1 c2
  rw [hF] at c3 c4
  generalize printB a1 = P at *
  generalize printPB a20 a21 = Q at *
  have eg := eq_guard
  have eq := fun w => eql_prefix u n u n w
  clear hE hF hsz
  have hx0 : Ext w (w.alloc (.cells #[.int .u32 a20, .int .i64 a21] 24)) := (Ext.refl w).alloc _
  go_enter Tryd.func3, Tryd.ntmps3
  go_wp2_with (first
    | (go_at_call 9; refine (c1 _ (hM.later hx0)).mono ?_; rintro e1 w1 ⟨rfl, h1⟩)
    | (go_at_call 10; refine (c2 _).mono ?_; rintro e1 w2 ⟨rfl, h2⟩)
    | (go_at_call 11; refine (c3 _ (hM.later (hx0.trans (h1.trans h2)))).mono ?_; rintro e1 w3 ⟨rfl, h3⟩)
    | (go_at_call 12; refine (c4 _).mono ?_; rintro e1 w4 ⟨rfl, h4⟩))
  refine wp_region_eager [(0, false), (1, false), (2, false), (3, false), (4, false), (5, false), (6, false), (7, false), (8, false), (9, false), (10, false), (11, false), (12, false), (13, false), (14, false), (15, false), (16, false), (17, false), (18, false), (19, false), (21, false), (20, true), (22, true), (23, false), (24, false), (25, false), (26, false), (28, false), (27, true), (29, true), (30, false), (31, false), (32, false), (33, true), (34, false), (35, false)] (by kernel_rfl) (by kernel_rfl) rfl (by kernel_rfl) (fun _ _ _ _ _ h => h) ?_
  obtain ⟨hxr, hr0, hr1⟩ := boxed2 w4 (.int .u32 u) (.int .i64 n) 24
  have hxq := h4.trans hxr
  obtain ⟨hq0, hq1⟩ := boxes (hxq.heap (heap_new w3 (.cells #[.int .u32 u, .int .i64 n] 24)))
  have hxp := (h1.trans (h2.trans (h3.alloc (.cells #[.int .u32 u, .int .i64 n] 24)))).trans hxq
  obtain ⟨hp0, hp1⟩ := boxes (hxp.heap (heap_new w (.cells #[.int .u32 a20, .int .i64 a21] 24)))
  replace hx0 := hx0.trans hxp
  clear hxp hxq hxr h1 h2 h3 h4 c1 c2 c3 c4 hM
  generalize (w4.alloc (.cells #[.int .u32 u, .int .i64 n] 24)).drew = W at *
  repeat (first
    | (refine wpE_read (v := ?_) rfl (by rfl) ?_ ?_; rotate_left; (focus (intro w' hx; go_simp; first | done | with_reducible rfl)); simp only [Act.put, List.setIfInBounds_toArray, List.set_cons_zero, List.set_cons_succ])
    | (refine wpE_call rfl (by rfl) (fun K hK => ?_); go_simp; first
        | (go_at_call 13; refine (c5 _ (ht.later hx0)).mono ?_; rintro e w1 ⟨rfl, hx1⟩; refine hK _ _ hx1 ?_; clear hK K; replace hp0 := fun w' h => hp0 w' (hx1.trans h); replace hp1 := fun w' h => hp1 w' (hx1.trans h); replace hq0 := fun w' h => hq0 w' (hx1.trans h); replace hq1 := fun w' h => hq1 w' (hx1.trans h); replace hr0 := fun w' h => hr0 w' (hx1.trans h); replace hr1 := fun w' h => hr1 w' (hx1.trans h); replace hx0 := hx0.trans hx1; clear hx1)
        | (go_at_call 14; refine (c6 _).mono ?_; rintro e w1 ⟨rfl, hx1⟩; refine hK _ _ hx1 ?_; clear hK K; replace hp0 := fun w' h => hp0 w' (hx1.trans h); replace hp1 := fun w' h => hp1 w' (hx1.trans h); replace hq0 := fun w' h => hq0 w' (hx1.trans h); replace hq1 := fun w' h => hq1 w' (hx1.trans h); replace hr0 := fun w' h => hr0 w' (hx1.trans h); replace hr1 := fun w' h => hr1 w' (hx1.trans h); replace hx0 := hx0.trans hx1; clear hx1)
        | (go_at_call 15; refine (c7 _ (ht.later hx0)).mono ?_; rintro e w1 ⟨rfl, hx1⟩; refine hK _ _ hx1 ?_; clear hK K; replace hp0 := fun w' h => hp0 w' (hx1.trans h); replace hp1 := fun w' h => hp1 w' (hx1.trans h); replace hq0 := fun w' h => hq0 w' (hx1.trans h); replace hq1 := fun w' h => hq1 w' (hx1.trans h); replace hr0 := fun w' h => hr0 w' (hx1.trans h); replace hr1 := fun w' h => hr1 w' (hx1.trans h); replace hx0 := hx0.trans hx1; clear hx1)
        | (go_at_call 16; refine (c8 _).mono ?_; rintro e w1 ⟨rfl, hx1⟩; refine hK _ _ hx1 ?_; clear hK K; replace hp0 := fun w' h => hp0 w' (hx1.trans h); replace hp1 := fun w' h => hp1 w' (hx1.trans h); replace hq0 := fun w' h => hq0 w' (hx1.trans h); replace hq1 := fun w' h => hq1 w' (hx1.trans h); replace hr0 := fun w' h => hr0 w' (hx1.trans h); replace hr1 := fun w' h => hr1 w' (hx1.trans h); replace hx0 := hx0.trans hx1; clear hx1)
        | (go_at_call 17; refine (addrKnown_any _ (ht.later hx0)).mono ?_; rintro e w1 ⟨rfl, hx1⟩; refine hK _ _ hx1 ?_; clear hK K; replace hx0 := hx0.trans hx1; clear hx1)))
  refine wpE_done ?_
  go_wp2
  go_ret
  exact ⟨rfl, hx0⟩

theorem table {W : World} (h : laidMetH Tryd.prog Rows.addrTextsRow.laid W) : Tab W := by
  have h1 : laidMet Tryd.prog Rows.addrTextsRow.laid W := h
  have e : (Rows.laid_internal_strconv_uint64pow10 : DataW Unit) = Lib.tabData .u64 Lib.pow10Tab := by kernel_rfl
  have h2 : laidMet Tryd.prog [("internal/strconv.uint64pow10", Rows.laid_internal_strconv_uint64pow10)] W := h1.tail.tail
  rw [e] at h2
  exact Lib.tabIs_of_head (g := 1) (t := 70) (e := 57) (n := 20) (by kernel_rfl) (by kernel_rfl) Tryd.underlying70 Tryd.underlying57 (by kernel_rfl) (by kernel_rfl) h2

theorem contract (H : Type) (enc : TypeId × Value → H) (W : World) (base : Nat) (args : Array Value) (ds gs : List (DataW H)) (before : List MemPlace)
    (hval : ∀ (j : Nat) t v, Tryd.f3.params[j]? = some t → args[j]? = some v → Value.okWide Tryd.prog W .any base t v)
    (hW : DataW.Whole enc Tryd.prog Tryd.f3.params.toList Rows.addrTextsSpec.vars false W args.toList ds gs before) (ht : Tab W) (hsh : W.ShapedOpen Tryd.prog) :
    Calls Tryd.prog 3 args W fun e W' => ∃ v, e = .returned v ∧ Rows.addrTextsSpec.post enc Tryd.prog Tryd.f3 false true false false W args v W' := by
  have hW' := hW
  obtain ⟨p, q, hA0, hV, rfl, hfz, hnd⟩ := hW
  have hA : DataW.TrodAll enc Tryd.prog W 0 (fun _ => true) true Tryd.f3.params.toList args.toList ds p := hA0
  rw [Tryd.params3] at hA hval
  obtain ⟨v0, vs0, d0, ds0, p0, q0, hargs, rfl, rfl, h0, r0⟩ := trodAll_cons hA
  obtain ⟨v1, vs1, d1, ds1, p1, q1, rfl, rfl, rfl, h1, r1⟩ := trodAll_cons r0
  obtain ⟨v2, vs2, d2, ds2, p2, q2, rfl, rfl, rfl, h2, r2⟩ := trodAll_cons r1
  obtain ⟨rfl, rfl, rfl⟩ := trodAll_nil r2
  obtain rfl : args = #[v0, v1, v2] := by cases args; simp_all
  obtain ⟨rfl, rfl⟩ := trodVars_none hV
  obtain ⟨a0, rfl, rfl, rfl, w0⟩ := open_string Tryd.underlying9 (hval 0 9 v0 rfl rfl) h0
  obtain ⟨a1, rfl, rfl, rfl, w1⟩ := open_int Tryd.underlying22 (hval 1 22 v1 rfl rfl) h1
  have k2 := h2
  have lt2 : ∀ x ∈ p2, x.block < W.heap.size := by obtain ⟨m, hm⟩ := k2; exact DataW.trod_lt m _ _ _ hm
  obtain ⟨u20, u21, y20, y21, m2, rfl, _, _, e20, e21⟩ := Joins.open_agg2 Tryd.underlying24 (by kernel_rfl) (by kernel_rfl) (hval 2 24 v2 rfl rfl) h2
  obtain ⟨a20, c20, _, w20⟩ := DataW.trod_int Tryd.underlying22 e20
  obtain rfl : u20 = .int .u32 a20 := by simpa using c20
  obtain ⟨a21, c21, _, w21⟩ := DataW.trod_int Tryd.underlying3 e21
  obtain rfl : u21 = .int .i64 a21 := by simpa using c21
  clear hA0
  refine (walk a0 a1 a20 a21 W w0 w1 w20 w21 ht hsh).mono fun e W' ⟨he, bel⟩ => ?_
  subst he
  exact ⟨_, rfl, _, _, _, [], _, [], hW', trodAll_mk1 (shut_bool Tryd.underlying4 _), (trodAll_cons_mk (shut_string Tryd.underlying9 w0) (trodAll_cons_mk (shut_int Tryd.underlying22 w1) (trodAll_cons_mk (Below.trod laidOut (by kernel_rfl) (of_decide_eq_true (by kernel_rfl)) k2 bel lt2) trodAll_mk0))), rfl, bel.frame _, fun h => by cases h⟩

theorem laid_met (os : Os) : laidMet Tryd.prog Rows.addrTextsRow.laid ((World.doorLaid Tryd.prog 24 os).forCall (fun _ _ => 0) ⟨#[], #[.string ⟨#[]⟩, .int .u32 0, .agg #[.int .u32 0, .int .i64 0]], []⟩).memory :=
  laidMet_of_run' 8 (by kernel_rfl) (by kernel_rfl)
theorem reads (os : Os) {H : Type} (enc : TypeId × Value → H) : ∃ places, DataW.whole enc Tryd.prog ((World.doorLaid Tryd.prog 24 os).forCall (fun _ _ => 0) ⟨#[], #[.string ⟨#[]⟩, .int .u32 0, .agg #[.int .u32 0, .int .i64 0]], []⟩).memory Tryd.f3.params.toList Rows.addrTextsSpec.vars false (#[.string ⟨#[]⟩, .int .u32 0, .agg #[.int .u32 0, .int .i64 0]] : Array Value).toList 8 = some ([.lit (.string []), .lit (.int .u32 0), .agg [.lit (.int .u32 0), .lit (.int .i64 0)]], [], places) :=
  ⟨[], by kernel_rfl⟩

set_option maxRecDepth 100000 in
theorem lifted (os : Os) (started : os.Started) (H : Type) (enc : TypeId × Value → H) (F : Stop.Interp) :
    ReturnsInHanded {} Tryd.checked os 3 .any ((OpenSpec.ofChange Rows.addrTextsSpec).preRow enc Tryd.prog Tryd.f3 Rows.addrTextsRow.domain false Rows.addrTextsRow.laid) (((OpenSpec.ofChange Rows.addrTextsSpec).at F).post enc Tryd.prog Tryd.f3 false true false false) := by
  obtain ⟨places, hx⟩ := reads os enc
  refine returnsInHanded_of_row (C := Tryd.checked) (s := (OpenSpec.ofChange Rows.addrTextsSpec)) own started (by kernel_rfl) Tryd.func3
    (witness_row_at (enc := enc) (C := Tryd.checked) false (World.doorLaid Tryd.prog 24 os) #[.string ⟨#[]⟩, .int .u32 0, .agg #[.int .u32 0, .int .i64 0]] rfl (by kernel_rfl) (by kernel_rfl) (by kernel_rfl)
      (OpenSpec.preRow_of_cond 8 hx (by kernel_rfl) (fun k hk => by cases hk) (by kernel_rfl) (laid_met os))) ?_
  intro W base args ds gs before hval hW _ hcond _ hL hsh _
  exact contract H enc W base args ds gs before hval hW (table hL) hsh

theorem said : Rows.AddrTextsSaid :=
  OpenClaim.holds_of_cond 3 Tryd.f3 rfl rfl rfl rfl rfl rfl rfl ⟨rfl, rfl, rfl, rfl, rfl⟩ rfl rfl rfl rfl rfl (by kernel_rfl) Tryd.func3 (by kernel_rfl)
    (of_decide_eq_true (by kernel_rfl)) (by unfold Func.isWrapper; first | (rw [if_pos (by decide +kernel)]; kernel_rfl) | (rw [if_neg (by decide +kernel)]; exact ⟨rfl, rfl⟩))
    (fun os started H enc _ F => by rw [OpenClaim.pre_eq_preRow]; exact lifted os started H enc F)

theorem plain (f : FuncId) (fn : Func) (hf : Tryd.pinned.checked.prog.funcNamed "castellan/castellanlaw3.AddrTexts" = some f) (hfn : Tryd.pinned.checked.prog.funcs[f]? = some fn) :
    false = Tryd.pinned.checked.prog.looks [] ∧ ∀ (j : Nat) t, fn.params[j]? = some t → Tryd.pinned.checked.prog.wantsStandIn t = false := by
  obtain rfl : f = 3 := Option.some.inj ((show Tryd.prog.funcNamed "castellan/castellanlaw3.AddrTexts" = some 3 by kernel_rfl).symm.trans hf) |>.symm
  obtain rfl : fn = Tryd.f3 := (Option.some.inj (Tryd.func3.symm.trans hfn)).symm
  refine ⟨by kernel_rfl, fun j t ht => ?_⟩
  rw [Tryd.params3] at ht
  have hm : t ∈ [9, 22, 24] := by simpa using Array.mem_of_getElem? ht
  have hall : ([9, 22, 24].all fun u => !Tryd.prog.wantsStandIn u) = true := by kernel_rfl
  exact (show Tryd.prog.wantsStandIn t = false by simpa using List.all_eq_true.1 hall t hm)

theorem card : Rows.AddrTextsCardSaid :=
  Claim7.holds_tied_plain_at .later [] _ _ _ _ said (fun _ h => by cases h) (by kernel_rfl) (fun _ h => by cases h) addrTexts_row_tie rfl ⟨rfl, rfl⟩ (by kernel_rfl) rfl plain (by kernel_rfl)
end Go.Proofs.YthgjmgdnilohcaaDoor.addrTexts

namespace Go.Proofs.YthgjmgdnilohcaaDoor
theorem addrTexts_holds : Rows.AddrTextsCardSaid := addrTexts.card
#print axioms addrTexts_holds
end Go.Proofs.YthgjmgdnilohcaaDoor
