/- For every text the law RuleSettles returns true: what the program refuses the document refuses, too; what it takes is a rule that may be, and printed and parsed again it is the same rule; no condition. -/
import Derived.Test.YtbmmgjmmooakpaaGreatDoorCards
import Derived.Test.YtbmmgjmmooakpaaGreatDoorTie
import Derived.Test.YtbmmgjmmooakpaaGreatDoorRuK
import Derived.Test.YtbmmgjmmooakpaaGreatDoorFrame
import Derived.WalkKit
import Derived.ProofKit
import Derived.OpenShut
import Derived.ShutString
import Derived.ChangeOld
import Derived.Deep.DeepHandedRow
import Derived.Lib.LaidTab
import Derived.Lib.SmallJoins
import Derived.LaidMore
import Derived.Lay
import Derived.Stop.LaidErr
import Derived.ChangeMaps5
namespace Go.Proofs.YtbmmgjmmooakpaaGreatDoor.ruleSettles
open Go.ChangeShapes Go.WideShapes Go.ChangeAt Go.RowKit Go.ChangeMaps Ru
set_option linter.unusedVariables false
set_option maxRecDepth 100000

theorem own : ownKnob Tryz.prog.godebug = none := by kernel_rfl
theorem laidOut : laidOutB Tryz.prog = true := by kernel_rfl

theorem parseR_is {s : ByteArray} {r : RuleV} (h : parseR s = some r) : isR r = true := by
  unfold parseR at h
  split at h
  · split at h
    · rename_i hg
      cases h; exact hg
    · cases h
  · cases h

set_option maxHeartbeats 40000000 in
theorem walk (a0 : ByteArray) (w : World) (w0 : a0.size ≤ maxLen) (hstd : Ru.Std w) :
    Calls Tryz.prog 6 #[.string a0] w fun e w' => e = .returned (.bool true) ∧ Below w.heap.size w w' := by
  by_cases hsz : 400 < a0.size
  · go_enter Tryz.func6, Tryz.ntmps6
    go_wp2
    go_ret
    exact ⟨rfl, Ext.refl w⟩
  have hs1 : a0.size ≤ 1000000 := by omega
  have hs2 : a0.size ≤ 400 := by omega
  have c1 := fun w h => rparseX_any a0 w hs1 h
  have c2 := fun w => dparse_any a0 w hs1
  have c6 := fun w h => known14_any w h
  have HS : Hid (∀ w', Ext w w' → Std w') := fun w' h => hstd.later h
  clear hsz w0 hstd
  cases hR : parseR a0 with
  | none =>
    rw [parseRE_none hR] at c1 c2
    obtain ⟨⟨pass, ret, quick, on, proto, ⟨sany, stab, sa, sn, slo, shi⟩, ⟨dany, dtab, da, dn, dlo, dhi⟩, set, mask, type, keep, ⟨ton, tif, tg⟩, ⟨pon, pif, pg⟩, table⟩, hk⟩ : ∃ r, rule0 = r := ⟨_, rfl⟩
    rw [hk] at c1 c2
    clear hk hR
    dsimp only at *
    go_enter Tryz.func6, Tryz.ntmps6
    go_wp2_with (first
      | (go_at_call 9; refine (c1 _ (HS.out _ (Ext.refl w))).mono ?_; rintro e w1 ⟨⟨rfl, hok⟩, hx1⟩; clear c1)
      | (refine wpl_store (by rfl) 32 _ _ rfl rfl 28 w1.heap.size #[.bool pass, .bool ret, .bool quick, .string on, .int .i64 proto, .bool sany, .string stab, .int .u32 sa, .int .i64 sn, .int .i64 slo, .int .i64 shi, .bool dany, .string dtab, .int .u32 da, .int .i64 dn, .int .i64 dlo, .int .i64 dhi, .int .i64 set, .int .i64 mask, .int .i64 type, .bool keep, .bool ton, .string tif, .int .u32 tg, .bool pon, .string pif, .int .u32 pg, .int .i64 table] _ _ rfl rfl (heap_new w1 _) rule_size rfl rfl (by simp [Value.oneCell']) ?_; intro w2 hy k2; have hx2 : Ext w w2 := ExtX.ext (Ext.alloc hx1 (.cells #[.bool false, .bool false, .bool false, .string ⟨#[]⟩, .int .i64 0, .bool false, .string ⟨#[]⟩, .int .u32 0, .int .i64 0, .int .i64 0, .int .i64 0, .bool false, .string ⟨#[]⟩, .int .u32 0, .int .i64 0, .int .i64 0, .int .i64 0, .int .i64 0, .int .i64 0, .int .i64 0, .bool false, .bool false, .string ⟨#[]⟩, .int .u32 0, .bool false, .string ⟨#[]⟩, .int .u32 0, .int .i64 0] 32)) hy hx1.size; have K1 : Hid _ := k2; clear hy k2)
      | (go_at_call 10; refine (c2 _).mono ?_; rintro e w3 ⟨rfl, hq⟩; have hx3 := hx2.trans hq; clear hq)
      | (refine wpl_store (by rfl) 32 _ _ rfl rfl 28 w3.heap.size #[.bool pass, .bool ret, .bool quick, .string on, .int .i64 proto, .bool sany, .string stab, .int .u32 sa, .int .i64 sn, .int .i64 slo, .int .i64 shi, .bool dany, .string dtab, .int .u32 da, .int .i64 dn, .int .i64 dlo, .int .i64 dhi, .int .i64 set, .int .i64 mask, .int .i64 type, .bool keep, .bool ton, .string tif, .int .u32 tg, .bool pon, .string pif, .int .u32 pg, .int .i64 table] _ _ rfl rfl (heap_new w3 _) rule_size rfl rfl (by simp [Value.oneCell']) ?_; intro w4 hy k2; have hx4 : Ext w w4 := ExtX.ext (Ext.alloc hx3 (.cells #[.bool false, .bool false, .bool false, .string ⟨#[]⟩, .int .i64 0, .bool false, .string ⟨#[]⟩, .int .u32 0, .int .i64 0, .int .i64 0, .int .i64 0, .bool false, .string ⟨#[]⟩, .int .u32 0, .int .i64 0, .int .i64 0, .int .i64 0, .int .i64 0, .int .i64 0, .int .i64 0, .bool false, .bool false, .string ⟨#[]⟩, .int .u32 0, .bool false, .string ⟨#[]⟩, .int .u32 0, .int .i64 0] 32)) hy hx3.size; have K2 : Hid _ := k2; clear hy k2)
      | (go_at_call 14; refine (c6 _ (HS.out _ hx4)).mono ?_; rintro e w8 ⟨rfl, hq⟩; have hx8 := hx4.trans hq; clear hq))
    go_ret
    exact ⟨rfl, hx8⟩
  | some r =>
    rw [parseRE_some hR, hR] at c1
    have hI := parseR_is hR
    have HI : Hid (isR r = true) := hI
    clear hI hR c2
    have c3 := fun w hr h => rPrint_any r w hr h
    have HP : Hid (RuleOk r → (printR r).size ≤ 1000000 ∧ parseRE (printR r) = .returned (.tuple #[(.agg #[.bool r.pass, .bool r.ret, .bool r.quick, .string r.on, .int .i64 r.proto, .bool r.src.any, .string r.src.table, .int .u32 r.src.a, .int .i64 r.src.n, .int .i64 r.src.low, .int .i64 r.src.high, .bool r.dst.any, .string r.dst.table, .int .u32 r.dst.a, .int .i64 r.dst.n, .int .i64 r.dst.low, .int .i64 r.dst.high, .int .i64 r.set, .int .i64 r.mask, .int .i64 r.type, .bool r.keep, .bool r.rt.on, .string r.rt.iface, .int .u32 r.rt.gate, .bool r.rp.on, .string r.rp.iface, .int .u32 r.rp.gate, .int .i64 r.table]), .int .i64 0])) := fun h => ⟨Nat.le_trans (printR_size HI.out h) (by decide), parseRE_some (print_back HI.out h)⟩
    have hpe : printE r = printR r := by unfold printE; rw [if_pos HI.out]
    rw [hpe] at c3
    clear hpe
    generalize printR r = P at *
    have c4 := fun w hz h => rparse_any P w hz h
    generalize parseRE P = EP at *
    have c5 := fun w => refSame_any r r w
    rw [ruleQ_refl] at c5
    have c7 := fun w hr => isRule_any r w hr
    rw [HI.out] at c7
    clear HI
    obtain ⟨pass, ret, quick, on, proto, ⟨sany, stab, sa, sn, slo, shi⟩, ⟨dany, dtab, da, dn, dlo, dhi⟩, set, mask, type, keep, ⟨ton, tif, tg⟩, ⟨pon, pif, pg⟩, table⟩ := r
    dsimp only at *
    go_enter Tryz.func6, Tryz.ntmps6
    go_upto_region 7 with (first
      | (go_at_call 9; refine (c1 _ (HS.out _ (Ext.refl w))).mono ?_; rintro e w1 ⟨⟨rfl, hok⟩, hx1⟩; clear c1; have HOK : Hid (RuleOk ⟨pass, ret, quick, on, proto, ⟨sany, stab, sa, sn, slo, shi⟩, ⟨dany, dtab, da, dn, dlo, dhi⟩, set, mask, type, keep, ⟨ton, tif, tg⟩, ⟨pon, pif, pg⟩, table⟩) := hok _ rfl; clear hok)
      | (refine wpl_store (by rfl) 32 _ _ rfl rfl 28 w1.heap.size #[.bool pass, .bool ret, .bool quick, .string on, .int .i64 proto, .bool sany, .string stab, .int .u32 sa, .int .i64 sn, .int .i64 slo, .int .i64 shi, .bool dany, .string dtab, .int .u32 da, .int .i64 dn, .int .i64 dlo, .int .i64 dhi, .int .i64 set, .int .i64 mask, .int .i64 type, .bool keep, .bool ton, .string tif, .int .u32 tg, .bool pon, .string pif, .int .u32 pg, .int .i64 table] _ _ rfl rfl (heap_new w1 _) rule_size rfl rfl (by simp [Value.oneCell']) ?_; intro w2 hy k2; have hx2 : Ext w w2 := ExtX.ext (Ext.alloc hx1 (.cells #[.bool false, .bool false, .bool false, .string ⟨#[]⟩, .int .i64 0, .bool false, .string ⟨#[]⟩, .int .u32 0, .int .i64 0, .int .i64 0, .int .i64 0, .bool false, .string ⟨#[]⟩, .int .u32 0, .int .i64 0, .int .i64 0, .int .i64 0, .int .i64 0, .int .i64 0, .int .i64 0, .bool false, .bool false, .string ⟨#[]⟩, .int .u32 0, .bool false, .string ⟨#[]⟩, .int .u32 0, .int .i64 0] 32)) hy hx1.size; have K1 : Hid _ := k2; clear hy k2))
    obtain ⟨hz, hEP⟩ := HP.out HOK.out
    subst hEP
    clear HP
    replace c3 := fun w h => c3 w HOK.out h
    replace c4 := fun w h => c4 w hz h
    replace c7 := fun w => c7 w HOK.out
    clear hz
    go_wp2_with (first
      | (refine wpl_load (by rfl) 32 _ rfl w1.heap.size _ _ _ rfl K1.out Tryz.underlying32 rfl rule_size ?_)
      | (go_at_call 16; refine (c3 _ (HS.out _ hx2)).mono ?_; rintro e w3 ⟨rfl, hq⟩; have hx3 := hx2.trans hq; replace K1 := hq.heap K1.out; have K1 : Hid _ := K1; clear hq c3)
      | (go_at_call 9; refine (c4 _ (HS.out _ hx3)).mono ?_; rintro e w4 ⟨rfl, hq⟩; have hx4 := hx3.trans hq; replace K1 := hq.heap K1.out; have K1 : Hid _ := K1; clear hq)
      | (refine wpl_store (by rfl) 32 _ _ rfl rfl 28 w4.heap.size #[.bool pass, .bool ret, .bool quick, .string on, .int .i64 proto, .bool sany, .string stab, .int .u32 sa, .int .i64 sn, .int .i64 slo, .int .i64 shi, .bool dany, .string dtab, .int .u32 da, .int .i64 dn, .int .i64 dlo, .int .i64 dhi, .int .i64 set, .int .i64 mask, .int .i64 type, .bool keep, .bool ton, .string tif, .int .u32 tg, .bool pon, .string pif, .int .u32 pg, .int .i64 table] _ _ rfl rfl (heap_new w4 _) rule_size rfl rfl (by simp [Value.oneCell']) ?_; intro w5 hy k2; have hx5 : Ext w w5 := ExtX.ext (Ext.alloc hx4 (.cells #[.bool false, .bool false, .bool false, .string ⟨#[]⟩, .int .i64 0, .bool false, .string ⟨#[]⟩, .int .u32 0, .int .i64 0, .int .i64 0, .int .i64 0, .bool false, .string ⟨#[]⟩, .int .u32 0, .int .i64 0, .int .i64 0, .int .i64 0, .int .i64 0, .int .i64 0, .int .i64 0, .bool false, .bool false, .string ⟨#[]⟩, .int .u32 0, .bool false, .string ⟨#[]⟩, .int .u32 0, .int .i64 0] 32)) hy hx4.size; have K2 : Hid _ := k2; replace K1 := (ExtX.ext ((Ext.refl w4).alloc (.cells #[.bool false, .bool false, .bool false, .string ⟨#[]⟩, .int .i64 0, .bool false, .string ⟨#[]⟩, .int .u32 0, .int .i64 0, .int .i64 0, .int .i64 0, .bool false, .string ⟨#[]⟩, .int .u32 0, .int .i64 0, .int .i64 0, .int .i64 0, .int .i64 0, .int .i64 0, .int .i64 0, .bool false, .bool false, .string ⟨#[]⟩, .int .u32 0, .bool false, .string ⟨#[]⟩, .int .u32 0, .int .i64 0] 32)) hy (Nat.le_refl _)).heap K1.out; have K1 : Hid _ := K1; clear hy k2)
      | (refine wpl_load (by rfl) 32 _ rfl w4.heap.size _ _ _ rfl K2.out Tryz.underlying32 rfl rule_size ?_)
      | (go_at_call 11; refine (c5 _).mono ?_; rintro e w6 ⟨rfl, hq⟩; have hx6 := hx5.trans hq; replace K1 := hq.heap K1.out; have K1 : Hid _ := K1; clear hq)
      | (go_at_call 18; refine (c7 _).mono ?_; rintro e w7 ⟨rfl, hq⟩; have hx7 := hx6.trans hq; clear hq)
      | (go_at_call 14; refine (c6 _ (HS.out _ hx7)).mono ?_; rintro e w8 ⟨rfl, hq⟩; have hx8 := hx7.trans hq; clear hq))
    go_ret
    exact ⟨rfl, hx8⟩

theorem table {W : World} (h : laidMetH Tryz.prog Rows.ruleSettlesRow.laid W) : Tab W := by
  have h1 : laidMet Tryz.prog Rows.ruleSettlesRow.laid W := h
  have e : (Rows.laid_internal_strconv_uint64pow10 : DataW Unit) = Lib.tabData .u64 Lib.pow10Tab := by kernel_rfl
  have h2 : laidMet Tryz.prog [("internal/strconv.uint64pow10", Rows.laid_internal_strconv_uint64pow10), ("unicode/utf8.acceptRanges", Rows.laid_unicode_utf8_acceptRanges), ("strconv.ErrRange", Rows.laid_strconv_ErrRange), ("strconv.ErrSyntax", Rows.laid_strconv_ErrSyntax), ("unicode/utf8.first", Rows.laid_unicode_utf8_first)] W := h1.tail.tail
  rw [e] at h2
  exact Lib.tabIs_of_head (g := 0) (t := 143) (e := 127) (n := 20) (by kernel_rfl) (by kernel_rfl) Tryz.underlying143 Tryz.underlying127 (by kernel_rfl) (by kernel_rfl) h2

theorem stands {W : World} (h : laidMetH Tryz.prog Rows.ruleSettlesRow.laid W) (hsh : W.ShapedOpen Tryz.prog) : Ru.Std W := by
  have h1 : laidMet Tryz.prog Rows.ruleSettlesRow.laid W := h
  exact Ru.std_laid (table h) hsh h1

theorem contract (H : Type) (enc : TypeId × Value → H) (W : World) (base : Nat) (args : Array Value) (ds gs : List (DataW H)) (before : List MemPlace)
    (hval : ∀ (j : Nat) t v, Tryz.f6.params[j]? = some t → args[j]? = some v → Value.okWide Tryz.prog W .any base t v)
    (hW : DataW.Whole enc Tryz.prog Tryz.f6.params.toList Rows.ruleSettlesSpec.vars false W args.toList ds gs before) (hstd : Ru.Std W)  :
    Calls Tryz.prog 6 args W fun e W' => ∃ v, e = .returned v ∧ Rows.ruleSettlesSpec.post enc Tryz.prog Tryz.f6 false true false false W args v W' := by
  have hW' := hW
  obtain ⟨p, q, hA0, hV, rfl, hfz, hnd⟩ := hW
  have hA : DataW.TrodAll enc Tryz.prog W 0 (fun _ => true) true Tryz.f6.params.toList args.toList ds p := hA0
  rw [Tryz.params6] at hA hval
  obtain ⟨v0, vs0, d0, ds0, p0, q0, hargs, rfl, rfl, h0, r0⟩ := trodAll_cons hA
  obtain ⟨rfl, rfl, rfl⟩ := trodAll_nil r0
  obtain rfl : args = #[v0] := by cases args; simp_all
  obtain ⟨rfl, rfl⟩ := trodVars_none hV
  obtain ⟨a0, rfl, rfl, rfl, w0⟩ := open_string Tryz.underlying9 (hval 0 9 v0 rfl rfl) h0
  clear hA0
  refine (walk a0 W w0 hstd).mono fun e W' ⟨he, bel⟩ => ?_
  subst he
  exact ⟨_, rfl, _, _, _, [], _, [], hW', trodAll_mk1 (shut_bool Tryz.underlying4 _), (trodAll_cons_mk (shut_string Tryz.underlying9 w0) trodAll_mk0), rfl, bel.frame _, fun h => by cases h⟩

theorem laid_met (os : Os) : laidMet Tryz.prog Rows.ruleSettlesRow.laid ((World.laidAll Tryz.prog os Rows.ruleSettlesRow.laid).forCall (fun _ _ => 0) ⟨#[], #[.string ⟨#[]⟩], []⟩).memory :=
  laidMet_laidAll _ (by kernel_rfl) (by kernel_rfl)
theorem reads (os : Os) {H : Type} (enc : TypeId × Value → H) : ∃ places, DataW.whole enc Tryz.prog ((World.laidAll Tryz.prog os Rows.ruleSettlesRow.laid).forCall (fun _ _ => 0) ⟨#[], #[.string ⟨#[]⟩], []⟩).memory Tryz.f6.params.toList Rows.ruleSettlesSpec.vars false (#[.string ⟨#[]⟩] : Array Value).toList 8 = some ([.lit (.string [])], [], places) :=
  ⟨[], by kernel_rfl⟩

set_option maxRecDepth 100000 in
theorem lifted (os : Os) (started : os.Started) (H : Type) (enc : TypeId × Value → H) (F : Stop.Interp) :
    ReturnsInHanded {} Tryz.checked os 6 .any ((OpenSpec.ofChange Rows.ruleSettlesSpec).preRow enc Tryz.prog Tryz.f6 Rows.ruleSettlesRow.domain false Rows.ruleSettlesRow.laid) (((OpenSpec.ofChange Rows.ruleSettlesSpec).at F).post enc Tryz.prog Tryz.f6 false true false false) := by
  obtain ⟨places, hx⟩ := reads os enc
  refine returnsInHanded_of_row (C := Tryz.checked) (s := (OpenSpec.ofChange Rows.ruleSettlesSpec)) own started (by kernel_rfl) Tryz.func6
    (witness_row_at (enc := enc) (C := Tryz.checked) false (World.laidAll Tryz.prog os Rows.ruleSettlesRow.laid) #[.string ⟨#[]⟩] (World.laidAll_os _ _ _) (by kernel_rfl) (by kernel_rfl) (by kernel_rfl)
      (OpenSpec.preRow_of_cond 8 hx (by kernel_rfl) (fun k hk => by cases hk) (by kernel_rfl) (laid_met os))) ?_
  intro W base args ds gs before hval hW _ hcond _ hL hsh _
  exact contract H enc W base args ds gs before hval hW (stands hL hsh)

theorem said : Rows.RuleSettlesSaid :=
  OpenClaim.holds_of_cond 6 Tryz.f6 rfl rfl rfl rfl rfl rfl rfl ⟨rfl, rfl, rfl, rfl, rfl⟩ rfl rfl rfl rfl rfl (by kernel_rfl) Tryz.func6 (by kernel_rfl)
    (of_decide_eq_true (by kernel_rfl)) (by unfold Func.isWrapper; first | (rw [if_pos (by decide +kernel)]; kernel_rfl) | (rw [if_neg (by decide +kernel)]; exact ⟨rfl, rfl⟩))
    (fun os started H enc _ F => by rw [OpenClaim.pre_eq_preRow]; exact lifted os started H enc F)

theorem plain (f : FuncId) (fn : Func) (hf : Tryz.pinned.checked.prog.funcNamed "castellan/castellanlaw14.RuleSettles" = some f) (hfn : Tryz.pinned.checked.prog.funcs[f]? = some fn) :
    true = Tryz.pinned.checked.prog.looks [] ∧ ∀ (j : Nat) t, fn.params[j]? = some t → Tryz.pinned.checked.prog.wantsStandIn t = false := by
  obtain rfl : f = 6 := Option.some.inj ((show Tryz.prog.funcNamed "castellan/castellanlaw14.RuleSettles" = some 6 by kernel_rfl).symm.trans hf) |>.symm
  obtain rfl : fn = Tryz.f6 := (Option.some.inj (Tryz.func6.symm.trans hfn)).symm
  refine ⟨by kernel_rfl, fun j t ht => ?_⟩
  rw [Tryz.params6] at ht
  have hm : t ∈ [9] := by simpa using Array.mem_of_getElem? ht
  have hall : ([9].all fun u => !Tryz.prog.wantsStandIn u) = true := by kernel_rfl
  exact (show Tryz.prog.wantsStandIn t = false by simpa using List.all_eq_true.1 hall t hm)

theorem card : Rows.RuleSettlesCardSaid :=
  Claim7.holds_tied_plain_at .later [] _ _ _ _ said (fun _ h => by cases h) (by kernel_rfl) (fun _ h => by cases h) ruleSettles_row_tie rfl ⟨rfl, rfl⟩ (by kernel_rfl) rfl plain (by kernel_rfl)
end Go.Proofs.YtbmmgjmmooakpaaGreatDoor.ruleSettles

namespace Go.Proofs.YtbmmgjmmooakpaaGreatDoor
theorem ruleSettles_holds : Rows.RuleSettlesCardSaid := ruleSettles.card
#print axioms ruleSettles_holds
end Go.Proofs.YtbmmgjmmooakpaaGreatDoor
