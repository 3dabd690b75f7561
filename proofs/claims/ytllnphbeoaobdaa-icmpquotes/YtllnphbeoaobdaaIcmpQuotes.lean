/- For every bytes, the law IcmpQuotes returns true: what is quoted is the begin of the packet, never more than sixty-eight bytes, and at least eight where there are sixty-eight; no condition. -/
import Derived.Test.YtllnphbeoaobdaaRows
import Derived.Test.YtllnphbeoaobdaaIcmp2
import Derived.Test.YtllnphbeoaobdaaIcmp8
import Derived.Test.YtllnphbeoaobdaaFrame
import Derived.WalkKit
import Derived.ProofKit
import Derived.OpenShut
import Derived.ShutString
import Derived.ChangeOld
import Derived.Deep.DeepHandedRow
import Derived.Lib.LaidTab
import Derived.Lib.SmallJoins
import Derived.LaidMore
import Derived.Stop.LaidErr
import Derived.ChangeMaps5
namespace Go.Proofs.Ytllnphbeoaobdaa.icmpQuotes
open Go.ChangeShapes Go.WideShapes Go.ChangeAt Go.RowKit Go.ChangeMaps
set_option linter.unusedVariables false

theorem own : ownKnob Try.prog.godebug = none := by kernel_rfl
theorem laidOut : laidOutB Try.prog = true := by kernel_rfl

set_option maxHeartbeats 4000000 in
theorem walk (a0 : Option Addr) (len0 cap0 : Nat) (zs0 : List Int) (w : World) (row0 : IsRow .u8 w a0 len0 cap0 zs0) (hsh : w.ShapedOpen Try.prog) :
    Calls Try.prog 6 #[.slice a0 len0 cap0] w fun e w' => e = .returned (.bool true) ∧ Below w.heap.size w w' := by
  have r := row0.bytes
  have hle := row0.le
  have z := row0.nil_cap
  by_cases hlong : 1500 < len0
  · go_enter Try.func6, Try.ntmps6
    go_wp2
    go_ret
    exact ⟨rfl, Ext.refl _⟩
  generalize zs0.take len0 = xs at *
  obtain ⟨m, hm⟩ : ∃ m, Icmp.quoteN xs = m := ⟨_, rfl⟩
  have hmb : m ≤ len0 ∧ m ≤ 68 ∧ (len0 < 68 ∨ 8 ≤ m) := by
    have hb := headV_bd r.ok
    have hl := r.length
    rw [← hm]; unfold Icmp.quoteN; omega
  have hy : Icmp.quoteV xs = xs.take m := by unfold Icmp.quoteV; rw [hm]
  have cq := fun w h => Icmp.quote_any a0 len0 cap0 xs w h hle z (by omega) m hm (xs.take m) hy
  have rt := Icmp.bytes_take r m hmb.1
  obtain ⟨h1, h2, h3⟩ := hmb
  have h1' : (m : Int) ≤ (len0 : Int) := by omega
  have h2' : (m : Int) ≤ 68 := by omega
  have hc' : (m : Int) ≤ (cap0 : Int) := by omega
  have hlong' : (len0 : Int) ≤ 1500 := by omega
  clear hm hy
  generalize xs.take m = ys at *
  have hcs : (decide ((len0 : Int) < 68) = true) ∨ (decide ((len0 : Int) < 68) = false ∧ (8 : Int) ≤ (m : Int) ∧ decide ((8 : Int) ≤ (m : Int)) = true) := by
    simp only [decide_eq_true_eq, decide_eq_false_iff_not]; omega
  rcases hcs with h4 | ⟨h4, h5, h6⟩
  all_goals
    clear h3
    go_enter Try.func6, Try.ntmps6
    go_wp2_with (first
      | (go_at_call 14; refine (cq _ r).mono ?_; rintro e w1 ⟨q, c, rfl, hq1, hx1⟩))
    have hX : Ext w w1.drew := hx1.drew
    have sA := (hq1.below ((Ext.refl w1).drew)).conv c
    have sB := (rt.below hX).conv cap0
    generalize strOfNums ys = SY at *
    refine wp_region_eager [(0, false), (1, false), (2, false), (3, false), (4, false), (5, false), (6, false), (7, false), (8, false), (9, false), (10, false), (11, false), (12, false), (13, false), (14, false), (15, false), (16, false), (17, false), (18, false), (19, false), (20, false), (21, false), (22, false), (23, false), (24, false), (25, false), (26, false), (27, false), (28, false), (29, false), (30, false), (31, false), (32, false), (33, false), (34, true), (35, false), (36, false)] (by kernel_rfl) (by kernel_rfl) rfl (by kernel_rfl) (fun _ _ _ _ _ h => h) ?_
    clear hx1 cq hq1
    generalize w1.drew = V at *
    iterate 19 (refine wpE_read (v := ?_) rfl (by rfl) ?_ ?_; rotate_left; (focus (intro w' hx; go_simp; first | done | with_reducible rfl)); simp only [Act.put, List.setIfInBounds_toArray, List.set_cons_zero, List.set_cons_succ])
    rw [if_neg (show ¬ len0 < m by omega)]
    repeat (first
      | (refine wpE_read (v := ?_) rfl (by rfl) ?_ ?_; rotate_left; (focus (intro w' hx; go_simp; first | done | with_reducible rfl)); simp only [Act.put, List.setIfInBounds_toArray, List.set_cons_zero, List.set_cons_succ])
      | (refine wpE_skip rfl (by rfl) ?_; simp only [Act.put, List.setIfInBounds_toArray, List.set_cons_zero, List.set_cons_succ])
      | (refine wpE_call rfl (by rfl) (fun K hK => ?_); go_simp; first
          | (go_at_call 20; refine (Icmp.known_any _).mono ?_; rintro e w10 ⟨rfl, rfl⟩; refine hK _ _ (Ext.refl _) ?_; clear hK K)))
    refine wpE_done ?_
    go_wp2
    go_ret
    exact ⟨rfl, hX⟩

theorem contract (H : Type) (enc : TypeId × Value → H) (W : World) (base : Nat) (args : Array Value) (ds gs : List (DataW H)) (before : List MemPlace)
    (hval : ∀ (j : Nat) t v, Try.f6.params[j]? = some t → args[j]? = some v → Value.okWide Try.prog W .any base t v)
    (hW : DataW.Whole enc Try.prog Try.f6.params.toList Rows.icmpQuotesSpec.vars false W args.toList ds gs before) (hsh : W.ShapedOpen Try.prog) :
    Calls Try.prog 6 args W fun e W' => ∃ v, e = .returned v ∧ Rows.icmpQuotesSpec.post enc Try.prog Try.f6 false true false false W args v W' := by
  have hW' := hW
  obtain ⟨p, q, hA0, hV, rfl, hfz, hnd⟩ := hW
  have hA : DataW.TrodAll enc Try.prog W 0 (fun _ => true) true Try.f6.params.toList args.toList ds p := hA0
  rw [Try.params6] at hA hval
  obtain ⟨v0, vs0, d0, ds0, p0, q0, hargs, rfl, rfl, h0, r0⟩ := trodAll_cons hA
  obtain ⟨rfl, rfl, rfl⟩ := trodAll_nil r0
  obtain rfl : args = #[v0] := by cases args; simp_all
  obtain ⟨rfl, rfl⟩ := trodVars_none hV
  have k0 := h0
  have lt0 : ∀ x ∈ p0, x.block < W.heap.size := by obtain ⟨m, hm⟩ := k0; exact DataW.trod_lt m _ _ _ hm
  obtain ⟨b0, l0, c0, rfl⟩ := okWide_slice Try.underlying22 (hval 0 22 v0 rfl rfl)
  obtain ⟨fu0, hf0⟩ := h0
  obtain ⟨a0, len0, cap0, zs0, ce0, row0⟩ := open_rowI Try.underlying22 Try.underlying5 (by kernel_rfl) (fun _ => rfl) hf0
  obtain ⟨rfl, rfl, rfl⟩ : a0 = b0 ∧ len0 = l0 ∧ cap0 = c0 := by simpa [Value.cells, eq_comm] using ce0
  clear hA0
  refine (walk a0 len0 cap0 zs0 W row0 hsh).mono fun e W' ⟨he, bel⟩ => ?_
  subst he
  exact ⟨_, rfl, _, _, _, [], _, [], hW', trodAll_mk1 (shut_bool Try.underlying4 _), (trodAll_cons_mk (Below.trod laidOut (by kernel_rfl) (of_decide_eq_true (by kernel_rfl)) k0 bel lt0) trodAll_mk0), rfl, bel.frame _, fun h => by cases h⟩

theorem laid_met (os : Os) : laidMet Try.prog Rows.icmpQuotesRow.laid ((World.doorLaid Try.prog 24 os).forCall (fun _ _ => 0) ⟨#[], #[.slice none 0 0], []⟩).memory :=
  laidMet_of_run' 8 (by kernel_rfl) (by kernel_rfl)
theorem reads (os : Os) {H : Type} (enc : TypeId × Value → H) : ∃ places, DataW.whole enc Try.prog ((World.doorLaid Try.prog 24 os).forCall (fun _ _ => 0) ⟨#[], #[.slice none 0 0], []⟩).memory Try.f6.params.toList Rows.icmpQuotesSpec.vars false (#[.slice none 0 0] : Array Value).toList 8 = some ([.nil], [], places) :=
  ⟨[], by kernel_rfl⟩

set_option maxRecDepth 100000 in
theorem lifted (os : Os) (started : os.Started) (H : Type) (enc : TypeId × Value → H) (F : Stop.Interp) :
    ReturnsInHanded {} Try.checked os 6 .any ((OpenSpec.ofChange Rows.icmpQuotesSpec).preRow enc Try.prog Try.f6 Rows.icmpQuotesRow.domain false Rows.icmpQuotesRow.laid) (((OpenSpec.ofChange Rows.icmpQuotesSpec).at F).post enc Try.prog Try.f6 false true false false) := by
  obtain ⟨places, hx⟩ := reads os enc
  refine returnsInHanded_of_row (C := Try.checked) (s := (OpenSpec.ofChange Rows.icmpQuotesSpec)) own started (by kernel_rfl) Try.func6
    (witness_row_at (enc := enc) (C := Try.checked) false (World.doorLaid Try.prog 24 os) #[.slice none 0 0] rfl (by kernel_rfl) (by kernel_rfl) (by kernel_rfl)
      (OpenSpec.preRow_of_cond 8 hx (by kernel_rfl) (fun k hk => by cases hk) (by kernel_rfl) (laid_met os))) ?_
  intro W base args ds gs before hval hW _ hcond _ hL hsh _
  exact contract H enc W base args ds gs before hval hW hsh

theorem said : Rows.IcmpQuotesSaid :=
  OpenClaim.holds_of_cond 6 Try.f6 rfl rfl rfl rfl rfl rfl rfl ⟨rfl, rfl, rfl, rfl, rfl⟩ rfl rfl rfl rfl rfl (by kernel_rfl) Try.func6 (by kernel_rfl)
    (of_decide_eq_true (by kernel_rfl)) (by unfold Func.isWrapper; first | (rw [if_pos (by decide +kernel)]; kernel_rfl) | (rw [if_neg (by decide +kernel)]; exact ⟨rfl, rfl⟩))
    (fun os started H enc _ F => by rw [OpenClaim.pre_eq_preRow]; exact lifted os started H enc F)

end Go.Proofs.Ytllnphbeoaobdaa.icmpQuotes

namespace Go.Proofs.Ytllnphbeoaobdaa
theorem icmpQuotes_holds : Rows.IcmpQuotesSaid := icmpQuotes.said
#print axioms icmpQuotes_holds
end Go.Proofs.Ytllnphbeoaobdaa
