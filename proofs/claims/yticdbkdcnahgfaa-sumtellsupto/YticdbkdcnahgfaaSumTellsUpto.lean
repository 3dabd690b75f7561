/- Where what comes in is of bulk at most 1048576, the law SumTells returns true: of any bytes the checksum, and whether it is right; of any change the new one; the header that is not sent: as the document says. -/
import Derived.Test.YticdbkdcnahgfaaRows
import Derived.Test.YticdbkdcnahgfaaOpen
import Derived.Test.YticdbkdcnahgfaaRef2
import Derived.Test.YticdbkdcnahgfaaPseudo
import Derived.ShutString
import Derived.ChangeOld
namespace Go.Proofs.Yticdbkdcnahgfaa.sumTellsUpto
open Go.ChangeShapes Go.WideShapes Go.ChangeAt Go.RowKit
set_option linter.unusedVariables false

theorem own : ownKnob Try.prog.godebug = none := by kernel_rfl
theorem laidOut : laidOutB Try.prog = true := by kernel_rfl

set_option maxHeartbeats 4000000 in
theorem walk (a0 : Option Addr) (len0 cap0 : Nat) (L : List (List Int)) (a1 a2 a3 a4 a5 a6 a7 : Int) (w : World)
    (h0 : BytesL w a0 len0 L) (hbk : L.length + L.flatten.length ≤ 1048576) (w1 : (Lit.int .i64 a1).wf = true) (w2 : (Lit.int .i64 a2).wf = true) (w3 : (Lit.int .i64 a3).wf = true) (w4 : (Lit.int .u32 a4).wf = true) (w5 : (Lit.int .u32 a5).wf = true) (w6 : (Lit.int .i64 a6).wf = true) (w7 : (Lit.int .i64 a7).wf = true) :
    Calls Try.prog 3 #[.slice a0 len0 cap0, .int .i64 a1, .int .i64 a2, .int .i64 a3, .int .u32 a4, .int .u32 a5, .int .i64 a6, .int .i64 a7] w fun e w' => e = .returned (.bool true) ∧ Below w.heap.size w w' := by
  have hl0 := h0.small
  have hb4 := bounds_u32 w4
  have hb5 := bounds_u32 w5
  have hb6 := bounds_i64 w6
  have hb7 := bounds_i64 w7
  have hlL := h0.length
  have hfo := flat_ok h0
  clear w1 w2 w3 w4 w5 w6 w7
  obtain ⟨N, hN⟩ : ∃ N, N = len0 + L.flatten.length := ⟨_, rfl⟩
  have HN : Hid _ := hN
  have hN1 : N ≤ 1048576 := by omega
  clear hN
  have hbk2 : len0 + L.flatten.length ≤ 1048576 := by omega
  have cp := fun w => pseudo_any a4 a5 a6 a7 w hb4.1 hb4.2 hb5.1 hb5.2 hb6.1 hb6.2 hb7.1 hb7.2
  have cq := fun w => refPseudo_any a4 a5 a6 a7 w hb4.1 hb4.2 hb5.1 hb5.2 hb6.1 hb6.2 hb7.1 hb7.2
  have cu := fun w => update_any a1 a2 a3 w
  have cv := fun w => refUpdate_any a1 a2 a3 w
  generalize pseudoV a4 a5 a6 a7 = hd at cp cq
  generalize updV a1 a2 a3 = u at cu cv
  go_enter Try.func3, Try.ntmps3
  go_wp2
  go_loop [17, 18] (fun n i => ∃ k : Nat, k ≤ len0 ∧ i = .int .i64 k ∧ n = .int .i64 ((k + flen L k : Nat) : Int)) (fun _ i => len0 - (intOf i).toNat)
  case atStart => exact ⟨0, Nat.zero_le _, rfl, by simp [flen]⟩
  case round =>
    obtain ⟨k, hk, rfl, rfl⟩ := hrel
    by_cases hlt : k < len0
    · obtain ⟨b, off, p, n, c, rfl, hcell, hby, hnil⟩ := h0.cell hlt
      have hT : flen L (k + 1) = flen L k + n := by unfold flen; rw [take_flat, List.length_append, hby.length]
      have hT3 : flen L (k + 1) ≤ L.flatten.length := flat_le L (k + 1)
      have hsm : flen L k + n ≤ 1048576 := by omega
      have HT : Hid _ := hT
      clear hT hT3 hby hnil hbk hlL cp cq cu cv
      go_wp2
      go_round
      case rel => exact ⟨k + 1, by omega, by go_num, by rw [HT.out]; go_num⟩
      case measure => simp [intOf]; omega
    · obtain rfl : k = len0 := by omega
      have e : flen L k = L.flatten.length := by unfold flen; rw [List.take_of_length_le (by rw [hlL]; exact Nat.le_refl _)]
      rw [e, ← HN.out]
      clear e hlL hbk
      obtain ⟨ys, hys⟩ : ∃ ys, L.flatten = ys := ⟨_, rfl⟩
      obtain ⟨F, hF⟩ : ∃ F, ys.length = F := ⟨_, rfl⟩
      have HY : Hid _ := hys
      have HF : Hid _ := hF
      rw [hys] at hfo
      have hfl : F ≤ N := by have := HN.out; rw [hys, hF] at this; omega
      clear hys hF hbk2 HN
      by_cases g1 : 4000 < (N : Int)
      · go_wp2
        go_ret
        exact ⟨rfl, Below.refl _ _⟩
      have c1 := fun w h => of_n a0 k cap0 L w ys F HY.out HF.out h (by omega) hfo
      have c2 := fun p c w h => refOf_any p F c ys w h (by omega)
      have c3 := fun p c w h z => right_any p F c ys w h z (by omega)
      have c4 := fun p c w h => refRight_any p F c ys w h (by omega)
      generalize decide (ofV ys = 0) = d at c3 c4
      generalize ofV ys = s at c1 c2
      go_wp2_with (go_at_call 9; refine (refJoin_n _ _ _ L _ ys F HY.out HF.out h0 (by omega) hfo).mono ?_; rintro e w1 ⟨p1, cc1, rfl, hp1, hz1, hx1⟩)
      have hx0 := hx1.drew
      replace hp1 := hp1.below (Ext.refl _).drew
      refine wp_region_eager [(0, false), (2, false), (1, true), (3, true), (4, false), (5, false), (6, false), (8, false), (7, true), (9, true), (10, false), (11, false), (12, false), (13, false), (14, false), (15, false), (17, false), (18, false), (19, false), (16, true), (20, true), (21, false), (22, false), (23, false), (24, false), (25, false), (26, false), (27, false), (30, false), (31, false), (32, false), (33, false), (28, true), (29, false), (34, true), (35, false), (36, false), (37, false), (38, false), (39, true), (40, false), (41, false)] (by kernel_rfl) (by kernel_rfl) rfl (by kernel_rfl) (fun _ _ _ _ _ h => h) ?_
      repeat (first
        | (refine wpE_read (v := ?_) rfl (by rfl) ?_ ?_; rotate_left; (focus (intro w' hx; go_simp; first | done | with_reducible rfl)); simp only [Act.put, List.setIfInBounds_toArray, List.set_cons_zero, List.set_cons_succ])
        | (refine wpE_call rfl (by rfl) (fun K hK => ?_); go_simp; first
            | (go_at_call 10; refine (c1 _ (h0.below hx0)).mono ?_; rintro e w' ⟨rfl, rfl⟩; refine hK _ _ (Ext.refl _) ?_; clear hK K)
            | (go_at_call 11; refine (c2 _ _ _ hp1).mono ?_; rintro e w' ⟨rfl, rfl⟩; refine hK _ _ (Ext.refl _) ?_; clear hK K)
            | (go_at_call 12; refine (c3 _ _ _ hp1 hz1).mono ?_; rintro e w2 ⟨rfl, hx2⟩; refine hK _ _ hx2 ?_; clear hK K; replace hp1 := hp1.below hx2)
            | (go_at_call 13; refine (c4 _ _ _ hp1).mono ?_; rintro e w' ⟨rfl, rfl⟩; refine hK _ _ (Ext.refl _) ?_; clear hK K)
            | (go_at_call 14; refine (cu _).mono ?_; rintro e w' ⟨rfl, rfl⟩; refine hK _ _ (Ext.refl _) ?_; clear hK K)
            | (go_at_call 15; refine (cv _).mono ?_; rintro e w' ⟨rfl, rfl⟩; refine hK _ _ (Ext.refl _) ?_; clear hK K)
            | (go_at_call 16; refine (cp _).mono ?_; rintro e w3 ⟨p3, cc3, rfl, hp3, hx3⟩; refine hK _ _ hx3 ?_; clear hK K; have s3 := hp3.conv cc3; clear hp3)
            | (go_at_call 17; refine (cq _).mono ?_; rintro e w4 ⟨p4, cc4, rfl, hp4, hx4⟩; refine hK _ _ hx4 ?_; clear hK K s3; have s4 := hp4.conv cc4; clear hp4)
            | (go_at_call 18; refine (sumKnown_any _).mono ?_; rintro e w5 ⟨rfl, hx5⟩; refine hK _ _ hx5 ?_; clear hK K s4)))
      refine wpE_done ?_
      go_wp2
      go_ret
      exact ⟨rfl, (((hx0.trans hx2).trans hx3).trans hx4).trans hx5⟩

theorem contract (H : Type) (enc : TypeId × Value → H) (W : World) (base : Nat) (args : Array Value) (ds gs : List (DataW H)) (before : List MemPlace)
    (hval : ∀ (j : Nat) t v, Try.f3.params[j]? = some t → args[j]? = some v → Value.okWide Try.prog W .any base t v)
    (hW : DataW.Whole enc Try.prog Try.f3.params.toList Rows.sumTellsSpec.vars false W args.toList ds gs before) (hk : Rows.uptoSmall H (ds ++ gs) = true) :
    Calls Try.prog 3 args W fun e W' => ∃ v, e = .returned v ∧ Rows.sumTellsSpec.post enc Try.prog Try.f3 false true false false W args v W' := by
  have hW' := hW
  obtain ⟨p, q, hA0, hV, rfl, hfz, hnd⟩ := hW
  have hA : DataW.TrodAll enc Try.prog W 0 (fun _ => true) true Try.f3.params.toList args.toList ds p := hA0
  rw [Try.params3] at hA hval
  obtain ⟨v0, vs0, d0, ds0, p0, q0, hargs, rfl, rfl, h0, r0⟩ := trodAll_cons hA
  obtain ⟨v1, vs1, d1, ds1, p1, q1, rfl, rfl, rfl, h1, r1⟩ := trodAll_cons r0
  obtain ⟨v2, vs2, d2, ds2, p2, q2, rfl, rfl, rfl, h2, r2⟩ := trodAll_cons r1
  obtain ⟨v3, vs3, d3, ds3, p3, q3, rfl, rfl, rfl, h3, r3⟩ := trodAll_cons r2
  obtain ⟨v4, vs4, d4, ds4, p4, q4, rfl, rfl, rfl, h4, r4⟩ := trodAll_cons r3
  obtain ⟨v5, vs5, d5, ds5, p5, q5, rfl, rfl, rfl, h5, r5⟩ := trodAll_cons r4
  obtain ⟨v6, vs6, d6, ds6, p6, q6, rfl, rfl, rfl, h6, r6⟩ := trodAll_cons r5
  obtain ⟨v7, vs7, d7, ds7, p7, q7, rfl, rfl, rfl, h7, r7⟩ := trodAll_cons r6
  obtain ⟨rfl, rfl, rfl⟩ := trodAll_nil r7
  obtain rfl : args = #[v0, v1, v2, v3, v4, v5, v6, v7] := by cases args; simp_all
  obtain ⟨rfl, rfl⟩ := trodVars_none hV
  obtain ⟨a0, len0, cap0, rfl⟩ := okWide_slice Try.underlying22 (hval 0 22 v0 rfl rfl)
  have k0 := h0
  have lt0 : ∀ x ∈ p0, x.block < W.heap.size := by obtain ⟨m, hm⟩ := k0; exact DataW.trod_lt m _ _ _ hm
  obtain ⟨L, hL, hbk⟩ : ∃ L, BytesL W a0 len0 L ∧ L.length + L.flatten.length ≤ Rows.uptoBulk d0 := by
    obtain ⟨fuel, hf⟩ := h0
    exact open_bytesL Try.underlying22 Try.underlying24 Try.underlying5 (by kernel_rfl) (by kernel_rfl) (by simpa [Value.cells] using hf)
  obtain ⟨a1, rfl, rfl, rfl, w1⟩ := open_int Try.underlying3 (hval 1 3 v1 rfl rfl) h1
  obtain ⟨a2, rfl, rfl, rfl, w2⟩ := open_int Try.underlying3 (hval 2 3 v2 rfl rfl) h2
  obtain ⟨a3, rfl, rfl, rfl, w3⟩ := open_int Try.underlying3 (hval 3 3 v3 rfl rfl) h3
  obtain ⟨a4, rfl, rfl, rfl, w4⟩ := open_int Try.underlying23 (hval 4 23 v4 rfl rfl) h4
  obtain ⟨a5, rfl, rfl, rfl, w5⟩ := open_int Try.underlying23 (hval 5 23 v5 rfl rfl) h5
  obtain ⟨a6, rfl, rfl, rfl, w6⟩ := open_int Try.underlying3 (hval 6 3 v6 rfl rfl) h6
  obtain ⟨a7, rfl, rfl, rfl, w7⟩ := open_int Try.underlying3 (hval 7 3 v7 rfl rfl) h7
  have hb : L.length + L.flatten.length ≤ 1048576 := by
    have h := of_decide_eq_true hk
    simp only [List.append_nil, Rows.uptoBulkAll] at h
    omega
  clear hA0
  refine (walk a0 len0 cap0 L a1 a2 a3 a4 a5 a6 a7 W hL hb w1 w2 w3 w4 w5 w6 w7).mono fun e W' ⟨he, bel⟩ => ?_
  subst he
  exact ⟨_, rfl, _, _, _, [], _, [], hW', trodAll_mk1 (shut_bool Try.underlying4 _), (trodAll_cons_mk (Below.trod laidOut (by kernel_rfl) (of_decide_eq_true (by kernel_rfl)) k0 bel lt0) (trodAll_cons_mk (shut_int Try.underlying3 w1) (trodAll_cons_mk (shut_int Try.underlying3 w2) (trodAll_cons_mk (shut_int Try.underlying3 w3) (trodAll_cons_mk (shut_int Try.underlying23 w4) (trodAll_cons_mk (shut_int Try.underlying23 w5) (trodAll_cons_mk (shut_int Try.underlying3 w6) (trodAll_cons_mk (shut_int Try.underlying3 w7) trodAll_mk0)))))))), rfl, bel.frame _, fun h => by cases h⟩

set_option maxRecDepth 100000 in
theorem lifted (os : Os) (started : os.Started) (H : Type) (enc : TypeId × Value → H) (F : Stop.Interp) :
    ReturnsInHanded {} Try.checked os 3 .any ((Rows.OpenSpec.upto Rows.sumTellsSpec).pre6 enc Try.prog Try.f3 Rows.sumTellsUptoRow.domain false) (((Rows.OpenSpec.upto Rows.sumTellsSpec).at F).post enc Try.prog Try.f3 false true false false) := by
  refine returnsInHanded_of_cond (C := Try.checked) (s := Rows.OpenSpec.upto Rows.sumTellsSpec) (k := Rows.uptoSmall) rfl own started (by kernel_rfl) Try.func3
    (OpenSpec.witness (enc := enc) (C := Try.checked) (s := Rows.OpenSpec.upto Rows.sumTellsSpec) (k := Rows.uptoSmall) rfl false ⟨#[], #[.slice none 0 0, .int .i64 0, .int .i64 0, .int .i64 0, .int .u32 0, .int .u32 0, .int .i64 0, .int .i64 0], []⟩ 8 (by kernel_rfl) (by kernel_rfl) (by kernel_rfl)
      (x := ([.nil, .lit (.int .i64 0), .lit (.int .i64 0), .lit (.int .i64 0), .lit (.int .u32 0), .lit (.int .u32 0), .lit (.int .i64 0), .lit (.int .i64 0)], [], [])) (by kernel_rfl) rfl (by kernel_rfl)) ?_
  intro W base args ds gs before hval hW _ hk _
  exact contract H enc W base args ds gs before hval hW hk

theorem proved : Rows.SumTellsUptoSaid :=
  OpenClaim.holds_of_cond 3 Try.f3 rfl rfl rfl rfl rfl rfl rfl ⟨rfl, rfl, rfl, rfl, rfl⟩ rfl rfl rfl rfl rfl (by kernel_rfl) Try.func3 (by kernel_rfl)
    (of_decide_eq_true (by kernel_rfl)) (by unfold Func.isWrapper; first | (rw [if_pos (by decide +kernel)]; kernel_rfl) | (rw [if_neg (by decide +kernel)]; exact ⟨rfl, rfl⟩))
    (fun os started H enc _ F => lifted os started H enc F)
end Go.Proofs.Yticdbkdcnahgfaa.sumTellsUpto

namespace Go.Proofs.Yticdbkdcnahgfaa
theorem sumTellsUpto_holds : Rows.SumTellsUptoSaid := sumTellsUpto.proved
#print axioms sumTellsUpto_holds
end Go.Proofs.Yticdbkdcnahgfaa
