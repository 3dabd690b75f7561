/- For every slice of bytes, place and numbers, the law WordGets returns true: package word reads and writes numbers as the document says; no condition. -/
import Derived.Test.YtihhcnfekbjbhaaRows
import Derived.Test.YtihhcnfekbjbhaaRef1
import Derived.Test.YtihhcnfekbjbhaaGrow
import Derived.WalkKit
import Derived.ProofKit
import Derived.OpenShut
import Derived.ShutString
import Derived.ChangeOld
import Derived.Below
namespace Go.Proofs.Ytihhcnfekbjbhaa.wordGets
open Go.ChangeShapes Go.WideShapes Go.ChangeAt Go.RowKit
open Go.ChangeMaps (open_string shut_string)
set_option linter.unusedVariables false

theorem own : ownKnob Try.prog.godebug = none := by kernel_rfl
theorem laidOut : laidOutB Try.prog = true := by kernel_rfl

set_option maxHeartbeats 4000000 in
theorem walk (a0 : Option Addr) (len0 cap0 : Nat) (z0 : List Int) (a1 : Int) (a2 : Int) (a3 : Int) (w : World) (w0 : IsRow .u8 w a0 len0 cap0 z0) (w1 : (Lit.int .i64 a1).wf = true) (w2 : (Lit.int .i64 a2).wf = true) (w3 : (Lit.int .u32 a3).wf = true) :
    Calls Try.prog 3 #[.slice a0 len0 cap0, .int .i64 a1, .int .i64 a2, .int .u32 a3] w fun e w' => e = .returned (.bool true) ∧ Below w.heap.size w w' := by
  have hB := w0.bytes
  have hl := hB.small
  have hb1 := bounds_i64 w1
  have hb2 := bounds_i64 w2
  have hb3 := bounds_u32 w3
  by_cases g1 : 2000 < (len0 : Int)
  · go_enter Try.func3, Try.ntmps3
    go_wp2
    go_ret
    exact ⟨rfl, Below.refl _ _⟩
  by_cases g2 : 1099511627776 < a1
  · go_enter Try.func3, Try.ntmps3
    go_wp2
    go_ret
    exact ⟨rfl, Below.refl _ _⟩
  generalize z0.take len0 = xs at hB
  clear w0 w1 w2 w3
  go_enter Try.func3, Try.ntmps3
  go_wp2
  refine wp_region_eager [(0, false), (1, false), (3, false), (4, false), (2, true), (5, true), (6, false), (7, false), (8, false), (9, false), (11, false), (12, false), (10, true), (13, true), (14, false), (15, false), (16, false), (17, false), (20, false), (18, true), (19, false), (21, true), (22, false), (23, false), (24, false), (25, false), (26, false), (29, false), (27, true), (28, false), (30, true), (31, false), (32, false), (33, false), (34, false), (35, true), (36, false), (37, false)] (by kernel_rfl) (by kernel_rfl) rfl (by kernel_rfl) (fun _ _ _ _ _ h => h) ?_
  replace hB := hB.below (Below.drew (Below.refl _ _))
  repeat (first
    | (refine wpE_read (v := ?_) rfl (by rfl) ?_ ?_; rotate_left; (focus (intro w' hx; go_simp; first | done | with_reducible rfl)); simp only [Act.put, List.setIfInBounds_toArray, List.set_cons_zero, List.set_cons_succ])
    | (refine wpE_call rfl (by rfl) (fun K hK => ?_); go_simp; first
        | (go_at_call 8; refine (get16_any _ _ _ xs _ _ hB (by omega) (by omega)).mono ?_; rintro e w' ⟨rfl, rfl⟩; refine hK _ _ (Ext.refl _) ?_; clear hK K)
        | (go_at_call 10; refine (get32_any _ _ _ xs _ _ hB (by omega) (by omega)).mono ?_; rintro e w' ⟨rfl, rfl⟩; refine hK _ _ (Ext.refl _) ?_; clear hK K)
        | (go_at_call 9; refine (refGet16_any _ _ _ xs _ _ hB (by omega) (by omega)).mono ?_; rintro e w' ⟨rfl, rfl⟩; refine hK _ _ (Ext.refl _) ?_; clear hK K)
        | (go_at_call 11; refine (refGet32_any _ _ _ xs _ _ hB (by omega) (by omega)).mono ?_; rintro e w' ⟨rfl, rfl⟩; refine hK _ _ (Ext.refl _) ?_; clear hK K)
        | (go_at_call 12; refine (put16_new _ _ (by omega) (by omega)).mono ?_; rintro e w1 ⟨p1, rfl, hp, hx1⟩; refine hK _ _ hx1 ?_; clear hK K; have s1 := hp.conv 2; clear hp)
        | (go_at_call 13; refine (refPut16_new _ _ (by omega) (by omega)).mono ?_; rintro e w2 ⟨p2, rfl, hp, hx2⟩; refine hK _ _ hx2 ?_; clear hK K s1; have s2 := hp.conv 2; clear hp)
        | (go_at_call 14; refine (put32_new _ _ (by omega) (by omega)).mono ?_; rintro e w3 ⟨p3, rfl, hp, hx3⟩; refine hK _ _ hx3 ?_; clear hK K s2; have s3 := hp.conv 4; clear hp)
        | (go_at_call 15; refine (refPut32_new _ _ (by omega) (by omega)).mono ?_; rintro e w4 ⟨p4, rfl, hp, hx4⟩; refine hK _ _ hx4 ?_; clear hK K s3; have s4 := hp.conv 4; clear hp)
        | (go_at_call 16; refine (known_ext _).mono ?_; rintro e w5 ⟨rfl, hx5⟩; refine hK _ _ hx5 ?_; clear hK K s4)))
  refine wpE_done ?_
  go_wp2
  go_ret
  exact ⟨rfl, ((((((Ext.refl _).drew.trans hx1).trans hx2).trans hx3).trans hx4).trans hx5)⟩

set_option maxRecDepth 100000 in
theorem lifted (os : Os) (started : os.Started) (H : Type) (enc : TypeId × Value → H) :
    ReturnsInHanded {} Try.checked os 3 .any (Rows.wordGetsSpec.pre6 enc Try.prog Try.f3 Rows.wordGetsRow.domain false) (Rows.wordGetsSpec.post enc Try.prog Try.f3 false true false false) := by
  refine returnsInHanded_of_change (C := Try.checked) own started (by kernel_rfl) Try.func3
    (ChangeSpec.witness6 (enc := enc) (C := Try.checked) false ⟨#[], #[.slice none 0 0, .int .i64 0, .int .i64 0, .int .u32 0], []⟩ 8 (by kernel_rfl) (by kernel_rfl) (by kernel_rfl) (by kernel_rfl)) ?_
  intro W base args ds gs before hval0 hW hcnd _
  have hval : ∀ (j : Nat) t v, Try.f3.params[j]? = some t → args[j]? = some v → Value.okWide Try.prog W .any base t v := hval0
  have hW' := hW
  obtain ⟨p, q, hA0, hV, rfl, hfz, hnd⟩ := hW
  have hA : DataW.TrodAll enc Try.prog W 0 (fun _ => true) true Try.f3.params.toList args.toList ds p := hA0
  rw [Try.params3] at hA hval
  obtain ⟨v0, vs0, d0, ds0, p0, q0, hargs, rfl, rfl, h0, r0⟩ := trodAll_cons hA
  obtain ⟨v1, vs1, d1, ds1, p1, q1, rfl, rfl, rfl, h1, r1⟩ := trodAll_cons r0
  obtain ⟨v2, vs2, d2, ds2, p2, q2, rfl, rfl, rfl, h2, r2⟩ := trodAll_cons r1
  obtain ⟨v3, vs3, d3, ds3, p3, q3, rfl, rfl, rfl, h3, r3⟩ := trodAll_cons r2
  obtain ⟨rfl, rfl, rfl⟩ := trodAll_nil r3
  obtain rfl : args = #[v0, v1, v2, v3] := by cases args; simp_all
  obtain ⟨rfl, rfl⟩ := trodVars_none hV
  obtain ⟨a0, len0, cap0, rfl⟩ := okWide_slice Try.underlying22 (hval 0 22 v0 rfl rfl)
  have k0 := h0
  have lt0 : ∀ x ∈ p0, x.block < W.heap.size := by obtain ⟨m, hm⟩ := k0; exact DataW.trod_lt m _ _ _ hm
  obtain ⟨z0, w0⟩ : ∃ zs, IsRow .u8 W a0 len0 cap0 zs := by
    obtain ⟨fuel, hf⟩ := h0
    rcases open_ints Try.underlying22 Try.underlying5 (by kernel_rfl) hf with ⟨hcs, _⟩ | ⟨x, l, c, zs, hcs, _, hl, hm, hz, _, hcell, hwz⟩
    · simp [Value.cells] at hcs
      obtain ⟨rfl, rfl, rfl⟩ := hcs
      exact ⟨[], .inl ⟨rfl, rfl, rfl, rfl⟩⟩
    · simp [Value.cells] at hcs
      obtain ⟨rfl, rfl, rfl⟩ := hcs
      exact ⟨zs, .inr ⟨_, rfl, hl, hm, by simpa using hz, hcell, hwz⟩⟩
  obtain ⟨a1, rfl, rfl, rfl, w1⟩ := open_int Try.underlying3 (hval 1 3 v1 rfl rfl) h1
  obtain ⟨a2, rfl, rfl, rfl, w2⟩ := open_int Try.underlying3 (hval 2 3 v2 rfl rfl) h2
  obtain ⟨a3, rfl, rfl, rfl, w3⟩ := open_int Try.underlying23 (hval 3 23 v3 rfl rfl) h3
  clear hA0 hval0
  refine (walk a0 len0 cap0 z0 a1 a2 a3 W w0 w1 w2 w3).mono fun e W' ⟨he, bel⟩ => ?_
  subst he
  exact ⟨_, rfl, _, _, _, [], _, [], hW', trodAll_mk1 (shut_bool Try.underlying4 _), (trodAll_cons_mk (Below.trod laidOut (by kernel_rfl) (of_decide_eq_true (by kernel_rfl)) k0 bel lt0) (trodAll_cons_mk (shut_int Try.underlying3 w1) (trodAll_cons_mk (shut_int Try.underlying3 w2) (trodAll_cons_mk (shut_int Try.underlying23 w3) trodAll_mk0)))), rfl, bel.frame _, fun h => by cases h⟩

theorem over : Rows.wordGetsRow.holds Try.pinned (OpenSpec.ofChange Rows.wordGetsSpec) :=
  OpenClaim.holds_of_wide 3 Try.f3 rfl rfl rfl rfl rfl rfl rfl ⟨rfl, rfl, rfl, rfl, rfl⟩ rfl rfl rfl rfl rfl (by kernel_rfl) Try.func3 (by kernel_rfl)
    (of_decide_eq_true (by kernel_rfl)) (by unfold Func.isWrapper; first | (rw [if_pos (by decide +kernel)]; kernel_rfl) | (rw [if_neg (by decide +kernel)]; exact ⟨rfl, rfl⟩))
    (fun os started H enc _ => lifted os started H enc)

theorem proved : Rows.WordGetsSaid := over
end Go.Proofs.Ytihhcnfekbjbhaa.wordGets

namespace Go.Proofs.Ytihhcnfekbjbhaa
theorem wordGets_holds : Rows.WordGetsSaid := wordGets.proved
#print axioms wordGets_holds
end Go.Proofs.Ytihhcnfekbjbhaa
