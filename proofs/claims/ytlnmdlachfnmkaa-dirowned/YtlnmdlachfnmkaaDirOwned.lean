/- For every address and every number, the law DirOwned returns true: one prefix owns none up to sixteen bits, one up to twenty-four, two behind that; no condition. -/
import Derived.Test.YtlnmdlachfnmkaaRows
import Derived.Test.YtlnmdlachfnmkaaLaw10K
import Derived.Test.YtlnmdlachfnmkaaRef3
import Derived.Test.YtlnmdlachfnmkaaFrame
import Derived.WalkKit
import Derived.ProofKit
import Derived.OpenShut
import Derived.ShutString
import Derived.ChangeOld
import Derived.Deep.DeepHandedRow
import Derived.Lib.LaidTab
import Derived.Lib.SmallJoins
import Derived.LaidMore
import Derived.Stop.LaidErr
import Derived.ChangeMaps5
namespace Go.Proofs.Ytlnmdlachfnmkaa.dirOwned
open Go.ChangeShapes Go.WideShapes Go.ChangeAt Go.RowKit Go.ChangeMaps
set_option linter.unusedVariables false
set_option maxRecDepth 100000

theorem own : ownKnob Try.prog.godebug = none := by kernel_rfl
theorem laidOut : laidOutB Try.prog = true := by kernel_rfl

open Go.Proofs.Ytlnmdlachfnmkaa.Tri Go.Proofs.Ytlnmdlachfnmkaa.Dr

theorem and_63 (n : Int) : bits .and .i64 n 63 = n % 64 := by
  have h1 : (BitVec.ofInt 64 63).toNat = 2 ^ 6 - 1 := by decide
  have key : (BitVec.ofInt 64 n &&& BitVec.ofInt 64 63).toNat = (n % ((2 ^ 64 : Nat) : Int)).toNat % 2 ^ 6 := by
    rw [BitVec.toNat_and, BitVec.toNat_ofInt, h1, Nat.and_two_pow_sub_one_eq_mod]
  show IntKind.i64.wrap ((BitVec.ofInt 64 n &&& BitVec.ofInt 64 63).toNat : Nat) = n % 64
  rw [key, IntKind.wrap_i64]
  omega

theorem boxC (c : Int) (M : Nat) (w1 : World) : Hid (∀ w', Ext (w1.alloc (.cells #[.int .u32 c, .int .i64 M] 30)) w' → w'.cell? ⟨w1.heap.size, 0, none⟩ = some (.int .u32 c) ∧ w'.cell? ⟨w1.heap.size, 1, none⟩ = some (.int .i64 M)) := fun w' hx => by
  have hn := heap_new w1 (.cells #[.int .u32 c, .int .i64 M] 30)
  exact ⟨by rw [heap_cell (hx.heap hn)]; rfl, by rw [heap_cell (hx.heap hn)]; rfl⟩

theorem size_box (c : Int) (M : Nat) (w1 : World) : (w1.alloc (.cells #[.int .u32 c, .int .i64 M] 30)).heap.size = w1.heap.size + 1 := by simp

theorem own_one {p : PX} (hp : Vp p) : ownN [p] = lvN p.2.toNat := by
  rw [own_cons p hp []]
  have h0 : ownN [] = 0 := rfl
  rw [h0]
  have key : ∀ A j, moreN [] A j = j := by
    intro A j; induction j with
    | zero => rfl
    | succ j ih => simp [moreN, ih, domB]
  rw [key]; omega

theorem set_one {p : PX} (hp : Vp p) (most : Int) (hm : (lvN p.2.toNat : Int) ≤ most) : setR most [] p 7 = (0, [(p, 7)]) := by
  unfold setR
  have hi : isV p.1 p.2 = true := hp.is
  rw [if_neg (by rw [hi]; simp)]
  have e : keysL (setL [] p 7) = [p] := rfl
  rw [e, own_one hp, if_neg (by omega)]
  rfl

theorem set_none {p : PX} (hp : Vp p) (most : Int) (hm : most < (lvN p.2.toNat : Int)) : setR most [] p 7 = (6, []) := by
  unfold setR
  have hi : isV p.1 p.2 = true := hp.is
  rw [if_neg (by rw [hi]; simp)]
  have e : keysL (setL [] p 7) = [p] := rfl
  rw [e, own_one hp, if_pos hm]

set_option maxHeartbeats 4000000 in
theorem walk (a0 : Int) (a1 : Int) (w : World) (w0 : (Lit.int .u32 a0).wf = true) (w1 : (Lit.int .i64 a1).wf = true) (hsh : w.ShapedOpen Try.prog) :
    Calls Try.prog 9 #[.int .u32 a0, .int .i64 a1] w fun e w' => e = .returned (.bool true) ∧ Below w.heap.size w w' := by
  have hb0 := bounds_u32 w0
  obtain ⟨A, rfl⟩ : ∃ A : Nat, a0 = (A : Int) := ⟨a0.toNat, by omega⟩
  have hA : A < 4294967296 := by omega
  obtain ⟨k, hk, hk2⟩ : ∃ k : Nat, bits .and .i64 a1 63 = (k : Int) ∧ k < 64 := ⟨(a1 % 64).toNat, by rw [and_63]; omega, by omega⟩
  obtain ⟨M, hM, hM2⟩ : ∃ M : Nat, ((k : Int)).tmod 33 = (M : Int) ∧ M ≤ 32 := ⟨k % 33, by rw [Int.tmod_eq_emod_of_nonneg (by omega)]; omega, by omega⟩
  have kN := fun w => refNorm_any (A : Int) (M : Int) w hb0.1 hb0.2
  rw [holdV_nat M hM2] at kN
  have hv := nrm_vp A M hA hM2
  have hcv := nrm_cov A M hA hM2
  have hpn : nrm A M = (normV A M, (M : Int)) := rfl
  rw [hpn] at hv hcv
  obtain ⟨n0, n1, -, -⟩ := hv.bd
  have hlast : lastF none (covL [((normV A M, (M : Int)), 7)] ((A : Int), 32)) = some ((normV A M, (M : Int)), 7) := last_is (List.pairwise_singleton _ _) (by simpa using hv) hA (by simp) hcv (by simp)
  have hown : ownN (keysL [((normV A M, (M : Int)), 7)]) = lvN M := by
    show ownN [(normV A M, (M : Int))] = lvN M
    have := own_one hv
    simpa using this
  have hlv : lvN M = if M ≤ 16 then 0 else if M ≤ 24 then 1 else 2 := rfl
  have s1 : setR 2 [] (normV A M, (M : Int)) 7 = (0, [((normV A M, (M : Int)), 7)]) := set_one hv 2 (by have := lvN_le M; simp only [Int.toNat_natCast]; omega)
  have HS0 : Hid (lvN M = 0 → setR 0 [] (normV A M, (M : Int)) 7 = (0, [((normV A M, (M : Int)), 7)])) := fun e => set_one hv 0 (by simp [e])
  have HS1 : Hid (∀ m : Int, m < (lvN M : Int) → setR m [] (normV A M, (M : Int)) 7 = (6, [])) := fun m e => set_none hv m (by simpa using e)
  generalize normV A M = c at *
  clear hcv hpn
  have kK := fun w => known_any w
  have tok1 : Hid True := trivial
  have tokN : Hid True := trivial
  rcases (by omega : M ≤ 16 ∨ (16 < M ∧ M ≤ 24) ∨ 24 < M) with h | h | h
  · have hl : lvN M = 0 := by unfold lvN; rw [if_pos h]
    rw [hl] at hown
    have i16 : (M : Int) ≤ 16 := by omega
    have hset := HS0.out hl
    have hm1 : maxV (-1) = 0 := by decide
    have i24 : (M : Int) ≤ 24 := by omega
    clear HS0 HS1 hlv hl h
    go_enter Try.func9, Try.ntmps9
    go_wp2_with (first
      | (go_at_call 24; refine (kN _).mono ?_; rintro e w1 ⟨rfl, hx1⟩)
      | (go_at_call 10; clear tokN; refine (new_own 2 _).mono ?_; rintro e w3 ⟨rfl, o3⟩; rw [size_box c M w1] at o3 ⊢; have HP := boxC c M w1; obtain ⟨q0, q1⟩ := HP.out _ o3.toExt)
      | (go_at_call 20; clear tok1; refine (set_own o3 (by simp) c M 7 n0 n1).mono ?_; rintro e w4 ⟨rfl, o4⟩; rw [show maxV 2 = 2 from rfl, s1] at o4 ⊢; obtain ⟨q2, q3⟩ := HP.out _ o4.toExt)
      | (go_at_call 18; refine (look_own o4 A hb0.1 hb0.2).mono ?_; rintro e w5 ⟨rfl, rfl⟩; rw [hlast]; simp only [numO])
      | (go_at_call 10; refine (new_own _ _).mono ?_; rintro e w6 ⟨rfl, o6⟩; rw [hm1] at o6; have o46 := o4.ext o6.toExt; obtain ⟨q4, q5⟩ := HP.out _ o46.toExt)
      | (go_at_call 13; refine (blocks_own o46).mono ?_; rintro e w7 ⟨rfl, rfl⟩; rw [hown])
      | (go_at_call 20; refine (set_own o6 (by simp) c M 7 n0 n1).mono ?_; rintro e w8 ⟨rfl, o8⟩; rw [hset] at o8 ⊢)
      | (go_at_call 16; refine (kK _).mono ?_; rintro e w9 ⟨rfl, hx9⟩))
    go_ret
    exact ⟨by simp, ((((hx1.alloc _).trans o4.toExt).trans o8.toExt).trans hx9)⟩
  · have hl : lvN M = 1 := by unfold lvN; rw [if_neg (by omega), if_pos h.2]
    rw [hl] at hown
    have i16 : 16 < (M : Int) := by omega
    have hset := HS1.out 0 (by rw [hl]; decide)
    have hm1 : maxV (0) = 0 := by decide
    have i24 : (M : Int) ≤ 24 := by omega
    clear HS0 HS1 hlv hl h
    go_enter Try.func9, Try.ntmps9
    go_wp2_with (first
      | (go_at_call 24; refine (kN _).mono ?_; rintro e w1 ⟨rfl, hx1⟩)
      | (go_at_call 10; clear tokN; refine (new_own 2 _).mono ?_; rintro e w3 ⟨rfl, o3⟩; rw [size_box c M w1] at o3 ⊢; have HP := boxC c M w1; obtain ⟨q0, q1⟩ := HP.out _ o3.toExt)
      | (go_at_call 20; clear tok1; refine (set_own o3 (by simp) c M 7 n0 n1).mono ?_; rintro e w4 ⟨rfl, o4⟩; rw [show maxV 2 = 2 from rfl, s1] at o4 ⊢; obtain ⟨q2, q3⟩ := HP.out _ o4.toExt)
      | (go_at_call 18; refine (look_own o4 A hb0.1 hb0.2).mono ?_; rintro e w5 ⟨rfl, rfl⟩; rw [hlast]; simp only [numO])
      | (go_at_call 10; refine (new_own _ _).mono ?_; rintro e w6 ⟨rfl, o6⟩; rw [hm1] at o6; have o46 := o4.ext o6.toExt; obtain ⟨q4, q5⟩ := HP.out _ o46.toExt)
      | (go_at_call 13; refine (blocks_own o46).mono ?_; rintro e w7 ⟨rfl, rfl⟩; rw [hown])
      | (go_at_call 20; refine (set_own o6 (by simp) c M 7 n0 n1).mono ?_; rintro e w8 ⟨rfl, o8⟩; rw [hset] at o8 ⊢)
      | (go_at_call 16; refine (kK _).mono ?_; rintro e w9 ⟨rfl, hx9⟩))
    go_ret
    exact ⟨by simp, ((((hx1.alloc _).trans o4.toExt).trans o8.toExt).trans hx9)⟩
  · have hl : lvN M = 2 := by unfold lvN; rw [if_neg (by omega), if_neg (by omega)]
    rw [hl] at hown
    have i16 : 16 < (M : Int) := by omega
    have hset := HS1.out 1 (by rw [hl]; decide)
    have hm1 : maxV (1) = 1 := by decide
    have i24 : 24 < (M : Int) := by omega
    clear HS0 HS1 hlv hl h
    go_enter Try.func9, Try.ntmps9
    go_wp2_with (first
      | (go_at_call 24; refine (kN _).mono ?_; rintro e w1 ⟨rfl, hx1⟩)
      | (go_at_call 10; clear tokN; refine (new_own 2 _).mono ?_; rintro e w3 ⟨rfl, o3⟩; rw [size_box c M w1] at o3 ⊢; have HP := boxC c M w1; obtain ⟨q0, q1⟩ := HP.out _ o3.toExt)
      | (go_at_call 20; clear tok1; refine (set_own o3 (by simp) c M 7 n0 n1).mono ?_; rintro e w4 ⟨rfl, o4⟩; rw [show maxV 2 = 2 from rfl, s1] at o4 ⊢; obtain ⟨q2, q3⟩ := HP.out _ o4.toExt)
      | (go_at_call 18; refine (look_own o4 A hb0.1 hb0.2).mono ?_; rintro e w5 ⟨rfl, rfl⟩; rw [hlast]; simp only [numO])
      | (go_at_call 10; refine (new_own _ _).mono ?_; rintro e w6 ⟨rfl, o6⟩; rw [hm1] at o6; have o46 := o4.ext o6.toExt; obtain ⟨q4, q5⟩ := HP.out _ o46.toExt)
      | (go_at_call 13; refine (blocks_own o46).mono ?_; rintro e w7 ⟨rfl, rfl⟩; rw [hown])
      | (go_at_call 20; refine (set_own o6 (by simp) c M 7 n0 n1).mono ?_; rintro e w8 ⟨rfl, o8⟩; rw [hset] at o8 ⊢)
      | (go_at_call 16; refine (kK _).mono ?_; rintro e w9 ⟨rfl, hx9⟩))
    go_ret
    exact ⟨by simp, ((((hx1.alloc _).trans o4.toExt).trans o8.toExt).trans hx9)⟩

theorem contract (H : Type) (enc : TypeId × Value → H) (W : World) (base : Nat) (args : Array Value) (ds gs : List (DataW H)) (before : List MemPlace)
    (hval : ∀ (j : Nat) t v, Try.f9.params[j]? = some t → args[j]? = some v → Value.okWide Try.prog W .any base t v)
    (hW : DataW.Whole enc Try.prog Try.f9.params.toList Rows.dirOwnedSpec.vars false W args.toList ds gs before) (hsh : W.ShapedOpen Try.prog) :
    Calls Try.prog 9 args W fun e W' => ∃ v, e = .returned v ∧ Rows.dirOwnedSpec.post enc Try.prog Try.f9 false true false false W args v W' := by
  have hW' := hW
  obtain ⟨p, q, hA0, hV, rfl, hfz, hnd⟩ := hW
  have hA : DataW.TrodAll enc Try.prog W 0 (fun _ => true) true Try.f9.params.toList args.toList ds p := hA0
  rw [Try.params9] at hA hval
  obtain ⟨v0, vs0, d0, ds0, p0, q0, hargs, rfl, rfl, h0, r0⟩ := trodAll_cons hA
  obtain ⟨v1, vs1, d1, ds1, p1, q1, rfl, rfl, rfl, h1, r1⟩ := trodAll_cons r0
  obtain ⟨rfl, rfl, rfl⟩ := trodAll_nil r1
  obtain rfl : args = #[v0, v1] := by cases args; simp_all
  obtain ⟨rfl, rfl⟩ := trodVars_none hV
  obtain ⟨a0, rfl, rfl, rfl, w0⟩ := open_int Try.underlying28 (hval 0 28 v0 rfl rfl) h0
  obtain ⟨a1, rfl, rfl, rfl, w1⟩ := open_int Try.underlying3 (hval 1 3 v1 rfl rfl) h1
  clear hA0
  refine (walk a0 a1 W w0 w1 hsh).mono fun e W' ⟨he, bel⟩ => ?_
  subst he
  exact ⟨_, rfl, _, _, _, [], _, [], hW', trodAll_mk1 (shut_bool Try.underlying4 _), (trodAll_cons_mk (shut_int Try.underlying28 w0) (trodAll_cons_mk (shut_int Try.underlying3 w1) trodAll_mk0)), rfl, bel.frame _, fun h => by cases h⟩

theorem laid_met (os : Os) : laidMet Try.prog Rows.dirOwnedRow.laid ((World.doorLaid Try.prog 24 os).forCall (fun _ _ => 0) ⟨#[], #[.int .u32 0, .int .i64 0], []⟩).memory :=
  laidMet_of_run' 8 (by kernel_rfl) (by kernel_rfl)
theorem reads (os : Os) {H : Type} (enc : TypeId × Value → H) : ∃ places, DataW.whole enc Try.prog ((World.doorLaid Try.prog 24 os).forCall (fun _ _ => 0) ⟨#[], #[.int .u32 0, .int .i64 0], []⟩).memory Try.f9.params.toList Rows.dirOwnedSpec.vars false (#[.int .u32 0, .int .i64 0] : Array Value).toList 8 = some ([.lit (.int .u32 0), .lit (.int .i64 0)], [], places) :=
  ⟨[], by kernel_rfl⟩

set_option maxRecDepth 100000 in
theorem lifted (os : Os) (started : os.Started) (H : Type) (enc : TypeId × Value → H) (F : Stop.Interp) :
    ReturnsInHanded {} Try.checked os 9 .any ((OpenSpec.ofChange Rows.dirOwnedSpec).preRow enc Try.prog Try.f9 Rows.dirOwnedRow.domain false Rows.dirOwnedRow.laid) (((OpenSpec.ofChange Rows.dirOwnedSpec).at F).post enc Try.prog Try.f9 false true false false) := by
  obtain ⟨places, hx⟩ := reads os enc
  refine returnsInHanded_of_row (C := Try.checked) (s := (OpenSpec.ofChange Rows.dirOwnedSpec)) own started (by kernel_rfl) Try.func9
    (witness_row_at (enc := enc) (C := Try.checked) false (World.doorLaid Try.prog 24 os) #[.int .u32 0, .int .i64 0] rfl (by kernel_rfl) (by kernel_rfl) (by kernel_rfl)
      (OpenSpec.preRow_of_cond 8 hx (by kernel_rfl) (fun k hk => by cases hk) (by kernel_rfl) (laid_met os))) ?_
  intro W base args ds gs before hval hW _ hcond _ hL hsh _
  exact contract H enc W base args ds gs before hval hW hsh

theorem said : Rows.DirOwnedSaid :=
  OpenClaim.holds_of_cond 9 Try.f9 rfl rfl rfl rfl rfl rfl rfl ⟨rfl, rfl, rfl, rfl, rfl⟩ rfl rfl rfl rfl rfl (by kernel_rfl) Try.func9 (by kernel_rfl)
    (of_decide_eq_true (by kernel_rfl)) (by unfold Func.isWrapper; first | (rw [if_pos (by decide +kernel)]; kernel_rfl) | (rw [if_neg (by decide +kernel)]; exact ⟨rfl, rfl⟩))
    (fun os started H enc _ F => by rw [OpenClaim.pre_eq_preRow]; exact lifted os started H enc F)

end Go.Proofs.Ytlnmdlachfnmkaa.dirOwned

namespace Go.Proofs.Ytlnmdlachfnmkaa
theorem dirOwned_holds : Rows.DirOwnedSaid := dirOwned.said
#print axioms dirOwned_holds
end Go.Proofs.Ytlnmdlachfnmkaa
