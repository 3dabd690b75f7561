/- For every number of interfaces and every script, the law FibPlays returns true: each answer, all ways, what is up, and how many blocks each table owns, as the document says; no condition. -/
import Derived.Test.YtmoimkeeldlpkaaGreatRows
import Derived.Test.YtmoimkeeldlpkaaGreatJ1
import Derived.Test.YtmoimkeeldlpkaaGreatJ2
import Derived.Test.YtmoimkeeldlpkaaGreatJ3
import Derived.Test.YtmoimkeeldlpkaaGreatJ4
import Derived.Test.YtmoimkeeldlpkaaGreatJ5
import Derived.Test.YtmoimkeeldlpkaaGreatJ6
import Derived.Test.YtmoimkeeldlpkaaGreatJ7
import Derived.Test.YtmoimkeeldlpkaaGreatJ8
import Derived.Test.YtmoimkeeldlpkaaGreatJ9
import Derived.Test.YtmoimkeeldlpkaaGreatJ10
import Derived.Test.YtmoimkeeldlpkaaGreatJ11
import Derived.Test.YtmoimkeeldlpkaaGreatJ12
import Derived.Test.YtmoimkeeldlpkaaGreatJ13
import Derived.Test.YtmoimkeeldlpkaaGreatJ14
import Derived.Test.YtmoimkeeldlpkaaGreatJ15
import Derived.Test.YtmoimkeeldlpkaaGreatJ16
import Derived.Test.YtmoimkeeldlpkaaGreatJ17
import Derived.Test.YtmoimkeeldlpkaaGreatJ18
import Derived.Test.YtmoimkeeldlpkaaGreatJ19
import Derived.Test.YtmoimkeeldlpkaaGreatJ20
import Derived.Test.YtmoimkeeldlpkaaGreatJ21
import Derived.Test.YtmoimkeeldlpkaaGreatJ22
import Derived.Test.YtmoimkeeldlpkaaGreatJ23
import Derived.Test.YtmoimkeeldlpkaaGreatJ24
import Derived.Test.YtmoimkeeldlpkaaGreatJ25
import Derived.Test.YtmoimkeeldlpkaaGreatJ26
import Derived.WalkKit
import Derived.ProofKit
import Derived.OpenShut
import Derived.ShutString
import Derived.ChangeOld
import Derived.Deep.DeepHandedRow
import Derived.Lib.LaidTab
import Derived.Lib.SmallJoins
import Derived.LaidMore
import Derived.Stop.LaidErr
import Derived.ChangeMaps5
namespace Go.Proofs.YtmoimkeeldlpkaaGreat.fibPlays
open Go.ChangeShapes Go.WideShapes Go.ChangeAt Go.RowKit Go.ChangeMaps
set_option linter.unusedVariables false
set_option maxRecDepth 100000

theorem own : ownKnob Tryz.prog.godebug = none := by kernel_rfl
theorem laidOut : laidOutB Tryz.prog = true := by kernel_rfl

abbrev Elem35 := Int × Int × Int × Int × Int × Int × Int × Int × Bool
def cells35 (z : Elem35) : List Value := [.int .i64 (z.1), .int .i64 (z.2.1), .int .u32 (z.2.2.1), .int .i64 (z.2.2.2.1), .int .i64 (z.2.2.2.2.1), .int .u32 (z.2.2.2.2.2.1), .int .i64 (z.2.2.2.2.2.2.1), .int .i64 (z.2.2.2.2.2.2.2.1), .bool (z.2.2.2.2.2.2.2.2)]
def ok35 (z : Elem35) : Prop := (Lit.int .i64 (z.1)).wf = true ∧ (Lit.int .i64 (z.2.1)).wf = true ∧ (Lit.int .u32 (z.2.2.1)).wf = true ∧ (Lit.int .i64 (z.2.2.2.1)).wf = true ∧ (Lit.int .i64 (z.2.2.2.2.1)).wf = true ∧ (Lit.int .u32 (z.2.2.2.2.2.1)).wf = true ∧ (Lit.int .i64 (z.2.2.2.2.2.2.1)).wf = true ∧ (Lit.int .i64 (z.2.2.2.2.2.2.2.1)).wf = true
theorem cells35_length (z : Elem35) : (cells35 z).length = 9 := rfl
theorem elem35 {H : Type} {enc : TypeId × Value → H} {w : World} {base : Nat} {spare : Nat → Bool} {held : Bool} (n : Nat) (cs : List Value) (y : DataW H × List MemPlace)
    (h : DataW.trod enc Tryz.prog w base spare held n 35 cs = some y) : ∃ z : Elem35, cs = cells35 z ∧ ok35 z := by
  have hl : cs.length = 9 := by
    obtain ⟨_, _, _, _, hl, _⟩ := DataW.trod_struct Tryz.underlying35 h
    exact hl.trans (by kernel_rfl)
  obtain ⟨u0, u1, u2, u3, u4, u5, u6, u7, u8, rfl⟩ : ∃ u0 u1 u2 u3 u4 u5 u6 u7 u8, cs = [u0, u1, u2, u3, u4, u5, u6, u7, u8] := by
    match cs, hl with
    | [u0, u1, u2, u3, u4, u5, u6, u7, u8], _ => exact ⟨u0, u1, u2, u3, u4, u5, u6, u7, u8, rfl⟩
  obtain ⟨_, _, e1⟩ := field_at Tryz.underlying35 h 0 rfl 1 (by kernel_rfl)
  obtain ⟨az0, c2, _, wz0⟩ := DataW.trod_int Tryz.underlying3 e1
  obtain rfl : u0 = .int .i64 az0 := by simpa using c2
  obtain ⟨_, _, e3⟩ := field_at Tryz.underlying35 h 1 rfl 6 (by kernel_rfl)
  obtain ⟨_, _, e4⟩ := field_at Tryz.underlying33 e3 0 rfl 1 (by kernel_rfl)
  obtain ⟨az10, c5, _, wz10⟩ := DataW.trod_int Tryz.underlying3 e4
  obtain rfl : u1 = .int .i64 az10 := by simpa using c5
  obtain ⟨_, _, e6⟩ := field_at Tryz.underlying33 e3 1 rfl 2 (by kernel_rfl)
  obtain ⟨_, _, e7⟩ := field_at Tryz.underlying31 e6 0 rfl 1 (by kernel_rfl)
  obtain ⟨az110, c8, _, wz110⟩ := DataW.trod_int Tryz.underlying29 e7
  obtain rfl : u2 = .int .u32 az110 := by simpa using c8
  obtain ⟨_, _, e9⟩ := field_at Tryz.underlying31 e6 1 rfl 1 (by kernel_rfl)
  obtain ⟨az111, c10, _, wz111⟩ := DataW.trod_int Tryz.underlying3 e9
  obtain rfl : u3 = .int .i64 az111 := by simpa using c10
  obtain ⟨_, _, e11⟩ := field_at Tryz.underlying33 e3 2 rfl 1 (by kernel_rfl)
  obtain ⟨az12, c12, _, wz12⟩ := DataW.trod_int Tryz.underlying3 e11
  obtain rfl : u4 = .int .i64 az12 := by simpa using c12
  obtain ⟨_, _, e13⟩ := field_at Tryz.underlying33 e3 3 rfl 1 (by kernel_rfl)
  obtain ⟨az13, c14, _, wz13⟩ := DataW.trod_int Tryz.underlying29 e13
  obtain rfl : u5 = .int .u32 az13 := by simpa using c14
  obtain ⟨_, _, e15⟩ := field_at Tryz.underlying33 e3 4 rfl 1 (by kernel_rfl)
  obtain ⟨az14, c16, _, wz14⟩ := DataW.trod_int Tryz.underlying3 e15
  obtain rfl : u6 = .int .i64 az14 := by simpa using c16
  obtain ⟨_, _, e17⟩ := field_at Tryz.underlying35 h 2 rfl 1 (by kernel_rfl)
  obtain ⟨az2, c18, _, wz2⟩ := DataW.trod_int Tryz.underlying3 e17
  obtain rfl : u7 = .int .i64 az2 := by simpa using c18
  obtain ⟨_, _, e19⟩ := field_at Tryz.underlying35 h 3 rfl 1 (by kernel_rfl)
  obtain ⟨az3, c20, _⟩ := DataW.trod_bool Tryz.underlying4 e19
  obtain rfl : u8 = .bool az3 := by simpa using c20
  exact ⟨(az0, az10, az110, az111, az12, az13, az14, az2, az3), rfl, ⟨wz0, wz10, wz110, wz111, wz12, wz13, wz14, wz2⟩⟩

open Go.Proofs.YtmoimkeeldlpkaaGreat.Tri Go.Proofs.YtmoimkeeldlpkaaGreat.Rb Go.Proofs.YtmoimkeeldlpkaaGreat.Fb

set_option maxHeartbeats 40000000 in
theorem walk (a0 : Int) (a1 : Option Addr) (len1 cap1 : Nat) (zs1 : List Elem35) (w : World) (w0 : (Lit.int .i64 a0).wf = true) (row1 : IsRowG 9 cells35 ok35 w a1 len1 cap1 zs1) (hsh : w.ShapedOpen Tryz.prog) :
    Calls Tryz.prog 3 #[.int .i64 a0, .slice a1 len1 cap1] w fun e w' => e = .returned (.bool true) ∧ Below w.heap.size w w' := by
  have row : IsRowG 9 aC aOk w a1 len1 cap1 zs1 := row1
  have kn := fun w => known_any w
  have hm := row.le
  have hm2 := row.room
  unfold maxLen at hm2
  have HR : Hid (IsRowG 9 aC aOk w a1 len1 cap1 zs1) := row
  clear row row1
  go_enter Tryz.func3, Tryz.ntmps3
  go_wp2_with (first
    | (go_at_call 10; refine (fnew_any a0 _).mono ?_; rintro e w1 ⟨fb, F, rfl, h1, hx1, hF⟩; have H1 : Hid (FibAt w1 fb [] (List.replicate (clampN a0) true) F ∧ Ext w w1 ∧ ∀ x ∈ F, w.heap.size ≤ x) := ⟨h1, hx1, hF⟩; clear h1 hx1 hF)
    | (go_at_call 11; refine (dnew_any a0 _).mono ?_; rintro e w2 ⟨xb, G, rfl, h2, hx2, hG⟩; have HB0 : Hid (BothH w w2 fb xb [] (List.replicate (clampN a0) true) [] (List.replicate (clampN a0) true) (F ++ G)) := both_new H1.out.1 H1.out.2.1 H1.out.2.2 h2 hx2 hG; clear h2 hx2 hG))
  go_loopw [7] (fun i wr => ∃ k : Nat, k ≤ 50 ∧ k ≤ len1 ∧ i = .int .i64 k ∧ Hid (Play w wr fb xb)) (fun i _ => 50 - (intOf i).toNat)
  case atStart => exact ⟨0, Nat.zero_le _, Nat.zero_le _, rfl, (⟨_, _, _, HB0.out⟩ : Play w w2 fb xb)⟩
  case round =>
    clear HB0 H1
    obtain ⟨k, hk, hkl, rfl, HK⟩ := hrel
    obtain ⟨L, U, H, hB⟩ := HK.out
    have HB : Hid (BothH w wr fb xb L U L U H) := hB
    have HE : Hid (Ext w wr) := hB.ext
    clear hB HK
    by_cases hlt : k < len1
    · by_cases h60 : k < 50
      · obtain ⟨b, off, kd, r, i, u, rfl, hrok, hbl, hc⟩ := aCells HR.out hlt
        have hki : (k : Int) < (len1 : Int) := by omega
        have h60i : (k : Int) < 50 := by omega
        obtain ⟨x0, x1, x2, x3, x4, x5, x6, x7, x8⟩ := hc wr (cell_ext hbl HE.out)
        have ka := act_any fb xb kd r i u L U H w wr HB.out hrok
        clear hc
        go_wp2_with (first
          | (go_at_call 12; refine ka.mono ?_; rintro e w3 ⟨rfl, hb3⟩; have HB3 : Hid (BothAns w wr fb xb (actF L U kd r i u).2.1 (actF L U kd r i u).2.2 (actF L U kd r i u).2.1 (actF L U kd r i u).2.2 H w3) := hb3; clear hb3)
          | (go_at_call 13; obtain ⟨H4, hb4, -⟩ := HB3.out; refine (alike_any fb xb _ _ H4 w w3 hb4).mono ?_; rintro e w4 ⟨rfl, hx4⟩; clear hb4; have HX4 : Hid (Ext w3 w4) := hx4; clear hx4))
        go_roundw
        case rel => exact ⟨k + 1, by omega, by omega, by go_num, (HB3.out.later HX4.out).play⟩
        case measure => simp [intOf]; omega
      · obtain rfl : k = 50 := by omega
        have hki : (50 : Int) < (len1 : Int) := by omega
        have HX := HE
        go_wp2_with (go_at_call 14; refine (kn _).mono ?_; rintro e wz ⟨rfl, hxz⟩)
        go_ret
        exact ⟨rfl, (HX.out.trans hxz).below⟩
    · obtain rfl : k = len1 := by omega
      have HX := HE
      go_wp2_with (go_at_call 14; refine (kn _).mono ?_; rintro e wz ⟨rfl, hxz⟩)
      go_ret
      exact ⟨rfl, (HX.out.trans hxz).below⟩

theorem contract (H : Type) (enc : TypeId × Value → H) (W : World) (base : Nat) (args : Array Value) (ds gs : List (DataW H)) (before : List MemPlace)
    (hval : ∀ (j : Nat) t v, Tryz.f3.params[j]? = some t → args[j]? = some v → Value.okWide Tryz.prog W .any base t v)
    (hW : DataW.Whole enc Tryz.prog Tryz.f3.params.toList Rows.fibPlaysSpec.vars false W args.toList ds gs before) (hsh : W.ShapedOpen Tryz.prog) :
    Calls Tryz.prog 3 args W fun e W' => ∃ v, e = .returned v ∧ Rows.fibPlaysSpec.post enc Tryz.prog Tryz.f3 false true false false W args v W' := by
  have hW' := hW
  obtain ⟨p, q, hA0, hV, rfl, hfz, hnd⟩ := hW
  have hA : DataW.TrodAll enc Tryz.prog W 0 (fun _ => true) true Tryz.f3.params.toList args.toList ds p := hA0
  rw [Tryz.params3] at hA hval
  obtain ⟨v0, vs0, d0, ds0, p0, q0, hargs, rfl, rfl, h0, r0⟩ := trodAll_cons hA
  obtain ⟨v1, vs1, d1, ds1, p1, q1, rfl, rfl, rfl, h1, r1⟩ := trodAll_cons r0
  obtain ⟨rfl, rfl, rfl⟩ := trodAll_nil r1
  obtain rfl : args = #[v0, v1] := by cases args; simp_all
  obtain ⟨rfl, rfl⟩ := trodVars_none hV
  obtain ⟨a0, rfl, rfl, rfl, w0⟩ := open_int Tryz.underlying3 (hval 0 3 v0 rfl rfl) h0
  have k1 := h1
  have lt1 : ∀ x ∈ p1, x.block < W.heap.size := by obtain ⟨m, hm⟩ := k1; exact DataW.trod_lt m _ _ _ hm
  obtain ⟨b1, l1, c1, rfl⟩ := okWide_slice Tryz.underlying22 (hval 1 22 v1 rfl rfl)
  obtain ⟨fu1, hf1⟩ := h1
  obtain ⟨a1, len1, cap1, zs1, ce1, row1⟩ := open_rowG 9 cells35 ok35 (by omega) cells35_length Tryz.underlying22 (by kernel_rfl) elem35 hf1
  obtain ⟨rfl, rfl, rfl⟩ : a1 = b1 ∧ len1 = l1 ∧ cap1 = c1 := by simpa [Value.cells, eq_comm] using ce1
  clear hA0
  refine (walk a0 a1 len1 cap1 zs1 W w0 row1 hsh).mono fun e W' ⟨he, bel⟩ => ?_
  subst he
  exact ⟨_, rfl, _, _, _, [], _, [], hW', trodAll_mk1 (shut_bool Tryz.underlying4 _), (trodAll_cons_mk (shut_int Tryz.underlying3 w0) (trodAll_cons_mk (Below.trod laidOut (by kernel_rfl) (of_decide_eq_true (by kernel_rfl)) k1 bel lt1) trodAll_mk0)), rfl, bel.frame _, fun h => by cases h⟩

theorem laid_met (os : Os) : laidMet Tryz.prog Rows.fibPlaysRow.laid ((World.doorLaid Tryz.prog 24 os).forCall (fun _ _ => 0) ⟨#[], #[.int .i64 0, .slice none 0 0], []⟩).memory :=
  laidMet_of_run' 8 (by kernel_rfl) (by kernel_rfl)
theorem reads (os : Os) {H : Type} (enc : TypeId × Value → H) : ∃ places, DataW.whole enc Tryz.prog ((World.doorLaid Tryz.prog 24 os).forCall (fun _ _ => 0) ⟨#[], #[.int .i64 0, .slice none 0 0], []⟩).memory Tryz.f3.params.toList Rows.fibPlaysSpec.vars false (#[.int .i64 0, .slice none 0 0] : Array Value).toList 8 = some ([.lit (.int .i64 0), .nil], [], places) :=
  ⟨[], by kernel_rfl⟩

set_option maxRecDepth 100000 in
theorem lifted (os : Os) (started : os.Started) (H : Type) (enc : TypeId × Value → H) (F : Stop.Interp) :
    ReturnsInHanded {} Tryz.checked os 3 .any ((OpenSpec.ofChange Rows.fibPlaysSpec).preRow enc Tryz.prog Tryz.f3 Rows.fibPlaysRow.domain false Rows.fibPlaysRow.laid) (((OpenSpec.ofChange Rows.fibPlaysSpec).at F).post enc Tryz.prog Tryz.f3 false true false false) := by
  obtain ⟨places, hx⟩ := reads os enc
  refine returnsInHanded_of_row (C := Tryz.checked) (s := (OpenSpec.ofChange Rows.fibPlaysSpec)) own started (by kernel_rfl) Tryz.func3
    (witness_row_at (enc := enc) (C := Tryz.checked) false (World.doorLaid Tryz.prog 24 os) #[.int .i64 0, .slice none 0 0] rfl (by kernel_rfl) (by kernel_rfl) (by kernel_rfl)
      (OpenSpec.preRow_of_cond 8 hx (by kernel_rfl) (fun k hk => by cases hk) (by kernel_rfl) (laid_met os))) ?_
  intro W base args ds gs before hval hW _ hcond _ hL hsh _
  exact contract H enc W base args ds gs before hval hW hsh

theorem said : Rows.FibPlaysSaid :=
  OpenClaim.holds_of_cond 3 Tryz.f3 rfl rfl rfl rfl rfl rfl rfl ⟨rfl, rfl, rfl, rfl, rfl⟩ rfl rfl rfl rfl rfl (by kernel_rfl) Tryz.func3 (by kernel_rfl)
    (of_decide_eq_true (by kernel_rfl)) (by unfold Func.isWrapper; first | (rw [if_pos (by decide +kernel)]; kernel_rfl) | (rw [if_neg (by decide +kernel)]; exact ⟨rfl, rfl⟩))
    (fun os started H enc _ F => by rw [OpenClaim.pre_eq_preRow]; exact lifted os started H enc F)

end Go.Proofs.YtmoimkeeldlpkaaGreat.fibPlays

namespace Go.Proofs.YtmoimkeeldlpkaaGreat
theorem fibPlays_holds : Rows.FibPlaysSaid := fibPlays.said
#print axioms fibPlays_holds
end Go.Proofs.YtmoimkeeldlpkaaGreat
