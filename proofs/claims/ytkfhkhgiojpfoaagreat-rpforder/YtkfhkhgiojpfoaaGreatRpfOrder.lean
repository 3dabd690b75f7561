/- For every number of interfaces, every row of ways, every interface that is set down, every interface and source asked, the law RpfOrder returns true: what is strictly right is feasible, what is feasible or loose is looser, and without a mode all may come; no condition. -/
import Derived.Test.YtkfhkhgiojpfoaaGreatRows
import Derived.Test.YtkfhkhgiojpfoaaGreatJ1
import Derived.Test.YtkfhkhgiojpfoaaGreatJ2
import Derived.Test.YtkfhkhgiojpfoaaGreatJ3
import Derived.Test.YtkfhkhgiojpfoaaGreatJ4
import Derived.Test.YtkfhkhgiojpfoaaGreatJ5
import Derived.Test.YtkfhkhgiojpfoaaGreatJ6
import Derived.Test.YtkfhkhgiojpfoaaGreatJ7
import Derived.Test.YtkfhkhgiojpfoaaGreatJ8
import Derived.Test.YtkfhkhgiojpfoaaGreatJ9
import Derived.Test.YtkfhkhgiojpfoaaGreatJ10
import Derived.Test.YtkfhkhgiojpfoaaGreatJ11
import Derived.Test.YtkfhkhgiojpfoaaGreatJ12
import Derived.Test.YtkfhkhgiojpfoaaGreatJ13
import Derived.Test.YtkfhkhgiojpfoaaGreatJ14
import Derived.Test.YtkfhkhgiojpfoaaGreatJ15
import Derived.Test.YtkfhkhgiojpfoaaGreatJ16
import Derived.Test.YtkfhkhgiojpfoaaGreatJ17
import Derived.Test.YtkfhkhgiojpfoaaGreatJ18
import Derived.Test.YtkfhkhgiojpfoaaGreatJ19
import Derived.Test.YtkfhkhgiojpfoaaGreatJ20
import Derived.Test.YtkfhkhgiojpfoaaGreatJ21
import Derived.Test.YtkfhkhgiojpfoaaGreatJ22
import Derived.Test.YtkfhkhgiojpfoaaGreatJ23
import Derived.Test.YtkfhkhgiojpfoaaGreatJ24
import Derived.Test.YtkfhkhgiojpfoaaGreatJ25
import Derived.Test.YtkfhkhgiojpfoaaGreatJ26
import Derived.Test.YtkfhkhgiojpfoaaGreatJ27
import Derived.WalkKit
import Derived.ProofKit
import Derived.OpenShut
import Derived.ShutString
import Derived.ChangeOld
import Derived.Deep.DeepHandedRow
import Derived.Lib.LaidTab
import Derived.Lib.SmallJoins
import Derived.LaidMore
import Derived.Stop.LaidErr
import Derived.ChangeMaps5
namespace Go.Proofs.YtkfhkhgiojpfoaaGreat.rpfOrder
open Go.ChangeShapes Go.WideShapes Go.ChangeAt Go.RowKit Go.ChangeMaps
set_option linter.unusedVariables false
set_option maxRecDepth 100000

theorem own : ownKnob Tryz.prog.godebug = none := by kernel_rfl
theorem laidOut : laidOutB Tryz.prog = true := by kernel_rfl

abbrev Elem48 := Int × Int × Int × Int × Int × Int
def cells48 (z : Elem48) : List Value := [.int .i64 (z.1), .int .u32 (z.2.1), .int .i64 (z.2.2.1), .int .i64 (z.2.2.2.1), .int .u32 (z.2.2.2.2.1), .int .i64 (z.2.2.2.2.2)]
def ok48 (z : Elem48) : Prop := (Lit.int .i64 (z.1)).wf = true ∧ (Lit.int .u32 (z.2.1)).wf = true ∧ (Lit.int .i64 (z.2.2.1)).wf = true ∧ (Lit.int .i64 (z.2.2.2.1)).wf = true ∧ (Lit.int .u32 (z.2.2.2.2.1)).wf = true ∧ (Lit.int .i64 (z.2.2.2.2.2)).wf = true
theorem cells48_length (z : Elem48) : (cells48 z).length = 6 := rfl
theorem elem48 {H : Type} {enc : TypeId × Value → H} {w : World} {base : Nat} {spare : Nat → Bool} {held : Bool} (n : Nat) (cs : List Value) (y : DataW H × List MemPlace)
    (h : DataW.trod enc Tryz.prog w base spare held n 48 cs = some y) : ∃ z : Elem48, cs = cells48 z ∧ ok48 z := by
  have hl : cs.length = 6 := by
    obtain ⟨_, _, _, _, hl, _⟩ := DataW.trod_struct Tryz.underlying48 h
    exact hl.trans (by kernel_rfl)
  obtain ⟨u0, u1, u2, u3, u4, u5, rfl⟩ : ∃ u0 u1 u2 u3 u4 u5, cs = [u0, u1, u2, u3, u4, u5] := by
    match cs, hl with
    | [u0, u1, u2, u3, u4, u5], _ => exact ⟨u0, u1, u2, u3, u4, u5, rfl⟩
  obtain ⟨_, _, e1⟩ := field_at Tryz.underlying48 h 0 rfl 1 (by kernel_rfl)
  obtain ⟨az0, c2, _, wz0⟩ := DataW.trod_int Tryz.underlying3 e1
  obtain rfl : u0 = .int .i64 az0 := by simpa using c2
  obtain ⟨_, _, e3⟩ := field_at Tryz.underlying48 h 1 rfl 2 (by kernel_rfl)
  obtain ⟨_, _, e4⟩ := field_at Tryz.underlying42 e3 0 rfl 1 (by kernel_rfl)
  obtain ⟨az10, c5, _, wz10⟩ := DataW.trod_int Tryz.underlying23 e4
  obtain rfl : u1 = .int .u32 az10 := by simpa using c5
  obtain ⟨_, _, e6⟩ := field_at Tryz.underlying42 e3 1 rfl 1 (by kernel_rfl)
  obtain ⟨az11, c7, _, wz11⟩ := DataW.trod_int Tryz.underlying3 e6
  obtain rfl : u2 = .int .i64 az11 := by simpa using c7
  obtain ⟨_, _, e8⟩ := field_at Tryz.underlying48 h 2 rfl 1 (by kernel_rfl)
  obtain ⟨az2, c9, _, wz2⟩ := DataW.trod_int Tryz.underlying3 e8
  obtain rfl : u3 = .int .i64 az2 := by simpa using c9
  obtain ⟨_, _, e10⟩ := field_at Tryz.underlying48 h 3 rfl 1 (by kernel_rfl)
  obtain ⟨az3, c11, _, wz3⟩ := DataW.trod_int Tryz.underlying23 e10
  obtain rfl : u4 = .int .u32 az3 := by simpa using c11
  obtain ⟨_, _, e12⟩ := field_at Tryz.underlying48 h 4 rfl 1 (by kernel_rfl)
  obtain ⟨az4, c13, _, wz4⟩ := DataW.trod_int Tryz.underlying3 e12
  obtain rfl : u5 = .int .i64 az4 := by simpa using c13
  exact ⟨(az0, az10, az11, az2, az3, az4), rfl, ⟨wz0, wz10, wz11, wz2, wz3, wz4⟩⟩

open Go.Proofs.YtkfhkhgiojpfoaaGreat.Tri Go.Proofs.YtkfhkhgiojpfoaaGreat.Rb Go.Proofs.YtkfhkhgiojpfoaaGreat.Fb Go.Proofs.YtkfhkhgiojpfoaaGreat.Rp

set_option maxHeartbeats 40000000 in
theorem walk (a0 : Int) (a1 : Option Addr) (len1 cap1 : Nat) (zs1 : List Elem48) (a2 : Int) (a3 : Int) (a4 : Int) (w : World) (w0 : (Lit.int .i64 a0).wf = true) (row1 : IsRowG 6 cells48 ok48 w a1 len1 cap1 zs1) (w2 : (Lit.int .i64 a2).wf = true) (w3 : (Lit.int .i64 a3).wf = true) (w4 : (Lit.int .u32 a4).wf = true) (hsh : w.ShapedOpen Tryz.prog) :
    Calls Tryz.prog 4 #[.int .i64 a0, .slice a1 len1 cap1, .int .i64 a2, .int .i64 a3, .int .u32 a4] w fun e w' => e = .returned (.bool true) ∧ Below w.heap.size w w' := by
  have row : IsRowG 6 rtE rtEok w a1 len1 cap1 zs1 := row1
  obtain ⟨hR, hok⟩ := rdR_row row
  have cl := laidTo_any a0 a2 a1 len1 cap1 (zs1.map rtOf) w hR hok
  have kn := fun w => known_any w
  obtain ⟨s0, s1⟩ := bounds_u32 w4
  have HIN : ∀ L n, Hid (InB (layL (List.replicate n true) [] L) (setF (layL (List.replicate n true) [] L) (List.replicate n true) a2 false).2) := fun L n => (InB.lay L (InB.nil _)).set _ _
  have HI := HIN ((zs1.map rtOf).take 40) (clampN a0)
  generalize layL (List.replicate (clampN a0) true) [] ((zs1.map rtOf).take 40) = L at *
  generalize (setF L (List.replicate (clampN a0) true) a2 false).2 = U at *
  clear row row1 hR hok HIN
  have tok1 : Hid True := trivial
  have tok2 : Hid True := trivial
  have tok3 : Hid True := trivial
  have tok4 : Hid True := trivial
  go_enter Tryz.func4, Tryz.ntmps4
  go_wp2_with (go_at_call 9; refine cl.mono ?_; rintro e w1 ⟨fb, xb, rfl, hT⟩; have HT : Hid (Mates w w1 fb xb L U) := hT; clear hT)
  have o1 := check_order HT.out.good.1 U a3 a4 s0 s1
  have ck := fun (m : Int) w' (hx : Ext w1 w') => (HT.out.later hx).check HI.out m a3 a4 s0 s1
  have c1 := fun w' hx => ck 1 w' hx
  have c4 := fun w' hx => ck 4 w' hx
  have c2 := fun w' hx => ck 2 w' hx
  have c3 := fun w' hx => ck 3 w' hx
  have c0 := fun w' hx => ck 0 w' hx
  have h0 : checkV L U 0 a3 a4 = true := rfl
  rw [h0] at c0
  generalize checkV L U 1 a3 a4 = b1 at *
  generalize checkV L U 4 a3 a4 = b4 at *
  generalize checkV L U 2 a3 a4 = b2 at *
  generalize checkV L U 3 a3 a4 = b3 at *
  have HO : Hid ((b1 = true → b4 = true) ∧ (b4 = true → b3 = true) ∧ (b2 = true → b3 = true)) := o1
  clear ck h0 cl o1
  go_wp2_with (first
    | (go_at_call 10; clear tok1; refine (c1 _ (Ext.refl _)).mono ?_; rintro e w2 ⟨rfl, hx2⟩)
    | (go_at_call 10; clear tok2; refine (c4 _ hx2).mono ?_; rintro e w3 ⟨rfl, hx3⟩)
    | (go_at_call 10; clear tok3; refine (c2 _ (hx2.trans hx3)).mono ?_; rintro e w4 ⟨rfl, hx4⟩)
    | (go_at_call 10; clear tok4; refine (c3 _ (hx2.trans (hx3.trans hx4))).mono ?_; rintro e w5 ⟨rfl, hx5⟩)
    | (go_at_call 10; refine (c0 _ (hx2.trans (hx3.trans (hx4.trans hx5)))).mono ?_; rintro e w6 ⟨rfl, hx6⟩)
    | (go_at_call 12; refine (kn _).mono ?_; rintro e w7 ⟨rfl, hx7⟩))
  all_goals first
    | (exfalso; have h := HO.out; clear HO; simp [*] at h; done)
    | (go_ret; exact ⟨rfl, (HT.out.ext.trans (hx2.trans (hx3.trans (hx4.trans (hx5.trans (hx6.trans hx7)))))).below⟩)

theorem contract (H : Type) (enc : TypeId × Value → H) (W : World) (base : Nat) (args : Array Value) (ds gs : List (DataW H)) (before : List MemPlace)
    (hval : ∀ (j : Nat) t v, Tryz.f4.params[j]? = some t → args[j]? = some v → Value.okWide Tryz.prog W .any base t v)
    (hW : DataW.Whole enc Tryz.prog Tryz.f4.params.toList Rows.rpfOrderSpec.vars false W args.toList ds gs before) (hsh : W.ShapedOpen Tryz.prog) :
    Calls Tryz.prog 4 args W fun e W' => ∃ v, e = .returned v ∧ Rows.rpfOrderSpec.post enc Tryz.prog Tryz.f4 false true false false W args v W' := by
  have hW' := hW
  obtain ⟨p, q, hA0, hV, rfl, hfz, hnd⟩ := hW
  have hA : DataW.TrodAll enc Tryz.prog W 0 (fun _ => true) true Tryz.f4.params.toList args.toList ds p := hA0
  rw [Tryz.params4] at hA hval
  obtain ⟨v0, vs0, d0, ds0, p0, q0, hargs, rfl, rfl, h0, r0⟩ := trodAll_cons hA
  obtain ⟨v1, vs1, d1, ds1, p1, q1, rfl, rfl, rfl, h1, r1⟩ := trodAll_cons r0
  obtain ⟨v2, vs2, d2, ds2, p2, q2, rfl, rfl, rfl, h2, r2⟩ := trodAll_cons r1
  obtain ⟨v3, vs3, d3, ds3, p3, q3, rfl, rfl, rfl, h3, r3⟩ := trodAll_cons r2
  obtain ⟨v4, vs4, d4, ds4, p4, q4, rfl, rfl, rfl, h4, r4⟩ := trodAll_cons r3
  obtain ⟨rfl, rfl, rfl⟩ := trodAll_nil r4
  obtain rfl : args = #[v0, v1, v2, v3, v4] := by cases args; simp_all
  obtain ⟨rfl, rfl⟩ := trodVars_none hV
  obtain ⟨a0, rfl, rfl, rfl, w0⟩ := open_int Tryz.underlying3 (hval 0 3 v0 rfl rfl) h0
  have k1 := h1
  have lt1 : ∀ x ∈ p1, x.block < W.heap.size := by obtain ⟨m, hm⟩ := k1; exact DataW.trod_lt m _ _ _ hm
  obtain ⟨b1, l1, c1, rfl⟩ := okWide_slice Tryz.underlying22 (hval 1 22 v1 rfl rfl)
  obtain ⟨fu1, hf1⟩ := h1
  obtain ⟨a1, len1, cap1, zs1, ce1, row1⟩ := open_rowG 6 cells48 ok48 (by omega) cells48_length Tryz.underlying22 (by kernel_rfl) elem48 hf1
  obtain ⟨rfl, rfl, rfl⟩ : a1 = b1 ∧ len1 = l1 ∧ cap1 = c1 := by simpa [Value.cells, eq_comm] using ce1
  obtain ⟨a2, rfl, rfl, rfl, w2⟩ := open_int Tryz.underlying3 (hval 2 3 v2 rfl rfl) h2
  obtain ⟨a3, rfl, rfl, rfl, w3⟩ := open_int Tryz.underlying3 (hval 3 3 v3 rfl rfl) h3
  obtain ⟨a4, rfl, rfl, rfl, w4⟩ := open_int Tryz.underlying23 (hval 4 23 v4 rfl rfl) h4
  clear hA0
  refine (walk a0 a1 len1 cap1 zs1 a2 a3 a4 W w0 row1 w2 w3 w4 hsh).mono fun e W' ⟨he, bel⟩ => ?_
  subst he
  exact ⟨_, rfl, _, _, _, [], _, [], hW', trodAll_mk1 (shut_bool Tryz.underlying4 _), (trodAll_cons_mk (shut_int Tryz.underlying3 w0) (trodAll_cons_mk (Below.trod laidOut (by kernel_rfl) (of_decide_eq_true (by kernel_rfl)) k1 bel lt1) (trodAll_cons_mk (shut_int Tryz.underlying3 w2) (trodAll_cons_mk (shut_int Tryz.underlying3 w3) (trodAll_cons_mk (shut_int Tryz.underlying23 w4) trodAll_mk0))))), rfl, bel.frame _, fun h => by cases h⟩

theorem laid_met (os : Os) : laidMet Tryz.prog Rows.rpfOrderRow.laid ((World.doorLaid Tryz.prog 24 os).forCall (fun _ _ => 0) ⟨#[], #[.int .i64 0, .slice none 0 0, .int .i64 0, .int .i64 0, .int .u32 0], []⟩).memory :=
  laidMet_of_run' 8 (by kernel_rfl) (by kernel_rfl)
theorem reads (os : Os) {H : Type} (enc : TypeId × Value → H) : ∃ places, DataW.whole enc Tryz.prog ((World.doorLaid Tryz.prog 24 os).forCall (fun _ _ => 0) ⟨#[], #[.int .i64 0, .slice none 0 0, .int .i64 0, .int .i64 0, .int .u32 0], []⟩).memory Tryz.f4.params.toList Rows.rpfOrderSpec.vars false (#[.int .i64 0, .slice none 0 0, .int .i64 0, .int .i64 0, .int .u32 0] : Array Value).toList 8 = some ([.lit (.int .i64 0), .nil, .lit (.int .i64 0), .lit (.int .i64 0), .lit (.int .u32 0)], [], places) :=
  ⟨[], by kernel_rfl⟩

set_option maxRecDepth 100000 in
theorem lifted (os : Os) (started : os.Started) (H : Type) (enc : TypeId × Value → H) (F : Stop.Interp) :
    ReturnsInHanded {} Tryz.checked os 4 .any ((OpenSpec.ofChange Rows.rpfOrderSpec).preRow enc Tryz.prog Tryz.f4 Rows.rpfOrderRow.domain false Rows.rpfOrderRow.laid) (((OpenSpec.ofChange Rows.rpfOrderSpec).at F).post enc Tryz.prog Tryz.f4 false true false false) := by
  obtain ⟨places, hx⟩ := reads os enc
  refine returnsInHanded_of_row (C := Tryz.checked) (s := (OpenSpec.ofChange Rows.rpfOrderSpec)) own started (by kernel_rfl) Tryz.func4
    (witness_row_at (enc := enc) (C := Tryz.checked) false (World.doorLaid Tryz.prog 24 os) #[.int .i64 0, .slice none 0 0, .int .i64 0, .int .i64 0, .int .u32 0] rfl (by kernel_rfl) (by kernel_rfl) (by kernel_rfl)
      (OpenSpec.preRow_of_cond 8 hx (by kernel_rfl) (fun k hk => by cases hk) (by kernel_rfl) (laid_met os))) ?_
  intro W base args ds gs before hval hW _ hcond _ hL hsh _
  exact contract H enc W base args ds gs before hval hW hsh

theorem said : Rows.RpfOrderSaid :=
  OpenClaim.holds_of_cond 4 Tryz.f4 rfl rfl rfl rfl rfl rfl rfl ⟨rfl, rfl, rfl, rfl, rfl⟩ rfl rfl rfl rfl rfl (by kernel_rfl) Tryz.func4 (by kernel_rfl)
    (of_decide_eq_true (by kernel_rfl)) (by unfold Func.isWrapper; first | (rw [if_pos (by decide +kernel)]; kernel_rfl) | (rw [if_neg (by decide +kernel)]; exact ⟨rfl, rfl⟩))
    (fun os started H enc _ F => by rw [OpenClaim.pre_eq_preRow]; exact lifted os started H enc F)

end Go.Proofs.YtkfhkhgiojpfoaaGreat.rpfOrder

namespace Go.Proofs.YtkfhkhgiojpfoaaGreat
theorem rpfOrder_holds : Rows.RpfOrderSaid := rpfOrder.said
#print axioms rpfOrder_holds
end Go.Proofs.YtkfhkhgiojpfoaaGreat
