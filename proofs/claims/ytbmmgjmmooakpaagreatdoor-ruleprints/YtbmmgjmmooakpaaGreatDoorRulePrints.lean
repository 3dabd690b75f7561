/- For every two rules the law RulePrints returns true: the first one as a text, whether it may be, and whether the two are one, is as the document says; no condition. -/
import Derived.Test.YtbmmgjmmooakpaaGreatDoorCards
import Derived.Test.YtbmmgjmmooakpaaGreatDoorTie
import Derived.Test.YtbmmgjmmooakpaaGreatDoorRuN
import Derived.Test.YtbmmgjmmooakpaaGreatDoorFrame
import Derived.WalkKit
import Derived.ProofKit
import Derived.OpenShut
import Derived.ShutString
import Derived.ChangeOld
import Derived.Deep.DeepHandedRow
import Derived.Lib.LaidTab
import Derived.Lib.SmallJoins
import Derived.LaidMore
import Derived.Lay
import Derived.Stop.LaidErr
import Derived.ChangeMaps5
namespace Go.Proofs.YtbmmgjmmooakpaaGreatDoor.rulePrints
open Go.ChangeShapes Go.WideShapes Go.ChangeAt Go.RowKit Go.ChangeMaps Ru
set_option linter.unusedVariables false
set_option maxRecDepth 100000

theorem own : ownKnob Tryz.prog.godebug = none := by kernel_rfl
theorem laidOut : laidOutB Tryz.prog = true := by kernel_rfl

theorem arr28 {α : Type} {cs : Array α} (h : cs.size = 28) : ∃ c0 c1 c2 c3 c4 c5 c6 c7 c8 c9 c10 c11 c12 c13 c14 c15 c16 c17 c18 c19 c20 c21 c22 c23 c24 c25 c26 c27, cs = #[c0, c1, c2, c3, c4, c5, c6, c7, c8, c9, c10, c11, c12, c13, c14, c15, c16, c17, c18, c19, c20, c21, c22, c23, c24, c25, c26, c27] := by
  obtain ⟨l⟩ := cs
  match l, h with
  | [c0, c1, c2, c3, c4, c5, c6, c7, c8, c9, c10, c11, c12, c13, c14, c15, c16, c17, c18, c19, c20, c21, c22, c23, c24, c25, c26, c27], _ => exact ⟨c0, c1, c2, c3, c4, c5, c6, c7, c8, c9, c10, c11, c12, c13, c14, c15, c16, c17, c18, c19, c20, c21, c22, c23, c24, c25, c26, c27, rfl⟩

set_option maxHeartbeats 40000000 in
theorem walk (a0a : Bool) (a0b : Bool) (a0c : Bool) (a0d : ByteArray) (a0e : Int) (a0f0 : Bool) (a0f1 : ByteArray) (a0f20 : Int) (a0f21 : Int) (a0f30 : Int) (a0f31 : Int) (a0g0 : Bool) (a0g1 : ByteArray) (a0g20 : Int) (a0g21 : Int) (a0g30 : Int) (a0g31 : Int) (a0h : Int) (a0i : Int) (a0j : Int) (a0k : Bool) (a0l0 : Bool) (a0l1 : ByteArray) (a0l2 : Int) (a0m0 : Bool) (a0m1 : ByteArray) (a0m2 : Int) (a0n : Int) (a1a : Bool) (a1b : Bool) (a1c : Bool) (a1d : ByteArray) (a1e : Int) (a1f0 : Bool) (a1f1 : ByteArray) (a1f20 : Int) (a1f21 : Int) (a1f30 : Int) (a1f31 : Int) (a1g0 : Bool) (a1g1 : ByteArray) (a1g20 : Int) (a1g21 : Int) (a1g30 : Int) (a1g31 : Int) (a1h : Int) (a1i : Int) (a1j : Int) (a1k : Bool) (a1l0 : Bool) (a1l1 : ByteArray) (a1l2 : Int) (a1m0 : Bool) (a1m1 : ByteArray) (a1m2 : Int) (a1n : Int) (w : World) (w0d : a0d.size ≤ maxLen) (w0e : (Lit.int .i64 a0e).wf = true) (w0f1 : a0f1.size ≤ maxLen) (w0f20 : (Lit.int .u32 a0f20).wf = true) (w0f21 : (Lit.int .i64 a0f21).wf = true) (w0f30 : (Lit.int .i64 a0f30).wf = true) (w0f31 : (Lit.int .i64 a0f31).wf = true) (w0g1 : a0g1.size ≤ maxLen) (w0g20 : (Lit.int .u32 a0g20).wf = true) (w0g21 : (Lit.int .i64 a0g21).wf = true) (w0g30 : (Lit.int .i64 a0g30).wf = true) (w0g31 : (Lit.int .i64 a0g31).wf = true) (w0h : (Lit.int .i64 a0h).wf = true) (w0i : (Lit.int .i64 a0i).wf = true) (w0j : (Lit.int .i64 a0j).wf = true) (w0l1 : a0l1.size ≤ maxLen) (w0l2 : (Lit.int .u32 a0l2).wf = true) (w0m1 : a0m1.size ≤ maxLen) (w0m2 : (Lit.int .u32 a0m2).wf = true) (w0n : (Lit.int .i64 a0n).wf = true) (w1d : a1d.size ≤ maxLen) (w1e : (Lit.int .i64 a1e).wf = true) (w1f1 : a1f1.size ≤ maxLen) (w1f20 : (Lit.int .u32 a1f20).wf = true) (w1f21 : (Lit.int .i64 a1f21).wf = true) (w1f30 : (Lit.int .i64 a1f30).wf = true) (w1f31 : (Lit.int .i64 a1f31).wf = true) (w1g1 : a1g1.size ≤ maxLen) (w1g20 : (Lit.int .u32 a1g20).wf = true) (w1g21 : (Lit.int .i64 a1g21).wf = true) (w1g30 : (Lit.int .i64 a1g30).wf = true) (w1g31 : (Lit.int .i64 a1g31).wf = true) (w1h : (Lit.int .i64 a1h).wf = true) (w1i : (Lit.int .i64 a1i).wf = true) (w1j : (Lit.int .i64 a1j).wf = true) (w1l1 : a1l1.size ≤ maxLen) (w1l2 : (Lit.int .u32 a1l2).wf = true) (w1m1 : a1m1.size ≤ maxLen) (w1m2 : (Lit.int .u32 a1m2).wf = true) (w1n : (Lit.int .i64 a1n).wf = true) (hstd : Ru.Std w) :
    Calls Tryz.prog 4 #[.agg #[.bool a0a, .bool a0b, .bool a0c, .string a0d, .int .i64 a0e, .bool a0f0, .string a0f1, .int .u32 a0f20, .int .i64 a0f21, .int .i64 a0f30, .int .i64 a0f31, .bool a0g0, .string a0g1, .int .u32 a0g20, .int .i64 a0g21, .int .i64 a0g30, .int .i64 a0g31, .int .i64 a0h, .int .i64 a0i, .int .i64 a0j, .bool a0k, .bool a0l0, .string a0l1, .int .u32 a0l2, .bool a0m0, .string a0m1, .int .u32 a0m2, .int .i64 a0n], .agg #[.bool a1a, .bool a1b, .bool a1c, .string a1d, .int .i64 a1e, .bool a1f0, .string a1f1, .int .u32 a1f20, .int .i64 a1f21, .int .i64 a1f30, .int .i64 a1f31, .bool a1g0, .string a1g1, .int .u32 a1g20, .int .i64 a1g21, .int .i64 a1g30, .int .i64 a1g31, .int .i64 a1h, .int .i64 a1i, .int .i64 a1j, .bool a1k, .bool a1l0, .string a1l1, .int .u32 a1l2, .bool a1m0, .string a1m1, .int .u32 a1m2, .int .i64 a1n]] w fun e w' => e = .returned (.bool true) ∧ Below w.heap.size w w' := by
  exact law_prints ⟨a0a, a0b, a0c, a0d, a0e, ⟨a0f0, a0f1, a0f20, a0f21, a0f30, a0f31⟩, ⟨a0g0, a0g1, a0g20, a0g21, a0g30, a0g31⟩, a0h, a0i, a0j, a0k, ⟨a0l0, a0l1, a0l2⟩, ⟨a0m0, a0m1, a0m2⟩, a0n⟩ ⟨a1a, a1b, a1c, a1d, a1e, ⟨a1f0, a1f1, a1f20, a1f21, a1f30, a1f31⟩, ⟨a1g0, a1g1, a1g20, a1g21, a1g30, a1g31⟩, a1h, a1i, a1j, a1k, ⟨a1l0, a1l1, a1l2⟩, ⟨a1m0, a1m1, a1m2⟩, a1n⟩ w ⟨w0d, w0f1, w0g1, w0l1, w0m1, (bounds_i64 w0h).1, (bounds_i64 w0h).2, (bounds_u32 w0f20).1, (bounds_u32 w0f20).2, (bounds_u32 w0g20).1, (bounds_u32 w0g20).2, (bounds_u32 w0l2).1, (bounds_u32 w0l2).2, (bounds_u32 w0m2).1, (bounds_u32 w0m2).2⟩ ⟨w1d, w1f1, w1g1, w1l1, w1m1, (bounds_i64 w1h).1, (bounds_i64 w1h).2, (bounds_u32 w1f20).1, (bounds_u32 w1f20).2, (bounds_u32 w1g20).1, (bounds_u32 w1g20).2, (bounds_u32 w1l2).1, (bounds_u32 w1l2).2, (bounds_u32 w1m2).1, (bounds_u32 w1m2).2⟩ hstd

theorem table {W : World} (h : laidMetH Tryz.prog Rows.rulePrintsRow.laid W) : Tab W := by
  have h1 : laidMet Tryz.prog Rows.rulePrintsRow.laid W := h
  have e : (Rows.laid_internal_strconv_uint64pow10 : DataW Unit) = Lib.tabData .u64 Lib.pow10Tab := by kernel_rfl
  have h2 : laidMet Tryz.prog [("internal/strconv.uint64pow10", Rows.laid_internal_strconv_uint64pow10), ("unicode/utf8.acceptRanges", Rows.laid_unicode_utf8_acceptRanges), ("strconv.ErrRange", Rows.laid_strconv_ErrRange), ("strconv.ErrSyntax", Rows.laid_strconv_ErrSyntax), ("unicode/utf8.first", Rows.laid_unicode_utf8_first)] W := h1.tail.tail
  rw [e] at h2
  exact Lib.tabIs_of_head (g := 0) (t := 143) (e := 127) (n := 20) (by kernel_rfl) (by kernel_rfl) Tryz.underlying143 Tryz.underlying127 (by kernel_rfl) (by kernel_rfl) h2

theorem stands {W : World} (h : laidMetH Tryz.prog Rows.rulePrintsRow.laid W) (hsh : W.ShapedOpen Tryz.prog) : Ru.Std W := by
  have h1 : laidMet Tryz.prog Rows.rulePrintsRow.laid W := h
  exact Ru.std_laid (table h) hsh h1

theorem contract (H : Type) (enc : TypeId × Value → H) (W : World) (base : Nat) (args : Array Value) (ds gs : List (DataW H)) (before : List MemPlace)
    (hval : ∀ (j : Nat) t v, Tryz.f4.params[j]? = some t → args[j]? = some v → Value.okWide Tryz.prog W .any base t v)
    (hW : DataW.Whole enc Tryz.prog Tryz.f4.params.toList Rows.rulePrintsSpec.vars false W args.toList ds gs before) (hstd : Ru.Std W)  :
    Calls Tryz.prog 4 args W fun e W' => ∃ v, e = .returned v ∧ Rows.rulePrintsSpec.post enc Tryz.prog Tryz.f4 false true false false W args v W' := by
  have hW' := hW
  obtain ⟨p, q, hA0, hV, rfl, hfz, hnd⟩ := hW
  have hA : DataW.TrodAll enc Tryz.prog W 0 (fun _ => true) true Tryz.f4.params.toList args.toList ds p := hA0
  rw [Tryz.params4] at hA hval
  obtain ⟨v0, vs0, d0, ds0, p0, q0, hargs, rfl, rfl, h0, r0⟩ := trodAll_cons hA
  obtain ⟨v1, vs1, d1, ds1, p1, q1, rfl, rfl, rfl, h1, r1⟩ := trodAll_cons r0
  obtain ⟨rfl, rfl, rfl⟩ := trodAll_nil r1
  obtain rfl : args = #[v0, v1] := by cases args; simp_all
  obtain ⟨rfl, rfl⟩ := trodVars_none hV
  have k0 := h0
  have lt0 : ∀ x ∈ p0, x.block < W.heap.size := by obtain ⟨m, hm⟩ := k0; exact DataW.trod_lt m _ _ _ hm
  obtain ⟨cs0, rfl, hs0⟩ := okWide_struct Tryz.underlying32 (hval 0 32 v0 rfl rfl)
  obtain ⟨u0_0, u0_1, u0_2, u0_3, u0_4, u0_5, u0_6, u0_7, u0_8, u0_9, u0_10, u0_11, u0_12, u0_13, u0_14, u0_15, u0_16, u0_17, u0_18, u0_19, u0_20, u0_21, u0_22, u0_23, u0_24, u0_25, u0_26, u0_27, rfl⟩ := arr28 (hs0.trans (by kernel_rfl))
  obtain ⟨fu0, hf0⟩ := h0
  obtain ⟨_, _, e1⟩ := field_at Tryz.underlying32 hf0 0 rfl 1 (by kernel_rfl)
  obtain ⟨a0a, c2, _⟩ := DataW.trod_bool Tryz.underlying4 e1
  obtain rfl : u0_0 = .bool a0a := by simpa [Value.cells] using c2
  obtain ⟨_, _, e3⟩ := field_at Tryz.underlying32 hf0 1 rfl 1 (by kernel_rfl)
  obtain ⟨a0b, c4, _⟩ := DataW.trod_bool Tryz.underlying4 e3
  obtain rfl : u0_1 = .bool a0b := by simpa [Value.cells] using c4
  obtain ⟨_, _, e5⟩ := field_at Tryz.underlying32 hf0 2 rfl 1 (by kernel_rfl)
  obtain ⟨a0c, c6, _⟩ := DataW.trod_bool Tryz.underlying4 e5
  obtain rfl : u0_2 = .bool a0c := by simpa [Value.cells] using c6
  obtain ⟨_, _, e7⟩ := field_at Tryz.underlying32 hf0 3 rfl 1 (by kernel_rfl)
  obtain ⟨a0d, c8, _, w0d⟩ := DataW.trod_string Tryz.underlying9 e7
  obtain rfl : u0_3 = .string a0d := by simpa [Value.cells] using c8
  obtain ⟨_, _, e9⟩ := field_at Tryz.underlying32 hf0 4 rfl 1 (by kernel_rfl)
  obtain ⟨a0e, c10, _, w0e⟩ := DataW.trod_int Tryz.underlying3 e9
  obtain rfl : u0_4 = .int .i64 a0e := by simpa [Value.cells] using c10
  obtain ⟨_, _, e11⟩ := field_at Tryz.underlying32 hf0 5 rfl 6 (by kernel_rfl)
  obtain ⟨_, _, e12⟩ := field_at Tryz.underlying28 e11 0 rfl 1 (by kernel_rfl)
  obtain ⟨a0f0, c13, _⟩ := DataW.trod_bool Tryz.underlying4 e12
  obtain rfl : u0_5 = .bool a0f0 := by simpa [Value.cells] using c13
  obtain ⟨_, _, e14⟩ := field_at Tryz.underlying28 e11 1 rfl 1 (by kernel_rfl)
  obtain ⟨a0f1, c15, _, w0f1⟩ := DataW.trod_string Tryz.underlying9 e14
  obtain rfl : u0_6 = .string a0f1 := by simpa [Value.cells] using c15
  obtain ⟨_, _, e16⟩ := field_at Tryz.underlying28 e11 2 rfl 2 (by kernel_rfl)
  obtain ⟨_, _, e17⟩ := field_at Tryz.underlying24 e16 0 rfl 1 (by kernel_rfl)
  obtain ⟨a0f20, c18, _, w0f20⟩ := DataW.trod_int Tryz.underlying22 e17
  obtain rfl : u0_7 = .int .u32 a0f20 := by simpa [Value.cells] using c18
  obtain ⟨_, _, e19⟩ := field_at Tryz.underlying24 e16 1 rfl 1 (by kernel_rfl)
  obtain ⟨a0f21, c20, _, w0f21⟩ := DataW.trod_int Tryz.underlying3 e19
  obtain rfl : u0_8 = .int .i64 a0f21 := by simpa [Value.cells] using c20
  obtain ⟨_, _, e21⟩ := field_at Tryz.underlying28 e11 3 rfl 2 (by kernel_rfl)
  obtain ⟨_, _, e22⟩ := field_at Tryz.underlying26 e21 0 rfl 1 (by kernel_rfl)
  obtain ⟨a0f30, c23, _, w0f30⟩ := DataW.trod_int Tryz.underlying3 e22
  obtain rfl : u0_9 = .int .i64 a0f30 := by simpa [Value.cells] using c23
  obtain ⟨_, _, e24⟩ := field_at Tryz.underlying26 e21 1 rfl 1 (by kernel_rfl)
  obtain ⟨a0f31, c25, _, w0f31⟩ := DataW.trod_int Tryz.underlying3 e24
  obtain rfl : u0_10 = .int .i64 a0f31 := by simpa [Value.cells] using c25
  obtain ⟨_, _, e26⟩ := field_at Tryz.underlying32 hf0 6 rfl 6 (by kernel_rfl)
  obtain ⟨_, _, e27⟩ := field_at Tryz.underlying28 e26 0 rfl 1 (by kernel_rfl)
  obtain ⟨a0g0, c28, _⟩ := DataW.trod_bool Tryz.underlying4 e27
  obtain rfl : u0_11 = .bool a0g0 := by simpa [Value.cells] using c28
  obtain ⟨_, _, e29⟩ := field_at Tryz.underlying28 e26 1 rfl 1 (by kernel_rfl)
  obtain ⟨a0g1, c30, _, w0g1⟩ := DataW.trod_string Tryz.underlying9 e29
  obtain rfl : u0_12 = .string a0g1 := by simpa [Value.cells] using c30
  obtain ⟨_, _, e31⟩ := field_at Tryz.underlying28 e26 2 rfl 2 (by kernel_rfl)
  obtain ⟨_, _, e32⟩ := field_at Tryz.underlying24 e31 0 rfl 1 (by kernel_rfl)
  obtain ⟨a0g20, c33, _, w0g20⟩ := DataW.trod_int Tryz.underlying22 e32
  obtain rfl : u0_13 = .int .u32 a0g20 := by simpa [Value.cells] using c33
  obtain ⟨_, _, e34⟩ := field_at Tryz.underlying24 e31 1 rfl 1 (by kernel_rfl)
  obtain ⟨a0g21, c35, _, w0g21⟩ := DataW.trod_int Tryz.underlying3 e34
  obtain rfl : u0_14 = .int .i64 a0g21 := by simpa [Value.cells] using c35
  obtain ⟨_, _, e36⟩ := field_at Tryz.underlying28 e26 3 rfl 2 (by kernel_rfl)
  obtain ⟨_, _, e37⟩ := field_at Tryz.underlying26 e36 0 rfl 1 (by kernel_rfl)
  obtain ⟨a0g30, c38, _, w0g30⟩ := DataW.trod_int Tryz.underlying3 e37
  obtain rfl : u0_15 = .int .i64 a0g30 := by simpa [Value.cells] using c38
  obtain ⟨_, _, e39⟩ := field_at Tryz.underlying26 e36 1 rfl 1 (by kernel_rfl)
  obtain ⟨a0g31, c40, _, w0g31⟩ := DataW.trod_int Tryz.underlying3 e39
  obtain rfl : u0_16 = .int .i64 a0g31 := by simpa [Value.cells] using c40
  obtain ⟨_, _, e41⟩ := field_at Tryz.underlying32 hf0 7 rfl 1 (by kernel_rfl)
  obtain ⟨a0h, c42, _, w0h⟩ := DataW.trod_int Tryz.underlying3 e41
  obtain rfl : u0_17 = .int .i64 a0h := by simpa [Value.cells] using c42
  obtain ⟨_, _, e43⟩ := field_at Tryz.underlying32 hf0 8 rfl 1 (by kernel_rfl)
  obtain ⟨a0i, c44, _, w0i⟩ := DataW.trod_int Tryz.underlying3 e43
  obtain rfl : u0_18 = .int .i64 a0i := by simpa [Value.cells] using c44
  obtain ⟨_, _, e45⟩ := field_at Tryz.underlying32 hf0 9 rfl 1 (by kernel_rfl)
  obtain ⟨a0j, c46, _, w0j⟩ := DataW.trod_int Tryz.underlying3 e45
  obtain rfl : u0_19 = .int .i64 a0j := by simpa [Value.cells] using c46
  obtain ⟨_, _, e47⟩ := field_at Tryz.underlying32 hf0 10 rfl 1 (by kernel_rfl)
  obtain ⟨a0k, c48, _⟩ := DataW.trod_bool Tryz.underlying4 e47
  obtain rfl : u0_20 = .bool a0k := by simpa [Value.cells] using c48
  obtain ⟨_, _, e49⟩ := field_at Tryz.underlying32 hf0 11 rfl 3 (by kernel_rfl)
  obtain ⟨_, _, e50⟩ := field_at Tryz.underlying30 e49 0 rfl 1 (by kernel_rfl)
  obtain ⟨a0l0, c51, _⟩ := DataW.trod_bool Tryz.underlying4 e50
  obtain rfl : u0_21 = .bool a0l0 := by simpa [Value.cells] using c51
  obtain ⟨_, _, e52⟩ := field_at Tryz.underlying30 e49 1 rfl 1 (by kernel_rfl)
  obtain ⟨a0l1, c53, _, w0l1⟩ := DataW.trod_string Tryz.underlying9 e52
  obtain rfl : u0_22 = .string a0l1 := by simpa [Value.cells] using c53
  obtain ⟨_, _, e54⟩ := field_at Tryz.underlying30 e49 2 rfl 1 (by kernel_rfl)
  obtain ⟨a0l2, c55, _, w0l2⟩ := DataW.trod_int Tryz.underlying22 e54
  obtain rfl : u0_23 = .int .u32 a0l2 := by simpa [Value.cells] using c55
  obtain ⟨_, _, e56⟩ := field_at Tryz.underlying32 hf0 12 rfl 3 (by kernel_rfl)
  obtain ⟨_, _, e57⟩ := field_at Tryz.underlying30 e56 0 rfl 1 (by kernel_rfl)
  obtain ⟨a0m0, c58, _⟩ := DataW.trod_bool Tryz.underlying4 e57
  obtain rfl : u0_24 = .bool a0m0 := by simpa [Value.cells] using c58
  obtain ⟨_, _, e59⟩ := field_at Tryz.underlying30 e56 1 rfl 1 (by kernel_rfl)
  obtain ⟨a0m1, c60, _, w0m1⟩ := DataW.trod_string Tryz.underlying9 e59
  obtain rfl : u0_25 = .string a0m1 := by simpa [Value.cells] using c60
  obtain ⟨_, _, e61⟩ := field_at Tryz.underlying30 e56 2 rfl 1 (by kernel_rfl)
  obtain ⟨a0m2, c62, _, w0m2⟩ := DataW.trod_int Tryz.underlying22 e61
  obtain rfl : u0_26 = .int .u32 a0m2 := by simpa [Value.cells] using c62
  obtain ⟨_, _, e63⟩ := field_at Tryz.underlying32 hf0 13 rfl 1 (by kernel_rfl)
  obtain ⟨a0n, c64, _, w0n⟩ := DataW.trod_int Tryz.underlying3 e63
  obtain rfl : u0_27 = .int .i64 a0n := by simpa [Value.cells] using c64
  have k1 := h1
  have lt1 : ∀ x ∈ p1, x.block < W.heap.size := by obtain ⟨m, hm⟩ := k1; exact DataW.trod_lt m _ _ _ hm
  obtain ⟨cs1, rfl, hs1⟩ := okWide_struct Tryz.underlying32 (hval 1 32 v1 rfl rfl)
  obtain ⟨u1_0, u1_1, u1_2, u1_3, u1_4, u1_5, u1_6, u1_7, u1_8, u1_9, u1_10, u1_11, u1_12, u1_13, u1_14, u1_15, u1_16, u1_17, u1_18, u1_19, u1_20, u1_21, u1_22, u1_23, u1_24, u1_25, u1_26, u1_27, rfl⟩ := arr28 (hs1.trans (by kernel_rfl))
  obtain ⟨fu1, hf1⟩ := h1
  obtain ⟨_, _, e65⟩ := field_at Tryz.underlying32 hf1 0 rfl 1 (by kernel_rfl)
  obtain ⟨a1a, c66, _⟩ := DataW.trod_bool Tryz.underlying4 e65
  obtain rfl : u1_0 = .bool a1a := by simpa [Value.cells] using c66
  obtain ⟨_, _, e67⟩ := field_at Tryz.underlying32 hf1 1 rfl 1 (by kernel_rfl)
  obtain ⟨a1b, c68, _⟩ := DataW.trod_bool Tryz.underlying4 e67
  obtain rfl : u1_1 = .bool a1b := by simpa [Value.cells] using c68
  obtain ⟨_, _, e69⟩ := field_at Tryz.underlying32 hf1 2 rfl 1 (by kernel_rfl)
  obtain ⟨a1c, c70, _⟩ := DataW.trod_bool Tryz.underlying4 e69
  obtain rfl : u1_2 = .bool a1c := by simpa [Value.cells] using c70
  obtain ⟨_, _, e71⟩ := field_at Tryz.underlying32 hf1 3 rfl 1 (by kernel_rfl)
  obtain ⟨a1d, c72, _, w1d⟩ := DataW.trod_string Tryz.underlying9 e71
  obtain rfl : u1_3 = .string a1d := by simpa [Value.cells] using c72
  obtain ⟨_, _, e73⟩ := field_at Tryz.underlying32 hf1 4 rfl 1 (by kernel_rfl)
  obtain ⟨a1e, c74, _, w1e⟩ := DataW.trod_int Tryz.underlying3 e73
  obtain rfl : u1_4 = .int .i64 a1e := by simpa [Value.cells] using c74
  obtain ⟨_, _, e75⟩ := field_at Tryz.underlying32 hf1 5 rfl 6 (by kernel_rfl)
  obtain ⟨_, _, e76⟩ := field_at Tryz.underlying28 e75 0 rfl 1 (by kernel_rfl)
  obtain ⟨a1f0, c77, _⟩ := DataW.trod_bool Tryz.underlying4 e76
  obtain rfl : u1_5 = .bool a1f0 := by simpa [Value.cells] using c77
  obtain ⟨_, _, e78⟩ := field_at Tryz.underlying28 e75 1 rfl 1 (by kernel_rfl)
  obtain ⟨a1f1, c79, _, w1f1⟩ := DataW.trod_string Tryz.underlying9 e78
  obtain rfl : u1_6 = .string a1f1 := by simpa [Value.cells] using c79
  obtain ⟨_, _, e80⟩ := field_at Tryz.underlying28 e75 2 rfl 2 (by kernel_rfl)
  obtain ⟨_, _, e81⟩ := field_at Tryz.underlying24 e80 0 rfl 1 (by kernel_rfl)
  obtain ⟨a1f20, c82, _, w1f20⟩ := DataW.trod_int Tryz.underlying22 e81
  obtain rfl : u1_7 = .int .u32 a1f20 := by simpa [Value.cells] using c82
  obtain ⟨_, _, e83⟩ := field_at Tryz.underlying24 e80 1 rfl 1 (by kernel_rfl)
  obtain ⟨a1f21, c84, _, w1f21⟩ := DataW.trod_int Tryz.underlying3 e83
  obtain rfl : u1_8 = .int .i64 a1f21 := by simpa [Value.cells] using c84
  obtain ⟨_, _, e85⟩ := field_at Tryz.underlying28 e75 3 rfl 2 (by kernel_rfl)
  obtain ⟨_, _, e86⟩ := field_at Tryz.underlying26 e85 0 rfl 1 (by kernel_rfl)
  obtain ⟨a1f30, c87, _, w1f30⟩ := DataW.trod_int Tryz.underlying3 e86
  obtain rfl : u1_9 = .int .i64 a1f30 := by simpa [Value.cells] using c87
  obtain ⟨_, _, e88⟩ := field_at Tryz.underlying26 e85 1 rfl 1 (by kernel_rfl)
  obtain ⟨a1f31, c89, _, w1f31⟩ := DataW.trod_int Tryz.underlying3 e88
  obtain rfl : u1_10 = .int .i64 a1f31 := by simpa [Value.cells] using c89
  obtain ⟨_, _, e90⟩ := field_at Tryz.underlying32 hf1 6 rfl 6 (by kernel_rfl)
  obtain ⟨_, _, e91⟩ := field_at Tryz.underlying28 e90 0 rfl 1 (by kernel_rfl)
  obtain ⟨a1g0, c92, _⟩ := DataW.trod_bool Tryz.underlying4 e91
  obtain rfl : u1_11 = .bool a1g0 := by simpa [Value.cells] using c92
  obtain ⟨_, _, e93⟩ := field_at Tryz.underlying28 e90 1 rfl 1 (by kernel_rfl)
  obtain ⟨a1g1, c94, _, w1g1⟩ := DataW.trod_string Tryz.underlying9 e93
  obtain rfl : u1_12 = .string a1g1 := by simpa [Value.cells] using c94
  obtain ⟨_, _, e95⟩ := field_at Tryz.underlying28 e90 2 rfl 2 (by kernel_rfl)
  obtain ⟨_, _, e96⟩ := field_at Tryz.underlying24 e95 0 rfl 1 (by kernel_rfl)
  obtain ⟨a1g20, c97, _, w1g20⟩ := DataW.trod_int Tryz.underlying22 e96
  obtain rfl : u1_13 = .int .u32 a1g20 := by simpa [Value.cells] using c97
  obtain ⟨_, _, e98⟩ := field_at Tryz.underlying24 e95 1 rfl 1 (by kernel_rfl)
  obtain ⟨a1g21, c99, _, w1g21⟩ := DataW.trod_int Tryz.underlying3 e98
  obtain rfl : u1_14 = .int .i64 a1g21 := by simpa [Value.cells] using c99
  obtain ⟨_, _, e100⟩ := field_at Tryz.underlying28 e90 3 rfl 2 (by kernel_rfl)
  obtain ⟨_, _, e101⟩ := field_at Tryz.underlying26 e100 0 rfl 1 (by kernel_rfl)
  obtain ⟨a1g30, c102, _, w1g30⟩ := DataW.trod_int Tryz.underlying3 e101
  obtain rfl : u1_15 = .int .i64 a1g30 := by simpa [Value.cells] using c102
  obtain ⟨_, _, e103⟩ := field_at Tryz.underlying26 e100 1 rfl 1 (by kernel_rfl)
  obtain ⟨a1g31, c104, _, w1g31⟩ := DataW.trod_int Tryz.underlying3 e103
  obtain rfl : u1_16 = .int .i64 a1g31 := by simpa [Value.cells] using c104
  obtain ⟨_, _, e105⟩ := field_at Tryz.underlying32 hf1 7 rfl 1 (by kernel_rfl)
  obtain ⟨a1h, c106, _, w1h⟩ := DataW.trod_int Tryz.underlying3 e105
  obtain rfl : u1_17 = .int .i64 a1h := by simpa [Value.cells] using c106
  obtain ⟨_, _, e107⟩ := field_at Tryz.underlying32 hf1 8 rfl 1 (by kernel_rfl)
  obtain ⟨a1i, c108, _, w1i⟩ := DataW.trod_int Tryz.underlying3 e107
  obtain rfl : u1_18 = .int .i64 a1i := by simpa [Value.cells] using c108
  obtain ⟨_, _, e109⟩ := field_at Tryz.underlying32 hf1 9 rfl 1 (by kernel_rfl)
  obtain ⟨a1j, c110, _, w1j⟩ := DataW.trod_int Tryz.underlying3 e109
  obtain rfl : u1_19 = .int .i64 a1j := by simpa [Value.cells] using c110
  obtain ⟨_, _, e111⟩ := field_at Tryz.underlying32 hf1 10 rfl 1 (by kernel_rfl)
  obtain ⟨a1k, c112, _⟩ := DataW.trod_bool Tryz.underlying4 e111
  obtain rfl : u1_20 = .bool a1k := by simpa [Value.cells] using c112
  obtain ⟨_, _, e113⟩ := field_at Tryz.underlying32 hf1 11 rfl 3 (by kernel_rfl)
  obtain ⟨_, _, e114⟩ := field_at Tryz.underlying30 e113 0 rfl 1 (by kernel_rfl)
  obtain ⟨a1l0, c115, _⟩ := DataW.trod_bool Tryz.underlying4 e114
  obtain rfl : u1_21 = .bool a1l0 := by simpa [Value.cells] using c115
  obtain ⟨_, _, e116⟩ := field_at Tryz.underlying30 e113 1 rfl 1 (by kernel_rfl)
  obtain ⟨a1l1, c117, _, w1l1⟩ := DataW.trod_string Tryz.underlying9 e116
  obtain rfl : u1_22 = .string a1l1 := by simpa [Value.cells] using c117
  obtain ⟨_, _, e118⟩ := field_at Tryz.underlying30 e113 2 rfl 1 (by kernel_rfl)
  obtain ⟨a1l2, c119, _, w1l2⟩ := DataW.trod_int Tryz.underlying22 e118
  obtain rfl : u1_23 = .int .u32 a1l2 := by simpa [Value.cells] using c119
  obtain ⟨_, _, e120⟩ := field_at Tryz.underlying32 hf1 12 rfl 3 (by kernel_rfl)
  obtain ⟨_, _, e121⟩ := field_at Tryz.underlying30 e120 0 rfl 1 (by kernel_rfl)
  obtain ⟨a1m0, c122, _⟩ := DataW.trod_bool Tryz.underlying4 e121
  obtain rfl : u1_24 = .bool a1m0 := by simpa [Value.cells] using c122
  obtain ⟨_, _, e123⟩ := field_at Tryz.underlying30 e120 1 rfl 1 (by kernel_rfl)
  obtain ⟨a1m1, c124, _, w1m1⟩ := DataW.trod_string Tryz.underlying9 e123
  obtain rfl : u1_25 = .string a1m1 := by simpa [Value.cells] using c124
  obtain ⟨_, _, e125⟩ := field_at Tryz.underlying30 e120 2 rfl 1 (by kernel_rfl)
  obtain ⟨a1m2, c126, _, w1m2⟩ := DataW.trod_int Tryz.underlying22 e125
  obtain rfl : u1_26 = .int .u32 a1m2 := by simpa [Value.cells] using c126
  obtain ⟨_, _, e127⟩ := field_at Tryz.underlying32 hf1 13 rfl 1 (by kernel_rfl)
  obtain ⟨a1n, c128, _, w1n⟩ := DataW.trod_int Tryz.underlying3 e127
  obtain rfl : u1_27 = .int .i64 a1n := by simpa [Value.cells] using c128
  clear hA0
  refine (walk a0a a0b a0c a0d a0e a0f0 a0f1 a0f20 a0f21 a0f30 a0f31 a0g0 a0g1 a0g20 a0g21 a0g30 a0g31 a0h a0i a0j a0k a0l0 a0l1 a0l2 a0m0 a0m1 a0m2 a0n a1a a1b a1c a1d a1e a1f0 a1f1 a1f20 a1f21 a1f30 a1f31 a1g0 a1g1 a1g20 a1g21 a1g30 a1g31 a1h a1i a1j a1k a1l0 a1l1 a1l2 a1m0 a1m1 a1m2 a1n W w0d w0e w0f1 w0f20 w0f21 w0f30 w0f31 w0g1 w0g20 w0g21 w0g30 w0g31 w0h w0i w0j w0l1 w0l2 w0m1 w0m2 w0n w1d w1e w1f1 w1f20 w1f21 w1f30 w1f31 w1g1 w1g20 w1g21 w1g30 w1g31 w1h w1i w1j w1l1 w1l2 w1m1 w1m2 w1n hstd).mono fun e W' ⟨he, bel⟩ => ?_
  subst he
  exact ⟨_, rfl, _, _, _, [], _, [], hW', trodAll_mk1 (shut_bool Tryz.underlying4 _), (trodAll_cons_mk (Below.trod laidOut (by kernel_rfl) (of_decide_eq_true (by kernel_rfl)) k0 bel lt0) (trodAll_cons_mk (Below.trod laidOut (by kernel_rfl) (of_decide_eq_true (by kernel_rfl)) k1 bel lt1) trodAll_mk0)), rfl, bel.frame _, fun h => by cases h⟩

theorem laid_met (os : Os) : laidMet Tryz.prog Rows.rulePrintsRow.laid ((World.laidAll Tryz.prog os Rows.rulePrintsRow.laid).forCall (fun _ _ => 0) ⟨#[], #[.agg #[.bool false, .bool false, .bool false, .string ⟨#[]⟩, .int .i64 0, .bool false, .string ⟨#[]⟩, .int .u32 0, .int .i64 0, .int .i64 0, .int .i64 0, .bool false, .string ⟨#[]⟩, .int .u32 0, .int .i64 0, .int .i64 0, .int .i64 0, .int .i64 0, .int .i64 0, .int .i64 0, .bool false, .bool false, .string ⟨#[]⟩, .int .u32 0, .bool false, .string ⟨#[]⟩, .int .u32 0, .int .i64 0], .agg #[.bool false, .bool false, .bool false, .string ⟨#[]⟩, .int .i64 0, .bool false, .string ⟨#[]⟩, .int .u32 0, .int .i64 0, .int .i64 0, .int .i64 0, .bool false, .string ⟨#[]⟩, .int .u32 0, .int .i64 0, .int .i64 0, .int .i64 0, .int .i64 0, .int .i64 0, .int .i64 0, .bool false, .bool false, .string ⟨#[]⟩, .int .u32 0, .bool false, .string ⟨#[]⟩, .int .u32 0, .int .i64 0]], []⟩).memory :=
  laidMet_laidAll _ (by kernel_rfl) (by kernel_rfl)
theorem reads (os : Os) {H : Type} (enc : TypeId × Value → H) : ∃ places, DataW.whole enc Tryz.prog ((World.laidAll Tryz.prog os Rows.rulePrintsRow.laid).forCall (fun _ _ => 0) ⟨#[], #[.agg #[.bool false, .bool false, .bool false, .string ⟨#[]⟩, .int .i64 0, .bool false, .string ⟨#[]⟩, .int .u32 0, .int .i64 0, .int .i64 0, .int .i64 0, .bool false, .string ⟨#[]⟩, .int .u32 0, .int .i64 0, .int .i64 0, .int .i64 0, .int .i64 0, .int .i64 0, .int .i64 0, .bool false, .bool false, .string ⟨#[]⟩, .int .u32 0, .bool false, .string ⟨#[]⟩, .int .u32 0, .int .i64 0], .agg #[.bool false, .bool false, .bool false, .string ⟨#[]⟩, .int .i64 0, .bool false, .string ⟨#[]⟩, .int .u32 0, .int .i64 0, .int .i64 0, .int .i64 0, .bool false, .string ⟨#[]⟩, .int .u32 0, .int .i64 0, .int .i64 0, .int .i64 0, .int .i64 0, .int .i64 0, .int .i64 0, .bool false, .bool false, .string ⟨#[]⟩, .int .u32 0, .bool false, .string ⟨#[]⟩, .int .u32 0, .int .i64 0]], []⟩).memory Tryz.f4.params.toList Rows.rulePrintsSpec.vars false (#[.agg #[.bool false, .bool false, .bool false, .string ⟨#[]⟩, .int .i64 0, .bool false, .string ⟨#[]⟩, .int .u32 0, .int .i64 0, .int .i64 0, .int .i64 0, .bool false, .string ⟨#[]⟩, .int .u32 0, .int .i64 0, .int .i64 0, .int .i64 0, .int .i64 0, .int .i64 0, .int .i64 0, .bool false, .bool false, .string ⟨#[]⟩, .int .u32 0, .bool false, .string ⟨#[]⟩, .int .u32 0, .int .i64 0], .agg #[.bool false, .bool false, .bool false, .string ⟨#[]⟩, .int .i64 0, .bool false, .string ⟨#[]⟩, .int .u32 0, .int .i64 0, .int .i64 0, .int .i64 0, .bool false, .string ⟨#[]⟩, .int .u32 0, .int .i64 0, .int .i64 0, .int .i64 0, .int .i64 0, .int .i64 0, .int .i64 0, .bool false, .bool false, .string ⟨#[]⟩, .int .u32 0, .bool false, .string ⟨#[]⟩, .int .u32 0, .int .i64 0]] : Array Value).toList 8 = some ([.agg [.lit (.bool false), .lit (.bool false), .lit (.bool false), .lit (.string []), .lit (.int .i64 0), .agg [.lit (.bool false), .lit (.string []), .agg [.lit (.int .u32 0), .lit (.int .i64 0)], .agg [.lit (.int .i64 0), .lit (.int .i64 0)]], .agg [.lit (.bool false), .lit (.string []), .agg [.lit (.int .u32 0), .lit (.int .i64 0)], .agg [.lit (.int .i64 0), .lit (.int .i64 0)]], .lit (.int .i64 0), .lit (.int .i64 0), .lit (.int .i64 0), .lit (.bool false), .agg [.lit (.bool false), .lit (.string []), .lit (.int .u32 0)], .agg [.lit (.bool false), .lit (.string []), .lit (.int .u32 0)], .lit (.int .i64 0)], .agg [.lit (.bool false), .lit (.bool false), .lit (.bool false), .lit (.string []), .lit (.int .i64 0), .agg [.lit (.bool false), .lit (.string []), .agg [.lit (.int .u32 0), .lit (.int .i64 0)], .agg [.lit (.int .i64 0), .lit (.int .i64 0)]], .agg [.lit (.bool false), .lit (.string []), .agg [.lit (.int .u32 0), .lit (.int .i64 0)], .agg [.lit (.int .i64 0), .lit (.int .i64 0)]], .lit (.int .i64 0), .lit (.int .i64 0), .lit (.int .i64 0), .lit (.bool false), .agg [.lit (.bool false), .lit (.string []), .lit (.int .u32 0)], .agg [.lit (.bool false), .lit (.string []), .lit (.int .u32 0)], .lit (.int .i64 0)]], [], places) :=
  ⟨[], by kernel_rfl⟩

set_option maxRecDepth 100000 in
theorem lifted (os : Os) (started : os.Started) (H : Type) (enc : TypeId × Value → H) (F : Stop.Interp) :
    ReturnsInHanded {} Tryz.checked os 4 .any ((OpenSpec.ofChange Rows.rulePrintsSpec).preRow enc Tryz.prog Tryz.f4 Rows.rulePrintsRow.domain false Rows.rulePrintsRow.laid) (((OpenSpec.ofChange Rows.rulePrintsSpec).at F).post enc Tryz.prog Tryz.f4 false true false false) := by
  obtain ⟨places, hx⟩ := reads os enc
  refine returnsInHanded_of_row (C := Tryz.checked) (s := (OpenSpec.ofChange Rows.rulePrintsSpec)) own started (by kernel_rfl) Tryz.func4
    (witness_row_at (enc := enc) (C := Tryz.checked) false (World.laidAll Tryz.prog os Rows.rulePrintsRow.laid) #[.agg #[.bool false, .bool false, .bool false, .string ⟨#[]⟩, .int .i64 0, .bool false, .string ⟨#[]⟩, .int .u32 0, .int .i64 0, .int .i64 0, .int .i64 0, .bool false, .string ⟨#[]⟩, .int .u32 0, .int .i64 0, .int .i64 0, .int .i64 0, .int .i64 0, .int .i64 0, .int .i64 0, .bool false, .bool false, .string ⟨#[]⟩, .int .u32 0, .bool false, .string ⟨#[]⟩, .int .u32 0, .int .i64 0], .agg #[.bool false, .bool false, .bool false, .string ⟨#[]⟩, .int .i64 0, .bool false, .string ⟨#[]⟩, .int .u32 0, .int .i64 0, .int .i64 0, .int .i64 0, .bool false, .string ⟨#[]⟩, .int .u32 0, .int .i64 0, .int .i64 0, .int .i64 0, .int .i64 0, .int .i64 0, .int .i64 0, .bool false, .bool false, .string ⟨#[]⟩, .int .u32 0, .bool false, .string ⟨#[]⟩, .int .u32 0, .int .i64 0]] (World.laidAll_os _ _ _) (by kernel_rfl) (by kernel_rfl) (by kernel_rfl)
      (OpenSpec.preRow_of_cond 8 hx (by kernel_rfl) (fun k hk => by cases hk) (by kernel_rfl) (laid_met os))) ?_
  intro W base args ds gs before hval hW _ hcond _ hL hsh _
  exact contract H enc W base args ds gs before hval hW (stands hL hsh)

theorem said : Rows.RulePrintsSaid :=
  OpenClaim.holds_of_cond 4 Tryz.f4 rfl rfl rfl rfl rfl rfl rfl ⟨rfl, rfl, rfl, rfl, rfl⟩ rfl rfl rfl rfl rfl (by kernel_rfl) Tryz.func4 (by kernel_rfl)
    (of_decide_eq_true (by kernel_rfl)) (by unfold Func.isWrapper; first | (rw [if_pos (by decide +kernel)]; kernel_rfl) | (rw [if_neg (by decide +kernel)]; exact ⟨rfl, rfl⟩))
    (fun os started H enc _ F => by rw [OpenClaim.pre_eq_preRow]; exact lifted os started H enc F)

theorem plain (f : FuncId) (fn : Func) (hf : Tryz.pinned.checked.prog.funcNamed "castellan/castellanlaw14.RulePrints" = some f) (hfn : Tryz.pinned.checked.prog.funcs[f]? = some fn) :
    true = Tryz.pinned.checked.prog.looks [] ∧ ∀ (j : Nat) t, fn.params[j]? = some t → Tryz.pinned.checked.prog.wantsStandIn t = false := by
  obtain rfl : f = 4 := Option.some.inj ((show Tryz.prog.funcNamed "castellan/castellanlaw14.RulePrints" = some 4 by kernel_rfl).symm.trans hf) |>.symm
  obtain rfl : fn = Tryz.f4 := (Option.some.inj (Tryz.func4.symm.trans hfn)).symm
  refine ⟨by kernel_rfl, fun j t ht => ?_⟩
  rw [Tryz.params4] at ht
  have hm : t ∈ [32, 32] := by simpa using Array.mem_of_getElem? ht
  have hall : ([32, 32].all fun u => !Tryz.prog.wantsStandIn u) = true := by kernel_rfl
  exact (show Tryz.prog.wantsStandIn t = false by simpa using List.all_eq_true.1 hall t hm)

theorem card : Rows.RulePrintsCardSaid :=
  Claim7.holds_tied_plain_at .later [] _ _ _ _ said (fun _ h => by cases h) (by kernel_rfl) (fun _ h => by cases h) rulePrints_row_tie rfl ⟨rfl, rfl⟩ (by kernel_rfl) rfl plain (by kernel_rfl)
end Go.Proofs.YtbmmgjmmooakpaaGreatDoor.rulePrints

namespace Go.Proofs.YtbmmgjmmooakpaaGreatDoor
theorem rulePrints_holds : Rows.RulePrintsCardSaid := rulePrints.card
#print axioms rulePrints_holds
end Go.Proofs.YtbmmgjmmooakpaaGreatDoor
