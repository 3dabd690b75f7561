/- For every list of rules, every list of tables, every interface's name, every packet and every place, the law MatchNone returns true: a rule that means nothing does not count, wherever it stands; no condition. -/
import Derived.Test.YtdkmakjjcfkfaaaRows
import Derived.Test.YtdkmakjjcfkfaaaRowT
import Derived.Test.YtdkmakjjcfkfaaaFrame
import Derived.Test.YtdkmakjjcfkfaaaRowG
import Derived.Test.YtdkmakjjcfkfaaaRowZ
import Derived.WalkKit
import Derived.ProofKit
import Derived.OpenShut
import Derived.ShutString
import Derived.ChangeOld
import Derived.Deep.DeepHandedRow
import Derived.Lib.LaidTab
import Derived.Lib.SmallJoins
import Derived.LaidMore
import Derived.Stop.LaidErr
import Derived.ChangeMaps5
namespace Go.Proofs.Ytdkmakjjcfkfaaa.matchNone
open Go.ChangeShapes Go.WideShapes Go.ChangeAt Go.RowKit Go.ChangeMaps
set_option linter.unusedVariables false
set_option maxRecDepth 100000

theorem own : ownKnob Try.prog.godebug = none := by kernel_rfl
theorem laidOut : laidOutB Try.prog = true := by kernel_rfl

theorem arr18 {α : Type} {cs : Array α} (h : cs.size = 18) : ∃ c0 c1 c2 c3 c4 c5 c6 c7 c8 c9 c10 c11 c12 c13 c14 c15 c16 c17, cs = #[c0, c1, c2, c3, c4, c5, c6, c7, c8, c9, c10, c11, c12, c13, c14, c15, c16, c17] := by
  obtain ⟨l⟩ := cs
  match l, h with
  | [c0, c1, c2, c3, c4, c5, c6, c7, c8, c9, c10, c11, c12, c13, c14, c15, c16, c17], _ => exact ⟨c0, c1, c2, c3, c4, c5, c6, c7, c8, c9, c10, c11, c12, c13, c14, c15, c16, c17, rfl⟩

abbrev Elem43 := Bool × Bool × Bool × ByteArray × Int × Bool × ByteArray × Int × Int × Int × Int × Bool × ByteArray × Int × Int × Int × Int × Int × Int × Int × Bool × Bool × ByteArray × Int × Bool × ByteArray × Int × Int
def cells43 (z : Elem43) : List Value := [.bool (z.1), .bool (z.2.1), .bool (z.2.2.1), .string (z.2.2.2.1), .int .i64 (z.2.2.2.2.1), .bool (z.2.2.2.2.2.1), .string (z.2.2.2.2.2.2.1), .int .u32 (z.2.2.2.2.2.2.2.1), .int .i64 (z.2.2.2.2.2.2.2.2.1), .int .i64 (z.2.2.2.2.2.2.2.2.2.1), .int .i64 (z.2.2.2.2.2.2.2.2.2.2.1), .bool (z.2.2.2.2.2.2.2.2.2.2.2.1), .string (z.2.2.2.2.2.2.2.2.2.2.2.2.1), .int .u32 (z.2.2.2.2.2.2.2.2.2.2.2.2.2.1), .int .i64 (z.2.2.2.2.2.2.2.2.2.2.2.2.2.2.1), .int .i64 (z.2.2.2.2.2.2.2.2.2.2.2.2.2.2.2.1), .int .i64 (z.2.2.2.2.2.2.2.2.2.2.2.2.2.2.2.2.1), .int .i64 (z.2.2.2.2.2.2.2.2.2.2.2.2.2.2.2.2.2.1), .int .i64 (z.2.2.2.2.2.2.2.2.2.2.2.2.2.2.2.2.2.2.1), .int .i64 (z.2.2.2.2.2.2.2.2.2.2.2.2.2.2.2.2.2.2.2.1), .bool (z.2.2.2.2.2.2.2.2.2.2.2.2.2.2.2.2.2.2.2.2.1), .bool (z.2.2.2.2.2.2.2.2.2.2.2.2.2.2.2.2.2.2.2.2.2.1), .string (z.2.2.2.2.2.2.2.2.2.2.2.2.2.2.2.2.2.2.2.2.2.2.1), .int .u32 (z.2.2.2.2.2.2.2.2.2.2.2.2.2.2.2.2.2.2.2.2.2.2.2.1), .bool (z.2.2.2.2.2.2.2.2.2.2.2.2.2.2.2.2.2.2.2.2.2.2.2.2.1), .string (z.2.2.2.2.2.2.2.2.2.2.2.2.2.2.2.2.2.2.2.2.2.2.2.2.2.1), .int .u32 (z.2.2.2.2.2.2.2.2.2.2.2.2.2.2.2.2.2.2.2.2.2.2.2.2.2.2.1), .int .i64 (z.2.2.2.2.2.2.2.2.2.2.2.2.2.2.2.2.2.2.2.2.2.2.2.2.2.2.2)]
def ok43 (z : Elem43) : Prop := (z.2.2.2.1).size ≤ maxLen ∧ (Lit.int .i64 (z.2.2.2.2.1)).wf = true ∧ (z.2.2.2.2.2.2.1).size ≤ maxLen ∧ (Lit.int .u32 (z.2.2.2.2.2.2.2.1)).wf = true ∧ (Lit.int .i64 (z.2.2.2.2.2.2.2.2.1)).wf = true ∧ (Lit.int .i64 (z.2.2.2.2.2.2.2.2.2.1)).wf = true ∧ (Lit.int .i64 (z.2.2.2.2.2.2.2.2.2.2.1)).wf = true ∧ (z.2.2.2.2.2.2.2.2.2.2.2.2.1).size ≤ maxLen ∧ (Lit.int .u32 (z.2.2.2.2.2.2.2.2.2.2.2.2.2.1)).wf = true ∧ (Lit.int .i64 (z.2.2.2.2.2.2.2.2.2.2.2.2.2.2.1)).wf = true ∧ (Lit.int .i64 (z.2.2.2.2.2.2.2.2.2.2.2.2.2.2.2.1)).wf = true ∧ (Lit.int .i64 (z.2.2.2.2.2.2.2.2.2.2.2.2.2.2.2.2.1)).wf = true ∧ (Lit.int .i64 (z.2.2.2.2.2.2.2.2.2.2.2.2.2.2.2.2.2.1)).wf = true ∧ (Lit.int .i64 (z.2.2.2.2.2.2.2.2.2.2.2.2.2.2.2.2.2.2.1)).wf = true ∧ (Lit.int .i64 (z.2.2.2.2.2.2.2.2.2.2.2.2.2.2.2.2.2.2.2.1)).wf = true ∧ (z.2.2.2.2.2.2.2.2.2.2.2.2.2.2.2.2.2.2.2.2.2.2.1).size ≤ maxLen ∧ (Lit.int .u32 (z.2.2.2.2.2.2.2.2.2.2.2.2.2.2.2.2.2.2.2.2.2.2.2.1)).wf = true ∧ (z.2.2.2.2.2.2.2.2.2.2.2.2.2.2.2.2.2.2.2.2.2.2.2.2.2.1).size ≤ maxLen ∧ (Lit.int .u32 (z.2.2.2.2.2.2.2.2.2.2.2.2.2.2.2.2.2.2.2.2.2.2.2.2.2.2.1)).wf = true ∧ (Lit.int .i64 (z.2.2.2.2.2.2.2.2.2.2.2.2.2.2.2.2.2.2.2.2.2.2.2.2.2.2.2)).wf = true
theorem cells43_length (z : Elem43) : (cells43 z).length = 28 := rfl
theorem elem43 {H : Type} {enc : TypeId × Value → H} {w : World} {base : Nat} {spare : Nat → Bool} {held : Bool} (n : Nat) (cs : List Value) (y : DataW H × List MemPlace)
    (h : DataW.trod enc Try.prog w base spare held n 43 cs = some y) : ∃ z : Elem43, cs = cells43 z ∧ ok43 z := by
  have hl : cs.length = 28 := by
    obtain ⟨_, _, _, _, hl, _⟩ := DataW.trod_struct Try.underlying43 h
    exact hl.trans (by kernel_rfl)
  obtain ⟨u0, u1, u2, u3, u4, u5, u6, u7, u8, u9, u10, u11, u12, u13, u14, u15, u16, u17, u18, u19, u20, u21, u22, u23, u24, u25, u26, u27, rfl⟩ : ∃ u0 u1 u2 u3 u4 u5 u6 u7 u8 u9 u10 u11 u12 u13 u14 u15 u16 u17 u18 u19 u20 u21 u22 u23 u24 u25 u26 u27, cs = [u0, u1, u2, u3, u4, u5, u6, u7, u8, u9, u10, u11, u12, u13, u14, u15, u16, u17, u18, u19, u20, u21, u22, u23, u24, u25, u26, u27] := by
    match cs, hl with
    | [u0, u1, u2, u3, u4, u5, u6, u7, u8, u9, u10, u11, u12, u13, u14, u15, u16, u17, u18, u19, u20, u21, u22, u23, u24, u25, u26, u27], _ => exact ⟨u0, u1, u2, u3, u4, u5, u6, u7, u8, u9, u10, u11, u12, u13, u14, u15, u16, u17, u18, u19, u20, u21, u22, u23, u24, u25, u26, u27, rfl⟩
  obtain ⟨_, _, e1⟩ := field_at Try.underlying43 h 0 rfl 1 (by kernel_rfl)
  obtain ⟨aza, c2, _⟩ := DataW.trod_bool Try.underlying4 e1
  obtain rfl : u0 = .bool aza := by simpa using c2
  obtain ⟨_, _, e3⟩ := field_at Try.underlying43 h 1 rfl 1 (by kernel_rfl)
  obtain ⟨azb, c4, _⟩ := DataW.trod_bool Try.underlying4 e3
  obtain rfl : u1 = .bool azb := by simpa using c4
  obtain ⟨_, _, e5⟩ := field_at Try.underlying43 h 2 rfl 1 (by kernel_rfl)
  obtain ⟨azc, c6, _⟩ := DataW.trod_bool Try.underlying4 e5
  obtain rfl : u2 = .bool azc := by simpa using c6
  obtain ⟨_, _, e7⟩ := field_at Try.underlying43 h 3 rfl 1 (by kernel_rfl)
  obtain ⟨azd, c8, _, wzd⟩ := DataW.trod_string Try.underlying9 e7
  obtain rfl : u3 = .string azd := by simpa using c8
  obtain ⟨_, _, e9⟩ := field_at Try.underlying43 h 4 rfl 1 (by kernel_rfl)
  obtain ⟨aze, c10, _, wze⟩ := DataW.trod_int Try.underlying3 e9
  obtain rfl : u4 = .int .i64 aze := by simpa using c10
  obtain ⟨_, _, e11⟩ := field_at Try.underlying43 h 5 rfl 6 (by kernel_rfl)
  obtain ⟨_, _, e12⟩ := field_at Try.underlying36 e11 0 rfl 1 (by kernel_rfl)
  obtain ⟨azf0, c13, _⟩ := DataW.trod_bool Try.underlying4 e12
  obtain rfl : u5 = .bool azf0 := by simpa using c13
  obtain ⟨_, _, e14⟩ := field_at Try.underlying36 e11 1 rfl 1 (by kernel_rfl)
  obtain ⟨azf1, c15, _, wzf1⟩ := DataW.trod_string Try.underlying9 e14
  obtain rfl : u6 = .string azf1 := by simpa using c15
  obtain ⟨_, _, e16⟩ := field_at Try.underlying36 e11 2 rfl 2 (by kernel_rfl)
  obtain ⟨_, _, e17⟩ := field_at Try.underlying32 e16 0 rfl 1 (by kernel_rfl)
  obtain ⟨azf20, c18, _, wzf20⟩ := DataW.trod_int Try.underlying24 e17
  obtain rfl : u7 = .int .u32 azf20 := by simpa using c18
  obtain ⟨_, _, e19⟩ := field_at Try.underlying32 e16 1 rfl 1 (by kernel_rfl)
  obtain ⟨azf21, c20, _, wzf21⟩ := DataW.trod_int Try.underlying3 e19
  obtain rfl : u8 = .int .i64 azf21 := by simpa using c20
  obtain ⟨_, _, e21⟩ := field_at Try.underlying36 e11 3 rfl 2 (by kernel_rfl)
  obtain ⟨_, _, e22⟩ := field_at Try.underlying34 e21 0 rfl 1 (by kernel_rfl)
  obtain ⟨azf30, c23, _, wzf30⟩ := DataW.trod_int Try.underlying3 e22
  obtain rfl : u9 = .int .i64 azf30 := by simpa using c23
  obtain ⟨_, _, e24⟩ := field_at Try.underlying34 e21 1 rfl 1 (by kernel_rfl)
  obtain ⟨azf31, c25, _, wzf31⟩ := DataW.trod_int Try.underlying3 e24
  obtain rfl : u10 = .int .i64 azf31 := by simpa using c25
  obtain ⟨_, _, e26⟩ := field_at Try.underlying43 h 6 rfl 6 (by kernel_rfl)
  obtain ⟨_, _, e27⟩ := field_at Try.underlying36 e26 0 rfl 1 (by kernel_rfl)
  obtain ⟨azg0, c28, _⟩ := DataW.trod_bool Try.underlying4 e27
  obtain rfl : u11 = .bool azg0 := by simpa using c28
  obtain ⟨_, _, e29⟩ := field_at Try.underlying36 e26 1 rfl 1 (by kernel_rfl)
  obtain ⟨azg1, c30, _, wzg1⟩ := DataW.trod_string Try.underlying9 e29
  obtain rfl : u12 = .string azg1 := by simpa using c30
  obtain ⟨_, _, e31⟩ := field_at Try.underlying36 e26 2 rfl 2 (by kernel_rfl)
  obtain ⟨_, _, e32⟩ := field_at Try.underlying32 e31 0 rfl 1 (by kernel_rfl)
  obtain ⟨azg20, c33, _, wzg20⟩ := DataW.trod_int Try.underlying24 e32
  obtain rfl : u13 = .int .u32 azg20 := by simpa using c33
  obtain ⟨_, _, e34⟩ := field_at Try.underlying32 e31 1 rfl 1 (by kernel_rfl)
  obtain ⟨azg21, c35, _, wzg21⟩ := DataW.trod_int Try.underlying3 e34
  obtain rfl : u14 = .int .i64 azg21 := by simpa using c35
  obtain ⟨_, _, e36⟩ := field_at Try.underlying36 e26 3 rfl 2 (by kernel_rfl)
  obtain ⟨_, _, e37⟩ := field_at Try.underlying34 e36 0 rfl 1 (by kernel_rfl)
  obtain ⟨azg30, c38, _, wzg30⟩ := DataW.trod_int Try.underlying3 e37
  obtain rfl : u15 = .int .i64 azg30 := by simpa using c38
  obtain ⟨_, _, e39⟩ := field_at Try.underlying34 e36 1 rfl 1 (by kernel_rfl)
  obtain ⟨azg31, c40, _, wzg31⟩ := DataW.trod_int Try.underlying3 e39
  obtain rfl : u16 = .int .i64 azg31 := by simpa using c40
  obtain ⟨_, _, e41⟩ := field_at Try.underlying43 h 7 rfl 1 (by kernel_rfl)
  obtain ⟨azh, c42, _, wzh⟩ := DataW.trod_int Try.underlying3 e41
  obtain rfl : u17 = .int .i64 azh := by simpa using c42
  obtain ⟨_, _, e43⟩ := field_at Try.underlying43 h 8 rfl 1 (by kernel_rfl)
  obtain ⟨azi, c44, _, wzi⟩ := DataW.trod_int Try.underlying3 e43
  obtain rfl : u18 = .int .i64 azi := by simpa using c44
  obtain ⟨_, _, e45⟩ := field_at Try.underlying43 h 9 rfl 1 (by kernel_rfl)
  obtain ⟨azj, c46, _, wzj⟩ := DataW.trod_int Try.underlying3 e45
  obtain rfl : u19 = .int .i64 azj := by simpa using c46
  obtain ⟨_, _, e47⟩ := field_at Try.underlying43 h 10 rfl 1 (by kernel_rfl)
  obtain ⟨azk, c48, _⟩ := DataW.trod_bool Try.underlying4 e47
  obtain rfl : u20 = .bool azk := by simpa using c48
  obtain ⟨_, _, e49⟩ := field_at Try.underlying43 h 11 rfl 3 (by kernel_rfl)
  obtain ⟨_, _, e50⟩ := field_at Try.underlying41 e49 0 rfl 1 (by kernel_rfl)
  obtain ⟨azl0, c51, _⟩ := DataW.trod_bool Try.underlying4 e50
  obtain rfl : u21 = .bool azl0 := by simpa using c51
  obtain ⟨_, _, e52⟩ := field_at Try.underlying41 e49 1 rfl 1 (by kernel_rfl)
  obtain ⟨azl1, c53, _, wzl1⟩ := DataW.trod_string Try.underlying9 e52
  obtain rfl : u22 = .string azl1 := by simpa using c53
  obtain ⟨_, _, e54⟩ := field_at Try.underlying41 e49 2 rfl 1 (by kernel_rfl)
  obtain ⟨azl2, c55, _, wzl2⟩ := DataW.trod_int Try.underlying24 e54
  obtain rfl : u23 = .int .u32 azl2 := by simpa using c55
  obtain ⟨_, _, e56⟩ := field_at Try.underlying43 h 12 rfl 3 (by kernel_rfl)
  obtain ⟨_, _, e57⟩ := field_at Try.underlying41 e56 0 rfl 1 (by kernel_rfl)
  obtain ⟨azm0, c58, _⟩ := DataW.trod_bool Try.underlying4 e57
  obtain rfl : u24 = .bool azm0 := by simpa using c58
  obtain ⟨_, _, e59⟩ := field_at Try.underlying41 e56 1 rfl 1 (by kernel_rfl)
  obtain ⟨azm1, c60, _, wzm1⟩ := DataW.trod_string Try.underlying9 e59
  obtain rfl : u25 = .string azm1 := by simpa using c60
  obtain ⟨_, _, e61⟩ := field_at Try.underlying41 e56 2 rfl 1 (by kernel_rfl)
  obtain ⟨azm2, c62, _, wzm2⟩ := DataW.trod_int Try.underlying24 e61
  obtain rfl : u26 = .int .u32 azm2 := by simpa using c62
  obtain ⟨_, _, e63⟩ := field_at Try.underlying43 h 13 rfl 1 (by kernel_rfl)
  obtain ⟨azn, c64, _, wzn⟩ := DataW.trod_int Try.underlying3 e63
  obtain rfl : u27 = .int .i64 azn := by simpa using c64
  exact ⟨(aza, azb, azc, azd, aze, azf0, azf1, azf20, azf21, azf30, azf31, azg0, azg1, azg20, azg21, azg30, azg31, azh, azi, azj, azk, azl0, azl1, azl2, azm0, azm1, azm2, azn), rfl, ⟨wzd, wze, wzf1, wzf20, wzf21, wzf30, wzf31, wzg1, wzg20, wzg21, wzg30, wzg31, wzh, wzi, wzj, wzl1, wzl2, wzm1, wzm2, wzn⟩⟩

abbrev Elem32 := Int × Int
def cells32 (z : Elem32) : List Value := [.int .u32 (z.1), .int .i64 (z.2)]
def ok32 (z : Elem32) : Prop := (Lit.int .u32 (z.1)).wf = true ∧ (Lit.int .i64 (z.2)).wf = true
theorem cells32_length (z : Elem32) : (cells32 z).length = 2 := rfl
theorem elem32 {H : Type} {enc : TypeId × Value → H} {w : World} {base : Nat} {spare : Nat → Bool} {held : Bool} (n : Nat) (cs : List Value) (y : DataW H × List MemPlace)
    (h : DataW.trod enc Try.prog w base spare held n 32 cs = some y) : ∃ z : Elem32, cs = cells32 z ∧ ok32 z := by
  have hl : cs.length = 2 := by
    obtain ⟨_, _, _, _, hl, _⟩ := DataW.trod_struct Try.underlying32 h
    exact hl.trans (by kernel_rfl)
  obtain ⟨u0, u1, rfl⟩ : ∃ u0 u1, cs = [u0, u1] := by
    match cs, hl with
    | [u0, u1], _ => exact ⟨u0, u1, rfl⟩
  obtain ⟨_, _, e65⟩ := field_at Try.underlying32 h 0 rfl 1 (by kernel_rfl)
  obtain ⟨az0, c66, _, wz0⟩ := DataW.trod_int Try.underlying24 e65
  obtain rfl : u0 = .int .u32 az0 := by simpa using c66
  obtain ⟨_, _, e67⟩ := field_at Try.underlying32 h 1 rfl 1 (by kernel_rfl)
  obtain ⟨az1, c68, _, wz1⟩ := DataW.trod_int Try.underlying3 e67
  obtain rfl : u1 = .int .i64 az1 := by simpa using c68
  exact ⟨(az0, az1), rfl, ⟨wz0, wz1⟩⟩

abbrev Elem53 := ByteArray × (Option Addr × Nat × Nat × List Elem32)
def cells53 (z : Elem53) : List Value := [.string (z.1), .slice (z.2.1) (z.2.2.1) (z.2.2.2.1)]
def ok53 (w : World) (z : Elem53) : Prop := (z.1).size ≤ maxLen ∧ IsRowG 2 cells32 ok32 w (z.2.1) (z.2.2.1) (z.2.2.2.1) (z.2.2.2.2)
theorem cells53_length (z : Elem53) : (cells53 z).length = 2 := rfl
theorem elem53 {H : Type} {enc : TypeId × Value → H} {w : World} {base : Nat} {spare : Nat → Bool} {held : Bool} (n : Nat) (cs : List Value) (y : DataW H × List MemPlace)
    (h : DataW.trod enc Try.prog w base spare held n 53 cs = some y) : ∃ z : Elem53, cs = cells53 z ∧ (ok53 w) z := by
  have hl : cs.length = 2 := by
    obtain ⟨_, _, _, _, hl, _⟩ := DataW.trod_struct Try.underlying53 h
    exact hl.trans (by kernel_rfl)
  obtain ⟨u0, u1, rfl⟩ : ∃ u0 u1, cs = [u0, u1] := by
    match cs, hl with
    | [u0, u1], _ => exact ⟨u0, u1, rfl⟩
  obtain ⟨_, _, e69⟩ := field_at Try.underlying53 h 0 rfl 1 (by kernel_rfl)
  obtain ⟨az0, c70, _, wz0⟩ := DataW.trod_string Try.underlying9 e69
  obtain rfl : u0 = .string az0 := by simpa using c70
  obtain ⟨_, _, e71⟩ := field_at Try.underlying53 h 1 rfl 1 (by kernel_rfl)
  obtain ⟨az1, lenz1, capz1, zsz1, c72, rowz1⟩ := open_rowG 2 cells32 ok32 (by omega) cells32_length Try.underlying51 (by kernel_rfl) elem32 e71
  obtain rfl : u1 = .slice az1 lenz1 capz1 := by simpa using c72
  exact ⟨(az0, (az1, lenz1, capz1, zsz1)), rfl, ⟨wz0, rowz1⟩⟩

open Go.Proofs.Ytdkmakjjcfkfaaa.Ma Go.Proofs.Ytdkmakjjcfkfaaa.Ru

/-- A rule out of its cells. -/
def ofE (z : Elem43) : RuleV := match z with
  | (a, b, c, d, e, s0, s1, s2, s3, s4, s5, d0, d1, d2, d3, d4, d5, st, mk, ty, kp, t0, t1, t2, p0, p1, p2, tb) => ⟨a, b, c, d, e, ⟨s0, s1, s2, s3, s4, s5⟩, ⟨d0, d1, d2, d3, d4, d5⟩, st, mk, ty, kp, ⟨t0, t1, t2⟩, ⟨p0, p1, p2⟩, tb⟩

theorem ofE_cells (z : Elem43) : ruleL (ofE z) = cells43 z := rfl

theorem ofE_in {z : Elem43} (h : ok43 z) : RuIn (ofE z) := by
  obtain ⟨hon, hpr, hst, hsa, hsn, hsl, hsh, hdt, hda, hdn, hdl, hdh, hset, hmask, hty, hti, htg, hpi, hpg, htab⟩ := h
  have m : ∀ {x : Nat}, x ≤ maxLen → x ≤ 9223372036854775807 := fun h => h
  exact ⟨⟨(bounds_u32 hsa).1, (bounds_u32 hsa).2, (bounds_u32 hda).1, (bounds_u32 hda).2⟩, m hon, m hst, m hdt, m hti, m hpi⟩

/-- A table out of its cells. -/
def ofN (z : Elem53) : NmV := ⟨z.1, z.2.1, z.2.2.1, z.2.2.2.1, z.2.2.2.2⟩

theorem rules_in {w : World} {p : Option Addr} {n c : Nat} {L : List Elem43} (h : IsRowG 28 cells43 ok43 w p n c L) : RdL w p n (L.map ofE) ∧ ∀ r ∈ L.map ofE, RuIn r := by
  have hin : ∀ r ∈ L.map ofE, RuIn r := fun r hr => by
    obtain ⟨z, hz, rfl⟩ := List.mem_map.1 hr
    exact ofE_in (h.ok z hz)
  have hm := h.room
  have hl := h.le
  unfold maxLen at hm
  exact ⟨⟨(rdK_row (by omega) cells43_length h).map ofE ofE_cells, by omega, fun r hr => (hin r hr).toRuOk⟩, hin⟩

theorem tables_in {w : World} {p : Option Addr} {n c : Nat} {T : List Elem53} (h : IsRowG 2 cells53 (ok53 w) w p n c T) : RdN w p n (T.map ofN) ∧ NameOk (T.map ofN) := by
  have hm := h.room
  have hl := h.le
  unfold maxLen at hm
  refine ⟨⟨(rdK_row (by omega) cells53_length h).map ofN (fun _ => rfl), by omega, fun y hy => ?_⟩, fun y hy => ?_⟩
  · obtain ⟨z, hz, rfl⟩ := List.mem_map.1 hy
    have ho := (h.ok z hz).2
    have h1 := ho.room
    have h2 := ho.le
    unfold maxLen at h1
    exact ⟨rdK_row (by omega) pxL_len ho, by show z.2.2.1 ≤ _; omega, fun q hq => bounds_u32 (ho.ok q hq).1⟩
  · obtain ⟨z, hz, rfl⟩ := List.mem_map.1 hy
    exact (h.ok z hz).1

set_option maxHeartbeats 40000000 in
theorem walk (a0 : Option Addr) (len0 cap0 : Nat) (zs0 : List Elem43) (a1 : Option Addr) (len1 cap1 : Nat) (zs1 : List Elem53) (a2 : ByteArray) (a30a : Int) (a30b : Int) (a30c : Bool) (a30d : Bool) (a30e : Int) (a30f : Int) (a30g : Int) (a30h : Int) (a30i : Int) (a30j : Option Addr) (len30j cap30j : Nat) (zs30j : List Int) (a30k : Option Addr) (len30k cap30k : Nat) (zs30k : List Int) (a31 : Int) (a32 : Int) (a33 : Int) (a34 : Int) (a35 : Int) (a36 : Int) (k37 : Option Addr) (a4 : Int) (w : World) (row0 : IsRowG 28 cells43 ok43 w a0 len0 cap0 zs0) (hl0 : len0 * Try.prog.bytesOf 43 ≤ reachBytes) (row1 : IsRowG 2 cells53 (ok53 w) w a1 len1 cap1 zs1) (hl1 : len1 * Try.prog.bytesOf 53 ≤ reachBytes) (w2 : a2.size ≤ maxLen) (w30a : (Lit.int .i64 a30a).wf = true) (w30b : (Lit.int .i64 a30b).wf = true) (w30e : (Lit.int .i64 a30e).wf = true) (w30f : (Lit.int .i64 a30f).wf = true) (w30g : (Lit.int .i64 a30g).wf = true) (w30h : (Lit.int .u32 a30h).wf = true) (w30i : (Lit.int .u32 a30i).wf = true) (row30j : IsRow .u8 w a30j len30j cap30j zs30j) (row30k : IsRow .u8 w a30k len30k cap30k zs30k) (w31 : (Lit.int .i64 a31).wf = true) (w32 : (Lit.int .i64 a32).wf = true) (w33 : (Lit.int .i64 a33).wf = true) (w34 : (Lit.int .i64 a34).wf = true) (w35 : (Lit.int .i64 a35).wf = true) (w36 : (Lit.int .i64 a36).wf = true) (w4 : (Lit.int .i64 a4).wf = true) (hsh : w.ShapedOpen Try.prog) :
    Calls Try.prog 7 #[.slice a0 len0 cap0, .slice a1 len1 cap1, .string a2, .agg #[.int .i64 a30a, .int .i64 a30b, .bool a30c, .bool a30d, .int .i64 a30e, .int .i64 a30f, .int .i64 a30g, .int .u32 a30h, .int .u32 a30i, .slice a30j len30j cap30j, .slice a30k len30k cap30k, .int .i64 a31, .int .i64 a32, .int .i64 a33, .int .i64 a34, .int .i64 a35, .int .i64 a36, .pointer k37], .int .i64 a4] w fun e w' => e = .returned (.bool true) ∧ Below w.heap.size w w' := by
  obtain ⟨hL0, hI0⟩ := rules_in row0
  have hc0 := row0.nil
  have hcl0 := row0.le
  generalize zs0.map ofE = L0 at *
  obtain ⟨hT, hNm⟩ := tables_in row1
  generalize zs1.map ofN = T at *
  obtain ⟨k, hk⟩ : ∃ k : PkV, k = ⟨a30a, a30b, a30c, a30d, a30e, a30f, a30g, a30h, a30i, a30j, len30j, cap30j, a30k, len30k, cap30k, a31, a32, a33, a34, a35, a36, k37⟩ := ⟨_, rfl⟩
  have hko : PkOk k := by rw [hk]; exact ⟨(bounds_u32 w30h).1, (bounds_u32 w30h).2, (bounds_u32 w30i).1, (bounds_u32 w30i).2⟩
  show Calls Try.prog 7 #[.slice a0 len0 cap0, .slice a1 len1 cap1, .string a2, .agg (pkL ⟨a30a, a30b, a30c, a30d, a30e, a30f, a30g, a30h, a30i, a30j, len30j, cap30j, a30k, len30k, cap30k, a31, a32, a33, a34, a35, a36, k37⟩).toArray, .int .i64 a4] w _
  rw [← hk]
  clear hk w30a w30b w30e w30f w30g w30h w30i row30j row30k w31 w32 w33 w34 w35 w36 w2 w4 row0 row1
  obtain ⟨W, hW⟩ : ∃ W, w.alloc (.cells (pkL k).toArray 30) = W := ⟨_, rfl⟩
  have hx0 : Ext w W := hW ▸ (Ext.refl w).alloc _
  have hb0 := hW ▸ heap_new w (.cells (pkL k).toArray 30)
  have HPK : Hid (PkAt W w.heap.size k) := pkAt hb0
  have HP : Hid _ := HPK.out.all
  obtain ⟨gl, hgl⟩ := long_any k
  have HG : Hid _ := hgl
  have HH : Hid (∀ L q m c, RdL W q m L → (∀ r ∈ L, RuIn r) → ∀ w', Ext W w' → Calls Try.prog 8 #[.slice q m c, .slice a1 len1 cap1] w' fun e w2 => e = .returned (.bool (decide (heavyT T (heavyR L 4000) < 0))) ∧ Ext w' w2) := fun L q m c h1 h2 w' hx => heavy_any q m c L a1 len1 cap1 T w' (h1.ext hx) h2 ((hT.ext hx0).ext hx) hNm
  have HT0 : Hid (RdN W a1 len1 T) := hT.ext hx0
  have HO : Hid (∀ r, RuOk r → ∀ w', Ext W w' → Calls Try.prog 10 #[.agg (ruleL r).toArray, .slice a1 len1 cap1, .string a2, .agg (pkL k).toArray] w' fun e w2 => e = .returned (.bool (oneV r T a2 k)) ∧ Ext w' w2) :=
    fun r hr w' hx => one_any r a1 len1 cap1 T a2 k w' ((hT.ext hx0).ext hx) hr hko
  have HQ : Hid (∀ r, RuOk r → ∀ w', Ext W w' → Calls Try.prog 11 #[.agg (ruleL r).toArray, .slice a1 len1 cap1, .string a2, .agg (pkL k).toArray] w' fun e w2 => e = .returned (.bool (oneV r T a2 k)) ∧ Ext w' w2) :=
    fun r hr w' hx => refOne_any r a1 len1 cap1 T a2 k w' ((hT.ext hx0).ext hx) hr hko
  have HA1 : Hid (∀ L q m c w', Ext W w' → RdL w' q m L → Calls Try.prog 12 #[.slice q m c, .slice a1 len1 cap1, .string a2, .agg (pkL k).toArray] w' fun e w2 => e = .returned (.int .i64 (lastV (fun r => oneV r T a2 k) L)) ∧ Ext w' w2) :=
    fun L q m c w' hx hl => last_any q m c L a1 len1 cap1 T a2 k w' hl ((hT.ext hx0).ext hx) hko
  have HA2 : Hid (∀ L q m c w', Ext W w' → RdL w' q m L → Calls Try.prog 13 #[.slice q m c, .slice a1 len1 cap1, .string a2, .agg (pkL k).toArray] w' fun e w2 => e = .returned (.int .i64 (lastV (fun r => oneV r T a2 k) L)) ∧ Ext w' w2) :=
    fun L q m c w' hx hl => refLast_any q m c L a1 len1 cap1 T a2 k w' hl ((hT.ext hx0).ext hx) hko
  have lk := pkL_len k
  have HX0 : Hid (Ext w W) := hx0
  have hsz : W.heap.size = w.heap.size + 1 := by rw [← hW]; simp
  have hz := reach_rules hl0
  have hrl := hL0.ext hx0
  have hrm := hL0.le
  have HS0 : Hid (SrcR W a0 len0 cap0 L0) := ⟨hL0.row.ext hx0, hc0⟩
  have HOK : Hid (∀ r ∈ L0, RuOk r) := hL0.ok
  have HM : Hid (L0.length = len0) := hL0.row.len
  have hh := HH.out L0 a0 len0 cap0 (hL0.ext hx0) hI0
  have HB2 : Hid (∀ w', Ext W w' → Calls Try.prog 13 #[.slice a0 len0 cap0, .slice a1 len1 cap1, .string a2, .agg (pkL k).toArray] w' fun e w2 => e = .returned (.int .i64 (lastV (fun r => oneV r T a2 k) L0)) ∧ Ext w' w2) := fun w' hx => HA2.out L0 a0 len0 cap0 w' hx (hrl.ext hx)
  have HNO : Hid (∀ on : ByteArray, on.toList ≠ [] → on.toList ≠ a2.toList → oneV (plainV true true on) T a2 k = false) := fun on h0 h1 => one_off true true T on a2 k h0 h1
  generalize decide (heavyT T (heavyR L0 4000) < 0) = gh at *
  obtain ⟨f, hf⟩ : ∃ f, (fun r => oneV r T a2 k) = f := ⟨_, rfl⟩
  have hf' : ∀ r, oneV r T a2 k = f r := fun r => congrFun hf r
  simp only [hf'] at HNO
  simp only [hf] at HA1 HB2
  have HD : Hid _ := hh
  clear hL0 hI0 hT hNm hko hgl hb0 hx0 hc0 hl0 HPK HH HT0 hf hf' HO HQ HA2 hh hrl
  generalize pkL k = ck at *
  cases gh with
  | true =>
    go_enter Try.func7, Try.ntmps7
    go_wp2_with (first
      | (go_at_call 8; refine (HD.out _ (Ext.refl _)).mono ?_; rintro e w1 ⟨rfl, hv⟩))
    go_ret
    exact ⟨rfl, (HX0.out.trans hv).below⟩
  | false =>
    cases gl with
    | true =>
      go_enter Try.func7, Try.ntmps7
      go_wp2_with (first
        | (go_at_call 8; refine (HD.out _ (Ext.refl _)).mono ?_; rintro e w1 ⟨rfl, hv⟩)
        | (go_at_call 9; refine (HG.out _).mono ?_; rintro e w2 ⟨rfl, hv2⟩)
        | (refine wpl_range (by rfl) 30 _ rfl w.heap.size 0 _ _ rfl (HP.out _ hv) Try.underlying30 rfl (by rw [lk]; exact pk_size) ?_))
      go_ret
      exact ⟨rfl, (HX0.out.trans (hv.trans hv2)).below⟩
    | false =>
      by_cases h1 : (100 : Int) < (a2.size : Int)
      · go_enter Try.func7, Try.ntmps7
        go_wp2_with (first
          | (go_at_call 8; refine (HD.out _ (Ext.refl _)).mono ?_; rintro e w1 ⟨rfl, hv⟩)
          | (go_at_call 9; refine (HG.out _).mono ?_; rintro e w2 ⟨rfl, hv2⟩)
          | (refine wpl_range (by rfl) 30 _ rfl w.heap.size 0 _ _ rfl (HP.out _ hv) Try.underlying30 rfl (by rw [lk]; exact pk_size) ?_))
        go_ret
        exact ⟨rfl, (HX0.out.trans (hv.trans hv2)).below⟩
      have hrm' : (len0 : Int) ≤ 567489872400 := by omega
      go_enter Try.func7, Try.ntmps7
      go_wp2_with (first
        | (go_at_call 8; refine (HD.out _ (Ext.refl _)).mono ?_; rintro e w1 ⟨rfl, hv⟩)
        | (go_at_call 9; refine (HG.out _).mono ?_; rintro e w2 ⟨rfl, hv2⟩)
        | (go_at_call 17; refine (plain_any true _).mono ?_; rintro e wa3 ⟨rfl, hx3⟩; have tok1 : Hid True := trivial)
        | (refine wpl_store (by rfl) 43 _ _ rfl rfl 28 wa3.heap.size (ruleL (plainV true false ⟨#[]⟩)).toArray _ _ rfl rfl (heap_new wa3 _) rule_size rfl rfl (rule_one _) ?_; intro wb4 hy4 k4; clear tok1; have K4 : Hid _ := k4; have hz4 : Ext wa3 wb4 := ExtX.ext ((Ext.refl wa3).alloc _) hy4 (Nat.le_refl _); clear hy4 k4)
        | (refine wpl_put (by rfl) 9 _ _ rfl rfl wa3.heap.size 3 [Value.string (a2 ++ ⟨#[120]⟩)] _ _ rfl rfl K4.out text_size (by show 3 + 1 ≤ 28; omega) (by simp [Value.oneCell']) ?_; intro wb5 hy5 k5; have K5 : Hid (wb5.heap[wa3.heap.size]? = some (.cells (ruleL (plainV true false (a2 ++ ⟨#[120]⟩))).toArray 43 (0, 0))) := k5; have hz5 : Ext wa3 wb5 := ExtX.ext hz4 hy5 (Nat.le_refl _); clear hy5 k5 hz4)
        | (refine wpl_put (by rfl) 4 _ _ rfl rfl wa3.heap.size 2 [Value.bool true] _ _ rfl rfl K5.out bool_size (by show 2 + 1 ≤ 28; omega) (by simp [Value.oneCell']) ?_; intro wb6 hy6 k6; have K6 : Hid (wb6.heap[wa3.heap.size]? = some (.cells (ruleL (plainV true true (a2 ++ ⟨#[120]⟩))).toArray 43 (0, 0))) := k6; have hz6 : Ext wa3 wb6 := ExtX.ext hz5 hy6 (Nat.le_refl _); clear hy6 k6 hz5)
        | (refine wpl_range (by rfl) 30 _ rfl w.heap.size 0 _ _ rfl (HP.out _ hv) Try.underlying30 rfl (by rw [lk]; exact pk_size) ?_))
      have hxb : Ext W wb6 := ((hv.trans hv2).trans hx3).trans hz6
      have hob : wa3.heap.size < wb6.heap.size := blk_lt K6.out
      obtain ⟨on, hon⟩ : ∃ on, a2 ++ ⟨#[120]⟩ = on := ⟨_, rfl⟩
      have hof : f (plainV true true on) = false := by rw [← hon]; exact HNO.out _ (more_ne a2).1 (more_ne a2).2
      rw [hon] at K6
      obtain ⟨kk, hkk, hkn⟩ := place_in a4 len0
      rw [hkk]
      obtain ⟨r0, hr0⟩ : ∃ r, plainV true true on = r := ⟨_, rfl⟩
      have hok0 : RuOk r0 := hr0 ▸ ruOk_plain true true on
      rw [hr0] at K6 hof
      have HK6 : Hid (∀ w', ExtN wb6.heap.size wb6 w' → w'.heap[wa3.heap.size]? = some (.cells (ruleL r0).toArray 43 (0, 0))) := fun w' h => (h.block _ hob hob).trans K6.out
      have HN : Hid (∀ w', ExtN wb6.heap.size wb6 w' → Ext W w') := fun w' h => ext_N hxb h hxb.size
      have HC1 : Hid (∀ w', Ext W w' → SrcR w' (cutP a0 cap0 0) kk cap0 (L0.take kk)) := fun w' hx => by have h := (HS0.out.ext hx).cut hcl0 0 kk (Nat.zero_le _) hkn; exact h
      have HC2 : Hid (∀ w', Ext W w' → SrcR w' (cutP a0 cap0 kk) (len0 - kk) (cap0 - kk) (L0.drop kk)) := fun w' hx => by
        have h := (HS0.out.ext hx).cut hcl0 kk len0 hkn (Nat.le_refl _)
        rwa [List.take_of_length_le (by rw [HM.out]; exact Nat.le_refl _)] at h
      have hz1 : kk * 248 ≤ 140737488355328 := by omega
      have hz2 : (kk + 1) * 248 ≤ 140737488355328 := by omega
      have hz3 : (kk + 1 + (len0 - kk)) * 248 ≤ 140737488355328 := by omega
      have hlk : (L0.take kk).length = kk := by rw [List.length_take, HM.out]; omega
      have HKC : Hid (kk ≤ cap0 ∧ kk ≤ len0 ∧ len0 ≤ cap0) := ⟨by omega, hkn, hcl0⟩
      have HP2 : Hid (∀ w', Ext W w' → w'.rangeAt w.heap.size 0 ck) := HP.out
      have HLN : Hid ((ruleL r0).length = 28) := ruleL_len r0
      clear hv hv2 hx3 hz6 K4 K5 K6 HNO HD HG h1 hkk hon hob hW
      refine wp_region_makeN wb6.heap.size wb6.heap.size (Nat.le_refl _) [(1, 0), (2, 0), (3, 0), (5, 0), (8, 0), (9, 0), (10, 0), (0, 3), (6, 3), (0, 2), (4, 1), (6, 2), (7, 4), (11, 4), (12, 0)] (by kernel_rfl) (by kernel_rfl) rfl (by kernel_rfl) (fun _ _ _ _ _ => Iff.rfl) ?_
      have hxd : ExtN wb6.heap.size wb6 wb6.drew := (Ext.refl wb6).drew.upto _
      have hsd : wb6.heap.size ≤ wb6.drew.heap.size := hxd.size
      obtain ⟨W1, hW1⟩ : ∃ W1, wb6.drew = W1 := ⟨_, rfl⟩
      rw [hW1] at hxd hsd ⊢
      clear hW1
      iterate 2 (refine wpW_read (v := ?_) rfl (by rfl) ?_ ?_; rotate_left; (focus (intro w' hx; go_simp; first | done | with_reducible rfl)); simp only [Act.put, List.setIfInBounds_toArray, List.set_cons_zero, List.set_cons_succ])
      (refine wpW_read rfl (by rfl) (fun w' hx => exec_cut_hi _ _ rfl a0 len0 cap0 kk rfl rfl HKC.out.1) ?_; simp only [Act.put, List.setIfInBounds_toArray, List.set_cons_zero, List.set_cons_succ])
      (refine wpW_read rfl (by rfl) (fun w' hx => exec_load 43 _ rfl wa3.heap.size _ _ _ rfl (HK6.out _ (hxd.trans hx)) Try.underlying43 rfl (by rw [List.size_toArray, HLN.out]; exact rule_size)) ?_; simp only [Act.put, List.setIfInBounds_toArray, List.set_cons_zero, List.set_cons_succ])
      iterate 2 (refine wpW_read (v := ?_) rfl (by rfl) ?_ ?_; rotate_left; (focus (intro w' hx; go_simp; first | done | with_reducible rfl)); simp only [Act.put, List.setIfInBounds_toArray, List.set_cons_zero, List.set_cons_succ])
      (refine wpW_read rfl (by rfl) (fun w' hx => exec_cut_lo _ _ rfl a0 len0 cap0 kk rfl rfl HKC.out.2.1 HKC.out.2.2) ?_; simp only [Act.put, List.setIfInBounds_toArray, List.set_cons_zero, List.set_cons_succ])
      (refine wpW_say _ (fun g => .slice (some ⟨g, 0, none⟩) 0 0) rfl (by rfl) (fun w' => by go_simp; first | done | with_reducible rfl) ?_)
      (refine wpW_say _ (fun g => .slice (some ⟨g, 0, none⟩) 1 1) rfl (by rfl) (fun w' => exec_rules [r0] (by simp) (by simp) _ rfl rfl) ?_)
      refine wpW_make _ (fun g => .slice (some ⟨g, 0, none⟩) 0 0) rfl (by rfl) (fun w' => by go_simp; first | done | with_reducible rfl) ?_; simp only [Act.put, List.setIfInBounds_toArray, List.set_cons_zero, List.set_cons_succ]
      intro W2 g hx2 hBg hg
      have hw1 : Ext W W1 := HN.out W1 hxd
      (refine wpW_call rfl (by rfl) (fun W3 hx3 K hK => ?_); refine wp_app0 (.tmp 38) (.tmp 41) rfl wb6.heap.size g rfl (hx3.heap hg) hBg (cutP a0 cap0 0) kk cap0 (L0.take kk) rfl (HC1.out _ (hw1.trans (hx2.trans hx3))) hz1 ?_; intro v W4 ho hx4; refine hK _ _ hx4 ?_; clear hK K)
      simp only [Act.put, List.setIfInBounds_toArray, List.set_cons_zero, List.set_cons_succ]
      have hw4 : Ext W W4 := hw1.trans (hx2.trans (hx3.trans hx4))
      obtain ⟨q4, c4, rfl, -⟩ := ho.src
      refine wpW_make _ (fun g => .slice (some ⟨g, 0, none⟩) 1 1) rfl (by rfl) (fun w' => exec_rules [r0] (by simp) (by simp) _ rfl rfl) ?_
      simp only [Act.put, List.setIfInBounds_toArray, List.set_cons_zero, List.set_cons_succ]
      intro W5 g2 hx5 hB2 hg2
      have hw5 : Ext W W5 := hw4.trans hx5
      have hs5 : wb6.heap.size ≤ W5.heap.size := Nat.le_trans hB2 (Nat.le_of_lt (blk_lt hg2))
      have src5 : SrcR W5 (some ⟨g2, 0, none⟩) 1 1 [r0] := ⟨rdK_block (L := [r0]) (rest := []) ruleL_len (by rw [List.append_nil]; exact hg2), by simp⟩
      have ho5 := ho.later hx5
      (refine wpW_last rfl (by rfl) (fun K hK => ?_); refine wp_app (.tmp 42) (.tmp 44) rfl wb6.heap.size _ (L0.take kk) rfl ho5 _ 1 1 [r0] rfl src5 (by rw [hlk]; exact hz2) hs5 ?_; intro v6 W6 ho6 hg6; refine hK _ _ (grown_N ho5 hg6) ?_; clear hK K)
      have hw6 : Ext W W6 := ext_N hw5 (grown_N ho5 hg6) hxb.size
      have hs6 : wb6.heap.size ≤ W6.heap.size := Nat.le_trans hs5 hg6.size
      simp only [Act.put, List.setIfInBounds_toArray, List.set_cons_zero, List.set_cons_succ]
      obtain ⟨q6, c6, rfl, -⟩ := ho6.src
      (refine wpW_last rfl (by rfl) (fun K hK => ?_); refine wp_app (.tmp 45) (.tmp 48) rfl wb6.heap.size _ (L0.take kk ++ [r0]) rfl ho6 _ (len0 - kk) _ (L0.drop kk) rfl (HC2.out _ hw6) (by rw [List.length_append, hlk]; exact hz3) hs6 ?_; intro v7 W7 ho7 hg7; refine hK _ _ (grown_N ho6 hg7) ?_; clear hK K)
      have hw7 : Ext W W7 := ext_N hw6 (grown_N ho6 hg7) hxb.size
      simp only [Act.put, List.setIfInBounds_toArray, List.set_cons_zero, List.set_cons_succ]
      obtain ⟨q7, c7, rfl, hs7⟩ := ho7.src
      obtain ⟨M, hM⟩ : ∃ M, L0.take kk ++ [r0] ++ L0.drop kk = M := ⟨_, rfl⟩
      have hMl : M.length = len0 + 1 := by rw [← hM, List.length_append, List.length_append, hlk, List.length_drop, HM.out, List.length_singleton]; omega
      have hsk : Skip kk (lastV f L0) (lastV f M) := by
        have h := skip_in (f := f) hof (L0.drop kk) (L0.take kk) (-1) 0 kk (by rw [hlk]; omega) (by omega) (by omega)
        rw [List.take_append_drop] at h
        rw [← hM, List.append_assoc]
        exact h
      have hbd := lastK_bd (f := f) L0 (-1) 0 (by omega) (by omega)
      rw [HM.out] at hbd
      have hbd' : -1 ≤ lastV f L0 ∧ lastV f L0 < (len0 : Int) := ⟨hbd.1, by have := hbd.2; unfold lastV; omega⟩
      have hMo : ∀ r ∈ M, RuOk r := fun r hr => by
        rw [← hM] at hr
        rcases List.mem_append.1 hr with hr | hr
        · rcases List.mem_append.1 hr with hr | hr
          · exact HOK.out r (List.mem_of_mem_take hr)
          · rw [List.mem_singleton.1 hr]; exact hok0
        · exact HOK.out r (List.mem_of_mem_drop hr)
      rw [hM] at hs7 ⊢
      rw [hMl] at hs7 ⊢
      generalize (L0.take kk ++ [r0]).length = n6 at *
      generalize (L0.take kk).length = n4 at *
      (refine wpW_read (v := ?_) rfl (by rfl) ?_ ?_; rotate_left; (focus (intro w' hx; go_simp; first | done | with_reducible rfl)); simp only [Act.put, List.setIfInBounds_toArray, List.set_cons_zero, List.set_cons_succ])
      refine wpW_done ?_
      have HS7 : Hid (∀ w', Ext W7 w' → RdL w' q7 (len0 + 1) M) := fun w' h => rdL_src (hs7.ext h) (by omega) hMo
      have HLA : Hid (∀ w', Ext W7 w' → Calls Try.prog 12 #[.slice q7 (len0 + 1) c7, .slice a1 len1 cap1, .string a2, .agg ck.toArray] w' fun e w2 => e = .returned (.int .i64 (lastV f M)) ∧ Ext w' w2) := fun w' h => HA1.out M q7 (len0 + 1) c7 w' (hw7.trans h) (HS7.out w' h)
      have HLB := HB2.out
      generalize lastV f M = y at *
      generalize lastV f L0 = x at *
      have hp7 := HP2.out W7 hw7
      have hw7' : Hid (Ext W W7) := hw7
      clear hM hMl hbd hMo hs7 hg7 ho7 hg6 ho6 ho5 src5 hg2 hB2 hx5 ho hx4 hx3 hx2 hw1 hw4 hw5 hw6 hs5 hs6 hg hBg hxd hsd HC1 HC2 HN HK6 hof HOK hok0 hlk hz1 hz2 hz3 HP hr0
      have ar : (x : Int) ≤ 567489872400 := by omega

      rcases hsk with ⟨hyx, hlt⟩ | ⟨hyx, hge⟩
      · have hno : ¬ ((kk : Int) ≤ x) := by omega
        subst y
        go_wp2_with (refine wpl_range (by rfl) 30 _ rfl w.heap.size 0 _ _ rfl hp7 Try.underlying30 rfl (by rw [lk]; exact pk_size) ?_)
        go_at_call 13
        refine (HLB _ hw7).mono ?_
        rintro e w8 ⟨rfl, hx8⟩
        clear hp7 HLB
        have hp8 := HP2.out w8 (hw7'.out.trans hx8)
        go_wp2_with (refine wpl_range (by rfl) 30 _ rfl w.heap.size 0 _ _ rfl hp8 Try.underlying30 rfl (by rw [lk]; exact pk_size) ?_)
        go_at_call 12
        refine (HLA.out _ hx8).mono ?_
        rintro e w9 ⟨rfl, hx9⟩
        clear hp8
        go_wp2_with (go_at_call 16; refine (known_any _).mono ?_; rintro e wk ⟨rfl, hxk⟩)
        go_ret
        exact ⟨by simp, (HX0.out.trans (hw7'.out.trans (hx8.trans (hx9.trans hxk)))).below⟩
      · subst y
        go_wp2_with (refine wpl_range (by rfl) 30 _ rfl w.heap.size 0 _ _ rfl hp7 Try.underlying30 rfl (by rw [lk]; exact pk_size) ?_)
        go_at_call 13
        refine (HLB _ hw7).mono ?_
        rintro e w8 ⟨rfl, hx8⟩
        clear hp7 HLB
        have hp8 := HP2.out w8 (hw7'.out.trans hx8)
        go_wp2_with (refine wpl_range (by rfl) 30 _ rfl w.heap.size 0 _ _ rfl hp8 Try.underlying30 rfl (by rw [lk]; exact pk_size) ?_)
        go_at_call 12
        refine (HLA.out _ hx8).mono ?_
        rintro e w9 ⟨rfl, hx9⟩
        clear hp8
        go_wp2_with (go_at_call 16; refine (known_any _).mono ?_; rintro e wk ⟨rfl, hxk⟩)
        go_ret
        exact ⟨by simp, (HX0.out.trans (hw7'.out.trans (hx8.trans (hx9.trans hxk)))).below⟩

theorem contract (H : Type) (enc : TypeId × Value → H) (W : World) (base : Nat) (args : Array Value) (ds gs : List (DataW H)) (before : List MemPlace)
    (hval : ∀ (j : Nat) t v, Try.f7.params[j]? = some t → args[j]? = some v → Value.okWide Try.prog W .any base t v)
    (hW : DataW.Whole enc Try.prog Try.f7.params.toList Rows.matchNoneSpec.vars false W args.toList ds gs before) (hsh : W.ShapedOpen Try.prog) (ts : List TypeId) (hz : (DataW.weightsEach Try.prog (Try.f7.params.toList ++ ts) (ds ++ gs)).all (· ≤ reachBytes) = true) :
    Calls Try.prog 7 args W fun e W' => ∃ v, e = .returned v ∧ Rows.matchNoneSpec.post enc Try.prog Try.f7 false true false false W args v W' := by
  have hW' := hW
  obtain ⟨p, q, hA0, hV, rfl, hfz, hnd⟩ := hW
  have hA : DataW.TrodAll enc Try.prog W 0 (fun _ => true) true Try.f7.params.toList args.toList ds p := hA0
  rw [Try.params7] at hA hval hz
  obtain ⟨v0, vs0, d0, ds0, p0, q0, hargs, rfl, rfl, h0, r0⟩ := trodAll_cons hA
  obtain ⟨v1, vs1, d1, ds1, p1, q1, rfl, rfl, rfl, h1, r1⟩ := trodAll_cons r0
  obtain ⟨v2, vs2, d2, ds2, p2, q2, rfl, rfl, rfl, h2, r2⟩ := trodAll_cons r1
  obtain ⟨v3, vs3, d3, ds3, p3, q3, rfl, rfl, rfl, h3, r3⟩ := trodAll_cons r2
  obtain ⟨v4, vs4, d4, ds4, p4, q4, rfl, rfl, rfl, h4, r4⟩ := trodAll_cons r3
  obtain ⟨rfl, rfl, rfl⟩ := trodAll_nil r4
  obtain rfl : args = #[v0, v1, v2, v3, v4] := by cases args; simp_all
  obtain ⟨rfl, rfl⟩ := trodVars_none hV
  have k0 := h0
  have lt0 : ∀ x ∈ p0, x.block < W.heap.size := by obtain ⟨m, hm⟩ := k0; exact DataW.trod_lt m _ _ _ hm
  obtain ⟨b0, l0, c0, rfl⟩ := okWide_slice Try.underlying22 (hval 0 22 v0 rfl rfl)
  obtain ⟨fu0, hf0⟩ := h0
  obtain ⟨a0, len0, cap0, zs0, ce0, row0⟩ := open_rowG 28 cells43 ok43 (by omega) cells43_length Try.underlying22 (by kernel_rfl) elem43 hf0
  obtain ⟨rfl, rfl, rfl⟩ : a0 = b0 ∧ len0 = l0 ∧ cap0 = c0 := by simpa [Value.cells, eq_comm] using ce0
  have hl0 := row_bytes Try.underlying22 (show DataW.trod enc _ _ _ _ _ _ _ [.slice a0 len0 cap0] = some (d0, _) by simpa [Value.cells] using hf0) hz (j := 0) rfl rfl
  have k1 := h1
  have lt1 : ∀ x ∈ p1, x.block < W.heap.size := by obtain ⟨m, hm⟩ := k1; exact DataW.trod_lt m _ _ _ hm
  obtain ⟨b1, l1, c1, rfl⟩ := okWide_slice Try.underlying23 (hval 1 23 v1 rfl rfl)
  obtain ⟨fu1, hf1⟩ := h1
  obtain ⟨a1, len1, cap1, zs1, ce1, row1⟩ := open_rowG 2 cells53 (ok53 W) (by omega) cells53_length Try.underlying23 (by kernel_rfl) elem53 hf1
  obtain ⟨rfl, rfl, rfl⟩ : a1 = b1 ∧ len1 = l1 ∧ cap1 = c1 := by simpa [Value.cells, eq_comm] using ce1
  have hl1 := row_bytes Try.underlying23 (show DataW.trod enc _ _ _ _ _ _ _ [.slice a1 len1 cap1] = some (d1, _) by simpa [Value.cells] using hf1) hz (j := 1) rfl rfl
  obtain ⟨a2, rfl, rfl, rfl, w2⟩ := open_string Try.underlying9 (hval 2 9 v2 rfl rfl) h2
  have k3 := h3
  have lt3 : ∀ x ∈ p3, x.block < W.heap.size := by obtain ⟨m, hm⟩ := k3; exact DataW.trod_lt m _ _ _ hm
  obtain ⟨cs3, rfl, hs3⟩ := okWide_struct Try.underlying30 (hval 3 30 v3 rfl rfl)
  obtain ⟨u3a, u3b, u3c, u3d, u3e, u3f, u3g, u3h, u3i, u3j, u3k, u3l, u3m, u3n, u3o, u3p, u3q, u3r, rfl⟩ := arr18 (hs3.trans (by kernel_rfl))
  obtain ⟨fu3, hf3⟩ := h3
  obtain ⟨_, _, e73⟩ := field_at Try.underlying30 hf3 0 rfl 11 (by kernel_rfl)
  obtain ⟨_, _, e74⟩ := field_at Try.underlying27 e73 0 rfl 1 (by kernel_rfl)
  obtain ⟨a30a, c75, _, w30a⟩ := DataW.trod_int Try.underlying3 e74
  obtain rfl : u3a = .int .i64 a30a := by simpa [Value.cells] using c75
  obtain ⟨_, _, e76⟩ := field_at Try.underlying27 e73 1 rfl 1 (by kernel_rfl)
  obtain ⟨a30b, c77, _, w30b⟩ := DataW.trod_int Try.underlying3 e76
  obtain rfl : u3b = .int .i64 a30b := by simpa [Value.cells] using c77
  obtain ⟨_, _, e78⟩ := field_at Try.underlying27 e73 2 rfl 1 (by kernel_rfl)
  obtain ⟨a30c, c79, _⟩ := DataW.trod_bool Try.underlying4 e78
  obtain rfl : u3c = .bool a30c := by simpa [Value.cells] using c79
  obtain ⟨_, _, e80⟩ := field_at Try.underlying27 e73 3 rfl 1 (by kernel_rfl)
  obtain ⟨a30d, c81, _⟩ := DataW.trod_bool Try.underlying4 e80
  obtain rfl : u3d = .bool a30d := by simpa [Value.cells] using c81
  obtain ⟨_, _, e82⟩ := field_at Try.underlying27 e73 4 rfl 1 (by kernel_rfl)
  obtain ⟨a30e, c83, _, w30e⟩ := DataW.trod_int Try.underlying3 e82
  obtain rfl : u3e = .int .i64 a30e := by simpa [Value.cells] using c83
  obtain ⟨_, _, e84⟩ := field_at Try.underlying27 e73 5 rfl 1 (by kernel_rfl)
  obtain ⟨a30f, c85, _, w30f⟩ := DataW.trod_int Try.underlying3 e84
  obtain rfl : u3f = .int .i64 a30f := by simpa [Value.cells] using c85
  obtain ⟨_, _, e86⟩ := field_at Try.underlying27 e73 6 rfl 1 (by kernel_rfl)
  obtain ⟨a30g, c87, _, w30g⟩ := DataW.trod_int Try.underlying3 e86
  obtain rfl : u3g = .int .i64 a30g := by simpa [Value.cells] using c87
  obtain ⟨_, _, e88⟩ := field_at Try.underlying27 e73 7 rfl 1 (by kernel_rfl)
  obtain ⟨a30h, c89, _, w30h⟩ := DataW.trod_int Try.underlying24 e88
  obtain rfl : u3h = .int .u32 a30h := by simpa [Value.cells] using c89
  obtain ⟨_, _, e90⟩ := field_at Try.underlying27 e73 8 rfl 1 (by kernel_rfl)
  obtain ⟨a30i, c91, _, w30i⟩ := DataW.trod_int Try.underlying24 e90
  obtain rfl : u3i = .int .u32 a30i := by simpa [Value.cells] using c91
  obtain ⟨_, _, e92⟩ := field_at Try.underlying27 e73 9 rfl 1 (by kernel_rfl)
  obtain ⟨a30j, len30j, cap30j, zs30j, c93, row30j⟩ := open_rowI Try.underlying25 Try.underlying5 (by kernel_rfl) (fun _ => rfl) e92
  obtain rfl : u3j = .slice a30j len30j cap30j := by simpa [Value.cells] using c93
  obtain ⟨_, _, e94⟩ := field_at Try.underlying27 e73 10 rfl 1 (by kernel_rfl)
  obtain ⟨a30k, len30k, cap30k, zs30k, c95, row30k⟩ := open_rowI Try.underlying25 Try.underlying5 (by kernel_rfl) (fun _ => rfl) e94
  obtain rfl : u3k = .slice a30k len30k cap30k := by simpa [Value.cells] using c95
  obtain ⟨_, _, e96⟩ := field_at Try.underlying30 hf3 1 rfl 1 (by kernel_rfl)
  obtain ⟨a31, c97, _, w31⟩ := DataW.trod_int Try.underlying3 e96
  obtain rfl : u3l = .int .i64 a31 := by simpa [Value.cells] using c97
  obtain ⟨_, _, e98⟩ := field_at Try.underlying30 hf3 2 rfl 1 (by kernel_rfl)
  obtain ⟨a32, c99, _, w32⟩ := DataW.trod_int Try.underlying3 e98
  obtain rfl : u3m = .int .i64 a32 := by simpa [Value.cells] using c99
  obtain ⟨_, _, e100⟩ := field_at Try.underlying30 hf3 3 rfl 1 (by kernel_rfl)
  obtain ⟨a33, c101, _, w33⟩ := DataW.trod_int Try.underlying3 e100
  obtain rfl : u3n = .int .i64 a33 := by simpa [Value.cells] using c101
  obtain ⟨_, _, e102⟩ := field_at Try.underlying30 hf3 4 rfl 1 (by kernel_rfl)
  obtain ⟨a34, c103, _, w34⟩ := DataW.trod_int Try.underlying3 e102
  obtain rfl : u3o = .int .i64 a34 := by simpa [Value.cells] using c103
  obtain ⟨_, _, e104⟩ := field_at Try.underlying30 hf3 5 rfl 1 (by kernel_rfl)
  obtain ⟨a35, c105, _, w35⟩ := DataW.trod_int Try.underlying3 e104
  obtain rfl : u3p = .int .i64 a35 := by simpa [Value.cells] using c105
  obtain ⟨_, _, e106⟩ := field_at Try.underlying30 hf3 6 rfl 1 (by kernel_rfl)
  obtain ⟨a36, c107, _, w36⟩ := DataW.trod_int Try.underlying3 e106
  obtain rfl : u3q = .int .i64 a36 := by simpa [Value.cells] using c107
  obtain ⟨_, _, e108⟩ := field_at Try.underlying30 hf3 7 rfl 1 (by kernel_rfl)
  obtain ⟨k37, c109⟩ := open_ptrA Try.underlying28 e108
  obtain rfl : u3r = .pointer k37 := by simpa [Value.cells] using c109
  obtain ⟨a4, rfl, rfl, rfl, w4⟩ := open_int Try.underlying3 (hval 4 3 v4 rfl rfl) h4
  clear hA0
  refine (walk a0 len0 cap0 zs0  a1 len1 cap1 zs1  a2 a30a a30b a30c a30d a30e a30f a30g a30h a30i a30j len30j cap30j zs30j a30k len30k cap30k zs30k a31 a32 a33 a34 a35 a36 k37 a4 W row0 hl0 row1 hl1 w2 w30a w30b w30e w30f w30g w30h w30i row30j row30k w31 w32 w33 w34 w35 w36 w4 hsh).mono fun e W' ⟨he, bel⟩ => ?_
  subst he
  exact ⟨_, rfl, _, _, _, [], _, [], hW', trodAll_mk1 (shut_bool Try.underlying4 _), (trodAll_cons_mk (Below.trod laidOut (by kernel_rfl) (of_decide_eq_true (by kernel_rfl)) k0 bel lt0) (trodAll_cons_mk (Below.trod laidOut (by kernel_rfl) (of_decide_eq_true (by kernel_rfl)) k1 bel lt1) (trodAll_cons_mk (shut_string Try.underlying9 w2) (trodAll_cons_mk (Below.trod laidOut (by kernel_rfl) (of_decide_eq_true (by kernel_rfl)) k3 bel lt3) (trodAll_cons_mk (shut_int Try.underlying3 w4) trodAll_mk0))))), rfl, bel.frame _, fun h => by cases h⟩

theorem laid_met (os : Os) : laidMet Try.prog Rows.matchNoneRow.laid ((World.doorLaid Try.prog 24 os).forCall (fun _ _ => 0) ⟨#[], #[.slice none 0 0, .slice none 0 0, .string ⟨#[]⟩, .agg #[.int .i64 0, .int .i64 0, .bool false, .bool false, .int .i64 0, .int .i64 0, .int .i64 0, .int .u32 0, .int .u32 0, .slice none 0 0, .slice none 0 0, .int .i64 0, .int .i64 0, .int .i64 0, .int .i64 0, .int .i64 0, .int .i64 0, .pointer none], .int .i64 0], []⟩).memory :=
  laidMet_of_run' 8 (by kernel_rfl) (by kernel_rfl)
theorem reads (os : Os) {H : Type} (enc : TypeId × Value → H) : ∃ places, DataW.whole enc Try.prog ((World.doorLaid Try.prog 24 os).forCall (fun _ _ => 0) ⟨#[], #[.slice none 0 0, .slice none 0 0, .string ⟨#[]⟩, .agg #[.int .i64 0, .int .i64 0, .bool false, .bool false, .int .i64 0, .int .i64 0, .int .i64 0, .int .u32 0, .int .u32 0, .slice none 0 0, .slice none 0 0, .int .i64 0, .int .i64 0, .int .i64 0, .int .i64 0, .int .i64 0, .int .i64 0, .pointer none], .int .i64 0], []⟩).memory Try.f7.params.toList Rows.matchNoneSpec.vars false (#[.slice none 0 0, .slice none 0 0, .string ⟨#[]⟩, .agg #[.int .i64 0, .int .i64 0, .bool false, .bool false, .int .i64 0, .int .i64 0, .int .i64 0, .int .u32 0, .int .u32 0, .slice none 0 0, .slice none 0 0, .int .i64 0, .int .i64 0, .int .i64 0, .int .i64 0, .int .i64 0, .int .i64 0, .pointer none], .int .i64 0] : Array Value).toList 8 = some ([.nil, .nil, .lit (.string []), .agg [.agg [.lit (.int .i64 0), .lit (.int .i64 0), .lit (.bool false), .lit (.bool false), .lit (.int .i64 0), .lit (.int .i64 0), .lit (.int .i64 0), .lit (.int .u32 0), .lit (.int .u32 0), .nil, .nil], .lit (.int .i64 0), .lit (.int .i64 0), .lit (.int .i64 0), .lit (.int .i64 0), .lit (.int .i64 0), .lit (.int .i64 0), .nil], .lit (.int .i64 0)], [], places) :=
  ⟨[], by kernel_rfl⟩

set_option maxRecDepth 100000 in
theorem lifted (os : Os) (started : os.Started) (H : Type) (enc : TypeId × Value → H) (F : Stop.Interp) :
    ReturnsInHanded {} Try.checked os 7 .any ((OpenSpec.ofChange Rows.matchNoneSpec).preRow enc Try.prog Try.f7 Rows.matchNoneRow.domain false Rows.matchNoneRow.laid) (((OpenSpec.ofChange Rows.matchNoneSpec).at F).post enc Try.prog Try.f7 false true false false) := by
  obtain ⟨places, hx⟩ := reads os enc
  refine returnsInHanded_of_row (C := Try.checked) (s := (OpenSpec.ofChange Rows.matchNoneSpec)) own started (by kernel_rfl) Try.func7
    (witness_row_at (enc := enc) (C := Try.checked) false (World.doorLaid Try.prog 24 os) #[.slice none 0 0, .slice none 0 0, .string ⟨#[]⟩, .agg #[.int .i64 0, .int .i64 0, .bool false, .bool false, .int .i64 0, .int .i64 0, .int .i64 0, .int .u32 0, .int .u32 0, .slice none 0 0, .slice none 0 0, .int .i64 0, .int .i64 0, .int .i64 0, .int .i64 0, .int .i64 0, .int .i64 0, .pointer none], .int .i64 0] rfl (by kernel_rfl) (by kernel_rfl) (by kernel_rfl)
      (OpenSpec.preRow_of_cond 8 hx (by kernel_rfl) (fun k hk => by cases hk) (by kernel_rfl) (laid_met os))) ?_
  intro W base args ds gs before hval hW _ hcond hz hL hsh _
  exact contract H enc W base args ds gs before hval hW hsh _ hz

theorem said : Rows.MatchNoneSaid :=
  OpenClaim.holds_of_cond 7 Try.f7 rfl rfl rfl rfl rfl rfl rfl ⟨rfl, rfl, rfl, rfl, rfl⟩ rfl rfl rfl rfl rfl (by kernel_rfl) Try.func7 (by kernel_rfl)
    (of_decide_eq_true (by kernel_rfl)) (by unfold Func.isWrapper; first | (rw [if_pos (by decide +kernel)]; kernel_rfl) | (rw [if_neg (by decide +kernel)]; exact ⟨rfl, rfl⟩))
    (fun os started H enc _ F => by rw [OpenClaim.pre_eq_preRow]; exact lifted os started H enc F)

end Go.Proofs.Ytdkmakjjcfkfaaa.matchNone

namespace Go.Proofs.Ytdkmakjjcfkfaaa
theorem matchNone_holds : Rows.MatchNoneSaid := matchNone.said
#print axioms matchNone_holds
end Go.Proofs.Ytdkmakjjcfkfaaa
