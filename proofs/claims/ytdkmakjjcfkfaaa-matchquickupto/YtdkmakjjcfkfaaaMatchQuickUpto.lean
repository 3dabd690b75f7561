/- For every two lists of rules, every list of tables, every interface's name and every packet, the law MatchQuick returns true: what stands behind a quick rule that matches does not count, and ahead of one nothing that is not quick does; the one condition: what is read is of bulk at most 1048576. -/
import Derived.Test.YtdkmakjjcfkfaaaRows
import Derived.Test.YtdkmakjjcfkfaaaRowT
import Derived.Test.YtdkmakjjcfkfaaaFrame
import Derived.Test.YtdkmakjjcfkfaaaRowG
import Derived.Test.YtdkmakjjcfkfaaaRowZ
import Derived.WalkKit
import Derived.ProofKit
import Derived.OpenShut
import Derived.ShutString
import Derived.ChangeOld
import Derived.Deep.DeepHandedRow
import Derived.Lib.LaidTab
import Derived.Lib.SmallJoins
import Derived.LaidMore
import Derived.Stop.LaidErr
import Derived.ChangeMaps5
namespace Go.Proofs.Ytdkmakjjcfkfaaa.matchQuickUpto
open Go.ChangeShapes Go.WideShapes Go.ChangeAt Go.RowKit Go.ChangeMaps
set_option linter.unusedVariables false
set_option maxRecDepth 100000

theorem own : ownKnob Try.prog.godebug = none := by kernel_rfl
theorem laidOut : laidOutB Try.prog = true := by kernel_rfl

theorem arr18 {α : Type} {cs : Array α} (h : cs.size = 18) : ∃ c0 c1 c2 c3 c4 c5 c6 c7 c8 c9 c10 c11 c12 c13 c14 c15 c16 c17, cs = #[c0, c1, c2, c3, c4, c5, c6, c7, c8, c9, c10, c11, c12, c13, c14, c15, c16, c17] := by
  obtain ⟨l⟩ := cs
  match l, h with
  | [c0, c1, c2, c3, c4, c5, c6, c7, c8, c9, c10, c11, c12, c13, c14, c15, c16, c17], _ => exact ⟨c0, c1, c2, c3, c4, c5, c6, c7, c8, c9, c10, c11, c12, c13, c14, c15, c16, c17, rfl⟩

abbrev Elem43 := Bool × Bool × Bool × ByteArray × Int × Bool × ByteArray × Int × Int × Int × Int × Bool × ByteArray × Int × Int × Int × Int × Int × Int × Int × Bool × Bool × ByteArray × Int × Bool × ByteArray × Int × Int
def cells43 (z : Elem43) : List Value := [.bool (z.1), .bool (z.2.1), .bool (z.2.2.1), .string (z.2.2.2.1), .int .i64 (z.2.2.2.2.1), .bool (z.2.2.2.2.2.1), .string (z.2.2.2.2.2.2.1), .int .u32 (z.2.2.2.2.2.2.2.1), .int .i64 (z.2.2.2.2.2.2.2.2.1), .int .i64 (z.2.2.2.2.2.2.2.2.2.1), .int .i64 (z.2.2.2.2.2.2.2.2.2.2.1), .bool (z.2.2.2.2.2.2.2.2.2.2.2.1), .string (z.2.2.2.2.2.2.2.2.2.2.2.2.1), .int .u32 (z.2.2.2.2.2.2.2.2.2.2.2.2.2.1), .int .i64 (z.2.2.2.2.2.2.2.2.2.2.2.2.2.2.1), .int .i64 (z.2.2.2.2.2.2.2.2.2.2.2.2.2.2.2.1), .int .i64 (z.2.2.2.2.2.2.2.2.2.2.2.2.2.2.2.2.1), .int .i64 (z.2.2.2.2.2.2.2.2.2.2.2.2.2.2.2.2.2.1), .int .i64 (z.2.2.2.2.2.2.2.2.2.2.2.2.2.2.2.2.2.2.1), .int .i64 (z.2.2.2.2.2.2.2.2.2.2.2.2.2.2.2.2.2.2.2.1), .bool (z.2.2.2.2.2.2.2.2.2.2.2.2.2.2.2.2.2.2.2.2.1), .bool (z.2.2.2.2.2.2.2.2.2.2.2.2.2.2.2.2.2.2.2.2.2.1), .string (z.2.2.2.2.2.2.2.2.2.2.2.2.2.2.2.2.2.2.2.2.2.2.1), .int .u32 (z.2.2.2.2.2.2.2.2.2.2.2.2.2.2.2.2.2.2.2.2.2.2.2.1), .bool (z.2.2.2.2.2.2.2.2.2.2.2.2.2.2.2.2.2.2.2.2.2.2.2.2.1), .string (z.2.2.2.2.2.2.2.2.2.2.2.2.2.2.2.2.2.2.2.2.2.2.2.2.2.1), .int .u32 (z.2.2.2.2.2.2.2.2.2.2.2.2.2.2.2.2.2.2.2.2.2.2.2.2.2.2.1), .int .i64 (z.2.2.2.2.2.2.2.2.2.2.2.2.2.2.2.2.2.2.2.2.2.2.2.2.2.2.2)]
def ok43 (z : Elem43) : Prop := (z.2.2.2.1).size ≤ maxLen ∧ (Lit.int .i64 (z.2.2.2.2.1)).wf = true ∧ (z.2.2.2.2.2.2.1).size ≤ maxLen ∧ (Lit.int .u32 (z.2.2.2.2.2.2.2.1)).wf = true ∧ (Lit.int .i64 (z.2.2.2.2.2.2.2.2.1)).wf = true ∧ (Lit.int .i64 (z.2.2.2.2.2.2.2.2.2.1)).wf = true ∧ (Lit.int .i64 (z.2.2.2.2.2.2.2.2.2.2.1)).wf = true ∧ (z.2.2.2.2.2.2.2.2.2.2.2.2.1).size ≤ maxLen ∧ (Lit.int .u32 (z.2.2.2.2.2.2.2.2.2.2.2.2.2.1)).wf = true ∧ (Lit.int .i64 (z.2.2.2.2.2.2.2.2.2.2.2.2.2.2.1)).wf = true ∧ (Lit.int .i64 (z.2.2.2.2.2.2.2.2.2.2.2.2.2.2.2.1)).wf = true ∧ (Lit.int .i64 (z.2.2.2.2.2.2.2.2.2.2.2.2.2.2.2.2.1)).wf = true ∧ (Lit.int .i64 (z.2.2.2.2.2.2.2.2.2.2.2.2.2.2.2.2.2.1)).wf = true ∧ (Lit.int .i64 (z.2.2.2.2.2.2.2.2.2.2.2.2.2.2.2.2.2.2.1)).wf = true ∧ (Lit.int .i64 (z.2.2.2.2.2.2.2.2.2.2.2.2.2.2.2.2.2.2.2.1)).wf = true ∧ (z.2.2.2.2.2.2.2.2.2.2.2.2.2.2.2.2.2.2.2.2.2.2.1).size ≤ maxLen ∧ (Lit.int .u32 (z.2.2.2.2.2.2.2.2.2.2.2.2.2.2.2.2.2.2.2.2.2.2.2.1)).wf = true ∧ (z.2.2.2.2.2.2.2.2.2.2.2.2.2.2.2.2.2.2.2.2.2.2.2.2.2.1).size ≤ maxLen ∧ (Lit.int .u32 (z.2.2.2.2.2.2.2.2.2.2.2.2.2.2.2.2.2.2.2.2.2.2.2.2.2.2.1)).wf = true ∧ (Lit.int .i64 (z.2.2.2.2.2.2.2.2.2.2.2.2.2.2.2.2.2.2.2.2.2.2.2.2.2.2.2)).wf = true
theorem cells43_length (z : Elem43) : (cells43 z).length = 28 := rfl
theorem elem43 {H : Type} {enc : TypeId × Value → H} {w : World} {base : Nat} {spare : Nat → Bool} {held : Bool} (n : Nat) (cs : List Value) (y : DataW H × List MemPlace)
    (h : DataW.trod enc Try.prog w base spare held n 43 cs = some y) : ∃ z : Elem43, cs = cells43 z ∧ ok43 z := by
  have hl : cs.length = 28 := by
    obtain ⟨_, _, _, _, hl, _⟩ := DataW.trod_struct Try.underlying43 h
    exact hl.trans (by kernel_rfl)
  obtain ⟨u0, u1, u2, u3, u4, u5, u6, u7, u8, u9, u10, u11, u12, u13, u14, u15, u16, u17, u18, u19, u20, u21, u22, u23, u24, u25, u26, u27, rfl⟩ : ∃ u0 u1 u2 u3 u4 u5 u6 u7 u8 u9 u10 u11 u12 u13 u14 u15 u16 u17 u18 u19 u20 u21 u22 u23 u24 u25 u26 u27, cs = [u0, u1, u2, u3, u4, u5, u6, u7, u8, u9, u10, u11, u12, u13, u14, u15, u16, u17, u18, u19, u20, u21, u22, u23, u24, u25, u26, u27] := by
    match cs, hl with
    | [u0, u1, u2, u3, u4, u5, u6, u7, u8, u9, u10, u11, u12, u13, u14, u15, u16, u17, u18, u19, u20, u21, u22, u23, u24, u25, u26, u27], _ => exact ⟨u0, u1, u2, u3, u4, u5, u6, u7, u8, u9, u10, u11, u12, u13, u14, u15, u16, u17, u18, u19, u20, u21, u22, u23, u24, u25, u26, u27, rfl⟩
  obtain ⟨_, _, e1⟩ := field_at Try.underlying43 h 0 rfl 1 (by kernel_rfl)
  obtain ⟨aza, c2, _⟩ := DataW.trod_bool Try.underlying4 e1
  obtain rfl : u0 = .bool aza := by simpa using c2
  obtain ⟨_, _, e3⟩ := field_at Try.underlying43 h 1 rfl 1 (by kernel_rfl)
  obtain ⟨azb, c4, _⟩ := DataW.trod_bool Try.underlying4 e3
  obtain rfl : u1 = .bool azb := by simpa using c4
  obtain ⟨_, _, e5⟩ := field_at Try.underlying43 h 2 rfl 1 (by kernel_rfl)
  obtain ⟨azc, c6, _⟩ := DataW.trod_bool Try.underlying4 e5
  obtain rfl : u2 = .bool azc := by simpa using c6
  obtain ⟨_, _, e7⟩ := field_at Try.underlying43 h 3 rfl 1 (by kernel_rfl)
  obtain ⟨azd, c8, _, wzd⟩ := DataW.trod_string Try.underlying9 e7
  obtain rfl : u3 = .string azd := by simpa using c8
  obtain ⟨_, _, e9⟩ := field_at Try.underlying43 h 4 rfl 1 (by kernel_rfl)
  obtain ⟨aze, c10, _, wze⟩ := DataW.trod_int Try.underlying3 e9
  obtain rfl : u4 = .int .i64 aze := by simpa using c10
  obtain ⟨_, _, e11⟩ := field_at Try.underlying43 h 5 rfl 6 (by kernel_rfl)
  obtain ⟨_, _, e12⟩ := field_at Try.underlying36 e11 0 rfl 1 (by kernel_rfl)
  obtain ⟨azf0, c13, _⟩ := DataW.trod_bool Try.underlying4 e12
  obtain rfl : u5 = .bool azf0 := by simpa using c13
  obtain ⟨_, _, e14⟩ := field_at Try.underlying36 e11 1 rfl 1 (by kernel_rfl)
  obtain ⟨azf1, c15, _, wzf1⟩ := DataW.trod_string Try.underlying9 e14
  obtain rfl : u6 = .string azf1 := by simpa using c15
  obtain ⟨_, _, e16⟩ := field_at Try.underlying36 e11 2 rfl 2 (by kernel_rfl)
  obtain ⟨_, _, e17⟩ := field_at Try.underlying32 e16 0 rfl 1 (by kernel_rfl)
  obtain ⟨azf20, c18, _, wzf20⟩ := DataW.trod_int Try.underlying24 e17
  obtain rfl : u7 = .int .u32 azf20 := by simpa using c18
  obtain ⟨_, _, e19⟩ := field_at Try.underlying32 e16 1 rfl 1 (by kernel_rfl)
  obtain ⟨azf21, c20, _, wzf21⟩ := DataW.trod_int Try.underlying3 e19
  obtain rfl : u8 = .int .i64 azf21 := by simpa using c20
  obtain ⟨_, _, e21⟩ := field_at Try.underlying36 e11 3 rfl 2 (by kernel_rfl)
  obtain ⟨_, _, e22⟩ := field_at Try.underlying34 e21 0 rfl 1 (by kernel_rfl)
  obtain ⟨azf30, c23, _, wzf30⟩ := DataW.trod_int Try.underlying3 e22
  obtain rfl : u9 = .int .i64 azf30 := by simpa using c23
  obtain ⟨_, _, e24⟩ := field_at Try.underlying34 e21 1 rfl 1 (by kernel_rfl)
  obtain ⟨azf31, c25, _, wzf31⟩ := DataW.trod_int Try.underlying3 e24
  obtain rfl : u10 = .int .i64 azf31 := by simpa using c25
  obtain ⟨_, _, e26⟩ := field_at Try.underlying43 h 6 rfl 6 (by kernel_rfl)
  obtain ⟨_, _, e27⟩ := field_at Try.underlying36 e26 0 rfl 1 (by kernel_rfl)
  obtain ⟨azg0, c28, _⟩ := DataW.trod_bool Try.underlying4 e27
  obtain rfl : u11 = .bool azg0 := by simpa using c28
  obtain ⟨_, _, e29⟩ := field_at Try.underlying36 e26 1 rfl 1 (by kernel_rfl)
  obtain ⟨azg1, c30, _, wzg1⟩ := DataW.trod_string Try.underlying9 e29
  obtain rfl : u12 = .string azg1 := by simpa using c30
  obtain ⟨_, _, e31⟩ := field_at Try.underlying36 e26 2 rfl 2 (by kernel_rfl)
  obtain ⟨_, _, e32⟩ := field_at Try.underlying32 e31 0 rfl 1 (by kernel_rfl)
  obtain ⟨azg20, c33, _, wzg20⟩ := DataW.trod_int Try.underlying24 e32
  obtain rfl : u13 = .int .u32 azg20 := by simpa using c33
  obtain ⟨_, _, e34⟩ := field_at Try.underlying32 e31 1 rfl 1 (by kernel_rfl)
  obtain ⟨azg21, c35, _, wzg21⟩ := DataW.trod_int Try.underlying3 e34
  obtain rfl : u14 = .int .i64 azg21 := by simpa using c35
  obtain ⟨_, _, e36⟩ := field_at Try.underlying36 e26 3 rfl 2 (by kernel_rfl)
  obtain ⟨_, _, e37⟩ := field_at Try.underlying34 e36 0 rfl 1 (by kernel_rfl)
  obtain ⟨azg30, c38, _, wzg30⟩ := DataW.trod_int Try.underlying3 e37
  obtain rfl : u15 = .int .i64 azg30 := by simpa using c38
  obtain ⟨_, _, e39⟩ := field_at Try.underlying34 e36 1 rfl 1 (by kernel_rfl)
  obtain ⟨azg31, c40, _, wzg31⟩ := DataW.trod_int Try.underlying3 e39
  obtain rfl : u16 = .int .i64 azg31 := by simpa using c40
  obtain ⟨_, _, e41⟩ := field_at Try.underlying43 h 7 rfl 1 (by kernel_rfl)
  obtain ⟨azh, c42, _, wzh⟩ := DataW.trod_int Try.underlying3 e41
  obtain rfl : u17 = .int .i64 azh := by simpa using c42
  obtain ⟨_, _, e43⟩ := field_at Try.underlying43 h 8 rfl 1 (by kernel_rfl)
  obtain ⟨azi, c44, _, wzi⟩ := DataW.trod_int Try.underlying3 e43
  obtain rfl : u18 = .int .i64 azi := by simpa using c44
  obtain ⟨_, _, e45⟩ := field_at Try.underlying43 h 9 rfl 1 (by kernel_rfl)
  obtain ⟨azj, c46, _, wzj⟩ := DataW.trod_int Try.underlying3 e45
  obtain rfl : u19 = .int .i64 azj := by simpa using c46
  obtain ⟨_, _, e47⟩ := field_at Try.underlying43 h 10 rfl 1 (by kernel_rfl)
  obtain ⟨azk, c48, _⟩ := DataW.trod_bool Try.underlying4 e47
  obtain rfl : u20 = .bool azk := by simpa using c48
  obtain ⟨_, _, e49⟩ := field_at Try.underlying43 h 11 rfl 3 (by kernel_rfl)
  obtain ⟨_, _, e50⟩ := field_at Try.underlying41 e49 0 rfl 1 (by kernel_rfl)
  obtain ⟨azl0, c51, _⟩ := DataW.trod_bool Try.underlying4 e50
  obtain rfl : u21 = .bool azl0 := by simpa using c51
  obtain ⟨_, _, e52⟩ := field_at Try.underlying41 e49 1 rfl 1 (by kernel_rfl)
  obtain ⟨azl1, c53, _, wzl1⟩ := DataW.trod_string Try.underlying9 e52
  obtain rfl : u22 = .string azl1 := by simpa using c53
  obtain ⟨_, _, e54⟩ := field_at Try.underlying41 e49 2 rfl 1 (by kernel_rfl)
  obtain ⟨azl2, c55, _, wzl2⟩ := DataW.trod_int Try.underlying24 e54
  obtain rfl : u23 = .int .u32 azl2 := by simpa using c55
  obtain ⟨_, _, e56⟩ := field_at Try.underlying43 h 12 rfl 3 (by kernel_rfl)
  obtain ⟨_, _, e57⟩ := field_at Try.underlying41 e56 0 rfl 1 (by kernel_rfl)
  obtain ⟨azm0, c58, _⟩ := DataW.trod_bool Try.underlying4 e57
  obtain rfl : u24 = .bool azm0 := by simpa using c58
  obtain ⟨_, _, e59⟩ := field_at Try.underlying41 e56 1 rfl 1 (by kernel_rfl)
  obtain ⟨azm1, c60, _, wzm1⟩ := DataW.trod_string Try.underlying9 e59
  obtain rfl : u25 = .string azm1 := by simpa using c60
  obtain ⟨_, _, e61⟩ := field_at Try.underlying41 e56 2 rfl 1 (by kernel_rfl)
  obtain ⟨azm2, c62, _, wzm2⟩ := DataW.trod_int Try.underlying24 e61
  obtain rfl : u26 = .int .u32 azm2 := by simpa using c62
  obtain ⟨_, _, e63⟩ := field_at Try.underlying43 h 13 rfl 1 (by kernel_rfl)
  obtain ⟨azn, c64, _, wzn⟩ := DataW.trod_int Try.underlying3 e63
  obtain rfl : u27 = .int .i64 azn := by simpa using c64
  exact ⟨(aza, azb, azc, azd, aze, azf0, azf1, azf20, azf21, azf30, azf31, azg0, azg1, azg20, azg21, azg30, azg31, azh, azi, azj, azk, azl0, azl1, azl2, azm0, azm1, azm2, azn), rfl, ⟨wzd, wze, wzf1, wzf20, wzf21, wzf30, wzf31, wzg1, wzg20, wzg21, wzg30, wzg31, wzh, wzi, wzj, wzl1, wzl2, wzm1, wzm2, wzn⟩⟩

abbrev Elem32 := Int × Int
def cells32 (z : Elem32) : List Value := [.int .u32 (z.1), .int .i64 (z.2)]
def ok32 (z : Elem32) : Prop := (Lit.int .u32 (z.1)).wf = true ∧ (Lit.int .i64 (z.2)).wf = true
theorem cells32_length (z : Elem32) : (cells32 z).length = 2 := rfl
theorem elem32 {H : Type} {enc : TypeId × Value → H} {w : World} {base : Nat} {spare : Nat → Bool} {held : Bool} (n : Nat) (cs : List Value) (y : DataW H × List MemPlace)
    (h : DataW.trod enc Try.prog w base spare held n 32 cs = some y) : ∃ z : Elem32, cs = cells32 z ∧ ok32 z := by
  have hl : cs.length = 2 := by
    obtain ⟨_, _, _, _, hl, _⟩ := DataW.trod_struct Try.underlying32 h
    exact hl.trans (by kernel_rfl)
  obtain ⟨u0, u1, rfl⟩ : ∃ u0 u1, cs = [u0, u1] := by
    match cs, hl with
    | [u0, u1], _ => exact ⟨u0, u1, rfl⟩
  obtain ⟨_, _, e65⟩ := field_at Try.underlying32 h 0 rfl 1 (by kernel_rfl)
  obtain ⟨az0, c66, _, wz0⟩ := DataW.trod_int Try.underlying24 e65
  obtain rfl : u0 = .int .u32 az0 := by simpa using c66
  obtain ⟨_, _, e67⟩ := field_at Try.underlying32 h 1 rfl 1 (by kernel_rfl)
  obtain ⟨az1, c68, _, wz1⟩ := DataW.trod_int Try.underlying3 e67
  obtain rfl : u1 = .int .i64 az1 := by simpa using c68
  exact ⟨(az0, az1), rfl, ⟨wz0, wz1⟩⟩

abbrev Elem53 := ByteArray × (Option Addr × Nat × Nat × List Elem32)
def cells53 (z : Elem53) : List Value := [.string (z.1), .slice (z.2.1) (z.2.2.1) (z.2.2.2.1)]
def ok53 (w : World) (z : Elem53) : Prop := (z.1).size ≤ maxLen ∧ IsRowG 2 cells32 ok32 w (z.2.1) (z.2.2.1) (z.2.2.2.1) (z.2.2.2.2)
theorem cells53_length (z : Elem53) : (cells53 z).length = 2 := rfl
theorem elem53 {H : Type} {enc : TypeId × Value → H} {w : World} {base : Nat} {spare : Nat → Bool} {held : Bool} (n : Nat) (cs : List Value) (y : DataW H × List MemPlace)
    (h : DataW.trod enc Try.prog w base spare held n 53 cs = some y) : ∃ z : Elem53, cs = cells53 z ∧ (ok53 w) z := by
  have hl : cs.length = 2 := by
    obtain ⟨_, _, _, _, hl, _⟩ := DataW.trod_struct Try.underlying53 h
    exact hl.trans (by kernel_rfl)
  obtain ⟨u0, u1, rfl⟩ : ∃ u0 u1, cs = [u0, u1] := by
    match cs, hl with
    | [u0, u1], _ => exact ⟨u0, u1, rfl⟩
  obtain ⟨_, _, e69⟩ := field_at Try.underlying53 h 0 rfl 1 (by kernel_rfl)
  obtain ⟨az0, c70, _, wz0⟩ := DataW.trod_string Try.underlying9 e69
  obtain rfl : u0 = .string az0 := by simpa using c70
  obtain ⟨_, _, e71⟩ := field_at Try.underlying53 h 1 rfl 1 (by kernel_rfl)
  obtain ⟨az1, lenz1, capz1, zsz1, c72, rowz1⟩ := open_rowG 2 cells32 ok32 (by omega) cells32_length Try.underlying51 (by kernel_rfl) elem32 e71
  obtain rfl : u1 = .slice az1 lenz1 capz1 := by simpa using c72
  exact ⟨(az0, (az1, lenz1, capz1, zsz1)), rfl, ⟨wz0, rowz1⟩⟩

open Go.Proofs.Ytdkmakjjcfkfaaa.Ma Go.Proofs.Ytdkmakjjcfkfaaa.Ru

/-- A rule out of its cells. -/
def ofE (z : Elem43) : RuleV := match z with
  | (a, b, c, d, e, s0, s1, s2, s3, s4, s5, d0, d1, d2, d3, d4, d5, st, mk, ty, kp, t0, t1, t2, p0, p1, p2, tb) => ⟨a, b, c, d, e, ⟨s0, s1, s2, s3, s4, s5⟩, ⟨d0, d1, d2, d3, d4, d5⟩, st, mk, ty, kp, ⟨t0, t1, t2⟩, ⟨p0, p1, p2⟩, tb⟩

theorem ofE_cells (z : Elem43) : ruleL (ofE z) = cells43 z := rfl

theorem ofE_in {z : Elem43} (h : ok43 z) : RuIn (ofE z) := by
  obtain ⟨hon, hpr, hst, hsa, hsn, hsl, hsh, hdt, hda, hdn, hdl, hdh, hset, hmask, hty, hti, htg, hpi, hpg, htab⟩ := h
  have m : ∀ {x : Nat}, x ≤ maxLen → x ≤ 9223372036854775807 := fun h => h
  exact ⟨⟨(bounds_u32 hsa).1, (bounds_u32 hsa).2, (bounds_u32 hda).1, (bounds_u32 hda).2⟩, m hon, m hst, m hdt, m hti, m hpi⟩

/-- A table out of its cells. -/
def ofN (z : Elem53) : NmV := ⟨z.1, z.2.1, z.2.2.1, z.2.2.2.1, z.2.2.2.2⟩

theorem rules_in {w : World} {p : Option Addr} {n c : Nat} {L : List Elem43} (h : IsRowG 28 cells43 ok43 w p n c L) : RdL w p n (L.map ofE) ∧ ∀ r ∈ L.map ofE, RuIn r := by
  have hin : ∀ r ∈ L.map ofE, RuIn r := fun r hr => by
    obtain ⟨z, hz, rfl⟩ := List.mem_map.1 hr
    exact ofE_in (h.ok z hz)
  have hm := h.room
  have hl := h.le
  unfold maxLen at hm
  exact ⟨⟨(rdK_row (by omega) cells43_length h).map ofE ofE_cells, by omega, fun r hr => (hin r hr).toRuOk⟩, hin⟩

theorem tables_in {w : World} {p : Option Addr} {n c : Nat} {T : List Elem53} (h : IsRowG 2 cells53 (ok53 w) w p n c T) : RdN w p n (T.map ofN) ∧ NameOk (T.map ofN) := by
  have hm := h.room
  have hl := h.le
  unfold maxLen at hm
  refine ⟨⟨(rdK_row (by omega) cells53_length h).map ofN (fun _ => rfl), by omega, fun y hy => ?_⟩, fun y hy => ?_⟩
  · obtain ⟨z, hz, rfl⟩ := List.mem_map.1 hy
    have ho := (h.ok z hz).2
    have h1 := ho.room
    have h2 := ho.le
    unfold maxLen at h1
    exact ⟨rdK_row (by omega) pxL_len ho, by show z.2.2.1 ≤ _; omega, fun q hq => bounds_u32 (ho.ok q hq).1⟩
  · obtain ⟨z, hz, rfl⟩ := List.mem_map.1 hy
    exact (h.ok z hz).1

/-- Two lengths of a million at most, in bytes of rules. -/
theorem five_bounds {a b : Nat} (h0 : a ≤ 1048576) (h1 : b ≤ 1048576) : a * 248 ≤ 140737488355328 ∧ (a + 1) * 248 ≤ 140737488355328 ∧ (a + 1 + b) * 248 ≤ 140737488355328 ∧ a + 1 + b ≤ 9223372036854775807 ∧ (a : Int) ≤ 9223372036854775807 :=
  ⟨by omega, by omega, by omega, by omega, by omega⟩

set_option maxHeartbeats 40000000 in
theorem walk (a0 : Option Addr) (len0 cap0 : Nat) (zs0 : List Elem43) (a1 : Option Addr) (len1 cap1 : Nat) (zs1 : List Elem43) (a2 : Option Addr) (len2 cap2 : Nat) (zs2 : List Elem53) (a3 : ByteArray) (a40a : Int) (a40b : Int) (a40c : Bool) (a40d : Bool) (a40e : Int) (a40f : Int) (a40g : Int) (a40h : Int) (a40i : Int) (a40j : Option Addr) (len40j cap40j : Nat) (zs40j : List Int) (a40k : Option Addr) (len40k cap40k : Nat) (zs40k : List Int) (a41 : Int) (a42 : Int) (a43 : Int) (a44 : Int) (a45 : Int) (a46 : Int) (k47 : Option Addr) (w : World) (row0 : IsRowG 28 cells43 ok43 w a0 len0 cap0 zs0) (hl0 : len0 ≤ 1048576) (row1 : IsRowG 28 cells43 ok43 w a1 len1 cap1 zs1) (hl1 : len1 ≤ 1048576) (row2 : IsRowG 2 cells53 (ok53 w) w a2 len2 cap2 zs2) (hl2 : len2 ≤ 1048576) (w3 : a3.size ≤ maxLen) (w40a : (Lit.int .i64 a40a).wf = true) (w40b : (Lit.int .i64 a40b).wf = true) (w40e : (Lit.int .i64 a40e).wf = true) (w40f : (Lit.int .i64 a40f).wf = true) (w40g : (Lit.int .i64 a40g).wf = true) (w40h : (Lit.int .u32 a40h).wf = true) (w40i : (Lit.int .u32 a40i).wf = true) (row40j : IsRow .u8 w a40j len40j cap40j zs40j) (row40k : IsRow .u8 w a40k len40k cap40k zs40k) (w41 : (Lit.int .i64 a41).wf = true) (w42 : (Lit.int .i64 a42).wf = true) (w43 : (Lit.int .i64 a43).wf = true) (w44 : (Lit.int .i64 a44).wf = true) (w45 : (Lit.int .i64 a45).wf = true) (w46 : (Lit.int .i64 a46).wf = true) (hsh : w.ShapedOpen Try.prog) :
    Calls Try.prog 4 #[.slice a0 len0 cap0, .slice a1 len1 cap1, .slice a2 len2 cap2, .string a3, .agg #[.int .i64 a40a, .int .i64 a40b, .bool a40c, .bool a40d, .int .i64 a40e, .int .i64 a40f, .int .i64 a40g, .int .u32 a40h, .int .u32 a40i, .slice a40j len40j cap40j, .slice a40k len40k cap40k, .int .i64 a41, .int .i64 a42, .int .i64 a43, .int .i64 a44, .int .i64 a45, .int .i64 a46, .pointer k47]] w fun e w' => e = .returned (.bool true) ∧ Below w.heap.size w w' := by
  obtain ⟨hL0, hI0⟩ := rules_in row0
  have hc0 := row0.nil
  have hcl0 := row0.le
  generalize zs0.map ofE = L0 at *
  obtain ⟨hL1, hI1⟩ := rules_in row1
  have hc1 := row1.nil
  have hcl1 := row1.le
  generalize zs1.map ofE = L1 at *
  obtain ⟨hT, hNm⟩ := tables_in row2
  generalize zs2.map ofN = T at *
  obtain ⟨k, hk⟩ : ∃ k : PkV, k = ⟨a40a, a40b, a40c, a40d, a40e, a40f, a40g, a40h, a40i, a40j, len40j, cap40j, a40k, len40k, cap40k, a41, a42, a43, a44, a45, a46, k47⟩ := ⟨_, rfl⟩
  have hko : PkOk k := by rw [hk]; exact ⟨(bounds_u32 w40h).1, (bounds_u32 w40h).2, (bounds_u32 w40i).1, (bounds_u32 w40i).2⟩
  show Calls Try.prog 4 #[.slice a0 len0 cap0, .slice a1 len1 cap1, .slice a2 len2 cap2, .string a3, .agg (pkL ⟨a40a, a40b, a40c, a40d, a40e, a40f, a40g, a40h, a40i, a40j, len40j, cap40j, a40k, len40k, cap40k, a41, a42, a43, a44, a45, a46, k47⟩).toArray] w _
  rw [← hk]
  clear hk w40a w40b w40e w40f w40g w40h w40i row40j row40k w41 w42 w43 w44 w45 w46 w3 row0 row1 row2
  obtain ⟨W, hW⟩ : ∃ W, w.alloc (.cells (pkL k).toArray 30) = W := ⟨_, rfl⟩
  have hx0 : Ext w W := hW ▸ (Ext.refl w).alloc _
  have hb0 := hW ▸ heap_new w (.cells (pkL k).toArray 30)
  have HPK : Hid (PkAt W w.heap.size k) := pkAt hb0
  have HP : Hid _ := HPK.out.all
  obtain ⟨gl, hgl⟩ := long_any k
  have HG : Hid _ := hgl
  have HH : Hid (∀ L q m c, RdL W q m L → (∀ r ∈ L, RuIn r) → ∀ w', Ext W w' → Calls Try.prog 8 #[.slice q m c, .slice a2 len2 cap2] w' fun e w2 => e = .returned (.bool (decide (heavyT T (heavyR L 4000) < 0))) ∧ Ext w' w2) := fun L q m c h1 h2 w' hx => heavy_any q m c L a2 len2 cap2 T w' (h1.ext hx) h2 ((hT.ext hx0).ext hx) hNm
  have HT0 : Hid (RdN W a2 len2 T) := hT.ext hx0
  have HO : Hid (∀ r, RuOk r → ∀ w', Ext W w' → Calls Try.prog 10 #[.agg (ruleL r).toArray, .slice a2 len2 cap2, .string a3, .agg (pkL k).toArray] w' fun e w2 => e = .returned (.bool (oneV r T a3 k)) ∧ Ext w' w2) :=
    fun r hr w' hx => one_any r a2 len2 cap2 T a3 k w' ((hT.ext hx0).ext hx) hr hko
  have HQ : Hid (∀ r, RuOk r → ∀ w', Ext W w' → Calls Try.prog 11 #[.agg (ruleL r).toArray, .slice a2 len2 cap2, .string a3, .agg (pkL k).toArray] w' fun e w2 => e = .returned (.bool (oneV r T a3 k)) ∧ Ext w' w2) :=
    fun r hr w' hx => refOne_any r a2 len2 cap2 T a3 k w' ((hT.ext hx0).ext hx) hr hko
  have HA1 : Hid (∀ L q m c w', Ext W w' → RdL w' q m L → Calls Try.prog 12 #[.slice q m c, .slice a2 len2 cap2, .string a3, .agg (pkL k).toArray] w' fun e w2 => e = .returned (.int .i64 (lastV (fun r => oneV r T a3 k) L)) ∧ Ext w' w2) :=
    fun L q m c w' hx hl => last_any q m c L a2 len2 cap2 T a3 k w' hl ((hT.ext hx0).ext hx) hko
  have HA2 : Hid (∀ L q m c w', Ext W w' → RdL w' q m L → Calls Try.prog 13 #[.slice q m c, .slice a2 len2 cap2, .string a3, .agg (pkL k).toArray] w' fun e w2 => e = .returned (.int .i64 (lastV (fun r => oneV r T a3 k) L)) ∧ Ext w' w2) :=
    fun L q m c w' hx hl => refLast_any q m c L a2 len2 cap2 T a3 k w' hl ((hT.ext hx0).ext hx) hko
  have lk := pkL_len k
  have HX0 : Hid (Ext w W) := hx0
  have hsz : W.heap.size = w.heap.size + 1 := by rw [← hW]; simp
  have hm0 := hL0.le
  have HS0 : Hid (SrcR W a0 len0 cap0 L0) := ⟨hL0.row.ext hx0, hc0⟩
  have HS1 : Hid (SrcR W a1 len1 cap1 L1) := ⟨hL1.row.ext hx0, hc1⟩
  have HOK : Hid (∀ r ∈ L0 ++ L1, RuOk r) := fun r hr => by
    rcases List.mem_append.1 hr with hr | hr
    · exact hL0.ok r hr
    · exact hL1.ok r hr
  have HM : Hid (L0.length = len0) := hL0.row.len
  have HMB : Hid (∀ M0, M0 = L0 → M0.length = len0) := fun _ h => h ▸ hL0.row.len
  have HM1 : Hid (L1.length = len1) := hL1.row.len
  have hin : ∀ r ∈ L0 ++ L1, RuIn r := fun r hr => by
    rcases List.mem_append.1 hr with hr | hr
    · exact hI0 r hr
    · exact hI1 r hr
  have HD : Hid (∀ q m c w', Ext W w' → RdL w' q m (L0 ++ L1) → Calls Try.prog 8 #[.slice q m c, .slice a2 len2 cap2] w' fun e w2 => e = .returned (.bool (decide (heavyT T (heavyR (L0 ++ L1) 4000) < 0))) ∧ Ext w' w2) := fun q m c w' hx hl => heavy_any q m c (L0 ++ L1) a2 len2 cap2 T w' hl hin ((hT.ext hx0).ext hx) hNm
  obtain ⟨n01, hn01⟩ : ∃ n, (L0 ++ L1).length = n := ⟨_, rfl⟩
  have HN01 : Hid ((L0 ++ L1).length = n01) := hn01
  have HRD : Hid (∀ q c w', SrcR w' q n01 c (L0 ++ L1) → RdL w' q n01 (L0 ++ L1)) := fun q c w' h => rdL_src h (by rw [← hn01, List.length_append, HM.out, HM1.out]; omega) HOK.out
  have HNO : Hid (0 ≤ k.sp → k.sp ≤ 65535 → 0 ≤ k.dp → k.dp ≤ 65535 → oneV (plainV true true ⟨#[]⟩) T a3 k = true) := fun h0 h1 h2 h3 => one_plain true true T a3 k (port_in h0 h1).1 (port_in h0 h1).2 (port_in h2 h3).1 (port_in h2 h3).2
  generalize decide (heavyT T (heavyR (L0 ++ L1) 4000) < 0) = gh at *
  obtain ⟨f, hf⟩ : ∃ f, (fun r => oneV r T a3 k) = f := ⟨_, rfl⟩
  have hf' : ∀ r, oneV r T a3 k = f r := fun r => congrFun hf r
  simp only [hf'] at HNO HQ
  simp only [hf] at HA1
  have yc := HPK.out.cc
  have yd := HPK.out.cd
  generalize k.sp = sp at *
  generalize k.dp = dp at *
  have YC : Hid _ := yc
  have YD : Hid _ := yd
  have hsm : (len0 + len1 + 1) * 248 ≤ 140737488355328 := by omega
  have HZA : Hid (len0 * 248 ≤ 140737488355328 ∧ (len0 + 1) * 248 ≤ 140737488355328 ∧ (len0 + 1 + len1) * 248 ≤ 140737488355328 ∧ len0 + 1 + len1 ≤ 9223372036854775807 ∧ (len0 : Int) ≤ 9223372036854775807) := five_bounds hl0 hl1
  have HGL : Hid ((∀ o, (W.alloc o).heap[w.heap.size + 1]? = some o) ∧ W.heap.size ≤ w.heap.size + 1) := ⟨fun o => by rw [← hsz]; exact heap_new W o, Nat.le_of_eq hsz⟩
  clear hL0 hL1 hI0 hI1 hin hT hNm hko hgl hb0 hx0 hc0 hc1 HPK HT0 hf hf' HO HA2 HH yc yd hm0 hcl0 hcl1 hn01
  generalize pkL k = ck at *
  cases gh with
  | true =>
    go_enter Try.func4, Try.ntmps4
    go_wp2_with (first
      | (at_builtin; refine wpList_want rfl fun K hK => wp_app0 (.tmp 15) (.tmp 16) rfl W.heap.size (w.heap.size + 1) rfl (HGL.out.1 _) HGL.out.2 a0 len0 cap0 L0 rfl (HS0.out.ext ((Ext.refl W).alloc _)) (by omega) ?_; intro v wa4 ho4 hx4; refine hK _ _ ?_; obtain ⟨q4, c4, rfl, -⟩ := ho4.src; have HO4 : Hid _ := ho4; have hz4 : Ext W wa4 := ((Ext.refl W).alloc _).trans hx4; clear hx4 ho4)
      | (at_builtin; refine wpList_want rfl fun K hK => wp_app (.tmp 17) (.tmp 18) rfl W.heap.size _ L0 rfl HO4.out a1 len1 cap1 L1 rfl (HS1.out.ext hz4) (by rw [HM.out]; omega) hz4.size ?_; intro v wa5 ho5 hg5; refine hK _ _ ?_; have hz5 : Ext W wa5 := grown_own HO4.out hg5 hz4 (Nat.le_refl _); obtain ⟨q5, c5, rfl, hs5⟩ := ho5.src; rw [HN01.out] at hs5 ⊢; have HR5 : Hid _ := HRD.out _ _ _ hs5; clear ho5 hg5 hs5 hz4)
      | (go_at_call 8; refine (HD.out _ _ _ _ hz5 HR5.out).mono ?_; rintro e w1 ⟨rfl, hv1⟩; have hv : Ext W w1 := hz5.trans hv1; clear hv1))
    go_ret
    exact ⟨rfl, (HX0.out.trans hv).below⟩
  | false =>
    cases gl with
    | true =>
      go_enter Try.func4, Try.ntmps4
      go_wp2_with (first
        | (at_builtin; refine wpList_want rfl fun K hK => wp_app0 (.tmp 15) (.tmp 16) rfl W.heap.size (w.heap.size + 1) rfl (HGL.out.1 _) HGL.out.2 a0 len0 cap0 L0 rfl (HS0.out.ext ((Ext.refl W).alloc _)) (by omega) ?_; intro v wa4 ho4 hx4; refine hK _ _ ?_; obtain ⟨q4, c4, rfl, -⟩ := ho4.src; have HO4 : Hid _ := ho4; have hz4 : Ext W wa4 := ((Ext.refl W).alloc _).trans hx4; clear hx4 ho4)
        | (at_builtin; refine wpList_want rfl fun K hK => wp_app (.tmp 17) (.tmp 18) rfl W.heap.size _ L0 rfl HO4.out a1 len1 cap1 L1 rfl (HS1.out.ext hz4) (by rw [HM.out]; omega) hz4.size ?_; intro v wa5 ho5 hg5; refine hK _ _ ?_; have hz5 : Ext W wa5 := grown_own HO4.out hg5 hz4 (Nat.le_refl _); obtain ⟨q5, c5, rfl, hs5⟩ := ho5.src; rw [HN01.out] at hs5 ⊢; have HR5 : Hid _ := HRD.out _ _ _ hs5; clear ho5 hg5 hs5 hz4)
        | (go_at_call 8; refine (HD.out _ _ _ _ hz5 HR5.out).mono ?_; rintro e w1 ⟨rfl, hv1⟩; have hv : Ext W w1 := hz5.trans hv1; clear hv1)
        | (go_at_call 9; refine (HG.out _).mono ?_; rintro e w2 ⟨rfl, hv2⟩; have yc2 := YC.out _ (hv.trans hv2); have yd2 := YD.out _ (hv.trans hv2))
        | (refine wpl_range (by rfl) 30 _ rfl w.heap.size 0 _ _ rfl (HP.out _ hv) Try.underlying30 rfl (by rw [lk]; exact pk_size) ?_))
      go_ret
      exact ⟨rfl, (HX0.out.trans (hv.trans hv2)).below⟩
    | false =>
      by_cases h1 : (100 : Int) < (a3.size : Int)
      · go_enter Try.func4, Try.ntmps4
        go_wp2_with (first
          | (at_builtin; refine wpList_want rfl fun K hK => wp_app0 (.tmp 15) (.tmp 16) rfl W.heap.size (w.heap.size + 1) rfl (HGL.out.1 _) HGL.out.2 a0 len0 cap0 L0 rfl (HS0.out.ext ((Ext.refl W).alloc _)) (by omega) ?_; intro v wa4 ho4 hx4; refine hK _ _ ?_; obtain ⟨q4, c4, rfl, -⟩ := ho4.src; have HO4 : Hid _ := ho4; have hz4 : Ext W wa4 := ((Ext.refl W).alloc _).trans hx4; clear hx4 ho4)
          | (at_builtin; refine wpList_want rfl fun K hK => wp_app (.tmp 17) (.tmp 18) rfl W.heap.size _ L0 rfl HO4.out a1 len1 cap1 L1 rfl (HS1.out.ext hz4) (by rw [HM.out]; omega) hz4.size ?_; intro v wa5 ho5 hg5; refine hK _ _ ?_; have hz5 : Ext W wa5 := grown_own HO4.out hg5 hz4 (Nat.le_refl _); obtain ⟨q5, c5, rfl, hs5⟩ := ho5.src; rw [HN01.out] at hs5 ⊢; have HR5 : Hid _ := HRD.out _ _ _ hs5; clear ho5 hg5 hs5 hz4)
          | (go_at_call 8; refine (HD.out _ _ _ _ hz5 HR5.out).mono ?_; rintro e w1 ⟨rfl, hv1⟩; have hv : Ext W w1 := hz5.trans hv1; clear hv1)
          | (go_at_call 9; refine (HG.out _).mono ?_; rintro e w2 ⟨rfl, hv2⟩; have yc2 := YC.out _ (hv.trans hv2); have yd2 := YD.out _ (hv.trans hv2))
          | (refine wpl_range (by rfl) 30 _ rfl w.heap.size 0 _ _ rfl (HP.out _ hv) Try.underlying30 rfl (by rw [lk]; exact pk_size) ?_))
        go_ret
        exact ⟨rfl, (HX0.out.trans (hv.trans hv2)).below⟩
      by_cases h2 : sp < 0
      · go_enter Try.func4, Try.ntmps4
        go_wp2_with (first
          | (at_builtin; refine wpList_want rfl fun K hK => wp_app0 (.tmp 15) (.tmp 16) rfl W.heap.size (w.heap.size + 1) rfl (HGL.out.1 _) HGL.out.2 a0 len0 cap0 L0 rfl (HS0.out.ext ((Ext.refl W).alloc _)) (by omega) ?_; intro v wa4 ho4 hx4; refine hK _ _ ?_; obtain ⟨q4, c4, rfl, -⟩ := ho4.src; have HO4 : Hid _ := ho4; have hz4 : Ext W wa4 := ((Ext.refl W).alloc _).trans hx4; clear hx4 ho4)
          | (at_builtin; refine wpList_want rfl fun K hK => wp_app (.tmp 17) (.tmp 18) rfl W.heap.size _ L0 rfl HO4.out a1 len1 cap1 L1 rfl (HS1.out.ext hz4) (by rw [HM.out]; omega) hz4.size ?_; intro v wa5 ho5 hg5; refine hK _ _ ?_; have hz5 : Ext W wa5 := grown_own HO4.out hg5 hz4 (Nat.le_refl _); obtain ⟨q5, c5, rfl, hs5⟩ := ho5.src; rw [HN01.out] at hs5 ⊢; have HR5 : Hid _ := HRD.out _ _ _ hs5; clear ho5 hg5 hs5 hz4)
          | (go_at_call 8; refine (HD.out _ _ _ _ hz5 HR5.out).mono ?_; rintro e w1 ⟨rfl, hv1⟩; have hv : Ext W w1 := hz5.trans hv1; clear hv1)
          | (go_at_call 9; refine (HG.out _).mono ?_; rintro e w2 ⟨rfl, hv2⟩; have yc2 := YC.out _ (hv.trans hv2); have yd2 := YD.out _ (hv.trans hv2))
          | (refine wpl_range (by rfl) 30 _ rfl w.heap.size 0 _ _ rfl (HP.out _ hv) Try.underlying30 rfl (by rw [lk]; exact pk_size) ?_))
        go_ret
        exact ⟨rfl, (HX0.out.trans (hv.trans hv2)).below⟩
      by_cases h3 : 65535 < sp
      · go_enter Try.func4, Try.ntmps4
        go_wp2_with (first
          | (at_builtin; refine wpList_want rfl fun K hK => wp_app0 (.tmp 15) (.tmp 16) rfl W.heap.size (w.heap.size + 1) rfl (HGL.out.1 _) HGL.out.2 a0 len0 cap0 L0 rfl (HS0.out.ext ((Ext.refl W).alloc _)) (by omega) ?_; intro v wa4 ho4 hx4; refine hK _ _ ?_; obtain ⟨q4, c4, rfl, -⟩ := ho4.src; have HO4 : Hid _ := ho4; have hz4 : Ext W wa4 := ((Ext.refl W).alloc _).trans hx4; clear hx4 ho4)
          | (at_builtin; refine wpList_want rfl fun K hK => wp_app (.tmp 17) (.tmp 18) rfl W.heap.size _ L0 rfl HO4.out a1 len1 cap1 L1 rfl (HS1.out.ext hz4) (by rw [HM.out]; omega) hz4.size ?_; intro v wa5 ho5 hg5; refine hK _ _ ?_; have hz5 : Ext W wa5 := grown_own HO4.out hg5 hz4 (Nat.le_refl _); obtain ⟨q5, c5, rfl, hs5⟩ := ho5.src; rw [HN01.out] at hs5 ⊢; have HR5 : Hid _ := HRD.out _ _ _ hs5; clear ho5 hg5 hs5 hz4)
          | (go_at_call 8; refine (HD.out _ _ _ _ hz5 HR5.out).mono ?_; rintro e w1 ⟨rfl, hv1⟩; have hv : Ext W w1 := hz5.trans hv1; clear hv1)
          | (go_at_call 9; refine (HG.out _).mono ?_; rintro e w2 ⟨rfl, hv2⟩; have yc2 := YC.out _ (hv.trans hv2); have yd2 := YD.out _ (hv.trans hv2))
          | (refine wpl_range (by rfl) 30 _ rfl w.heap.size 0 _ _ rfl (HP.out _ hv) Try.underlying30 rfl (by rw [lk]; exact pk_size) ?_))
        go_ret
        exact ⟨rfl, (HX0.out.trans (hv.trans hv2)).below⟩
      by_cases h4 : dp < 0
      · go_enter Try.func4, Try.ntmps4
        go_wp2_with (first
          | (at_builtin; refine wpList_want rfl fun K hK => wp_app0 (.tmp 15) (.tmp 16) rfl W.heap.size (w.heap.size + 1) rfl (HGL.out.1 _) HGL.out.2 a0 len0 cap0 L0 rfl (HS0.out.ext ((Ext.refl W).alloc _)) (by omega) ?_; intro v wa4 ho4 hx4; refine hK _ _ ?_; obtain ⟨q4, c4, rfl, -⟩ := ho4.src; have HO4 : Hid _ := ho4; have hz4 : Ext W wa4 := ((Ext.refl W).alloc _).trans hx4; clear hx4 ho4)
          | (at_builtin; refine wpList_want rfl fun K hK => wp_app (.tmp 17) (.tmp 18) rfl W.heap.size _ L0 rfl HO4.out a1 len1 cap1 L1 rfl (HS1.out.ext hz4) (by rw [HM.out]; omega) hz4.size ?_; intro v wa5 ho5 hg5; refine hK _ _ ?_; have hz5 : Ext W wa5 := grown_own HO4.out hg5 hz4 (Nat.le_refl _); obtain ⟨q5, c5, rfl, hs5⟩ := ho5.src; rw [HN01.out] at hs5 ⊢; have HR5 : Hid _ := HRD.out _ _ _ hs5; clear ho5 hg5 hs5 hz4)
          | (go_at_call 8; refine (HD.out _ _ _ _ hz5 HR5.out).mono ?_; rintro e w1 ⟨rfl, hv1⟩; have hv : Ext W w1 := hz5.trans hv1; clear hv1)
          | (go_at_call 9; refine (HG.out _).mono ?_; rintro e w2 ⟨rfl, hv2⟩; have yc2 := YC.out _ (hv.trans hv2); have yd2 := YD.out _ (hv.trans hv2))
          | (refine wpl_range (by rfl) 30 _ rfl w.heap.size 0 _ _ rfl (HP.out _ hv) Try.underlying30 rfl (by rw [lk]; exact pk_size) ?_))
        go_ret
        exact ⟨rfl, (HX0.out.trans (hv.trans hv2)).below⟩
      by_cases h5 : 65535 < dp
      · go_enter Try.func4, Try.ntmps4
        go_wp2_with (first
          | (at_builtin; refine wpList_want rfl fun K hK => wp_app0 (.tmp 15) (.tmp 16) rfl W.heap.size (w.heap.size + 1) rfl (HGL.out.1 _) HGL.out.2 a0 len0 cap0 L0 rfl (HS0.out.ext ((Ext.refl W).alloc _)) (by omega) ?_; intro v wa4 ho4 hx4; refine hK _ _ ?_; obtain ⟨q4, c4, rfl, -⟩ := ho4.src; have HO4 : Hid _ := ho4; have hz4 : Ext W wa4 := ((Ext.refl W).alloc _).trans hx4; clear hx4 ho4)
          | (at_builtin; refine wpList_want rfl fun K hK => wp_app (.tmp 17) (.tmp 18) rfl W.heap.size _ L0 rfl HO4.out a1 len1 cap1 L1 rfl (HS1.out.ext hz4) (by rw [HM.out]; omega) hz4.size ?_; intro v wa5 ho5 hg5; refine hK _ _ ?_; have hz5 : Ext W wa5 := grown_own HO4.out hg5 hz4 (Nat.le_refl _); obtain ⟨q5, c5, rfl, hs5⟩ := ho5.src; rw [HN01.out] at hs5 ⊢; have HR5 : Hid _ := HRD.out _ _ _ hs5; clear ho5 hg5 hs5 hz4)
          | (go_at_call 8; refine (HD.out _ _ _ _ hz5 HR5.out).mono ?_; rintro e w1 ⟨rfl, hv1⟩; have hv : Ext W w1 := hz5.trans hv1; clear hv1)
          | (go_at_call 9; refine (HG.out _).mono ?_; rintro e w2 ⟨rfl, hv2⟩; have yc2 := YC.out _ (hv.trans hv2); have yd2 := YD.out _ (hv.trans hv2))
          | (refine wpl_range (by rfl) 30 _ rfl w.heap.size 0 _ _ rfl (HP.out _ hv) Try.underlying30 rfl (by rw [lk]; exact pk_size) ?_))
        go_ret
        exact ⟨rfl, (HX0.out.trans (hv.trans hv2)).below⟩
      have HNF : Hid (f (plainV true true ⟨#[]⟩) = true) := HNO.out (by omega) (by omega) (by omega) (by omega)
      go_enter Try.func4, Try.ntmps4
      go_wp2_with (first
        | (at_builtin; refine wpList_want rfl fun K hK => wp_app0 (.tmp 15) (.tmp 16) rfl W.heap.size (w.heap.size + 1) rfl (HGL.out.1 _) HGL.out.2 a0 len0 cap0 L0 rfl (HS0.out.ext ((Ext.refl W).alloc _)) (by omega) ?_; intro v wa4 ho4 hx4; refine hK _ _ ?_; obtain ⟨q4, c4, rfl, -⟩ := ho4.src; have HO4 : Hid _ := ho4; have hz4 : Ext W wa4 := ((Ext.refl W).alloc _).trans hx4; clear hx4 ho4)
        | (at_builtin; refine wpList_want rfl fun K hK => wp_app (.tmp 17) (.tmp 18) rfl W.heap.size _ L0 rfl HO4.out a1 len1 cap1 L1 rfl (HS1.out.ext hz4) (by rw [HM.out]; omega) hz4.size ?_; intro v wa5 ho5 hg5; refine hK _ _ ?_; have hz5 : Ext W wa5 := grown_own HO4.out hg5 hz4 (Nat.le_refl _); obtain ⟨q5, c5, rfl, hs5⟩ := ho5.src; rw [HN01.out] at hs5 ⊢; have HR5 : Hid _ := HRD.out _ _ _ hs5; clear ho5 hg5 hs5 hz4)
        | (go_at_call 8; refine (HD.out _ _ _ _ hz5 HR5.out).mono ?_; rintro e w1 ⟨rfl, hv1⟩; have hv : Ext W w1 := hz5.trans hv1; clear hv1)
        | (go_at_call 9; refine (HG.out _).mono ?_; rintro e w2 ⟨rfl, hv2⟩; have yc2 := YC.out _ (hv.trans hv2); have yd2 := YD.out _ (hv.trans hv2))
        | (go_at_call 17; refine (plain_any true _).mono ?_; rintro e wa6 ⟨rfl, hx6⟩; have tok1 : Hid True := trivial)
        | (refine wpl_store (by rfl) 43 _ _ rfl rfl 28 wa6.heap.size (ruleL (plainV true false ⟨#[]⟩)).toArray _ _ rfl rfl (heap_new wa6 _) rule_size rfl rfl (rule_one _) ?_; intro wb4 hy4 k4; clear tok1; have K4 : Hid _ := k4; have hzb4 : Ext wa6 wb4 := ExtX.ext ((Ext.refl wa6).alloc _) hy4 (Nat.le_refl _); clear hy4 k4)
        | (refine wpl_put (by rfl) 4 _ _ rfl rfl wa6.heap.size 2 [Value.bool true] _ _ rfl rfl K4.out bool_size (by show 2 + 1 ≤ 28; omega) (by simp [Value.oneCell']) ?_; intro wb6 hy6 k6; have K6 : Hid (wb6.heap[wa6.heap.size]? = some (.cells (ruleL (plainV true true ⟨#[]⟩)).toArray 43 (0, 0))) := k6; have hz6 : Ext wa6 wb6 := ExtX.ext hzb4 hy6 (Nat.le_refl _); clear hy6 k6 hzb4)
        | (refine wpl_range (by rfl) 30 _ rfl w.heap.size 0 _ _ rfl (HP.out _ hv) Try.underlying30 rfl (by rw [lk]; exact pk_size) ?_))
      have hxb : Ext W wb6 := ((hv.trans hv2).trans hx6).trans hz6
      obtain ⟨r0, hr0⟩ : ∃ r, plainV true true ⟨#[]⟩ = r := ⟨_, rfl⟩
      have hok0 : RuOk r0 := hr0 ▸ ruOk_plain true true _
      have hq0 : r0.quick = true := by rw [← hr0]; rfl
      rw [hr0] at K6 HNF
      have HK6 : Hid (∀ w', ExtN wb6.heap.size wb6 w' → w'.heap[wa6.heap.size]? = some (.cells (ruleL r0).toArray 43 (0, 0))) := fun w' h => (h.block _ (blk_lt K6.out) (blk_lt K6.out)).trans K6.out
      have HN : Hid (∀ w', ExtN wb6.heap.size wb6 w' → Ext W w') := fun w' h => ext_N hxb h hxb.size
      have hz1 := HZA.out.1
      have hz2 := HZA.out.2.1
      have hz3 := HZA.out.2.2.1
      have HP2 : Hid (∀ w', Ext W w' → w'.rangeAt w.heap.size 0 ck) := HP.out
      have HLN : Hid ((ruleL r0).length = 28) := ruleL_len r0
      clear hv hv2 hx6 hz6 K4 K6 HNO HD HG hr0 h1 h2 h3 h4 h5 yc2 yd2 YC YD HO4 hz5 HR5 HRD HGL hW
      refine wp_region_makeN wb6.heap.size wb6.heap.size (Nat.le_refl _) [(1, 0), (3, 0), (6, 0), (0, 3), (4, 3), (0, 2), (2, 1), (4, 2), (5, 4), (7, 4), (8, 0)] (by kernel_rfl) (by kernel_rfl) rfl (by kernel_rfl) (fun _ _ _ _ _ => Iff.rfl) ?_
      have hxd : ExtN wb6.heap.size wb6 wb6.drew := (Ext.refl wb6).drew.upto _
      have hsd : wb6.heap.size ≤ wb6.drew.heap.size := hxd.size
      obtain ⟨W1, hW1⟩ : ∃ W1, wb6.drew = W1 := ⟨_, rfl⟩
      rw [hW1] at hxd hsd ⊢
      clear hW1
      (refine wpW_read (v := ?_) rfl (by rfl) ?_ ?_; rotate_left; (focus (intro w' hx; go_simp; first | done | with_reducible rfl)); simp only [Act.put, List.setIfInBounds_toArray, List.set_cons_zero, List.set_cons_succ])
      (refine wpW_read rfl (by rfl) (fun w' hx => exec_load 43 _ rfl wa6.heap.size _ _ _ rfl (HK6.out _ (hxd.trans hx)) Try.underlying43 rfl (by rw [List.size_toArray, HLN.out]; exact rule_size)) ?_; simp only [Act.put, List.setIfInBounds_toArray, List.set_cons_zero, List.set_cons_succ])
      (refine wpW_read (v := ?_) rfl (by rfl) ?_ ?_; rotate_left; (focus (intro w' hx; go_simp; first | done | with_reducible rfl)); simp only [Act.put, List.setIfInBounds_toArray, List.set_cons_zero, List.set_cons_succ])
      (refine wpW_say _ (fun g => .slice (some ⟨g, 0, none⟩) 0 0) rfl (by rfl) (fun w' => by go_simp; first | done | with_reducible rfl) ?_)
      (refine wpW_say _ (fun g => .slice (some ⟨g, 0, none⟩) 1 1) rfl (by rfl) (fun w' => exec_rules [r0] (by simp) (by simp) _ rfl rfl) ?_)
      refine wpW_make _ (fun g => .slice (some ⟨g, 0, none⟩) 0 0) rfl (by rfl) (fun w' => by go_simp; first | done | with_reducible rfl) ?_; simp only [Act.put, List.setIfInBounds_toArray, List.set_cons_zero, List.set_cons_succ]
      intro W2 g hx2 hBg hg
      have hw1 : Ext W W1 := HN.out W1 hxd
      (refine wpW_call rfl (by rfl) (fun W3 hx3 K hK => ?_); refine wp_app0 (.tmp 53) (.tmp 54) rfl wb6.heap.size g rfl (hx3.heap hg) hBg a0 len0 cap0 L0 rfl (HS0.out.ext (hw1.trans (hx2.trans hx3))) hz1 ?_; intro v W4 ho hx4; refine hK _ _ hx4 ?_; clear hK K)
      simp only [Act.put, List.setIfInBounds_toArray, List.set_cons_zero, List.set_cons_succ]
      have hw4 : Ext W W4 := hw1.trans (hx2.trans (hx3.trans hx4))
      obtain ⟨qa, ca, rfl, -⟩ := ho.src
      refine wpW_make _ (fun g => .slice (some ⟨g, 0, none⟩) 1 1) rfl (by rfl) (fun w' => exec_rules [r0] (by simp) (by simp) _ rfl rfl) ?_
      simp only [Act.put, List.setIfInBounds_toArray, List.set_cons_zero, List.set_cons_succ]
      intro W5 g2 hx5 hB2 hg2
      have hw5 : Ext W W5 := hw4.trans hx5
      have hs5 : wb6.heap.size ≤ W5.heap.size := Nat.le_trans hB2 (Nat.le_of_lt (blk_lt hg2))
      have src5 : SrcR W5 (some ⟨g2, 0, none⟩) 1 1 [r0] := ⟨rdK_block (L := [r0]) (rest := []) ruleL_len (by rw [List.append_nil]; exact hg2), by simp⟩
      have ho5 := ho.later hx5
      (refine wpW_last rfl (by rfl) (fun K hK => ?_); refine wp_app (.tmp 55) (.tmp 57) rfl wb6.heap.size _ L0 rfl ho5 _ 1 1 [r0] rfl src5 (by rw [HM.out]; exact hz2) hs5 ?_; intro v6 W6 ho6 hg6; refine hK _ _ (grown_N ho5 hg6) ?_; clear hK K)
      have hw6 : Ext W W6 := ext_N hw5 (grown_N ho5 hg6) hxb.size
      have hs6 : wb6.heap.size ≤ W6.heap.size := Nat.le_trans hs5 hg6.size
      simp only [Act.put, List.setIfInBounds_toArray, List.set_cons_zero, List.set_cons_succ]
      obtain ⟨q6, c6, rfl, -⟩ := ho6.src
      (refine wpW_last rfl (by rfl) (fun K hK => ?_); refine wp_app (.tmp 58) (.tmp 59) rfl wb6.heap.size _ (L0 ++ [r0]) rfl ho6 _ len1 _ L1 rfl (HS1.out.ext hw6) (by rw [List.length_append, HM.out]; exact hz3) hs6 ?_; intro v7 W7 ho7 hg7; refine hK _ _ (grown_N ho6 hg7) ?_; clear hK K)
      have hw7 : Ext W W7 := ext_N hw6 (grown_N ho6 hg7) hxb.size
      simp only [Act.put, List.setIfInBounds_toArray, List.set_cons_zero, List.set_cons_succ]
      obtain ⟨q7, c7, rfl, hs7⟩ := ho7.src
      obtain ⟨M, hM⟩ : ∃ M, L0 ++ [r0] ++ L1 = M := ⟨_, rfl⟩
      have hMl : M.length = len0 + 1 + len1 := by rw [← hM, List.length_append, List.length_append, HM.out, HM1.out, List.length_singleton]
      have hMo : ∀ r ∈ M, RuOk r := fun r hr => by
        rw [← hM] at hr
        rcases List.mem_append.1 hr with hr | hr
        · rcases List.mem_append.1 hr with hr | hr
          · exact HOK.out r (List.mem_append.2 (.inl hr))
          · rw [List.mem_singleton.1 hr]; exact hok0
        · exact HOK.out r (List.mem_append.2 (.inr hr))
      rw [hM] at hs7 ⊢
      rw [hMl] at hs7 ⊢
      obtain ⟨m7, hm7⟩ : ∃ m, len0 + 1 + len1 = m := ⟨_, rfl⟩
      rw [hm7] at hs7 ⊢
      have hm8 : m7 ≤ 9223372036854775807 := by rw [← hm7]; exact HZA.out.2.2.2.1
      generalize (L0 ++ [r0]).length = n6 at *
      generalize L0.length = n4 at *
      (refine wpW_read (v := ?_) rfl (by rfl) ?_ ?_; rotate_left; (focus (intro w' hx; go_simp; first | done | with_reducible rfl)); simp only [Act.put, List.setIfInBounds_toArray, List.set_cons_zero, List.set_cons_succ])
      refine wpW_done ?_
      have HLA : Hid (Calls Try.prog 12 #[.slice q7 m7 c7, .slice a2 len2 cap2, .string a3, .agg ck.toArray] W7 fun e w2 => e = .returned (.int .i64 (lastV f M)) ∧ Ext W7 w2) := HA1.out M q7 m7 c7 W7 hw7 (rdL_src hs7 hm8 hMo)
      have HY : Hid (lastK f (L0.drop 0 ++ r0 :: L1) (-1) 0 = lastV f M) := by rw [← hM, List.append_assoc]; rfl
      generalize lastV f M = y at *
      have hp7 := HP2.out W7 hw7
      have hla := HLA.out
      have HW7 : Hid (Ext W W7) := hw7
      have HQ0 : Hid (r0.quick = true) := hq0
      have hl9 : (len0 : Int) ≤ 9223372036854775807 := HZA.out.2.2.2.2
      clear hM hMl hm7 hMo hs7 hg7 ho7 hg6 ho6 ho5 src5 hg2 hB2 hx5 ho hx4 hx3 hx2 hw1 hw4 hw5 hw6 hs5 hs6 hg hBg hxd hsd HN HK6 hok0 hz1 hz2 hz3 HP hq0 HLA hsm
      go_wp2_with (refine wpl_range (by rfl) 30 _ rfl w.heap.size 0 _ _ rfl hp7 Try.underlying30 rfl (by rw [lk]; exact pk_size) ?_)
      go_at_call 12
      refine hla.mono ?_
      rintro e w8 ⟨rfl, hx8⟩
      have hx8' : Ext W w8 := HW7.out.trans hx8
      clear hp7 hla hx8 hw7 HW7
      go_wp2_with fail
      go_loopg [14] len0 (fun kx s14 wr => ∃ (j : Nat) (x : Int), s14 = .int .i64 (j : Int) ∧ j ≤ len0 ∧ len0 - j ≤ kx ∧ Ext W wr ∧ Hid (lastK f (L0.drop j ++ r0 :: L1) x j = y))
      case atStart => exact ⟨0, -1, rfl, Nat.zero_le _, Nat.le_refl _, hx8', HY⟩
      case round =>
        obtain ⟨j, x, rfl, hjm, hjx, hxw, HA⟩ := hrel
        by_cases hlt : j < len0
        · obtain ⟨r, hr⟩ : ∃ r, L0[j]? = some r := ⟨_, List.getElem?_eq_getElem (by rw [HMB.out _ rfl]; exact hlt)⟩
          have HT : Hid _ := quick_step (f := f) hr (r0 :: L1) x
          have o1 := HQ.out r (HOK.out r (List.mem_append.2 (.inl (List.mem_of_getElem? hr))))
          obtain ⟨b, off, rfl, hb, hg⟩ := (HS0.out.ext hxw).row.get hr
          have HR : Hid (∀ w', Ext wr w' → w'.rangeAt b (off + j * 28) (ruleL r)) := hg
          have qc := (ruAt hg).c2
          have hji : (j : Int) < (len0 : Int) := by omega
          have lr := ruleL_len r
          clear hr hb hg
          generalize ruleL r = cr at *
          go_wp2_with fail
          refine wp_region_eager [(0, false), (1, false), (2, false), (3, false), (4, false), (5, false), (6, false), (7, false), (8, false), (9, false), (10, false), (11, false), (12, false), (13, true), (14, false)] (by kernel_rfl) (by kernel_rfl) rfl (by kernel_rfl) (fun _ _ _ _ _ h => h) (WpH.out ?_)
          have hxe : Ext wr wr.drew := (Ext.refl wr).drew
          replace qc := later qc hxe
          generalize wr.drew = W9 at *
          cases hq : r.quick with
          | false =>
            rw [hq] at qc
            have HZ : Hid (∃ x', lastK f (L0.drop (j + 1) ++ r0 :: L1) x' (j + 1) = y) := by
              have h := HT.out
              rw [HA.out, hq] at h
              cases hf : f r with
              | true => rw [hf, if_pos rfl, if_neg (by decide)] at h; exact ⟨_, h.symm⟩
              | false => rw [hf, if_neg (by decide)] at h; exact ⟨_, h.symm⟩
            iterate 6 (refine wpH_read (v := ?_) rfl (by rfl) ?_ ?_; rotate_left; (focus (intro w' hx; go_simp; first | done | with_reducible rfl)); simp only [Act.put, List.setIfInBounds_toArray, List.set_cons_zero, List.set_cons_succ])
            iterate 8 (refine wpH_skip rfl (by rfl) ?_; simp only [Act.put, List.setIfInBounds_toArray, List.set_cons_zero, List.set_cons_succ])
            (refine wpH_read (v := ?_) rfl (by rfl) ?_ ?_; rotate_left; (focus (intro w' hx; go_simp; first | done | with_reducible rfl)); simp only [Act.put, List.setIfInBounds_toArray, List.set_cons_zero, List.set_cons_succ])
            refine wpH_done ?_
            clear o1 lr qc
            go_wp2_with fail
            go_roundg (len0 - (j + 1))
            case measure => omega
            case rel =>
              obtain ⟨x', hx'⟩ := HZ.out
              exact ⟨j + 1, x', by go_num, by omega, Nat.le_refl _, hxw.trans hxe, hx'⟩
          | true =>
            rw [hq] at qc
            cases hf : f r with
            | false =>
              rw [hf] at o1
              have HZ : Hid (lastK f (L0.drop (j + 1) ++ r0 :: L1) x (j + 1) = y) := by
                have h := HT.out
                rw [HA.out, hf, if_neg (by decide)] at h
                exact h.symm
              clear hf
              iterate 9 (refine wpH_read (v := ?_) rfl (by rfl) ?_ ?_; rotate_left; (focus (intro w' hx; go_simp; first | done | with_reducible rfl)); simp only [Act.put, List.setIfInBounds_toArray, List.set_cons_zero, List.set_cons_succ])
              (refine wpH_read rfl (by rfl) (fun w' hx => exec_range 43 _ rfl b (off + j * 28) _ _ rfl (HR.out _ (hxe.trans hx)) Try.underlying43 rfl (by rw [lr]; exact rule_size)) ?_; simp only [Act.put, List.setIfInBounds_toArray, List.set_cons_zero, List.set_cons_succ])
              iterate 2 (refine wpH_read (v := ?_) rfl (by rfl) ?_ ?_; rotate_left; (focus (intro w' hx; go_simp; first | done | with_reducible rfl)); simp only [Act.put, List.setIfInBounds_toArray, List.set_cons_zero, List.set_cons_succ])
              (refine wpH_read rfl (by rfl) (fun w' hx => exec_range 30 _ rfl w.heap.size 0 _ _ rfl (HP2.out _ (hxw.trans (hxe.trans hx))) Try.underlying30 rfl (by rw [lk]; exact pk_size)) ?_; simp only [Act.put, List.setIfInBounds_toArray, List.set_cons_zero, List.set_cons_succ])
              (refine wpH_call rfl (by rfl) (fun K hK => ?_); go_simp; (go_at_call 11; refine (o1 _ (hxw.trans hxe)).mono ?_; rintro e wf ⟨rfl, hxf⟩; refine hK _ _ hxf ?_; clear hK K))
              (refine wpH_read (v := ?_) rfl (by rfl) ?_ ?_; rotate_left; (focus (intro w' hx; go_simp; first | done | with_reducible rfl)); simp only [Act.put, List.setIfInBounds_toArray, List.set_cons_zero, List.set_cons_succ])
              refine wpH_done ?_
              clear o1 lr qc
              go_wp2_with fail
              go_roundg (len0 - (j + 1))
              case measure => omega
              case rel => exact ⟨j + 1, x, by go_num, by omega, Nat.le_refl _, hxw.trans (hxe.trans hxf), HZ⟩
            | true =>
              rw [hf] at o1
              have hy : y = (j : Int) := by
                have h := HT.out
                rw [HA.out, hf, if_pos rfl, hq, if_pos rfl] at h
                exact h
              clear hf
              iterate 9 (refine wpH_read (v := ?_) rfl (by rfl) ?_ ?_; rotate_left; (focus (intro w' hx; go_simp; first | done | with_reducible rfl)); simp only [Act.put, List.setIfInBounds_toArray, List.set_cons_zero, List.set_cons_succ])
              (refine wpH_read rfl (by rfl) (fun w' hx => exec_range 43 _ rfl b (off + j * 28) _ _ rfl (HR.out _ (hxe.trans hx)) Try.underlying43 rfl (by rw [lr]; exact rule_size)) ?_; simp only [Act.put, List.setIfInBounds_toArray, List.set_cons_zero, List.set_cons_succ])
              iterate 2 (refine wpH_read (v := ?_) rfl (by rfl) ?_ ?_; rotate_left; (focus (intro w' hx; go_simp; first | done | with_reducible rfl)); simp only [Act.put, List.setIfInBounds_toArray, List.set_cons_zero, List.set_cons_succ])
              (refine wpH_read rfl (by rfl) (fun w' hx => exec_range 30 _ rfl w.heap.size 0 _ _ rfl (HP2.out _ (hxw.trans (hxe.trans hx))) Try.underlying30 rfl (by rw [lk]; exact pk_size)) ?_; simp only [Act.put, List.setIfInBounds_toArray, List.set_cons_zero, List.set_cons_succ])
              (refine wpH_call rfl (by rfl) (fun K hK => ?_); go_simp; (go_at_call 11; refine (o1 _ (hxw.trans hxe)).mono ?_; rintro e wf ⟨rfl, hxf⟩; refine hK _ _ hxf ?_; clear hK K))
              (refine wpH_read (v := ?_) rfl (by rfl) ?_ ?_; rotate_left; (focus (intro w' hx; go_simp; first | done | with_reducible rfl)); simp only [Act.put, List.setIfInBounds_toArray, List.set_cons_zero, List.set_cons_succ])
              refine wpH_done ?_
              clear o1 lr qc
              subst y
              go_wp2_with (go_at_call 16; refine (known_any _).mono ?_; rintro e wk ⟨rfl, hxk⟩)
              go_ret
              exact ⟨by simp, (HX0.out.trans (hxw.trans (hxe.trans (hxf.trans hxk)))).below⟩
        · obtain rfl : j = len0 := by omega
          have hji : ¬ (j : Int) < (j : Int) := by omega
          have hy : y = (j : Int) := by
            rw [← HA.out]
            exact quick_end (by rw [HMB.out _ rfl]; exact Nat.le_refl _) HNF.out HQ0.out L1 x
          subst y
          go_wp2_with (go_at_call 16; refine (known_any _).mono ?_; rintro e wk ⟨rfl, hxk⟩)
          go_ret
          exact ⟨by simp, (HX0.out.trans (hxw.trans hxk)).below⟩

theorem contract (H : Type) (enc : TypeId × Value → H) (W : World) (base : Nat) (args : Array Value) (ds gs : List (DataW H)) (before : List MemPlace)
    (hval : ∀ (j : Nat) t v, Try.f4.params[j]? = some t → args[j]? = some v → Value.okWide Try.prog W .any base t v)
    (hW : DataW.Whole enc Try.prog Try.f4.params.toList Rows.matchQuickSpec.vars false W args.toList ds gs before) (hsh : W.ShapedOpen Try.prog) (hk : Rows.uptoSmall H (ds ++ gs) = true) :
    Calls Try.prog 4 args W fun e W' => ∃ v, e = .returned v ∧ Rows.matchQuickSpec.post enc Try.prog Try.f4 false true false false W args v W' := by
  have hW' := hW
  obtain ⟨p, q, hA0, hV, rfl, hfz, hnd⟩ := hW
  have hA : DataW.TrodAll enc Try.prog W 0 (fun _ => true) true Try.f4.params.toList args.toList ds p := hA0
  rw [Try.params4] at hA hval
  obtain ⟨v0, vs0, d0, ds0, p0, q0, hargs, rfl, rfl, h0, r0⟩ := trodAll_cons hA
  obtain ⟨v1, vs1, d1, ds1, p1, q1, rfl, rfl, rfl, h1, r1⟩ := trodAll_cons r0
  obtain ⟨v2, vs2, d2, ds2, p2, q2, rfl, rfl, rfl, h2, r2⟩ := trodAll_cons r1
  obtain ⟨v3, vs3, d3, ds3, p3, q3, rfl, rfl, rfl, h3, r3⟩ := trodAll_cons r2
  obtain ⟨v4, vs4, d4, ds4, p4, q4, rfl, rfl, rfl, h4, r4⟩ := trodAll_cons r3
  obtain ⟨rfl, rfl, rfl⟩ := trodAll_nil r4
  obtain rfl : args = #[v0, v1, v2, v3, v4] := by cases args; simp_all
  obtain ⟨rfl, rfl⟩ := trodVars_none hV
  have hbulk := of_decide_eq_true hk
  rw [List.append_nil] at hbulk
  have k0 := h0
  have lt0 : ∀ x ∈ p0, x.block < W.heap.size := by obtain ⟨m, hm⟩ := k0; exact DataW.trod_lt m _ _ _ hm
  obtain ⟨b0, l0, c0, rfl⟩ := okWide_slice Try.underlying22 (hval 0 22 v0 rfl rfl)
  obtain ⟨fu0, hf0⟩ := h0
  obtain ⟨a0, len0, cap0, zs0, ce0, row0⟩ := open_rowG 28 cells43 ok43 (by omega) cells43_length Try.underlying22 (by kernel_rfl) elem43 hf0
  obtain ⟨rfl, rfl, rfl⟩ : a0 = b0 ∧ len0 = l0 ∧ cap0 = c0 := by simpa [Value.cells, eq_comm] using ce0
  have hl0 : len0 ≤ 1048576 := Nat.le_trans (row_bulk Try.underlying22 (show DataW.trod enc _ _ _ _ _ _ _ [.slice a0 len0 cap0] = some (d0, _) by simpa [Value.cells] using hf0)) (Nat.le_trans (bulk_mem (List.mem_of_getElem? (i := 0) rfl)) hbulk)
  have k1 := h1
  have lt1 : ∀ x ∈ p1, x.block < W.heap.size := by obtain ⟨m, hm⟩ := k1; exact DataW.trod_lt m _ _ _ hm
  obtain ⟨b1, l1, c1, rfl⟩ := okWide_slice Try.underlying22 (hval 1 22 v1 rfl rfl)
  obtain ⟨fu1, hf1⟩ := h1
  obtain ⟨a1, len1, cap1, zs1, ce1, row1⟩ := open_rowG 28 cells43 ok43 (by omega) cells43_length Try.underlying22 (by kernel_rfl) elem43 hf1
  obtain ⟨rfl, rfl, rfl⟩ : a1 = b1 ∧ len1 = l1 ∧ cap1 = c1 := by simpa [Value.cells, eq_comm] using ce1
  have hl1 : len1 ≤ 1048576 := Nat.le_trans (row_bulk Try.underlying22 (show DataW.trod enc _ _ _ _ _ _ _ [.slice a1 len1 cap1] = some (d1, _) by simpa [Value.cells] using hf1)) (Nat.le_trans (bulk_mem (List.mem_of_getElem? (i := 1) rfl)) hbulk)
  have k2 := h2
  have lt2 : ∀ x ∈ p2, x.block < W.heap.size := by obtain ⟨m, hm⟩ := k2; exact DataW.trod_lt m _ _ _ hm
  obtain ⟨b2, l2, c2, rfl⟩ := okWide_slice Try.underlying23 (hval 2 23 v2 rfl rfl)
  obtain ⟨fu2, hf2⟩ := h2
  obtain ⟨a2, len2, cap2, zs2, ce2, row2⟩ := open_rowG 2 cells53 (ok53 W) (by omega) cells53_length Try.underlying23 (by kernel_rfl) elem53 hf2
  obtain ⟨rfl, rfl, rfl⟩ : a2 = b2 ∧ len2 = l2 ∧ cap2 = c2 := by simpa [Value.cells, eq_comm] using ce2
  have hl2 : len2 ≤ 1048576 := Nat.le_trans (row_bulk Try.underlying23 (show DataW.trod enc _ _ _ _ _ _ _ [.slice a2 len2 cap2] = some (d2, _) by simpa [Value.cells] using hf2)) (Nat.le_trans (bulk_mem (List.mem_of_getElem? (i := 2) rfl)) hbulk)
  obtain ⟨a3, rfl, rfl, rfl, w3⟩ := open_string Try.underlying9 (hval 3 9 v3 rfl rfl) h3
  have k4 := h4
  have lt4 : ∀ x ∈ p4, x.block < W.heap.size := by obtain ⟨m, hm⟩ := k4; exact DataW.trod_lt m _ _ _ hm
  obtain ⟨cs4, rfl, hs4⟩ := okWide_struct Try.underlying30 (hval 4 30 v4 rfl rfl)
  obtain ⟨u4a, u4b, u4c, u4d, u4e, u4f, u4g, u4h, u4i, u4j, u4k, u4l, u4m, u4n, u4o, u4p, u4q, u4r, rfl⟩ := arr18 (hs4.trans (by kernel_rfl))
  obtain ⟨fu4, hf4⟩ := h4
  obtain ⟨_, _, e73⟩ := field_at Try.underlying30 hf4 0 rfl 11 (by kernel_rfl)
  obtain ⟨_, _, e74⟩ := field_at Try.underlying27 e73 0 rfl 1 (by kernel_rfl)
  obtain ⟨a40a, c75, _, w40a⟩ := DataW.trod_int Try.underlying3 e74
  obtain rfl : u4a = .int .i64 a40a := by simpa [Value.cells] using c75
  obtain ⟨_, _, e76⟩ := field_at Try.underlying27 e73 1 rfl 1 (by kernel_rfl)
  obtain ⟨a40b, c77, _, w40b⟩ := DataW.trod_int Try.underlying3 e76
  obtain rfl : u4b = .int .i64 a40b := by simpa [Value.cells] using c77
  obtain ⟨_, _, e78⟩ := field_at Try.underlying27 e73 2 rfl 1 (by kernel_rfl)
  obtain ⟨a40c, c79, _⟩ := DataW.trod_bool Try.underlying4 e78
  obtain rfl : u4c = .bool a40c := by simpa [Value.cells] using c79
  obtain ⟨_, _, e80⟩ := field_at Try.underlying27 e73 3 rfl 1 (by kernel_rfl)
  obtain ⟨a40d, c81, _⟩ := DataW.trod_bool Try.underlying4 e80
  obtain rfl : u4d = .bool a40d := by simpa [Value.cells] using c81
  obtain ⟨_, _, e82⟩ := field_at Try.underlying27 e73 4 rfl 1 (by kernel_rfl)
  obtain ⟨a40e, c83, _, w40e⟩ := DataW.trod_int Try.underlying3 e82
  obtain rfl : u4e = .int .i64 a40e := by simpa [Value.cells] using c83
  obtain ⟨_, _, e84⟩ := field_at Try.underlying27 e73 5 rfl 1 (by kernel_rfl)
  obtain ⟨a40f, c85, _, w40f⟩ := DataW.trod_int Try.underlying3 e84
  obtain rfl : u4f = .int .i64 a40f := by simpa [Value.cells] using c85
  obtain ⟨_, _, e86⟩ := field_at Try.underlying27 e73 6 rfl 1 (by kernel_rfl)
  obtain ⟨a40g, c87, _, w40g⟩ := DataW.trod_int Try.underlying3 e86
  obtain rfl : u4g = .int .i64 a40g := by simpa [Value.cells] using c87
  obtain ⟨_, _, e88⟩ := field_at Try.underlying27 e73 7 rfl 1 (by kernel_rfl)
  obtain ⟨a40h, c89, _, w40h⟩ := DataW.trod_int Try.underlying24 e88
  obtain rfl : u4h = .int .u32 a40h := by simpa [Value.cells] using c89
  obtain ⟨_, _, e90⟩ := field_at Try.underlying27 e73 8 rfl 1 (by kernel_rfl)
  obtain ⟨a40i, c91, _, w40i⟩ := DataW.trod_int Try.underlying24 e90
  obtain rfl : u4i = .int .u32 a40i := by simpa [Value.cells] using c91
  obtain ⟨_, _, e92⟩ := field_at Try.underlying27 e73 9 rfl 1 (by kernel_rfl)
  obtain ⟨a40j, len40j, cap40j, zs40j, c93, row40j⟩ := open_rowI Try.underlying25 Try.underlying5 (by kernel_rfl) (fun _ => rfl) e92
  obtain rfl : u4j = .slice a40j len40j cap40j := by simpa [Value.cells] using c93
  obtain ⟨_, _, e94⟩ := field_at Try.underlying27 e73 10 rfl 1 (by kernel_rfl)
  obtain ⟨a40k, len40k, cap40k, zs40k, c95, row40k⟩ := open_rowI Try.underlying25 Try.underlying5 (by kernel_rfl) (fun _ => rfl) e94
  obtain rfl : u4k = .slice a40k len40k cap40k := by simpa [Value.cells] using c95
  obtain ⟨_, _, e96⟩ := field_at Try.underlying30 hf4 1 rfl 1 (by kernel_rfl)
  obtain ⟨a41, c97, _, w41⟩ := DataW.trod_int Try.underlying3 e96
  obtain rfl : u4l = .int .i64 a41 := by simpa [Value.cells] using c97
  obtain ⟨_, _, e98⟩ := field_at Try.underlying30 hf4 2 rfl 1 (by kernel_rfl)
  obtain ⟨a42, c99, _, w42⟩ := DataW.trod_int Try.underlying3 e98
  obtain rfl : u4m = .int .i64 a42 := by simpa [Value.cells] using c99
  obtain ⟨_, _, e100⟩ := field_at Try.underlying30 hf4 3 rfl 1 (by kernel_rfl)
  obtain ⟨a43, c101, _, w43⟩ := DataW.trod_int Try.underlying3 e100
  obtain rfl : u4n = .int .i64 a43 := by simpa [Value.cells] using c101
  obtain ⟨_, _, e102⟩ := field_at Try.underlying30 hf4 4 rfl 1 (by kernel_rfl)
  obtain ⟨a44, c103, _, w44⟩ := DataW.trod_int Try.underlying3 e102
  obtain rfl : u4o = .int .i64 a44 := by simpa [Value.cells] using c103
  obtain ⟨_, _, e104⟩ := field_at Try.underlying30 hf4 5 rfl 1 (by kernel_rfl)
  obtain ⟨a45, c105, _, w45⟩ := DataW.trod_int Try.underlying3 e104
  obtain rfl : u4p = .int .i64 a45 := by simpa [Value.cells] using c105
  obtain ⟨_, _, e106⟩ := field_at Try.underlying30 hf4 6 rfl 1 (by kernel_rfl)
  obtain ⟨a46, c107, _, w46⟩ := DataW.trod_int Try.underlying3 e106
  obtain rfl : u4q = .int .i64 a46 := by simpa [Value.cells] using c107
  obtain ⟨_, _, e108⟩ := field_at Try.underlying30 hf4 7 rfl 1 (by kernel_rfl)
  obtain ⟨k47, c109⟩ := open_ptrA Try.underlying28 e108
  obtain rfl : u4r = .pointer k47 := by simpa [Value.cells] using c109
  clear hA0
  refine (walk a0 len0 cap0 zs0  a1 len1 cap1 zs1  a2 len2 cap2 zs2  a3 a40a a40b a40c a40d a40e a40f a40g a40h a40i a40j len40j cap40j zs40j a40k len40k cap40k zs40k a41 a42 a43 a44 a45 a46 k47 W row0 hl0 row1 hl1 row2 hl2 w3 w40a w40b w40e w40f w40g w40h w40i row40j row40k w41 w42 w43 w44 w45 w46 hsh).mono fun e W' ⟨he, bel⟩ => ?_
  subst he
  exact ⟨_, rfl, _, _, _, [], _, [], hW', trodAll_mk1 (shut_bool Try.underlying4 _), (trodAll_cons_mk (Below.trod laidOut (by kernel_rfl) (of_decide_eq_true (by kernel_rfl)) k0 bel lt0) (trodAll_cons_mk (Below.trod laidOut (by kernel_rfl) (of_decide_eq_true (by kernel_rfl)) k1 bel lt1) (trodAll_cons_mk (Below.trod laidOut (by kernel_rfl) (of_decide_eq_true (by kernel_rfl)) k2 bel lt2) (trodAll_cons_mk (shut_string Try.underlying9 w3) (trodAll_cons_mk (Below.trod laidOut (by kernel_rfl) (of_decide_eq_true (by kernel_rfl)) k4 bel lt4) trodAll_mk0))))), rfl, bel.frame _, fun h => by cases h⟩

theorem laid_met (os : Os) : laidMet Try.prog Rows.matchQuickUptoRow.laid ((World.doorLaid Try.prog 24 os).forCall (fun _ _ => 0) ⟨#[], #[.slice none 0 0, .slice none 0 0, .slice none 0 0, .string ⟨#[]⟩, .agg #[.int .i64 0, .int .i64 0, .bool false, .bool false, .int .i64 0, .int .i64 0, .int .i64 0, .int .u32 0, .int .u32 0, .slice none 0 0, .slice none 0 0, .int .i64 0, .int .i64 0, .int .i64 0, .int .i64 0, .int .i64 0, .int .i64 0, .pointer none]], []⟩).memory :=
  laidMet_of_run' 8 (by kernel_rfl) (by kernel_rfl)
theorem reads (os : Os) {H : Type} (enc : TypeId × Value → H) : ∃ places, DataW.whole enc Try.prog ((World.doorLaid Try.prog 24 os).forCall (fun _ _ => 0) ⟨#[], #[.slice none 0 0, .slice none 0 0, .slice none 0 0, .string ⟨#[]⟩, .agg #[.int .i64 0, .int .i64 0, .bool false, .bool false, .int .i64 0, .int .i64 0, .int .i64 0, .int .u32 0, .int .u32 0, .slice none 0 0, .slice none 0 0, .int .i64 0, .int .i64 0, .int .i64 0, .int .i64 0, .int .i64 0, .int .i64 0, .pointer none]], []⟩).memory Try.f4.params.toList Rows.matchQuickSpec.vars false (#[.slice none 0 0, .slice none 0 0, .slice none 0 0, .string ⟨#[]⟩, .agg #[.int .i64 0, .int .i64 0, .bool false, .bool false, .int .i64 0, .int .i64 0, .int .i64 0, .int .u32 0, .int .u32 0, .slice none 0 0, .slice none 0 0, .int .i64 0, .int .i64 0, .int .i64 0, .int .i64 0, .int .i64 0, .int .i64 0, .pointer none]] : Array Value).toList 8 = some ([.nil, .nil, .nil, .lit (.string []), .agg [.agg [.lit (.int .i64 0), .lit (.int .i64 0), .lit (.bool false), .lit (.bool false), .lit (.int .i64 0), .lit (.int .i64 0), .lit (.int .i64 0), .lit (.int .u32 0), .lit (.int .u32 0), .nil, .nil], .lit (.int .i64 0), .lit (.int .i64 0), .lit (.int .i64 0), .lit (.int .i64 0), .lit (.int .i64 0), .lit (.int .i64 0), .nil]], [], places) :=
  ⟨[], by kernel_rfl⟩

set_option maxRecDepth 100000 in
theorem lifted (os : Os) (started : os.Started) (H : Type) (enc : TypeId × Value → H) (F : Stop.Interp) :
    ReturnsInHanded {} Try.checked os 4 .any ((Rows.OpenSpec.upto Rows.matchQuickSpec).preRow enc Try.prog Try.f4 Rows.matchQuickUptoRow.domain false Rows.matchQuickUptoRow.laid) (((Rows.OpenSpec.upto Rows.matchQuickSpec).at F).post enc Try.prog Try.f4 false true false false) := by
  obtain ⟨places, hx⟩ := reads os enc
  refine returnsInHanded_of_row (C := Try.checked) (s := (Rows.OpenSpec.upto Rows.matchQuickSpec)) own started (by kernel_rfl) Try.func4
    (witness_row_at (enc := enc) (C := Try.checked) false (World.doorLaid Try.prog 24 os) #[.slice none 0 0, .slice none 0 0, .slice none 0 0, .string ⟨#[]⟩, .agg #[.int .i64 0, .int .i64 0, .bool false, .bool false, .int .i64 0, .int .i64 0, .int .i64 0, .int .u32 0, .int .u32 0, .slice none 0 0, .slice none 0 0, .int .i64 0, .int .i64 0, .int .i64 0, .int .i64 0, .int .i64 0, .int .i64 0, .pointer none]] rfl (by kernel_rfl) (by kernel_rfl) (by kernel_rfl)
      (OpenSpec.preRow_of_cond 8 hx (by kernel_rfl) (fun k hk => by cases hk; kernel_rfl) (by kernel_rfl) (laid_met os))) ?_
  intro W base args ds gs before hval hW _ hcond hz hL hsh _
  exact contract H enc W base args ds gs before hval hW hsh (hcond _ rfl)

theorem said : Rows.MatchQuickUptoSaid :=
  OpenClaim.holds_of_cond 4 Try.f4 rfl rfl rfl rfl rfl rfl rfl ⟨rfl, rfl, rfl, rfl, rfl⟩ rfl rfl rfl rfl rfl (by kernel_rfl) Try.func4 (by kernel_rfl)
    (of_decide_eq_true (by kernel_rfl)) (by unfold Func.isWrapper; first | (rw [if_pos (by decide +kernel)]; kernel_rfl) | (rw [if_neg (by decide +kernel)]; exact ⟨rfl, rfl⟩))
    (fun os started H enc _ F => by rw [OpenClaim.pre_eq_preRow]; exact lifted os started H enc F)

end Go.Proofs.Ytdkmakjjcfkfaaa.matchQuickUpto

namespace Go.Proofs.Ytdkmakjjcfkfaaa
theorem matchQuickUpto_holds : Rows.MatchQuickUptoSaid := matchQuickUpto.said
#print axioms matchQuickUpto_holds
end Go.Proofs.Ytdkmakjjcfkfaaa
