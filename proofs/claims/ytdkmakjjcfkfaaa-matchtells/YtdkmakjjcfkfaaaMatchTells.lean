/- For every list of rules, every list of tables, every interface's name, every packet, every side, address and port, the law MatchTells returns true: the rule that decides, whether each rule means the packet, whether the side is meant are as the document says; no condition. -/
import Derived.Test.YtdkmakjjcfkfaaaRows
import Derived.Test.YtdkmakjjcfkfaaaMaE
import Derived.Test.YtdkmakjjcfkfaaaFrame
import Derived.Test.YtdkmakjjcfkfaaaRowG
import Derived.Test.YtdkmakjjcfkfaaaRowZ
import Derived.WalkKit
import Derived.ProofKit
import Derived.OpenShut
import Derived.ShutString
import Derived.ChangeOld
import Derived.Deep.DeepHandedRow
import Derived.Lib.LaidTab
import Derived.Lib.SmallJoins
import Derived.LaidMore
import Derived.Stop.LaidErr
import Derived.ChangeMaps5
namespace Go.Proofs.Ytdkmakjjcfkfaaa.matchTells
open Go.ChangeShapes Go.WideShapes Go.ChangeAt Go.RowKit Go.ChangeMaps
set_option linter.unusedVariables false
set_option maxRecDepth 100000

theorem own : ownKnob Try.prog.godebug = none := by kernel_rfl
theorem laidOut : laidOutB Try.prog = true := by kernel_rfl

theorem arr6 {α : Type} {cs : Array α} (h : cs.size = 6) : ∃ c0 c1 c2 c3 c4 c5, cs = #[c0, c1, c2, c3, c4, c5] := by
  obtain ⟨l⟩ := cs
  match l, h with
  | [c0, c1, c2, c3, c4, c5], _ => exact ⟨c0, c1, c2, c3, c4, c5, rfl⟩

theorem arr18 {α : Type} {cs : Array α} (h : cs.size = 18) : ∃ c0 c1 c2 c3 c4 c5 c6 c7 c8 c9 c10 c11 c12 c13 c14 c15 c16 c17, cs = #[c0, c1, c2, c3, c4, c5, c6, c7, c8, c9, c10, c11, c12, c13, c14, c15, c16, c17] := by
  obtain ⟨l⟩ := cs
  match l, h with
  | [c0, c1, c2, c3, c4, c5, c6, c7, c8, c9, c10, c11, c12, c13, c14, c15, c16, c17], _ => exact ⟨c0, c1, c2, c3, c4, c5, c6, c7, c8, c9, c10, c11, c12, c13, c14, c15, c16, c17, rfl⟩

abbrev Elem43 := Bool × Bool × Bool × ByteArray × Int × Bool × ByteArray × Int × Int × Int × Int × Bool × ByteArray × Int × Int × Int × Int × Int × Int × Int × Bool × Bool × ByteArray × Int × Bool × ByteArray × Int × Int
def cells43 (z : Elem43) : List Value := [.bool (z.1), .bool (z.2.1), .bool (z.2.2.1), .string (z.2.2.2.1), .int .i64 (z.2.2.2.2.1), .bool (z.2.2.2.2.2.1), .string (z.2.2.2.2.2.2.1), .int .u32 (z.2.2.2.2.2.2.2.1), .int .i64 (z.2.2.2.2.2.2.2.2.1), .int .i64 (z.2.2.2.2.2.2.2.2.2.1), .int .i64 (z.2.2.2.2.2.2.2.2.2.2.1), .bool (z.2.2.2.2.2.2.2.2.2.2.2.1), .string (z.2.2.2.2.2.2.2.2.2.2.2.2.1), .int .u32 (z.2.2.2.2.2.2.2.2.2.2.2.2.2.1), .int .i64 (z.2.2.2.2.2.2.2.2.2.2.2.2.2.2.1), .int .i64 (z.2.2.2.2.2.2.2.2.2.2.2.2.2.2.2.1), .int .i64 (z.2.2.2.2.2.2.2.2.2.2.2.2.2.2.2.2.1), .int .i64 (z.2.2.2.2.2.2.2.2.2.2.2.2.2.2.2.2.2.1), .int .i64 (z.2.2.2.2.2.2.2.2.2.2.2.2.2.2.2.2.2.2.1), .int .i64 (z.2.2.2.2.2.2.2.2.2.2.2.2.2.2.2.2.2.2.2.1), .bool (z.2.2.2.2.2.2.2.2.2.2.2.2.2.2.2.2.2.2.2.2.1), .bool (z.2.2.2.2.2.2.2.2.2.2.2.2.2.2.2.2.2.2.2.2.2.1), .string (z.2.2.2.2.2.2.2.2.2.2.2.2.2.2.2.2.2.2.2.2.2.2.1), .int .u32 (z.2.2.2.2.2.2.2.2.2.2.2.2.2.2.2.2.2.2.2.2.2.2.2.1), .bool (z.2.2.2.2.2.2.2.2.2.2.2.2.2.2.2.2.2.2.2.2.2.2.2.2.1), .string (z.2.2.2.2.2.2.2.2.2.2.2.2.2.2.2.2.2.2.2.2.2.2.2.2.2.1), .int .u32 (z.2.2.2.2.2.2.2.2.2.2.2.2.2.2.2.2.2.2.2.2.2.2.2.2.2.2.1), .int .i64 (z.2.2.2.2.2.2.2.2.2.2.2.2.2.2.2.2.2.2.2.2.2.2.2.2.2.2.2)]
def ok43 (z : Elem43) : Prop := (z.2.2.2.1).size ≤ maxLen ∧ (Lit.int .i64 (z.2.2.2.2.1)).wf = true ∧ (z.2.2.2.2.2.2.1).size ≤ maxLen ∧ (Lit.int .u32 (z.2.2.2.2.2.2.2.1)).wf = true ∧ (Lit.int .i64 (z.2.2.2.2.2.2.2.2.1)).wf = true ∧ (Lit.int .i64 (z.2.2.2.2.2.2.2.2.2.1)).wf = true ∧ (Lit.int .i64 (z.2.2.2.2.2.2.2.2.2.2.1)).wf = true ∧ (z.2.2.2.2.2.2.2.2.2.2.2.2.1).size ≤ maxLen ∧ (Lit.int .u32 (z.2.2.2.2.2.2.2.2.2.2.2.2.2.1)).wf = true ∧ (Lit.int .i64 (z.2.2.2.2.2.2.2.2.2.2.2.2.2.2.1)).wf = true ∧ (Lit.int .i64 (z.2.2.2.2.2.2.2.2.2.2.2.2.2.2.2.1)).wf = true ∧ (Lit.int .i64 (z.2.2.2.2.2.2.2.2.2.2.2.2.2.2.2.2.1)).wf = true ∧ (Lit.int .i64 (z.2.2.2.2.2.2.2.2.2.2.2.2.2.2.2.2.2.1)).wf = true ∧ (Lit.int .i64 (z.2.2.2.2.2.2.2.2.2.2.2.2.2.2.2.2.2.2.1)).wf = true ∧ (Lit.int .i64 (z.2.2.2.2.2.2.2.2.2.2.2.2.2.2.2.2.2.2.2.1)).wf = true ∧ (z.2.2.2.2.2.2.2.2.2.2.2.2.2.2.2.2.2.2.2.2.2.2.1).size ≤ maxLen ∧ (Lit.int .u32 (z.2.2.2.2.2.2.2.2.2.2.2.2.2.2.2.2.2.2.2.2.2.2.2.1)).wf = true ∧ (z.2.2.2.2.2.2.2.2.2.2.2.2.2.2.2.2.2.2.2.2.2.2.2.2.2.1).size ≤ maxLen ∧ (Lit.int .u32 (z.2.2.2.2.2.2.2.2.2.2.2.2.2.2.2.2.2.2.2.2.2.2.2.2.2.2.1)).wf = true ∧ (Lit.int .i64 (z.2.2.2.2.2.2.2.2.2.2.2.2.2.2.2.2.2.2.2.2.2.2.2.2.2.2.2)).wf = true
theorem cells43_length (z : Elem43) : (cells43 z).length = 28 := rfl
theorem elem43 {H : Type} {enc : TypeId × Value → H} {w : World} {base : Nat} {spare : Nat → Bool} {held : Bool} (n : Nat) (cs : List Value) (y : DataW H × List MemPlace)
    (h : DataW.trod enc Try.prog w base spare held n 43 cs = some y) : ∃ z : Elem43, cs = cells43 z ∧ ok43 z := by
  have hl : cs.length = 28 := by
    obtain ⟨_, _, _, _, hl, _⟩ := DataW.trod_struct Try.underlying43 h
    exact hl.trans (by kernel_rfl)
  obtain ⟨u0, u1, u2, u3, u4, u5, u6, u7, u8, u9, u10, u11, u12, u13, u14, u15, u16, u17, u18, u19, u20, u21, u22, u23, u24, u25, u26, u27, rfl⟩ : ∃ u0 u1 u2 u3 u4 u5 u6 u7 u8 u9 u10 u11 u12 u13 u14 u15 u16 u17 u18 u19 u20 u21 u22 u23 u24 u25 u26 u27, cs = [u0, u1, u2, u3, u4, u5, u6, u7, u8, u9, u10, u11, u12, u13, u14, u15, u16, u17, u18, u19, u20, u21, u22, u23, u24, u25, u26, u27] := by
    match cs, hl with
    | [u0, u1, u2, u3, u4, u5, u6, u7, u8, u9, u10, u11, u12, u13, u14, u15, u16, u17, u18, u19, u20, u21, u22, u23, u24, u25, u26, u27], _ => exact ⟨u0, u1, u2, u3, u4, u5, u6, u7, u8, u9, u10, u11, u12, u13, u14, u15, u16, u17, u18, u19, u20, u21, u22, u23, u24, u25, u26, u27, rfl⟩
  obtain ⟨_, _, e1⟩ := field_at Try.underlying43 h 0 rfl 1 (by kernel_rfl)
  obtain ⟨aza, c2, _⟩ := DataW.trod_bool Try.underlying4 e1
  obtain rfl : u0 = .bool aza := by simpa using c2
  obtain ⟨_, _, e3⟩ := field_at Try.underlying43 h 1 rfl 1 (by kernel_rfl)
  obtain ⟨azb, c4, _⟩ := DataW.trod_bool Try.underlying4 e3
  obtain rfl : u1 = .bool azb := by simpa using c4
  obtain ⟨_, _, e5⟩ := field_at Try.underlying43 h 2 rfl 1 (by kernel_rfl)
  obtain ⟨azc, c6, _⟩ := DataW.trod_bool Try.underlying4 e5
  obtain rfl : u2 = .bool azc := by simpa using c6
  obtain ⟨_, _, e7⟩ := field_at Try.underlying43 h 3 rfl 1 (by kernel_rfl)
  obtain ⟨azd, c8, _, wzd⟩ := DataW.trod_string Try.underlying9 e7
  obtain rfl : u3 = .string azd := by simpa using c8
  obtain ⟨_, _, e9⟩ := field_at Try.underlying43 h 4 rfl 1 (by kernel_rfl)
  obtain ⟨aze, c10, _, wze⟩ := DataW.trod_int Try.underlying3 e9
  obtain rfl : u4 = .int .i64 aze := by simpa using c10
  obtain ⟨_, _, e11⟩ := field_at Try.underlying43 h 5 rfl 6 (by kernel_rfl)
  obtain ⟨_, _, e12⟩ := field_at Try.underlying36 e11 0 rfl 1 (by kernel_rfl)
  obtain ⟨azf0, c13, _⟩ := DataW.trod_bool Try.underlying4 e12
  obtain rfl : u5 = .bool azf0 := by simpa using c13
  obtain ⟨_, _, e14⟩ := field_at Try.underlying36 e11 1 rfl 1 (by kernel_rfl)
  obtain ⟨azf1, c15, _, wzf1⟩ := DataW.trod_string Try.underlying9 e14
  obtain rfl : u6 = .string azf1 := by simpa using c15
  obtain ⟨_, _, e16⟩ := field_at Try.underlying36 e11 2 rfl 2 (by kernel_rfl)
  obtain ⟨_, _, e17⟩ := field_at Try.underlying32 e16 0 rfl 1 (by kernel_rfl)
  obtain ⟨azf20, c18, _, wzf20⟩ := DataW.trod_int Try.underlying24 e17
  obtain rfl : u7 = .int .u32 azf20 := by simpa using c18
  obtain ⟨_, _, e19⟩ := field_at Try.underlying32 e16 1 rfl 1 (by kernel_rfl)
  obtain ⟨azf21, c20, _, wzf21⟩ := DataW.trod_int Try.underlying3 e19
  obtain rfl : u8 = .int .i64 azf21 := by simpa using c20
  obtain ⟨_, _, e21⟩ := field_at Try.underlying36 e11 3 rfl 2 (by kernel_rfl)
  obtain ⟨_, _, e22⟩ := field_at Try.underlying34 e21 0 rfl 1 (by kernel_rfl)
  obtain ⟨azf30, c23, _, wzf30⟩ := DataW.trod_int Try.underlying3 e22
  obtain rfl : u9 = .int .i64 azf30 := by simpa using c23
  obtain ⟨_, _, e24⟩ := field_at Try.underlying34 e21 1 rfl 1 (by kernel_rfl)
  obtain ⟨azf31, c25, _, wzf31⟩ := DataW.trod_int Try.underlying3 e24
  obtain rfl : u10 = .int .i64 azf31 := by simpa using c25
  obtain ⟨_, _, e26⟩ := field_at Try.underlying43 h 6 rfl 6 (by kernel_rfl)
  obtain ⟨_, _, e27⟩ := field_at Try.underlying36 e26 0 rfl 1 (by kernel_rfl)
  obtain ⟨azg0, c28, _⟩ := DataW.trod_bool Try.underlying4 e27
  obtain rfl : u11 = .bool azg0 := by simpa using c28
  obtain ⟨_, _, e29⟩ := field_at Try.underlying36 e26 1 rfl 1 (by kernel_rfl)
  obtain ⟨azg1, c30, _, wzg1⟩ := DataW.trod_string Try.underlying9 e29
  obtain rfl : u12 = .string azg1 := by simpa using c30
  obtain ⟨_, _, e31⟩ := field_at Try.underlying36 e26 2 rfl 2 (by kernel_rfl)
  obtain ⟨_, _, e32⟩ := field_at Try.underlying32 e31 0 rfl 1 (by kernel_rfl)
  obtain ⟨azg20, c33, _, wzg20⟩ := DataW.trod_int Try.underlying24 e32
  obtain rfl : u13 = .int .u32 azg20 := by simpa using c33
  obtain ⟨_, _, e34⟩ := field_at Try.underlying32 e31 1 rfl 1 (by kernel_rfl)
  obtain ⟨azg21, c35, _, wzg21⟩ := DataW.trod_int Try.underlying3 e34
  obtain rfl : u14 = .int .i64 azg21 := by simpa using c35
  obtain ⟨_, _, e36⟩ := field_at Try.underlying36 e26 3 rfl 2 (by kernel_rfl)
  obtain ⟨_, _, e37⟩ := field_at Try.underlying34 e36 0 rfl 1 (by kernel_rfl)
  obtain ⟨azg30, c38, _, wzg30⟩ := DataW.trod_int Try.underlying3 e37
  obtain rfl : u15 = .int .i64 azg30 := by simpa using c38
  obtain ⟨_, _, e39⟩ := field_at Try.underlying34 e36 1 rfl 1 (by kernel_rfl)
  obtain ⟨azg31, c40, _, wzg31⟩ := DataW.trod_int Try.underlying3 e39
  obtain rfl : u16 = .int .i64 azg31 := by simpa using c40
  obtain ⟨_, _, e41⟩ := field_at Try.underlying43 h 7 rfl 1 (by kernel_rfl)
  obtain ⟨azh, c42, _, wzh⟩ := DataW.trod_int Try.underlying3 e41
  obtain rfl : u17 = .int .i64 azh := by simpa using c42
  obtain ⟨_, _, e43⟩ := field_at Try.underlying43 h 8 rfl 1 (by kernel_rfl)
  obtain ⟨azi, c44, _, wzi⟩ := DataW.trod_int Try.underlying3 e43
  obtain rfl : u18 = .int .i64 azi := by simpa using c44
  obtain ⟨_, _, e45⟩ := field_at Try.underlying43 h 9 rfl 1 (by kernel_rfl)
  obtain ⟨azj, c46, _, wzj⟩ := DataW.trod_int Try.underlying3 e45
  obtain rfl : u19 = .int .i64 azj := by simpa using c46
  obtain ⟨_, _, e47⟩ := field_at Try.underlying43 h 10 rfl 1 (by kernel_rfl)
  obtain ⟨azk, c48, _⟩ := DataW.trod_bool Try.underlying4 e47
  obtain rfl : u20 = .bool azk := by simpa using c48
  obtain ⟨_, _, e49⟩ := field_at Try.underlying43 h 11 rfl 3 (by kernel_rfl)
  obtain ⟨_, _, e50⟩ := field_at Try.underlying41 e49 0 rfl 1 (by kernel_rfl)
  obtain ⟨azl0, c51, _⟩ := DataW.trod_bool Try.underlying4 e50
  obtain rfl : u21 = .bool azl0 := by simpa using c51
  obtain ⟨_, _, e52⟩ := field_at Try.underlying41 e49 1 rfl 1 (by kernel_rfl)
  obtain ⟨azl1, c53, _, wzl1⟩ := DataW.trod_string Try.underlying9 e52
  obtain rfl : u22 = .string azl1 := by simpa using c53
  obtain ⟨_, _, e54⟩ := field_at Try.underlying41 e49 2 rfl 1 (by kernel_rfl)
  obtain ⟨azl2, c55, _, wzl2⟩ := DataW.trod_int Try.underlying24 e54
  obtain rfl : u23 = .int .u32 azl2 := by simpa using c55
  obtain ⟨_, _, e56⟩ := field_at Try.underlying43 h 12 rfl 3 (by kernel_rfl)
  obtain ⟨_, _, e57⟩ := field_at Try.underlying41 e56 0 rfl 1 (by kernel_rfl)
  obtain ⟨azm0, c58, _⟩ := DataW.trod_bool Try.underlying4 e57
  obtain rfl : u24 = .bool azm0 := by simpa using c58
  obtain ⟨_, _, e59⟩ := field_at Try.underlying41 e56 1 rfl 1 (by kernel_rfl)
  obtain ⟨azm1, c60, _, wzm1⟩ := DataW.trod_string Try.underlying9 e59
  obtain rfl : u25 = .string azm1 := by simpa using c60
  obtain ⟨_, _, e61⟩ := field_at Try.underlying41 e56 2 rfl 1 (by kernel_rfl)
  obtain ⟨azm2, c62, _, wzm2⟩ := DataW.trod_int Try.underlying24 e61
  obtain rfl : u26 = .int .u32 azm2 := by simpa using c62
  obtain ⟨_, _, e63⟩ := field_at Try.underlying43 h 13 rfl 1 (by kernel_rfl)
  obtain ⟨azn, c64, _, wzn⟩ := DataW.trod_int Try.underlying3 e63
  obtain rfl : u27 = .int .i64 azn := by simpa using c64
  exact ⟨(aza, azb, azc, azd, aze, azf0, azf1, azf20, azf21, azf30, azf31, azg0, azg1, azg20, azg21, azg30, azg31, azh, azi, azj, azk, azl0, azl1, azl2, azm0, azm1, azm2, azn), rfl, ⟨wzd, wze, wzf1, wzf20, wzf21, wzf30, wzf31, wzg1, wzg20, wzg21, wzg30, wzg31, wzh, wzi, wzj, wzl1, wzl2, wzm1, wzm2, wzn⟩⟩

abbrev Elem32 := Int × Int
def cells32 (z : Elem32) : List Value := [.int .u32 (z.1), .int .i64 (z.2)]
def ok32 (z : Elem32) : Prop := (Lit.int .u32 (z.1)).wf = true ∧ (Lit.int .i64 (z.2)).wf = true
theorem cells32_length (z : Elem32) : (cells32 z).length = 2 := rfl
theorem elem32 {H : Type} {enc : TypeId × Value → H} {w : World} {base : Nat} {spare : Nat → Bool} {held : Bool} (n : Nat) (cs : List Value) (y : DataW H × List MemPlace)
    (h : DataW.trod enc Try.prog w base spare held n 32 cs = some y) : ∃ z : Elem32, cs = cells32 z ∧ ok32 z := by
  have hl : cs.length = 2 := by
    obtain ⟨_, _, _, _, hl, _⟩ := DataW.trod_struct Try.underlying32 h
    exact hl.trans (by kernel_rfl)
  obtain ⟨u0, u1, rfl⟩ : ∃ u0 u1, cs = [u0, u1] := by
    match cs, hl with
    | [u0, u1], _ => exact ⟨u0, u1, rfl⟩
  obtain ⟨_, _, e65⟩ := field_at Try.underlying32 h 0 rfl 1 (by kernel_rfl)
  obtain ⟨az0, c66, _, wz0⟩ := DataW.trod_int Try.underlying24 e65
  obtain rfl : u0 = .int .u32 az0 := by simpa using c66
  obtain ⟨_, _, e67⟩ := field_at Try.underlying32 h 1 rfl 1 (by kernel_rfl)
  obtain ⟨az1, c68, _, wz1⟩ := DataW.trod_int Try.underlying3 e67
  obtain rfl : u1 = .int .i64 az1 := by simpa using c68
  exact ⟨(az0, az1), rfl, ⟨wz0, wz1⟩⟩

abbrev Elem53 := ByteArray × (Option Addr × Nat × Nat × List Elem32)
def cells53 (z : Elem53) : List Value := [.string (z.1), .slice (z.2.1) (z.2.2.1) (z.2.2.2.1)]
def ok53 (w : World) (z : Elem53) : Prop := (z.1).size ≤ maxLen ∧ IsRowG 2 cells32 ok32 w (z.2.1) (z.2.2.1) (z.2.2.2.1) (z.2.2.2.2)
theorem cells53_length (z : Elem53) : (cells53 z).length = 2 := rfl
theorem elem53 {H : Type} {enc : TypeId × Value → H} {w : World} {base : Nat} {spare : Nat → Bool} {held : Bool} (n : Nat) (cs : List Value) (y : DataW H × List MemPlace)
    (h : DataW.trod enc Try.prog w base spare held n 53 cs = some y) : ∃ z : Elem53, cs = cells53 z ∧ (ok53 w) z := by
  have hl : cs.length = 2 := by
    obtain ⟨_, _, _, _, hl, _⟩ := DataW.trod_struct Try.underlying53 h
    exact hl.trans (by kernel_rfl)
  obtain ⟨u0, u1, rfl⟩ : ∃ u0 u1, cs = [u0, u1] := by
    match cs, hl with
    | [u0, u1], _ => exact ⟨u0, u1, rfl⟩
  obtain ⟨_, _, e69⟩ := field_at Try.underlying53 h 0 rfl 1 (by kernel_rfl)
  obtain ⟨az0, c70, _, wz0⟩ := DataW.trod_string Try.underlying9 e69
  obtain rfl : u0 = .string az0 := by simpa using c70
  obtain ⟨_, _, e71⟩ := field_at Try.underlying53 h 1 rfl 1 (by kernel_rfl)
  obtain ⟨az1, lenz1, capz1, zsz1, c72, rowz1⟩ := open_rowG 2 cells32 ok32 (by omega) cells32_length Try.underlying51 (by kernel_rfl) elem32 e71
  obtain rfl : u1 = .slice az1 lenz1 capz1 := by simpa using c72
  exact ⟨(az0, (az1, lenz1, capz1, zsz1)), rfl, ⟨wz0, rowz1⟩⟩

open Go.Proofs.Ytdkmakjjcfkfaaa.Ma Go.Proofs.Ytdkmakjjcfkfaaa.Ru

/-- A rule out of its cells. -/
def ofE (z : Elem43) : RuleV := match z with
  | (a, b, c, d, e, s0, s1, s2, s3, s4, s5, d0, d1, d2, d3, d4, d5, st, mk, ty, kp, t0, t1, t2, p0, p1, p2, tb) => ⟨a, b, c, d, e, ⟨s0, s1, s2, s3, s4, s5⟩, ⟨d0, d1, d2, d3, d4, d5⟩, st, mk, ty, kp, ⟨t0, t1, t2⟩, ⟨p0, p1, p2⟩, tb⟩

theorem ofE_cells (z : Elem43) : ruleL (ofE z) = cells43 z := rfl

theorem ofE_in {z : Elem43} (h : ok43 z) : RuIn (ofE z) := by
  obtain ⟨hon, hpr, hst, hsa, hsn, hsl, hsh, hdt, hda, hdn, hdl, hdh, hset, hmask, hty, hti, htg, hpi, hpg, htab⟩ := h
  have m : ∀ {x : Nat}, x ≤ maxLen → x ≤ 9223372036854775807 := fun h => h
  exact ⟨⟨(bounds_u32 hsa).1, (bounds_u32 hsa).2, (bounds_u32 hda).1, (bounds_u32 hda).2⟩, m hon, m hst, m hdt, m hti, m hpi⟩

/-- A table out of its cells. -/
def ofN (z : Elem53) : NmV := ⟨z.1, z.2.1, z.2.2.1, z.2.2.2.1, z.2.2.2.2⟩

theorem rules_in {w : World} {p : Option Addr} {n c : Nat} {L : List Elem43} (h : IsRowG 28 cells43 ok43 w p n c L) : RdL w p n (L.map ofE) ∧ ∀ r ∈ L.map ofE, RuIn r := by
  have hin : ∀ r ∈ L.map ofE, RuIn r := fun r hr => by
    obtain ⟨z, hz, rfl⟩ := List.mem_map.1 hr
    exact ofE_in (h.ok z hz)
  have hm := h.room
  have hl := h.le
  unfold maxLen at hm
  exact ⟨⟨(rdK_row (by omega) cells43_length h).map ofE ofE_cells, by omega, fun r hr => (hin r hr).toRuOk⟩, hin⟩

theorem tables_in {w : World} {p : Option Addr} {n c : Nat} {T : List Elem53} (h : IsRowG 2 cells53 (ok53 w) w p n c T) : RdN w p n (T.map ofN) ∧ NameOk (T.map ofN) := by
  have hm := h.room
  have hl := h.le
  unfold maxLen at hm
  refine ⟨⟨(rdK_row (by omega) cells53_length h).map ofN (fun _ => rfl), by omega, fun y hy => ?_⟩, fun y hy => ?_⟩
  · obtain ⟨z, hz, rfl⟩ := List.mem_map.1 hy
    have ho := (h.ok z hz).2
    have h1 := ho.room
    have h2 := ho.le
    unfold maxLen at h1
    exact ⟨rdK_row (by omega) pxL_len ho, by show z.2.2.1 ≤ _; omega, fun q hq => bounds_u32 (ho.ok q hq).1⟩
  · obtain ⟨z, hz, rfl⟩ := List.mem_map.1 hy
    exact (h.ok z hz).1

set_option maxHeartbeats 40000000 in
theorem walk (a0 : Option Addr) (len0 cap0 : Nat) (zs0 : List Elem43) (a1 : Option Addr) (len1 cap1 : Nat) (zs1 : List Elem53) (a2 : ByteArray) (a30a : Int) (a30b : Int) (a30c : Bool) (a30d : Bool) (a30e : Int) (a30f : Int) (a30g : Int) (a30h : Int) (a30i : Int) (a30j : Option Addr) (len30j cap30j : Nat) (zs30j : List Int) (a30k : Option Addr) (len30k cap30k : Nat) (zs30k : List Int) (a31 : Int) (a32 : Int) (a33 : Int) (a34 : Int) (a35 : Int) (a36 : Int) (k37 : Option Addr) (a40 : Bool) (a41 : ByteArray) (a420 : Int) (a421 : Int) (a430 : Int) (a431 : Int) (a5 : Int) (a6 : Int) (w : World) (row0 : IsRowG 28 cells43 ok43 w a0 len0 cap0 zs0) (row1 : IsRowG 2 cells53 (ok53 w) w a1 len1 cap1 zs1) (w2 : a2.size ≤ maxLen) (w30a : (Lit.int .i64 a30a).wf = true) (w30b : (Lit.int .i64 a30b).wf = true) (w30e : (Lit.int .i64 a30e).wf = true) (w30f : (Lit.int .i64 a30f).wf = true) (w30g : (Lit.int .i64 a30g).wf = true) (w30h : (Lit.int .u32 a30h).wf = true) (w30i : (Lit.int .u32 a30i).wf = true) (row30j : IsRow .u8 w a30j len30j cap30j zs30j) (row30k : IsRow .u8 w a30k len30k cap30k zs30k) (w31 : (Lit.int .i64 a31).wf = true) (w32 : (Lit.int .i64 a32).wf = true) (w33 : (Lit.int .i64 a33).wf = true) (w34 : (Lit.int .i64 a34).wf = true) (w35 : (Lit.int .i64 a35).wf = true) (w36 : (Lit.int .i64 a36).wf = true) (w41 : a41.size ≤ maxLen) (w420 : (Lit.int .u32 a420).wf = true) (w421 : (Lit.int .i64 a421).wf = true) (w430 : (Lit.int .i64 a430).wf = true) (w431 : (Lit.int .i64 a431).wf = true) (w5 : (Lit.int .u32 a5).wf = true) (w6 : (Lit.int .i64 a6).wf = true) (hsh : w.ShapedOpen Try.prog) :
    Calls Try.prog 3 #[.slice a0 len0 cap0, .slice a1 len1 cap1, .string a2, .agg #[.int .i64 a30a, .int .i64 a30b, .bool a30c, .bool a30d, .int .i64 a30e, .int .i64 a30f, .int .i64 a30g, .int .u32 a30h, .int .u32 a30i, .slice a30j len30j cap30j, .slice a30k len30k cap30k, .int .i64 a31, .int .i64 a32, .int .i64 a33, .int .i64 a34, .int .i64 a35, .int .i64 a36, .pointer k37], .agg #[.bool a40, .string a41, .int .u32 a420, .int .i64 a421, .int .i64 a430, .int .i64 a431], .int .u32 a5, .int .i64 a6] w fun e w' => e = .returned (.bool true) ∧ Below w.heap.size w w' := by
  obtain ⟨hL0, hI0⟩ := rules_in row0
  have hc0 := row0.nil
  have hcl0 := row0.le
  generalize zs0.map ofE = L0 at *
  obtain ⟨hT, hNm⟩ := tables_in row1
  generalize zs1.map ofN = T at *
  obtain ⟨k, hk⟩ : ∃ k : PkV, k = ⟨a30a, a30b, a30c, a30d, a30e, a30f, a30g, a30h, a30i, a30j, len30j, cap30j, a30k, len30k, cap30k, a31, a32, a33, a34, a35, a36, k37⟩ := ⟨_, rfl⟩
  have hko : PkOk k := by rw [hk]; exact ⟨(bounds_u32 w30h).1, (bounds_u32 w30h).2, (bounds_u32 w30i).1, (bounds_u32 w30i).2⟩
  obtain ⟨s, hs⟩ : ∃ s : SideV, s = ⟨a40, a41, a420, a421, a430, a431⟩ := ⟨_, rfl⟩
  have hsa : 0 ≤ s.a ∧ s.a ≤ 4294967295 := by rw [hs]; exact bounds_u32 w420
  have hb5 := bounds_u32 w5
  show Calls Try.prog 3 #[.slice a0 len0 cap0, .slice a1 len1 cap1, .string a2, .agg (pkL ⟨a30a, a30b, a30c, a30d, a30e, a30f, a30g, a30h, a30i, a30j, len30j, cap30j, a30k, len30k, cap30k, a31, a32, a33, a34, a35, a36, k37⟩).toArray, .agg (sideL ⟨a40, a41, a420, a421, a430, a431⟩).toArray, .int .u32 a5, .int .i64 a6] w _
  rw [← hk, ← hs]
  clear hk hs w30a w30b w30e w30f w30g w30h w30i row30j row30k w31 w32 w33 w34 w35 w36 w2 w41 w420 w421 w430 w431 w5 w6 row0 row1
  obtain ⟨W, hW⟩ : ∃ W, (w.alloc (.cells (pkL k).toArray 30)).alloc (.cells (sideL s).toArray 36) = W := ⟨_, rfl⟩
  have hx0 : Ext w W := hW ▸ ((Ext.refl w).alloc _).alloc _
  have h12 := heap_two w (.cells (pkL k).toArray 30) (.cells (sideL s).toArray 36)
  rw [hW] at h12
  have HP : Hid _ := (pkAt h12.1).all
  have HS : Hid _ := range_box h12.2
  have s1 := range_cell HS.out 1 (.string s.table) rfl
  have S1 : Hid _ := s1
  obtain ⟨gl, hgl⟩ := long_any k
  have HG : Hid _ := hgl
  have HH : Hid (∀ w', Ext W w' → Calls Try.prog 8 #[.slice a0 len0 cap0, .slice a1 len1 cap1] w' fun e w2 => e = .returned (.bool (decide (heavyT T (heavyR L0 4000) < 0))) ∧ Ext w' w2) := fun w' hx => heavy_any a0 len0 cap0 L0 a1 len1 cap1 T w' ((hL0.ext hx0).ext hx) hI0 ((hT.ext hx0).ext hx) hNm
  generalize decide (heavyT T (heavyR L0 4000) < 0) = gh at *
  have HL : Hid (RdL W a0 len0 L0) := hL0.ext hx0
  have HT0 : Hid (RdN W a1 len1 T) := hT.ext hx0
  have HO : Hid (∀ r ∈ L0, ∀ w', Ext W w' → Calls Try.prog 10 #[.agg (ruleL r).toArray, .slice a1 len1 cap1, .string a2, .agg (pkL k).toArray] w' fun e w2 => e = .returned (.bool (oneV r T a2 k)) ∧ Ext w' w2) :=
    fun r hr w' hx => one_any r a1 len1 cap1 T a2 k w' ((hT.ext hx0).ext hx) (hL0.ok r hr) hko
  have HQ : Hid (∀ r ∈ L0, ∀ w', Ext W w' → Calls Try.prog 11 #[.agg (ruleL r).toArray, .slice a1 len1 cap1, .string a2, .agg (pkL k).toArray] w' fun e w2 => e = .returned (.bool (oneV r T a2 k)) ∧ Ext w' w2) :=
    fun r hr w' hx => refOne_any r a1 len1 cap1 T a2 k w' ((hT.ext hx0).ext hx) (hL0.ok r hr) hko
  have HA1 : Hid (∀ w', Ext W w' → Calls Try.prog 12 #[.slice a0 len0 cap0, .slice a1 len1 cap1, .string a2, .agg (pkL k).toArray] w' fun e w2 => e = .returned (.int .i64 (lastV (fun r => oneV r T a2 k) L0)) ∧ Ext w' w2) :=
    fun w' hx => last_any a0 len0 cap0 L0 a1 len1 cap1 T a2 k w' ((hL0.ext hx0).ext hx) ((hT.ext hx0).ext hx) hko
  have HA2 : Hid (∀ w', Ext W w' → Calls Try.prog 13 #[.slice a0 len0 cap0, .slice a1 len1 cap1, .string a2, .agg (pkL k).toArray] w' fun e w2 => e = .returned (.int .i64 (lastV (fun r => oneV r T a2 k) L0)) ∧ Ext w' w2) :=
    fun w' hx => refLast_any a0 len0 cap0 L0 a1 len1 cap1 T a2 k w' ((hL0.ext hx0).ext hx) ((hT.ext hx0).ext hx) hko
  have HA3 : Hid (∀ w', Ext W w' → Calls Try.prog 14 #[.agg (sideL s).toArray, .slice a1 len1 cap1, .int .u32 a5, .int .i64 a6] w' fun e w2 => e = .returned (.bool (sideV s T a5 a6)) ∧ Ext w' w2) :=
    fun w' hx => side_any s a1 len1 cap1 T a5 a6 w' ((hT.ext hx0).ext hx) hsa.1 hsa.2 hb5.1 hb5.2
  have HA4 : Hid (∀ w', Ext W w' → Calls Try.prog 15 #[.agg (sideL s).toArray, .slice a1 len1 cap1, .int .u32 a5, .int .i64 a6] w' fun e w2 => e = .returned (.bool (sideV s T a5 a6)) ∧ Ext w' w2) :=
    fun w' hx => refSide_any s a1 len1 cap1 T a5 a6 w' ((hT.ext hx0).ext hx) hsa.1 hsa.2 hb5.1 hb5.2
  have hm := hL0.le
  have HM : Hid (L0.length = len0) := hL0.row.len
  have lk := pkL_len k
  have ls := sideL_len s
  have HX0 : Hid (Ext w W) := hx0
  obtain ⟨tb, htb⟩ : ∃ tb, s.table = tb := ⟨_, rfl⟩
  rw [htb] at S1
  generalize lastV (fun r => oneV r T a2 k) L0 = yl at *
  generalize sideV s T a5 a6 = ys at *
  clear hL0 hI0 hT hNm hko hgl h12 hsa hb5 s1 hx0 hc0 hcl0 htb
  generalize pkL k = ck at *
  generalize sideL s = cs at *
  cases gh with
  | true =>
    go_enter Try.func3, Try.ntmps3
    go_wp2_with (first
      | (go_at_call 8; refine (HH.out _ (Ext.refl _)).mono ?_; rintro e w1 ⟨rfl, hv⟩))
    go_ret
    exact ⟨rfl, (HX0.out.trans hv).below⟩
  | false =>
    cases gl with
    | true =>
      go_enter Try.func3, Try.ntmps3
      go_wp2_with (first
        | (go_at_call 8; refine (HH.out _ (Ext.refl _)).mono ?_; rintro e w1 ⟨rfl, hv⟩)
        | (go_at_call 9; refine (HG.out _).mono ?_; rintro e w2 ⟨rfl, hv2⟩)
        | (refine wpl_range (by rfl) 30 _ rfl w.heap.size 0 _ _ rfl (HP.out _ hv) Try.underlying30 rfl (by rw [lk]; exact pk_size) ?_))
      go_ret
      exact ⟨rfl, (HX0.out.trans (hv.trans hv2)).below⟩
    | false =>
      by_cases h1 : (100 : Int) < (a2.size : Int)
      · go_enter Try.func3, Try.ntmps3
        go_wp2_with (first
          | (go_at_call 8; refine (HH.out _ (Ext.refl _)).mono ?_; rintro e w1 ⟨rfl, hv⟩)
          | (go_at_call 9; refine (HG.out _).mono ?_; rintro e w2 ⟨rfl, hv2⟩)
          | (refine wpl_range (by rfl) 30 _ rfl w.heap.size 0 _ _ rfl (HP.out _ hv) Try.underlying30 rfl (by rw [lk]; exact pk_size) ?_))
        go_ret
        exact ⟨rfl, (HX0.out.trans (hv.trans hv2)).below⟩
      by_cases h2 : (100 : Int) < (tb.size : Int)
      · go_enter Try.func3, Try.ntmps3
        go_wp2_with (first
          | (go_at_call 8; refine (HH.out _ (Ext.refl _)).mono ?_; rintro e w1 ⟨rfl, hv⟩)
          | (go_at_call 9; refine (HG.out _).mono ?_; rintro e w2 ⟨rfl, hv2⟩; have y1 := S1.out _ (hv.trans hv2); rw [Nat.zero_add] at y1)
          | (refine wpl_range (by rfl) 30 _ rfl w.heap.size 0 _ _ rfl (HP.out _ hv) Try.underlying30 rfl (by rw [lk]; exact pk_size) ?_))
        go_ret
        exact ⟨rfl, (HX0.out.trans (hv.trans hv2)).below⟩
      go_enter Try.func3, Try.ntmps3
      go_wp2_with (first
        | (go_at_call 8; refine (HH.out _ (Ext.refl _)).mono ?_; rintro e w1 ⟨rfl, hv⟩)
        | (go_at_call 9; refine (HG.out _).mono ?_; rintro e w2 ⟨rfl, hv2⟩; have y1 := S1.out _ (hv.trans hv2); rw [Nat.zero_add] at y1)
        | (refine wpl_range (by rfl) 30 _ rfl w.heap.size 0 _ _ rfl (HP.out _ hv) Try.underlying30 rfl (by rw [lk]; exact pk_size) ?_))
      have hxb : Ext W w2 := hv.trans hv2
      clear hv hv2
      go_loopg [15] len0 (fun kx s15 wr => ∃ j : Nat, s15 = .int .i64 (j : Int) ∧ j ≤ len0 ∧ len0 - j ≤ kx ∧ Ext W wr)
      case atStart => exact ⟨0, rfl, Nat.zero_le _, Nat.le_refl _, hxb⟩
      case round =>
        obtain ⟨j, rfl, hjm, hjx, hxw⟩ := hrel
        by_cases hlt : j < len0
        · obtain ⟨r, hr⟩ : ∃ r, L0[j]? = some r := ⟨_, List.getElem?_eq_getElem (by rw [HM.out]; omega)⟩
          have o1 := HO.out r (List.mem_of_getElem? hr)
          have o2 := HQ.out r (List.mem_of_getElem? hr)
          obtain ⟨b, off, rfl, hb, hg⟩ := (HL.out.ext hxw).row.get hr
          have HR : Hid (∀ w', Ext wr w' → w'.rangeAt b (off + j * 28) (ruleL r)) := hg
          have hji : (j : Int) < (len0 : Int) := by omega
          have lr := ruleL_len r
          clear hr hb hg
          generalize ruleL r = cr at *
          generalize oneV r T a2 k = y at *
          go_wp2_with fail
          refine wp_region_eager [(0, false), (1, false), (2, false), (3, false), (4, false), (5, false), (6, false), (8, false), (9, false), (10, false), (11, false), (12, false), (13, false), (14, false), (7, true), (15, true), (16, false)] (by kernel_rfl) (by kernel_rfl) rfl (by kernel_rfl) (fun _ _ _ _ _ h => h) (WpH.out ?_)
          have hxe : Ext wr wr.drew := (Ext.refl wr).drew
          generalize wr.drew = W1 at *
          iterate 3 (refine wpH_read (v := ?_) rfl (by rfl) ?_ ?_; rotate_left; (focus (intro w' hx; go_simp; first | done | with_reducible rfl)); simp only [Act.put, List.setIfInBounds_toArray, List.set_cons_zero, List.set_cons_succ])
          (refine wpH_read rfl (by rfl) (fun w' hx => exec_range 43 _ rfl b (off + j * 28) _ _ rfl (HR.out _ (hxe.trans hx)) Try.underlying43 rfl (by rw [lr]; exact rule_size)) ?_; simp only [Act.put, List.setIfInBounds_toArray, List.set_cons_zero, List.set_cons_succ])
          iterate 2 (refine wpH_read (v := ?_) rfl (by rfl) ?_ ?_; rotate_left; (focus (intro w' hx; go_simp; first | done | with_reducible rfl)); simp only [Act.put, List.setIfInBounds_toArray, List.set_cons_zero, List.set_cons_succ])
          (refine wpH_read rfl (by rfl) (fun w' hx => exec_range 30 _ rfl w.heap.size (0) _ _ rfl (HP.out _ (hxw.trans (hxe.trans hx))) Try.underlying30 rfl (by rw [lk]; exact pk_size)) ?_; simp only [Act.put, List.setIfInBounds_toArray, List.set_cons_zero, List.set_cons_succ])
          iterate 3 (refine wpH_read (v := ?_) rfl (by rfl) ?_ ?_; rotate_left; (focus (intro w' hx; go_simp; first | done | with_reducible rfl)); simp only [Act.put, List.setIfInBounds_toArray, List.set_cons_zero, List.set_cons_succ])
          (refine wpH_read rfl (by rfl) (fun w' hx => exec_range 43 _ rfl b (off + j * 28) _ _ rfl (HR.out _ (hxe.trans hx)) Try.underlying43 rfl (by rw [lr]; exact rule_size)) ?_; simp only [Act.put, List.setIfInBounds_toArray, List.set_cons_zero, List.set_cons_succ])
          iterate 2 (refine wpH_read (v := ?_) rfl (by rfl) ?_ ?_; rotate_left; (focus (intro w' hx; go_simp; first | done | with_reducible rfl)); simp only [Act.put, List.setIfInBounds_toArray, List.set_cons_zero, List.set_cons_succ])
          (refine wpH_read rfl (by rfl) (fun w' hx => exec_range 30 _ rfl w.heap.size (0) _ _ rfl (HP.out _ (hxw.trans (hxe.trans hx))) Try.underlying30 rfl (by rw [lk]; exact pk_size)) ?_; simp only [Act.put, List.setIfInBounds_toArray, List.set_cons_zero, List.set_cons_succ])
          (refine wpH_call rfl (by rfl) (fun K hK => ?_); go_simp; (go_at_call 10; refine (o1 _ (hxw.trans hxe)).mono ?_; rintro e w5 ⟨rfl, hw5⟩; refine hK _ _ hw5 ?_; clear hK K; replace hxe := hxe.trans hw5; clear hw5))
          (refine wpH_call rfl (by rfl) (fun K hK => ?_); go_simp; (go_at_call 11; refine (o2 _ (hxw.trans hxe)).mono ?_; rintro e w6 ⟨rfl, hw6⟩; refine hK _ _ hw6 ?_; clear hK K; replace hxe := hxe.trans hw6; clear hw6))
          (refine wpH_read (v := ?_) rfl (by rfl) ?_ ?_; rotate_left; (focus (intro w' hx; go_simp; first | done | with_reducible rfl)); simp only [Act.put, List.setIfInBounds_toArray, List.set_cons_zero, List.set_cons_succ])
          refine wpH_done ?_
          clear o1 o2 lr
          go_wp2_with fail
          go_roundg (len0 - (j + 1))
          case measure => omega
          case rel => exact ⟨j + 1, by go_num, by omega, Nat.le_refl _, hxw.trans hxe⟩
        · obtain rfl : j = len0 := by omega
          have hji : ¬ (j : Int) < (j : Int) := by omega
          have l1 := HA1.out
          have l2 := HA2.out
          have l3 := HA3.out
          have l4 := HA4.out
          clear h1 h2
          go_wp2_with fail
          refine wp_region_eager [(0, false), (1, false), (2, false), (3, false), (5, false), (6, false), (7, false), (8, false), (4, true), (9, true), (10, false), (11, false), (12, false), (13, false), (14, false), (15, false), (17, false), (18, false), (19, false), (20, false), (16, true), (21, true), (22, false), (23, false), (24, false), (25, true), (26, false), (27, false)] (by kernel_rfl) (by kernel_rfl) rfl (by kernel_rfl) (fun _ _ _ _ _ h => h) (WpH.out ?_)
          have hxe : Ext wr wr.drew := (Ext.refl wr).drew
          generalize wr.drew = W1 at *
          iterate 3 (refine wpH_read (v := ?_) rfl (by rfl) ?_ ?_; rotate_left; (focus (intro w' hx; go_simp; first | done | with_reducible rfl)); simp only [Act.put, List.setIfInBounds_toArray, List.set_cons_zero, List.set_cons_succ])
          (refine wpH_read rfl (by rfl) (fun w' hx => exec_range 30 _ rfl w.heap.size (0) _ _ rfl (HP.out _ (hxw.trans (hxe.trans hx))) Try.underlying30 rfl (by rw [lk]; exact pk_size)) ?_; simp only [Act.put, List.setIfInBounds_toArray, List.set_cons_zero, List.set_cons_succ])
          iterate 3 (refine wpH_read (v := ?_) rfl (by rfl) ?_ ?_; rotate_left; (focus (intro w' hx; go_simp; first | done | with_reducible rfl)); simp only [Act.put, List.setIfInBounds_toArray, List.set_cons_zero, List.set_cons_succ])
          (refine wpH_read rfl (by rfl) (fun w' hx => exec_range 30 _ rfl w.heap.size (0) _ _ rfl (HP.out _ (hxw.trans (hxe.trans hx))) Try.underlying30 rfl (by rw [lk]; exact pk_size)) ?_; simp only [Act.put, List.setIfInBounds_toArray, List.set_cons_zero, List.set_cons_succ])
          (refine wpH_call rfl (by rfl) (fun K hK => ?_); go_simp; (go_at_call 12; refine (l1 _ (hxw.trans hxe)).mono ?_; rintro e w5 ⟨rfl, hw5⟩; refine hK _ _ hw5 ?_; clear hK K; replace hxe := hxe.trans hw5; clear hw5))
          (refine wpH_call rfl (by rfl) (fun K hK => ?_); go_simp; (go_at_call 13; refine (l2 _ (hxw.trans hxe)).mono ?_; rintro e w6 ⟨rfl, hw6⟩; refine hK _ _ hw6 ?_; clear hK K; replace hxe := hxe.trans hw6; clear hw6))
          iterate 2 (refine wpH_read (v := ?_) rfl (by rfl) ?_ ?_; rotate_left; (focus (intro w' hx; go_simp; first | done | with_reducible rfl)); simp only [Act.put, List.setIfInBounds_toArray, List.set_cons_zero, List.set_cons_succ])
          (refine wpH_read rfl (by rfl) (fun w' hx => exec_range 36 _ rfl (w.heap.size + 1) (0) _ _ rfl (HS.out _ (hxw.trans (hxe.trans hx))) Try.underlying36 rfl (by rw [ls]; exact side_size)) ?_; simp only [Act.put, List.setIfInBounds_toArray, List.set_cons_zero, List.set_cons_succ])
          iterate 3 (refine wpH_read (v := ?_) rfl (by rfl) ?_ ?_; rotate_left; (focus (intro w' hx; go_simp; first | done | with_reducible rfl)); simp only [Act.put, List.setIfInBounds_toArray, List.set_cons_zero, List.set_cons_succ])
          (refine wpH_read rfl (by rfl) (fun w' hx => exec_range 36 _ rfl (w.heap.size + 1) (0) _ _ rfl (HS.out _ (hxw.trans (hxe.trans hx))) Try.underlying36 rfl (by rw [ls]; exact side_size)) ?_; simp only [Act.put, List.setIfInBounds_toArray, List.set_cons_zero, List.set_cons_succ])
          iterate 3 (refine wpH_read (v := ?_) rfl (by rfl) ?_ ?_; rotate_left; (focus (intro w' hx; go_simp; first | done | with_reducible rfl)); simp only [Act.put, List.setIfInBounds_toArray, List.set_cons_zero, List.set_cons_succ])
          (refine wpH_call rfl (by rfl) (fun K hK => ?_); go_simp; (go_at_call 14; refine (l3 _ (hxw.trans hxe)).mono ?_; rintro e w7 ⟨rfl, hw7⟩; refine hK _ _ hw7 ?_; clear hK K; replace hxe := hxe.trans hw7; clear hw7))
          (refine wpH_call rfl (by rfl) (fun K hK => ?_); go_simp; (go_at_call 15; refine (l4 _ (hxw.trans hxe)).mono ?_; rintro e w8 ⟨rfl, hw8⟩; refine hK _ _ hw8 ?_; clear hK K; replace hxe := hxe.trans hw8; clear hw8))
          iterate 3 (refine wpH_read (v := ?_) rfl (by rfl) ?_ ?_; rotate_left; (focus (intro w' hx; go_simp; first | done | with_reducible rfl)); simp only [Act.put, List.setIfInBounds_toArray, List.set_cons_zero, List.set_cons_succ])
          (refine wpH_call rfl (by rfl) (fun K hK => ?_); go_simp; (go_at_call 16; refine (known_any _).mono ?_; rintro e w9 ⟨rfl, hw9⟩; refine hK _ _ hw9 ?_; clear hK K; replace hxe := hxe.trans hw9; clear hw9))
          iterate 2 (refine wpH_read (v := ?_) rfl (by rfl) ?_ ?_; rotate_left; (focus (intro w' hx; go_simp; first | done | with_reducible rfl)); simp only [Act.put, List.setIfInBounds_toArray, List.set_cons_zero, List.set_cons_succ])
          refine wpH_done ?_
          clear l1 l2 l3 l4
          go_wp2_with fail
          go_ret
          exact ⟨rfl, (HX0.out.trans (hxw.trans hxe)).below⟩

theorem contract (H : Type) (enc : TypeId × Value → H) (W : World) (base : Nat) (args : Array Value) (ds gs : List (DataW H)) (before : List MemPlace)
    (hval : ∀ (j : Nat) t v, Try.f3.params[j]? = some t → args[j]? = some v → Value.okWide Try.prog W .any base t v)
    (hW : DataW.Whole enc Try.prog Try.f3.params.toList Rows.matchTellsSpec.vars false W args.toList ds gs before) (hsh : W.ShapedOpen Try.prog) :
    Calls Try.prog 3 args W fun e W' => ∃ v, e = .returned v ∧ Rows.matchTellsSpec.post enc Try.prog Try.f3 false true false false W args v W' := by
  have hW' := hW
  obtain ⟨p, q, hA0, hV, rfl, hfz, hnd⟩ := hW
  have hA : DataW.TrodAll enc Try.prog W 0 (fun _ => true) true Try.f3.params.toList args.toList ds p := hA0
  rw [Try.params3] at hA hval
  obtain ⟨v0, vs0, d0, ds0, p0, q0, hargs, rfl, rfl, h0, r0⟩ := trodAll_cons hA
  obtain ⟨v1, vs1, d1, ds1, p1, q1, rfl, rfl, rfl, h1, r1⟩ := trodAll_cons r0
  obtain ⟨v2, vs2, d2, ds2, p2, q2, rfl, rfl, rfl, h2, r2⟩ := trodAll_cons r1
  obtain ⟨v3, vs3, d3, ds3, p3, q3, rfl, rfl, rfl, h3, r3⟩ := trodAll_cons r2
  obtain ⟨v4, vs4, d4, ds4, p4, q4, rfl, rfl, rfl, h4, r4⟩ := trodAll_cons r3
  obtain ⟨v5, vs5, d5, ds5, p5, q5, rfl, rfl, rfl, h5, r5⟩ := trodAll_cons r4
  obtain ⟨v6, vs6, d6, ds6, p6, q6, rfl, rfl, rfl, h6, r6⟩ := trodAll_cons r5
  obtain ⟨rfl, rfl, rfl⟩ := trodAll_nil r6
  obtain rfl : args = #[v0, v1, v2, v3, v4, v5, v6] := by cases args; simp_all
  obtain ⟨rfl, rfl⟩ := trodVars_none hV
  have k0 := h0
  have lt0 : ∀ x ∈ p0, x.block < W.heap.size := by obtain ⟨m, hm⟩ := k0; exact DataW.trod_lt m _ _ _ hm
  obtain ⟨b0, l0, c0, rfl⟩ := okWide_slice Try.underlying22 (hval 0 22 v0 rfl rfl)
  obtain ⟨fu0, hf0⟩ := h0
  obtain ⟨a0, len0, cap0, zs0, ce0, row0⟩ := open_rowG 28 cells43 ok43 (by omega) cells43_length Try.underlying22 (by kernel_rfl) elem43 hf0
  obtain ⟨rfl, rfl, rfl⟩ : a0 = b0 ∧ len0 = l0 ∧ cap0 = c0 := by simpa [Value.cells, eq_comm] using ce0
  have k1 := h1
  have lt1 : ∀ x ∈ p1, x.block < W.heap.size := by obtain ⟨m, hm⟩ := k1; exact DataW.trod_lt m _ _ _ hm
  obtain ⟨b1, l1, c1, rfl⟩ := okWide_slice Try.underlying23 (hval 1 23 v1 rfl rfl)
  obtain ⟨fu1, hf1⟩ := h1
  obtain ⟨a1, len1, cap1, zs1, ce1, row1⟩ := open_rowG 2 cells53 (ok53 W) (by omega) cells53_length Try.underlying23 (by kernel_rfl) elem53 hf1
  obtain ⟨rfl, rfl, rfl⟩ : a1 = b1 ∧ len1 = l1 ∧ cap1 = c1 := by simpa [Value.cells, eq_comm] using ce1
  obtain ⟨a2, rfl, rfl, rfl, w2⟩ := open_string Try.underlying9 (hval 2 9 v2 rfl rfl) h2
  have k3 := h3
  have lt3 : ∀ x ∈ p3, x.block < W.heap.size := by obtain ⟨m, hm⟩ := k3; exact DataW.trod_lt m _ _ _ hm
  obtain ⟨cs3, rfl, hs3⟩ := okWide_struct Try.underlying30 (hval 3 30 v3 rfl rfl)
  obtain ⟨u3a, u3b, u3c, u3d, u3e, u3f, u3g, u3h, u3i, u3j, u3k, u3l, u3m, u3n, u3o, u3p, u3q, u3r, rfl⟩ := arr18 (hs3.trans (by kernel_rfl))
  obtain ⟨fu3, hf3⟩ := h3
  obtain ⟨_, _, e73⟩ := field_at Try.underlying30 hf3 0 rfl 11 (by kernel_rfl)
  obtain ⟨_, _, e74⟩ := field_at Try.underlying27 e73 0 rfl 1 (by kernel_rfl)
  obtain ⟨a30a, c75, _, w30a⟩ := DataW.trod_int Try.underlying3 e74
  obtain rfl : u3a = .int .i64 a30a := by simpa [Value.cells] using c75
  obtain ⟨_, _, e76⟩ := field_at Try.underlying27 e73 1 rfl 1 (by kernel_rfl)
  obtain ⟨a30b, c77, _, w30b⟩ := DataW.trod_int Try.underlying3 e76
  obtain rfl : u3b = .int .i64 a30b := by simpa [Value.cells] using c77
  obtain ⟨_, _, e78⟩ := field_at Try.underlying27 e73 2 rfl 1 (by kernel_rfl)
  obtain ⟨a30c, c79, _⟩ := DataW.trod_bool Try.underlying4 e78
  obtain rfl : u3c = .bool a30c := by simpa [Value.cells] using c79
  obtain ⟨_, _, e80⟩ := field_at Try.underlying27 e73 3 rfl 1 (by kernel_rfl)
  obtain ⟨a30d, c81, _⟩ := DataW.trod_bool Try.underlying4 e80
  obtain rfl : u3d = .bool a30d := by simpa [Value.cells] using c81
  obtain ⟨_, _, e82⟩ := field_at Try.underlying27 e73 4 rfl 1 (by kernel_rfl)
  obtain ⟨a30e, c83, _, w30e⟩ := DataW.trod_int Try.underlying3 e82
  obtain rfl : u3e = .int .i64 a30e := by simpa [Value.cells] using c83
  obtain ⟨_, _, e84⟩ := field_at Try.underlying27 e73 5 rfl 1 (by kernel_rfl)
  obtain ⟨a30f, c85, _, w30f⟩ := DataW.trod_int Try.underlying3 e84
  obtain rfl : u3f = .int .i64 a30f := by simpa [Value.cells] using c85
  obtain ⟨_, _, e86⟩ := field_at Try.underlying27 e73 6 rfl 1 (by kernel_rfl)
  obtain ⟨a30g, c87, _, w30g⟩ := DataW.trod_int Try.underlying3 e86
  obtain rfl : u3g = .int .i64 a30g := by simpa [Value.cells] using c87
  obtain ⟨_, _, e88⟩ := field_at Try.underlying27 e73 7 rfl 1 (by kernel_rfl)
  obtain ⟨a30h, c89, _, w30h⟩ := DataW.trod_int Try.underlying24 e88
  obtain rfl : u3h = .int .u32 a30h := by simpa [Value.cells] using c89
  obtain ⟨_, _, e90⟩ := field_at Try.underlying27 e73 8 rfl 1 (by kernel_rfl)
  obtain ⟨a30i, c91, _, w30i⟩ := DataW.trod_int Try.underlying24 e90
  obtain rfl : u3i = .int .u32 a30i := by simpa [Value.cells] using c91
  obtain ⟨_, _, e92⟩ := field_at Try.underlying27 e73 9 rfl 1 (by kernel_rfl)
  obtain ⟨a30j, len30j, cap30j, zs30j, c93, row30j⟩ := open_rowI Try.underlying25 Try.underlying5 (by kernel_rfl) (fun _ => rfl) e92
  obtain rfl : u3j = .slice a30j len30j cap30j := by simpa [Value.cells] using c93
  obtain ⟨_, _, e94⟩ := field_at Try.underlying27 e73 10 rfl 1 (by kernel_rfl)
  obtain ⟨a30k, len30k, cap30k, zs30k, c95, row30k⟩ := open_rowI Try.underlying25 Try.underlying5 (by kernel_rfl) (fun _ => rfl) e94
  obtain rfl : u3k = .slice a30k len30k cap30k := by simpa [Value.cells] using c95
  obtain ⟨_, _, e96⟩ := field_at Try.underlying30 hf3 1 rfl 1 (by kernel_rfl)
  obtain ⟨a31, c97, _, w31⟩ := DataW.trod_int Try.underlying3 e96
  obtain rfl : u3l = .int .i64 a31 := by simpa [Value.cells] using c97
  obtain ⟨_, _, e98⟩ := field_at Try.underlying30 hf3 2 rfl 1 (by kernel_rfl)
  obtain ⟨a32, c99, _, w32⟩ := DataW.trod_int Try.underlying3 e98
  obtain rfl : u3m = .int .i64 a32 := by simpa [Value.cells] using c99
  obtain ⟨_, _, e100⟩ := field_at Try.underlying30 hf3 3 rfl 1 (by kernel_rfl)
  obtain ⟨a33, c101, _, w33⟩ := DataW.trod_int Try.underlying3 e100
  obtain rfl : u3n = .int .i64 a33 := by simpa [Value.cells] using c101
  obtain ⟨_, _, e102⟩ := field_at Try.underlying30 hf3 4 rfl 1 (by kernel_rfl)
  obtain ⟨a34, c103, _, w34⟩ := DataW.trod_int Try.underlying3 e102
  obtain rfl : u3o = .int .i64 a34 := by simpa [Value.cells] using c103
  obtain ⟨_, _, e104⟩ := field_at Try.underlying30 hf3 5 rfl 1 (by kernel_rfl)
  obtain ⟨a35, c105, _, w35⟩ := DataW.trod_int Try.underlying3 e104
  obtain rfl : u3p = .int .i64 a35 := by simpa [Value.cells] using c105
  obtain ⟨_, _, e106⟩ := field_at Try.underlying30 hf3 6 rfl 1 (by kernel_rfl)
  obtain ⟨a36, c107, _, w36⟩ := DataW.trod_int Try.underlying3 e106
  obtain rfl : u3q = .int .i64 a36 := by simpa [Value.cells] using c107
  obtain ⟨_, _, e108⟩ := field_at Try.underlying30 hf3 7 rfl 1 (by kernel_rfl)
  obtain ⟨k37, c109⟩ := open_ptrA Try.underlying28 e108
  obtain rfl : u3r = .pointer k37 := by simpa [Value.cells] using c109
  have k4 := h4
  have lt4 : ∀ x ∈ p4, x.block < W.heap.size := by obtain ⟨m, hm⟩ := k4; exact DataW.trod_lt m _ _ _ hm
  obtain ⟨cs4, rfl, hs4⟩ := okWide_struct Try.underlying36 (hval 4 36 v4 rfl rfl)
  obtain ⟨u4a, u4b, u4c, u4d, u4e, u4f, rfl⟩ := arr6 (hs4.trans (by kernel_rfl))
  obtain ⟨fu4, hf4⟩ := h4
  obtain ⟨_, _, e110⟩ := field_at Try.underlying36 hf4 0 rfl 1 (by kernel_rfl)
  obtain ⟨a40, c111, _⟩ := DataW.trod_bool Try.underlying4 e110
  obtain rfl : u4a = .bool a40 := by simpa [Value.cells] using c111
  obtain ⟨_, _, e112⟩ := field_at Try.underlying36 hf4 1 rfl 1 (by kernel_rfl)
  obtain ⟨a41, c113, _, w41⟩ := DataW.trod_string Try.underlying9 e112
  obtain rfl : u4b = .string a41 := by simpa [Value.cells] using c113
  obtain ⟨_, _, e114⟩ := field_at Try.underlying36 hf4 2 rfl 2 (by kernel_rfl)
  obtain ⟨_, _, e115⟩ := field_at Try.underlying32 e114 0 rfl 1 (by kernel_rfl)
  obtain ⟨a420, c116, _, w420⟩ := DataW.trod_int Try.underlying24 e115
  obtain rfl : u4c = .int .u32 a420 := by simpa [Value.cells] using c116
  obtain ⟨_, _, e117⟩ := field_at Try.underlying32 e114 1 rfl 1 (by kernel_rfl)
  obtain ⟨a421, c118, _, w421⟩ := DataW.trod_int Try.underlying3 e117
  obtain rfl : u4d = .int .i64 a421 := by simpa [Value.cells] using c118
  obtain ⟨_, _, e119⟩ := field_at Try.underlying36 hf4 3 rfl 2 (by kernel_rfl)
  obtain ⟨_, _, e120⟩ := field_at Try.underlying34 e119 0 rfl 1 (by kernel_rfl)
  obtain ⟨a430, c121, _, w430⟩ := DataW.trod_int Try.underlying3 e120
  obtain rfl : u4e = .int .i64 a430 := by simpa [Value.cells] using c121
  obtain ⟨_, _, e122⟩ := field_at Try.underlying34 e119 1 rfl 1 (by kernel_rfl)
  obtain ⟨a431, c123, _, w431⟩ := DataW.trod_int Try.underlying3 e122
  obtain rfl : u4f = .int .i64 a431 := by simpa [Value.cells] using c123
  obtain ⟨a5, rfl, rfl, rfl, w5⟩ := open_int Try.underlying24 (hval 5 24 v5 rfl rfl) h5
  obtain ⟨a6, rfl, rfl, rfl, w6⟩ := open_int Try.underlying3 (hval 6 3 v6 rfl rfl) h6
  clear hA0
  refine (walk a0 len0 cap0 zs0 a1 len1 cap1 zs1 a2 a30a a30b a30c a30d a30e a30f a30g a30h a30i a30j len30j cap30j zs30j a30k len30k cap30k zs30k a31 a32 a33 a34 a35 a36 k37 a40 a41 a420 a421 a430 a431 a5 a6 W row0 row1 w2 w30a w30b w30e w30f w30g w30h w30i row30j row30k w31 w32 w33 w34 w35 w36 w41 w420 w421 w430 w431 w5 w6 hsh).mono fun e W' ⟨he, bel⟩ => ?_
  subst he
  exact ⟨_, rfl, _, _, _, [], _, [], hW', trodAll_mk1 (shut_bool Try.underlying4 _), (trodAll_cons_mk (Below.trod laidOut (by kernel_rfl) (of_decide_eq_true (by kernel_rfl)) k0 bel lt0) (trodAll_cons_mk (Below.trod laidOut (by kernel_rfl) (of_decide_eq_true (by kernel_rfl)) k1 bel lt1) (trodAll_cons_mk (shut_string Try.underlying9 w2) (trodAll_cons_mk (Below.trod laidOut (by kernel_rfl) (of_decide_eq_true (by kernel_rfl)) k3 bel lt3) (trodAll_cons_mk (Below.trod laidOut (by kernel_rfl) (of_decide_eq_true (by kernel_rfl)) k4 bel lt4) (trodAll_cons_mk (shut_int Try.underlying24 w5) (trodAll_cons_mk (shut_int Try.underlying3 w6) trodAll_mk0))))))), rfl, bel.frame _, fun h => by cases h⟩

theorem laid_met (os : Os) : laidMet Try.prog Rows.matchTellsRow.laid ((World.doorLaid Try.prog 24 os).forCall (fun _ _ => 0) ⟨#[], #[.slice none 0 0, .slice none 0 0, .string ⟨#[]⟩, .agg #[.int .i64 0, .int .i64 0, .bool false, .bool false, .int .i64 0, .int .i64 0, .int .i64 0, .int .u32 0, .int .u32 0, .slice none 0 0, .slice none 0 0, .int .i64 0, .int .i64 0, .int .i64 0, .int .i64 0, .int .i64 0, .int .i64 0, .pointer none], .agg #[.bool false, .string ⟨#[]⟩, .int .u32 0, .int .i64 0, .int .i64 0, .int .i64 0], .int .u32 0, .int .i64 0], []⟩).memory :=
  laidMet_of_run' 8 (by kernel_rfl) (by kernel_rfl)
theorem reads (os : Os) {H : Type} (enc : TypeId × Value → H) : ∃ places, DataW.whole enc Try.prog ((World.doorLaid Try.prog 24 os).forCall (fun _ _ => 0) ⟨#[], #[.slice none 0 0, .slice none 0 0, .string ⟨#[]⟩, .agg #[.int .i64 0, .int .i64 0, .bool false, .bool false, .int .i64 0, .int .i64 0, .int .i64 0, .int .u32 0, .int .u32 0, .slice none 0 0, .slice none 0 0, .int .i64 0, .int .i64 0, .int .i64 0, .int .i64 0, .int .i64 0, .int .i64 0, .pointer none], .agg #[.bool false, .string ⟨#[]⟩, .int .u32 0, .int .i64 0, .int .i64 0, .int .i64 0], .int .u32 0, .int .i64 0], []⟩).memory Try.f3.params.toList Rows.matchTellsSpec.vars false (#[.slice none 0 0, .slice none 0 0, .string ⟨#[]⟩, .agg #[.int .i64 0, .int .i64 0, .bool false, .bool false, .int .i64 0, .int .i64 0, .int .i64 0, .int .u32 0, .int .u32 0, .slice none 0 0, .slice none 0 0, .int .i64 0, .int .i64 0, .int .i64 0, .int .i64 0, .int .i64 0, .int .i64 0, .pointer none], .agg #[.bool false, .string ⟨#[]⟩, .int .u32 0, .int .i64 0, .int .i64 0, .int .i64 0], .int .u32 0, .int .i64 0] : Array Value).toList 8 = some ([.nil, .nil, .lit (.string []), .agg [.agg [.lit (.int .i64 0), .lit (.int .i64 0), .lit (.bool false), .lit (.bool false), .lit (.int .i64 0), .lit (.int .i64 0), .lit (.int .i64 0), .lit (.int .u32 0), .lit (.int .u32 0), .nil, .nil], .lit (.int .i64 0), .lit (.int .i64 0), .lit (.int .i64 0), .lit (.int .i64 0), .lit (.int .i64 0), .lit (.int .i64 0), .nil], .agg [.lit (.bool false), .lit (.string []), .agg [.lit (.int .u32 0), .lit (.int .i64 0)], .agg [.lit (.int .i64 0), .lit (.int .i64 0)]], .lit (.int .u32 0), .lit (.int .i64 0)], [], places) :=
  ⟨[], by kernel_rfl⟩

set_option maxRecDepth 100000 in
theorem lifted (os : Os) (started : os.Started) (H : Type) (enc : TypeId × Value → H) (F : Stop.Interp) :
    ReturnsInHanded {} Try.checked os 3 .any ((OpenSpec.ofChange Rows.matchTellsSpec).preRow enc Try.prog Try.f3 Rows.matchTellsRow.domain false Rows.matchTellsRow.laid) (((OpenSpec.ofChange Rows.matchTellsSpec).at F).post enc Try.prog Try.f3 false true false false) := by
  obtain ⟨places, hx⟩ := reads os enc
  refine returnsInHanded_of_row (C := Try.checked) (s := (OpenSpec.ofChange Rows.matchTellsSpec)) own started (by kernel_rfl) Try.func3
    (witness_row_at (enc := enc) (C := Try.checked) false (World.doorLaid Try.prog 24 os) #[.slice none 0 0, .slice none 0 0, .string ⟨#[]⟩, .agg #[.int .i64 0, .int .i64 0, .bool false, .bool false, .int .i64 0, .int .i64 0, .int .i64 0, .int .u32 0, .int .u32 0, .slice none 0 0, .slice none 0 0, .int .i64 0, .int .i64 0, .int .i64 0, .int .i64 0, .int .i64 0, .int .i64 0, .pointer none], .agg #[.bool false, .string ⟨#[]⟩, .int .u32 0, .int .i64 0, .int .i64 0, .int .i64 0], .int .u32 0, .int .i64 0] rfl (by kernel_rfl) (by kernel_rfl) (by kernel_rfl)
      (OpenSpec.preRow_of_cond 8 hx (by kernel_rfl) (fun k hk => by cases hk) (by kernel_rfl) (laid_met os))) ?_
  intro W base args ds gs before hval hW _ hcond hz hL hsh _
  exact contract H enc W base args ds gs before hval hW hsh

theorem said : Rows.MatchTellsSaid :=
  OpenClaim.holds_of_cond 3 Try.f3 rfl rfl rfl rfl rfl rfl rfl ⟨rfl, rfl, rfl, rfl, rfl⟩ rfl rfl rfl rfl rfl (by kernel_rfl) Try.func3 (by kernel_rfl)
    (of_decide_eq_true (by kernel_rfl)) (by unfold Func.isWrapper; first | (rw [if_pos (by decide +kernel)]; kernel_rfl) | (rw [if_neg (by decide +kernel)]; exact ⟨rfl, rfl⟩))
    (fun os started H enc _ F => by rw [OpenClaim.pre_eq_preRow]; exact lifted os started H enc F)

end Go.Proofs.Ytdkmakjjcfkfaaa.matchTells

namespace Go.Proofs.Ytdkmakjjcfkfaaa
theorem matchTells_holds : Rows.MatchTellsSaid := matchTells.said
#print axioms matchTells_holds
end Go.Proofs.Ytdkmakjjcfkfaaa
