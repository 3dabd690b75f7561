/- For every configuration (where it has more than 20 interfaces or more than 100 bogons the law returns true at once) and every address, the law RpfSources returns true: whether the address is the firewall's own, is all of a network, and may be a source, is what the document's own answers say; no condition. -/
import Derived.Test.YtkfhkhgiojpfoaaGreatRows
import Derived.Test.YtkfhkhgiojpfoaaGreatJ1
import Derived.Test.YtkfhkhgiojpfoaaGreatJ2
import Derived.Test.YtkfhkhgiojpfoaaGreatJ3
import Derived.Test.YtkfhkhgiojpfoaaGreatJ4
import Derived.Test.YtkfhkhgiojpfoaaGreatJ5
import Derived.Test.YtkfhkhgiojpfoaaGreatJ6
import Derived.Test.YtkfhkhgiojpfoaaGreatJ7
import Derived.Test.YtkfhkhgiojpfoaaGreatJ8
import Derived.Test.YtkfhkhgiojpfoaaGreatJ9
import Derived.Test.YtkfhkhgiojpfoaaGreatJ10
import Derived.Test.YtkfhkhgiojpfoaaGreatJ11
import Derived.Test.YtkfhkhgiojpfoaaGreatJ12
import Derived.Test.YtkfhkhgiojpfoaaGreatJ13
import Derived.Test.YtkfhkhgiojpfoaaGreatJ14
import Derived.Test.YtkfhkhgiojpfoaaGreatJ15
import Derived.Test.YtkfhkhgiojpfoaaGreatJ16
import Derived.Test.YtkfhkhgiojpfoaaGreatJ17
import Derived.Test.YtkfhkhgiojpfoaaGreatJ18
import Derived.Test.YtkfhkhgiojpfoaaGreatJ19
import Derived.Test.YtkfhkhgiojpfoaaGreatJ20
import Derived.Test.YtkfhkhgiojpfoaaGreatJ21
import Derived.Test.YtkfhkhgiojpfoaaGreatJ22
import Derived.Test.YtkfhkhgiojpfoaaGreatJ23
import Derived.Test.YtkfhkhgiojpfoaaGreatJ24
import Derived.Test.YtkfhkhgiojpfoaaGreatJ25
import Derived.Test.YtkfhkhgiojpfoaaGreatJ26
import Derived.Test.YtkfhkhgiojpfoaaGreatJ27
import Derived.WalkKit
import Derived.ProofKit
import Derived.OpenShut
import Derived.ShutString
import Derived.ChangeOld
import Derived.Deep.DeepHandedRow
import Derived.Lib.LaidTab
import Derived.Lib.SmallJoins
import Derived.LaidMore
import Derived.Stop.LaidErr
import Derived.ChangeMaps5
namespace Go.Proofs.YtkfhkhgiojpfoaaGreat.rpfSources
open Go.ChangeShapes Go.WideShapes Go.ChangeAt Go.RowKit Go.ChangeMaps
set_option linter.unusedVariables false
set_option maxRecDepth 100000

theorem own : ownKnob Tryz.prog.godebug = none := by kernel_rfl
theorem laidOut : laidOutB Tryz.prog = true := by kernel_rfl

theorem arr6 {α : Type} {cs : Array α} (h : cs.size = 6) : ∃ c0 c1 c2 c3 c4 c5, cs = #[c0, c1, c2, c3, c4, c5] := by
  obtain ⟨l⟩ := cs
  match l, h with
  | [c0, c1, c2, c3, c4, c5], _ => exact ⟨c0, c1, c2, c3, c4, c5, rfl⟩

abbrev Elem44 := ByteArray × Int × Int × Int × Int
def cells44 (z : Elem44) : List Value := [.string (z.1), .int .u32 (z.2.1), .int .i64 (z.2.2.1), .int .i64 (z.2.2.2.1), .int .i64 (z.2.2.2.2)]
def ok44 (z : Elem44) : Prop := (z.1).size ≤ maxLen ∧ (Lit.int .u32 (z.2.1)).wf = true ∧ (Lit.int .i64 (z.2.2.1)).wf = true ∧ (Lit.int .i64 (z.2.2.2.1)).wf = true ∧ (Lit.int .i64 (z.2.2.2.2)).wf = true
theorem cells44_length (z : Elem44) : (cells44 z).length = 5 := rfl
theorem elem44 {H : Type} {enc : TypeId × Value → H} {w : World} {base : Nat} {spare : Nat → Bool} {held : Bool} (n : Nat) (cs : List Value) (y : DataW H × List MemPlace)
    (h : DataW.trod enc Tryz.prog w base spare held n 44 cs = some y) : ∃ z : Elem44, cs = cells44 z ∧ ok44 z := by
  have hl : cs.length = 5 := by
    obtain ⟨_, _, _, _, hl, _⟩ := DataW.trod_struct Tryz.underlying44 h
    exact hl.trans (by kernel_rfl)
  obtain ⟨u0, u1, u2, u3, u4, rfl⟩ : ∃ u0 u1 u2 u3 u4, cs = [u0, u1, u2, u3, u4] := by
    match cs, hl with
    | [u0, u1, u2, u3, u4], _ => exact ⟨u0, u1, u2, u3, u4, rfl⟩
  obtain ⟨_, _, e2⟩ := field_at Tryz.underlying44 h 0 rfl 1 (by kernel_rfl)
  obtain ⟨az0, c3, _, wz0⟩ := DataW.trod_string Tryz.underlying9 e2
  obtain rfl : u0 = .string az0 := by simpa using c3
  obtain ⟨_, _, e4⟩ := field_at Tryz.underlying44 h 1 rfl 2 (by kernel_rfl)
  obtain ⟨_, _, e5⟩ := field_at Tryz.underlying42 e4 0 rfl 1 (by kernel_rfl)
  obtain ⟨az10, c6, _, wz10⟩ := DataW.trod_int Tryz.underlying23 e5
  obtain rfl : u1 = .int .u32 az10 := by simpa using c6
  obtain ⟨_, _, e7⟩ := field_at Tryz.underlying42 e4 1 rfl 1 (by kernel_rfl)
  obtain ⟨az11, c8, _, wz11⟩ := DataW.trod_int Tryz.underlying3 e7
  obtain rfl : u2 = .int .i64 az11 := by simpa using c8
  obtain ⟨_, _, e9⟩ := field_at Tryz.underlying44 h 2 rfl 1 (by kernel_rfl)
  obtain ⟨az2, c10, _, wz2⟩ := DataW.trod_int Tryz.underlying3 e9
  obtain rfl : u3 = .int .i64 az2 := by simpa using c10
  obtain ⟨_, _, e11⟩ := field_at Tryz.underlying44 h 3 rfl 1 (by kernel_rfl)
  obtain ⟨az3, c12, _, wz3⟩ := DataW.trod_int Tryz.underlying3 e11
  obtain rfl : u4 = .int .i64 az3 := by simpa using c12
  exact ⟨(az0, az10, az11, az2, az3), rfl, ⟨wz0, wz10, wz11, wz2, wz3⟩⟩

abbrev Elem42 := Int × Int
def cells42 (z : Elem42) : List Value := [.int .u32 (z.1), .int .i64 (z.2)]
def ok42 (z : Elem42) : Prop := (Lit.int .u32 (z.1)).wf = true ∧ (Lit.int .i64 (z.2)).wf = true
theorem cells42_length (z : Elem42) : (cells42 z).length = 2 := rfl
theorem elem42 {H : Type} {enc : TypeId × Value → H} {w : World} {base : Nat} {spare : Nat → Bool} {held : Bool} (n : Nat) (cs : List Value) (y : DataW H × List MemPlace)
    (h : DataW.trod enc Tryz.prog w base spare held n 42 cs = some y) : ∃ z : Elem42, cs = cells42 z ∧ ok42 z := by
  have hl : cs.length = 2 := by
    obtain ⟨_, _, _, _, hl, _⟩ := DataW.trod_struct Tryz.underlying42 h
    exact hl.trans (by kernel_rfl)
  obtain ⟨u0, u1, rfl⟩ : ∃ u0 u1, cs = [u0, u1] := by
    match cs, hl with
    | [u0, u1], _ => exact ⟨u0, u1, rfl⟩
  obtain ⟨_, _, e15⟩ := field_at Tryz.underlying42 h 0 rfl 1 (by kernel_rfl)
  obtain ⟨az0, c16, _, wz0⟩ := DataW.trod_int Tryz.underlying23 e15
  obtain rfl : u0 = .int .u32 az0 := by simpa using c16
  obtain ⟨_, _, e17⟩ := field_at Tryz.underlying42 h 1 rfl 1 (by kernel_rfl)
  obtain ⟨az1, c18, _, wz1⟩ := DataW.trod_int Tryz.underlying3 e17
  obtain rfl : u1 = .int .i64 az1 := by simpa using c18
  exact ⟨(az0, az1), rfl, ⟨wz0, wz1⟩⟩

abbrev Elem244 := Bool × Bool × Bool × ByteArray × Int × Bool × ByteArray × Int × Int × Int × Int × Bool × ByteArray × Int × Int × Int × Int × Int × Int × Int × Bool × Bool × ByteArray × Int × Bool × ByteArray × Int × Int
def cells244 (z : Elem244) : List Value := [.bool (z.1), .bool (z.2.1), .bool (z.2.2.1), .string (z.2.2.2.1), .int .i64 (z.2.2.2.2.1), .bool (z.2.2.2.2.2.1), .string (z.2.2.2.2.2.2.1), .int .u32 (z.2.2.2.2.2.2.2.1), .int .i64 (z.2.2.2.2.2.2.2.2.1), .int .i64 (z.2.2.2.2.2.2.2.2.2.1), .int .i64 (z.2.2.2.2.2.2.2.2.2.2.1), .bool (z.2.2.2.2.2.2.2.2.2.2.2.1), .string (z.2.2.2.2.2.2.2.2.2.2.2.2.1), .int .u32 (z.2.2.2.2.2.2.2.2.2.2.2.2.2.1), .int .i64 (z.2.2.2.2.2.2.2.2.2.2.2.2.2.2.1), .int .i64 (z.2.2.2.2.2.2.2.2.2.2.2.2.2.2.2.1), .int .i64 (z.2.2.2.2.2.2.2.2.2.2.2.2.2.2.2.2.1), .int .i64 (z.2.2.2.2.2.2.2.2.2.2.2.2.2.2.2.2.2.1), .int .i64 (z.2.2.2.2.2.2.2.2.2.2.2.2.2.2.2.2.2.2.1), .int .i64 (z.2.2.2.2.2.2.2.2.2.2.2.2.2.2.2.2.2.2.2.1), .bool (z.2.2.2.2.2.2.2.2.2.2.2.2.2.2.2.2.2.2.2.2.1), .bool (z.2.2.2.2.2.2.2.2.2.2.2.2.2.2.2.2.2.2.2.2.2.1), .string (z.2.2.2.2.2.2.2.2.2.2.2.2.2.2.2.2.2.2.2.2.2.2.1), .int .u32 (z.2.2.2.2.2.2.2.2.2.2.2.2.2.2.2.2.2.2.2.2.2.2.2.1), .bool (z.2.2.2.2.2.2.2.2.2.2.2.2.2.2.2.2.2.2.2.2.2.2.2.2.1), .string (z.2.2.2.2.2.2.2.2.2.2.2.2.2.2.2.2.2.2.2.2.2.2.2.2.2.1), .int .u32 (z.2.2.2.2.2.2.2.2.2.2.2.2.2.2.2.2.2.2.2.2.2.2.2.2.2.2.1), .int .i64 (z.2.2.2.2.2.2.2.2.2.2.2.2.2.2.2.2.2.2.2.2.2.2.2.2.2.2.2)]
def ok244 (z : Elem244) : Prop := (z.2.2.2.1).size ≤ maxLen ∧ (Lit.int .i64 (z.2.2.2.2.1)).wf = true ∧ (z.2.2.2.2.2.2.1).size ≤ maxLen ∧ (Lit.int .u32 (z.2.2.2.2.2.2.2.1)).wf = true ∧ (Lit.int .i64 (z.2.2.2.2.2.2.2.2.1)).wf = true ∧ (Lit.int .i64 (z.2.2.2.2.2.2.2.2.2.1)).wf = true ∧ (Lit.int .i64 (z.2.2.2.2.2.2.2.2.2.2.1)).wf = true ∧ (z.2.2.2.2.2.2.2.2.2.2.2.2.1).size ≤ maxLen ∧ (Lit.int .u32 (z.2.2.2.2.2.2.2.2.2.2.2.2.2.1)).wf = true ∧ (Lit.int .i64 (z.2.2.2.2.2.2.2.2.2.2.2.2.2.2.1)).wf = true ∧ (Lit.int .i64 (z.2.2.2.2.2.2.2.2.2.2.2.2.2.2.2.1)).wf = true ∧ (Lit.int .i64 (z.2.2.2.2.2.2.2.2.2.2.2.2.2.2.2.2.1)).wf = true ∧ (Lit.int .i64 (z.2.2.2.2.2.2.2.2.2.2.2.2.2.2.2.2.2.1)).wf = true ∧ (Lit.int .i64 (z.2.2.2.2.2.2.2.2.2.2.2.2.2.2.2.2.2.2.1)).wf = true ∧ (Lit.int .i64 (z.2.2.2.2.2.2.2.2.2.2.2.2.2.2.2.2.2.2.2.1)).wf = true ∧ (z.2.2.2.2.2.2.2.2.2.2.2.2.2.2.2.2.2.2.2.2.2.2.1).size ≤ maxLen ∧ (Lit.int .u32 (z.2.2.2.2.2.2.2.2.2.2.2.2.2.2.2.2.2.2.2.2.2.2.2.1)).wf = true ∧ (z.2.2.2.2.2.2.2.2.2.2.2.2.2.2.2.2.2.2.2.2.2.2.2.2.2.1).size ≤ maxLen ∧ (Lit.int .u32 (z.2.2.2.2.2.2.2.2.2.2.2.2.2.2.2.2.2.2.2.2.2.2.2.2.2.2.1)).wf = true ∧ (Lit.int .i64 (z.2.2.2.2.2.2.2.2.2.2.2.2.2.2.2.2.2.2.2.2.2.2.2.2.2.2.2)).wf = true
theorem cells244_length (z : Elem244) : (cells244 z).length = 28 := rfl
theorem elem244 {H : Type} {enc : TypeId × Value → H} {w : World} {base : Nat} {spare : Nat → Bool} {held : Bool} (n : Nat) (cs : List Value) (y : DataW H × List MemPlace)
    (h : DataW.trod enc Tryz.prog w base spare held n 244 cs = some y) : ∃ z : Elem244, cs = cells244 z ∧ ok244 z := by
  have hl : cs.length = 28 := by
    obtain ⟨_, _, _, _, hl, _⟩ := DataW.trod_struct Tryz.underlying244 h
    exact hl.trans (by kernel_rfl)
  obtain ⟨u0, u1, u2, u3, u4, u5, u6, u7, u8, u9, u10, u11, u12, u13, u14, u15, u16, u17, u18, u19, u20, u21, u22, u23, u24, u25, u26, u27, rfl⟩ : ∃ u0 u1 u2 u3 u4 u5 u6 u7 u8 u9 u10 u11 u12 u13 u14 u15 u16 u17 u18 u19 u20 u21 u22 u23 u24 u25 u26 u27, cs = [u0, u1, u2, u3, u4, u5, u6, u7, u8, u9, u10, u11, u12, u13, u14, u15, u16, u17, u18, u19, u20, u21, u22, u23, u24, u25, u26, u27] := by
    match cs, hl with
    | [u0, u1, u2, u3, u4, u5, u6, u7, u8, u9, u10, u11, u12, u13, u14, u15, u16, u17, u18, u19, u20, u21, u22, u23, u24, u25, u26, u27], _ => exact ⟨u0, u1, u2, u3, u4, u5, u6, u7, u8, u9, u10, u11, u12, u13, u14, u15, u16, u17, u18, u19, u20, u21, u22, u23, u24, u25, u26, u27, rfl⟩
  obtain ⟨_, _, e23⟩ := field_at Tryz.underlying244 h 0 rfl 1 (by kernel_rfl)
  obtain ⟨aza, c24, _⟩ := DataW.trod_bool Tryz.underlying4 e23
  obtain rfl : u0 = .bool aza := by simpa using c24
  obtain ⟨_, _, e25⟩ := field_at Tryz.underlying244 h 1 rfl 1 (by kernel_rfl)
  obtain ⟨azb, c26, _⟩ := DataW.trod_bool Tryz.underlying4 e25
  obtain rfl : u1 = .bool azb := by simpa using c26
  obtain ⟨_, _, e27⟩ := field_at Tryz.underlying244 h 2 rfl 1 (by kernel_rfl)
  obtain ⟨azc, c28, _⟩ := DataW.trod_bool Tryz.underlying4 e27
  obtain rfl : u2 = .bool azc := by simpa using c28
  obtain ⟨_, _, e29⟩ := field_at Tryz.underlying244 h 3 rfl 1 (by kernel_rfl)
  obtain ⟨azd, c30, _, wzd⟩ := DataW.trod_string Tryz.underlying9 e29
  obtain rfl : u3 = .string azd := by simpa using c30
  obtain ⟨_, _, e31⟩ := field_at Tryz.underlying244 h 4 rfl 1 (by kernel_rfl)
  obtain ⟨aze, c32, _, wze⟩ := DataW.trod_int Tryz.underlying3 e31
  obtain rfl : u4 = .int .i64 aze := by simpa using c32
  obtain ⟨_, _, e33⟩ := field_at Tryz.underlying244 h 5 rfl 6 (by kernel_rfl)
  obtain ⟨_, _, e34⟩ := field_at Tryz.underlying240 e33 0 rfl 1 (by kernel_rfl)
  obtain ⟨azf0, c35, _⟩ := DataW.trod_bool Tryz.underlying4 e34
  obtain rfl : u5 = .bool azf0 := by simpa using c35
  obtain ⟨_, _, e36⟩ := field_at Tryz.underlying240 e33 1 rfl 1 (by kernel_rfl)
  obtain ⟨azf1, c37, _, wzf1⟩ := DataW.trod_string Tryz.underlying9 e36
  obtain rfl : u6 = .string azf1 := by simpa using c37
  obtain ⟨_, _, e38⟩ := field_at Tryz.underlying240 e33 2 rfl 2 (by kernel_rfl)
  obtain ⟨_, _, e39⟩ := field_at Tryz.underlying42 e38 0 rfl 1 (by kernel_rfl)
  obtain ⟨azf20, c40, _, wzf20⟩ := DataW.trod_int Tryz.underlying23 e39
  obtain rfl : u7 = .int .u32 azf20 := by simpa using c40
  obtain ⟨_, _, e41⟩ := field_at Tryz.underlying42 e38 1 rfl 1 (by kernel_rfl)
  obtain ⟨azf21, c42, _, wzf21⟩ := DataW.trod_int Tryz.underlying3 e41
  obtain rfl : u8 = .int .i64 azf21 := by simpa using c42
  obtain ⟨_, _, e43⟩ := field_at Tryz.underlying240 e33 3 rfl 2 (by kernel_rfl)
  obtain ⟨_, _, e44⟩ := field_at Tryz.underlying238 e43 0 rfl 1 (by kernel_rfl)
  obtain ⟨azf30, c45, _, wzf30⟩ := DataW.trod_int Tryz.underlying3 e44
  obtain rfl : u9 = .int .i64 azf30 := by simpa using c45
  obtain ⟨_, _, e46⟩ := field_at Tryz.underlying238 e43 1 rfl 1 (by kernel_rfl)
  obtain ⟨azf31, c47, _, wzf31⟩ := DataW.trod_int Tryz.underlying3 e46
  obtain rfl : u10 = .int .i64 azf31 := by simpa using c47
  obtain ⟨_, _, e48⟩ := field_at Tryz.underlying244 h 6 rfl 6 (by kernel_rfl)
  obtain ⟨_, _, e49⟩ := field_at Tryz.underlying240 e48 0 rfl 1 (by kernel_rfl)
  obtain ⟨azg0, c50, _⟩ := DataW.trod_bool Tryz.underlying4 e49
  obtain rfl : u11 = .bool azg0 := by simpa using c50
  obtain ⟨_, _, e51⟩ := field_at Tryz.underlying240 e48 1 rfl 1 (by kernel_rfl)
  obtain ⟨azg1, c52, _, wzg1⟩ := DataW.trod_string Tryz.underlying9 e51
  obtain rfl : u12 = .string azg1 := by simpa using c52
  obtain ⟨_, _, e53⟩ := field_at Tryz.underlying240 e48 2 rfl 2 (by kernel_rfl)
  obtain ⟨_, _, e54⟩ := field_at Tryz.underlying42 e53 0 rfl 1 (by kernel_rfl)
  obtain ⟨azg20, c55, _, wzg20⟩ := DataW.trod_int Tryz.underlying23 e54
  obtain rfl : u13 = .int .u32 azg20 := by simpa using c55
  obtain ⟨_, _, e56⟩ := field_at Tryz.underlying42 e53 1 rfl 1 (by kernel_rfl)
  obtain ⟨azg21, c57, _, wzg21⟩ := DataW.trod_int Tryz.underlying3 e56
  obtain rfl : u14 = .int .i64 azg21 := by simpa using c57
  obtain ⟨_, _, e58⟩ := field_at Tryz.underlying240 e48 3 rfl 2 (by kernel_rfl)
  obtain ⟨_, _, e59⟩ := field_at Tryz.underlying238 e58 0 rfl 1 (by kernel_rfl)
  obtain ⟨azg30, c60, _, wzg30⟩ := DataW.trod_int Tryz.underlying3 e59
  obtain rfl : u15 = .int .i64 azg30 := by simpa using c60
  obtain ⟨_, _, e61⟩ := field_at Tryz.underlying238 e58 1 rfl 1 (by kernel_rfl)
  obtain ⟨azg31, c62, _, wzg31⟩ := DataW.trod_int Tryz.underlying3 e61
  obtain rfl : u16 = .int .i64 azg31 := by simpa using c62
  obtain ⟨_, _, e63⟩ := field_at Tryz.underlying244 h 7 rfl 1 (by kernel_rfl)
  obtain ⟨azh, c64, _, wzh⟩ := DataW.trod_int Tryz.underlying3 e63
  obtain rfl : u17 = .int .i64 azh := by simpa using c64
  obtain ⟨_, _, e65⟩ := field_at Tryz.underlying244 h 8 rfl 1 (by kernel_rfl)
  obtain ⟨azi, c66, _, wzi⟩ := DataW.trod_int Tryz.underlying3 e65
  obtain rfl : u18 = .int .i64 azi := by simpa using c66
  obtain ⟨_, _, e67⟩ := field_at Tryz.underlying244 h 9 rfl 1 (by kernel_rfl)
  obtain ⟨azj, c68, _, wzj⟩ := DataW.trod_int Tryz.underlying3 e67
  obtain rfl : u19 = .int .i64 azj := by simpa using c68
  obtain ⟨_, _, e69⟩ := field_at Tryz.underlying244 h 10 rfl 1 (by kernel_rfl)
  obtain ⟨azk, c70, _⟩ := DataW.trod_bool Tryz.underlying4 e69
  obtain rfl : u20 = .bool azk := by simpa using c70
  obtain ⟨_, _, e71⟩ := field_at Tryz.underlying244 h 11 rfl 3 (by kernel_rfl)
  obtain ⟨_, _, e72⟩ := field_at Tryz.underlying242 e71 0 rfl 1 (by kernel_rfl)
  obtain ⟨azl0, c73, _⟩ := DataW.trod_bool Tryz.underlying4 e72
  obtain rfl : u21 = .bool azl0 := by simpa using c73
  obtain ⟨_, _, e74⟩ := field_at Tryz.underlying242 e71 1 rfl 1 (by kernel_rfl)
  obtain ⟨azl1, c75, _, wzl1⟩ := DataW.trod_string Tryz.underlying9 e74
  obtain rfl : u22 = .string azl1 := by simpa using c75
  obtain ⟨_, _, e76⟩ := field_at Tryz.underlying242 e71 2 rfl 1 (by kernel_rfl)
  obtain ⟨azl2, c77, _, wzl2⟩ := DataW.trod_int Tryz.underlying23 e76
  obtain rfl : u23 = .int .u32 azl2 := by simpa using c77
  obtain ⟨_, _, e78⟩ := field_at Tryz.underlying244 h 12 rfl 3 (by kernel_rfl)
  obtain ⟨_, _, e79⟩ := field_at Tryz.underlying242 e78 0 rfl 1 (by kernel_rfl)
  obtain ⟨azm0, c80, _⟩ := DataW.trod_bool Tryz.underlying4 e79
  obtain rfl : u24 = .bool azm0 := by simpa using c80
  obtain ⟨_, _, e81⟩ := field_at Tryz.underlying242 e78 1 rfl 1 (by kernel_rfl)
  obtain ⟨azm1, c82, _, wzm1⟩ := DataW.trod_string Tryz.underlying9 e81
  obtain rfl : u25 = .string azm1 := by simpa using c82
  obtain ⟨_, _, e83⟩ := field_at Tryz.underlying242 e78 2 rfl 1 (by kernel_rfl)
  obtain ⟨azm2, c84, _, wzm2⟩ := DataW.trod_int Tryz.underlying23 e83
  obtain rfl : u26 = .int .u32 azm2 := by simpa using c84
  obtain ⟨_, _, e85⟩ := field_at Tryz.underlying244 h 13 rfl 1 (by kernel_rfl)
  obtain ⟨azn, c86, _, wzn⟩ := DataW.trod_int Tryz.underlying3 e85
  obtain rfl : u27 = .int .i64 azn := by simpa using c86
  exact ⟨(aza, azb, azc, azd, aze, azf0, azf1, azf20, azf21, azf30, azf31, azg0, azg1, azg20, azg21, azg30, azg31, azh, azi, azj, azk, azl0, azl1, azl2, azm0, azm1, azm2, azn), rfl, ⟨wzd, wze, wzf1, wzf20, wzf21, wzf30, wzf31, wzg1, wzg20, wzg21, wzg30, wzg31, wzh, wzi, wzj, wzl1, wzl2, wzm1, wzm2, wzn⟩⟩

open Go.Proofs.YtkfhkhgiojpfoaaGreat.Tri Go.Proofs.YtkfhkhgiojpfoaaGreat.Rb Go.Proofs.YtkfhkhgiojpfoaaGreat.Fb Go.Proofs.YtkfhkhgiojpfoaaGreat.Rp

set_option maxHeartbeats 40000000 in
theorem walk (a00 : Option Addr) (len00 cap00 : Nat) (zs00 : List Elem44) (a01 : Option Addr) (len01 cap01 : Nat) (zs01 : List Elem42) (a02 : Option Addr) (len02 cap02 : Nat) (a03 : Option Addr) (len03 cap03 : Nat) (zs03 : List Elem244) (a04 : Int) (a05 : Int) (a1 : Int) (w : World) (row00 : IsRowG 5 cells44 ok44 w a00 len00 cap00 zs00) (row01 : IsRowG 2 cells42 ok42 w a01 len01 cap01 zs01) (row03 : IsRowG 28 cells244 ok244 w a03 len03 cap03 zs03) (w04 : (Lit.int .i64 a04).wf = true) (w05 : (Lit.int .i64 a05).wf = true) (w1 : (Lit.int .u32 a1).wf = true) (hsh : w.ShapedOpen Tryz.prog) :
    Calls Tryz.prog 5 #[.agg #[.slice a00 len00 cap00, .slice a01 len01 cap01, .slice a02 len02 cap02, .slice a03 len03 cap03, .int .i64 a04, .int .i64 a05], .int .u32 a1] w fun e w' => e = .returned (.bool true) ∧ Below w.heap.size w w' := by
  have rowI : IsRowG 5 ifE ifOk w a00 len00 cap00 zs00 := row00
  have rowP : IsRowG 2 pxE pxOk w a01 len01 cap01 zs01 := row01
  have hI := rdI_row rowI
  have hP := rdP_row rowP
  have hokI := okI_row rowI
  have hokP := okP_row rowP
  have kn := fun w => known_any w
  have cl := fun w => long_any a00 len00 cap00 a01 len01 cap01 a02 len02 cap02 a03 len03 cap03 a04 a05 w
  obtain ⟨s0, s1⟩ := bounds_u32 w1
  have HA : Hid (Ext w (w.alloc (.cells #[.slice a00 len00 cap00, .slice a01 len01 cap01, .slice a02 len02 cap02, .slice a03 len03 cap03, .int .i64 a04, .int .i64 a05] 38))) := (Ext.refl w).alloc _
  have HB : Hid _ := box_rtE (heap_new w (.cells #[.slice a00 len00 cap00, .slice a01 len01 cap01, .slice a02 len02 cap02, .slice a03 len03 cap03, .int .i64 a04, .int .i64 a05] 38))
  obtain ⟨b0, b1, b2, b3, b4, b5⟩ := HB.out
  cases hq : (decide (20 < (len00 : Int)) || decide (100 < (len01 : Int))) with
  | true =>
    rw [hq] at cl
    clear hq b0 b1 b2 b3 b4 b5 hI hP hokI hokP row00 row01 rowI rowP
    go_enter Tryz.func5, Tryz.ntmps5
    go_wp2_with (go_at_call 13; refine (cl _).mono ?_; rintro e w2 ⟨rfl, hx2⟩)
    go_ret
    exact ⟨rfl, (HA.out.trans hx2).below⟩
  | false =>
    have hn : len00 ≤ 1000000 ∧ len01 ≤ 1000000 := by
      rw [Bool.or_eq_false_iff, decide_eq_false_iff_not, decide_eq_false_iff_not] at hq
      omega
    have c1 := fun w' (hx : Ext w w') => source_any a00 len00 cap00 a01 len01 cap01 a02 len02 cap02 a03 len03 cap03 a04 a05 zs00 zs01 a1 w' (hI.ext hx) hokI hn.1 (hP.ext hx) hokP hn.2 s0 s1
    have c2 := fun w' (hx : Ext w w') => dsource_any a00 len00 cap00 a01 len01 cap01 a02 len02 cap02 a03 len03 cap03 a04 a05 zs00 zs01 a1 w' (hI.ext hx) hokI hn.1 (hP.ext hx) hokP hn.2 s0 s1
    have c3 := fun w' (hx : Ext w w') => own_any a00 len00 cap00 a01 len01 cap01 a02 len02 cap02 a03 len03 cap03 a04 a05 zs00 a1 w' (hI.ext hx) hn.1
    have c4 := fun w' (hx : Ext w w') => down_any a00 len00 cap00 a01 len01 cap01 a02 len02 cap02 a03 len03 cap03 a04 a05 zs00 a1 w' (hI.ext hx) hn.1
    have c5 := fun w' (hx : Ext w w') => broad_any a00 len00 cap00 a01 len01 cap01 a02 len02 cap02 a03 len03 cap03 a04 a05 zs00 a1 w' (hI.ext hx) hokI hn.1
    have c6 := fun w' (hx : Ext w w') => dbroad_any a00 len00 cap00 a01 len01 cap01 a02 len02 cap02 a03 len03 cap03 a04 a05 zs00 a1 w' (hI.ext hx) hokI hn.1
    rw [hq] at cl
    generalize sourceV zs00 zs01 a1 = y1 at *
    generalize ownV zs00 a1 = y2 at *
    generalize broadV zs00 a1 = y3 at *
    clear hq hI hP hokI hokP row00 row01 rowI rowP hn
    go_enter Tryz.func5, Tryz.ntmps5
    go_wp2_with (go_at_call 13; refine (cl _).mono ?_; rintro e w2 ⟨rfl, hx2⟩; have t0 := b0 _ hx2; have t1 := b1 _ hx2; have t2 := b2 _ hx2; have t3 := b3 _ hx2; have t4 := b4 _ hx2; have t5 := b5 _ hx2)
    refine wp_region_eager [(0, false), (1, false), (3, false), (4, false), (2, true), (5, true), (6, false), (7, false), (8, false), (9, false), (11, false), (12, false), (10, true), (13, true), (14, false), (15, false), (16, false), (17, false), (18, false), (20, false), (21, false), (19, true), (22, true), (23, false), (24, false), (25, false), (26, true), (27, false), (28, false)] (by kernel_rfl) (by kernel_rfl) rfl (by kernel_rfl) (fun _ _ _ _ _ h => h) ?_
    have hx0 : Ext w w2.drew := HA.out.trans hx2.drew
    have z0 := fun w' (h : Ext w2.drew w') => b0 w' (hx2.drew.trans h)
    have z1 := fun w' (h : Ext w2.drew w') => b1 w' (hx2.drew.trans h)
    have z2 := fun w' (h : Ext w2.drew w') => b2 w' (hx2.drew.trans h)
    have z3 := fun w' (h : Ext w2.drew w') => b3 w' (hx2.drew.trans h)
    have z4 := fun w' (h : Ext w2.drew w') => b4 w' (hx2.drew.trans h)
    have z5 := fun w' (h : Ext w2.drew w') => b5 w' (hx2.drew.trans h)
    clear b0 b1 b2 b3 b4 b5 t0 t1 t2 t3 t4 t5 HB
    generalize w2.drew = W at *
    iterate 4 (refine wpE_read (v := ?_) rfl (by rfl) ?_ ?_; rotate_left; (focus (intro w' hx; go_simp; first | done | with_reducible rfl)); simp only [Act.put, List.setIfInBounds_toArray, List.set_cons_zero, List.set_cons_succ])
    (refine wpE_call rfl (by rfl) (fun K hK => ?_); go_simp; first | (go_at_call 14; refine (c1 _ hx0).mono ?_; rintro e w1 ⟨rfl, hx1⟩; refine hK _ _ hx1 ?_; clear hK K; replace z0 := fun w' h => z0 w' (hx1.trans h); replace z1 := fun w' h => z1 w' (hx1.trans h); replace z2 := fun w' h => z2 w' (hx1.trans h); replace z3 := fun w' h => z3 w' (hx1.trans h); replace z4 := fun w' h => z4 w' (hx1.trans h); replace z5 := fun w' h => z5 w' (hx1.trans h); replace hx0 := hx0.trans hx1; clear hx1))
    (refine wpE_call rfl (by rfl) (fun K hK => ?_); go_simp; first | (go_at_call 15; refine (c2 _ hx0).mono ?_; rintro e w1 ⟨rfl, hx1⟩; refine hK _ _ hx1 ?_; clear hK K; replace z0 := fun w' h => z0 w' (hx1.trans h); replace z1 := fun w' h => z1 w' (hx1.trans h); replace z2 := fun w' h => z2 w' (hx1.trans h); replace z3 := fun w' h => z3 w' (hx1.trans h); replace z4 := fun w' h => z4 w' (hx1.trans h); replace z5 := fun w' h => z5 w' (hx1.trans h); replace hx0 := hx0.trans hx1; clear hx1))
    iterate 6 (refine wpE_read (v := ?_) rfl (by rfl) ?_ ?_; rotate_left; (focus (intro w' hx; go_simp; first | done | with_reducible rfl)); simp only [Act.put, List.setIfInBounds_toArray, List.set_cons_zero, List.set_cons_succ])
    (refine wpE_call rfl (by rfl) (fun K hK => ?_); go_simp; first | (go_at_call 16; refine (c3 _ hx0).mono ?_; rintro e w1 ⟨rfl, hx1⟩; refine hK _ _ hx1 ?_; clear hK K; replace z0 := fun w' h => z0 w' (hx1.trans h); replace z1 := fun w' h => z1 w' (hx1.trans h); replace z2 := fun w' h => z2 w' (hx1.trans h); replace z3 := fun w' h => z3 w' (hx1.trans h); replace z4 := fun w' h => z4 w' (hx1.trans h); replace z5 := fun w' h => z5 w' (hx1.trans h); replace hx0 := hx0.trans hx1; clear hx1))
    (refine wpE_call rfl (by rfl) (fun K hK => ?_); go_simp; first | (go_at_call 17; refine (c4 _ hx0).mono ?_; rintro e w1 ⟨rfl, hx1⟩; refine hK _ _ hx1 ?_; clear hK K; replace z0 := fun w' h => z0 w' (hx1.trans h); replace z1 := fun w' h => z1 w' (hx1.trans h); replace z2 := fun w' h => z2 w' (hx1.trans h); replace z3 := fun w' h => z3 w' (hx1.trans h); replace z4 := fun w' h => z4 w' (hx1.trans h); replace z5 := fun w' h => z5 w' (hx1.trans h); replace hx0 := hx0.trans hx1; clear hx1))
    iterate 7 (refine wpE_read (v := ?_) rfl (by rfl) ?_ ?_; rotate_left; (focus (intro w' hx; go_simp; first | done | with_reducible rfl)); simp only [Act.put, List.setIfInBounds_toArray, List.set_cons_zero, List.set_cons_succ])
    (refine wpE_call rfl (by rfl) (fun K hK => ?_); go_simp; first | (go_at_call 18; refine (c5 _ hx0).mono ?_; rintro e w1 ⟨rfl, hx1⟩; refine hK _ _ hx1 ?_; clear hK K; replace z0 := fun w' h => z0 w' (hx1.trans h); replace z1 := fun w' h => z1 w' (hx1.trans h); replace z2 := fun w' h => z2 w' (hx1.trans h); replace z3 := fun w' h => z3 w' (hx1.trans h); replace z4 := fun w' h => z4 w' (hx1.trans h); replace z5 := fun w' h => z5 w' (hx1.trans h); replace hx0 := hx0.trans hx1; clear hx1))
    (refine wpE_call rfl (by rfl) (fun K hK => ?_); go_simp; first | (go_at_call 19; refine (c6 _ hx0).mono ?_; rintro e w1 ⟨rfl, hx1⟩; refine hK _ _ hx1 ?_; clear hK K; replace z0 := fun w' h => z0 w' (hx1.trans h); replace z1 := fun w' h => z1 w' (hx1.trans h); replace z2 := fun w' h => z2 w' (hx1.trans h); replace z3 := fun w' h => z3 w' (hx1.trans h); replace z4 := fun w' h => z4 w' (hx1.trans h); replace z5 := fun w' h => z5 w' (hx1.trans h); replace hx0 := hx0.trans hx1; clear hx1))
    iterate 3 (refine wpE_read (v := ?_) rfl (by rfl) ?_ ?_; rotate_left; (focus (intro w' hx; go_simp; first | done | with_reducible rfl)); simp only [Act.put, List.setIfInBounds_toArray, List.set_cons_zero, List.set_cons_succ])
    (refine wpE_call rfl (by rfl) (fun K hK => ?_); go_simp; first | (go_at_call 12; refine (kn _).mono ?_; rintro e w1 ⟨rfl, hx1⟩; refine hK _ _ hx1 ?_; clear hK K; replace z0 := fun w' h => z0 w' (hx1.trans h); replace z1 := fun w' h => z1 w' (hx1.trans h); replace z2 := fun w' h => z2 w' (hx1.trans h); replace z3 := fun w' h => z3 w' (hx1.trans h); replace z4 := fun w' h => z4 w' (hx1.trans h); replace z5 := fun w' h => z5 w' (hx1.trans h); replace hx0 := hx0.trans hx1; clear hx1))
    iterate 2 (refine wpE_read (v := ?_) rfl (by rfl) ?_ ?_; rotate_left; (focus (intro w' hx; go_simp; first | done | with_reducible rfl)); simp only [Act.put, List.setIfInBounds_toArray, List.set_cons_zero, List.set_cons_succ])
    refine wpE_done ?_
    go_wp2_with fail
    go_ret
    exact ⟨rfl, hx0.below⟩

theorem contract (H : Type) (enc : TypeId × Value → H) (W : World) (base : Nat) (args : Array Value) (ds gs : List (DataW H)) (before : List MemPlace)
    (hval : ∀ (j : Nat) t v, Tryz.f5.params[j]? = some t → args[j]? = some v → Value.okWide Tryz.prog W .any base t v)
    (hW : DataW.Whole enc Tryz.prog Tryz.f5.params.toList Rows.rpfSourcesSpec.vars false W args.toList ds gs before) (hsh : W.ShapedOpen Tryz.prog) :
    Calls Tryz.prog 5 args W fun e W' => ∃ v, e = .returned v ∧ Rows.rpfSourcesSpec.post enc Tryz.prog Tryz.f5 false true false false W args v W' := by
  have hW' := hW
  obtain ⟨p, q, hA0, hV, rfl, hfz, hnd⟩ := hW
  have hA : DataW.TrodAll enc Tryz.prog W 0 (fun _ => true) true Tryz.f5.params.toList args.toList ds p := hA0
  rw [Tryz.params5] at hA hval
  obtain ⟨v0, vs0, d0, ds0, p0, q0, hargs, rfl, rfl, h0, r0⟩ := trodAll_cons hA
  obtain ⟨v1, vs1, d1, ds1, p1, q1, rfl, rfl, rfl, h1, r1⟩ := trodAll_cons r0
  obtain ⟨rfl, rfl, rfl⟩ := trodAll_nil r1
  obtain rfl : args = #[v0, v1] := by cases args; simp_all
  obtain ⟨rfl, rfl⟩ := trodVars_none hV
  have k0 := h0
  have lt0 : ∀ x ∈ p0, x.block < W.heap.size := by obtain ⟨m, hm⟩ := k0; exact DataW.trod_lt m _ _ _ hm
  obtain ⟨cs0, rfl, hs0⟩ := okWide_struct Tryz.underlying38 (hval 0 38 v0 rfl rfl)
  obtain ⟨u0a, u0b, u0c, u0d, u0e, u0f, rfl⟩ := arr6 (hs0.trans (by kernel_rfl))
  obtain ⟨fu0, hf0⟩ := h0
  obtain ⟨_, _, e1⟩ := field_at Tryz.underlying38 hf0 0 rfl 1 (by kernel_rfl)
  obtain ⟨a00, len00, cap00, zs00, c13, row00⟩ := open_rowG 5 cells44 ok44 (by omega) cells44_length Tryz.underlying33 (by kernel_rfl) elem44 e1
  obtain rfl : u0a = .slice a00 len00 cap00 := by simpa [Value.cells] using c13
  obtain ⟨_, _, e14⟩ := field_at Tryz.underlying38 hf0 1 rfl 1 (by kernel_rfl)
  obtain ⟨a01, len01, cap01, zs01, c19, row01⟩ := open_rowG 2 cells42 ok42 (by omega) cells42_length Tryz.underlying34 (by kernel_rfl) elem42 e14
  obtain rfl : u0b = .slice a01 len01 cap01 := by simpa [Value.cells] using c19
  obtain ⟨_, _, e20⟩ := field_at Tryz.underlying38 hf0 2 rfl 1 (by kernel_rfl)
  obtain ⟨a02, len02, cap02, c21⟩ := open_sliceA Tryz.underlying35 e20
  obtain rfl : u0c = .slice a02 len02 cap02 := by simpa [Value.cells] using c21
  obtain ⟨_, _, e22⟩ := field_at Tryz.underlying38 hf0 3 rfl 1 (by kernel_rfl)
  obtain ⟨a03, len03, cap03, zs03, c87, row03⟩ := open_rowG 28 cells244 ok244 (by omega) cells244_length Tryz.underlying36 (by kernel_rfl) elem244 e22
  obtain rfl : u0d = .slice a03 len03 cap03 := by simpa [Value.cells] using c87
  obtain ⟨_, _, e88⟩ := field_at Tryz.underlying38 hf0 4 rfl 1 (by kernel_rfl)
  obtain ⟨a04, c89, _, w04⟩ := DataW.trod_int Tryz.underlying3 e88
  obtain rfl : u0e = .int .i64 a04 := by simpa [Value.cells] using c89
  obtain ⟨_, _, e90⟩ := field_at Tryz.underlying38 hf0 5 rfl 1 (by kernel_rfl)
  obtain ⟨a05, c91, _, w05⟩ := DataW.trod_int Tryz.underlying3 e90
  obtain rfl : u0f = .int .i64 a05 := by simpa [Value.cells] using c91
  obtain ⟨a1, rfl, rfl, rfl, w1⟩ := open_int Tryz.underlying23 (hval 1 23 v1 rfl rfl) h1
  clear hA0
  refine (walk a00 len00 cap00 zs00 a01 len01 cap01 zs01 a02 len02 cap02 a03 len03 cap03 zs03 a04 a05 a1 W row00 row01 row03 w04 w05 w1 hsh).mono fun e W' ⟨he, bel⟩ => ?_
  subst he
  exact ⟨_, rfl, _, _, _, [], _, [], hW', trodAll_mk1 (shut_bool Tryz.underlying4 _), (trodAll_cons_mk (Below.trod laidOut (by kernel_rfl) (of_decide_eq_true (by kernel_rfl)) k0 bel lt0) (trodAll_cons_mk (shut_int Tryz.underlying23 w1) trodAll_mk0)), rfl, bel.frame _, fun h => by cases h⟩

theorem laid_met (os : Os) : laidMet Tryz.prog Rows.rpfSourcesRow.laid ((World.doorLaid Tryz.prog 24 os).forCall (fun _ _ => 0) ⟨#[], #[.agg #[.slice none 0 0, .slice none 0 0, .slice none 0 0, .slice none 0 0, .int .i64 0, .int .i64 0], .int .u32 0], []⟩).memory :=
  laidMet_of_run' 8 (by kernel_rfl) (by kernel_rfl)
theorem reads (os : Os) {H : Type} (enc : TypeId × Value → H) : ∃ places, DataW.whole enc Tryz.prog ((World.doorLaid Tryz.prog 24 os).forCall (fun _ _ => 0) ⟨#[], #[.agg #[.slice none 0 0, .slice none 0 0, .slice none 0 0, .slice none 0 0, .int .i64 0, .int .i64 0], .int .u32 0], []⟩).memory Tryz.f5.params.toList Rows.rpfSourcesSpec.vars false (#[.agg #[.slice none 0 0, .slice none 0 0, .slice none 0 0, .slice none 0 0, .int .i64 0, .int .i64 0], .int .u32 0] : Array Value).toList 8 = some ([.agg [.nil, .nil, .nil, .nil, .lit (.int .i64 0), .lit (.int .i64 0)], .lit (.int .u32 0)], [], places) :=
  ⟨[], by kernel_rfl⟩

set_option maxRecDepth 100000 in
theorem lifted (os : Os) (started : os.Started) (H : Type) (enc : TypeId × Value → H) (F : Stop.Interp) :
    ReturnsInHanded {} Tryz.checked os 5 .any ((OpenSpec.ofChange Rows.rpfSourcesSpec).preRow enc Tryz.prog Tryz.f5 Rows.rpfSourcesRow.domain false Rows.rpfSourcesRow.laid) (((OpenSpec.ofChange Rows.rpfSourcesSpec).at F).post enc Tryz.prog Tryz.f5 false true false false) := by
  obtain ⟨places, hx⟩ := reads os enc
  refine returnsInHanded_of_row (C := Tryz.checked) (s := (OpenSpec.ofChange Rows.rpfSourcesSpec)) own started (by kernel_rfl) Tryz.func5
    (witness_row_at (enc := enc) (C := Tryz.checked) false (World.doorLaid Tryz.prog 24 os) #[.agg #[.slice none 0 0, .slice none 0 0, .slice none 0 0, .slice none 0 0, .int .i64 0, .int .i64 0], .int .u32 0] rfl (by kernel_rfl) (by kernel_rfl) (by kernel_rfl)
      (OpenSpec.preRow_of_cond 8 hx (by kernel_rfl) (fun k hk => by cases hk) (by kernel_rfl) (laid_met os))) ?_
  intro W base args ds gs before hval hW _ hcond _ hL hsh _
  exact contract H enc W base args ds gs before hval hW hsh

theorem said : Rows.RpfSourcesSaid :=
  OpenClaim.holds_of_cond 5 Tryz.f5 rfl rfl rfl rfl rfl rfl rfl ⟨rfl, rfl, rfl, rfl, rfl⟩ rfl rfl rfl rfl rfl (by kernel_rfl) Tryz.func5 (by kernel_rfl)
    (of_decide_eq_true (by kernel_rfl)) (by unfold Func.isWrapper; first | (rw [if_pos (by decide +kernel)]; kernel_rfl) | (rw [if_neg (by decide +kernel)]; exact ⟨rfl, rfl⟩))
    (fun os started H enc _ F => by rw [OpenClaim.pre_eq_preRow]; exact lifted os started H enc F)

end Go.Proofs.YtkfhkhgiojpfoaaGreat.rpfSources

namespace Go.Proofs.YtkfhkhgiojpfoaaGreat
theorem rpfSources_holds : Rows.RpfSourcesSaid := rpfSources.said
#print axioms rpfSources_holds
end Go.Proofs.YtkfhkhgiojpfoaaGreat
