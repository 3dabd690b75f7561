/- Plain: a rule, its cells, and whether it may be. -/
import Derived.Test.YtbmmgjmmooakpaaGreatDoorRuP1
import Derived.Test.YtbmmgjmmooakpaaGreatDoorParseX
namespace Go.Proofs.YtbmmgjmmooakpaaGreatDoor.Ru
open Go.RowKit
set_option linter.unusedVariables false

structure SideV where
  any : Bool
  table : ByteArray
  a : Int
  n : Int
  low : Int
  high : Int
deriving DecidableEq

structure PinV where
  on : Bool
  iface : ByteArray
  gate : Int
deriving DecidableEq

structure RuleV where
  pass : Bool
  ret : Bool
  quick : Bool
  on : ByteArray
  proto : Int
  src : SideV
  dst : SideV
  set : Int
  mask : Int
  type : Int
  keep : Bool
  rt : PinV
  rp : PinV
  table : Int
deriving DecidableEq

def sideL (s : SideV) : List Value := [.bool s.any, .string s.table, .int .u32 s.a, .int .i64 s.n, .int .i64 s.low, .int .i64 s.high]
def pinL (p : PinV) : List Value := [.bool p.on, .string p.iface, .int .u32 p.gate]

def sideX (s : SideV) : Array Value := #[.bool s.any, .string s.table, .int .u32 s.a, .int .i64 s.n, .int .i64 s.low, .int .i64 s.high]
def pinX (p : PinV) : Array Value := #[.bool p.on, .string p.iface, .int .u32 p.gate]
def ruleX (r : RuleV) : Array Value := #[.bool r.pass, .bool r.ret, .bool r.quick, .string r.on, .int .i64 r.proto, .bool r.src.any, .string r.src.table, .int .u32 r.src.a, .int .i64 r.src.n, .int .i64 r.src.low, .int .i64 r.src.high, .bool r.dst.any, .string r.dst.table, .int .u32 r.dst.a, .int .i64 r.dst.n, .int .i64 r.dst.low, .int .i64 r.dst.high, .int .i64 r.set, .int .i64 r.mask, .int .i64 r.type, .bool r.keep, .bool r.rt.on, .string r.rt.iface, .int .u32 r.rt.gate, .bool r.rp.on, .string r.rp.iface, .int .u32 r.rp.gate, .int .i64 r.table]

/-- What came in: texts that can be, addresses of 32 bits. -/
structure SideOk (s : SideV) : Prop where
  table : s.table.size ≤ 9223372036854775807
  a0 : 0 ≤ s.a
  a1 : s.a ≤ 4294967295

structure PinOk (p : PinV) : Prop where
  iface : p.iface.size ≤ 9223372036854775807
  g0 : 0 ≤ p.gate
  g1 : p.gate ≤ 4294967295

structure RuleOk (r : RuleV) : Prop where
  on : r.on.size ≤ 9223372036854775807
  s0 : -9223372036854775808 ≤ r.set
  s1 : r.set ≤ 9223372036854775807
  src : SideOk r.src
  dst : SideOk r.dst
  rt : PinOk r.rt
  rp : PinOk r.rp

def inB (n low high : Int) : Bool := decide (low ≤ n) && decide (n ≤ high)

def actionB (r : RuleV) : Bool := if r.pass then !r.ret else !r.keep && (!r.rt.on && (!r.rp.on && (r.table == 0)))

def nothingB (s : SideV) : Bool := s.a == 0 && s.n == 0

def endB (s : SideV) : Bool :=
  if s.any then decide (s.table = txt []) && nothingB s
  else if s.table = txt [] then isV s.a s.n
  else nameB s.table && nothingB s

def portsB (s : SideV) : Bool := inB s.low 0 65535 && inB s.high s.low 65535

def allB (s : SideV) : Bool := s.low == 0 && s.high == 65535

def sideB (s : SideV) (proto : Int) : Bool := endB s && (portsB s && (allB s || (proto == 6 || proto == 17)))

/-- set &^ mask is 0. -/
def andNot (x y : Int) : Int := bits .andNot .i64 x y

/-- A number without a bit that mask has not is small, as mask is. -/
theorem andNot_small (s m : Int) (s0 : -9223372036854775808 ≤ s) (s1 : s ≤ 9223372036854775807) (m0 : 0 ≤ m) (m1 : m ≤ 63) (h : andNot s m = 0) : 0 ≤ s ∧ s ≤ m := by
  have hn : ∀ n : Nat, n < 18446744073709551616 → IntKind.i64.wrap (n : Int) = 0 → n = 0 := by
    intro n h1 h2
    rw [IntKind.wrap_i64] at h2
    omega
  have h1 : (BitVec.ofInt 64 s &&& ~~~BitVec.ofInt 64 m).toNat = 0 := by
    apply hn _ (BitVec.isLt _)
    exact h
  have h2 : BitVec.ofInt 64 s &&& ~~~BitVec.ofInt 64 m = 0#64 := BitVec.eq_of_toNat_eq (by rw [h1]; rfl)
  have h3 : BitVec.ofInt 64 s = BitVec.ofInt 64 s &&& BitVec.ofInt 64 m := by
    apply BitVec.eq_of_getLsbD_eq
    intro i hi
    have h4 := congrArg (fun x => BitVec.getLsbD x i) h2
    simp only [BitVec.getLsbD_and, BitVec.getLsbD_not, BitVec.getLsbD_zero, hi, decide_true, Bool.true_and] at h4 ⊢
    cases hx : (BitVec.ofInt 64 s).getLsbD i <;> cases hm : (BitVec.ofInt 64 m).getLsbD i <;> simp_all
  have h5 : (BitVec.ofInt 64 s).toNat ≤ (BitVec.ofInt 64 m).toNat := by
    rw [h3, BitVec.toNat_and]; exact Nat.and_le_right
  rw [BitVec.toNat_ofInt, BitVec.toNat_ofInt] at h5
  omega

def flagsB (r : RuleV) : Bool := if r.proto = 6 then inB r.mask 0 63 && andNot r.set r.mask == 0 else r.set == 0 && r.mask == 0

def typeB (r : RuleV) : Bool := r.type == -1 || (r.proto == 1 && inB r.type 0 255)

def pinB (p : PinV) : Bool := if p.on then nameB p.iface else decide (p.iface = txt []) && p.gate == 0

def isR (r : RuleV) : Bool :=
  actionB r && ((decide (r.on = txt []) || nameB r.on) && (inB r.proto 0 255 && (sideB r.src r.proto && (sideB r.dst r.proto && (flagsB r && (typeB r && (pinB r.rt && (pinB r.rp && inB r.table 0 3))))))))

def sideQ (a b : SideV) : Bool := a.any == b.any && (decide (a.table = b.table) && ((a.a == b.a && a.n == b.n) && (a.low == b.low && a.high == b.high)))
def pinQ (a b : PinV) : Bool := a.on == b.on && (decide (a.iface = b.iface) && a.gate == b.gate)
def ruleQ (a b : RuleV) : Bool :=
  a.pass == b.pass && (a.ret == b.ret && (a.quick == b.quick && (decide (a.on = b.on) && (a.proto == b.proto && (sideQ a.src b.src && (sideQ a.dst b.dst && (a.set == b.set && (a.mask == b.mask && (a.type == b.type && (a.keep == b.keep && (pinQ a.rt b.rt && (pinQ a.rp b.rp && a.table == b.table))))))))))))

theorem ruleQ_refl (a : RuleV) : ruleQ a a = true := by simp [ruleQ, sideQ, pinQ]

theorem ruleQ_eq {a b : RuleV} (h : a = b) : ruleQ a b = true := by rw [h]; exact ruleQ_refl b

/-- No side, no pin, no rule. -/
def side0 : SideV := ⟨false, txt [], 0, 0, 0, 0⟩
def pin0 : PinV := ⟨false, txt [], 0⟩
def rule0 : RuleV := ⟨false, false, false, txt [], 0, side0, side0, 0, 0, 0, false, pin0, pin0, 0⟩

theorem size0 {s : ByteArray} : s = txt [] ↔ s.size = 0 := by
  constructor
  · intro h; rw [h, txt_size]; rfl
  · intro h
    apply list_inj
    rw [list_txt]
    exact List.eq_nil_of_length_eq_zero (by rw [text_len]; exact h)
end Go.Proofs.YtbmmgjmmooakpaaGreatDoor.Ru
