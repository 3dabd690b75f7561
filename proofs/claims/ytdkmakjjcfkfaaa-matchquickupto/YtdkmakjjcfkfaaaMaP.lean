/- Which rule (chapter 15), plainly. -/
import Derived.Test.YtdkmakjjcfkfaaaRuV
import Derived.Test.YtdkmakjjcfkfaaaAddrP
namespace Go.Proofs.Ytdkmakjjcfkfaaa.Ma
open Go.RowKit Go.Proofs.Ytdkmakjjcfkfaaa Go.Proofs.Ytdkmakjjcfkfaaa.Ru
set_option linter.unusedVariables false

/-- What is looked at of a packet, cell by cell. -/
structure PkV where
  tos : Int
  id : Int
  df : Bool
  mf : Bool
  off : Int
  ttl : Int
  proto : Int
  sa : Int
  da : Int
  o : Option Addr
  on : Nat
  oc : Nat
  d : Option Addr
  dn : Nat
  dc : Nat
  cls : Int
  sp : Int
  dp : Int
  flags : Int
  type : Int
  code : Int
  k : Option Addr

def pkL (p : PkV) : List Value := [.int .i64 p.tos, .int .i64 p.id, .bool p.df, .bool p.mf, .int .i64 p.off, .int .i64 p.ttl, .int .i64 p.proto, .int .u32 p.sa, .int .u32 p.da, .slice p.o p.on p.oc, .slice p.d p.dn p.dc, .int .i64 p.cls, .int .i64 p.sp, .int .i64 p.dp, .int .i64 p.flags, .int .i64 p.type, .int .i64 p.code, .pointer p.k]

abbrev PX := Int × Int
def pxL (x : PX) : List Value := [.int .u32 x.1, .int .i64 x.2]

/-- A table: its name, and its prefixes. -/
structure NmV where
  name : ByteArray
  a : Option Addr
  n : Nat
  c : Nat
  L : List PX

def nmL (z : NmV) : List Value := [.string z.name, .slice z.a z.n z.c]

def ruleL (r : RuleV) : List Value := [.bool r.pass, .bool r.ret, .bool r.quick, .string r.on, .int .i64 r.proto, .bool r.src.any, .string r.src.table, .int .u32 r.src.a, .int .i64 r.src.n, .int .i64 r.src.low, .int .i64 r.src.high, .bool r.dst.any, .string r.dst.table, .int .u32 r.dst.a, .int .i64 r.dst.n, .int .i64 r.dst.low, .int .i64 r.dst.high, .int .i64 r.set, .int .i64 r.mask, .int .i64 r.type, .bool r.keep, .bool r.rt.on, .string r.rt.iface, .int .u32 r.rt.gate, .bool r.rp.on, .string r.rp.iface, .int .u32 r.rp.gate, .int .i64 r.table]

theorem pkL_len (p : PkV) : (pkL p).length = 18 := rfl
theorem pxL_len (x : PX) : (pxL x).length = 2 := rfl
theorem nmL_len (z : NmV) : (nmL z).length = 2 := rfl
theorem ruleL_len (r : RuleV) : (ruleL r).length = 28 := rfl
theorem sideL_len (s : SideV) : (sideL s).length = 6 := rfl

/-- An address is one of these. -/
def anyV (L : List PX) (a : Int) : Bool := L.any fun x => hasV x.1 x.2 a

def isT (name : ByteArray) (z : NmV) : Bool := z.name.toList == name.toList

/-- The first table of a name has an address. -/
def inT (T : List NmV) (name : ByteArray) (a : Int) : Bool := match T.find? (isT name) with | none => false | some z => anyV z.L a

def meantV (s : SideV) (T : List NmV) (a : Int) : Bool := s.any || if s.table.toList == [] then hasV s.a s.n a else inT T s.table a

def sideV (s : SideV) (T : List NmV) (a port : Int) : Bool := decide (s.low ≤ port) && decide (port ≤ s.high) && meantV s T a

def portV (p : PkV) (n : Int) : Int := if p.proto == 6 || p.proto == 17 then n else 0

def onV (r : RuleV) (iface : ByteArray) : Bool := r.on.toList == [] || r.on.toList == iface.toList
def protoV (r : RuleV) (p : PkV) : Bool := r.proto == 0 || r.proto == p.proto
def flagV (r : RuleV) (p : PkV) : Bool := r.mask == 0 || bits .and .i64 p.flags r.mask == r.set
def typeV (r : RuleV) (p : PkV) : Bool := r.type == -1 || r.type == p.type

/-- A rule means a packet. -/
def oneV (r : RuleV) (T : List NmV) (iface : ByteArray) (p : PkV) : Bool :=
  onV r iface && protoV r p && flagV r p && typeV r p && sideV r.src T p.sa (portV p p.sp) && sideV r.dst T p.da (portV p p.dp)

/-- The rule that decides, from the place i on: so far it is `last`. -/
def lastK (f : RuleV → Bool) : List RuleV → Int → Nat → Int
  | [], last, _ => last
  | r :: L, last, i => if f r then if r.quick then (i : Int) else lastK f L (i : Int) (i + 1) else lastK f L last (i + 1)

def lastV (f : RuleV → Bool) (L : List RuleV) : Int := lastK f L (-1) 0

/-- What came in: addresses of 32 bits. -/
structure RuOk (r : RuleV) : Prop where
  s0 : 0 ≤ r.src.a
  s1 : r.src.a ≤ 4294967295
  d0 : 0 ≤ r.dst.a
  d1 : r.dst.a ≤ 4294967295

structure PkOk (p : PkV) : Prop where
  s0 : 0 ≤ p.sa
  s1 : p.sa ≤ 4294967295
  d0 : 0 ≤ p.da
  d1 : p.da ≤ 4294967295

def PxOk (L : List PX) : Prop := ∀ x ∈ L, 0 ≤ x.1 ∧ x.1 ≤ 4294967295

theorem lastK_at {f : RuleV → Bool} {L : List RuleV} {k : Nat} {r : RuleV} (h : L[k]? = some r) (last : Int) (i : Nat) :
    lastK f (L.drop k) last i = if f r then if r.quick then (i : Int) else lastK f (L.drop (k + 1)) (i : Int) (i + 1) else lastK f (L.drop (k + 1)) last (i + 1) := by
  obtain ⟨hk, rfl⟩ := List.getElem?_eq_some_iff.1 h
  rw [List.drop_eq_getElem_cons hk]
  rfl

theorem lastK_end {f : RuleV → Bool} {L : List RuleV} {k : Nat} (h : L.length ≤ k) (last : Int) (i : Nat) : lastK f (L.drop k) last i = last := by
  rw [List.drop_eq_nil_of_le h]; rfl
end Go.Proofs.Ytdkmakjjcfkfaaa.Ma
