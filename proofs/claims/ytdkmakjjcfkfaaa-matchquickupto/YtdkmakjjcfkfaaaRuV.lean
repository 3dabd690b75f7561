/- A rule's value, plainly: its parts and its cells. -/
import Derived.Test.YtdkmakjjcfkfaaaPlain
namespace Go.Proofs.Ytdkmakjjcfkfaaa.Ru
open Go.RowKit
set_option linter.unusedVariables false

structure SideV where
  any : Bool
  table : ByteArray
  a : Int
  n : Int
  low : Int
  high : Int
deriving DecidableEq

structure PinV where
  on : Bool
  iface : ByteArray
  gate : Int
deriving DecidableEq

structure RuleV where
  pass : Bool
  ret : Bool
  quick : Bool
  on : ByteArray
  proto : Int
  src : SideV
  dst : SideV
  set : Int
  mask : Int
  type : Int
  keep : Bool
  rt : PinV
  rp : PinV
  table : Int
deriving DecidableEq

def sideL (s : SideV) : List Value := [.bool s.any, .string s.table, .int .u32 s.a, .int .i64 s.n, .int .i64 s.low, .int .i64 s.high]
def pinL (p : PinV) : List Value := [.bool p.on, .string p.iface, .int .u32 p.gate]

def sideX (s : SideV) : Array Value := #[.bool s.any, .string s.table, .int .u32 s.a, .int .i64 s.n, .int .i64 s.low, .int .i64 s.high]
def pinX (p : PinV) : Array Value := #[.bool p.on, .string p.iface, .int .u32 p.gate]
def ruleX (r : RuleV) : Array Value := #[.bool r.pass, .bool r.ret, .bool r.quick, .string r.on, .int .i64 r.proto, .bool r.src.any, .string r.src.table, .int .u32 r.src.a, .int .i64 r.src.n, .int .i64 r.src.low, .int .i64 r.src.high, .bool r.dst.any, .string r.dst.table, .int .u32 r.dst.a, .int .i64 r.dst.n, .int .i64 r.dst.low, .int .i64 r.dst.high, .int .i64 r.set, .int .i64 r.mask, .int .i64 r.type, .bool r.keep, .bool r.rt.on, .string r.rt.iface, .int .u32 r.rt.gate, .bool r.rp.on, .string r.rp.iface, .int .u32 r.rp.gate, .int .i64 r.table]

end Go.Proofs.Ytdkmakjjcfkfaaa.Ru
