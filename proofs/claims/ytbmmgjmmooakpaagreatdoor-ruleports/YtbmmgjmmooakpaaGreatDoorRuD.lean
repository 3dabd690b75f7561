/- What a reading of a rule answers. -/
import Derived.Test.YtbmmgjmmooakpaaGreatDoorRuP5
namespace Go.Proofs.YtbmmgjmmooakpaaGreatDoor.Ru
open Go.RowKit
set_option linter.unusedVariables false
set_option maxRecDepth 100000

/-- What Parse answers. -/
def parseRE (s : ByteArray) : Ending := match parseR s with
  | some r => .returned (.tuple #[(.agg #[.bool r.pass, .bool r.ret, .bool r.quick, .string r.on, .int .i64 r.proto, .bool r.src.any, .string r.src.table, .int .u32 r.src.a, .int .i64 r.src.n, .int .i64 r.src.low, .int .i64 r.src.high, .bool r.dst.any, .string r.dst.table, .int .u32 r.dst.a, .int .i64 r.dst.n, .int .i64 r.dst.low, .int .i64 r.dst.high, .int .i64 r.set, .int .i64 r.mask, .int .i64 r.type, .bool r.keep, .bool r.rt.on, .string r.rt.iface, .int .u32 r.rt.gate, .bool r.rp.on, .string r.rp.iface, .int .u32 r.rp.gate, .int .i64 r.table]), .int .i64 0])
  | none => .returned (.tuple #[(.agg #[.bool rule0.pass, .bool rule0.ret, .bool rule0.quick, .string rule0.on, .int .i64 rule0.proto, .bool rule0.src.any, .string rule0.src.table, .int .u32 rule0.src.a, .int .i64 rule0.src.n, .int .i64 rule0.src.low, .int .i64 rule0.src.high, .bool rule0.dst.any, .string rule0.dst.table, .int .u32 rule0.dst.a, .int .i64 rule0.dst.n, .int .i64 rule0.dst.low, .int .i64 rule0.dst.high, .int .i64 rule0.set, .int .i64 rule0.mask, .int .i64 rule0.type, .bool rule0.keep, .bool rule0.rt.on, .string rule0.rt.iface, .int .u32 rule0.rt.gate, .bool rule0.rp.on, .string rule0.rp.iface, .int .u32 rule0.rp.gate, .int .i64 rule0.table]), .int .i64 2])

theorem parseRE_none {s : ByteArray} (h : parseR s = none) : parseRE s = .returned (.tuple #[(.agg #[.bool rule0.pass, .bool rule0.ret, .bool rule0.quick, .string rule0.on, .int .i64 rule0.proto, .bool rule0.src.any, .string rule0.src.table, .int .u32 rule0.src.a, .int .i64 rule0.src.n, .int .i64 rule0.src.low, .int .i64 rule0.src.high, .bool rule0.dst.any, .string rule0.dst.table, .int .u32 rule0.dst.a, .int .i64 rule0.dst.n, .int .i64 rule0.dst.low, .int .i64 rule0.dst.high, .int .i64 rule0.set, .int .i64 rule0.mask, .int .i64 rule0.type, .bool rule0.keep, .bool rule0.rt.on, .string rule0.rt.iface, .int .u32 rule0.rt.gate, .bool rule0.rp.on, .string rule0.rp.iface, .int .u32 rule0.rp.gate, .int .i64 rule0.table]), .int .i64 2]) := by unfold parseRE; rw [h]
theorem parseRE_some {s : ByteArray} {r : RuleV} (h : parseR s = some r) : parseRE s = .returned (.tuple #[(.agg #[.bool r.pass, .bool r.ret, .bool r.quick, .string r.on, .int .i64 r.proto, .bool r.src.any, .string r.src.table, .int .u32 r.src.a, .int .i64 r.src.n, .int .i64 r.src.low, .int .i64 r.src.high, .bool r.dst.any, .string r.dst.table, .int .u32 r.dst.a, .int .i64 r.dst.n, .int .i64 r.dst.low, .int .i64 r.dst.high, .int .i64 r.set, .int .i64 r.mask, .int .i64 r.type, .bool r.keep, .bool r.rt.on, .string r.rt.iface, .int .u32 r.rt.gate, .bool r.rp.on, .string r.rp.iface, .int .u32 r.rp.gate, .int .i64 r.table]), .int .i64 0]) := by unfold parseRE; rw [h]

theorem parseR_bad {s : ByteArray} (h : sRule true (wordsB s) = none) : parseR s = none := by unfold parseR; rw [h]
theorem parseR_more {s : ByteArray} {r : RuleV} {L : WL} (h : sRule true (wordsB s) = some (r, L)) (hL : L ≠ []) : parseR s = none := by
  unfold parseR; rw [h]
  cases L with
  | nil => exact absurd rfl hL
  | cons => rfl
theorem parseR_all {s : ByteArray} {r : RuleV} (h : sRule true (wordsB s) = some (r, [])) : parseR s = if isR r = true then some r else none := by unfold parseR; rw [h]
end Go.Proofs.YtbmmgjmmooakpaaGreatDoor.Ru
