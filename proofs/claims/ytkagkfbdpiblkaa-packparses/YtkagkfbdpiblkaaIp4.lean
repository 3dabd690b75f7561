/- What ip.fits, ip.flags and the document's own Is answer of any packet (chapter 4). -/
import Derived.Test.YtkagkfbdpiblkaaIp3
namespace Go.Proofs.Ytkagkfbdpiblkaa
open Go.RowKit
set_option linter.unusedVariables false

/-- May a packet be built, but for its length? -/
def isV (p : IPv) : Bool :=
  decide (0 ≤ p.tos ∧ p.tos ≤ 255 ∧ 0 ≤ p.ttl ∧ p.ttl ≤ 255 ∧ 0 ≤ p.proto ∧ p.proto ≤ 255 ∧ 0 ≤ p.id ∧ p.id ≤ 65535 ∧ 0 ≤ p.off ∧ p.off ≤ 8191 ∧ p.opts.length % 4 = 0 ∧ p.opts.length ≤ 40)

set_option maxHeartbeats 4000000 in
theorem refIs_any (p : IPv) (a1 : Option Addr) (n1 c1 : Nat) (a2 : Option Addr) (n2 c2 : Nat) (w : World) (h1 : p.opts.length = n1) (hn : n1 ≤ 9223372036854775807) :
    Calls Try.prog 20 #[.agg #[.int .i64 p.tos, .int .i64 p.id, .bool p.df, .bool p.mf, .int .i64 p.off, .int .i64 p.ttl, .int .i64 p.proto, .int .u32 p.src, .int .u32 p.dst, .slice a1 n1 c1, .slice a2 n2 c2]] w fun e w' => e = .returned (.bool (isV p)) ∧ Ext w w' := by
  obtain ⟨p0, p1, p2, p3, p4, p5, p6, p7, p8, p9, pa⟩ := p
  dsimp only at *
  have hx : Ext w (w.alloc (.cells #[.int .i64 p0, .int .i64 p1, .bool p2, .bool p3, .int .i64 p4, .int .i64 p5, .int .i64 p6, .int .u32 p7, .int .u32 p8, .slice a1 n1 c1, .slice a2 n2 c2] 25)) := (Ext.refl w).alloc _
  have e : isV ⟨p0, p1, p2, p3, p4, p5, p6, p7, p8, p9, pa⟩ = decide (0 ≤ p0 ∧ p0 ≤ 255 ∧ 0 ≤ p5 ∧ p5 ≤ 255 ∧ 0 ≤ p6 ∧ p6 ≤ 255 ∧ 0 ≤ p1 ∧ p1 ≤ 65535 ∧ 0 ≤ p4 ∧ p4 ≤ 8191 ∧ n1 % 4 = 0 ∧ n1 ≤ 40) := by unfold isV; rw [h1]
  rw [e]
  clear e h1
  obtain ⟨R, hR⟩ : ∃ R, decide (0 ≤ p0 ∧ p0 ≤ 255 ∧ 0 ≤ p5 ∧ p5 ≤ 255 ∧ 0 ≤ p6 ∧ p6 ≤ 255 ∧ 0 ≤ p1 ∧ p1 ≤ 65535 ∧ 0 ≤ p4 ∧ p4 ≤ 8191 ∧ n1 % 4 = 0 ∧ n1 ≤ 40) = R := ⟨_, rfl⟩
  rw [hR]
  have HR : Hid _ := hR
  clear hR
  go_enter Try.func20, Try.ntmps20
  go_wp2
  all_goals
    go_ret
    refine ⟨congrArg (fun b => Ending.returned (Value.bool b)) (?_ : _ = R), hx⟩
    rw [← HR.out]
    first
      | (symm; rw [decide_eq_false_iff_not]; omega)
      | (rw [decide_eq_decide]; omega)

/-- The bits above Off. -/
def flagV (d m : Bool) : Int := (if d = true then 16384 else 0) + (if m = true then 8192 else 0)

end Go.Proofs.Ytkagkfbdpiblkaa
