/- What tcp.fits, law 5's long and the document's own Is answer of any segment (chapter 5). -/
import Derived.Test.YtkagkfbdpiblkaaTcpP
import Derived.Test.YtkagkfbdpiblkaaBoxSeg
namespace Go.Proofs.Ytkagkfbdpiblkaa.Tcp
open Go.RowKit
set_option linter.unusedVariables false

theorem half_any (n : Int) (w : World) : Calls Try.prog 40 #[.int .i64 n] w fun e w' => e = .returned (.bool (decide (0 ≤ n ∧ n ≤ 65535))) ∧ w' = w := by
  by_cases h : 0 ≤ n
  · rw [show decide (0 ≤ n ∧ n ≤ 65535) = decide (n ≤ 65535) by simp [h]]
    go_enter Try.func40, Try.ntmps40
    go_wp2
    go_ret
    exact ⟨rfl, rfl⟩
  · rw [show decide (0 ≤ n ∧ n ≤ 65535) = false by simp [h]]
    go_enter Try.func40, Try.ntmps40
    go_wp2
    go_ret
    exact ⟨rfl, rfl⟩

set_option maxHeartbeats 4000000 in
theorem refIs_any (p : SEGv) (a1 : Option Addr) (n1 c1 : Nat) (a2 : Option Addr) (n2 c2 : Nat) (w : World) (h1 : p.opts.length = n1) (h2 : p.data.length = n2) (hn : n1 ≤ 140737488355328) (hm : n2 ≤ 140737488355328) :
    Calls Try.prog 24 #[.agg #[.int .i64 p.src, .int .i64 p.dst, .int .u32 p.seq, .int .u32 p.ack, .int .i64 p.flags, .int .i64 p.win, .int .i64 p.urg, .slice a1 n1 c1, .slice a2 n2 c2]] w fun e w' => e = .returned (.bool (isV p)) ∧ Ext w w' := by
  obtain ⟨p0, p1, p2, p3, p4, p5, p6, p7, p8⟩ := p
  dsimp only at *
  have hx : Ext w (w.alloc (.cells #[.int .i64 p0, .int .i64 p1, .int .u32 p2, .int .u32 p3, .int .i64 p4, .int .i64 p5, .int .i64 p6, .slice a1 n1 c1, .slice a2 n2 c2] 52)) := (Ext.refl w).alloc _
  obtain ⟨R, hR⟩ : ∃ R, decide (0 ≤ p0 ∧ p0 ≤ 65535 ∧ 0 ≤ p1 ∧ p1 ≤ 65535 ∧ 0 ≤ p5 ∧ p5 ≤ 65535 ∧ 0 ≤ p6 ∧ p6 ≤ 65535 ∧ 0 ≤ p4 ∧ p4 ≤ 63 ∧ n1 % 4 = 0 ∧ n1 ≤ 40 ∧ 20 + n1 + n2 ≤ 65000) = R := ⟨_, rfl⟩
  have e : isV ⟨p0, p1, p2, p3, p4, p5, p6, p7, p8⟩ = R := by unfold isV; rw [h1, h2]; exact hR
  rw [e]
  clear e h1 h2
  have HR : Hid _ := hR
  clear hR
  have c := fun n w => half_any n w
  go_enter Try.func24, Try.ntmps24
  go_wp2_with (go_at_call 40; refine (c _ _).mono ?_; rintro e w' ⟨rfl, rfl⟩)
  all_goals
    go_ret
    refine ⟨congrArg (fun b => Ending.returned (Value.bool b)) (?_ : _ = R), hx⟩
    rw [← HR.out]
    first
      | (symm; rw [decide_eq_false_iff_not]; omega)
      | (rw [decide_eq_decide]; omega)

end Go.Proofs.Ytkagkfbdpiblkaa.Tcp
