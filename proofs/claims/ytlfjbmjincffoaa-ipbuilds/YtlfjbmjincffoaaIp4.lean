/- What ip.fits, ip.flags and the document's own Is answer of any packet (chapter 4). -/
import Derived.Test.YtlfjbmjincffoaaIp3
namespace Go.Proofs.Ytlfjbmjincffoaa
open Go.RowKit
set_option linter.unusedVariables false

/-- May a packet be built, but for its length? -/
def isV (p : IPv) : Bool :=
  decide (0 ≤ p.tos ∧ p.tos ≤ 255 ∧ 0 ≤ p.ttl ∧ p.ttl ≤ 255 ∧ 0 ≤ p.proto ∧ p.proto ≤ 255 ∧ 0 ≤ p.id ∧ p.id ≤ 65535 ∧ 0 ≤ p.off ∧ p.off ≤ 8191 ∧ p.opts.length % 4 = 0 ∧ p.opts.length ≤ 40)

set_option maxHeartbeats 4000000 in
theorem refIs_any (p : IPv) (a1 : Option Addr) (n1 c1 : Nat) (a2 : Option Addr) (n2 c2 : Nat) (w : World) (h1 : p.opts.length = n1) (hn : n1 ≤ 9223372036854775807) :
    Calls Try.prog 21 #[.agg #[.int .i64 p.tos, .int .i64 p.id, .bool p.df, .bool p.mf, .int .i64 p.off, .int .i64 p.ttl, .int .i64 p.proto, .int .u32 p.src, .int .u32 p.dst, .slice a1 n1 c1, .slice a2 n2 c2]] w fun e w' => e = .returned (.bool (isV p)) ∧ Ext w w' := by
  obtain ⟨p0, p1, p2, p3, p4, p5, p6, p7, p8, p9, pa⟩ := p
  dsimp only at *
  have hx : Ext w (w.alloc (.cells #[.int .i64 p0, .int .i64 p1, .bool p2, .bool p3, .int .i64 p4, .int .i64 p5, .int .i64 p6, .int .u32 p7, .int .u32 p8, .slice a1 n1 c1, .slice a2 n2 c2] 25)) := (Ext.refl w).alloc _
  have e : isV ⟨p0, p1, p2, p3, p4, p5, p6, p7, p8, p9, pa⟩ = decide (0 ≤ p0 ∧ p0 ≤ 255 ∧ 0 ≤ p5 ∧ p5 ≤ 255 ∧ 0 ≤ p6 ∧ p6 ≤ 255 ∧ 0 ≤ p1 ∧ p1 ≤ 65535 ∧ 0 ≤ p4 ∧ p4 ≤ 8191 ∧ n1 % 4 = 0 ∧ n1 ≤ 40) := by unfold isV; rw [h1]
  rw [e]
  clear e h1
  obtain ⟨R, hR⟩ : ∃ R, decide (0 ≤ p0 ∧ p0 ≤ 255 ∧ 0 ≤ p5 ∧ p5 ≤ 255 ∧ 0 ≤ p6 ∧ p6 ≤ 255 ∧ 0 ≤ p1 ∧ p1 ≤ 65535 ∧ 0 ≤ p4 ∧ p4 ≤ 8191 ∧ n1 % 4 = 0 ∧ n1 ≤ 40) = R := ⟨_, rfl⟩
  rw [hR]
  have HR : Hid _ := hR
  clear hR
  go_enter Try.func21, Try.ntmps21
  go_wp2
  all_goals
    go_ret
    refine ⟨congrArg (fun b => Ending.returned (Value.bool b)) (?_ : _ = R), hx⟩
    rw [← HR.out]
    first
      | (symm; rw [decide_eq_false_iff_not]; omega)
      | (rw [decide_eq_decide]; omega)

theorem within_any (n m : Int) (w : World) : Calls Try.prog 46 #[.int .i64 n, .int .i64 m] w fun e w' => e = .returned (.bool (decide (0 ≤ n ∧ n ≤ m))) ∧ w' = w := by
  by_cases h : 0 ≤ n
  · rw [show decide (0 ≤ n ∧ n ≤ m) = decide (n ≤ m) by simp [h]]
    go_enter Try.func46, Try.ntmps46
    go_wp2
    go_ret
    exact ⟨rfl, rfl⟩
  · rw [show decide (0 ≤ n ∧ n ≤ m) = false by simp [h]]
    go_enter Try.func46, Try.ntmps46
    go_wp2
    go_ret
    exact ⟨rfl, rfl⟩

set_option maxHeartbeats 4000000 in
theorem fits_any (p : IPv) (a1 : Option Addr) (n1 c1 : Nat) (a2 : Option Addr) (n2 c2 : Nat) (w : World) (h1 : p.opts.length = n1) (hn : n1 ≤ 9223372036854775807) :
    Calls Try.prog 31 #[.agg #[.int .i64 p.tos, .int .i64 p.id, .bool p.df, .bool p.mf, .int .i64 p.off, .int .i64 p.ttl, .int .i64 p.proto, .int .u32 p.src, .int .u32 p.dst, .slice a1 n1 c1, .slice a2 n2 c2]] w fun e w' => e = .returned (.bool (isV p)) ∧ Ext w w' := by
  obtain ⟨p0, p1, p2, p3, p4, p5, p6, p7, p8, p9, pa⟩ := p
  dsimp only at *
  have hx : Ext w (w.alloc (.cells #[.int .i64 p0, .int .i64 p1, .bool p2, .bool p3, .int .i64 p4, .int .i64 p5, .int .i64 p6, .int .u32 p7, .int .u32 p8, .slice a1 n1 c1, .slice a2 n2 c2] 25)) := (Ext.refl w).alloc _
  obtain ⟨R, hR⟩ : ∃ R, decide (0 ≤ p0 ∧ p0 ≤ 255 ∧ 0 ≤ p5 ∧ p5 ≤ 255 ∧ 0 ≤ p6 ∧ p6 ≤ 255 ∧ 0 ≤ p1 ∧ p1 ≤ 65535 ∧ 0 ≤ p4 ∧ p4 ≤ 8191 ∧ n1 % 4 = 0 ∧ n1 ≤ 40) = R := ⟨_, rfl⟩
  have e : isV ⟨p0, p1, p2, p3, p4, p5, p6, p7, p8, p9, pa⟩ = R := by unfold isV; rw [h1]; exact hR
  rw [e]
  clear e h1
  have HR : Hid _ := hR
  clear hR
  have c := fun n m w => within_any n m w
  go_enter Try.func31, Try.ntmps31
  go_wp2_with (go_at_call 46; refine (c _ _ _).mono ?_; rintro e w' ⟨rfl, rfl⟩)
  all_goals
    go_ret
    refine ⟨congrArg (fun b => Ending.returned (Value.bool b)) (?_ : _ = R), hx⟩
    rw [← HR.out]
    first
      | (symm; rw [decide_eq_false_iff_not]; omega)
      | (rw [decide_eq_decide]; omega)

/-- The bits above Off. -/
def flagV (d m : Bool) : Int := (if d = true then 16384 else 0) + (if m = true then 8192 else 0)

theorem flags_any (p : IPv) (a1 : Option Addr) (n1 c1 : Nat) (a2 : Option Addr) (n2 c2 : Nat) (w : World) :
    Calls Try.prog 33 #[.agg #[.int .i64 p.tos, .int .i64 p.id, .bool p.df, .bool p.mf, .int .i64 p.off, .int .i64 p.ttl, .int .i64 p.proto, .int .u32 p.src, .int .u32 p.dst, .slice a1 n1 c1, .slice a2 n2 c2]] w fun e w' => e = .returned (.int .i64 (flagV p.df p.mf)) ∧ Ext w w' := by
  obtain ⟨p0, p1, p2, p3, p4, p5, p6, p7, p8, p9, pa⟩ := p
  dsimp only at *
  have hx : Ext w (w.alloc (.cells #[.int .i64 p0, .int .i64 p1, .bool p2, .bool p3, .int .i64 p4, .int .i64 p5, .int .i64 p6, .int .u32 p7, .int .u32 p8, .slice a1 n1 c1, .slice a2 n2 c2] 25)) := (Ext.refl w).alloc _
  have o1 : bits .or .i64 0 16384 = 16384 := by decide
  have o2 : bits .or .i64 0 8192 = 8192 := by decide
  have o3 : bits .or .i64 16384 8192 = 24576 := by decide
  cases p2 <;> cases p3 <;> simp only [flagV, Bool.false_eq_true, if_false, if_true] <;>
  · go_enter Try.func33, Try.ntmps33
    go_wp2
    go_ret
    exact ⟨rfl, hx⟩

/-- Is a packet more than is looked at? -/
theorem long_any (p : IPv) (a1 : Option Addr) (n1 c1 : Nat) (a2 : Option Addr) (n2 c2 : Nat) (w : World) :
    Calls Try.prog 17 #[.agg #[.int .i64 p.tos, .int .i64 p.id, .bool p.df, .bool p.mf, .int .i64 p.off, .int .i64 p.ttl, .int .i64 p.proto, .int .u32 p.src, .int .u32 p.dst, .slice a1 n1 c1, .slice a2 n2 c2]] w fun e w' => e = .returned (.bool (decide (60 < n1 ∨ 1500 < n2))) ∧ Ext w w' := by
  obtain ⟨p0, p1, p2, p3, p4, p5, p6, p7, p8, p9, pa⟩ := p
  dsimp only at *
  have hx : Ext w (w.alloc (.cells #[.int .i64 p0, .int .i64 p1, .bool p2, .bool p3, .int .i64 p4, .int .i64 p5, .int .i64 p6, .int .u32 p7, .int .u32 p8, .slice a1 n1 c1, .slice a2 n2 c2] 25)) := (Ext.refl w).alloc _
  obtain ⟨R, hR⟩ : ∃ R, decide (60 < n1 ∨ 1500 < n2) = R := ⟨_, rfl⟩
  rw [hR]
  have HR : Hid _ := hR
  clear hR
  go_enter Try.func17, Try.ntmps17
  go_wp2
  all_goals
    go_ret
    refine ⟨congrArg (fun b => Ending.returned (Value.bool b)) (?_ : _ = R), hx⟩
    rw [← HR.out]
    first
      | (symm; rw [decide_eq_true_eq]; omega)
      | (rw [Bool.eq_iff_iff]; simp only [Bool.or_eq_true, decide_eq_true_eq]; omega)

end Go.Proofs.Ytlfjbmjincffoaa
