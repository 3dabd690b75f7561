/- What icmp.kind, Bad, Query and isByte, and the document's own Bad and Query answer (chapter 7); law 7's known. -/
import Derived.Test.YtkagkfbdpiblkaaIcmpP
namespace Go.Proofs.Ytkagkfbdpiblkaa.Icmp
open Go.RowKit
set_option linter.unusedVariables false

/-- What a type is of. -/
def kindV (t : Int) : Int := if badV t = true then 1 else if queryV t = true then 2 else 0

theorem kind_cases (t : Int) : t = 3 ∨ t = 4 ∨ t = 5 ∨ t = 11 ∨ t = 12 ∨ t = 0 ∨ t = 8 ∨ t = 13 ∨ t = 14 ∨
    ((t == 3) = false ∧ (t == 4) = false ∧ (t == 5) = false ∧ (t == 11) = false ∧ (t == 12) = false ∧ (t == 0) = false ∧ (t == 8) = false ∧ (t == 13) = false ∧ (t == 14) = false ∧ badV t = false ∧ queryV t = false) := by
  by_cases h : t = 3 ∨ t = 4 ∨ t = 5 ∨ t = 11 ∨ t = 12 ∨ t = 0 ∨ t = 8 ∨ t = 13 ∨ t = 14
  · omega
  · refine .inr (.inr (.inr (.inr (.inr (.inr (.inr (.inr (.inr ?_))))))))
    simp only [beq_eq_false_iff_ne, badV, queryV, decide_eq_false_iff_not]
    omega

theorem kind_any (t : Int) (w : World) : Calls Try.prog 67 #[.int .i64 t] w fun e w' => e = .returned (.int .i64 (kindV t)) ∧ w' = w := by
  rcases kind_cases t with rfl | rfl | rfl | rfl | rfl | rfl | rfl | rfl | rfl | ⟨h1, h2, h3, h4, h5, h6, h7, h8, h9, hb, hq⟩
  rotate_right
  · rw [show kindV t = 0 by simp [kindV, hb, hq]]
    go_enter Try.func67, Try.ntmps67
    go_wp2
    go_ret
    exact ⟨rfl, rfl⟩
  all_goals
    go_enter Try.func67, Try.ntmps67
    go_wp2
    go_ret
    exact ⟨rfl, rfl⟩

theorem bad_any (t : Int) (w : World) : Calls Try.prog 51 #[.int .i64 t] w fun e w' => e = .returned (.bool (badV t)) ∧ w' = w := by
  have e : (kindV t == 1) = badV t := by
    rcases kind_cases t with rfl | rfl | rfl | rfl | rfl | rfl | rfl | rfl | rfl | ⟨h1, h2, h3, h4, h5, h6, h7, h8, h9, hb, hq⟩
    rotate_right
    · simp [kindV, hb, hq]
    all_goals rfl
  have c := fun w => kind_any t w
  rw [← e]
  generalize kindV t = k at *
  clear e
  go_enter Try.func51, Try.ntmps51
  go_wp2_with (go_at_call 67; refine (c _).mono ?_; rintro e w1 ⟨rfl, rfl⟩)
  go_ret
  exact ⟨rfl, rfl⟩

theorem query_any (t : Int) (w : World) : Calls Try.prog 49 #[.int .i64 t] w fun e w' => e = .returned (.bool (queryV t)) ∧ w' = w := by
  have e : (kindV t == 2) = queryV t := by
    rcases kind_cases t with rfl | rfl | rfl | rfl | rfl | rfl | rfl | rfl | rfl | ⟨h1, h2, h3, h4, h5, h6, h7, h8, h9, hb, hq⟩
    rotate_right
    · simp [kindV, hb, hq]
    all_goals rfl
  have c := fun w => kind_any t w
  rw [← e]
  generalize kindV t = k at *
  clear e
  go_enter Try.func49, Try.ntmps49
  go_wp2_with (go_at_call 67; refine (c _).mono ?_; rintro e w1 ⟨rfl, rfl⟩)
  go_ret
  exact ⟨rfl, rfl⟩

theorem refBad_any (t : Int) (w : World) : Calls Try.prog 75 #[.int .i64 t] w fun e w' => e = .returned (.bool (badV t)) ∧ w' = w := by
  rcases kind_cases t with rfl | rfl | rfl | rfl | rfl | rfl | rfl | rfl | rfl | ⟨h1, h2, h3, h4, h5, h6, h7, h8, h9, hb, hq⟩
  rotate_right
  · rw [hb]
    go_enter Try.func75, Try.ntmps75
    go_wp2
    go_ret
    exact ⟨rfl, rfl⟩
  all_goals
    go_enter Try.func75, Try.ntmps75
    go_wp2
    go_ret
    exact ⟨rfl, rfl⟩

theorem refQuery_any (t : Int) (w : World) : Calls Try.prog 74 #[.int .i64 t] w fun e w' => e = .returned (.bool (queryV t)) ∧ w' = w := by
  rcases kind_cases t with rfl | rfl | rfl | rfl | rfl | rfl | rfl | rfl | rfl | ⟨h1, h2, h3, h4, h5, h6, h7, h8, h9, hb, hq⟩
  rotate_right
  · rw [hq]
    go_enter Try.func74, Try.ntmps74
    go_wp2
    go_ret
    exact ⟨rfl, rfl⟩
  all_goals
    go_enter Try.func74, Try.ntmps74
    go_wp2
    go_ret
    exact ⟨rfl, rfl⟩

end Go.Proofs.Ytkagkfbdpiblkaa.Icmp
