/- What icmp.kind, Bad, Query and isByte, and the document's own Bad and Query answer (chapter 7); law 7's known. -/
import Derived.Test.YtllnphbeoaobdaaIcmpP
namespace Go.Proofs.Ytllnphbeoaobdaa.Icmp
open Go.RowKit
set_option linter.unusedVariables false

/-- What a type is of. -/
def kindV (t : Int) : Int := if badV t = true then 1 else if queryV t = true then 2 else 0

theorem kind_cases (t : Int) : t = 3 ∨ t = 4 ∨ t = 5 ∨ t = 11 ∨ t = 12 ∨ t = 0 ∨ t = 8 ∨ t = 13 ∨ t = 14 ∨
    ((t == 3) = false ∧ (t == 4) = false ∧ (t == 5) = false ∧ (t == 11) = false ∧ (t == 12) = false ∧ (t == 0) = false ∧ (t == 8) = false ∧ (t == 13) = false ∧ (t == 14) = false ∧ badV t = false ∧ queryV t = false) := by
  by_cases h : t = 3 ∨ t = 4 ∨ t = 5 ∨ t = 11 ∨ t = 12 ∨ t = 0 ∨ t = 8 ∨ t = 13 ∨ t = 14
  · omega
  · refine .inr (.inr (.inr (.inr (.inr (.inr (.inr (.inr (.inr ?_))))))))
    simp only [beq_eq_false_iff_ne, badV, queryV, decide_eq_false_iff_not]
    omega

theorem kind_any (t : Int) (w : World) : Calls Try.prog 36 #[.int .i64 t] w fun e w' => e = .returned (.int .i64 (kindV t)) ∧ w' = w := by
  rcases kind_cases t with rfl | rfl | rfl | rfl | rfl | rfl | rfl | rfl | rfl | ⟨h1, h2, h3, h4, h5, h6, h7, h8, h9, hb, hq⟩
  rotate_right
  · rw [show kindV t = 0 by simp [kindV, hb, hq]]
    go_enter Try.func36, Try.ntmps36
    go_wp2
    go_ret
    exact ⟨rfl, rfl⟩
  all_goals
    go_enter Try.func36, Try.ntmps36
    go_wp2
    go_ret
    exact ⟨rfl, rfl⟩

theorem bad_any (t : Int) (w : World) : Calls Try.prog 16 #[.int .i64 t] w fun e w' => e = .returned (.bool (badV t)) ∧ w' = w := by
  have e : (kindV t == 1) = badV t := by
    rcases kind_cases t with rfl | rfl | rfl | rfl | rfl | rfl | rfl | rfl | rfl | ⟨h1, h2, h3, h4, h5, h6, h7, h8, h9, hb, hq⟩
    rotate_right
    · simp [kindV, hb, hq]
    all_goals rfl
  have c := fun w => kind_any t w
  rw [← e]
  generalize kindV t = k at *
  clear e
  go_enter Try.func16, Try.ntmps16
  go_wp2_with (go_at_call 36; refine (c _).mono ?_; rintro e w1 ⟨rfl, rfl⟩)
  go_ret
  exact ⟨rfl, rfl⟩

theorem query_any (t : Int) (w : World) : Calls Try.prog 18 #[.int .i64 t] w fun e w' => e = .returned (.bool (queryV t)) ∧ w' = w := by
  have e : (kindV t == 2) = queryV t := by
    rcases kind_cases t with rfl | rfl | rfl | rfl | rfl | rfl | rfl | rfl | rfl | ⟨h1, h2, h3, h4, h5, h6, h7, h8, h9, hb, hq⟩
    rotate_right
    · simp [kindV, hb, hq]
    all_goals rfl
  have c := fun w => kind_any t w
  rw [← e]
  generalize kindV t = k at *
  clear e
  go_enter Try.func18, Try.ntmps18
  go_wp2_with (go_at_call 36; refine (c _).mono ?_; rintro e w1 ⟨rfl, rfl⟩)
  go_ret
  exact ⟨rfl, rfl⟩

theorem refBad_any (t : Int) (w : World) : Calls Try.prog 17 #[.int .i64 t] w fun e w' => e = .returned (.bool (badV t)) ∧ w' = w := by
  rcases kind_cases t with rfl | rfl | rfl | rfl | rfl | rfl | rfl | rfl | rfl | ⟨h1, h2, h3, h4, h5, h6, h7, h8, h9, hb, hq⟩
  rotate_right
  · rw [hb]
    go_enter Try.func17, Try.ntmps17
    go_wp2
    go_ret
    exact ⟨rfl, rfl⟩
  all_goals
    go_enter Try.func17, Try.ntmps17
    go_wp2
    go_ret
    exact ⟨rfl, rfl⟩

theorem refQuery_any (t : Int) (w : World) : Calls Try.prog 19 #[.int .i64 t] w fun e w' => e = .returned (.bool (queryV t)) ∧ w' = w := by
  rcases kind_cases t with rfl | rfl | rfl | rfl | rfl | rfl | rfl | rfl | rfl | ⟨h1, h2, h3, h4, h5, h6, h7, h8, h9, hb, hq⟩
  rotate_right
  · rw [hq]
    go_enter Try.func19, Try.ntmps19
    go_wp2
    go_ret
    exact ⟨rfl, rfl⟩
  all_goals
    go_enter Try.func19, Try.ntmps19
    go_wp2
    go_ret
    exact ⟨rfl, rfl⟩

theorem byte_any (n : Int) (w : World) : Calls Try.prog 26 #[.int .i64 n] w fun e w' => e = .returned (.bool (decide (0 ≤ n ∧ n ≤ 255))) ∧ w' = w := by
  by_cases h : 0 ≤ n
  · rw [show decide (0 ≤ n ∧ n ≤ 255) = decide (n ≤ 255) by simp [h]]
    go_enter Try.func26, Try.ntmps26
    go_wp2
    go_ret
    exact ⟨rfl, rfl⟩
  · rw [show decide (0 ≤ n ∧ n ≤ 255) = false by simp [h]]
    go_enter Try.func26, Try.ntmps26
    go_wp2
    go_ret
    exact ⟨rfl, rfl⟩

theorem byte_is (n : Int) (w : World) (h : 0 ≤ n ∧ n ≤ 255) : Calls Try.prog 26 #[.int .i64 n] w fun e w' => e = .returned (.bool true) ∧ w' = w := by
  have := byte_any n w
  rwa [show decide (0 ≤ n ∧ n ≤ 255) = true by simp [h]] at this

theorem byte_not (n : Int) (w : World) (h : ¬ (0 ≤ n ∧ n ≤ 255)) : Calls Try.prog 26 #[.int .i64 n] w fun e w' => e = .returned (.bool false) ∧ w' = w := by
  have := byte_any n w
  rwa [show decide (0 ≤ n ∧ n ≤ 255) = false by rw [decide_eq_false_iff_not]; exact h] at this

theorem known_any (w : World) : Calls Try.prog 20 #[] w fun e w' => e = .returned (.bool true) ∧ w' = w := by
  have c1 := fun w => query_any 8 w
  have c2 := fun w => bad_any 8 w
  have c3 := fun w => bad_any 3 w
  rw [show queryV 8 = true from rfl] at c1
  rw [show badV 8 = false from rfl] at c2
  rw [show badV 3 = true from rfl] at c3
  have tok1 : Hid True := trivial
  go_enter Try.func20, Try.ntmps20
  go_wp2_with (first
    | (go_at_call 18; refine (c1 _).mono ?_; rintro e w1 ⟨rfl, rfl⟩)
    | (go_at_call 16; clear tok1; refine (c2 _).mono ?_; rintro e w2 ⟨rfl, rfl⟩)
    | (go_at_call 16; refine (c3 _).mono ?_; rintro e w3 ⟨rfl, rfl⟩))
  go_ret
  exact ⟨rfl, rfl⟩

end Go.Proofs.Ytllnphbeoaobdaa.Icmp
