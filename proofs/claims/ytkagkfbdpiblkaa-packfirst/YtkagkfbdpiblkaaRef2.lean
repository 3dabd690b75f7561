/- What the document's own functions of chapter 2 answer. -/
import Derived.Test.YtkagkfbdpiblkaaRef1
import Derived.Test.YtkagkfbdpiblkaaRef1J
import Derived.Test.YtkagkfbdpiblkaaSum
import Derived.Test.YtkagkfbdpiblkaaOwn
namespace Go.Proofs.Ytkagkfbdpiblkaa
open Go.RowKit
set_option linter.unusedVariables false

theorem refFold_any (n : Int) (w : World) (n0 : 0 ≤ n) (n1 : n ≤ 9223372036854775807) :
    Calls Try.prog 60 #[.int .i64 n] w fun e w' => e = .returned (.int .i64 (foldV n)) ∧ w' = w := by
  go_enter Try.func60, Try.ntmps60
  go_wp2
  go_loop [0] (fun t => ∃ m : Int, 0 ≤ m ∧ m ≤ 9223372036854775807 ∧ Hid (foldV m = foldV n) ∧ t = .int .i64 m) (fun t => (intOf t).toNat)
  case atStart => exact ⟨n, n0, n1, rfl, rfl⟩
  case round =>
    obtain ⟨m, m0, m1, hm, rfl⟩ := hrel
    by_cases hlt : 65535 < m
    · have ha := i64_and16 m
      have hs := foldV_step hlt
      rw [hm.out, Int.add_comm] at hs
      have HS : Hid _ := hs
      clear hs hm
      go_wp2
      go_round
      case rel => exact ⟨m % 65536 + m / 65536, by omega, by omega, HS, by go_num⟩
      case measure => simp [intOf]; omega
    · have hs := foldV_small m0 (show m ≤ 65535 by omega)
      rw [hm.out] at hs
      have HS : Hid _ := hs
      clear hs hm
      go_wp2
      go_ret
      exact ⟨by rw [HS.out]; rfl, rfl⟩

set_option maxHeartbeats 1000000 in
theorem refOf_any (p : Option Addr) (len c : Nat) (xs : List Int) (w : World) (h : Bytes w p len xs) (hs : len ≤ 1000000) :
    Calls Try.prog 38 #[.slice p len c] w fun e w' => e = .returned (.int .i64 (ofV xs)) ∧ w' = w := by
  have hl := h.length
  go_enter Try.func38, Try.ntmps38
  go_wp2
  go_loop [3, 4] (fun t i => ∃ (j : Nat) (m : Int), j ≤ len + 1 ∧ Hid (j % 2 = 0) ∧ i = .int .i64 j ∧ t = .int .i64 m ∧ 0 ≤ m ∧ m ≤ 65535 ∧ Hid (m = foldV (sumB true (xs.take j)))) (fun _ i => len + 1 - (intOf i).toNat)
  case atStart => exact ⟨0, 0, by omega, rfl, rfl, rfl, by omega, by omega, rfl⟩
  case round =>
    obtain ⟨j, m, hk, hj2, rfl, rfl, m0, m1, hm⟩ := hrel
    by_cases hlt : j < len
    · have h2 : sumB true (xs.take (j + 2)) = sumB true (xs.take j) + get16V xs (j : Int) := by
        have hj := hj2.out
        have := sumB_two xs (k := j / 2) (by omega)
        rw [show 2 * (j / 2 + 1) = j + 2 by omega, show 2 * (j / 2) = j by omega] at this
        exact this
      have hb := (sumB_bd (xs := xs.take j) (fun x hx => h.ok x (List.mem_of_mem_take hx)) true).1
      have hg := get16V_bd h.ok (j : Int)
      obtain ⟨q, hq⟩ : ∃ q, q = get16V xs (j : Int) := ⟨_, rfl⟩
      have hf : foldV (m + q) = foldV (sumB true (xs.take (j + 2))) := by
        rw [h2, hm.out, foldV_add hb (by omega), hq]
      have hfb := foldV_bd (n := m + q) (by omega)
      have c1 := fun w h => refGet16_any p len c xs (j : Int) w h (by omega) (by omega)
      rw [← hq] at c1 hg
      have HF : Hid _ := hf
      clear hf h2 hm hb hq
      go_wp2_with (first
        | (go_at_call 57; refine (c1 _ h).mono ?_; rintro e w' ⟨rfl, rfl⟩)
        | (go_at_call 60; refine (refFold_any _ _ (by omega) (by omega)).mono ?_; rintro e w' ⟨rfl, rfl⟩))
      go_round
      case rel => exact ⟨j + 2, foldV (m + q), by omega, (by have := hj2.out; show (j + 2) % 2 = 0; omega), by go_num, rfl, hfb.1, hfb.2, HF⟩
      case measure => simp [intOf]; omega
    · have e : xs.take j = xs := List.take_of_length_le (by omega)
      rw [e] at hm
      have HM : Hid (ofV xs = 65535 - m) := by show ofV xs = 65535 - m; rw [hm.out]; rfl
      clear hm e
      go_wp2
      go_ret
      exact ⟨by rw [HM.out]; rfl, rfl⟩

theorem refRight_any (p : Option Addr) (len c : Nat) (xs : List Int) (w : World) (h : Bytes w p len xs) (hs : len ≤ 1000000) :
    Calls Try.prog 69 #[.slice p len c] w fun e w' => e = .returned (.bool (decide (ofV xs = 0))) ∧ w' = w := by
  go_enter Try.func69, Try.ntmps69
  go_wp2_with (go_at_call 38; refine (refOf_any _ _ _ xs _ h hs).mono ?_; rintro e w' ⟨rfl, rfl⟩)
  go_ret
  exact ⟨rfl, rfl⟩

end Go.Proofs.Ytkagkfbdpiblkaa
