/- Package rule's tests: names, numbers, ends; and the document's names. -/
import Derived.Test.YtbmmgjmmooakpaaGreatDoorRuP2
import Derived.Test.YtbmmgjmmooakpaaGreatDoorAddr
import Derived.Test.YtbmmgjmmooakpaaGreatDoorWhole
namespace Go.Proofs.YtbmmgjmmooakpaaGreatDoor.Ru
open Go.RowKit
set_option linter.unusedVariables false
set_option maxRecDepth 100000

theorem of_any (n low high : Int) (w : World) :
    Calls Tryz.prog 46 #[.int .i64 n, .int .i64 low, .int .i64 high] w fun e w' => e = .returned (.bool (inB n low high)) ∧ w' = w := by
  unfold inB
  go_enter Tryz.func46, Tryz.ntmps46
  go_wp2
  all_goals go_ret
  all_goals exact ⟨by simp [*] <;> (intros; omega), rfl⟩

theorem ofByte_any (n low high : Nat) (w : World) :
    Calls Tryz.prog 33 #[.int .u8 n, .int .u8 low, .int .u8 high] w fun e w' => e = .returned (.bool (decide (low ≤ n) && decide (n ≤ high))) ∧ w' = w := by
  go_enter Tryz.func33, Tryz.ntmps33
  go_wp2
  all_goals go_ret
  all_goals exact ⟨by simp [*] <;> (intros; omega), rfl⟩

theorem ports_size : (Tryz.prog.info? 26).map (·.size) = some 2 := by kernel_rfl

theorem all_any (w : World) : Calls Tryz.prog 66 #[] w fun e w' => e = .returned (.agg #[.int .i64 0, .int .i64 65535]) ∧ Ext w w' := by
  go_enter Tryz.func66, Tryz.ntmps66
  go_wp2
  exact bodyPost_ret (results_one Tryz.results66 _ rfl (heap_new w (.cells #[.int .i64 0, .int .i64 65535] 26)) Tryz.underlying26 rfl ports_size) rfl ⟨rfl, (Ext.refl w).alloc _⟩

theorem name_any (s : ByteArray) (w : World) (hs : s.size ≤ 9223372036854775807) :
    Calls Tryz.prog 12 #[.string s] w fun e w' => e = .returned (.bool (nameB s)) ∧ w' = w := by
  by_cases h0 : s.size = 0
  · rw [nameB_none (by omega)]
    have e1 : (s.toList == []) = true := by rw [ByteArray.toList_eq, beq_iff_eq]; exact List.eq_nil_of_length_eq_zero (by rw [text_len]; exact h0)
    clear h0
    go_enter Tryz.func12, Tryz.ntmps12
    go_wp2
    go_ret
    exact ⟨rfl, rfl⟩
  have e1 : (s.toList == []) = false := by
    rw [ByteArray.toList_eq, beq_eq_false_iff_ne]; intro e
    have := text_len s; rw [e] at this; simp at this; omega
  by_cases h8 : 8 < s.size
  · rw [nameB_long h8]
    clear h0
    go_enter Tryz.func12, Tryz.ntmps12
    go_wp2
    go_ret
    exact ⟨rfl, rfl⟩
  have HB : Hid (∀ k (hk : k < s.size), nameC (s[k]'hk) = false → nameB s = false) := fun k hk h => nameB_bad hk h
  have HG : Hid ((s.data.toList.take s.size).all nameC = true → nameB s = true) := fun h => nameB_good (by omega) (by omega) (by rwa [List.take_of_length_le (by rw [text_len]; exact Nat.le_refl _)] at h)
  have HS : Hid (∀ k (hk : k < s.size), (s.data.toList.take k).all nameC = true → nameC (s[k]'hk) = true → (s.data.toList.take (k + 1)).all nameC = true) := fun k hk h1 h2 => name_step hk h1 h2
  generalize nameB s = b at *
  have h9 : s.size ≤ 8 := by omega
  clear h8
  go_enter Tryz.func12, Tryz.ntmps12
  go_wp2
  go_loop [13] (fun i => ∃ k : Nat, k ≤ s.size ∧ i = .int .i64 k ∧ Hid ((s.data.toList.take k).all nameC = true)) (fun i => s.size - (intOf i).toNat)
  case atStart => exact ⟨0, Nat.zero_le _, rfl, (rfl : (List.take 0 s.data.toList).all nameC = true)⟩
  case round =>
    obtain ⟨k, hk, rfl, HK⟩ := hrel
    by_cases hlt : k < s.size
    · obtain ⟨c, hc⟩ : ∃ c : Nat, (s[k]'hlt).toNat = c := ⟨_, rfl⟩
      have c1 := fun w => ofByte_any c 97 122 w
      have c2 := fun w => ofByte_any c 48 57 w
      have hn : nameC (s[k]'hlt) = ((decide (97 ≤ c) && decide (c ≤ 122)) || (decide (48 ≤ c) && decide (c ≤ 57))) := by unfold nameC; rw [hc]
      generalize (decide (97 ≤ c) && decide (c ≤ 122)) = b1 at *
      generalize (decide (48 ≤ c) && decide (c ≤ 57)) = b2 at *
      have HN : Hid _ := hn
      clear hn
      have tok : Hid True := trivial
      cases b1 with
      | true =>
        have HX := HS.out k hlt HK.out (by rw [HN.out]; rfl)
        have HX' : Hid _ := HX
        clear HX
        go_wp2_with (go_at_call 33; refine (c1 _).mono ?_; rintro e w1 ⟨rfl, rfl⟩)
        go_round
        case rel => exact ⟨k + 1, by omega, by go_num, HX'⟩
        case measure => simp [intOf]; omega
      | false =>
        cases b2 with
        | true =>
          have HX := HS.out k hlt HK.out (by rw [HN.out]; rfl)
          have HX' : Hid _ := HX
          clear HX
          go_wp2_with (first
            | (go_at_call 33; clear tok; refine (c1 _).mono ?_; rintro e w1 ⟨rfl, rfl⟩)
            | (go_at_call 33; refine (c2 _).mono ?_; rintro e w1 ⟨rfl, rfl⟩))
          go_round
          case rel => exact ⟨k + 1, by omega, by go_num, HX'⟩
          case measure => simp [intOf]; omega
        | false =>
          obtain rfl := HB.out k hlt (by rw [HN.out]; rfl)
          go_wp2_with (first
            | (go_at_call 33; clear tok; refine (c1 _).mono ?_; rintro e w1 ⟨rfl, rfl⟩)
            | (go_at_call 33; refine (c2 _).mono ?_; rintro e w1 ⟨rfl, rfl⟩))
          go_ret
          exact ⟨rfl, rfl⟩
    · obtain rfl : k = s.size := by omega
      obtain rfl := HG.out HK.out
      clear HS HB HG HK
      go_wp2
      go_ret
      exact ⟨rfl, rfl⟩
end Go.Proofs.YtbmmgjmmooakpaaGreatDoor.Ru
