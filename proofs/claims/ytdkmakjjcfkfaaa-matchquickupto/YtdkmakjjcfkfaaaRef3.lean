/- The document's answers of chapter 3 (castellanref3), the functions of numbers, for every argument and every world. -/
import Derived.Test.YtdkmakjjcfkfaaaAddr
namespace Go.Proofs.Ytdkmakjjcfkfaaa
set_option maxRecDepth 100000
open Go.RowKit
set_option linter.unusedVariables false

theorem refHold_any (n : Int) (w : World) : Calls Try.prog 31 #[.int .i64 n] w fun e w' => e = .returned (.int .i64 (holdV n)) ∧ w' = w := by
  by_cases h1 : n < 0
  · rw [show holdV n = 0 by unfold holdV; rw [if_pos h1]]
    go_enter Try.func31, Try.ntmps31
    go_wp2
    go_ret
    exact ⟨rfl, rfl⟩
  by_cases h2 : 32 < n
  · rw [show holdV n = 32 by unfold holdV; rw [if_neg h1, if_pos h2]]
    go_enter Try.func31, Try.ntmps31
    go_wp2
    go_ret
    exact ⟨rfl, rfl⟩
  · rw [show holdV n = n by unfold holdV; rw [if_neg h1, if_neg h2]]
    go_enter Try.func31, Try.ntmps31
    go_wp2
    go_ret
    exact ⟨rfl, rfl⟩

theorem refMask_any (n : Int) (w : World) : Calls Try.prog 25 #[.int .i64 n] w fun e w' => e = .returned (.int .u32 (maskV n)) ∧ w' = w := by
  have hb := holdV_bd n
  have c1 := fun w => refHold_any n w
  have hs := u32_shl_ones n
  generalize maskV n = m at *
  generalize holdV n = h at *
  have hw : IntKind.u64.wrap (4294967295 * 2 ^ (32 - h).toNat) % 4294967296 = m := by
    rw [IntKind.wrap_u64, Int.emod_emod_of_dvd _ (by decide)]; exact hs
  have H : Hid _ := hw
  clear hs hw
  go_enter Try.func25, Try.ntmps25
  go_wp2_with (go_at_call 31; refine (c1 _).mono ?_; rintro e w' ⟨rfl, rfl⟩)
  go_ret
  exact ⟨by rw [← H.out]; rfl, rfl⟩

theorem refHas_any (a n x : Int) (w : World) (a0 : 0 ≤ a) (a1 : a ≤ 4294967295) (x0 : 0 ≤ x) (x1 : x ≤ 4294967295) :
    Calls Try.prog 22 #[.agg #[.int .u32 a, .int .i64 n], .int .u32 x] w fun e w' => e = .returned (.bool (hasV a n x)) ∧ Ext w w' := by
  have c1 := fun w => refMask_any n w
  have hm := maskV_bd n
  have hh := u32_has a n x a0 a1 x0 x1
  generalize hasV a n x = d at *
  generalize maskV n = m at *
  obtain ⟨hx0, hb0, hb1⟩ := boxed2 w (.int .u32 a) (.int .i64 n) 32
  go_enter Try.func22, Try.ntmps22
  go_wp2
  refine wp_region_eager [(0, false), (1, false), (2, false), (3, false), (4, false), (5, false), (6, true), (7, false), (8, false), (9, false)] (by kernel_rfl) (by kernel_rfl) rfl (by kernel_rfl) (fun _ _ _ _ _ h => h) ?_
  generalize (w.alloc (.cells #[.int .u32 a, .int .i64 n] 32)).drew = W at *
  repeat (first
    | (refine wpE_read (v := ?_) rfl (by rfl) ?_ ?_; rotate_left; (focus (intro w' hx; go_simp; first | done | with_reducible rfl)); simp only [Act.put, List.setIfInBounds_toArray, List.set_cons_zero, List.set_cons_succ])
    | (refine wpE_call rfl (by rfl) (fun K hK => ?_); go_simp; first
        | (go_at_call 25; refine (c1 _).mono ?_; rintro e w' ⟨rfl, rfl⟩; refine hK _ _ (Ext.refl _) ?_; clear hK K)))
  refine wpE_done ?_
  go_wp2
  go_ret
  exact ⟨rfl, hx0⟩

end Go.Proofs.Ytdkmakjjcfkfaaa
