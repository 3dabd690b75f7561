/- What the functions of package word, and the document's own, answer at any bytes: the contracts that the laws of chapter 1 rest on. -/
import Derived.Test.YtkagkfbdpiblkaaRows
import Derived.Test.YtkagkfbdpiblkaaPlain
import Derived.Test.YtkagkfbdpiblkaaGrow
namespace Go.Proofs.Ytkagkfbdpiblkaa
open Go.RowKit
set_option linter.unusedVariables false

theorem byteAt_any (a : Option Addr) (len cap : Nat) (xs : List Int) (p i : Int) (w : World) (h : Bytes w a len xs)
    (p1 : -9223372036854775808 ≤ p) (p2 : p ≤ 9223372036854775807) (i1 : 0 ≤ i) (i2 : i ≤ 3) :
    Calls Try.prog 63 #[.slice a len cap, .int .i64 p, .int .i64 i] w fun e w' => e = .returned (.int .u8 (byteV xs (p + i))) ∧ w' = w := by
  have hl := h.small
  have hxl := h.length
  by_cases h1 : p < -i
  · have e : byteV xs (p + i) = 0 := byteV_neg (by omega)
    rw [e]; clear e
    go_enter Try.func63, Try.ntmps63
    go_wp2
    go_ret
    exact ⟨rfl, rfl⟩
  · by_cases h2 : (len : Int) - i ≤ p
    · have e : byteV xs (p + i) = 0 := byteV_past (by omega)
      rw [e]; clear e hxl
      go_enter Try.func63, Try.ntmps63
      go_wp2
      go_ret
      exact ⟨rfl, rfl⟩
    · obtain ⟨k, hk⟩ : ∃ k : Nat, p + i = k := ⟨(p + i).toNat, by omega⟩
      have e : byteV xs (p + i) = xs[k]?.getD 0 := by rw [hk]; exact byteV_nat xs k
      obtain ⟨b, off, rfl, hc⟩ := h.cell (k := k) (by omega)
      have hkl : k < len := by omega
      have hpk : p = (k : Int) - i := by omega
      subst hpk
      rw [e]; clear e h hk hxl
      go_enter Try.func63, Try.ntmps63
      go_wp2
      go_ret
      exact ⟨rfl, rfl⟩

theorem get16_any (a : Option Addr) (len cap : Nat) (xs : List Int) (p : Int) (w : World) (h : Bytes w a len xs)
    (p1 : -9223372036854775808 ≤ p) (p2 : p ≤ 9223372036854775807) :
    Calls Try.prog 43 #[.slice a len cap, .int .i64 p] w fun e w' => e = .returned (.int .i64 (get16V xs p)) ∧ w' = w := by
  have b0 := h.ok.byteV p
  have b1 := h.ok.byteV (p + 1)
  have e : bits .or .i64 (byteV xs p * 256) (byteV xs (p + 1)) = get16V xs p := by
    rw [i64_or8 _ _ (by omega) (by omega) (by omega) (by omega), get16V]
  go_enter Try.func43, Try.ntmps43
  go_wp2_with (go_at_call 63; refine (byteAt_any _ _ _ xs _ _ _ h (by omega) (by omega) (by omega) (by omega)).mono ?_; rintro e w' ⟨rfl, rfl⟩)
  go_ret
  exact ⟨rfl, rfl⟩

theorem get32_any (a : Option Addr) (len cap : Nat) (xs : List Int) (p : Int) (w : World) (h : Bytes w a len xs)
    (p1 : -9223372036854775808 ≤ p) (p2 : p ≤ 9223372036854775807) :
    Calls Try.prog 44 #[.slice a len cap, .int .i64 p] w fun e w' => e = .returned (.int .u32 (accV xs p 4)) ∧ w' = w := by
  go_enter Try.func44, Try.ntmps44
  go_wp2
  go_loop [5, 7] (fun n i => ∃ k : Nat, k ≤ 4 ∧ i = .int .i64 k ∧ n = .int .u32 (accV xs p k)) (fun _ i => 4 - (intOf i).toNat)
  case atStart => exact ⟨0, by omega, rfl, rfl⟩
  case round =>
    obtain ⟨k, hk, rfl, rfl⟩ := hrel
    by_cases hlt : k < 4
    · have ha := acc_lt h.ok p k (by omega)
      have hb := h.ok.byteV (p + k)
      have he : bits .or .u32 (accV xs p k * 256) (byteV xs (p + k)) = accV xs p (k + 1) := by
        rw [u32_or8' _ _ (by omega) (by omega) (by omega) (by omega)]; rfl
      have HE : Hid _ := he
      clear he
      go_wp2_with (go_at_call 63; refine (byteAt_any _ _ _ xs _ _ _ h (by omega) (by omega) (by omega) (by omega)).mono ?_; rintro e w' ⟨rfl, rfl⟩)
      go_round
      case rel => exact ⟨k + 1, by omega, by go_num, congrArg (Value.int .u32) HE.out⟩
      case measure => simp [intOf]; omega
    · obtain rfl : k = 4 := by omega
      go_wp2
      go_ret
      exact ⟨rfl, rfl⟩

/-- The slice's bytes as a text, in every later world. -/
theorem Bytes.conv {W : World} {a : Option Addr} {len : Nat} {xs : List Int} (h : Bytes W a len xs) (cap : Nat) :
    ∀ w', Ext W w' → Sem.run Try.prog (convert 22 9 (.slice a len cap)) w' = .ok (.string (strOfNums xs)) w' :=
  fun _ hx => (h.below hx).string cap _ _ _ Try.underlying22 Try.underlying5 Try.underlying9

end Go.Proofs.Ytkagkfbdpiblkaa
