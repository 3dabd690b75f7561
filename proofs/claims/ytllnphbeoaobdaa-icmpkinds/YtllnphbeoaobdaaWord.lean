/- What the functions of package word, and the document's own, answer at any bytes: the contracts that the laws of chapter 1 rest on. -/
import Derived.Test.YtllnphbeoaobdaaRows
import Derived.Test.YtllnphbeoaobdaaPlain
import Derived.Test.YtllnphbeoaobdaaGrow
namespace Go.Proofs.Ytllnphbeoaobdaa
open Go.RowKit
set_option linter.unusedVariables false

theorem byteAt_any (a : Option Addr) (len cap : Nat) (xs : List Int) (p i : Int) (w : World) (h : Bytes w a len xs)
    (p1 : -9223372036854775808 ≤ p) (p2 : p ≤ 9223372036854775807) (i1 : 0 ≤ i) (i2 : i ≤ 3) :
    Calls Try.prog 37 #[.slice a len cap, .int .i64 p, .int .i64 i] w fun e w' => e = .returned (.int .u8 (byteV xs (p + i))) ∧ w' = w := by
  have hl := h.small
  have hxl := h.length
  by_cases h1 : p < -i
  · have e : byteV xs (p + i) = 0 := byteV_neg (by omega)
    rw [e]; clear e
    go_enter Try.func37, Try.ntmps37
    go_wp2
    go_ret
    exact ⟨rfl, rfl⟩
  · by_cases h2 : (len : Int) - i ≤ p
    · have e : byteV xs (p + i) = 0 := byteV_past (by omega)
      rw [e]; clear e hxl
      go_enter Try.func37, Try.ntmps37
      go_wp2
      go_ret
      exact ⟨rfl, rfl⟩
    · obtain ⟨k, hk⟩ : ∃ k : Nat, p + i = k := ⟨(p + i).toNat, by omega⟩
      have e : byteV xs (p + i) = xs[k]?.getD 0 := by rw [hk]; exact byteV_nat xs k
      obtain ⟨b, off, rfl, hc⟩ := h.cell (k := k) (by omega)
      have hkl : k < len := by omega
      have hpk : p = (k : Int) - i := by omega
      subst hpk
      rw [e]; clear e h hk hxl
      go_enter Try.func37, Try.ntmps37
      go_wp2
      go_ret
      exact ⟨rfl, rfl⟩

theorem get32_any (a : Option Addr) (len cap : Nat) (xs : List Int) (p : Int) (w : World) (h : Bytes w a len xs)
    (p1 : -9223372036854775808 ≤ p) (p2 : p ≤ 9223372036854775807) :
    Calls Try.prog 23 #[.slice a len cap, .int .i64 p] w fun e w' => e = .returned (.int .u32 (accV xs p 4)) ∧ w' = w := by
  go_enter Try.func23, Try.ntmps23
  go_wp2
  go_loop [5, 7] (fun n i => ∃ k : Nat, k ≤ 4 ∧ i = .int .i64 k ∧ n = .int .u32 (accV xs p k)) (fun _ i => 4 - (intOf i).toNat)
  case atStart => exact ⟨0, by omega, rfl, rfl⟩
  case round =>
    obtain ⟨k, hk, rfl, rfl⟩ := hrel
    by_cases hlt : k < 4
    · have ha := acc_lt h.ok p k (by omega)
      have hb := h.ok.byteV (p + k)
      have he : bits .or .u32 (accV xs p k * 256) (byteV xs (p + k)) = accV xs p (k + 1) := by
        rw [u32_or8' _ _ (by omega) (by omega) (by omega) (by omega)]; rfl
      have HE : Hid _ := he
      clear he
      go_wp2_with (go_at_call 37; refine (byteAt_any _ _ _ xs _ _ _ h (by omega) (by omega) (by omega) (by omega)).mono ?_; rintro e w' ⟨rfl, rfl⟩)
      go_round
      case rel => exact ⟨k + 1, by omega, by go_num, congrArg (Value.int .u32) HE.out⟩
      case measure => simp [intOf]; omega
    · obtain rfl : k = 4 := by omega
      go_wp2
      go_ret
      exact ⟨rfl, rfl⟩

theorem put16_any (n : Int) (w : World) (n1 : -9223372036854775808 ≤ n) (n2 : n ≤ 9223372036854775807) :
    Calls Try.prog 28 #[.int .i64 n] w fun e w' => e = .returned (.slice (some ⟨w.heap.size, 0, none⟩) 2 2) ∧ w' = w.alloc (.cells #[.int .u8 (n / 256 % 256), .int .u8 (n % 256)] 5) := by
  go_enter Try.func28, Try.ntmps28
  go_wp2
  go_ret
  exact ⟨rfl, rfl⟩

theorem put32_any (n : Int) (w : World) (n1 : 0 ≤ n) (n2 : n ≤ 4294967295) :
    Calls Try.prog 27 #[.int .u32 n] w fun e w' => e = .returned (.slice (some ⟨w.heap.size, 0, none⟩) 4 4) ∧ w' = w.alloc (.cells #[.int .u8 (n / 16777216), .int .u8 (n / 65536 % 256), .int .u8 (n / 256 % 256), .int .u8 (n % 256)] 5) := by
  go_enter Try.func27, Try.ntmps27
  go_wp2
  go_ret
  exact ⟨rfl, rfl⟩

/-- The slice's bytes as a text, in every later world. -/
theorem Bytes.conv {W : World} {a : Option Addr} {len : Nat} {xs : List Int} (h : Bytes W a len xs) (cap : Nat) :
    ∀ w', Ext W w' → Sem.run Try.prog (convert 22 9 (.slice a len cap)) w' = .ok (.string (strOfNums xs)) w' :=
  fun _ hx => (h.below hx).string cap _ _ _ Try.underlying22 Try.underlying5 Try.underlying9

theorem put16_new (n : Int) (w : World) (n1 : -9223372036854775808 ≤ n) (n2 : n ≤ 9223372036854775807) :
    Calls Try.prog 28 #[.int .i64 n] w fun e w' => ∃ a, e = .returned (.slice a 2 2) ∧ Bytes w' a 2 [n / 256 % 256, n % 256] ∧ Ext w w' :=
  (put16_any n w n1 n2).mono fun e w' ⟨he, hw⟩ => ⟨_, he, by rw [hw]; exact Bytes.new w 5 [n / 256 % 256, n % 256] (by intro x hx; simp at hx; omega) (by simp), by rw [hw]; exact (Ext.refl _).alloc _⟩

theorem put32_new (n : Int) (w : World) (n1 : 0 ≤ n) (n2 : n ≤ 4294967295) :
    Calls Try.prog 27 #[.int .u32 n] w fun e w' => ∃ a, e = .returned (.slice a 4 4) ∧ Bytes w' a 4 [n / 16777216, n / 65536 % 256, n / 256 % 256, n % 256] ∧ Ext w w' :=
  (put32_any n w n1 n2).mono fun e w' ⟨he, hw⟩ => ⟨_, he, by rw [hw]; exact Bytes.new w 5 [n / 16777216, n / 65536 % 256, n / 256 % 256, n % 256] (by intro x hx; simp at hx; omega) (by simp), by rw [hw]; exact (Ext.refl _).alloc _⟩

end Go.Proofs.Ytllnphbeoaobdaa
