/- What the document's own functions of chapter 1 answer at any bytes, and what 'known' answers: true. -/
import Derived.Test.YtkagkfbdpiblkaaWord
namespace Go.Proofs.Ytkagkfbdpiblkaa
open Go.RowKit
set_option linter.unusedVariables false

theorem refAt_any (a : Option Addr) (len cap : Nat) (xs : List Int) (p : Int) (w : World) (h : Bytes w a len xs)
    (p1 : -9223372036854775808 ≤ p) (p2 : p ≤ 9223372036854775807) :
    Calls Try.prog 71 #[.slice a len cap, .int .i64 p] w fun e w' => e = .returned (.int .u32 (byteV xs p)) ∧ w' = w := by
  have hl := h.small
  have hxl := h.length
  by_cases h1 : p < 0
  · have e : byteV xs p = 0 := byteV_neg (by omega)
    rw [e]; clear e
    go_enter Try.func71, Try.ntmps71
    go_wp2
    go_ret
    exact ⟨rfl, rfl⟩
  · by_cases h2 : (len : Int) ≤ p
    · have e : byteV xs p = 0 := byteV_past (by omega)
      rw [e]; clear e hxl
      go_enter Try.func71, Try.ntmps71
      go_wp2
      go_ret
      exact ⟨rfl, rfl⟩
    · obtain ⟨k, rfl⟩ : ∃ k : Nat, p = k := ⟨p.toNat, by omega⟩
      have e := byteV_nat xs k
      have hb := h.ok.get k
      obtain ⟨b, off, rfl, hc⟩ := h.cell (k := k) (by omega)
      have hkl : k < len := by omega
      rw [e]; clear e h hxl
      go_enter Try.func71, Try.ntmps71
      go_wp2
      go_ret
      exact ⟨rfl, rfl⟩

theorem refGet16_any (a : Option Addr) (len cap : Nat) (xs : List Int) (p : Int) (w : World) (h : Bytes w a len xs)
    (p1 : -9223372036854775808 ≤ p) (p2 : p ≤ 9223372036854775806) :
    Calls Try.prog 57 #[.slice a len cap, .int .i64 p] w fun e w' => e = .returned (.int .i64 (get16V xs p)) ∧ w' = w := by
  have b0 := h.ok.byteV p
  have b1 := h.ok.byteV (p + 1)
  have e : bits .or .u32 (byteV xs p * 256) (byteV xs (p + 1)) = get16V xs p := by
    rw [u32_or8' _ _ (by omega) (by omega) (by omega) (by omega), get16V]
  have e' := get16V_bd h.ok p
  go_enter Try.func57, Try.ntmps57
  go_wp2_with (go_at_call 71; refine (refAt_any _ _ _ xs _ _ h (by omega) (by omega)).mono ?_; rintro e w' ⟨rfl, rfl⟩)
  go_ret
  exact ⟨rfl, rfl⟩

theorem refGet32_any (a : Option Addr) (len cap : Nat) (xs : List Int) (p : Int) (w : World) (h : Bytes w a len xs)
    (p1 : -9223372036854775808 ≤ p) (p2 : p ≤ 9223372036854775804) :
    Calls Try.prog 70 #[.slice a len cap, .int .i64 p] w fun e w' => e = .returned (.int .u32 (accV xs p 4)) ∧ w' = w := by
  have b0 := h.ok.byteV p
  have b1 := h.ok.byteV (p + 1)
  have b2 := h.ok.byteV (p + 2)
  have b3 := h.ok.byteV (p + 3)
  have e := or4 (byteV xs p) (byteV xs (p + 1)) (byteV xs (p + 2)) (byteV xs (p + 3)) (by omega) (by omega) (by omega) (by omega) (by omega) (by omega) (by omega) (by omega)
  rw [← accV_four] at e
  go_enter Try.func70, Try.ntmps70
  go_wp2_with (go_at_call 71; refine (refAt_any _ _ _ xs _ _ h (by omega) (by omega)).mono ?_; rintro e w' ⟨rfl, rfl⟩)
  go_ret
  exact ⟨rfl, rfl⟩

theorem refPut16_any (n : Int) (w : World) (n1 : -9223372036854775808 ≤ n) (n2 : n ≤ 9223372036854775807) :
    Calls Try.prog 36 #[.int .i64 n] w fun e w' => e = .returned (.slice (some ⟨w.heap.size, 0, none⟩) 2 2) ∧ w' = w.alloc (.cells #[.int .u8 (n / 256 % 256), .int .u8 (n % 256)] 5) := by
  go_enter Try.func36, Try.ntmps36
  go_wp2
  go_ret
  exact ⟨rfl, rfl⟩

theorem refPut32_any (n : Int) (w : World) (n1 : 0 ≤ n) (n2 : n ≤ 4294967295) :
    Calls Try.prog 37 #[.int .u32 n] w fun e w' => e = .returned (.slice (some ⟨w.heap.size, 0, none⟩) 4 4) ∧ w' = w.alloc (.cells #[.int .u8 (n / 16777216), .int .u8 (n / 65536 % 256), .int .u8 (n / 256 % 256), .int .u8 (n % 256)] 5) := by
  go_enter Try.func37, Try.ntmps37
  go_wp2
  go_ret
  exact ⟨rfl, rfl⟩

theorem refPut16_new (n : Int) (w : World) (n1 : -9223372036854775808 ≤ n) (n2 : n ≤ 9223372036854775807) :
    Calls Try.prog 36 #[.int .i64 n] w fun e w' => ∃ a, e = .returned (.slice a 2 2) ∧ Bytes w' a 2 [n / 256 % 256, n % 256] ∧ Ext w w' :=
  (refPut16_any n w n1 n2).mono fun e w' ⟨he, hw⟩ => ⟨_, he, by rw [hw]; exact Bytes.new w 5 [n / 256 % 256, n % 256] (by intro x hx; simp at hx; omega) (by simp), by rw [hw]; exact (Ext.refl _).alloc _⟩

theorem refPut32_new (n : Int) (w : World) (n1 : 0 ≤ n) (n2 : n ≤ 4294967295) :
    Calls Try.prog 37 #[.int .u32 n] w fun e w' => ∃ a, e = .returned (.slice a 4 4) ∧ Bytes w' a 4 [n / 16777216, n / 65536 % 256, n / 256 % 256, n % 256] ∧ Ext w w' :=
  (refPut32_any n w n1 n2).mono fun e w' ⟨he, hw⟩ => ⟨_, he, by rw [hw]; exact Bytes.new w 5 [n / 16777216, n / 65536 % 256, n / 256 % 256, n % 256] (by intro x hx; simp at hx; omega) (by simp), by rw [hw]; exact (Ext.refl _).alloc _⟩

end Go.Proofs.Ytkagkfbdpiblkaa
