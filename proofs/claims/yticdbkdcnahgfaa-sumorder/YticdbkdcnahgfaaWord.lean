/- What the functions of package word, and the document's own, answer at any bytes: the contracts that the laws of chapter 1 rest on. -/
import Derived.Test.YticdbkdcnahgfaaRows
import Derived.Test.YticdbkdcnahgfaaPlain
import Derived.Test.YticdbkdcnahgfaaGrow
namespace Go.Proofs.Yticdbkdcnahgfaa
open Go.RowKit
set_option linter.unusedVariables false

theorem put16_any (n : Int) (w : World) (n1 : -9223372036854775808 ≤ n) (n2 : n ≤ 9223372036854775807) :
    Calls Try.prog 27 #[.int .i64 n] w fun e w' => e = .returned (.slice (some ⟨w.heap.size, 0, none⟩) 2 2) ∧ w' = w.alloc (.cells #[.int .u8 (n / 256 % 256), .int .u8 (n % 256)] 5) := by
  go_enter Try.func27, Try.ntmps27
  go_wp2
  go_ret
  exact ⟨rfl, rfl⟩

theorem put32_any (n : Int) (w : World) (n1 : 0 ≤ n) (n2 : n ≤ 4294967295) :
    Calls Try.prog 26 #[.int .u32 n] w fun e w' => e = .returned (.slice (some ⟨w.heap.size, 0, none⟩) 4 4) ∧ w' = w.alloc (.cells #[.int .u8 (n / 16777216), .int .u8 (n / 65536 % 256), .int .u8 (n / 256 % 256), .int .u8 (n % 256)] 5) := by
  go_enter Try.func26, Try.ntmps26
  go_wp2
  go_ret
  exact ⟨rfl, rfl⟩

/-- The slice's bytes as a text, in every later world. -/
theorem Bytes.conv {W : World} {a : Option Addr} {len : Nat} {xs : List Int} (h : Bytes W a len xs) (cap : Nat) :
    ∀ w', Ext W w' → Sem.run Try.prog (convert 24 9 (.slice a len cap)) w' = .ok (.string (strOfNums xs)) w' :=
  fun _ hx => (h.below hx).string cap _ _ _ Try.underlying24 Try.underlying5 Try.underlying9

theorem put16_new (n : Int) (w : World) (n1 : -9223372036854775808 ≤ n) (n2 : n ≤ 9223372036854775807) :
    Calls Try.prog 27 #[.int .i64 n] w fun e w' => ∃ a, e = .returned (.slice a 2 2) ∧ Bytes w' a 2 [n / 256 % 256, n % 256] ∧ Ext w w' :=
  (put16_any n w n1 n2).mono fun e w' ⟨he, hw⟩ => ⟨_, he, by rw [hw]; exact Bytes.new w 5 [n / 256 % 256, n % 256] (by intro x hx; simp at hx; omega) (by simp), by rw [hw]; exact (Ext.refl _).alloc _⟩

theorem put32_new (n : Int) (w : World) (n1 : 0 ≤ n) (n2 : n ≤ 4294967295) :
    Calls Try.prog 26 #[.int .u32 n] w fun e w' => ∃ a, e = .returned (.slice a 4 4) ∧ Bytes w' a 4 [n / 16777216, n / 65536 % 256, n / 256 % 256, n % 256] ∧ Ext w w' :=
  (put32_any n w n1 n2).mono fun e w' ⟨he, hw⟩ => ⟨_, he, by rw [hw]; exact Bytes.new w 5 [n / 16777216, n / 65536 % 256, n / 256 % 256, n % 256] (by intro x hx; simp at hx; omega) (by simp), by rw [hw]; exact (Ext.refl _).alloc _⟩

end Go.Proofs.Yticdbkdcnahgfaa
