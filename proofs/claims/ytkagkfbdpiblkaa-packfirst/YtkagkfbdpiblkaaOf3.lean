/- The checksum of a literal of slices; two bytes of a number, as a row of the caller's own. -/
import Derived.Test.YtkagkfbdpiblkaaPart
import Derived.Test.YtkagkfbdpiblkaaOfL
import Derived.Test.YtkagkfbdpiblkaaPseudo
namespace Go.Proofs.Ytkagkfbdpiblkaa
open Go.RowKit
set_option linter.unusedVariables false

/-- Of three. -/
theorem of3_any (p0 : Option Addr) (n0 c0 : Nat) (p1 : Option Addr) (n1 c1 : Nat) (p2 : Option Addr) (n2 c2 : Nat) (x0 x1 x2 : List Int) (w : World) (b0 : Bytes w p0 n0 x0) (b1 : Bytes w p1 n1 x1) (b2 : Bytes w p2 n2 x2) (z0 : p0 = none → c0 = 0) (z1 : p1 = none → c1 = 0) (z2 : p2 = none → c2 = 0) (hs : n0 + (n1 + n2) ≤ 1000000) :
    Calls Try.prog 77 #[.slice (some ⟨w.heap.size, 0, none⟩) 3 3] (w.alloc (.cells #[.slice p0 n0 c0, .slice p1 n1 c1, .slice p2 n2 c2] 22)) fun e w' => e = .returned (.int .i64 (ofV (x0 ++ (x1 ++ x2)))) ∧ Ext w w' := by
  have hL : BytesL (w.alloc (.cells #[.slice p0 n0 c0, .slice p1 n1 c1, .slice p2 n2 c2] 22)) (some ⟨w.heap.size, 0, none⟩) 3 [x0, x1, x2] :=
    BytesL.new w _ [.slice p0 n0 c0, .slice p1 n1 c1, .slice p2 n2 c2] [x0, x1, x2] (by simp) fun i hi => by
      match i, hi with
      | 0, _ => exact ⟨_, _, _, rfl, b0, z0⟩
      | 1, _ => exact ⟨_, _, _, rfl, b1, z1⟩
      | 2, _ => exact ⟨_, _, _, rfl, b2, z2⟩
  refine (of_n _ 3 3 [x0, x1, x2] _ (x0 ++ (x1 ++ x2)) (n0 + (n1 + n2)) (by simp) (by simp only [List.length_append, b0.length, b1.length, b2.length]) hL hs (bytesOk_append b0.ok (bytesOk_append b1.ok b2.ok))).mono ?_
  rintro e w' ⟨he, hw⟩
  exact ⟨he, by rw [hw]; exact (Ext.refl _).alloc _⟩

theorem refPut16_own (n : Int) (w : World) (n1 : -9223372036854775808 ≤ n) (n2 : n ≤ 9223372036854775807) :
    Calls Try.prog 36 #[.int .i64 n] w fun e w' => e = .returned (.slice (some ⟨w.heap.size, 0, none⟩) 2 2) ∧ w'.ownsRow w.heap.size 5 1 (.slice (some ⟨w.heap.size, 0, none⟩) 2 2) 2 (([n / 256 % 256, n % 256]).map (Value.int .u8)) ∧ Ext w w' :=
  (refPut16_any n w n1 n2).mono fun e w' ⟨he, hw⟩ => ⟨he, by rw [hw]; exact own_of_heap (heap_alloc_new w _) (Nat.le_refl _) rfl (by omega), by rw [hw]; exact (Ext.refl _).alloc _⟩

end Go.Proofs.Ytkagkfbdpiblkaa
