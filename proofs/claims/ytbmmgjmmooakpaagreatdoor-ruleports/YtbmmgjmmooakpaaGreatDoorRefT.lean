/- The document's texts of chapter 3 (castellanref3): a number in digits, an address and a prefix as a text. -/
import Derived.Test.YtbmmgjmmooakpaaGreatDoorAddrT
import Derived.Test.YtbmmgjmmooakpaaGreatDoorRef3
namespace Go.Proofs.YtbmmgjmmooakpaaGreatDoor
set_option maxRecDepth 100000
open Go.RowKit
set_option linter.unusedVariables false

theorem decB_small (n : Int) (h0 : 0 ≤ n) (h1 : n < 10) : decB n = strOfNums [48 + n] := by
  unfold decB
  rw [Lib.decDigits, dif_pos (by omega)]
  unfold strOfNums
  congr 2
  rw [List.map_cons, List.map_nil]
  congr 2
  omega

theorem decB_big (n : Int) (h1 : 10 ≤ n) : decB n = decB (n / 10) ++ decB (n % 10) := by
  unfold decB
  rw [Lib.decDigits, dif_neg (by omega), Lib.decDigits.eq_1 (n % 10).toNat, dif_pos (by omega)]
  apply ByteArray.ext
  rw [ByteArray.data_append, show n.toNat / 10 = (n / 10).toNat by omega, show n.toNat % 10 = (n % 10).toNat by omega]
  simp

theorem refDec_small (n : Int) (w : World) (h0 : 0 ≤ n) (hn : n < 10) :
    Calls Tryz.prog 22 #[.int .i64 n] w fun e w' => e = .returned (.string (decB n)) ∧ Ext w w' := by
  have hb := Bytes.new w 5 [48 + n] (by intro x hx; simp at hx; omega) (by simp)
  have hc : (convert 74 9 (.slice (some ⟨w.heap.size, 0, none⟩) 1 1)).run Tryz.prog (w.alloc (.cells #[.int .u8 (48 + n)] 5)) = .ok (.string (strOfNums [48 + n])) (w.alloc (.cells #[.int .u8 (48 + n)] 5)) :=
    hb.string 1 74 5 9 Tryz.underlying74 Tryz.underlying5 Tryz.underlying9
  rw [decB_small n h0 hn]
  generalize strOfNums [48 + n] = S at *
  clear hb
  go_enter Tryz.func22, Tryz.ntmps22
  go_wp2_with fail
  go_ret
  exact ⟨rfl, (Ext.refl w).alloc _⟩

theorem refDec_any (k : Nat) : ∀ (n : Int) (w : World), n ≤ k → 0 ≤ n → n ≤ 99999 →
    Calls Tryz.prog 22 #[.int .i64 n] w fun e w' => e = .returned (.string (decB n)) ∧ Ext w w' := by
  induction k with
  | zero =>
    intro n w hk h0 h1
    exact refDec_small n w h0 (by omega)
  | succ k ih =>
    intro n w hk h0 h1
    by_cases hn : n < 10
    · exact refDec_small n w h0 hn
    · have c1 := fun w => ih (n / 10) w (by omega) (by omega) (by omega)
      have c2 := fun w => refDec_small (n % 10) w (by omega) (by omega)
      have z1 : (decB (n / 10)).size ≤ 5 := decB_size5 _ (by omega)
      have z2 : (decB (n % 10)).size ≤ 3 := decB_size _ (by omega)
      rw [decB_big n (by omega)]
      have hn2 : 10 ≤ n := by omega
      clear ih hn hk
      generalize decB (n / 10) = A at *
      generalize decB (n % 10) = B at *
      have tok : Hid True := trivial
      go_enter Tryz.func22, Tryz.ntmps22
      go_wp2_with (first
        | (go_at_call 22; clear tok; refine (c1 _).mono ?_; rintro e w1 ⟨rfl, hx1⟩)
        | (go_at_call 22; refine (c2 _).mono ?_; rintro e w2 ⟨rfl, hx2⟩))
      go_ret
      exact ⟨rfl, hx1.trans hx2⟩

theorem dec_any (n : Int) (w : World) (h0 : 0 ≤ n) (h1 : n ≤ 99999) :
    Calls Tryz.prog 22 #[.int .i64 n] w fun e w' => e = .returned (.string (decB n)) ∧ Ext w w' := refDec_any n.toNat n w (by omega) h0 h1

theorem refPrint_any (a : Int) (w : World) (a0 : 0 ≤ a) (a1 : a ≤ 4294967295) :
    Calls Tryz.prog 44 #[.int .u32 a] w fun e w' => e = .returned (.string (printB a)) ∧ Ext w w' := by
  unfold printB
  have m2 : bits .and .u32 (a / 65536) 255 = a / 65536 % 256 := bits_mask .u32 32 (by decide) wrapsU32 8 (by decide) _ (by omega) (by omega)
  have m3 : bits .and .u32 (a / 256) 255 = a / 256 % 256 := bits_mask .u32 32 (by decide) wrapsU32 8 (by decide) _ (by omega) (by omega)
  have m4 : bits .and .u32 a 255 = a % 256 := bits_mask .u32 32 (by decide) wrapsU32 8 (by decide) _ (by omega) (by omega)
  rw [show a / 16777216 % 256 = a / 16777216 by omega]
  have c1 := fun w => dec_any (a / 16777216) w (by omega) (by omega)
  have c2 := fun w => dec_any (a / 65536 % 256) w (by omega) (by omega)
  have c3 := fun w => dec_any (a / 256 % 256) w (by omega) (by omega)
  have c4 := fun w => dec_any (a % 256) w (by omega) (by omega)
  have z1 := decB_size (a / 16777216) (by omega)
  have z2 := decB_size (a / 65536 % 256) (by omega)
  have z3 := decB_size (a / 256 % 256) (by omega)
  have z4 := decB_size (a % 256) (by omega)
  generalize decB (a / 16777216) = s1 at *
  generalize decB (a / 65536 % 256) = s2 at *
  generalize decB (a / 256 % 256) = s3 at *
  generalize decB (a % 256) = s4 at *
  have tok1 : Hid True := trivial
  have tok2 : Hid True := trivial
  have tok3 : Hid True := trivial
  go_enter Tryz.func44, Tryz.ntmps44
  go_wp2_with (first
    | (go_at_call 22; clear tok1; refine (c1 _).mono ?_; rintro e w1 ⟨rfl, hx1⟩)
    | (go_at_call 22; clear tok2; refine (c2 _).mono ?_; rintro e w2 ⟨rfl, hx2⟩)
    | (go_at_call 22; clear tok3; refine (c3 _).mono ?_; rintro e w3 ⟨rfl, hx3⟩)
    | (go_at_call 22; refine (c4 _).mono ?_; rintro e w4 ⟨rfl, hx4⟩))
  go_ret
  exact ⟨rfl, ((hx1.trans hx2).trans hx3).trans hx4⟩
end Go.Proofs.YtbmmgjmmooakpaaGreatDoor
