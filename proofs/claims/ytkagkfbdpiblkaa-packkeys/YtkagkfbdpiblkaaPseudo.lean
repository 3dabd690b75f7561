/- The header that is not sent: what package sum makes of it, and the document. -/
import Derived.Test.YtkagkfbdpiblkaaRef1
import Derived.Test.YtkagkfbdpiblkaaRef1J
import Derived.Test.YtkagkfbdpiblkaaOwn
import Derived.Test.YtkagkfbdpiblkaaSum
namespace Go.Proofs.Ytkagkfbdpiblkaa
open Go.RowKit
set_option linter.unusedVariables false

/-- Four bytes of a number. -/
def b32 (n : Int) : List Int := [n / 16777216, n / 65536 % 256, n / 256 % 256, n % 256]
/-- Two bytes of a number. -/
def b16 (n : Int) : List Int := [n / 256 % 256, n % 256]
/-- The header that is not sent (P2.1). -/
def pseudoV (src dst proto n : Int) : List Int := b32 src ++ (b32 dst ++ ([0, proto % 256] ++ b16 n))

theorem b32_ok {n : Int} (n0 : 0 ≤ n) (n1 : n ≤ 4294967295) : BytesOk (b32 n) := by intro x hx; simp [b32] at hx; omega
theorem b16_ok (n : Int) : BytesOk (b16 n) := by intro x hx; simp [b16] at hx; omega
theorem pseudoV_ok {src dst : Int} (proto n : Int) (s0 : 0 ≤ src) (s1 : src ≤ 4294967295) (d0 : 0 ≤ dst) (d1 : dst ≤ 4294967295) : BytesOk (pseudoV src dst proto n) :=
  bytesOk_append (b32_ok s0 s1) (bytesOk_append (b32_ok d0 d1) (bytesOk_append (by intro x hx; simp at hx; omega) (b16_ok n)))

/-- Join of four. -/
theorem join4_any (N : Nat) (p0 p1 p2 p3 : Option Addr) (n0 n1 n2 n3 c0 c1 c2 c3 : Nat) (x0 x1 x2 x3 : List Int) (w : World) (hN : w.heap.size = N) (b0 : Bytes w p0 n0 x0) (b1 : Bytes w p1 n1 x1) (b2 : Bytes w p2 n2 x2) (b3 : Bytes w p3 n3 x3)
    (z0 : p0 = none → c0 = 0) (z1 : p1 = none → c1 = 0) (z2 : p2 = none → c2 = 0) (z3 : p3 = none → c3 = 0) (m : Nat) (hm : n0 + (n1 + (n2 + n3)) = m) (hs : m ≤ 1000000) :
    Calls Try.prog 45 #[.slice (some ⟨N, 0, none⟩) 4 4] (w.alloc (.cells #[.slice p0 n0 c0, .slice p1 n1 c1, .slice p2 n2 c2, .slice p3 n3 c3] 22)) fun e w' =>
      ∃ p c, e = .returned (.slice p m c) ∧ Bytes w' p m (x0 ++ (x1 ++ (x2 ++ x3))) ∧ (p = none → c = 0) ∧ Ext w w' := by
  subst hN
  have hL : BytesL (w.alloc (.cells #[.slice p0 n0 c0, .slice p1 n1 c1, .slice p2 n2 c2, .slice p3 n3 c3] 22)) (some ⟨w.heap.size, 0, none⟩) 4 [x0, x1, x2, x3] :=
    BytesL.new w _ [.slice p0 n0 c0, .slice p1 n1 c1, .slice p2 n2 c2, .slice p3 n3 c3] [x0, x1, x2, x3] (by simp) fun i hi => by
      match i, hi with
      | 0, _ => exact ⟨_, _, _, rfl, b0, z0⟩
      | 1, _ => exact ⟨_, _, _, rfl, b1, z1⟩
      | 2, _ => exact ⟨_, _, _, rfl, b2, z2⟩
      | 3, _ => exact ⟨_, _, _, rfl, b3, z3⟩
  refine (join_n _ _ 4 _ _ (x0 ++ (x1 ++ (x2 ++ x3))) m (by simp) (by simp only [List.length_append, b0.length, b1.length, b2.length, b3.length]; omega) hL hs (bytesOk_append b0.ok (bytesOk_append b1.ok (bytesOk_append b2.ok b3.ok)))).mono ?_
  rintro e w' ⟨p, c, he, hb, hz, hx⟩
  exact ⟨p, c, he, hb, hz, ((Ext.refl _).alloc _).trans hx⟩

theorem refPut32_own (n : Int) (w : World) (n0 : 0 ≤ n) (n1 : n ≤ 4294967295) :
    Calls Try.prog 37 #[.int .u32 n] w fun e w' => e = .returned (.slice (some ⟨w.heap.size, 0, none⟩) 4 4) ∧ w'.ownsRow w.heap.size 5 1 (.slice (some ⟨w.heap.size, 0, none⟩) 4 4) 4 ((b32 n).map (Value.int .u8)) ∧ Ext w w' :=
  (refPut32_any n w n0 n1).mono fun e w' ⟨he, hw⟩ => ⟨he, by rw [hw]; exact own_of_heap (heap_alloc_new w _) (Nat.le_refl _) rfl (by omega), by rw [hw]; exact (Ext.refl _).alloc _⟩

set_option maxHeartbeats 1000000 in
theorem refPseudo_any (src dst proto n : Int) (w : World) (s0 : 0 ≤ src) (s1 : src ≤ 4294967295) (d0 : 0 ≤ dst) (d1 : dst ≤ 4294967295) (p0 : -9223372036854775808 ≤ proto) (p1 : proto ≤ 9223372036854775807) (n0 : -9223372036854775808 ≤ n) (n1 : n ≤ 9223372036854775807) :
    Calls Try.prog 41 #[.int .u32 src, .int .u32 dst, .int .i64 proto, .int .i64 n] w fun e w' => ∃ p c, e = .returned (.slice p 12 c) ∧ Bytes w' p 12 (pseudoV src dst proto n) ∧ Ext w w' := by
  obtain ⟨i0, hi, hz0, hz1, hz2⟩ := info_parts Try.infoByte
  have tok1 : Hid True := trivial
  have tok2 : Hid True := trivial
  have tok3 : Hid True := trivial
  have c1 : ∀ w, _ := fun w => refPut32_own src w s0 s1
  have c2 : ∀ w, _ := fun w => refPut32_new dst w d0 d1
  have c4 : ∀ w, _ := fun w => refPut16_new n w n0 n1
  go_enter Try.func41, Try.ntmps41
  go_wp2_with (first
    | (go_at_call 37; clear tok1; refine (c1 w).mono ?_; rintro e w1 ⟨rfl, ho1, hx1⟩)
    | (go_at_call 37; refine (c2 w1).mono ?_; rintro e w2 ⟨p2, rfl, hp2, hx2⟩; replace ho1 := owns_later ho1 hx2; have hX := hx1.trans hx2)
    | (at_builtin; clear tok2; refine append_bytes (by rfl) (.tmp 11) (.tmp 13) 22 rfl w.heap.size 5 i0 (.int .u8 0) Try.underlying22 hi hz0 hz1 hz2 rfl _ _ _ rfl ho1 p2 4 4 _ rfl hp2 (hp2.has (by omega) 4) (by omega) hX.size ?_; intro v3 w3 ho3 hg3; replace hX := grown_ext hX ho1 hg3; clear hg3 ho1 hp2)
    | (at_builtin; clear tok3; have hp4 : Bytes (w3.alloc (.cells #[.int .u8 0, .int .u8 (proto % 256)] 5)) (some ⟨w3.heap.size, 0, none⟩) 2 [0, proto % 256] := Bytes.new w3 _ [0, proto % 256] (by intro x hx; simp at hx; omega) (by simp); have hX' : Ext w (w3.alloc (.cells #[.int .u8 0, .int .u8 (proto % 256)] 5)) := hX.alloc _; refine append_bytes (by rfl) (.tmp 15) (.tmp 18) 22 rfl w.heap.size 5 i0 (.int .u8 0) Try.underlying22 hi hz0 hz1 hz2 rfl _ _ _ rfl (owns_later ho3 ((Ext.refl _).alloc _)) _ 2 2 _ rfl hp4 (by simp) (by omega) hX'.size ?_; intro v4 w4 ho4 hg4; replace hX := grown_ext hX' (owns_later ho3 ((Ext.refl _).alloc _)) hg4; clear hg4 ho3 hX' hp4)
    | (go_at_call 36; refine (c4 w4).mono ?_; rintro e w5 ⟨p5, rfl, hp5, hx5⟩; replace ho4 := owns_later ho4 hx5; replace hX := hX.trans hx5)
    | (at_builtin; refine append_bytes (by rfl) (.tmp 19) (.tmp 21) 22 rfl w.heap.size 5 i0 (.int .u8 0) Try.underlying22 hi hz0 hz1 hz2 rfl _ _ _ rfl ho4 p5 2 2 _ rfl hp5 (hp5.has (by omega) 2) (by omega) hX.size ?_; intro v6 w6 ho6 hg6; replace hX := grown_ext hX ho4 hg6; clear hg6 ho4 hp5))
  have e : b32 src ++ [dst / 16777216, dst / 65536 % 256, dst / 256 % 256, dst % 256] ++ [0, proto % 256] ++ [n / 256 % 256, n % 256] = pseudoV src dst proto n := by simp [pseudoV, b32, b16]
  rw [e] at ho6
  obtain ⟨p7, c7, rfl, hp7, _⟩ := owns_bytes ho6 (pseudoV_ok proto n s0 s1 d0 d1)
  go_ret
  exact ⟨_, _, rfl, hp7, hX⟩

end Go.Proofs.Ytkagkfbdpiblkaa
