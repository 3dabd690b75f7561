/- The header that is not sent, by the document: a row of the caller's own. -/
import Derived.Test.YtkagkfbdpiblkaaPseudo
namespace Go.Proofs.Ytkagkfbdpiblkaa
open Go.RowKit
set_option linter.unusedVariables false

set_option maxHeartbeats 1000000 in
theorem refPseudo_own (src dst proto n : Int) (w : World) (s0 : 0 ≤ src) (s1 : src ≤ 4294967295) (d0 : 0 ≤ dst) (d1 : dst ≤ 4294967295) (p0 : -9223372036854775808 ≤ proto) (p1 : proto ≤ 9223372036854775807) (n0 : -9223372036854775808 ≤ n) (n1 : n ≤ 9223372036854775807) :
    Calls Try.prog 41 #[.int .u32 src, .int .u32 dst, .int .i64 proto, .int .i64 n] w fun e w' => ∃ p c, e = .returned (.slice p 12 c) ∧ w'.ownsRow w.heap.size 5 1 (.slice p 12 c) 12 ((pseudoV src dst proto n).map (Value.int .u8)) ∧ Ext w w' := by
  obtain ⟨i0, hi, hz0, hz1, hz2⟩ := info_parts Try.infoByte
  have tok1 : Hid True := trivial
  have tok2 : Hid True := trivial
  have tok3 : Hid True := trivial
  have c1 : ∀ w, _ := fun w => refPut32_own src w s0 s1
  have c2 : ∀ w, _ := fun w => refPut32_new dst w d0 d1
  have c4 : ∀ w, _ := fun w => refPut16_new n w n0 n1
  go_enter Try.func41, Try.ntmps41
  go_wp2_with (first
    | (go_at_call 37; clear tok1; refine (c1 w).mono ?_; rintro e w1 ⟨rfl, ho1, hx1⟩)
    | (go_at_call 37; refine (c2 w1).mono ?_; rintro e w2 ⟨p2, rfl, hp2, hx2⟩; replace ho1 := owns_later ho1 hx2; have hX := hx1.trans hx2)
    | (at_builtin; clear tok2; refine append_bytes (by rfl) (.tmp 11) (.tmp 13) 22 rfl w.heap.size 5 i0 (.int .u8 0) Try.underlying22 hi hz0 hz1 hz2 rfl _ _ _ rfl ho1 p2 4 4 _ rfl hp2 (hp2.has (by omega) 4) (by omega) hX.size ?_; intro v3 w3 ho3 hg3; replace hX := grown_ext hX ho1 hg3; clear hg3 ho1 hp2)
    | (at_builtin; clear tok3; have hp4 : Bytes (w3.alloc (.cells #[.int .u8 0, .int .u8 (proto % 256)] 5)) (some ⟨w3.heap.size, 0, none⟩) 2 [0, proto % 256] := Bytes.new w3 _ [0, proto % 256] (by intro x hx; simp at hx; omega) (by simp); have hX' : Ext w (w3.alloc (.cells #[.int .u8 0, .int .u8 (proto % 256)] 5)) := hX.alloc _; refine append_bytes (by rfl) (.tmp 15) (.tmp 18) 22 rfl w.heap.size 5 i0 (.int .u8 0) Try.underlying22 hi hz0 hz1 hz2 rfl _ _ _ rfl (owns_later ho3 ((Ext.refl _).alloc _)) _ 2 2 _ rfl hp4 (by simp) (by omega) hX'.size ?_; intro v4 w4 ho4 hg4; replace hX := grown_ext hX' (owns_later ho3 ((Ext.refl _).alloc _)) hg4; clear hg4 ho3 hX' hp4)
    | (go_at_call 36; refine (c4 w4).mono ?_; rintro e w5 ⟨p5, rfl, hp5, hx5⟩; replace ho4 := owns_later ho4 hx5; replace hX := hX.trans hx5)
    | (at_builtin; refine append_bytes (by rfl) (.tmp 19) (.tmp 21) 22 rfl w.heap.size 5 i0 (.int .u8 0) Try.underlying22 hi hz0 hz1 hz2 rfl _ _ _ rfl ho4 p5 2 2 _ rfl hp5 (hp5.has (by omega) 2) (by omega) hX.size ?_; intro v6 w6 ho6 hg6; replace hX := grown_ext hX ho4 hg6; clear hg6 ho4 hp5))
  have e : b32 src ++ [dst / 16777216, dst / 65536 % 256, dst / 256 % 256, dst % 256] ++ [0, proto % 256] ++ [n / 256 % 256, n % 256] = pseudoV src dst proto n := by simp [pseudoV, b32, b16]
  rw [e] at ho6
  obtain ⟨p7, c7, rfl⟩ := owns_shape ho6
  go_ret
  exact ⟨_, _, rfl, ho6, hX⟩

end Go.Proofs.Ytkagkfbdpiblkaa
