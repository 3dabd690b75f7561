/- What the document's own Join and Pad of chapter 1 answer: the bytes one behind the other, and noughts behind. -/
import Derived.Test.YticdbkdcnahgfaaWordJ
namespace Go.Proofs.Yticdbkdcnahgfaa
open Go.RowKit
set_option linter.unusedVariables false

theorem owns_shape {w : World} {base : Nat} {e : TypeId} {v : Value} {n : Nat} {xs : List Value} (h : w.ownsRow base e 1 v n xs) : ∃ a c, v = .slice a n c := by
  rcases h.2 with ⟨rfl, rfl⟩ | ⟨g, cap, cur, rfl, _⟩
  · exact ⟨_, _, rfl⟩
  · exact ⟨_, _, rfl⟩

set_option maxHeartbeats 1000000 in
theorem refJoin_own (a : Option Addr) (len cap : Nat) (L : List (List Int)) (w : World) (h : BytesL w a len L) (hs : L.flatten.length ≤ 1000000) :
    Calls Try.prog 9 #[.slice a len cap] w fun e w' => ∃ v, e = .returned v ∧ w'.ownsRow w.heap.size 5 1 v L.flatten.length (L.flatten.map (Value.int .u8)) ∧ Ext w w' := by
  have hl := h.small
  obtain ⟨i0, hi, hz0, hz1, hz2⟩ := info_parts Try.infoByte
  go_enter Try.func9, Try.ntmps9
  go_wp2
  go_loopw [3, 4] (fun v i wr => ∃ k : Nat, k ≤ len ∧ i = .int .i64 k ∧ wr.ownsRow w.heap.size 5 1 v (L.take k).flatten.length ((L.take k).flatten.map (Value.int .u8)) ∧ Ext w wr) (fun _ i _ => len - (intOf i).toNat)
  case atStart => exact ⟨0, Nat.zero_le _, rfl, by simpa using World.ownsRow_nil _ _ _ _, Ext.refl _⟩
  case round =>
    obtain ⟨k, hk, rfl, hown, hx⟩ := hrel
    by_cases hlt : k < len
    · obtain ⟨b, off, p, n, c, rfl, hcell, hby, hnil⟩ := (h.below hx).cell hlt
      have hlen := hby.length
      have hT := take_flat L k
      have hT2 : (L.take (k + 1)).flatten.length = (L.take k).flatten.length + n := by rw [hT, List.length_append, hlen]
      have hT3 := flat_le L (k + 1)
      have HT : Hid _ := hT
      have HT2 : Hid _ := hT2
      have hsm : (L.take k).flatten.length + n ≤ 1000000 := by omega
      have hbase := hx.size
      clear hT hT2 hT3 hlen
      go_wp2_with (at_builtin; refine append_bytes rfl (.tmp 11) (.tmp 15) 24 rfl w.heap.size 5 i0 (.int .u8 0) Try.underlying24 hi hz0 hz1 hz2 rfl _ _ _ rfl hown p n c _ rfl hby hnil (by omega) hbase ?_; intro v' w1 hown' hgrow)
      have hx1 := grown_ext hx hown hgrow
      rw [← HT.out, ← HT2.out] at hown'
      clear hown hgrow hcell hby
      go_wp2
      go_roundw
      case rel => exact ⟨k + 1, by omega, by go_num, hown', hx1⟩
      case measure => simp [intOf]; omega
    · obtain rfl : k = len := by omega
      have e : L.take k = L := List.take_of_length_le (by rw [h.length]; exact Nat.le_refl _)
      rw [e] at hown
      go_wp2
      go_ret
      exact ⟨_, rfl, hown, hx⟩

theorem pad_step (xs : List Int) (j : Nat) : xs ++ List.replicate (j + 1) 0 = xs ++ List.replicate j 0 ++ [(0 : Int)] := by
  rw [List.replicate_succ', List.append_assoc]

theorem refJoin_n (a : Option Addr) (len cap : Nat) (L : List (List Int)) (w : World) (ys : List Int) (n : Nat) (hf : L.flatten = ys) (hn : ys.length = n) (h : BytesL w a len L) (hs : n ≤ 1000000) (hok : BytesOk ys) :
    Calls Try.prog 9 #[.slice a len cap] w fun e w' => ∃ p c, e = .returned (.slice p n c) ∧ Bytes w' p n ys ∧ (p = none → c = 0) ∧ Ext w w' := by
  subst hf; subst hn
  exact (refJoin_own a len cap L w h hs).mono fun e w' ⟨v, he, hown, hx⟩ => by
    obtain ⟨p, c, rfl, hb, hn⟩ := owns_bytes hown hok
    exact ⟨p, c, he, hb, hn, hx⟩

end Go.Proofs.Yticdbkdcnahgfaa
