/- What Join and Pad of package word answer: the bytes one behind the other, and noughts behind, in new memory. -/
import Derived.Test.YtkagkfbdpiblkaaWord
namespace Go.Proofs.Ytkagkfbdpiblkaa
open Go.RowKit
set_option linter.unusedVariables false

theorem Try.infoByte : (Try.prog.info? 5).map (fun i => (i.zero, i.size, i.bytes)) = some (some (.int .u8 0), 1, 1) := by kernel_rfl

theorem take_flat (L : List (List Int)) (k : Nat) : (L.take (k + 1)).flatten = (L.take k).flatten ++ L[k]?.getD [] := by
  rw [List.take_add_one]
  cases h : L[k]? <;> simp

theorem flat_le (L : List (List Int)) (k : Nat) : (L.take k).flatten.length ≤ L.flatten.length := by
  have h : L.flatten = (L.take k).flatten ++ (L.drop k).flatten := by rw [← List.flatten_append, List.take_append_drop]
  rw [h]; simp

theorem grown_ext {w wr w1 : World} {e : TypeId} {v : Value} {n : Nat} {ys : List Value} (hx : Ext w wr) (hown : wr.ownsRow w.heap.size e 1 v n ys) (hg : wr.grownBy w1 v.ownBlock) : Ext w w1 :=
  Below.grown hx hg hx.size fun k hk => (hown.lt k hk).1

set_option maxHeartbeats 1000000 in
theorem join_own (a : Option Addr) (len cap : Nat) (L : List (List Int)) (w : World) (h : BytesL w a len L) (hs : L.flatten.length ≤ 1000000) :
    Calls Try.prog 45 #[.slice a len cap] w fun e w' => ∃ v, e = .returned v ∧ w'.ownsRow w.heap.size 5 1 v L.flatten.length (L.flatten.map (Value.int .u8)) ∧ Ext w w' := by
  have hl := h.small
  obtain ⟨i0, hi, hz0, hz1, hz2⟩ := info_parts Try.infoByte
  go_enter Try.func45, Try.ntmps45
  go_wp2
  go_loopw [3, 8] (fun v i wr => ∃ k : Nat, k ≤ len ∧ i = .int .i64 k ∧ wr.ownsRow w.heap.size 5 1 v (L.take k).flatten.length ((L.take k).flatten.map (Value.int .u8)) ∧ Ext w wr) (fun _ i _ => len - (intOf i).toNat)
  case atStart => exact ⟨0, Nat.zero_le _, rfl, by simpa using World.ownsRow_nil _ _ _ _, Ext.refl _⟩
  case round =>
    obtain ⟨k, hk, rfl, hown, hx⟩ := hrel
    by_cases hlt : k < len
    · obtain ⟨b, off, p, n, c, rfl, hcell, hby, hnil⟩ := (h.below hx).cell hlt
      have hlen := hby.length
      have hT := take_flat L k
      have hT2 : (L.take (k + 1)).flatten.length = (L.take k).flatten.length + n := by rw [hT, List.length_append, hlen]
      have hT3 := flat_le L (k + 1)
      have HT : Hid _ := hT
      have HT2 : Hid _ := hT2
      have hsm : (L.take k).flatten.length + n ≤ 1000000 := by omega
      have hbase := hx.size
      clear hT hT2 hT3 hlen
      go_wp2_with (at_builtin; refine append_bytes rfl (.tmp 12) (.tmp 13) 22 rfl w.heap.size 5 i0 (.int .u8 0) Try.underlying22 hi hz0 hz1 hz2 rfl _ _ _ rfl hown p n c _ rfl hby hnil (by omega) hbase ?_; intro v' w1 hown' hgrow)
      have hx1 := grown_ext hx hown hgrow
      rw [← HT.out, ← HT2.out] at hown'
      clear hown hgrow hcell hby
      go_wp2
      go_roundw
      case rel => exact ⟨k + 1, by omega, by go_num, hown', hx1⟩
      case measure => simp [intOf]; omega
    · obtain rfl : k = len := by omega
      have e : L.take k = L := List.take_of_length_le (by rw [h.length]; exact Nat.le_refl _)
      rw [e] at hown
      go_wp2
      go_ret
      exact ⟨_, rfl, hown, hx⟩

/-- Join, as bytes. -/
theorem join_any (a : Option Addr) (len cap : Nat) (L : List (List Int)) (w : World) (h : BytesL w a len L) (hs : L.flatten.length ≤ 1000000) (hok : BytesOk L.flatten) :
    Calls Try.prog 45 #[.slice a len cap] w fun e w' => ∃ p c, e = .returned (.slice p L.flatten.length c) ∧ Bytes w' p L.flatten.length L.flatten ∧ (p = none → c = 0) ∧ Ext w w' :=
  (join_own a len cap L w h hs).mono fun e w' ⟨v, he, hown, hx⟩ => by
    obtain ⟨p, c, rfl, hb, hn⟩ := owns_bytes hown hok
    exact ⟨p, c, he, hb, hn, hx⟩

/-- Join of three. -/
theorem join3_any (p0 p1 p2 : Option Addr) (n0 n1 n2 c0 c1 c2 : Nat) (x0 x1 x2 : List Int) (w : World) (b0 : Bytes w p0 n0 x0) (b1 : Bytes w p1 n1 x1) (b2 : Bytes w p2 n2 x2)
    (z0 : p0 = none → c0 = 0) (z1 : p1 = none → c1 = 0) (z2 : p2 = none → c2 = 0) (hs : n0 + n1 + n2 ≤ 1000000) :
    Calls Try.prog 45 #[.slice (some ⟨w.heap.size, 0, none⟩) 3 3] (w.alloc (.cells #[.slice p0 n0 c0, .slice p1 n1 c1, .slice p2 n2 c2] 22)) fun e w' =>
      ∃ p c, e = .returned (.slice p (n0 + n1 + n2) c) ∧ Bytes w' p (n0 + n1 + n2) (x0 ++ (x1 ++ x2)) ∧ (p = none → c = 0) ∧ Ext w w' := by
  have hL : BytesL (w.alloc (.cells #[.slice p0 n0 c0, .slice p1 n1 c1, .slice p2 n2 c2] 22)) (some ⟨w.heap.size, 0, none⟩) 3 [x0, x1, x2] :=
    BytesL.new w _ [.slice p0 n0 c0, .slice p1 n1 c1, .slice p2 n2 c2] [x0, x1, x2] (by simp) fun i hi => by
      match i, hi with
      | 0, _ => exact ⟨_, _, _, rfl, b0, z0⟩
      | 1, _ => exact ⟨_, _, _, rfl, b1, z1⟩
      | 2, _ => exact ⟨_, _, _, rfl, b2, z2⟩
  have hf : [x0, x1, x2].flatten = x0 ++ (x1 ++ x2) := by simp
  have hn : [x0, x1, x2].flatten.length = n0 + n1 + n2 := by
    rw [hf]; simp only [List.length_append, b0.length, b1.length, b2.length]; omega
  refine (join_any _ _ 3 _ _ hL (by omega) ?_).mono ?_
  · rw [hf]
    intro x hx
    rcases List.mem_append.1 hx with h | h
    · exact b0.ok x h
    · rcases List.mem_append.1 h with h | h
      · exact b1.ok x h
      · exact b2.ok x h
  · rintro e w' ⟨p, c, he, hb, hz, hx⟩
    rw [hn] at he hb
    rw [hf] at hb
    exact ⟨p, c, he, hb, hz, ((Ext.refl _).alloc _).trans hx⟩

theorem Try.infoSize : (Try.prog.info? 5).map (·.size) = some 1 := by kernel_rfl

/-- Join, the bytes and their number under names. -/
theorem join_n (a : Option Addr) (len cap : Nat) (L : List (List Int)) (w : World) (ys : List Int) (n : Nat) (hf : L.flatten = ys) (hn : ys.length = n) (h : BytesL w a len L) (hs : n ≤ 1000000) (hok : BytesOk ys) :
    Calls Try.prog 45 #[.slice a len cap] w fun e w' => ∃ p c, e = .returned (.slice p n c) ∧ Bytes w' p n ys ∧ (p = none → c = 0) ∧ Ext w w' := by
  subst hf; subst hn; exact join_any a len cap L w h hs hok

end Go.Proofs.Ytkagkfbdpiblkaa
