/- What ip.Less and the document's own Less answer at any bytes (chapter 4). -/
import Derived.Test.YtlfjbmjincffoaaIpL
import Derived.Test.YtlfjbmjincffoaaIp3
import Derived.Test.YtlfjbmjincffoaaIp5
namespace Go.Proofs.Ytlfjbmjincffoaa
open Go.RowKit
set_option linter.unusedVariables false

theorem less_bad (a : Option Addr) (len cap : Nat) (xs : List Int) (w : World) (h : Bytes w a len xs) (hcap : len ≤ cap) (hn : len ≤ 1000000) (hv : lookV xs ≠ 0) :
    Calls Try.prog 22 #[.slice a len cap] w fun e w' => e = .returned (.slice none 0 0) ∧ Ext w w' := by
  have c1 := fun w h => lengths_any a len cap xs w h hcap hn
  unfold lenE at c1
  rw [if_neg hv, if_neg hv] at c1
  have hne : (lookV xs == 0) = false := by simpa using hv
  have hne2 : (lookV xs != 0) = true := by simpa using hv
  generalize lookV xs = er at *
  clear hv
  go_enter Try.func22, Try.ntmps22
  go_wp2_with (go_at_call 25; refine (c1 _ h).mono ?_; rintro e w1 ⟨rfl, hx1⟩)
  go_ret
  exact ⟨rfl, hx1⟩

theorem less_none (a : Option Addr) (len cap : Nat) (xs : List Int) (w : World) (h : Bytes w a len xs) (hcap : len ≤ cap) (hn : len ≤ 1000000) (L : Looks xs) (h8 : byteV xs 8 = 0) :
    Calls Try.prog 22 #[.slice a len cap] w fun e w' => e = .returned (.slice none 0 0) ∧ Ext w w' := by
  have c1 := fun w h => lengths_any a len cap xs w h hcap hn
  have hv := (looks_iff xs).2 L
  unfold lenE at c1
  rw [if_pos hv, if_pos hv, hv] at c1
  have hl := h.length
  have l1 := L.len
  obtain ⟨b, off, rfl, hc⟩ := h.cell (k := 8) (by omega)
  have x8 : byteV xs 8 = xs[8]?.getD 0 := byteV_nat xs 8
  rw [← x8, h8] at hc
  have hr : ∀ w', Ext w w' → w'.cell? ⟨b, off + 8, none⟩ = some (.int .u8 0) := fun w' hx => by rw [hx.cell (p := ⟨b, off + 8, none⟩) (block_lt hc)]; exact hc
  have l1' : 20 ≤ len := by omega
  have l8 : (8 : Int) < (len : Int) := by omega
  generalize headV xs = hd at *
  generalize get16V xs 2 = al at *
  clear hv hc x8
  go_enter Try.func22, Try.ntmps22
  go_wp2_with (go_at_call 25; refine (c1 _ h).mono ?_; rintro e w1 ⟨rfl, hx1⟩)
  go_ret
  exact ⟨rfl, hx1⟩

/-- What Less answers of a packet. -/
def LessAns (w : World) (xs : List Int) (n : Nat) (e : Ending) (w' : World) : Prop := ∃ q c, e = .returned (.slice q n c) ∧ w'.ownsRow w.heap.size 5 1 (.slice q n c) n ((lessV xs).map (Value.int .u8)) ∧ Ext w w'

set_option maxHeartbeats 1000000 in
theorem less_good (a : Option Addr) (len cap : Nat) (xs : List Int) (w : World) (h : Bytes w a len xs) (hcap : len ≤ cap) (hn : len ≤ 1000000) (L : Looks xs) (h8 : byteV xs 8 ≠ 0) (n : Nat) (hall : get16V xs 2 = n) :
    Calls Try.prog 22 #[.slice a len cap] w (LessAns w xs n) := by
  have c1 := fun w h => lengths_any a len cap xs w h hcap hn
  have hv := (looks_iff xs).2 L
  unfold lenE at c1
  rw [if_pos hv, if_pos hv, hv, hall] at c1
  have hl := h.length
  have l1 := L.len; have l2 := L.head; have l3 := L.all; have l4 := L.whole
  rw [hall] at l3 l4
  have hp := less_parts h.ok L h8
  have hln := less_len L
  rw [hall, Int.toNat_natCast] at hp hln
  have HP : Hid (∀ e w', LessAns w xs n e w' ↔ ∃ q c, e = .returned (.slice q n c) ∧ w'.ownsRow w.heap.size 5 1 (.slice q n c) n ((lessV xs).map (Value.int .u8)) ∧ Ext w w') := fun e w' => Iff.rfl
  generalize LessAns w xs n = Ans at *
  generalize lessV xs = Y at *
  obtain ⟨b, off, rfl, hc⟩ := h.cell (k := 8) (by omega)
  have x8 : byteV xs 8 = xs[8]?.getD 0 := byteV_nat xs 8
  rw [← x8] at hc
  have hr : ∀ w', Ext w w' → w'.cell? ⟨b, off + 8, none⟩ = some (.int .u8 (byteV xs 8)) := fun w' hx => by rw [hx.cell (p := ⟨b, off + 8, none⟩) (block_lt hc)]; exact hc
  have hne : (byteV xs 8 == 0) = false := by simpa using h8
  have b8 := h.ok.byteV 8
  have e16 : get16V xs 8 = byteV xs 8 * 256 + byteV xs 9 := rfl
  have b9 := h.ok.byteV 9
  have hw8 : 256 ≤ get16V xs 8 ∧ get16V xs 8 ≤ 65535 := by omega
  have g8 := fun w h => get16_any (some ⟨b, off, none⟩) len cap xs 8 w h (by omega) (by omega)
  have g10 := fun w h => get16_any (some ⟨b, off, none⟩) len cap xs 10 w h (by omega) (by omega)
  have g10b := get16V_bd h.ok 10
  have cu := fun w => update_any (get16V xs 10) (get16V xs 8) (get16V xs 8 - 256) w
  have hcb := lessC_bd xs
  change ∀ w, Calls _ _ _ w fun e w' => e = .returned (.int .i64 (lessC xs)) ∧ w' = w at cu
  obtain ⟨p2, hp2, hq2⟩ := h.part 12 n cap (by omega) (by omega) hcap
  have hq1 : ∀ w', Ext w w' → Bytes w' (some ⟨b, off, none⟩) 8 (xs.take 8) := fun w' hx => (h.below hx).take (by omega)
  have l1' : 20 ≤ len := by omega
  have l8 : (8 : Int) < (len : Int) := by omega
  have c8 : (8 : Int) ≤ (cap : Int) := by omega
  have cn : (n : Int) ≤ (cap : Int) := by omega
  have n12 : (12 : Int) ≤ (n : Int) := by omega
  have hn12 : 12 ≤ n := by omega
  rw [hl] at l4
  clear hv hc x8 e16
  generalize headV xs = hd at *
  generalize lessC xs = lc at *
  generalize get16V xs 8 = u8 at *
  generalize get16V xs 10 = u10 at *
  generalize byteV xs 8 = t8 at *
  have HF : Hid _ := hp
  clear hp
  have tok1 : Hid True := trivial
  go_enter Try.func22, Try.ntmps22
  go_wp2_with (first
    | (go_at_call 25; refine (c1 _ h).mono ?_; rintro e w1 ⟨rfl, hx1⟩)
    | (go_at_call 26; clear tok1; refine (g8 _ (h.below hx1)).mono ?_; rintro e w2 ⟨rfl, rfl⟩)
    | (go_at_call 26; refine (g10 _ (h.below hx1)).mono ?_; rintro e w3 ⟨rfl, rfl⟩)
    | (go_at_call 40; refine (cu _).mono ?_; rintro e w4 ⟨rfl, rfl⟩))
  have hX : Ext w w4.drew := hx1.drew
  have hsz : w.heap.size ≤ w4.heap.size := hx1.size
  refine wp_region_make w.heap.size hsz [(0, 0), (1, 0), (2, 0), (4, 0), (6, 0), (7, 0), (8, 0), (3, 1), (5, 1), (9, 3), (9, 2), (10, 1), (11, 0)] (by kernel_rfl) (by kernel_rfl) rfl (by kernel_rfl) (fun _ _ _ _ _ => Iff.rfl) ?_
  clear hsz hx1 c1 g8 g10 cu
  generalize w4.drew = W at *
  repeat (first
    | (refine wpW_read (v := ?_) rfl (by rfl) ?_ ?_; rotate_left; (focus (intro w' hx; go_simp; first | done | with_reducible rfl)); simp only [Act.put, List.setIfInBounds_toArray, List.set_cons_zero, List.set_cons_succ]))
  refine wpW_call rfl (by rfl) (fun W1 hx1 K hK => ?_); go_simp; (go_at_call 32; refine (put16_new _ _ (by omega) (by omega)).mono ?_; rintro e W1' ⟨q1, rfl, hb1, hx1'⟩; refine hK _ _ hx1' ?_; clear hK K)
  refine wpW_call rfl (by rfl) (fun W2 hx2 K hK => ?_); go_simp; (go_at_call 32; refine (put16_new _ _ (by omega) (by omega)).mono ?_; rintro e W2' ⟨q2, rfl, hb2, hx2'⟩; refine hK _ _ hx2' ?_; clear hK K)
  (refine wpW_say _ (fun g => .slice (some ⟨g, 0, none⟩) 4 4) rfl (by rfl) (fun w' => by go_simp; first | done | with_reducible rfl) ?_)
  refine wpW_make _ (fun g => .slice (some ⟨g, 0, none⟩) 4 4) rfl (by rfl) (fun w' => by go_simp; first | done | with_reducible rfl) ?_; simp only [Act.put, List.setIfInBounds_toArray, List.set_cons_zero, List.set_cons_succ]; intro W3 g3 hx3 hB3 hg3
  refine wpW_call rfl (by rfl) (fun W4 hx4 K hK => ?_); go_simp; (go_at_call 28)
  have hX4 : Ext w W4 := hX.trans (hx1.trans (hx1'.trans (hx2.trans (hx2'.trans (hx3.trans hx4)))))
  have k1 := hq1 _ hX4
  have k2 := hb1.below (hx2.trans (hx2'.trans (hx3.trans hx4)))
  have k3 := hb2.below (hx3.trans hx4)
  have k4 := hq2 _ hX4
  refine (joinL_own g3 4 [.slice (some ⟨b, off, none⟩) 8 cap, .slice q1 2 2, .slice q2 2 2, .slice (some p2) (n - 12) (cap - 12)] _ W4 (hx4.heap hg3) rfl (by omega)
    (fun i hi => by
      match i, hi with
      | 0, _ => exact ⟨_, _, _, rfl, k1, by simp⟩
      | 1, _ => exact ⟨_, _, _, rfl, k2, k2.has (by omega) _⟩
      | 2, _ => exact ⟨_, _, _, rfl, k3, k3.has (by omega) _⟩
      | 3, _ => exact ⟨_, _, _, rfl, k4, by simp⟩) Y n HF.out hln (by omega)).mono ?_
  rintro e W5 ⟨qY, dY, rfl, hoY, hx5⟩
  refine hK _ _ hx5 ?_
  clear hK K
  (refine wpW_read (v := ?_) rfl (by rfl) ?_ ?_; rotate_left; (focus (intro w' hx; go_simp; first | done | with_reducible rfl)); simp only [Act.put, List.setIfInBounds_toArray, List.set_cons_zero, List.set_cons_succ])
  refine wpW_done ?_
  go_wp2
  exact (HP.out _ _).2 ⟨qY, dY, rfl, owns_base hoY hX4.size, hX4.trans hx5⟩

end Go.Proofs.Ytlfjbmjincffoaa
