/- What the functions of package sum answer: the contracts that the laws of chapter 2 rest on. -/
import Derived.Test.YtkagkfbdpiblkaaWordJ
import Derived.Test.YtkagkfbdpiblkaaSumP
namespace Go.Proofs.Ytkagkfbdpiblkaa
open Go.RowKit
set_option linter.unusedVariables false

theorem fold_any (n : Int) (w : World) (n0 : 0 ≤ n) (n1 : n ≤ 9223372036854775807) :
    Calls Try.prog 79 #[.int .u64 n] w fun e w' => e = .returned (.int .i64 (foldV n)) ∧ w' = w := by
  go_enter Try.func79, Try.ntmps79
  go_wp2
  go_loop [0] (fun t => ∃ m : Int, 0 ≤ m ∧ m ≤ 9223372036854775807 ∧ foldV m = foldV n ∧ t = .int .u64 m) (fun t => (intOf t).toNat)
  case atStart => exact ⟨n, n0, n1, rfl, rfl⟩
  case round =>
    obtain ⟨m, m0, m1, hm, rfl⟩ := hrel
    by_cases hlt : 65535 < m
    · have ha := u64_and16 m m0 (by omega)
      have hs := foldV_step hlt
      rw [hm] at hs
      have HS : Hid _ := hs
      clear hs hm
      go_wp2
      go_round
      case rel => exact ⟨m / 65536 + m % 65536, by omega, by omega, HS.out, by go_num⟩
      case measure => simp [intOf]; omega
    · have hs := foldV_small m0 (show m ≤ 65535 by omega)
      rw [hm] at hs
      have HS : Hid _ := hs
      clear hs hm
      go_wp2
      go_ret
      exact ⟨by rw [HS.out]; rfl, rfl⟩

theorem complement_any (n : Int) (w : World) (n0 : 0 ≤ n) (n1 : n ≤ 65535) :
    Calls Try.prog 78 #[.int .i64 n] w fun e w' => e = .returned (.int .i64 (65535 - n)) ∧ w' = w := by
  have ha := i64_xor16 n n0 n1
  go_enter Try.func78, Try.ntmps78
  go_wp2
  go_ret
  exact ⟨rfl, rfl⟩

set_option maxHeartbeats 1000000 in
theorem of_own (a : Option Addr) (len cap : Nat) (L : List (List Int)) (w : World) (h : BytesL w a len L) (hs : L.flatten.length ≤ 1000000) (hok : BytesOk L.flatten) :
    Calls Try.prog 77 #[.slice a len cap] w fun e w' => e = .returned (.int .i64 (ofV L.flatten)) ∧ w' = w := by
  have hl := h.small
  have hB := sumB_bd hok true
  have hbd : 0 ≤ foldV (sumB true L.flatten) ∧ foldV (sumB true L.flatten) ≤ 65535 := foldV_bd hB.1
  unfold ofV
  go_enter Try.func77, Try.ntmps77
  go_wp2
  go_loop [3, 4, 11] (fun t u i => ∃ k : Nat, k ≤ len ∧ i = .int .i64 k ∧ t = .int .u64 (sumB true (L.take k).flatten) ∧ u = .bool (par true (L.take k).flatten.length)) (fun _ _ i => len - (intOf i).toNat)
  case atStart => exact ⟨0, Nat.zero_le _, rfl, rfl, rfl⟩
  case round =>
    obtain ⟨k, hk, rfl, rfl, rfl⟩ := hrel
    by_cases hlt : k < len
    · obtain ⟨b, off, p, n, c, rfl, hcell, hby, hnil⟩ := h.cell hlt
      obtain ⟨P, hP⟩ : ∃ P, P = (L.take k).flatten := ⟨_, rfl⟩
      obtain ⟨ys, hys⟩ : ∃ ys, ys = L[k]?.getD [] := ⟨_, rfl⟩
      rw [← hys] at hby
      have hT := take_flat L k
      rw [← hP, ← hys] at hT
      have hsub : ∀ x ∈ (L.take (k + 1)).flatten, x ∈ L.flatten := fun x hx => by
        rw [← List.take_append_drop (k + 1) L, List.flatten_append]; exact List.mem_append_left _ hx
      have hPy : BytesOk (P ++ ys) := fun x hx => hok x (hsub x (by rw [hT]; exact hx))
      have hlen : (P ++ ys).length ≤ 1000000 := by rw [← hT]; exact Nat.le_trans (flat_le L (k + 1)) hs
      have hyl := hby.length
      rw [← hP]
      have HT : Hid _ := hT
      have HP : Hid _ := hP
      clear hT hsub hok hs hB hbd hP hys
      go_wp2
      go_loop [3, 4, 17] (fun t u i => ∃ j : Nat, j ≤ n ∧ i = .int .i64 j ∧ t = .int .u64 (sumB true (P ++ ys.take j)) ∧ u = .bool (par true (P ++ ys.take j).length)) (fun _ _ i => n - (intOf i).toNat)
      case atStart => exact ⟨0, Nat.zero_le _, rfl, by simp, by simp⟩
      case round =>
        obtain ⟨j, hj, rfl, rfl, rfl⟩ := hrel
        by_cases hjn : j < n
        · obtain ⟨b2, off2, rfl, hc2⟩ := hby.cell hjn
          have hyb := hby.ok.get j
          have hsn : sumB true (P ++ ys.take (j + 1)) = sumB true (P ++ ys.take j) + if par true (P ++ ys.take j).length = true then ys[j]?.getD 0 * 256 else ys[j]?.getD 0 := by
            rw [take_snoc ys (by omega), ← List.append_assoc, sumB_snoc]
          have hpn : par true (P ++ ys.take (j + 1)).length = !(par true (P ++ ys.take j).length) := by
            rw [take_snoc ys (by omega), ← List.append_assoc, List.length_append, List.length_singleton, par_succ]
          have hb3 := sumB_bd (xs := P ++ ys.take j) (fun x hx => hPy x (by
            rcases List.mem_append.1 hx with h1 | h1
            · exact List.mem_append_left _ h1
            · exact List.mem_append_right _ (List.mem_of_mem_take h1))) true
          have hl3 : (P ++ ys.take j).length ≤ 1000000 := by
            rw [List.length_append, List.length_take] ; rw [List.length_append] at hlen; omega
          have hns := hby.small
          obtain ⟨x, hx⟩ : ∃ x, x = ys[j]?.getD 0 := ⟨_, rfl⟩
          rw [← hx] at hc2 hyb hsn
          obtain ⟨T, hT⟩ : ∃ T, T = sumB true (P ++ ys.take j) := ⟨_, rfl⟩
          have hT1 : 0 ≤ T ∧ T ≤ 65280000000 := by rw [hT]; omega
          rw [← hT] at hsn
          rw [← hT]
          clear hb3 hl3 hT hx
          by_cases hu : par true (P ++ ys.take j).length = true
          · rw [if_pos hu] at hsn
            rw [hu] at hpn
            rw [hu]
            have HS : Hid _ := hsn
            have HP2 : Hid _ := hpn
            clear hsn hpn hu
            go_wp2
            go_round
            case rel => exact ⟨j + 1, by omega, by go_num, by rw [HS.out], by rw [HP2.out]; rfl⟩
            case measure => simp [intOf]; omega
          · rw [if_neg hu] at hsn
            have hu' : par true (P ++ ys.take j).length = false := by simpa using hu
            rw [hu'] at hpn
            rw [hu']
            have HS : Hid _ := hsn
            have HP2 : Hid _ := hpn
            clear hsn hpn hu hu'
            go_wp2
            go_round
            case rel => exact ⟨j + 1, by omega, by go_num, by rw [HS.out], by rw [HP2.out]; rfl⟩
            case measure => simp [intOf]; omega
        · obtain rfl : j = n := by omega
          have e : ys.take j = ys := List.take_of_length_le (by omega)
          rw [e]
          rw [← HT.out]
          go_wp2
          go_round
          case rel => exact ⟨k + 1, by omega, by go_num, rfl, rfl⟩
          case measure => simp [intOf]; omega
    · obtain rfl : k = len := by omega
      have e : L.take k = L := List.take_of_length_le (by rw [h.length]; exact Nat.le_refl _)
      rw [e]
      obtain ⟨T, hT⟩ : ∃ T, T = sumB true L.flatten := ⟨_, rfl⟩
      rw [← hT] at hB hbd
      rw [← hT]
      have hT1 : 0 ≤ T ∧ T ≤ 65280000000 := by omega
      have HT : Hid _ := hT
      clear hT hB e
      go_wp2_with (first
        | (go_at_call 79; refine (fold_any _ _ (by omega) (by omega)).mono ?_; rintro e w' ⟨rfl, rfl⟩)
        | (go_at_call 78; refine (complement_any _ _ (by omega) (by omega)).mono ?_; rintro e w' ⟨rfl, rfl⟩))
      go_ret
      exact ⟨by rw [← HT.out]; rfl, rfl⟩

/-- Of, the bytes under a name. -/
theorem of_n (a : Option Addr) (len cap : Nat) (L : List (List Int)) (w : World) (ys : List Int) (n : Nat) (hf : L.flatten = ys) (hn : ys.length = n) (h : BytesL w a len L) (hs : n ≤ 1000000) (hok : BytesOk ys) :
    Calls Try.prog 77 #[.slice a len cap] w fun e w' => e = .returned (.int .i64 (ofV ys)) ∧ w' = w := by
  subst hf; subst hn; exact of_own a len cap L w h hs hok

theorem bytesOk_append {xs ys : List Int} (h1 : BytesOk xs) (h2 : BytesOk ys) : BytesOk (xs ++ ys) := fun x hx => by
  rcases List.mem_append.1 hx with h | h
  · exact h1 x h
  · exact h2 x h

/-- Of nothing. -/
theorem of0_any (w : World) : Calls Try.prog 77 #[.slice none 0 0] w fun e w' => e = .returned (.int .i64 65535) ∧ Ext w w' :=
  (of_n none 0 0 [] w [] 0 rfl rfl ⟨rfl, by omega, .inl rfl⟩ (by omega) (by intro x hx; simp at hx)).mono fun e w' ⟨he, hw⟩ => ⟨he, by rw [hw]; exact Ext.refl _⟩

/-- Of one. -/
theorem of1_any (p : Option Addr) (n c : Nat) (xs : List Int) (w : World) (b : Bytes w p n xs) (z : p = none → c = 0) (hs : n ≤ 1000000) :
    Calls Try.prog 77 #[.slice (some ⟨w.heap.size, 0, none⟩) 1 1] (w.alloc (.cells #[.slice p n c] 22)) fun e w' => e = .returned (.int .i64 (ofV xs)) ∧ Ext w w' := by
  have hL : BytesL (w.alloc (.cells #[.slice p n c] 22)) (some ⟨w.heap.size, 0, none⟩) 1 [xs] :=
    BytesL.new w _ [.slice p n c] [xs] (by simp) fun i hi => by
      match i, hi with
      | 0, _ => exact ⟨_, _, _, rfl, b, z⟩
  refine (of_n _ _ 1 _ _ xs n (by simp) b.length hL hs b.ok).mono ?_
  rintro e w' ⟨he, rfl⟩
  exact ⟨he, (Ext.refl _).alloc _⟩

/-- Of two. -/
theorem of2_any (p0 : Option Addr) (n0 c0 : Nat) (p1 : Option Addr) (n1 c1 : Nat) (x0 x1 : List Int) (w : World) (b0 : Bytes w p0 n0 x0) (b1 : Bytes w p1 n1 x1) (z0 : p0 = none → c0 = 0) (z1 : p1 = none → c1 = 0) (hs : n0 + n1 ≤ 1000000) :
    Calls Try.prog 77 #[.slice (some ⟨w.heap.size, 0, none⟩) 2 2] (w.alloc (.cells #[.slice p0 n0 c0, .slice p1 n1 c1] 22)) fun e w' => e = .returned (.int .i64 (ofV (x0 ++ x1))) ∧ Ext w w' := by
  have hL : BytesL (w.alloc (.cells #[.slice p0 n0 c0, .slice p1 n1 c1] 22)) (some ⟨w.heap.size, 0, none⟩) 2 [x0, x1] :=
    BytesL.new w _ [.slice p0 n0 c0, .slice p1 n1 c1] [x0, x1] (by simp) fun i hi => by
      match i, hi with
      | 0, _ => exact ⟨_, _, _, rfl, b0, z0⟩
      | 1, _ => exact ⟨_, _, _, rfl, b1, z1⟩
  refine (of_n _ _ 2 _ _ (x0 ++ x1) (n0 + n1) (by simp) (by rw [List.length_append, b0.length, b1.length]) hL hs (bytesOk_append b0.ok b1.ok)).mono ?_
  rintro e w' ⟨he, rfl⟩
  exact ⟨he, (Ext.refl _).alloc _⟩

/-- Whether a checksum is right. -/
theorem right_any (p : Option Addr) (n c : Nat) (xs : List Int) (w : World) (b : Bytes w p n xs) (z : p = none → c = 0) (hs : n ≤ 1000000) :
    Calls Try.prog 62 #[.slice p n c] w fun e w' => e = .returned (.bool (decide (ofV xs = 0))) ∧ Ext w w' := by
  go_enter Try.func62, Try.ntmps62
  go_wp2_with (go_at_call 77; refine (of1_any p n c xs w b z hs).mono ?_; rintro e w1 ⟨rfl, hx1⟩)
  go_ret
  exact ⟨rfl, hx1⟩

/-- Of one, in a world whose size stands under another name. -/
theorem of1_at (N : Nat) (p : Option Addr) (n c : Nat) (xs : List Int) (w : World) (hN : w.heap.size = N) (b : Bytes w p n xs) (z : p = none → c = 0) (hs : n ≤ 1000000) :
    Calls Try.prog 77 #[.slice (some ⟨N, 0, none⟩) 1 1] (w.alloc (.cells #[.slice p n c] 22)) fun e w' => e = .returned (.int .i64 (ofV xs)) ∧ Ext w w' := by
  subst hN; exact of1_any p n c xs w b z hs

theorem size_set (w : World) (a : Addr) (v : Value) : (w.setCell a v).heap.size = w.heap.size := by simp [World.setCell]

theorem right_true (p : Option Addr) (n c : Nat) (xs : List Int) (w : World) (b : Bytes w p n xs) (z : p = none → c = 0) (hs : n ≤ 1000000) (h0 : ofV xs = 0) :
    Calls Try.prog 62 #[.slice p n c] w fun e w' => e = .returned (.bool true) ∧ Ext w w' := by
  have h := right_any p n c xs w b z hs
  rw [h0] at h
  exact h

end Go.Proofs.Ytkagkfbdpiblkaa
