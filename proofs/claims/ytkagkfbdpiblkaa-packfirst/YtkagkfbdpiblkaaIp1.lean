/- What ip.Header, ip.lengths and the document's own Header and look answer at any bytes (chapter 4). -/
import Derived.Test.YtkagkfbdpiblkaaIpP
import Derived.Test.YtkagkfbdpiblkaaSum
import Derived.Test.YtkagkfbdpiblkaaRef2
namespace Go.Proofs.Ytkagkfbdpiblkaa
open Go.RowKit
set_option linter.unusedVariables false

theorem header_any (a : Option Addr) (len cap : Nat) (xs : List Int) (w : World) (h : Bytes w a len xs) :
    Calls Try.prog 61 #[.slice a len cap] w fun e w' => e = .returned (.int .i64 (headV xs)) ∧ w' = w := by
  have hl := h.length
  have hs := h.small
  by_cases h0 : len = 0
  · have e : headV xs = 0 := by unfold headV; rw [byteV_past (by omega)]; rfl
    rw [e]; subst h0; clear e h hl
    go_enter Try.func61, Try.ntmps61
    go_wp2
    go_ret
    exact ⟨rfl, rfl⟩
  · have e : headV xs = xs[0]?.getD 0 % 16 * 4 := by
      have ex0 : byteV xs 0 = xs[0]?.getD 0 := byteV_nat xs 0
      unfold headV; rw [ex0]
    have hb := h.ok.get 0
    obtain ⟨b, off, rfl, hc⟩ := h.cell (k := 0) (by omega)
    rw [Nat.add_zero] at hc
    have ha := u8_and15 _ hb.1 hb.2
    generalize xs[0]?.getD 0 = x at *
    rw [e]; clear e h hl
    go_enter Try.func61, Try.ntmps61
    go_wp2
    go_ret
    exact ⟨rfl, rfl⟩

theorem refHeader_any (a : Option Addr) (len cap : Nat) (xs : List Int) (w : World) (h : Bytes w a len xs) :
    Calls Try.prog 39 #[.slice a len cap] w fun e w' => e = .returned (.int .i64 (headV xs)) ∧ w' = w := by
  have hl := h.length
  have hs := h.small
  by_cases h0 : len = 0
  · have e : headV xs = 0 := by unfold headV; rw [byteV_past (by omega)]; rfl
    rw [e]; subst h0; clear e h hl
    go_enter Try.func39, Try.ntmps39
    go_wp2
    go_ret
    exact ⟨rfl, rfl⟩
  · have e : headV xs = 4 * (xs[0]?.getD 0 % 16) := by
      have ex0 : byteV xs 0 = xs[0]?.getD 0 := byteV_nat xs 0
      unfold headV; rw [ex0]; omega
    have hb := h.ok.get 0
    obtain ⟨b, off, rfl, hc⟩ := h.cell (k := 0) (by omega)
    rw [Nat.add_zero] at hc
    have ha := u8_and15 _ hb.1 hb.2
    generalize xs[0]?.getD 0 = x at *
    rw [e]; clear e h hl
    go_enter Try.func39, Try.ntmps39
    go_wp2
    go_ret
    exact ⟨rfl, rfl⟩

/-- What lengths answers. -/
def lenE (xs : List Int) : Ending := .returned (.tuple #[.int .i64 (if lookV xs = 0 then headV xs else 0), .int .i64 (if lookV xs = 0 then get16V xs 2 else 0), .int .i64 (lookV xs)])

set_option maxHeartbeats 1000000 in
theorem lengths_any (a : Option Addr) (len cap : Nat) (xs : List Int) (w : World) (h : Bytes w a len xs) (hcap : len ≤ cap) (hn : len ≤ 1000000) :
    Calls Try.prog 42 #[.slice a len cap] w fun e w' => e = lenE xs ∧ Ext w w' := by
  have hl := h.length
  have c1 := fun w h => header_any a len cap xs w h
  have hh := headV_bd h.ok
  have cg := fun w h (p : Int) (p0 : 0 ≤ p) (p1 : p ≤ 60) => get16_any a len cap xs p w h (by omega) (by omega)
  have g2 := get16V_bd h.ok 2
  have g6 := get16V_bd h.ok 6
  have e6 : get16V xs 6 / 32768 % 2 = 0 ↔ byteV xs 6 < 128 := by
    have b0 := h.ok.byteV 6
    have b1 := h.ok.byteV 7
    have : get16V xs 6 = byteV xs 6 * 256 + byteV xs 7 := rfl
    omega
  have i6 := i64_bit 15 (by omega) _ g6.1 g6.2
  rcases look_cases xs with ⟨h1, hv⟩ | ⟨h1, h2, hv⟩ | ⟨h1, h2, h3, hv⟩ | ⟨h1, h2, h3, h4, hv⟩ | ⟨h1, h2, h3, h4, h5, hv⟩ | ⟨h1, h2, h3, h4, h5, h6, hv⟩ | ⟨h1, h2, h3, h4, h5, h6, h7, hv⟩ | ⟨h1, h2, h3, h4, h5, h6, h7, h8, hv⟩ | ⟨h1, h2, h3, h4, h5, h6, h7, h8, hv⟩
  · unfold lenE; rw [hv, if_neg (by omega), if_neg (by omega)]
    rw [hl] at h1
    clear hv h c1 cg i6 e6 hl
    go_enter Try.func42, Try.ntmps42
    go_wp2
    exact bodyPost_ret (v := .tuple #[.int .i64 0, .int .i64 0, .int .i64 3]) (by simp [results, Try.results42, go_sem]) rfl ⟨rfl, Ext.refl _⟩
  all_goals
    unfold lenE
    rw [hl] at h1
    obtain ⟨b, off, rfl, hc0⟩ := h.cell (k := 0) (by omega)
    rw [Nat.add_zero] at hc0
    have hb0 := h.ok.get 0
    have ex0 : byteV xs 0 = xs[0]?.getD 0 := byteV_nat xs 0
    obtain ⟨x0, hx0⟩ : ∃ x0, xs[0]?.getD 0 = x0 := ⟨_, rfl⟩
    rw [hx0] at hc0 hb0 ex0
    rw [ex0] at h2
    generalize headV xs = hd at *
  · rw [hv, if_neg (by omega), if_neg (by omega)]
    clear hv cg i6 e6 hl ex0 hx0
    go_enter Try.func42, Try.ntmps42
    go_wp2_with (first | (go_at_call 61; refine (c1 _ h).mono ?_; rintro e w1 ⟨rfl, rfl⟩))
    exact bodyPost_ret (v := .tuple #[.int .i64 0, .int .i64 0, .int .i64 2]) (by simp [results, Try.results42, go_sem]) rfl ⟨rfl, Ext.refl _⟩
  · rw [hv, if_neg (by omega), if_neg (by omega)]
    clear hv cg i6 e6 hl ex0 hx0
    go_enter Try.func42, Try.ntmps42
    go_wp2_with (first | (go_at_call 61; refine (c1 _ h).mono ?_; rintro e w1 ⟨rfl, rfl⟩))
    exact bodyPost_ret (v := .tuple #[.int .i64 0, .int .i64 0, .int .i64 2]) (by simp [results, Try.results42, go_sem]) rfl ⟨rfl, Ext.refl _⟩
  · rw [hv, if_neg (by omega), if_neg (by omega)]
    rw [hl] at h4
    clear hv cg i6 e6 hl ex0 hx0
    go_enter Try.func42, Try.ntmps42
    go_wp2_with (first | (go_at_call 61; refine (c1 _ h).mono ?_; rintro e w1 ⟨rfl, rfl⟩))
    exact bodyPost_ret (v := .tuple #[.int .i64 0, .int .i64 0, .int .i64 3]) (by simp [results, Try.results42, go_sem]) rfl ⟨rfl, Ext.refl _⟩
  all_goals
    rw [hl] at h4
    obtain ⟨k, rfl⟩ : ∃ k : Nat, hd = k := ⟨hd.toNat, by omega⟩
    rw [Int.toNat_natCast] at h5
    have ht := h.take (n := k) (by omega)
    have c2 := fun w h => right_any (some ⟨b, off, none⟩) k cap (xs.take k) w h (by simp) (by omega)
    obtain ⟨R, hR⟩ : ∃ R, decide (ofV (xs.take k) = 0) = R := ⟨_, rfl⟩
    rw [hR] at c2
  · have hR' : R = false := by rw [← hR]; simpa using h5
    subst hR'
    rw [hv, if_neg (by omega), if_neg (by omega)]
    clear hv cg i6 e6 hl ex0 hx0 hR h5
    go_enter Try.func42, Try.ntmps42
    go_wp2_with (first
      | (go_at_call 61; refine (c1 _ h).mono ?_; rintro e w1 ⟨rfl, rfl⟩)
      | (go_at_call 62; refine (c2 _ ht).mono ?_; rintro e w2 ⟨rfl, hx2⟩))
    exact bodyPost_ret (v := .tuple #[.int .i64 0, .int .i64 0, .int .i64 4]) (by simp [results, Try.results42, go_sem]) rfl ⟨rfl, hx2⟩
  all_goals
    have hR' : R = true := by rw [← hR]; simpa using h5
    subst hR'
    have c3 := fun w h => cg w h 2 (by omega) (by omega)
    have c4 := fun w h => cg w h 6 (by omega) (by omega)
    generalize get16V xs 2 = al at *
    generalize get16V xs 6 = cu at *
    obtain ⟨bt, hbt⟩ : ∃ bt, bits .and .i64 cu 32768 = bt := ⟨_, rfl⟩
    have i6' : bt = 0 ↔ cu / 32768 % 2 = 0 := by rw [← hbt]; exact i6
    have tok1 : Hid True := trivial
  · rw [hv, if_neg (by omega), if_neg (by omega)]
    clear hv cg i6 e6 hl ex0 hx0 hR h5 i6' hbt
    go_enter Try.func42, Try.ntmps42
    go_wp2_with (first
      | (go_at_call 61; refine (c1 _ h).mono ?_; rintro e w1 ⟨rfl, rfl⟩)
      | (go_at_call 62; refine (c2 _ ht).mono ?_; rintro e w2 ⟨rfl, hx2⟩)
      | (go_at_call 43; clear tok1; refine (c3 _ (h.below hx2)).mono ?_; rintro e w3 ⟨rfl, rfl⟩)
      | (go_at_call 43; refine (c4 _ (h.below hx2)).mono ?_; rintro e w4 ⟨rfl, rfl⟩))
    exact bodyPost_ret (v := .tuple #[.int .i64 0, .int .i64 0, .int .i64 2]) (by simp [results, Try.results42, go_sem]) rfl ⟨rfl, hx2⟩
  · have hne : (bt == 0) = false := by
      simp only [beq_eq_false_iff_ne]
      intro hb; have := e6.1 (i6'.1 hb); omega
    have hne2 : (bt != 0) = true := by simp [bne, hne]
    rw [hv, if_neg (by omega), if_neg (by omega)]
    clear hv cg i6 e6 hl ex0 hx0 hR h5 i6'
    go_enter Try.func42, Try.ntmps42
    go_wp2_with (first
      | (go_at_call 61; refine (c1 _ h).mono ?_; rintro e w1 ⟨rfl, rfl⟩)
      | (go_at_call 62; refine (c2 _ ht).mono ?_; rintro e w2 ⟨rfl, hx2⟩)
      | (go_at_call 43; clear tok1; refine (c3 _ (h.below hx2)).mono ?_; rintro e w3 ⟨rfl, rfl⟩)
      | (go_at_call 43; refine (c4 _ (h.below hx2)).mono ?_; rintro e w4 ⟨rfl, rfl⟩))
    exact bodyPost_ret (v := .tuple #[.int .i64 0, .int .i64 0, .int .i64 2]) (by simp [results, Try.results42, go_sem]) rfl ⟨rfl, hx2⟩
  · have hb0 : bt = 0 := i6'.2 (e6.2 h7)
    subst hb0
    rw [hv, if_neg (by omega), if_neg (by omega)]
    rw [hl] at h8
    clear hv cg i6 e6 hl ex0 hx0 hR h5 i6'
    go_enter Try.func42, Try.ntmps42
    go_wp2_with (first
      | (go_at_call 61; refine (c1 _ h).mono ?_; rintro e w1 ⟨rfl, rfl⟩)
      | (go_at_call 62; refine (c2 _ ht).mono ?_; rintro e w2 ⟨rfl, hx2⟩)
      | (go_at_call 43; clear tok1; refine (c3 _ (h.below hx2)).mono ?_; rintro e w3 ⟨rfl, rfl⟩)
      | (go_at_call 43; refine (c4 _ (h.below hx2)).mono ?_; rintro e w4 ⟨rfl, rfl⟩))
    exact bodyPost_ret (v := .tuple #[.int .i64 0, .int .i64 0, .int .i64 3]) (by simp [results, Try.results42, go_sem]) rfl ⟨rfl, hx2⟩
  · have hb0 : bt = 0 := i6'.2 (e6.2 h7)
    subst hb0
    rw [hv, if_pos rfl, if_pos rfl]
    rw [hl] at h8
    clear hv cg i6 e6 hl ex0 hx0 hR h5 i6'
    go_enter Try.func42, Try.ntmps42
    go_wp2_with (first
      | (go_at_call 61; refine (c1 _ h).mono ?_; rintro e w1 ⟨rfl, rfl⟩)
      | (go_at_call 62; refine (c2 _ ht).mono ?_; rintro e w2 ⟨rfl, hx2⟩)
      | (go_at_call 43; clear tok1; refine (c3 _ (h.below hx2)).mono ?_; rintro e w3 ⟨rfl, rfl⟩)
      | (go_at_call 43; refine (c4 _ (h.below hx2)).mono ?_; rintro e w4 ⟨rfl, rfl⟩))
    exact bodyPost_ret (v := .tuple #[.int .i64 (k : Nat), .int .i64 al, .int .i64 0]) (by simp [results, Try.results42, go_sem]) rfl ⟨rfl, hx2⟩

set_option maxHeartbeats 1000000 in
theorem refLook_any (a : Option Addr) (len cap : Nat) (xs : List Int) (w : World) (h : Bytes w a len xs) (hcap : len ≤ cap) (hn : len ≤ 1000000) :
    Calls Try.prog 53 #[.slice a len cap] w fun e w' => e = .returned (.int .i64 (lookV xs)) ∧ w' = w := by
  have hl := h.length
  have c1 := fun w h => refHeader_any a len cap xs w h
  have hh := headV_bd h.ok
  have cg := fun w h (p : Int) (p0 : 0 ≤ p) (p1 : p ≤ 60) => refGet16_any a len cap xs p w h (by omega) (by omega)
  have g2 := get16V_bd h.ok 2
  rcases look_cases xs with ⟨h1, hv⟩ | ⟨h1, h2, hv⟩ | ⟨h1, h2, h3, hv⟩ | ⟨h1, h2, h3, h4, hv⟩ | ⟨h1, h2, h3, h4, h5, hv⟩ | ⟨h1, h2, h3, h4, h5, h6, hv⟩ | ⟨h1, h2, h3, h4, h5, h6, h7, hv⟩ | ⟨h1, h2, h3, h4, h5, h6, h7, h8, hv⟩ | ⟨h1, h2, h3, h4, h5, h6, h7, h8, hv⟩
  · rw [hv]
    rw [hl] at h1
    generalize headV xs = hd at *
    clear hv cg
    go_enter Try.func53, Try.ntmps53
    go_wp2_with (first | (go_at_call 39; refine (c1 _ h).mono ?_; rintro e w1 ⟨rfl, rfl⟩))
    go_ret
    exact ⟨rfl, rfl⟩
  all_goals
    rw [hl] at h1
    obtain ⟨b, off, rfl, hc0⟩ := h.cell (k := 0) (by omega)
    rw [Nat.add_zero] at hc0
    have hb0 := h.ok.get 0
    have ex0 : byteV xs 0 = xs[0]?.getD 0 := byteV_nat xs 0
    obtain ⟨x0, hx0⟩ : ∃ x0, xs[0]?.getD 0 = x0 := ⟨_, rfl⟩
    rw [hx0] at hc0 hb0 ex0
    rw [ex0] at h2
    generalize headV xs = hd at *
  · rw [hv]
    clear hv cg ex0 hx0
    go_enter Try.func53, Try.ntmps53
    go_wp2_with (first | (go_at_call 39; refine (c1 _ h).mono ?_; rintro e w1 ⟨rfl, rfl⟩))
    go_ret
    exact ⟨rfl, rfl⟩
  · rw [hv]
    clear hv cg ex0 hx0
    go_enter Try.func53, Try.ntmps53
    go_wp2_with (first | (go_at_call 39; refine (c1 _ h).mono ?_; rintro e w1 ⟨rfl, rfl⟩))
    go_ret
    exact ⟨rfl, rfl⟩
  · rw [hv]
    rw [hl] at h4
    clear hv cg ex0 hx0
    go_enter Try.func53, Try.ntmps53
    go_wp2_with (first | (go_at_call 39; refine (c1 _ h).mono ?_; rintro e w1 ⟨rfl, rfl⟩))
    go_ret
    exact ⟨rfl, rfl⟩
  all_goals
    rw [hl] at h4
    obtain ⟨k, rfl⟩ : ∃ k : Nat, hd = k := ⟨hd.toNat, by omega⟩
    rw [Int.toNat_natCast] at h5
    have ht := h.take (n := k) (by omega)
    have c2 := fun w h => refRight_any (some ⟨b, off, none⟩) k cap (xs.take k) w h (by omega)
    obtain ⟨R, hR⟩ : ∃ R, decide (ofV (xs.take k) = 0) = R := ⟨_, rfl⟩
    rw [hR] at c2
  · have hR' : R = false := by rw [← hR]; simpa using h5
    subst hR'
    rw [hv]
    clear hv cg ex0 hx0 hR h5
    go_enter Try.func53, Try.ntmps53
    go_wp2_with (first
      | (go_at_call 39; refine (c1 _ h).mono ?_; rintro e w1 ⟨rfl, rfl⟩)
      | (go_at_call 69; refine (c2 _ ht).mono ?_; rintro e w2 ⟨rfl, rfl⟩))
    go_ret
    exact ⟨rfl, rfl⟩
  all_goals
    have hR' : R = true := by rw [← hR]; simpa using h5
    subst hR'
    have c3 := fun w h => cg w h 2 (by omega) (by omega)
    generalize get16V xs 2 = al at *
    obtain ⟨b', off', hab, hc6⟩ := h.cell (k := 6) (by omega)
    obtain ⟨rfl, rfl⟩ : b = b' ∧ off = off' := by simpa using hab
    have hb6 := h.ok.get 6
    have ex6 : byteV xs 6 = xs[6]?.getD 0 := byteV_nat xs 6
    generalize xs[6]?.getD 0 = x6 at *
    have tok1 : Hid True := trivial
  · rw [hv]
    clear hv cg ex0 hx0 hR h5
    go_enter Try.func53, Try.ntmps53
    go_wp2_with (first
      | (go_at_call 39; refine (c1 _ h).mono ?_; rintro e w1 ⟨rfl, rfl⟩)
      | (go_at_call 69; refine (c2 _ ht).mono ?_; rintro e w2 ⟨rfl, rfl⟩)
      | (go_at_call 57; clear tok1; refine (c3 _ h).mono ?_; rintro e w3 ⟨rfl, rfl⟩)
      | (go_at_call 57; refine (c3 _ h).mono ?_; rintro e w4 ⟨rfl, rfl⟩))
    go_ret
    exact ⟨rfl, rfl⟩
  · rw [ex6] at h7
    have h71 : x6 / 128 = 1 := by omega
    rw [hv]
    clear hv cg ex0 hx0 hR h5
    go_enter Try.func53, Try.ntmps53
    go_wp2_with (first
      | (go_at_call 39; refine (c1 _ h).mono ?_; rintro e w1 ⟨rfl, rfl⟩)
      | (go_at_call 69; refine (c2 _ ht).mono ?_; rintro e w2 ⟨rfl, rfl⟩)
      | (go_at_call 57; clear tok1; refine (c3 _ h).mono ?_; rintro e w3 ⟨rfl, rfl⟩)
      | (go_at_call 57; refine (c3 _ h).mono ?_; rintro e w4 ⟨rfl, rfl⟩))
    go_ret
    exact ⟨rfl, rfl⟩
  · rw [ex6] at h7
    have h71 : x6 / 128 = 0 := by omega
    rw [hv]
    rw [hl] at h8
    clear hv cg ex0 hx0 hR h5
    go_enter Try.func53, Try.ntmps53
    go_wp2_with (first
      | (go_at_call 39; refine (c1 _ h).mono ?_; rintro e w1 ⟨rfl, rfl⟩)
      | (go_at_call 69; refine (c2 _ ht).mono ?_; rintro e w2 ⟨rfl, rfl⟩)
      | (go_at_call 57; clear tok1; refine (c3 _ h).mono ?_; rintro e w3 ⟨rfl, rfl⟩)
      | (go_at_call 57; refine (c3 _ h).mono ?_; rintro e w4 ⟨rfl, rfl⟩))
    go_ret
    exact ⟨rfl, rfl⟩
  · rw [ex6] at h7
    have h71 : x6 / 128 = 0 := by omega
    rw [hv]
    rw [hl] at h8
    clear hv cg ex0 hx0 hR h5
    go_enter Try.func53, Try.ntmps53
    go_wp2_with (first
      | (go_at_call 39; refine (c1 _ h).mono ?_; rintro e w1 ⟨rfl, rfl⟩)
      | (go_at_call 69; refine (c2 _ ht).mono ?_; rintro e w2 ⟨rfl, rfl⟩)
      | (go_at_call 57; clear tok1; refine (c3 _ h).mono ?_; rintro e w3 ⟨rfl, rfl⟩)
      | (go_at_call 57; refine (c3 _ h).mono ?_; rintro e w4 ⟨rfl, rfl⟩))
    go_ret
    exact ⟨rfl, rfl⟩

end Go.Proofs.Ytkagkfbdpiblkaa
