/- Package dir: places, shortest. -/
import Derived.Test.YtlnmdlachfnmkaaDir2
namespace Go.Proofs.Ytlnmdlachfnmkaa.Dr
set_option maxRecDepth 100000
open Go.RowKit Go.Proofs.Ytlnmdlachfnmkaa Go.Proofs.Ytlnmdlachfnmkaa.Tri
set_option linter.unusedVariables false

theorem al_mod {c x s : Nat} (hc : c ∣ x) (hs : c ∣ s) (h : 0 < s) : x % s + c ≤ s := by
  obtain ⟨q, hq⟩ := (Nat.dvd_mod_iff hs).2 hc
  obtain ⟨r, rfl⟩ := hs
  have hl := Nat.mod_lt x h
  rw [hq] at hl ⊢
  have : q < r := Nat.lt_of_mul_lt_mul_left hl
  have := Nat.mul_le_mul_left c (show q + 1 ≤ r by omega)
  rw [Nat.mul_add, Nat.mul_one] at this
  exact this

theorem wrap64_is {n : Int} (h0 : 0 ≤ n) (h1 : n < 9223372036854775808) : wrap64 n = n := by unfold wrap64; omega

theorem w_two {cn c : Nat} (h : cn = 2 ^ c) (hc : cn ≤ 65536) : wrap64 (2 ^ c) = (cn : Int) := by
  have e : (2 : Int) ^ c = (cn : Int) := by rw [h]; simp
  rw [e, wrap64_is (by omega) (by omega)]

theorem w_sum {s i cn : Nat} (h : s = i + cn) (hc : i + cn ≤ 65536) : wrap64 ((i : Int) + (cn : Int)) = (s : Int) := by
  rw [wrap64_is (by omega) (by omega)]; omega

theorem w_all {i cn c sz : Nat} (h : cn = 2 ^ c) (hc : i + cn ≤ sz) (hs : sz ≤ 65536) : ∃ s : Nat, wrap64 (2 ^ c) = (cn : Int) ∧ wrap64 ((i : Int) + (cn : Int)) = (s : Int) ∧ (i : Int) ≤ (s : Int) ∧ (s : Int) ≤ (sz : Int) ∧ Hid (s = i + cn) := by
  refine ⟨i + cn, w_two h (by omega), w_sum rfl (by omega), ?_, ?_, rfl⟩
  · clear h; omega
  · clear h; omega

/-- How many places a prefix of a length has. -/
def cntN (N : Nat) : Nat := 2 ^ (32 - beN (lvN N) - N)

theorem lv_be (N : Nat) (hN : N ≤ 32) : N + beN (lvN N) ≤ 32 := by
  have := (lvN_lo N hN).2
  have := lo_be (lvN N) (lvN_le N)
  omega

theorem cnt_dvd (A N : Nat) (hN : N ≤ 32) (hA : A % 2 ^ (32 - N) = 0) : cntN N ∣ plN (lvN N) A := by
  have hb := lv_be N hN
  obtain ⟨q, rfl⟩ := Nat.dvd_of_mod_eq_zero hA
  refine ⟨q, ?_⟩
  unfold plN cntN
  have e : 32 - N = beN (lvN N) + (32 - beN (lvN N) - N) := by omega
  rw [e, Nat.pow_add, Nat.mul_assoc, Nat.mul_div_cancel_left _ (Nat.pow_pos (by omega))]

theorem cnt_sz (N : Nat) (hN : N ≤ 32) : cntN N ∣ szN (lvN N) := by
  unfold cntN lvN
  split
  · exact Nat.pow_dvd_pow 2 (show 32 - beN 0 - N ≤ 16 by unfold beN; omega)
  · split
    · exact Nat.pow_dvd_pow 2 (show 32 - beN 1 - N ≤ 8 by unfold beN; omega)
    · exact Nat.pow_dvd_pow 2 (show 32 - beN 2 - N ≤ 8 by unfold beN; omega)

theorem cnt_ok (A N : Nat) (hN : N ≤ 32) (hA : A % 2 ^ (32 - N) = 0) : plN (lvN N) A % szN (lvN N) + cntN N ≤ szN (lvN N) := al_mod (cnt_dvd A N hN hA) (cnt_sz N hN) (szN_pos _)

theorem sz_le (k : Nat) : szN k ≤ 65536 := by unfold szN; split <;> omega

set_option maxHeartbeats 2000000 in
theorem places_any (db A N : Nat) (T f : Nat → Nat → Option Nat) (w : World) (hT : Tabs w T f) (hd : w.cell? ⟨db, 6, none⟩ = some (tbV 0 (T 0 0))) (hA : A < 4294967296) (hN : N ≤ 32) (hZ : A % 2 ^ (32 - N) = 0) (b : Nat) (hb : onT T A (lvN N) = some b) :
    Calls Try.prog 37 #[.pointer (some ⟨db, 0, none⟩), .agg #[.int .u32 A, .int .i64 N]] w fun e w' => (∃ cp, e = .returned (.slice (some ⟨b, plN (lvN N) A % szN (lvN N) * 2, none⟩) (cntN N) cp)) ∧ Ext w w' := by
  have hA0 : Ext w (w.alloc (.cells #[.int .u32 A, .int .i64 N] 30)) := (Ext.refl w).alloc _
  have hn := heap_new w (.cells #[.int .u32 A, .int .i64 N] 30)
  have hq : ∀ w', Ext (w.alloc (.cells #[.int .u32 A, .int .i64 N] 30)) w' → w'.cell? ⟨w.heap.size, 0, none⟩ = some (.int .u32 A) ∧ w'.cell? ⟨w.heap.size, 1, none⟩ = some (.int .i64 N) := fun w' hx => ⟨by rw [heap_cell (hx.heap hn)]; rfl, by rw [heap_cell (hx.heap hn)]; rfl⟩
  have HQ : Hid _ := hq
  have HT : Hid (Tabs w T f) := hT
  have d6 : (w.alloc (.cells #[.int .u32 A, .int .i64 N] 30)).cell? ⟨db, 6, none⟩ = some (tbV 0 (T 0 0)) := by rw [hA0.cell (World.block_lt_of_cell? w _ hd)]; exact hd
  have z0 := pl_zero A hA
  obtain ⟨v0, hv0⟩ : ∃ v0, v0 = tbV 0 (T 0 0) := ⟨_, rfl⟩
  rw [← hv0] at d6
  have HV : Hid (v0 = tbV 0 (onT T A 0)) := by show v0 = _; rw [hv0]; unfold onT; rw [z0]
  obtain ⟨i, hi⟩ : ∃ i, i = plN (lvN N) A % szN (lvN N) := ⟨_, rfl⟩
  obtain ⟨cn, hcn⟩ : ∃ cn, cn = cntN N := ⟨_, rfl⟩
  rw [← hi, ← hcn]
  have HI : Hid (i = plN (lvN N) A % szN (lvN N)) := hi
  have HC : Hid (cn = cntN N) := hcn
  clear hq hT hn hd hv0 hi hcn
  generalize hW0 : (w.alloc (.cells #[.int .u32 A, .int .i64 N] 30)) = W0 at *
  go_enter Try.func37, Try.ntmps37
  go_wp2_with fail
  clear d6
  go_loopw [5, 6] (fun tab be wr => ∃ k : Nat, k ≤ lvN N ∧ be = .int .i64 (beN k) ∧ Hid (tab = tbV k (onT T A k)) ∧ Ext W0 wr) (fun _ be _ => (intOf be).toNat)
  case atStart => exact ⟨0, Nat.zero_le _, rfl, HV, Ext.refl _⟩
  case round =>
    obtain ⟨k, hk, rfl, HV', hx⟩ := hrel
    have hk2 : k ≤ 2 := Nat.le_trans hk (lvN_le N)
    obtain ⟨q0, q1⟩ := HQ.out _ hx
    have ce := fun w => ends_any (A : Int) (N : Int) (beN k) w (be_int k hk2).1 (be_int k hk2).2
    by_cases hlt : k < lvN N
    · have hk1 : k ≤ 1 := by have := lvN_le N; omega
      have hgt : decide ((N : Int) > 32 - (beN k : Int)) = true := by
        have := (lvN_lt N k hk1).1 hlt
        have := lo_be k hk2
        rw [decide_eq_true_eq]; omega
      have hb8 := be_next k hk1
      have hb0 := be_int (k + 1) (by omega)
      rw [hgt] at ce
      have hex : ∃ b', onT T A k = some b' := by
        have down : ∀ d j, j + d = lvN N → onT T A j ≠ none := by
          intro d
          induction d with
          | zero => intro j hj; rw [show j = lvN N by omega, hb]; simp
          | succ d ih =>
            intro j hj hno
            have hj1 : j ≤ 1 := by have := lvN_le N; omega
            exact ih (j + 1) (by omega) (by rw [on_next T A j hj1]; exact HT.out.on_par hno)
        cases hh : onT T A k with
        | none => exact absurd hh (down (lvN N - k) k (by omega))
        | some b' => exact ⟨b', rfl⟩
      obtain ⟨b', ho⟩ := hex
      have hv : u5 = .slice (some ⟨b', 0, none⟩) (szN k) (szN k) := by rw [HV'.out, ho]; rfl
      subst hv
      have cs := fun w => spot_any k A b' (szN k) hk2 hA w
      have cb : ∀ w', Ext W0 w' → Calls Try.prog 30 #[.pointer (some ⟨b', plN k A % szN k * 2, none⟩)] w' fun e w2 => e = .returned (tbV (k + 1) (onT T A (k + 1))) ∧ w2 = w' := fun w' hx' => by
        rw [on_next T A k hk1, ← tab_next]
        exact below_any b' _ _ w' ((HT.out.ext (hA0.trans hx')).to_cell ho)
      have HCB : Hid _ := cb
      clear cb
      generalize plN k A % szN k * 2 = off at *
      obtain ⟨v1, hv1⟩ : ∃ v1, v1 = tbV (k + 1) (onT T A (k + 1)) := ⟨_, rfl⟩
      rw [← hv1] at HCB
      have HV1 : Hid (v1 = tbV (k + 1) (onT T A (k + 1))) := hv1
      clear hv1
      generalize szN k = sz at *
      generalize hbe : (beN k : Int) = be at *
      clear hbe
      go_wp2_with (first | (go_at_call 47; refine (ce _).mono ?_; rintro e w1 ⟨rfl, hx1⟩; obtain ⟨q0', q1'⟩ := HQ.out _ (hx.trans hx1)) | (go_at_call 29; refine (cs _).mono ?_; rintro e w2 ⟨rfl, rfl⟩) | (go_at_call 30; refine (HCB.out _ (hx.trans hx1)).mono ?_; rintro e w2 ⟨rfl, rfl⟩))
      refine ⟨⟨k + 1, by omega, rfl, HV1, hx.trans hx1⟩, ?_⟩
      simp only [intOf]; omega
    · obtain rfl : k = lvN N := by omega
      have hbN := lv_be N hN
      have hgt : decide ((N : Int) > 32 - (beN (lvN N) : Int)) = false := by
        rw [decide_eq_false_iff_not]; omega
      rw [hgt] at ce
      have hv : u5 = .slice (some ⟨b, 0, none⟩) (szN (lvN N)) (szN (lvN N)) := by rw [HV'.out, hb]; rfl
      subst hv
      have ci := fun w => index_any (lvN N) A (szN (lvN N)) hk2 hA (some ⟨b, 0, none⟩) w
      have hc := cnt_ok A N hN hZ
      have hs := sz_le (lvN N)
      have hisz := Nat.mod_lt (plN (lvN N) A) (szN_pos (lvN N))
      rw [← HI.out] at hisz
      rw [← HI.out, ← HC.out] at hc
      rw [← HI.out] at ci
      have hc2 : cn = 2 ^ (32 - beN (lvN N) - N) := HC.out
      generalize szN (lvN N) = sz at *
      obtain ⟨c, hc1, hc3⟩ : ∃ c : Nat, (32 : Int) - (beN (lvN N) : Int) - (N : Int) = (c : Int) ∧ 32 - beN (lvN N) - N = c := ⟨32 - beN (lvN N) - N, by omega, rfl⟩
      have hc4 : c ≤ 32 := by omega
      rw [hc3] at hc2
      obtain ⟨s, hw1, hw2, hle, hle2, HS⟩ := w_all hc2 hc hs
      have hc0 : (0 : Int) ≤ (c : Int) := Int.natCast_nonneg _
      clear hc3 hc2 hc hs
      generalize (beN (lvN N) : Int) = be at *
      go_wp2_with (first | (go_at_call 47; refine (ce _).mono ?_; rintro e w1 ⟨rfl, hx1⟩; obtain ⟨q0', q1'⟩ := HQ.out _ (hx.trans hx1)) | (go_at_call 45; refine (ci _).mono ?_; rintro e w2 ⟨rfl, rfl⟩))
      go_ret
      have e3 : s - i = cn := by rw [HS.out]; exact Nat.add_sub_cancel_left ..
      rw [← e3]
      exact ⟨⟨_, rfl⟩, (hA0.trans hx).trans hx1⟩

set_option maxHeartbeats 2000000 in
theorem shortest_any (A N : Nat) (hN : N ≤ 32) (w : World) :
    Calls Try.prog 50 #[.agg #[.int .u32 A, .int .i64 N]] w fun e w' => e = .returned (.int .i64 (loN (lvN N) : Nat)) ∧ Ext w w' := by
  have hA0 : Ext w (w.alloc (.cells #[.int .u32 A, .int .i64 N] 30)) := (Ext.refl w).alloc _
  have hn := heap_new w (.cells #[.int .u32 A, .int .i64 N] 30)
  have hq : ∀ w', Ext (w.alloc (.cells #[.int .u32 A, .int .i64 N] 30)) w' → w'.cell? ⟨w.heap.size, 0, none⟩ = some (.int .u32 A) ∧ w'.cell? ⟨w.heap.size, 1, none⟩ = some (.int .i64 N) := fun w' hx => ⟨by rw [heap_cell (hx.heap hn)]; rfl, by rw [heap_cell (hx.heap hn)]; rfl⟩
  have HQ : Hid _ := hq
  clear hq hn
  generalize hW0 : (w.alloc (.cells #[.int .u32 A, .int .i64 N] 30)) = W0 at *
  go_enter Try.func50, Try.ntmps50
  go_wp2_with fail
  go_loopw [3, 4] (fun n be wr => ∃ k : Nat, k ≤ lvN N ∧ be = .int .i64 (beN k) ∧ n = .int .i64 (loN k : Nat) ∧ Ext W0 wr) (fun _ be _ => (intOf be).toNat)
  case atStart => exact ⟨0, Nat.zero_le _, rfl, rfl, Ext.refl _⟩
  case round =>
    obtain ⟨k, hk, rfl, rfl, hx⟩ := hrel
    have hk2 : k ≤ 2 := Nat.le_trans hk (lvN_le N)
    obtain ⟨q0, q1⟩ := HQ.out _ hx
    have ce := fun w => ends_any (A : Int) (N : Int) (beN k) w (be_int k hk2).1 (be_int k hk2).2
    by_cases hlt : k < lvN N
    · have hk1 : k ≤ 1 := by have := lvN_le N; omega
      have hgt : decide ((N : Int) > 32 - (beN k : Int)) = true := by
        have := (lvN_lt N k hk1).1 hlt
        have := lo_be k hk2
        rw [decide_eq_true_eq]; omega
      have hb8 := be_next k hk1
      have hb0 := be_int (k + 1) (by omega)
      have hlo : (32 : Int) - (beN k : Int) + 1 = (loN (k + 1) : Int) := by have := lo_be k hk2; omega
      have hlo1 : (32 : Int) - (beN k : Int) = (loN (k + 1) : Int) - 1 := by omega
      have hlo2 : (0 : Int) ≤ (loN (k + 1) : Int) ∧ (loN (k + 1) : Int) ≤ 33 := by omega
      rw [hgt] at ce
      generalize (beN k : Int) = be at *
      go_wp2_with (go_at_call 47; refine (ce _).mono ?_; rintro e w1 ⟨rfl, hx1⟩)
      refine ⟨⟨k + 1, by omega, rfl, by simp, hx.trans hx1⟩, ?_⟩
      simp only [intOf]; omega
    · obtain rfl : k = lvN N := by omega
      have hbN := lv_be N hN
      have hgt : decide ((N : Int) > 32 - (beN (lvN N) : Int)) = false := by
        rw [decide_eq_false_iff_not]; omega
      rw [hgt] at ce
      generalize (beN (lvN N) : Int) = be at *
      go_wp2_with (go_at_call 47; refine (ce _).mono ?_; rintro e w1 ⟨rfl, hx1⟩)
      go_ret
      exact ⟨rfl, (hA0.trans hx).trans hx1⟩
end Go.Proofs.Ytlnmdlachfnmkaa.Dr
