/- Texts joined by a program: Dir2, Dir3, Dir4, Dir5. -/
import Derived.Test.YtmoimkeeldlpkaaGreatJ11
namespace Go.Proofs.YtmoimkeeldlpkaaGreat.Dr

set_option maxRecDepth 100000

open Go.RowKit Go.Proofs.YtmoimkeeldlpkaaGreat Go.Proofs.YtmoimkeeldlpkaaGreat.Tri

set_option linter.unusedVariables false

def tyN : Nat → TypeId
  | 0 => 127
  | _ => 183

/-- All tables: T k n is the block of the table of level k that is behind the place n of the level before; f k m is what the place m of the level k is painted with. -/
structure Tabs (w : World) (T f : Nat → Nat → Option Nat) : Prop where
  at0 : ∀ n b, T 0 n = some b → n = 0
  top : ∀ k n, 2 < k → T k n = none
  tab : ∀ k n b, T k n = some b → TabAt w b (szN k) (tyN k) (fun i => f k (n * szN k + i)) (fun i => T (k + 1) (n * szN k + i))
  inj : ∀ k n k' n' b, T k n = some b → T k' n' = some b → k = k' ∧ n = n'
  par : ∀ k m b, T (k + 1) m = some b → T k (m / szN k) ≠ none
  bare : ∀ k m, T k (m / szN k) = none → f k m = none

theorem Tabs.later {w w' : World} {T f : Nat → Nat → Option Nat} {G : List Nat} (h : Tabs w T f) (hx : ExtS G w w') (hd : ∀ k n b, T k n = some b → b ∉ G) : Tabs w' T f :=
  ⟨h.at0, h.top, fun k n b e => (h.tab k n b e).later hx (hd k n b e), h.inj, h.par, h.bare⟩

theorem Tabs.ext {w w' : World} {T f : Nat → Nat → Option Nat} (h : Tabs w T f) (hx : Ext w w') : Tabs w' T f := h.later (hx.toS []) (by simp)

def tbV (k : Nat) (o : Option Nat) : Value := match o with
  | none => .slice none 0 0
  | some b => .slice (some ⟨b, 0, none⟩) (szN k) (szN k)

theorem tab_next (k : Nat) (o : Option Nat) : tabV o = tbV (k + 1) o := by cases o <;> rfl

/-- A table on an address's way. -/
def onT (T : Nat → Nat → Option Nat) (A k : Nat) : Option Nat := T k (plN k A / szN k)

theorem on_next (T : Nat → Nat → Option Nat) (A k : Nat) (hk : k ≤ 1) : onT T A (k + 1) = T (k + 1) (plN k A) := by unfold onT; rw [pl_next k A hk]

def msN (T : Nat → Nat → Option Nat) (A : Nat) : Nat → Nat
  | 0 => 0
  | j + 1 => msN T A j + if (T (j + 1) (plN j A)).isNone = true then 1 else 0

/-- The place of an address in a table. -/
theorem Tabs.by_cell {w : World} {T f : Nat → Nat → Option Nat} (h : Tabs w T f) {A k b : Nat} (e : onT T A k = some b) : w.cell? ⟨b, plN k A % szN k * 2, none⟩ = some (ptV (f k (plN k A))) := by
  have := (h.tab k _ b e).by_cell (Nat.mod_lt (plN k A) (szN_pos k))
  rw [pl_split] at this; exact this

theorem Tabs.to_cell {w : World} {T f : Nat → Nat → Option Nat} (h : Tabs w T f) {A k b : Nat} (e : onT T A k = some b) : w.cell? ⟨b, plN k A % szN k * 2 + 1, none⟩ = some (ptV (T (k + 1) (plN k A))) := by
  have := (h.tab k _ b e).to_cell (Nat.mod_lt (plN k A) (szN_pos k))
  rw [pl_split] at this; exact this

theorem Tabs.on_par {w : World} {T f : Nat → Nat → Option Nat} (h : Tabs w T f) {A k : Nat} (e : onT T A k = none) : T (k + 1) (plN k A) = none := by
  cases hh : T (k + 1) (plN k A) with
  | none => rfl
  | some b => exact absurd e (h.par k _ b hh)

theorem neq_nil (w : World) : (binOp .neq 109 (.slice none 0 0) (.slice none 0 0)).run Tryz.prog w = .ok (.bool false) w := by kernel_rfl

theorem eql_nil (w : World) : (binOp .eql 109 (.slice none 0 0) (.slice none 0 0)).run Tryz.prog w = .ok (.bool true) w := by kernel_rfl

theorem neq_tab (a : Addr) (n c : Nat) (w : World) : (binOp .neq 109 (.slice (some a) n c) (.slice none 0 0)).run Tryz.prog w = .ok (.bool true) w := by kernel_rfl

theorem eql_tab (a : Addr) (n c : Nat) (w : World) : (binOp .eql 109 (.slice (some a) n c) (.slice none 0 0)).run Tryz.prog w = .ok (.bool false) w := by kernel_rfl

theorem be_int (k : Nat) (hk : k ≤ 2) : (0 : Int) ≤ (beN k : Int) ∧ (beN k : Int) ≤ 32 := by unfold beN; omega

theorem be_next (k : Nat) (hk : k ≤ 1) : (beN k : Int) - 8 = (beN (k + 1) : Int) := by unfold beN; omega

set_option maxHeartbeats 2000000 in
theorem missing_any (db A N : Nat) (T f : Nat → Nat → Option Nat) (w : World) (hT : Tabs w T f) (hd : w.cell? ⟨db, 6, none⟩ = some (tbV 0 (T 0 0))) (hA : A < 4294967296) (hN : N ≤ 32) :
    Calls Tryz.prog 108 #[.pointer (some ⟨db, 0, none⟩), .agg #[.int .u32 A, .int .i64 N]] w fun e w' => e = .returned (.int .i64 (msN T A (lvN N) : Nat)) ∧ Ext w w' := by
  have hA0 : Ext w (w.alloc (.cells #[.int .u32 A, .int .i64 N] 31)) := (Ext.refl w).alloc _
  have hn := heap_new w (.cells #[.int .u32 A, .int .i64 N] 31)
  have hq : ∀ w', Ext (w.alloc (.cells #[.int .u32 A, .int .i64 N] 31)) w' → w'.cell? ⟨w.heap.size, 0, none⟩ = some (.int .u32 A) ∧ w'.cell? ⟨w.heap.size, 1, none⟩ = some (.int .i64 N) := fun w' hx => ⟨by rw [heap_cell (hx.heap hn)]; rfl, by rw [heap_cell (hx.heap hn)]; rfl⟩
  have HQ : Hid _ := hq
  have HT : Hid (Tabs w T f) := hT
  have d6 : (w.alloc (.cells #[.int .u32 A, .int .i64 N] 31)).cell? ⟨db, 6, none⟩ = some (tbV 0 (T 0 0)) := by rw [hA0.cell (World.block_lt_of_cell? w _ hd)]; exact hd
  have z0 := pl_zero A hA
  obtain ⟨v0, hv0⟩ : ∃ v0, v0 = tbV 0 (T 0 0) := ⟨_, rfl⟩
  rw [← hv0] at d6
  have HV : Hid (v0 = tbV 0 (onT T A 0)) := by show v0 = _; rw [hv0]; unfold onT; rw [z0]
  clear hq hT hn hd hv0
  generalize hW0 : (w.alloc (.cells #[.int .u32 A, .int .i64 N] 31)) = W0 at *
  go_enter Tryz.func108, Tryz.ntmps108
  go_wp2_with fail
  clear d6
  go_loopw [5, 6, 7] (fun n tab be wr => ∃ k : Nat, k ≤ lvN N ∧ be = .int .i64 (beN k) ∧ Hid (tab = tbV k (onT T A k)) ∧ n = .int .i64 (msN T A k : Nat) ∧ Ext W0 wr) (fun _ _ be _ => (intOf be).toNat)
  case atStart => exact ⟨0, Nat.zero_le _, rfl, HV, rfl, Ext.refl _⟩
  case round =>
    obtain ⟨k, hk, rfl, HV', rfl, hx⟩ := hrel
    have hk2 : k ≤ 2 := Nat.le_trans hk (lvN_le N)
    obtain ⟨q0, q1⟩ := HQ.out _ hx
    have ce := fun w => ends_any (A : Int) (N : Int) (beN k) w (be_int k hk2).1 (be_int k hk2).2
    by_cases hlt : k < lvN N
    · have hk1 : k ≤ 1 := by have := lvN_le N; omega
      have hgt : decide ((N : Int) > 32 - (beN k : Int)) = true := by
        have := (lvN_lt N k hk1).1 hlt
        have := lo_be k hk2
        rw [decide_eq_true_eq]; omega
      have hb8 := be_next k hk1
      have hb0 := be_int (k + 1) (by omega)
      have hms : msN T A k ≤ 2 := by
        have : ∀ j, msN T A j ≤ j := by
          intro j; induction j with
          | zero => exact Nat.le_refl _
          | succ j ih => simp only [msN]; split <;> omega
        have := this k; omega
      rw [hgt] at ce
      cases ho : onT T A k with
      | none =>
        have hno : msN T A (k + 1) = msN T A k + 1 := by simp [msN, HT.out.on_par ho]
        have htab : tbV (k + 1) (onT T A (k + 1)) = .slice none 0 0 := by rw [on_next T A k hk1, HT.out.on_par ho]; rfl
        have hv : u6 = .slice none 0 0 := by rw [HV'.out, ho]; rfl
        subst hv
        have s1 := neq_nil
        have s2 := eql_nil
        generalize hbe : (beN k : Int) = be at *
        have HB : Hid ((beN k : Int) = be) := hbe
        clear hbe
        go_wp2_with (go_at_call 128; refine (ce _).mono ?_; rintro e w1 ⟨rfl, hx1⟩)
        refine ⟨⟨k + 1, by omega, rfl, htab.symm, by rw [hno]; simp, hx.trans hx1⟩, ?_⟩
        simp only [intOf]; omega
      | some b =>
        have hv : u6 = .slice (some ⟨b, 0, none⟩) (szN k) (szN k) := by rw [HV'.out, ho]; rfl
        subst hv
        have s1 := neq_tab ⟨b, 0, none⟩ (szN k) (szN k)
        have cs := fun w => spot_any k A b (szN k) hk2 hA w
        have cb : ∀ w', Ext W0 w' → Calls Tryz.prog 61 #[.pointer (some ⟨b, plN k A % szN k * 2, none⟩)] w' fun e w2 => e = .returned (tbV (k + 1) (onT T A (k + 1))) ∧ w2 = w' := fun w' hx' => by
          rw [on_next T A k hk1, ← tab_next]
          exact below_any b _ _ w' ((HT.out.ext (hA0.trans hx')).to_cell ho)
        have HCB : Hid _ := cb
        clear cb
        have hnx : msN T A (k + 1) = msN T A k + if (onT T A (k + 1)).isNone = true then 1 else 0 := by rw [on_next T A k hk1]; rfl
        generalize plN k A % szN k * 2 = off at *
        generalize hon : onT T A (k + 1) = o' at *
        have HO : Hid (onT T A (k + 1) = o') := hon
        clear hon
        generalize szN k = sz at *
        cases o' with
        | none =>
          simp only [tbV] at HCB
          have s2 := eql_nil
          have hno : msN T A (k + 1) = msN T A k + 1 := hnx
          clear hnx
          generalize hbe : (beN k : Int) = be at *
          have HB : Hid ((beN k : Int) = be) := hbe
          clear hbe
          go_wp2_with (first | (go_at_call 128; refine (ce _).mono ?_; rintro e w1 ⟨rfl, hx1⟩; obtain ⟨q0', q1'⟩ := HQ.out _ (hx.trans hx1)) | (go_at_call 60; refine (cs _).mono ?_; rintro e w2 ⟨rfl, rfl⟩) | (go_at_call 61; refine (HCB.out _ (hx.trans hx1)).mono ?_; rintro e w2 ⟨rfl, rfl⟩))
          refine ⟨⟨k + 1, by omega, rfl, by show _ = _; rw [HO.out]; rfl, by rw [hno]; simp, hx.trans hx1⟩, ?_⟩
          simp only [intOf]; omega
        | some b' =>
          have htb : tbV (k + 1) (some b') = .slice (some ⟨b', 0, none⟩) 256 256 := rfl
          rw [htb] at HCB
          have s2 := eql_tab ⟨b', 0, none⟩ 256 256
          have hno : msN T A (k + 1) = msN T A k := hnx
          clear hnx htb
          generalize hbe : (beN k : Int) = be at *
          have HB : Hid ((beN k : Int) = be) := hbe
          clear hbe
          go_wp2_with (first | (go_at_call 128; refine (ce _).mono ?_; rintro e w1 ⟨rfl, hx1⟩; obtain ⟨q0', q1'⟩ := HQ.out _ (hx.trans hx1)) | (go_at_call 60; refine (cs _).mono ?_; rintro e w2 ⟨rfl, rfl⟩) | (go_at_call 61; refine (HCB.out _ (hx.trans hx1)).mono ?_; rintro e w2 ⟨rfl, rfl⟩))
          refine ⟨⟨k + 1, by omega, rfl, by show _ = _; rw [HO.out]; rfl, by rw [hno], hx.trans hx1⟩, ?_⟩
          simp only [intOf]; omega
    · obtain rfl : k = lvN N := by omega
      have hgt : decide ((N : Int) > 32 - (beN (lvN N) : Int)) = false := by
        have := (lvN_lo N hN).2
        have := lo_be (lvN N) hk2
        rw [decide_eq_false_iff_not]; omega
      rw [hgt] at ce
      generalize (beN (lvN N) : Int) = be at *
      go_wp2_with (go_at_call 128; refine (ce _).mono ?_; rintro e w1 ⟨rfl, hx1⟩)
      go_ret
      exact ⟨rfl, (hA0.trans hx).trans hx1⟩
end Go.Proofs.YtmoimkeeldlpkaaGreat.Dr

namespace Go.Proofs.YtmoimkeeldlpkaaGreat.Dr

set_option maxRecDepth 100000

open Go.RowKit Go.Proofs.YtmoimkeeldlpkaaGreat Go.Proofs.YtmoimkeeldlpkaaGreat.Tri

set_option linter.unusedVariables false

theorem al_mod {c x s : Nat} (hc : c ∣ x) (hs : c ∣ s) (h : 0 < s) : x % s + c ≤ s := by
  obtain ⟨q, hq⟩ := (Nat.dvd_mod_iff hs).2 hc
  obtain ⟨r, rfl⟩ := hs
  have hl := Nat.mod_lt x h
  rw [hq] at hl ⊢
  have : q < r := Nat.lt_of_mul_lt_mul_left hl
  have := Nat.mul_le_mul_left c (show q + 1 ≤ r by omega)
  rw [Nat.mul_add, Nat.mul_one] at this
  exact this

theorem wrap64_is {n : Int} (h0 : 0 ≤ n) (h1 : n < 9223372036854775808) : wrap64 n = n := by unfold wrap64; omega

theorem w_two {cn c : Nat} (h : cn = 2 ^ c) (hc : cn ≤ 65536) : wrap64 (2 ^ c) = (cn : Int) := by
  have e : (2 : Int) ^ c = (cn : Int) := by rw [h]; simp
  rw [e, wrap64_is (by omega) (by omega)]

theorem w_sum {s i cn : Nat} (h : s = i + cn) (hc : i + cn ≤ 65536) : wrap64 ((i : Int) + (cn : Int)) = (s : Int) := by
  rw [wrap64_is (by omega) (by omega)]; omega

theorem w_all {i cn c sz : Nat} (h : cn = 2 ^ c) (hc : i + cn ≤ sz) (hs : sz ≤ 65536) : ∃ s : Nat, wrap64 (2 ^ c) = (cn : Int) ∧ wrap64 ((i : Int) + (cn : Int)) = (s : Int) ∧ (i : Int) ≤ (s : Int) ∧ (s : Int) ≤ (sz : Int) ∧ Hid (s = i + cn) := by
  refine ⟨i + cn, w_two h (by omega), w_sum rfl (by omega), ?_, ?_, rfl⟩
  · clear h; omega
  · clear h; omega

/-- How many places a prefix of a length has. -/
def cntN (N : Nat) : Nat := 2 ^ (32 - beN (lvN N) - N)

theorem lv_be (N : Nat) (hN : N ≤ 32) : N + beN (lvN N) ≤ 32 := by
  have := (lvN_lo N hN).2
  have := lo_be (lvN N) (lvN_le N)
  omega

theorem cnt_dvd (A N : Nat) (hN : N ≤ 32) (hA : A % 2 ^ (32 - N) = 0) : cntN N ∣ plN (lvN N) A := by
  have hb := lv_be N hN
  obtain ⟨q, rfl⟩ := Nat.dvd_of_mod_eq_zero hA
  refine ⟨q, ?_⟩
  unfold plN cntN
  have e : 32 - N = beN (lvN N) + (32 - beN (lvN N) - N) := by omega
  rw [e, Nat.pow_add, Nat.mul_assoc, Nat.mul_div_cancel_left _ (Nat.pow_pos (by omega))]

theorem cnt_sz (N : Nat) (hN : N ≤ 32) : cntN N ∣ szN (lvN N) := by
  unfold cntN lvN
  split
  · exact Nat.pow_dvd_pow 2 (show 32 - beN 0 - N ≤ 16 by unfold beN; omega)
  · split
    · exact Nat.pow_dvd_pow 2 (show 32 - beN 1 - N ≤ 8 by unfold beN; omega)
    · exact Nat.pow_dvd_pow 2 (show 32 - beN 2 - N ≤ 8 by unfold beN; omega)

theorem cnt_ok (A N : Nat) (hN : N ≤ 32) (hA : A % 2 ^ (32 - N) = 0) : plN (lvN N) A % szN (lvN N) + cntN N ≤ szN (lvN N) := al_mod (cnt_dvd A N hN hA) (cnt_sz N hN) (szN_pos _)

theorem sz_le (k : Nat) : szN k ≤ 65536 := by unfold szN; split <;> omega

set_option maxHeartbeats 2000000 in
theorem places_any (db A N : Nat) (T f : Nat → Nat → Option Nat) (w : World) (hT : Tabs w T f) (hd : w.cell? ⟨db, 6, none⟩ = some (tbV 0 (T 0 0))) (hA : A < 4294967296) (hN : N ≤ 32) (hZ : A % 2 ^ (32 - N) = 0) (b : Nat) (hb : onT T A (lvN N) = some b) :
    Calls Tryz.prog 104 #[.pointer (some ⟨db, 0, none⟩), .agg #[.int .u32 A, .int .i64 N]] w fun e w' => (∃ cp, e = .returned (.slice (some ⟨b, plN (lvN N) A % szN (lvN N) * 2, none⟩) (cntN N) cp)) ∧ Ext w w' := by
  have hA0 : Ext w (w.alloc (.cells #[.int .u32 A, .int .i64 N] 31)) := (Ext.refl w).alloc _
  have hn := heap_new w (.cells #[.int .u32 A, .int .i64 N] 31)
  have hq : ∀ w', Ext (w.alloc (.cells #[.int .u32 A, .int .i64 N] 31)) w' → w'.cell? ⟨w.heap.size, 0, none⟩ = some (.int .u32 A) ∧ w'.cell? ⟨w.heap.size, 1, none⟩ = some (.int .i64 N) := fun w' hx => ⟨by rw [heap_cell (hx.heap hn)]; rfl, by rw [heap_cell (hx.heap hn)]; rfl⟩
  have HQ : Hid _ := hq
  have HT : Hid (Tabs w T f) := hT
  have d6 : (w.alloc (.cells #[.int .u32 A, .int .i64 N] 31)).cell? ⟨db, 6, none⟩ = some (tbV 0 (T 0 0)) := by rw [hA0.cell (World.block_lt_of_cell? w _ hd)]; exact hd
  have z0 := pl_zero A hA
  obtain ⟨v0, hv0⟩ : ∃ v0, v0 = tbV 0 (T 0 0) := ⟨_, rfl⟩
  rw [← hv0] at d6
  have HV : Hid (v0 = tbV 0 (onT T A 0)) := by show v0 = _; rw [hv0]; unfold onT; rw [z0]
  obtain ⟨i, hi⟩ : ∃ i, i = plN (lvN N) A % szN (lvN N) := ⟨_, rfl⟩
  obtain ⟨cn, hcn⟩ : ∃ cn, cn = cntN N := ⟨_, rfl⟩
  rw [← hi, ← hcn]
  have HI : Hid (i = plN (lvN N) A % szN (lvN N)) := hi
  have HC : Hid (cn = cntN N) := hcn
  clear hq hT hn hd hv0 hi hcn
  generalize hW0 : (w.alloc (.cells #[.int .u32 A, .int .i64 N] 31)) = W0 at *
  go_enter Tryz.func104, Tryz.ntmps104
  go_wp2_with fail
  clear d6
  go_loopw [5, 6] (fun tab be wr => ∃ k : Nat, k ≤ lvN N ∧ be = .int .i64 (beN k) ∧ Hid (tab = tbV k (onT T A k)) ∧ Ext W0 wr) (fun _ be _ => (intOf be).toNat)
  case atStart => exact ⟨0, Nat.zero_le _, rfl, HV, Ext.refl _⟩
  case round =>
    obtain ⟨k, hk, rfl, HV', hx⟩ := hrel
    have hk2 : k ≤ 2 := Nat.le_trans hk (lvN_le N)
    obtain ⟨q0, q1⟩ := HQ.out _ hx
    have ce := fun w => ends_any (A : Int) (N : Int) (beN k) w (be_int k hk2).1 (be_int k hk2).2
    by_cases hlt : k < lvN N
    · have hk1 : k ≤ 1 := by have := lvN_le N; omega
      have hgt : decide ((N : Int) > 32 - (beN k : Int)) = true := by
        have := (lvN_lt N k hk1).1 hlt
        have := lo_be k hk2
        rw [decide_eq_true_eq]; omega
      have hb8 := be_next k hk1
      have hb0 := be_int (k + 1) (by omega)
      rw [hgt] at ce
      have hex : ∃ b', onT T A k = some b' := by
        have down : ∀ d j, j + d = lvN N → onT T A j ≠ none := by
          intro d
          induction d with
          | zero => intro j hj; rw [show j = lvN N by omega, hb]; simp
          | succ d ih =>
            intro j hj hno
            have hj1 : j ≤ 1 := by have := lvN_le N; omega
            exact ih (j + 1) (by omega) (by rw [on_next T A j hj1]; exact HT.out.on_par hno)
        cases hh : onT T A k with
        | none => exact absurd hh (down (lvN N - k) k (by omega))
        | some b' => exact ⟨b', rfl⟩
      obtain ⟨b', ho⟩ := hex
      have hv : u5 = .slice (some ⟨b', 0, none⟩) (szN k) (szN k) := by rw [HV'.out, ho]; rfl
      subst hv
      have cs := fun w => spot_any k A b' (szN k) hk2 hA w
      have cb : ∀ w', Ext W0 w' → Calls Tryz.prog 61 #[.pointer (some ⟨b', plN k A % szN k * 2, none⟩)] w' fun e w2 => e = .returned (tbV (k + 1) (onT T A (k + 1))) ∧ w2 = w' := fun w' hx' => by
        rw [on_next T A k hk1, ← tab_next]
        exact below_any b' _ _ w' ((HT.out.ext (hA0.trans hx')).to_cell ho)
      have HCB : Hid _ := cb
      clear cb
      generalize plN k A % szN k * 2 = off at *
      obtain ⟨v1, hv1⟩ : ∃ v1, v1 = tbV (k + 1) (onT T A (k + 1)) := ⟨_, rfl⟩
      rw [← hv1] at HCB
      have HV1 : Hid (v1 = tbV (k + 1) (onT T A (k + 1))) := hv1
      clear hv1
      generalize szN k = sz at *
      generalize hbe : (beN k : Int) = be at *
      clear hbe
      go_wp2_with (first | (go_at_call 128; refine (ce _).mono ?_; rintro e w1 ⟨rfl, hx1⟩; obtain ⟨q0', q1'⟩ := HQ.out _ (hx.trans hx1)) | (go_at_call 60; refine (cs _).mono ?_; rintro e w2 ⟨rfl, rfl⟩) | (go_at_call 61; refine (HCB.out _ (hx.trans hx1)).mono ?_; rintro e w2 ⟨rfl, rfl⟩))
      refine ⟨⟨k + 1, by omega, rfl, HV1, hx.trans hx1⟩, ?_⟩
      simp only [intOf]; omega
    · obtain rfl : k = lvN N := by omega
      have hbN := lv_be N hN
      have hgt : decide ((N : Int) > 32 - (beN (lvN N) : Int)) = false := by
        rw [decide_eq_false_iff_not]; omega
      rw [hgt] at ce
      have hv : u5 = .slice (some ⟨b, 0, none⟩) (szN (lvN N)) (szN (lvN N)) := by rw [HV'.out, hb]; rfl
      subst hv
      have ci := fun w => index_any (lvN N) A (szN (lvN N)) hk2 hA (some ⟨b, 0, none⟩) w
      have hc := cnt_ok A N hN hZ
      have hs := sz_le (lvN N)
      have hisz := Nat.mod_lt (plN (lvN N) A) (szN_pos (lvN N))
      rw [← HI.out] at hisz
      rw [← HI.out, ← HC.out] at hc
      rw [← HI.out] at ci
      have hc2 : cn = 2 ^ (32 - beN (lvN N) - N) := HC.out
      generalize szN (lvN N) = sz at *
      obtain ⟨c, hc1, hc3⟩ : ∃ c : Nat, (32 : Int) - (beN (lvN N) : Int) - (N : Int) = (c : Int) ∧ 32 - beN (lvN N) - N = c := ⟨32 - beN (lvN N) - N, by omega, rfl⟩
      have hc4 : c ≤ 32 := by omega
      rw [hc3] at hc2
      obtain ⟨s, hw1, hw2, hle, hle2, HS⟩ := w_all hc2 hc hs
      have hc0 : (0 : Int) ≤ (c : Int) := Int.natCast_nonneg _
      clear hc3 hc2 hc hs
      generalize (beN (lvN N) : Int) = be at *
      go_wp2_with (first | (go_at_call 128; refine (ce _).mono ?_; rintro e w1 ⟨rfl, hx1⟩; obtain ⟨q0', q1'⟩ := HQ.out _ (hx.trans hx1)) | (go_at_call 76; refine (ci _).mono ?_; rintro e w2 ⟨rfl, rfl⟩))
      go_ret
      have e3 : s - i = cn := by rw [HS.out]; exact Nat.add_sub_cancel_left ..
      rw [← e3]
      exact ⟨⟨_, rfl⟩, (hA0.trans hx).trans hx1⟩

set_option maxHeartbeats 2000000 in
theorem shortest_any (A N : Nat) (hN : N ≤ 32) (w : World) :
    Calls Tryz.prog 129 #[.agg #[.int .u32 A, .int .i64 N]] w fun e w' => e = .returned (.int .i64 (loN (lvN N) : Nat)) ∧ Ext w w' := by
  have hA0 : Ext w (w.alloc (.cells #[.int .u32 A, .int .i64 N] 31)) := (Ext.refl w).alloc _
  have hn := heap_new w (.cells #[.int .u32 A, .int .i64 N] 31)
  have hq : ∀ w', Ext (w.alloc (.cells #[.int .u32 A, .int .i64 N] 31)) w' → w'.cell? ⟨w.heap.size, 0, none⟩ = some (.int .u32 A) ∧ w'.cell? ⟨w.heap.size, 1, none⟩ = some (.int .i64 N) := fun w' hx => ⟨by rw [heap_cell (hx.heap hn)]; rfl, by rw [heap_cell (hx.heap hn)]; rfl⟩
  have HQ : Hid _ := hq
  clear hq hn
  generalize hW0 : (w.alloc (.cells #[.int .u32 A, .int .i64 N] 31)) = W0 at *
  go_enter Tryz.func129, Tryz.ntmps129
  go_wp2_with fail
  go_loopw [3, 4] (fun n be wr => ∃ k : Nat, k ≤ lvN N ∧ be = .int .i64 (beN k) ∧ n = .int .i64 (loN k : Nat) ∧ Ext W0 wr) (fun _ be _ => (intOf be).toNat)
  case atStart => exact ⟨0, Nat.zero_le _, rfl, rfl, Ext.refl _⟩
  case round =>
    obtain ⟨k, hk, rfl, rfl, hx⟩ := hrel
    have hk2 : k ≤ 2 := Nat.le_trans hk (lvN_le N)
    obtain ⟨q0, q1⟩ := HQ.out _ hx
    have ce := fun w => ends_any (A : Int) (N : Int) (beN k) w (be_int k hk2).1 (be_int k hk2).2
    by_cases hlt : k < lvN N
    · have hk1 : k ≤ 1 := by have := lvN_le N; omega
      have hgt : decide ((N : Int) > 32 - (beN k : Int)) = true := by
        have := (lvN_lt N k hk1).1 hlt
        have := lo_be k hk2
        rw [decide_eq_true_eq]; omega
      have hb8 := be_next k hk1
      have hb0 := be_int (k + 1) (by omega)
      have hlo : (32 : Int) - (beN k : Int) + 1 = (loN (k + 1) : Int) := by have := lo_be k hk2; omega
      have hlo1 : (32 : Int) - (beN k : Int) = (loN (k + 1) : Int) - 1 := by omega
      have hlo2 : (0 : Int) ≤ (loN (k + 1) : Int) ∧ (loN (k + 1) : Int) ≤ 33 := by omega
      rw [hgt] at ce
      generalize (beN k : Int) = be at *
      go_wp2_with (go_at_call 128; refine (ce _).mono ?_; rintro e w1 ⟨rfl, hx1⟩)
      refine ⟨⟨k + 1, by omega, rfl, by simp, hx.trans hx1⟩, ?_⟩
      simp only [intOf]; omega
    · obtain rfl : k = lvN N := by omega
      have hbN := lv_be N hN
      have hgt : decide ((N : Int) > 32 - (beN (lvN N) : Int)) = false := by
        rw [decide_eq_false_iff_not]; omega
      rw [hgt] at ce
      generalize (beN (lvN N) : Int) = be at *
      go_wp2_with (go_at_call 128; refine (ce _).mono ?_; rintro e w1 ⟨rfl, hx1⟩)
      go_ret
      exact ⟨rfl, (hA0.trans hx).trans hx1⟩
end Go.Proofs.YtmoimkeeldlpkaaGreat.Dr

namespace Go.Proofs.YtmoimkeeldlpkaaGreat.Dr

set_option maxRecDepth 100000

open Go.RowKit Go.Proofs.YtmoimkeeldlpkaaGreat Go.Proofs.YtmoimkeeldlpkaaGreat.Tri

set_option linter.unusedVariables false

/-- What was found on an address's way, behind k tables. -/
def fndN (f : Nat → Nat → Option Nat) (A : Nat) : Nat → Option Nat
  | 0 => none
  | k + 1 => match f k (plN k A) with
    | some b => some b
    | none => fndN f A k

theorem Tabs.on_next {w : World} {T f : Nat → Nat → Option Nat} (h : Tabs w T f) (A k : Nat) (hk : k ≤ 2) : onT T A (k + 1) = T (k + 1) (plN k A) := by
  by_cases e : k = 2
  · subst e; unfold onT; rw [h.top 3 _ (by omega), h.top 3 _ (by omega)]
  · exact Dr.on_next T A k (by omega)

theorem Tabs.fnd_end {w : World} {T f : Nat → Nat → Option Nat} (h : Tabs w T f) (A k : Nat) (e : onT T A k = none) (hk : k ≤ 3) : fndN f A 3 = fndN f A k := by
  have step : ∀ d j, k ≤ j → j + d = 3 → fndN f A 3 = fndN f A j → True := fun _ _ _ _ _ => trivial
  have up : ∀ d, k + d ≤ 3 → onT T A (k + d) = none ∧ fndN f A (k + d) = fndN f A k := by
    intro d
    induction d with
    | zero => intro _; exact ⟨e, rfl⟩
    | succ d ih =>
      intro hd
      obtain ⟨h1, h2⟩ := ih (by omega)
      refine ⟨by rw [← Nat.add_assoc, h.on_next A (k + d) (by omega)]; exact h.on_par h1, ?_⟩
      rw [← Nat.add_assoc]
      simp only [fndN]
      rw [h.bare (k + d) _ h1]
      exact h2
  have := (up (3 - k) (by omega)).2
  rw [show k + (3 - k) = 3 by omega] at this
  exact this

/-- What Look answers. -/
def numV (o : Option Nat) (nv : Nat → Int) : Value := match o with
  | none => .tuple #[.int .i64 0, .bool false]
  | some b => .tuple #[.int .i64 (nv b), .bool true]

set_option maxHeartbeats 2000000 in
theorem look_any (db A : Nat) (T f : Nat → Nat → Option Nat) (nv : Nat → Int) (w : World) (hT : Tabs w T f) (hd : w.cell? ⟨db, 6, none⟩ = some (tbV 0 (T 0 0))) (hA : A < 4294967296)
    (hnum : ∀ b, fndN f A 3 = some b → w.cell? ⟨b, 1, none⟩ = some (.int .i64 (nv b))) :
    Calls Tryz.prog 43 #[.pointer (some ⟨db, 0, none⟩), .int .u32 A] w fun e w' => e = .returned (numV (fndN f A 3) nv) ∧ w' = w := by
  have HT : Hid (Tabs w T f) := hT
  have z0 := pl_zero A hA
  obtain ⟨v0, hv0⟩ : ∃ v0, v0 = tbV 0 (T 0 0) := ⟨_, rfl⟩
  rw [← hv0] at hd
  have HV : Hid (v0 = tbV 0 (onT T A 0)) := by show v0 = _; rw [hv0]; unfold onT; rw [z0]
  have HN : Hid _ := hnum
  clear hT hv0 hnum
  go_enter Tryz.func43, Tryz.ntmps43
  go_wp2_with fail
  go_loopw [6, 7, 8] (fun fo be tab wr => ∃ k : Nat, k ≤ 3 ∧ be = .int .i64 (16 - 8 * (k : Int)) ∧ Hid (tab = tbV k (onT T A k)) ∧ Hid (fo = ptV (fndN f A k)) ∧ wr = w) (fun _ be _ _ => (intOf be + 8).toNat)
  case atStart => exact ⟨0, Nat.zero_le _, rfl, HV, rfl, rfl⟩
  case round =>
    obtain ⟨k, hk, rfl, HV', HF, rfl⟩ := hrel
    cases ho : onT T A k with
    | none =>
      have hv : u8 = .slice none 0 0 := by rw [HV'.out, ho]; rfl
      subst hv
      have hend := HT.out.fnd_end A k ho hk
      have HE : Hid (fndN f A 3 = fndN f A k) := hend
      have s1 := neq_nil
      cases hf : fndN f A k with
      | none =>
        have hv : u6 = .pointer none := by rw [HF.out, hf]; rfl
        subst hv
        go_wp2_with fail
        go_ret2
        exact ⟨by rw [HE.out, hf]; rfl, rfl⟩
      | some b =>
        have hv : u6 = .pointer (some ⟨b, 0, none⟩) := by rw [HF.out, hf]; rfl
        subst hv
        have hc := HN.out b (HE.out.trans hf)
        clear hend
        go_wp2_with fail
        go_ret2
        exact ⟨by rw [HE.out, hf]; rfl, rfl⟩
    | some b =>
      have hk2 : k ≤ 2 := by
        rcases Nat.lt_or_ge 2 k with h | h
        · have := HT.out.top k (plN k A / szN k) h
          unfold onT at ho; rw [this] at ho; cases ho
        · exact h
      have hv : u8 = .slice (some ⟨b, 0, none⟩) (szN k) (szN k) := by rw [HV'.out, ho]; rfl
      subst hv
      have s1 := neq_tab ⟨b, 0, none⟩ (szN k) (szN k)
      have hbe : (beN k : Int) = 16 - 8 * (k : Int) := by unfold beN; omega
      have cs := fun w => spot_any k A b (szN k) hk2 hA w
      rw [hbe] at cs
      clear hbe
      have cb : Calls Tryz.prog 61 #[.pointer (some ⟨b, plN k A % szN k * 2, none⟩)] wr fun e w2 => e = .returned (tbV (k + 1) (onT T A (k + 1))) ∧ w2 = wr := by
        rw [HT.out.on_next A k hk2, ← tab_next]
        exact below_any b _ _ wr (HT.out.to_cell ho)
      have hby := HT.out.by_cell ho
      obtain ⟨v1, hv1⟩ : ∃ v1, v1 = tbV (k + 1) (onT T A (k + 1)) := ⟨_, rfl⟩
      rw [← hv1] at cb
      have HV1 : Hid (v1 = tbV (k + 1) (onT T A (k + 1))) := hv1
      clear hv1
      generalize plN k A % szN k * 2 = off at *
      generalize szN k = sz at *
      have hnx : fndN f A (k + 1) = match f k (plN k A) with | some b => some b | none => fndN f A k := rfl
      have HX : Hid _ := hnx
      clear hnx
      generalize hbe2 : (16 : Int) - 8 * (k : Int) = be at *
      have hbk : be - 8 = 16 - 8 * ((k + 1 : Nat) : Int) := by omega
      have hbk2 : 0 ≤ be ∧ be ≤ 16 := by omega
      have HBK : Hid (be - 8 = 16 - 8 * ((k + 1 : Nat) : Int)) := hbk
      clear hbk hbe2
      cases hf : f k (plN k A) with
      | none =>
        rw [hf] at hby
        simp only [ptV, Option.map_none] at hby
        go_wp2_with (first | (go_at_call 60; refine (cs _).mono ?_; rintro e w2 ⟨rfl, rfl⟩) | (go_at_call 61; refine cb.mono ?_; rintro e w2 ⟨rfl, rfl⟩))
        refine ⟨⟨k + 1, by omega, by rw [HBK.out], HV1, by show _ = _; rw [HX.out, hf]; exact HF.out, trivial⟩, ?_⟩
        simp only [intOf]; omega
      | some b' =>
        rw [hf] at hby
        simp only [ptV, Option.map_some] at hby
        go_wp2_with (first | (go_at_call 60; refine (cs _).mono ?_; rintro e w2 ⟨rfl, rfl⟩) | (go_at_call 61; refine cb.mono ?_; rintro e w2 ⟨rfl, rfl⟩))
        refine ⟨⟨k + 1, by omega, by rw [HBK.out], HV1, by show _ = _; rw [HX.out, hf]; rfl, trivial⟩, ?_⟩
        simp only [intOf]; omega

/-! What a prefix's places are painted with where it is not. -/

def nrm (A n : Nat) : PX := (normV A n, n)

theorem nrm_vp (A n : Nat) (hA : A < 4294967296) (hn : n ≤ 32) : Vp (nrm A n) := by
  refine ⟨A / 2 ^ (32 - n) * 2 ^ (32 - n), n, ?_, hn, ?_, ?_⟩
  · unfold nrm normV; rw [sizeN_nat n hn, Int.toNat_natCast]
  · exact Nat.lt_of_le_of_lt (Nat.div_mul_le_self _ _) hA
  · exact Nat.mul_mod_left _ _

theorem nrm_cov (A n : Nat) (hA : A < 4294967296) (hn : n ≤ 32) : cov (nrm A n) ((A : Int), 32) = true := by
  rw [cov_add (nrm_vp A n hA hn)]
  unfold nrm normV
  rw [sizeN_nat n hn]
  simp only [Int.toNat_natCast]
  rw [Nat.mul_div_cancel _ (Nat.pow_pos (by omega))]

theorem lk_mem {E : List (PX × Nat)} {p : PX} {b : Nat} (h : lk E p = some b) : (p, b) ∈ E := by
  induction E with
  | nil => cases h
  | cons x E ih =>
    simp only [lk] at h
    split at h
    · rename_i e; cases h; rw [← e]; exact List.mem_cons_self
    · exact List.mem_cons_of_mem _ (ih h)

theorem lk_none {E : List (PX × Nat)} {p : PX} (h : lk E p = none) : ∀ x ∈ E, x.1 ≠ p := by
  induction E with
  | nil => intro x hx; cases hx
  | cons y E ih =>
    simp only [lk] at h
    split at h
    · cases h
    · rename_i e
      intro x hx
      rcases List.mem_cons.1 hx with rfl | hx
      · exact e
      · exact ih h x hx

set_option maxHeartbeats 2000000 in
theorem under_any (db mb A N : Nat) (E : List (PX × Nat)) (w : World) (hM : MapAt w mb E) (hd : w.cell? ⟨db, 2, none⟩ = some (.map (some mb))) (hA : A < 4294967296) (hN : N ≤ 32) (hE : ∀ x ∈ E, Vp x.1) :
    Calls Tryz.prog 105 #[.pointer (some ⟨db, 0, none⟩), .agg #[.int .u32 A, .int .i64 N]] w fun e w' => (∃ o, e = .returned (ptV o) ∧ Bst E (loN (lvN N)) N A o) ∧ Ext w w' := by
  have hA0 : Ext w (w.alloc (.cells #[.int .u32 A, .int .i64 N] 31)) := (Ext.refl w).alloc _
  have hn := heap_new w (.cells #[.int .u32 A, .int .i64 N] 31)
  have hq : ∀ w', Ext (w.alloc (.cells #[.int .u32 A, .int .i64 N] 31)) w' → w'.cell? ⟨w.heap.size, 0, none⟩ = some (.int .u32 A) ∧ w'.cell? ⟨w.heap.size, 1, none⟩ = some (.int .i64 N) := fun w' hx => ⟨by rw [heap_cell (hx.heap hn)]; rfl, by rw [heap_cell (hx.heap hn)]; rfl⟩
  have HQ : Hid _ := hq
  have hdm : ∀ w', Ext (w.alloc (.cells #[.int .u32 A, .int .i64 N] 31)) w' → w'.cell? ⟨db, 2, none⟩ = some (.map (some mb)) := fun w' hx => by rw [(hA0.trans hx).cell (World.block_lt_of_cell? w _ hd)]; exact hd
  have hlk : ∀ w', Ext (w.alloc (.cells #[.int .u32 A, .int .i64 N] 31)) w' → ∀ p : PX, (Instr.lookup 97 (.map (some mb)) (keyV p) false).run Tryz.prog w' = .ok (ptV (lk E p)) w' := fun w' hx p => look_px (hM.later ((hA0.trans hx).toS []) (by simp)) p
  have HD : Hid _ := hdm
  have HL : Hid _ := hlk
  obtain ⟨q0, q1⟩ := hq _ (Ext.refl _)
  clear hq hn hdm hlk hM hd
  have hlv := lvN_lo N hN
  generalize hW0 : (w.alloc (.cells #[.int .u32 A, .int .i64 N] 31)) = W0 at *
  obtain ⟨lo, hlo⟩ : ∃ lo, lo = loN (lvN N) := ⟨_, rfl⟩
  have csh := fun w => shortest_any A N hN w
  rw [← hlo] at csh ⊢ hlv
  clear hlo
  go_enter Tryz.func105, Tryz.ntmps105
  go_wp2_with fail
  clear q0 q1
  go_loopw [5] (fun n wr => ∃ m : Nat, lo ≤ m ∧ m ≤ N ∧ n = .int .i64 ((m : Int) - 1) ∧ Ext W0 wr ∧ Hid (Bst E m N A none)) (fun n _ => (intOf n + 1).toNat)
  case atStart => exact ⟨N, hlv.1, Nat.le_refl _, rfl, Ext.refl _, fun x _ a1 a2 => absurd a2 (by omega)⟩
  case round =>
    obtain ⟨m, hm1, hm2, rfl, hx, HB⟩ := hrel
    obtain ⟨q0, q1⟩ := HQ.out _ hx
    by_cases hlt : lo < m
    · have hge : (lo : Int) ≤ (m : Int) - 1 := by omega
      have hm32 : (m : Int) ≤ 32 := by omega
      obtain ⟨m', rfl⟩ : ∃ m', m = m' + 1 := ⟨m - 1, by omega⟩
      have hmi : ((m' + 1 : Nat) : Int) - 1 = (m' : Int) := by omega
      rw [hmi] at hge ⊢
      have cn := fun w => norm_any (A : Int) (m' : Int) w (by omega) (by omega)
      rw [holdV_nat m' (by omega)] at cn
      go_wp2_with (go_at_call 129; refine (csh _).mono ?_; rintro e w1 ⟨rfl, hx1⟩)
      have hx2 := (hx.trans hx1).drew
      have hl : ∃ pl, ptV (lk E (nrm A m')) = .pointer pl ∧ (pl = none → lk E (nrm A m') = none) ∧ (∀ a, pl = some a → ∃ b, lk E (nrm A m') = some b ∧ ptV (some b) = .pointer (some a)) := by
        cases hh : lk E (nrm A m') with
        | none => exact ⟨none, rfl, fun _ => rfl, fun a h => by cases h⟩
        | some b => exact ⟨some ⟨b, 0, none⟩, rfl, (fun h => by cases h), fun a h => ⟨b, rfl, by cases h; rfl⟩⟩
      obtain ⟨pl, hpl, hp1, hp2⟩ := hl
      have HP1 : Hid _ := hp1
      have HP2 : Hid _ := hp2
      refine wp_region_eager [(0, false), (1, false), (2, false), (3, false), (4, false), (5, false), (6, false), (7, false), (8, true), (9, false), (10, false)] (by kernel_rfl) (by kernel_rfl) rfl (by kernel_rfl) (fun _ _ _ _ _ h => h) ?_
      generalize w1.drew = W1 at *
      have g0 : ∀ w', Ext W1 w' → w'.cell? ⟨w.heap.size, 0, none⟩ = some (.int .u32 A) := fun w' h => (HQ.out _ (hx2.trans h)).1
      have g2 : ∀ w', Ext W1 w' → w'.cell? ⟨db, 2, none⟩ = some (.map (some mb)) := fun w' h => HD.out _ (hx2.trans h)
      have g3 : ∀ w', Ext W1 w' → (Instr.lookup 97 (.map (some mb)) (.agg #[.int .u32 (normV A m'), .int .i64 m']) false).run Tryz.prog w' = .ok (.pointer pl) w' := fun w' h => by
        have := HL.out _ (hx2.trans h) (nrm A m')
        rw [hpl] at this; exact this
      clear hp1 hp2 hpl q0 q1
      have hx0 : Ext W1 W1 := Ext.refl _
      repeat (first
        | (refine wpE_read (v := ?_) rfl (by rfl) ?_ ?_; rotate_left; (focus (intro w' hx; go_simp; first | done | with_reducible rfl)); simp only [Act.put, List.setIfInBounds_toArray, List.set_cons_zero, List.set_cons_succ])
        | (refine wpE_call rfl (by rfl) (fun K hK => ?_); go_simp; first
            | (go_at_call 100; refine (cn _).mono ?_; rintro e w3 ⟨rfl, hx3⟩; refine hK _ _ hx3 ?_; clear hK K; replace g3 := fun w' (h : Ext w3 w') => g3 w' (hx3.trans h))))
      refine wpE_done ?_
      clear g0 g2 g3
      cases pl with
      | none =>
        have hno := HP1.out rfl
        go_wp2_with fail
        refine ⟨⟨m', by omega, by omega, rfl, hx2.trans hx3, ?_⟩, ?_⟩
        · intro x hx' a1 a2
          rcases Int.lt_or_le x.1.2 ((m' + 1 : Nat) : Int) with h | h
          · cases hc : cov x.1 ((A : Int), 32) with
            | false => rfl
            | true =>
              have hl : x.1.2 = (nrm A m').2 := by show x.1.2 = (m' : Int); omega
              exact absurd (same_len (hE x hx') (nrm_vp A m' hA (by omega)) hc (nrm_cov A m' hA (by omega)) hl) (lk_none hno x hx')
          · exact HB.out x hx' h a2
        · simp only [intOf]; omega
      | some a =>
        obtain ⟨b, hb1, hb2⟩ := HP2.out a rfl
        go_wp2_with fail
        go_ret
        refine ⟨⟨some b, by rw [hb2]; rfl, nrm A m', lk_mem hb1, ?_, ?_, nrm_cov A m' hA (by omega), fun x hx' a1 a2 a3 => ?_⟩, (hA0.trans hx2).trans hx3⟩
        · show (lo : Int) ≤ (m' : Int); omega
        · show (m' : Int) < (N : Int); omega
        · show x.1.2 ≤ (m' : Int)
          rcases Int.lt_or_le x.1.2 ((m' + 1 : Nat) : Int) with h | h
          · omega
          · rw [HB.out x hx' h a2] at a3; cases a3
    · obtain rfl : m = lo := by omega
      have hge : ¬ ((m : Int) ≤ (m : Int) - 1) := by omega
      have hge2 : (m : Int) - 1 < (m : Int) := by omega
      go_wp2_with (go_at_call 129; refine (csh _).mono ?_; rintro e w1 ⟨rfl, hx1⟩)
      go_ret
      exact ⟨⟨none, rfl, HB.out⟩, (hA0.trans hx).trans hx1⟩
end Go.Proofs.YtmoimkeeldlpkaaGreat.Dr

namespace Go.Proofs.YtmoimkeeldlpkaaGreat.Dr

set_option maxRecDepth 100000

open Go.RowKit Go.Proofs.YtmoimkeeldlpkaaGreat Go.Proofs.YtmoimkeeldlpkaaGreat.Tri

set_option linter.unusedVariables false

theorem sz_next (k : Nat) : szN (k + 1) = 256 := rfl
theorem ty_next (k : Nat) : tyN (k + 1) = 183 := rfl

/-- A table's place leads elsewhere. -/
def putT (T : Nat → Nat → Option Nat) (k m : Nat) (o : Option Nat) : Nat → Nat → Option Nat := fun k' m' => if k' = k ∧ m' = m then o else T k' m'

theorem putT_same (T : Nat → Nat → Option Nat) (k m : Nat) (o : Option Nat) : putT T k m o k m = o := by simp [putT]
theorem putT_other (T : Nat → Nat → Option Nat) {k m k' m' : Nat} (o : Option Nat) (h : ¬ (k' = k ∧ m' = m)) : putT T k m o k' m' = T k' m' := by simp only [putT, if_neg h]

theorem mul_add_div {s n i : Nat} (hi : i < s) : (n * s + i) / s = n := by
  rw [Nat.add_comm, Nat.add_mul_div_right _ _ (by omega), Nat.div_eq_of_lt hi, Nat.zero_add]

theorem Tabs.add {W W' : World} {T f : Nat → Nat → Option Nat} (h : Tabs W T f) {k m b nb : Nat} (hk : k ≤ 1) (hb : T k (m / szN k) = some b) (hm : T (k + 1) m = none) (hnew : W.heap.size ≤ nb) {G : List Nat} (hx : ExtS G W W') (hG : ∀ k n b', T k n = some b' → b' ≠ b → b' ∉ G)
    (hw : TabAt W' b (szN k) (tyN k) (fun i => f k (m / szN k * szN k + i)) (fun i => if i = m % szN k then some nb else T (k + 1) (m / szN k * szN k + i)))
    (hz : TabAt W' nb 256 183 (fun _ => none) (fun _ => none)) : Tabs W' (putT T (k + 1) m (some nb)) f := by
  have fresh : ∀ k n b', T k n = some b' → b' ≠ nb := fun k n b' e => by have := (h.tab k n b' e).lt; omega
  have none2 : ∀ i, i < 256 → T (k + 1 + 1) (m * 256 + i) = none := fun i hi => by
    cases hh : T (k + 1 + 1) (m * 256 + i) with
    | none => rfl
    | some b' =>
      have := h.par (k + 1) _ b' hh
      rw [sz_next, mul_add_div hi] at this
      exact absurd hm this
  have nonf : ∀ i, i < 256 → f (k + 1) (m * 256 + i) = none := fun i hi => h.bare (k + 1) _ (by rw [sz_next, mul_add_div hi]; exact hm)
  refine ⟨fun n b' e => ?_, fun k' n hk' => ?_, fun k' n b' e => ?_, fun k1 n1 k2 n2 b' e1 e2 => ?_, fun k' m' b' e => ?_, fun k' m' e => ?_⟩
  · rw [putT_other T _ (by omega)] at e; exact h.at0 n b' e
  · rw [putT_other T _ (by omega)]; exact h.top k' n hk'
  · by_cases e1 : k' = k + 1 ∧ n = m
    · obtain ⟨rfl, rfl⟩ := e1
      rw [putT_same] at e
      cases e
      rw [sz_next, ty_next]
      refine hz.congr (fun i hi => nonf i hi) (fun i hi => ?_)
      rw [putT_other T _ (by omega)]
      exact none2 i hi
    · rw [putT_other T _ e1] at e
      by_cases e2 : b' = b
      · subst e2
        obtain ⟨rfl, rfl⟩ := h.inj _ _ _ _ _ e hb
        refine hw.congr (fun i hi => rfl) (fun i hi => ?_)
        have hsp : m / szN k' * szN k' + m % szN k' = m := by rw [Nat.mul_comm]; exact Nat.div_add_mod m (szN k')
        by_cases e3 : i = m % szN k'
        · subst e3
          rw [if_pos rfl, hsp, putT_same]
        · rw [if_neg e3, putT_other T _ (by omega)]
      · refine ((h.tab k' n b' e).later hx (hG k' n b' e e2)).congr (fun i hi => rfl) (fun i hi => ?_)
        rw [putT_other T _ ?_]
        rintro ⟨h1, h2⟩
        have hkk : k' = k := by omega
        subst hkk
        rw [← h2, mul_add_div hi, e] at hb
        cases hb; exact e2 rfl
  · by_cases a1 : k1 = k + 1 ∧ n1 = m
    · by_cases a2 : k2 = k + 1 ∧ n2 = m
      · exact ⟨by rw [a1.1, a2.1], by rw [a1.2, a2.2]⟩
      · rw [a1.1, a1.2, putT_same] at e1
        rw [putT_other T _ a2] at e2
        cases e1
        exact absurd rfl (fresh _ _ _ e2)
    · rw [putT_other T _ a1] at e1
      by_cases a2 : k2 = k + 1 ∧ n2 = m
      · rw [a2.1, a2.2, putT_same] at e2
        cases e2
        exact absurd rfl (fresh _ _ _ e1)
      · rw [putT_other T _ a2] at e2
        exact h.inj _ _ _ _ _ e1 e2
  · by_cases a1 : k' + 1 = k + 1 ∧ m' = m
    · obtain ⟨a1, rfl⟩ := a1
      obtain rfl : k' = k := by omega
      rw [putT_other T _ (by omega), hb]; simp
    · rw [putT_other T _ a1] at e
      have hp := h.par k' m' b' e
      by_cases a2 : k' = k + 1 ∧ m' / szN k' = m
      · rw [a2.1] at hp ⊢
        rw [a2.1] at a2
        rw [a2.2, putT_same]; simp
      · rw [putT_other T _ a2]; exact hp
  · by_cases a1 : k' = k + 1 ∧ m' / szN k' = m
    · rw [a1.2, a1.1, putT_same] at e; cases e
    · rw [putT_other T _ a1] at e; exact h.bare k' m' e

theorem Tabs.cut {W W' : World} {T f : Nat → Nat → Option Nat} (h : Tabs W T f) {k m b nb : Nat} (hk : k ≤ 1) (hb : T k (m / szN k) = some b) (hm : T (k + 1) m = some nb) {G : List Nat} (hx : ExtS G W W') (hG : ∀ k n b', T k n = some b' → b' ≠ b → b' ∉ G)
    (hw : TabAt W' b (szN k) (tyN k) (fun i => f k (m / szN k * szN k + i)) (fun i => if i = m % szN k then none else T (k + 1) (m / szN k * szN k + i)))
    (he1 : ∀ i, i < 256 → f (k + 1) (m * 256 + i) = none) (he2 : ∀ i, i < 256 → T (k + 1 + 1) (m * 256 + i) = none) : Tabs W' (putT T (k + 1) m none) f := by
  refine ⟨fun n b' e => ?_, fun k' n hk' => ?_, fun k' n b' e => ?_, fun k1 n1 k2 n2 b' e1 e2 => ?_, fun k' m' b' e => ?_, fun k' m' e => ?_⟩
  · rw [putT_other T _ (by omega)] at e; exact h.at0 n b' e
  · by_cases a : k' = k + 1 ∧ n = m
    · rw [a.1, a.2, putT_same]
    · rw [putT_other T _ a]; exact h.top k' n hk'
  · by_cases e1 : k' = k + 1 ∧ n = m
    · rw [e1.1, e1.2, putT_same] at e; cases e
    · rw [putT_other T _ e1] at e
      by_cases e2 : b' = b
      · subst e2
        obtain ⟨rfl, rfl⟩ := h.inj _ _ _ _ _ e hb
        refine hw.congr (fun i hi => rfl) (fun i hi => ?_)
        have hsp : m / szN k' * szN k' + m % szN k' = m := by rw [Nat.mul_comm]; exact Nat.div_add_mod m (szN k')
        by_cases e3 : i = m % szN k'
        · subst e3
          rw [if_pos rfl, hsp, putT_same]
        · rw [if_neg e3, putT_other T _ (by omega)]
      · refine ((h.tab k' n b' e).later hx (hG k' n b' e e2)).congr (fun i hi => rfl) (fun i hi => ?_)
        rw [putT_other T _ ?_]
        rintro ⟨h1, h2⟩
        have hkk : k' = k := by omega
        subst hkk
        rw [← h2, mul_add_div hi, e] at hb
        cases hb; exact e2 rfl
  · have up : ∀ k' n' b', putT T (k + 1) m none k' n' = some b' → T k' n' = some b' := fun k' n' b' e => by
      by_cases a : k' = k + 1 ∧ n' = m
      · rw [a.1, a.2, putT_same] at e; cases e
      · rw [putT_other T _ a] at e; exact e
    exact h.inj _ _ _ _ _ (up _ _ _ e1) (up _ _ _ e2)
  · by_cases a1 : k' + 1 = k + 1 ∧ m' = m
    · rw [a1.1, a1.2, putT_same] at e; cases e
    · rw [putT_other T _ a1] at e
      by_cases a2 : k' = k + 1 ∧ m' / szN k' = m
      · exfalso
        obtain ⟨rfl, a2⟩ := a2
        have := he2 (m' % 256) (Nat.mod_lt _ (by omega))
        rw [sz_next] at a2
        have hsp : m * 256 + m' % 256 = m' := by rw [← a2, Nat.mul_comm]; exact Nat.div_add_mod m' 256
        rw [hsp, e] at this; cases this
      · rw [putT_other T _ a2]; exact h.par k' m' b' e
  · by_cases a1 : k' = k + 1 ∧ m' / szN k' = m
    · obtain ⟨rfl, a2⟩ := a1
      have := he1 (m' % 256) (Nat.mod_lt _ (by omega))
      rw [sz_next] at a2
      have hsp : m * 256 + m' % 256 = m' := by rw [← a2, Nat.mul_comm]; exact Nat.div_add_mod m' 256
      rw [hsp] at this; exact this
    · rw [putT_other T _ a1] at e; exact h.bare k' m' e

theorem Tabs.paint {W W' : World} {T f f' : Nat → Nat → Option Nat} (h : Tabs W T f) {k n b : Nat} (hb : T k n = some b) {G : List Nat} (hx : ExtS G W W') (hG : ∀ k n b', T k n = some b' → b' ≠ b → b' ∉ G)
    (hw : TabAt W' b (szN k) (tyN k) (fun i => f' k (n * szN k + i)) (fun i => T (k + 1) (n * szN k + i))) (hf : ∀ k' m', ¬ (k' = k ∧ m' / szN k' = n) → f' k' m' = f k' m') : Tabs W' T f' := by
  refine ⟨h.at0, h.top, fun k' n' b' e => ?_, h.inj, h.par, fun k' m' e => ?_⟩
  · by_cases e2 : b' = b
    · subst e2
      obtain ⟨rfl, rfl⟩ := h.inj _ _ _ _ _ e hb
      exact hw
    · refine ((h.tab k' n' b' e).later hx (hG k' n' b' e e2)).congr (fun i hi => hf k' _ ?_) (fun i hi => rfl)
      rintro ⟨rfl, a⟩
      rw [mul_add_div hi] at a
      subst a
      rw [e] at hb; cases hb; exact e2 rfl
  · rw [hf k' m' ?_]
    · exact h.bare k' m' e
    · rintro ⟨rfl, a⟩
      rw [a, hb] at e; cases e
end Go.Proofs.YtmoimkeeldlpkaaGreat.Dr
