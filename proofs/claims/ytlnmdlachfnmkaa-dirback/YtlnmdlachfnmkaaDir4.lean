/- Package dir: Look, under. -/
import Derived.Test.YtlnmdlachfnmkaaDir3
namespace Go.Proofs.Ytlnmdlachfnmkaa.Dr
set_option maxRecDepth 100000
open Go.RowKit Go.Proofs.Ytlnmdlachfnmkaa Go.Proofs.Ytlnmdlachfnmkaa.Tri
set_option linter.unusedVariables false

/-- What was found on an address's way, behind k tables. -/
def fndN (f : Nat → Nat → Option Nat) (A : Nat) : Nat → Option Nat
  | 0 => none
  | k + 1 => match f k (plN k A) with
    | some b => some b
    | none => fndN f A k

theorem Tabs.on_next {w : World} {T f : Nat → Nat → Option Nat} (h : Tabs w T f) (A k : Nat) (hk : k ≤ 2) : onT T A (k + 1) = T (k + 1) (plN k A) := by
  by_cases e : k = 2
  · subst e; unfold onT; rw [h.top 3 _ (by omega), h.top 3 _ (by omega)]
  · exact Dr.on_next T A k (by omega)

theorem Tabs.fnd_end {w : World} {T f : Nat → Nat → Option Nat} (h : Tabs w T f) (A k : Nat) (e : onT T A k = none) (hk : k ≤ 3) : fndN f A 3 = fndN f A k := by
  have step : ∀ d j, k ≤ j → j + d = 3 → fndN f A 3 = fndN f A j → True := fun _ _ _ _ _ => trivial
  have up : ∀ d, k + d ≤ 3 → onT T A (k + d) = none ∧ fndN f A (k + d) = fndN f A k := by
    intro d
    induction d with
    | zero => intro _; exact ⟨e, rfl⟩
    | succ d ih =>
      intro hd
      obtain ⟨h1, h2⟩ := ih (by omega)
      refine ⟨by rw [← Nat.add_assoc, h.on_next A (k + d) (by omega)]; exact h.on_par h1, ?_⟩
      rw [← Nat.add_assoc]
      simp only [fndN]
      rw [h.bare (k + d) _ h1]
      exact h2
  have := (up (3 - k) (by omega)).2
  rw [show k + (3 - k) = 3 by omega] at this
  exact this

/-- What Look answers. -/
def numV (o : Option Nat) (nv : Nat → Int) : Value := match o with
  | none => .tuple #[.int .i64 0, .bool false]
  | some b => .tuple #[.int .i64 (nv b), .bool true]

set_option maxHeartbeats 2000000 in
theorem look_any (db A : Nat) (T f : Nat → Nat → Option Nat) (nv : Nat → Int) (w : World) (hT : Tabs w T f) (hd : w.cell? ⟨db, 6, none⟩ = some (tbV 0 (T 0 0))) (hA : A < 4294967296)
    (hnum : ∀ b, fndN f A 3 = some b → w.cell? ⟨b, 1, none⟩ = some (.int .i64 (nv b))) :
    Calls Try.prog 18 #[.pointer (some ⟨db, 0, none⟩), .int .u32 A] w fun e w' => e = .returned (numV (fndN f A 3) nv) ∧ w' = w := by
  have HT : Hid (Tabs w T f) := hT
  have z0 := pl_zero A hA
  obtain ⟨v0, hv0⟩ : ∃ v0, v0 = tbV 0 (T 0 0) := ⟨_, rfl⟩
  rw [← hv0] at hd
  have HV : Hid (v0 = tbV 0 (onT T A 0)) := by show v0 = _; rw [hv0]; unfold onT; rw [z0]
  have HN : Hid _ := hnum
  clear hT hv0 hnum
  go_enter Try.func18, Try.ntmps18
  go_wp2_with fail
  go_loopw [6, 7, 8] (fun fo be tab wr => ∃ k : Nat, k ≤ 3 ∧ be = .int .i64 (16 - 8 * (k : Int)) ∧ Hid (tab = tbV k (onT T A k)) ∧ Hid (fo = ptV (fndN f A k)) ∧ wr = w) (fun _ be _ _ => (intOf be + 8).toNat)
  case atStart => exact ⟨0, Nat.zero_le _, rfl, HV, rfl, rfl⟩
  case round =>
    obtain ⟨k, hk, rfl, HV', HF, rfl⟩ := hrel
    cases ho : onT T A k with
    | none =>
      have hv : u8 = .slice none 0 0 := by rw [HV'.out, ho]; rfl
      subst hv
      have hend := HT.out.fnd_end A k ho hk
      have HE : Hid (fndN f A 3 = fndN f A k) := hend
      have s1 := neq_nil
      cases hf : fndN f A k with
      | none =>
        have hv : u6 = .pointer none := by rw [HF.out, hf]; rfl
        subst hv
        go_wp2_with fail
        go_ret2
        exact ⟨by rw [HE.out, hf]; rfl, rfl⟩
      | some b =>
        have hv : u6 = .pointer (some ⟨b, 0, none⟩) := by rw [HF.out, hf]; rfl
        subst hv
        have hc := HN.out b (HE.out.trans hf)
        clear hend
        go_wp2_with fail
        go_ret2
        exact ⟨by rw [HE.out, hf]; rfl, rfl⟩
    | some b =>
      have hk2 : k ≤ 2 := by
        rcases Nat.lt_or_ge 2 k with h | h
        · have := HT.out.top k (plN k A / szN k) h
          unfold onT at ho; rw [this] at ho; cases ho
        · exact h
      have hv : u8 = .slice (some ⟨b, 0, none⟩) (szN k) (szN k) := by rw [HV'.out, ho]; rfl
      subst hv
      have s1 := neq_tab ⟨b, 0, none⟩ (szN k) (szN k)
      have hbe : (beN k : Int) = 16 - 8 * (k : Int) := by unfold beN; omega
      have cs := fun w => spot_any k A b (szN k) hk2 hA w
      rw [hbe] at cs
      clear hbe
      have cb : Calls Try.prog 30 #[.pointer (some ⟨b, plN k A % szN k * 2, none⟩)] wr fun e w2 => e = .returned (tbV (k + 1) (onT T A (k + 1))) ∧ w2 = wr := by
        rw [HT.out.on_next A k hk2, ← tab_next]
        exact below_any b _ _ wr (HT.out.to_cell ho)
      have hby := HT.out.by_cell ho
      obtain ⟨v1, hv1⟩ : ∃ v1, v1 = tbV (k + 1) (onT T A (k + 1)) := ⟨_, rfl⟩
      rw [← hv1] at cb
      have HV1 : Hid (v1 = tbV (k + 1) (onT T A (k + 1))) := hv1
      clear hv1
      generalize plN k A % szN k * 2 = off at *
      generalize szN k = sz at *
      have hnx : fndN f A (k + 1) = match f k (plN k A) with | some b => some b | none => fndN f A k := rfl
      have HX : Hid _ := hnx
      clear hnx
      generalize hbe2 : (16 : Int) - 8 * (k : Int) = be at *
      have hbk : be - 8 = 16 - 8 * ((k + 1 : Nat) : Int) := by omega
      have hbk2 : 0 ≤ be ∧ be ≤ 16 := by omega
      have HBK : Hid (be - 8 = 16 - 8 * ((k + 1 : Nat) : Int)) := hbk
      clear hbk hbe2
      cases hf : f k (plN k A) with
      | none =>
        rw [hf] at hby
        simp only [ptV, Option.map_none] at hby
        go_wp2_with (first | (go_at_call 29; refine (cs _).mono ?_; rintro e w2 ⟨rfl, rfl⟩) | (go_at_call 30; refine cb.mono ?_; rintro e w2 ⟨rfl, rfl⟩))
        refine ⟨⟨k + 1, by omega, by rw [HBK.out], HV1, by show _ = _; rw [HX.out, hf]; exact HF.out, trivial⟩, ?_⟩
        simp only [intOf]; omega
      | some b' =>
        rw [hf] at hby
        simp only [ptV, Option.map_some] at hby
        go_wp2_with (first | (go_at_call 29; refine (cs _).mono ?_; rintro e w2 ⟨rfl, rfl⟩) | (go_at_call 30; refine cb.mono ?_; rintro e w2 ⟨rfl, rfl⟩))
        refine ⟨⟨k + 1, by omega, by rw [HBK.out], HV1, by show _ = _; rw [HX.out, hf]; rfl, trivial⟩, ?_⟩
        simp only [intOf]; omega

/-! What a prefix's places are painted with where it is not. -/

def nrm (A n : Nat) : PX := (normV A n, n)

theorem nrm_vp (A n : Nat) (hA : A < 4294967296) (hn : n ≤ 32) : Vp (nrm A n) := by
  refine ⟨A / 2 ^ (32 - n) * 2 ^ (32 - n), n, ?_, hn, ?_, ?_⟩
  · unfold nrm normV; rw [sizeN_nat n hn, Int.toNat_natCast]
  · exact Nat.lt_of_le_of_lt (Nat.div_mul_le_self _ _) hA
  · exact Nat.mul_mod_left _ _

theorem nrm_cov (A n : Nat) (hA : A < 4294967296) (hn : n ≤ 32) : cov (nrm A n) ((A : Int), 32) = true := by
  rw [cov_add (nrm_vp A n hA hn)]
  unfold nrm normV
  rw [sizeN_nat n hn]
  simp only [Int.toNat_natCast]
  rw [Nat.mul_div_cancel _ (Nat.pow_pos (by omega))]

theorem lk_mem {E : List (PX × Nat)} {p : PX} {b : Nat} (h : lk E p = some b) : (p, b) ∈ E := by
  induction E with
  | nil => cases h
  | cons x E ih =>
    simp only [lk] at h
    split at h
    · rename_i e; cases h; rw [← e]; exact List.mem_cons_self
    · exact List.mem_cons_of_mem _ (ih h)

theorem lk_none {E : List (PX × Nat)} {p : PX} (h : lk E p = none) : ∀ x ∈ E, x.1 ≠ p := by
  induction E with
  | nil => intro x hx; cases hx
  | cons y E ih =>
    simp only [lk] at h
    split at h
    · cases h
    · rename_i e
      intro x hx
      rcases List.mem_cons.1 hx with rfl | hx
      · exact e
      · exact ih h x hx

set_option maxHeartbeats 2000000 in
theorem under_any (db mb A N : Nat) (E : List (PX × Nat)) (w : World) (hM : MapAt w mb E) (hd : w.cell? ⟨db, 2, none⟩ = some (.map (some mb))) (hA : A < 4294967296) (hN : N ≤ 32) (hE : ∀ x ∈ E, Vp x.1) :
    Calls Try.prog 39 #[.pointer (some ⟨db, 0, none⟩), .agg #[.int .u32 A, .int .i64 N]] w fun e w' => (∃ o, e = .returned (ptV o) ∧ Bst E (loN (lvN N)) N A o) ∧ Ext w w' := by
  have hA0 : Ext w (w.alloc (.cells #[.int .u32 A, .int .i64 N] 30)) := (Ext.refl w).alloc _
  have hn := heap_new w (.cells #[.int .u32 A, .int .i64 N] 30)
  have hq : ∀ w', Ext (w.alloc (.cells #[.int .u32 A, .int .i64 N] 30)) w' → w'.cell? ⟨w.heap.size, 0, none⟩ = some (.int .u32 A) ∧ w'.cell? ⟨w.heap.size, 1, none⟩ = some (.int .i64 N) := fun w' hx => ⟨by rw [heap_cell (hx.heap hn)]; rfl, by rw [heap_cell (hx.heap hn)]; rfl⟩
  have HQ : Hid _ := hq
  have hdm : ∀ w', Ext (w.alloc (.cells #[.int .u32 A, .int .i64 N] 30)) w' → w'.cell? ⟨db, 2, none⟩ = some (.map (some mb)) := fun w' hx => by rw [(hA0.trans hx).cell (World.block_lt_of_cell? w _ hd)]; exact hd
  have hlk : ∀ w', Ext (w.alloc (.cells #[.int .u32 A, .int .i64 N] 30)) w' → ∀ p : PX, (Instr.lookup 59 (.map (some mb)) (keyV p) false).run Try.prog w' = .ok (ptV (lk E p)) w' := fun w' hx p => look_px (hM.later ((hA0.trans hx).toS []) (by simp)) p
  have HD : Hid _ := hdm
  have HL : Hid _ := hlk
  obtain ⟨q0, q1⟩ := hq _ (Ext.refl _)
  clear hq hn hdm hlk hM hd
  have hlv := lvN_lo N hN
  generalize hW0 : (w.alloc (.cells #[.int .u32 A, .int .i64 N] 30)) = W0 at *
  obtain ⟨lo, hlo⟩ : ∃ lo, lo = loN (lvN N) := ⟨_, rfl⟩
  have csh := fun w => shortest_any A N hN w
  rw [← hlo] at csh ⊢ hlv
  clear hlo
  go_enter Try.func39, Try.ntmps39
  go_wp2_with fail
  clear q0 q1
  go_loopw [5] (fun n wr => ∃ m : Nat, lo ≤ m ∧ m ≤ N ∧ n = .int .i64 ((m : Int) - 1) ∧ Ext W0 wr ∧ Hid (Bst E m N A none)) (fun n _ => (intOf n + 1).toNat)
  case atStart => exact ⟨N, hlv.1, Nat.le_refl _, rfl, Ext.refl _, fun x _ a1 a2 => absurd a2 (by omega)⟩
  case round =>
    obtain ⟨m, hm1, hm2, rfl, hx, HB⟩ := hrel
    obtain ⟨q0, q1⟩ := HQ.out _ hx
    by_cases hlt : lo < m
    · have hge : (lo : Int) ≤ (m : Int) - 1 := by omega
      have hm32 : (m : Int) ≤ 32 := by omega
      obtain ⟨m', rfl⟩ : ∃ m', m = m' + 1 := ⟨m - 1, by omega⟩
      have hmi : ((m' + 1 : Nat) : Int) - 1 = (m' : Int) := by omega
      rw [hmi] at hge ⊢
      have cn := fun w => norm_any (A : Int) (m' : Int) w (by omega) (by omega)
      rw [holdV_nat m' (by omega)] at cn
      go_wp2_with (go_at_call 50; refine (csh _).mono ?_; rintro e w1 ⟨rfl, hx1⟩)
      have hx2 := (hx.trans hx1).drew
      have hl : ∃ pl, ptV (lk E (nrm A m')) = .pointer pl ∧ (pl = none → lk E (nrm A m') = none) ∧ (∀ a, pl = some a → ∃ b, lk E (nrm A m') = some b ∧ ptV (some b) = .pointer (some a)) := by
        cases hh : lk E (nrm A m') with
        | none => exact ⟨none, rfl, fun _ => rfl, fun a h => by cases h⟩
        | some b => exact ⟨some ⟨b, 0, none⟩, rfl, (fun h => by cases h), fun a h => ⟨b, rfl, by cases h; rfl⟩⟩
      obtain ⟨pl, hpl, hp1, hp2⟩ := hl
      have HP1 : Hid _ := hp1
      have HP2 : Hid _ := hp2
      refine wp_region_eager [(0, false), (1, false), (2, false), (3, false), (4, false), (5, false), (6, false), (7, false), (8, true), (9, false), (10, false)] (by kernel_rfl) (by kernel_rfl) rfl (by kernel_rfl) (fun _ _ _ _ _ h => h) ?_
      generalize w1.drew = W1 at *
      have g0 : ∀ w', Ext W1 w' → w'.cell? ⟨w.heap.size, 0, none⟩ = some (.int .u32 A) := fun w' h => (HQ.out _ (hx2.trans h)).1
      have g2 : ∀ w', Ext W1 w' → w'.cell? ⟨db, 2, none⟩ = some (.map (some mb)) := fun w' h => HD.out _ (hx2.trans h)
      have g3 : ∀ w', Ext W1 w' → (Instr.lookup 59 (.map (some mb)) (.agg #[.int .u32 (normV A m'), .int .i64 m']) false).run Try.prog w' = .ok (.pointer pl) w' := fun w' h => by
        have := HL.out _ (hx2.trans h) (nrm A m')
        rw [hpl] at this; exact this
      clear hp1 hp2 hpl q0 q1
      have hx0 : Ext W1 W1 := Ext.refl _
      repeat (first
        | (refine wpE_read (v := ?_) rfl (by rfl) ?_ ?_; rotate_left; (focus (intro w' hx; go_simp; first | done | with_reducible rfl)); simp only [Act.put, List.setIfInBounds_toArray, List.set_cons_zero, List.set_cons_succ])
        | (refine wpE_call rfl (by rfl) (fun K hK => ?_); go_simp; first
            | (go_at_call 46; refine (cn _).mono ?_; rintro e w3 ⟨rfl, hx3⟩; refine hK _ _ hx3 ?_; clear hK K; replace g3 := fun w' (h : Ext w3 w') => g3 w' (hx3.trans h))))
      refine wpE_done ?_
      clear g0 g2 g3
      cases pl with
      | none =>
        have hno := HP1.out rfl
        go_wp2_with fail
        refine ⟨⟨m', by omega, by omega, rfl, hx2.trans hx3, ?_⟩, ?_⟩
        · intro x hx' a1 a2
          rcases Int.lt_or_le x.1.2 ((m' + 1 : Nat) : Int) with h | h
          · cases hc : cov x.1 ((A : Int), 32) with
            | false => rfl
            | true =>
              have hl : x.1.2 = (nrm A m').2 := by show x.1.2 = (m' : Int); omega
              exact absurd (same_len (hE x hx') (nrm_vp A m' hA (by omega)) hc (nrm_cov A m' hA (by omega)) hl) (lk_none hno x hx')
          · exact HB.out x hx' h a2
        · simp only [intOf]; omega
      | some a =>
        obtain ⟨b, hb1, hb2⟩ := HP2.out a rfl
        go_wp2_with fail
        go_ret
        refine ⟨⟨some b, by rw [hb2]; rfl, nrm A m', lk_mem hb1, ?_, ?_, nrm_cov A m' hA (by omega), fun x hx' a1 a2 a3 => ?_⟩, (hA0.trans hx2).trans hx3⟩
        · show (lo : Int) ≤ (m' : Int); omega
        · show (m' : Int) < (N : Int); omega
        · show x.1.2 ≤ (m' : Int)
          rcases Int.lt_or_le x.1.2 ((m' + 1 : Nat) : Int) with h | h
          · omega
          · rw [HB.out x hx' h a2] at a3; cases a3
    · obtain rfl : m = lo := by omega
      have hge : ¬ ((m : Int) ≤ (m : Int) - 1) := by omega
      have hge2 : (m : Int) - 1 < (m : Int) := by omega
      go_wp2_with (go_at_call 50; refine (csh _).mono ?_; rintro e w1 ⟨rfl, hx1⟩)
      go_ret
      exact ⟨⟨none, rfl, HB.out⟩, (hA0.trans hx).trans hx1⟩
end Go.Proofs.Ytlnmdlachfnmkaa.Dr
