/- Texts joined by a program: Dir4, Dir5, Dir6, DirQ, Dir7. -/
import Derived.Test.YtkfhkhgiojpfoaaGreatJ11
namespace Go.Proofs.YtkfhkhgiojpfoaaGreat.Dr

set_option maxRecDepth 100000

open Go.RowKit Go.Proofs.YtkfhkhgiojpfoaaGreat Go.Proofs.YtkfhkhgiojpfoaaGreat.Tri

set_option linter.unusedVariables false

/-- What was found on an address's way, behind k tables. -/
def fndN (f : Nat → Nat → Option Nat) (A : Nat) : Nat → Option Nat
  | 0 => none
  | k + 1 => match f k (plN k A) with
    | some b => some b
    | none => fndN f A k

theorem Tabs.on_next {w : World} {T f : Nat → Nat → Option Nat} (h : Tabs w T f) (A k : Nat) (hk : k ≤ 2) : onT T A (k + 1) = T (k + 1) (plN k A) := by
  by_cases e : k = 2
  · subst e; unfold onT; rw [h.top 3 _ (by omega), h.top 3 _ (by omega)]
  · exact Dr.on_next T A k (by omega)

theorem Tabs.fnd_end {w : World} {T f : Nat → Nat → Option Nat} (h : Tabs w T f) (A k : Nat) (e : onT T A k = none) (hk : k ≤ 3) : fndN f A 3 = fndN f A k := by
  have step : ∀ d j, k ≤ j → j + d = 3 → fndN f A 3 = fndN f A j → True := fun _ _ _ _ _ => trivial
  have up : ∀ d, k + d ≤ 3 → onT T A (k + d) = none ∧ fndN f A (k + d) = fndN f A k := by
    intro d
    induction d with
    | zero => intro _; exact ⟨e, rfl⟩
    | succ d ih =>
      intro hd
      obtain ⟨h1, h2⟩ := ih (by omega)
      refine ⟨by rw [← Nat.add_assoc, h.on_next A (k + d) (by omega)]; exact h.on_par h1, ?_⟩
      rw [← Nat.add_assoc]
      simp only [fndN]
      rw [h.bare (k + d) _ h1]
      exact h2
  have := (up (3 - k) (by omega)).2
  rw [show k + (3 - k) = 3 by omega] at this
  exact this

/-- What Look answers. -/
def numV (o : Option Nat) (nv : Nat → Int) : Value := match o with
  | none => .tuple #[.int .i64 0, .bool false]
  | some b => .tuple #[.int .i64 (nv b), .bool true]

set_option maxHeartbeats 2000000 in
theorem look_any (db A : Nat) (T f : Nat → Nat → Option Nat) (nv : Nat → Int) (w : World) (hT : Tabs w T f) (hd : w.cell? ⟨db, 6, none⟩ = some (tbV 0 (T 0 0))) (hA : A < 4294967296)
    (hnum : ∀ b, fndN f A 3 = some b → w.cell? ⟨b, 1, none⟩ = some (.int .i64 (nv b))) :
    Calls Tryz.prog 76 #[.pointer (some ⟨db, 0, none⟩), .int .u32 A] w fun e w' => e = .returned (numV (fndN f A 3) nv) ∧ w' = w := by
  have HT : Hid (Tabs w T f) := hT
  have z0 := pl_zero A hA
  obtain ⟨v0, hv0⟩ : ∃ v0, v0 = tbV 0 (T 0 0) := ⟨_, rfl⟩
  rw [← hv0] at hd
  have HV : Hid (v0 = tbV 0 (onT T A 0)) := by show v0 = _; rw [hv0]; unfold onT; rw [z0]
  have HN : Hid _ := hnum
  clear hT hv0 hnum
  go_enter Tryz.func76, Tryz.ntmps76
  go_wp2_with fail
  go_loopw [6, 7, 8] (fun fo be tab wr => ∃ k : Nat, k ≤ 3 ∧ be = .int .i64 (16 - 8 * (k : Int)) ∧ Hid (tab = tbV k (onT T A k)) ∧ Hid (fo = ptV (fndN f A k)) ∧ wr = w) (fun _ be _ _ => (intOf be + 8).toNat)
  case atStart => exact ⟨0, Nat.zero_le _, rfl, HV, rfl, rfl⟩
  case round =>
    obtain ⟨k, hk, rfl, HV', HF, rfl⟩ := hrel
    cases ho : onT T A k with
    | none =>
      have hv : u8 = .slice none 0 0 := by rw [HV'.out, ho]; rfl
      subst hv
      have hend := HT.out.fnd_end A k ho hk
      have HE : Hid (fndN f A 3 = fndN f A k) := hend
      have s1 := neq_nil
      cases hf : fndN f A k with
      | none =>
        have hv : u6 = .pointer none := by rw [HF.out, hf]; rfl
        subst hv
        go_wp2_with fail
        go_ret2
        exact ⟨by rw [HE.out, hf]; rfl, rfl⟩
      | some b =>
        have hv : u6 = .pointer (some ⟨b, 0, none⟩) := by rw [HF.out, hf]; rfl
        subst hv
        have hc := HN.out b (HE.out.trans hf)
        clear hend
        go_wp2_with fail
        go_ret2
        exact ⟨by rw [HE.out, hf]; rfl, rfl⟩
    | some b =>
      have hk2 : k ≤ 2 := by
        rcases Nat.lt_or_ge 2 k with h | h
        · have := HT.out.top k (plN k A / szN k) h
          unfold onT at ho; rw [this] at ho; cases ho
        · exact h
      have hv : u8 = .slice (some ⟨b, 0, none⟩) (szN k) (szN k) := by rw [HV'.out, ho]; rfl
      subst hv
      have s1 := neq_tab ⟨b, 0, none⟩ (szN k) (szN k)
      have hbe : (beN k : Int) = 16 - 8 * (k : Int) := by unfold beN; omega
      have cs := fun w => spot_any k A b (szN k) hk2 hA w
      rw [hbe] at cs
      clear hbe
      have cb : Calls Tryz.prog 104 #[.pointer (some ⟨b, plN k A % szN k * 2, none⟩)] wr fun e w2 => e = .returned (tbV (k + 1) (onT T A (k + 1))) ∧ w2 = wr := by
        rw [HT.out.on_next A k hk2, ← tab_next]
        exact below_any b _ _ wr (HT.out.to_cell ho)
      have hby := HT.out.by_cell ho
      obtain ⟨v1, hv1⟩ : ∃ v1, v1 = tbV (k + 1) (onT T A (k + 1)) := ⟨_, rfl⟩
      rw [← hv1] at cb
      have HV1 : Hid (v1 = tbV (k + 1) (onT T A (k + 1))) := hv1
      clear hv1
      generalize plN k A % szN k * 2 = off at *
      generalize szN k = sz at *
      have hnx : fndN f A (k + 1) = match f k (plN k A) with | some b => some b | none => fndN f A k := rfl
      have HX : Hid _ := hnx
      clear hnx
      generalize hbe2 : (16 : Int) - 8 * (k : Int) = be at *
      have hbk : be - 8 = 16 - 8 * ((k + 1 : Nat) : Int) := by omega
      have hbk2 : 0 ≤ be ∧ be ≤ 16 := by omega
      have HBK : Hid (be - 8 = 16 - 8 * ((k + 1 : Nat) : Int)) := hbk
      clear hbk hbe2
      cases hf : f k (plN k A) with
      | none =>
        rw [hf] at hby
        simp only [ptV, Option.map_none] at hby
        go_wp2_with (first | (go_at_call 103; refine (cs _).mono ?_; rintro e w2 ⟨rfl, rfl⟩) | (go_at_call 104; refine cb.mono ?_; rintro e w2 ⟨rfl, rfl⟩))
        refine ⟨⟨k + 1, by omega, by rw [HBK.out], HV1, by show _ = _; rw [HX.out, hf]; exact HF.out, trivial⟩, ?_⟩
        simp only [intOf]; omega
      | some b' =>
        rw [hf] at hby
        simp only [ptV, Option.map_some] at hby
        go_wp2_with (first | (go_at_call 103; refine (cs _).mono ?_; rintro e w2 ⟨rfl, rfl⟩) | (go_at_call 104; refine cb.mono ?_; rintro e w2 ⟨rfl, rfl⟩))
        refine ⟨⟨k + 1, by omega, by rw [HBK.out], HV1, by show _ = _; rw [HX.out, hf]; rfl, trivial⟩, ?_⟩
        simp only [intOf]; omega

/-! What a prefix's places are painted with where it is not. -/

def nrm (A n : Nat) : PX := (normV A n, n)

theorem nrm_vp (A n : Nat) (hA : A < 4294967296) (hn : n ≤ 32) : Vp (nrm A n) := by
  refine ⟨A / 2 ^ (32 - n) * 2 ^ (32 - n), n, ?_, hn, ?_, ?_⟩
  · unfold nrm normV; rw [sizeN_nat n hn, Int.toNat_natCast]
  · exact Nat.lt_of_le_of_lt (Nat.div_mul_le_self _ _) hA
  · exact Nat.mul_mod_left _ _

theorem nrm_cov (A n : Nat) (hA : A < 4294967296) (hn : n ≤ 32) : cov (nrm A n) ((A : Int), 32) = true := by
  rw [cov_add (nrm_vp A n hA hn)]
  unfold nrm normV
  rw [sizeN_nat n hn]
  simp only [Int.toNat_natCast]
  rw [Nat.mul_div_cancel _ (Nat.pow_pos (by omega))]

theorem lk_mem {E : List (PX × Nat)} {p : PX} {b : Nat} (h : lk E p = some b) : (p, b) ∈ E := by
  induction E with
  | nil => cases h
  | cons x E ih =>
    simp only [lk] at h
    split at h
    · rename_i e; cases h; rw [← e]; exact List.mem_cons_self
    · exact List.mem_cons_of_mem _ (ih h)

theorem lk_none {E : List (PX × Nat)} {p : PX} (h : lk E p = none) : ∀ x ∈ E, x.1 ≠ p := by
  induction E with
  | nil => intro x hx; cases hx
  | cons y E ih =>
    simp only [lk] at h
    split at h
    · cases h
    · rename_i e
      intro x hx
      rcases List.mem_cons.1 hx with rfl | hx
      · exact e
      · exact ih h x hx

set_option maxHeartbeats 2000000 in
theorem under_any (db mb A N : Nat) (E : List (PX × Nat)) (w : World) (hM : MapAt w mb E) (hd : w.cell? ⟨db, 2, none⟩ = some (.map (some mb))) (hA : A < 4294967296) (hN : N ≤ 32) (hE : ∀ x ∈ E, Vp x.1) :
    Calls Tryz.prog 119 #[.pointer (some ⟨db, 0, none⟩), .agg #[.int .u32 A, .int .i64 N]] w fun e w' => (∃ o, e = .returned (ptV o) ∧ Bst E (loN (lvN N)) N A o) ∧ Ext w w' := by
  have hA0 : Ext w (w.alloc (.cells #[.int .u32 A, .int .i64 N] 42)) := (Ext.refl w).alloc _
  have hn := heap_new w (.cells #[.int .u32 A, .int .i64 N] 42)
  have hq : ∀ w', Ext (w.alloc (.cells #[.int .u32 A, .int .i64 N] 42)) w' → w'.cell? ⟨w.heap.size, 0, none⟩ = some (.int .u32 A) ∧ w'.cell? ⟨w.heap.size, 1, none⟩ = some (.int .i64 N) := fun w' hx => ⟨by rw [heap_cell (hx.heap hn)]; rfl, by rw [heap_cell (hx.heap hn)]; rfl⟩
  have HQ : Hid _ := hq
  have hdm : ∀ w', Ext (w.alloc (.cells #[.int .u32 A, .int .i64 N] 42)) w' → w'.cell? ⟨db, 2, none⟩ = some (.map (some mb)) := fun w' hx => by rw [(hA0.trans hx).cell (World.block_lt_of_cell? w _ hd)]; exact hd
  have hlk : ∀ w', Ext (w.alloc (.cells #[.int .u32 A, .int .i64 N] 42)) w' → ∀ p : PX, (Instr.lookup 104 (.map (some mb)) (keyV p) false).run Tryz.prog w' = .ok (ptV (lk E p)) w' := fun w' hx p => look_px (hM.later ((hA0.trans hx).toS []) (by simp)) p
  have HD : Hid _ := hdm
  have HL : Hid _ := hlk
  obtain ⟨q0, q1⟩ := hq _ (Ext.refl _)
  clear hq hn hdm hlk hM hd
  have hlv := lvN_lo N hN
  generalize hW0 : (w.alloc (.cells #[.int .u32 A, .int .i64 N] 42)) = W0 at *
  obtain ⟨lo, hlo⟩ : ∃ lo, lo = loN (lvN N) := ⟨_, rfl⟩
  have csh := fun w => shortest_any A N hN w
  rw [← hlo] at csh ⊢ hlv
  clear hlo
  go_enter Tryz.func119, Tryz.ntmps119
  go_wp2_with fail
  clear q0 q1
  go_loopw [5] (fun n wr => ∃ m : Nat, lo ≤ m ∧ m ≤ N ∧ n = .int .i64 ((m : Int) - 1) ∧ Ext W0 wr ∧ Hid (Bst E m N A none)) (fun n _ => (intOf n + 1).toNat)
  case atStart => exact ⟨N, hlv.1, Nat.le_refl _, rfl, Ext.refl _, fun x _ a1 a2 => absurd a2 (by omega)⟩
  case round =>
    obtain ⟨m, hm1, hm2, rfl, hx, HB⟩ := hrel
    obtain ⟨q0, q1⟩ := HQ.out _ hx
    by_cases hlt : lo < m
    · have hge : (lo : Int) ≤ (m : Int) - 1 := by omega
      have hm32 : (m : Int) ≤ 32 := by omega
      obtain ⟨m', rfl⟩ : ∃ m', m = m' + 1 := ⟨m - 1, by omega⟩
      have hmi : ((m' + 1 : Nat) : Int) - 1 = (m' : Int) := by omega
      rw [hmi] at hge ⊢
      have cn := fun w => norm_any (A : Int) (m' : Int) w (by omega) (by omega)
      rw [holdV_nat m' (by omega)] at cn
      go_wp2_with (go_at_call 143; refine (csh _).mono ?_; rintro e w1 ⟨rfl, hx1⟩)
      have hx2 := (hx.trans hx1).drew
      have hl : ∃ pl, ptV (lk E (nrm A m')) = .pointer pl ∧ (pl = none → lk E (nrm A m') = none) ∧ (∀ a, pl = some a → ∃ b, lk E (nrm A m') = some b ∧ ptV (some b) = .pointer (some a)) := by
        cases hh : lk E (nrm A m') with
        | none => exact ⟨none, rfl, fun _ => rfl, fun a h => by cases h⟩
        | some b => exact ⟨some ⟨b, 0, none⟩, rfl, (fun h => by cases h), fun a h => ⟨b, rfl, by cases h; rfl⟩⟩
      obtain ⟨pl, hpl, hp1, hp2⟩ := hl
      have HP1 : Hid _ := hp1
      have HP2 : Hid _ := hp2
      refine wp_region_eager [(0, false), (1, false), (2, false), (3, false), (4, false), (5, false), (6, false), (7, false), (8, true), (9, false), (10, false)] (by kernel_rfl) (by kernel_rfl) rfl (by kernel_rfl) (fun _ _ _ _ _ h => h) ?_
      generalize w1.drew = W1 at *
      have g0 : ∀ w', Ext W1 w' → w'.cell? ⟨w.heap.size, 0, none⟩ = some (.int .u32 A) := fun w' h => (HQ.out _ (hx2.trans h)).1
      have g2 : ∀ w', Ext W1 w' → w'.cell? ⟨db, 2, none⟩ = some (.map (some mb)) := fun w' h => HD.out _ (hx2.trans h)
      have g3 : ∀ w', Ext W1 w' → (Instr.lookup 104 (.map (some mb)) (.agg #[.int .u32 (normV A m'), .int .i64 m']) false).run Tryz.prog w' = .ok (.pointer pl) w' := fun w' h => by
        have := HL.out _ (hx2.trans h) (nrm A m')
        rw [hpl] at this; exact this
      clear hp1 hp2 hpl q0 q1
      have hx0 : Ext W1 W1 := Ext.refl _
      repeat (first
        | (refine wpE_read (v := ?_) rfl (by rfl) ?_ ?_; rotate_left; (focus (intro w' hx; go_simp; first | done | with_reducible rfl)); simp only [Act.put, List.setIfInBounds_toArray, List.set_cons_zero, List.set_cons_succ])
        | (refine wpE_call rfl (by rfl) (fun K hK => ?_); go_simp; first
            | (go_at_call 106; refine (cn _).mono ?_; rintro e w3 ⟨rfl, hx3⟩; refine hK _ _ hx3 ?_; clear hK K; replace g3 := fun w' (h : Ext w3 w') => g3 w' (hx3.trans h))))
      refine wpE_done ?_
      clear g0 g2 g3
      cases pl with
      | none =>
        have hno := HP1.out rfl
        go_wp2_with fail
        refine ⟨⟨m', by omega, by omega, rfl, hx2.trans hx3, ?_⟩, ?_⟩
        · intro x hx' a1 a2
          rcases Int.lt_or_le x.1.2 ((m' + 1 : Nat) : Int) with h | h
          · cases hc : cov x.1 ((A : Int), 32) with
            | false => rfl
            | true =>
              have hl : x.1.2 = (nrm A m').2 := by show x.1.2 = (m' : Int); omega
              exact absurd (same_len (hE x hx') (nrm_vp A m' hA (by omega)) hc (nrm_cov A m' hA (by omega)) hl) (lk_none hno x hx')
          · exact HB.out x hx' h a2
        · simp only [intOf]; omega
      | some a =>
        obtain ⟨b, hb1, hb2⟩ := HP2.out a rfl
        go_wp2_with fail
        go_ret
        refine ⟨⟨some b, by rw [hb2]; rfl, nrm A m', lk_mem hb1, ?_, ?_, nrm_cov A m' hA (by omega), fun x hx' a1 a2 a3 => ?_⟩, (hA0.trans hx2).trans hx3⟩
        · show (lo : Int) ≤ (m' : Int); omega
        · show (m' : Int) < (N : Int); omega
        · show x.1.2 ≤ (m' : Int)
          rcases Int.lt_or_le x.1.2 ((m' + 1 : Nat) : Int) with h | h
          · omega
          · rw [HB.out x hx' h a2] at a3; cases a3
    · obtain rfl : m = lo := by omega
      have hge : ¬ ((m : Int) ≤ (m : Int) - 1) := by omega
      have hge2 : (m : Int) - 1 < (m : Int) := by omega
      go_wp2_with (go_at_call 143; refine (csh _).mono ?_; rintro e w1 ⟨rfl, hx1⟩)
      go_ret
      exact ⟨⟨none, rfl, HB.out⟩, (hA0.trans hx).trans hx1⟩
end Go.Proofs.YtkfhkhgiojpfoaaGreat.Dr

namespace Go.Proofs.YtkfhkhgiojpfoaaGreat.Dr

set_option maxRecDepth 100000

open Go.RowKit Go.Proofs.YtkfhkhgiojpfoaaGreat Go.Proofs.YtkfhkhgiojpfoaaGreat.Tri

set_option linter.unusedVariables false

theorem sz_next (k : Nat) : szN (k + 1) = 256 := rfl
theorem ty_next (k : Nat) : tyN (k + 1) = 197 := rfl

/-- A table's place leads elsewhere. -/
def putT (T : Nat → Nat → Option Nat) (k m : Nat) (o : Option Nat) : Nat → Nat → Option Nat := fun k' m' => if k' = k ∧ m' = m then o else T k' m'

theorem putT_same (T : Nat → Nat → Option Nat) (k m : Nat) (o : Option Nat) : putT T k m o k m = o := by simp [putT]
theorem putT_other (T : Nat → Nat → Option Nat) {k m k' m' : Nat} (o : Option Nat) (h : ¬ (k' = k ∧ m' = m)) : putT T k m o k' m' = T k' m' := by simp only [putT, if_neg h]

theorem mul_add_div {s n i : Nat} (hi : i < s) : (n * s + i) / s = n := by
  rw [Nat.add_comm, Nat.add_mul_div_right _ _ (by omega), Nat.div_eq_of_lt hi, Nat.zero_add]

theorem Tabs.add {W W' : World} {T f : Nat → Nat → Option Nat} (h : Tabs W T f) {k m b nb : Nat} (hk : k ≤ 1) (hb : T k (m / szN k) = some b) (hm : T (k + 1) m = none) (hnew : W.heap.size ≤ nb) {G : List Nat} (hx : ExtS G W W') (hG : ∀ k n b', T k n = some b' → b' ≠ b → b' ∉ G)
    (hw : TabAt W' b (szN k) (tyN k) (fun i => f k (m / szN k * szN k + i)) (fun i => if i = m % szN k then some nb else T (k + 1) (m / szN k * szN k + i)))
    (hz : TabAt W' nb 256 197 (fun _ => none) (fun _ => none)) : Tabs W' (putT T (k + 1) m (some nb)) f := by
  have fresh : ∀ k n b', T k n = some b' → b' ≠ nb := fun k n b' e => by have := (h.tab k n b' e).lt; omega
  have none2 : ∀ i, i < 256 → T (k + 1 + 1) (m * 256 + i) = none := fun i hi => by
    cases hh : T (k + 1 + 1) (m * 256 + i) with
    | none => rfl
    | some b' =>
      have := h.par (k + 1) _ b' hh
      rw [sz_next, mul_add_div hi] at this
      exact absurd hm this
  have nonf : ∀ i, i < 256 → f (k + 1) (m * 256 + i) = none := fun i hi => h.bare (k + 1) _ (by rw [sz_next, mul_add_div hi]; exact hm)
  refine ⟨fun n b' e => ?_, fun k' n hk' => ?_, fun k' n b' e => ?_, fun k1 n1 k2 n2 b' e1 e2 => ?_, fun k' m' b' e => ?_, fun k' m' e => ?_⟩
  · rw [putT_other T _ (by omega)] at e; exact h.at0 n b' e
  · rw [putT_other T _ (by omega)]; exact h.top k' n hk'
  · by_cases e1 : k' = k + 1 ∧ n = m
    · obtain ⟨rfl, rfl⟩ := e1
      rw [putT_same] at e
      cases e
      rw [sz_next, ty_next]
      refine hz.congr (fun i hi => nonf i hi) (fun i hi => ?_)
      rw [putT_other T _ (by omega)]
      exact none2 i hi
    · rw [putT_other T _ e1] at e
      by_cases e2 : b' = b
      · subst e2
        obtain ⟨rfl, rfl⟩ := h.inj _ _ _ _ _ e hb
        refine hw.congr (fun i hi => rfl) (fun i hi => ?_)
        have hsp : m / szN k' * szN k' + m % szN k' = m := by rw [Nat.mul_comm]; exact Nat.div_add_mod m (szN k')
        by_cases e3 : i = m % szN k'
        · subst e3
          rw [if_pos rfl, hsp, putT_same]
        · rw [if_neg e3, putT_other T _ (by omega)]
      · refine ((h.tab k' n b' e).later hx (hG k' n b' e e2)).congr (fun i hi => rfl) (fun i hi => ?_)
        rw [putT_other T _ ?_]
        rintro ⟨h1, h2⟩
        have hkk : k' = k := by omega
        subst hkk
        rw [← h2, mul_add_div hi, e] at hb
        cases hb; exact e2 rfl
  · by_cases a1 : k1 = k + 1 ∧ n1 = m
    · by_cases a2 : k2 = k + 1 ∧ n2 = m
      · exact ⟨by rw [a1.1, a2.1], by rw [a1.2, a2.2]⟩
      · rw [a1.1, a1.2, putT_same] at e1
        rw [putT_other T _ a2] at e2
        cases e1
        exact absurd rfl (fresh _ _ _ e2)
    · rw [putT_other T _ a1] at e1
      by_cases a2 : k2 = k + 1 ∧ n2 = m
      · rw [a2.1, a2.2, putT_same] at e2
        cases e2
        exact absurd rfl (fresh _ _ _ e1)
      · rw [putT_other T _ a2] at e2
        exact h.inj _ _ _ _ _ e1 e2
  · by_cases a1 : k' + 1 = k + 1 ∧ m' = m
    · obtain ⟨a1, rfl⟩ := a1
      obtain rfl : k' = k := by omega
      rw [putT_other T _ (by omega), hb]; simp
    · rw [putT_other T _ a1] at e
      have hp := h.par k' m' b' e
      by_cases a2 : k' = k + 1 ∧ m' / szN k' = m
      · rw [a2.1] at hp ⊢
        rw [a2.1] at a2
        rw [a2.2, putT_same]; simp
      · rw [putT_other T _ a2]; exact hp
  · by_cases a1 : k' = k + 1 ∧ m' / szN k' = m
    · rw [a1.2, a1.1, putT_same] at e; cases e
    · rw [putT_other T _ a1] at e; exact h.bare k' m' e

theorem Tabs.cut {W W' : World} {T f : Nat → Nat → Option Nat} (h : Tabs W T f) {k m b nb : Nat} (hk : k ≤ 1) (hb : T k (m / szN k) = some b) (hm : T (k + 1) m = some nb) {G : List Nat} (hx : ExtS G W W') (hG : ∀ k n b', T k n = some b' → b' ≠ b → b' ∉ G)
    (hw : TabAt W' b (szN k) (tyN k) (fun i => f k (m / szN k * szN k + i)) (fun i => if i = m % szN k then none else T (k + 1) (m / szN k * szN k + i)))
    (he1 : ∀ i, i < 256 → f (k + 1) (m * 256 + i) = none) (he2 : ∀ i, i < 256 → T (k + 1 + 1) (m * 256 + i) = none) : Tabs W' (putT T (k + 1) m none) f := by
  refine ⟨fun n b' e => ?_, fun k' n hk' => ?_, fun k' n b' e => ?_, fun k1 n1 k2 n2 b' e1 e2 => ?_, fun k' m' b' e => ?_, fun k' m' e => ?_⟩
  · rw [putT_other T _ (by omega)] at e; exact h.at0 n b' e
  · by_cases a : k' = k + 1 ∧ n = m
    · rw [a.1, a.2, putT_same]
    · rw [putT_other T _ a]; exact h.top k' n hk'
  · by_cases e1 : k' = k + 1 ∧ n = m
    · rw [e1.1, e1.2, putT_same] at e; cases e
    · rw [putT_other T _ e1] at e
      by_cases e2 : b' = b
      · subst e2
        obtain ⟨rfl, rfl⟩ := h.inj _ _ _ _ _ e hb
        refine hw.congr (fun i hi => rfl) (fun i hi => ?_)
        have hsp : m / szN k' * szN k' + m % szN k' = m := by rw [Nat.mul_comm]; exact Nat.div_add_mod m (szN k')
        by_cases e3 : i = m % szN k'
        · subst e3
          rw [if_pos rfl, hsp, putT_same]
        · rw [if_neg e3, putT_other T _ (by omega)]
      · refine ((h.tab k' n b' e).later hx (hG k' n b' e e2)).congr (fun i hi => rfl) (fun i hi => ?_)
        rw [putT_other T _ ?_]
        rintro ⟨h1, h2⟩
        have hkk : k' = k := by omega
        subst hkk
        rw [← h2, mul_add_div hi, e] at hb
        cases hb; exact e2 rfl
  · have up : ∀ k' n' b', putT T (k + 1) m none k' n' = some b' → T k' n' = some b' := fun k' n' b' e => by
      by_cases a : k' = k + 1 ∧ n' = m
      · rw [a.1, a.2, putT_same] at e; cases e
      · rw [putT_other T _ a] at e; exact e
    exact h.inj _ _ _ _ _ (up _ _ _ e1) (up _ _ _ e2)
  · by_cases a1 : k' + 1 = k + 1 ∧ m' = m
    · rw [a1.1, a1.2, putT_same] at e; cases e
    · rw [putT_other T _ a1] at e
      by_cases a2 : k' = k + 1 ∧ m' / szN k' = m
      · exfalso
        obtain ⟨rfl, a2⟩ := a2
        have := he2 (m' % 256) (Nat.mod_lt _ (by omega))
        rw [sz_next] at a2
        have hsp : m * 256 + m' % 256 = m' := by rw [← a2, Nat.mul_comm]; exact Nat.div_add_mod m' 256
        rw [hsp, e] at this; cases this
      · rw [putT_other T _ a2]; exact h.par k' m' b' e
  · by_cases a1 : k' = k + 1 ∧ m' / szN k' = m
    · obtain ⟨rfl, a2⟩ := a1
      have := he1 (m' % 256) (Nat.mod_lt _ (by omega))
      rw [sz_next] at a2
      have hsp : m * 256 + m' % 256 = m' := by rw [← a2, Nat.mul_comm]; exact Nat.div_add_mod m' 256
      rw [hsp] at this; exact this
    · rw [putT_other T _ a1] at e; exact h.bare k' m' e

theorem Tabs.paint {W W' : World} {T f f' : Nat → Nat → Option Nat} (h : Tabs W T f) {k n b : Nat} (hb : T k n = some b) {G : List Nat} (hx : ExtS G W W') (hG : ∀ k n b', T k n = some b' → b' ≠ b → b' ∉ G)
    (hw : TabAt W' b (szN k) (tyN k) (fun i => f' k (n * szN k + i)) (fun i => T (k + 1) (n * szN k + i))) (hf : ∀ k' m', ¬ (k' = k ∧ m' / szN k' = n) → f' k' m' = f k' m') : Tabs W' T f' := by
  refine ⟨h.at0, h.top, fun k' n' b' e => ?_, h.inj, h.par, fun k' m' e => ?_⟩
  · by_cases e2 : b' = b
    · subst e2
      obtain ⟨rfl, rfl⟩ := h.inj _ _ _ _ _ e hb
      exact hw
    · refine ((h.tab k' n' b' e).later hx (hG k' n' b' e e2)).congr (fun i hi => hf k' _ ?_) (fun i hi => rfl)
      rintro ⟨rfl, a⟩
      rw [mul_add_div hi] at a
      subst a
      rw [e] at hb; cases hb; exact e2 rfl
  · rw [hf k' m' ?_]
    · exact h.bare k' m' e
    · rintro ⟨rfl, a⟩
      rw [a, hb] at e; cases e
end Go.Proofs.YtkfhkhgiojpfoaaGreat.Dr

namespace Go.Proofs.YtkfhkhgiojpfoaaGreat.Dr

set_option maxRecDepth 100000

open Go.RowKit Go.Proofs.YtkfhkhgiojpfoaaGreat Go.Proofs.YtkfhkhgiojpfoaaGreat.Tri

set_option linter.unusedVariables false

/-- Tables on an address's way, down to a level, are there; whatever else is there was. -/
structure Grown (T T' : Nat → Nat → Option Nat) (A lv base : Nat) : Prop where
  old : ∀ k n b, T k n = some b → T' k n = some b
  new : ∀ k n b, T k n = none → T' k n = some b → base ≤ b ∧ ∃ j, j < lv ∧ k = j + 1 ∧ n = plN j A
  way : ∀ j, j < lv → T' (j + 1) (plN j A) ≠ none

def zB : Array Value := Array.replicate 512 (.pointer none)

theorem zB_tab {w : World} {g : Nat} {t : TypeId} (h : w.heap[g]? = some (.cells zB t (0, 0))) : TabAt w g 256 t (fun _ => none) (fun _ => none) := by
  refine ⟨_, h, by simp [zB], fun i hi => ⟨?_, ?_⟩⟩
  · simp only [zB, Array.getElem?_replicate]; rw [if_pos (by omega)]; rfl
  · simp only [zB, Array.getElem?_replicate]; rw [if_pos (by omega)]; rfl

theorem ms_grown {T T' : Nat → Nat → Option Nat} {A k base : Nat} (h : Grown T T' A k base) : T (k + 1) (plN k A) = T' (k + 1) (plN k A) := by
  cases hh : T (k + 1) (plN k A) with
  | some b => exact (h.old _ _ b hh).symm
  | none =>
    cases h2 : T' (k + 1) (plN k A) with
    | none => rfl
    | some b =>
      obtain ⟨-, j, hj, e, -⟩ := h.new _ _ b hh h2
      omega

theorem Grown.step {T T' : Nat → Nat → Option Nat} {A k base : Nat} (h : Grown T T' A k base) (hn : T' (k + 1) (plN k A) ≠ none) : Grown T T' A (k + 1) base :=
  ⟨h.old, fun k' n b e e' => by obtain ⟨h1, j, h2, h3⟩ := h.new k' n b e e'; exact ⟨h1, j, by omega, h3⟩, fun j hj => by
    by_cases e : j = k
    · rw [e]; exact hn
    · exact h.way j (by omega)⟩

theorem Grown.put {T T' : Nat → Nat → Option Nat} {A k base nb : Nat} (h : Grown T T' A k base) (hn : T' (k + 1) (plN k A) = none) (hb : base ≤ nb) : Grown T (putT T' (k + 1) (plN k A) (some nb)) A (k + 1) base := by
  refine ⟨fun k' n b e => ?_, fun k' n b e e' => ?_, fun j hj => ?_⟩
  · have h1 := h.old k' n b e
    rw [putT_other _ _ ?_]
    · exact h1
    · rintro ⟨rfl, rfl⟩
      rw [hn] at h1; cases h1
  · by_cases a : k' = k + 1 ∧ n = plN k A
    · rw [a.1, a.2, putT_same] at e'
      cases e'
      exact ⟨hb, k, by omega, a.1, a.2⟩
    · rw [putT_other _ _ a] at e'
      obtain ⟨h1, j, h2, h3⟩ := h.new k' n b e e'
      exact ⟨h1, j, by omega, h3⟩
  · by_cases a : j + 1 = k + 1 ∧ plN j A = plN k A
    · rw [a.1, a.2, putT_same]; simp
    · rw [putT_other _ _ a]
      by_cases e : j = k
      · subst e; exact absurd ⟨rfl, rfl⟩ a
      · exact h.way j (by omega)

theorem ty_dir (k : Nat) : tyN k ≠ 118 := by match k with
  | 0 => decide
  | k + 1 => rw [ty_next]; decide

theorem Tabs.ne_dir {w : World} {T f : Nat → Nat → Option Nat} (h : Tabs w T f) {db : Nat} {mo ow mp dn st sm fi : Value} (hd : w.heap[db]? = some (dirO mo ow mp dn st sm fi)) {k n b : Nat} (e : T k n = some b) : b ≠ db := by
  rintro rfl
  obtain ⟨cs, h1, -, -⟩ := h.tab k n b e
  rw [hd] at h1
  simp only [dirO, Option.some.injEq, Obj.cells.injEq] at h1
  exact ty_dir k h1.2.1.symm

theorem zero_cells : Tryz.zeroCells197 = zB := by kernel_rfl

/-- A table more. -/
theorem own_step {W : World} {T f : Nat → Nat → Option Nat} (h : Tabs W T f) {A k b db : Nat} {oo : Int} {mo mp dn st sm fi : Value} (hk : k ≤ 1) (hb : onT T A k = some b) (hto : T (k + 1) (plN k A) = none) (hd : W.heap[db]? = some (dirO mo (.int .i64 oo) mp dn st sm fi)) :
    ∀ W3, W3 = ((W.setCell ⟨b, plN k A % szN k * 2 + 1, none⟩ (.pointer (some ⟨W.heap.size, 0, none⟩))).setCell ⟨db, 1, none⟩ (.int .i64 (oo + 1))).alloc (.cells Tryz.zeroCells197 197) →
      W3.cell? ⟨b, plN k A % szN k * 2 + 1, none⟩ = some (ptV (some W.heap.size)) ∧ Tabs W3 (putT T (k + 1) (plN k A) (some W.heap.size)) f ∧ W3.heap[db]? = some (dirO mo (.int .i64 (oo + 1)) mp dn st sm fi) ∧ ExtS [b, db] W W3 := by
  intro W3 hW3
  have hbd := h.ne_dir hd hb
  have t1 := h.tab k _ b hb
  have t2 := t1.set_to (Nat.mod_lt (plN k A) (szN_pos k)) (some W.heap.size)
  have hd1 : (W.setCell ⟨b, plN k A % szN k * 2 + 1, none⟩ (.pointer (some ⟨W.heap.size, 0, none⟩))).heap[db]? = some (dirO mo (.int .i64 oo) mp dn st sm fi) := by
    have x1 : ExtS [b] W (W.setCell ⟨b, plN k A % szN k * 2 + 1, none⟩ (.pointer (some ⟨W.heap.size, 0, none⟩))) := (ExtS.refl _ _).setCell (.inl (by simp)) _
    exact x1.heap (by simpa using hbd.symm) hd
  have s1 : ((W.setCell ⟨b, plN k A % szN k * 2 + 1, none⟩ (.pointer (some ⟨W.heap.size, 0, none⟩))).setCell ⟨db, 1, none⟩ (.int .i64 (oo + 1))).heap.size = W.heap.size := by simp [World.setCell]
  have x2 : ExtS [b, db] W ((W.setCell ⟨b, plN k A % szN k * 2 + 1, none⟩ (.pointer (some ⟨W.heap.size, 0, none⟩))).setCell ⟨db, 1, none⟩ (.int .i64 (oo + 1))) := ((ExtS.refl _ _).setCell (.inl (by simp)) _).setCell (.inl (by simp)) _
  have hd2 := heap_set (k := 1) hd1 (.int .i64 (oo + 1))
  have x3 : ExtS [db] (W.setCell ⟨b, plN k A % szN k * 2 + 1, none⟩ (.pointer (some ⟨W.heap.size, 0, none⟩))) ((W.setCell ⟨b, plN k A % szN k * 2 + 1, none⟩ (.pointer (some ⟨W.heap.size, 0, none⟩))).setCell ⟨db, 1, none⟩ (.int .i64 (oo + 1))) := (ExtS.refl _ _).setCell (.inl (by simp)) _
  have t3 := TabAt.later (f := fun i => f k (plN k A / szN k * szN k + i)) t2 x3 (by simpa using hbd)
  generalize ((W.setCell ⟨b, plN k A % szN k * 2 + 1, none⟩ (.pointer (some ⟨W.heap.size, 0, none⟩))).setCell ⟨db, 1, none⟩ (.int .i64 (oo + 1))) = W2 at *
  subst hW3
  have x4 : Ext W2 (W2.alloc (.cells Tryz.zeroCells197 197)) := (Ext.refl _).alloc _
  have hz := heap_new W2 (.cells Tryz.zeroCells197 197)
  rw [s1, zero_cells] at hz
  rw [zero_cells] at x4 ⊢
  have t4 := t3.later (x4.toS []) (by simp)
  refine ⟨?_, ?_, x4.heap hd2, x2.trans (x4.toS _)⟩
  · have := t4.to_cell (Nat.mod_lt (plN k A) (szN_pos k))
    simpa using this
  · exact h.add hk hb hto (Nat.le_refl _) (x2.trans (x4.toS _)) (fun k' n' b' e hne => by
      have := h.ne_dir hd e
      simp [hne, this]) t4 (zB_tab hz)

/-- Where own stands. -/
def OwnR (db A : Nat) (mo mp dn st sm : Value) (o : Nat) (T f : Nat → Nat → Option Nat) (base k : Nat) (tab : Value) (w : World) : Prop := ∃ T', Tabs w T' f ∧ tab = tbV k (onT T' A k) ∧ onT T' A k ≠ none ∧
  w.heap[db]? = some (dirO mo (.int .i64 (o + msN T A k : Nat)) mp dn st sm (tbV 0 (T' 0 0))) ∧ Grown T T' A k base

set_option maxHeartbeats 2000000 in
theorem own_any (db A N o : Nat) (mo mp dn st sm : Value) (T f : Nat → Nat → Option Nat) (F : List Nat) (w : World) (hT : Tabs w T f) (h0 : T 0 0 ≠ none) (hd : w.heap[db]? = some (dirO mo (.int .i64 o) mp dn st sm (tbV 0 (T 0 0))))
    (hF1 : db ∈ F) (hF2 : ∀ k n b, T k n = some b → b ∈ F) (hF3 : ∀ x ∈ F, x < w.heap.size) (ho : o ≤ 1000000) (hA : A < 4294967296) (hN : N ≤ 32) :
    Calls Tryz.prog 125 #[.pointer (some ⟨db, 0, none⟩), .agg #[.int .u32 A, .int .i64 N]] w fun e w' => e = .returned (.tuple #[]) ∧ ∃ T', Tabs w' T' f ∧
      w'.heap[db]? = some (dirO mo (.int .i64 (o + msN T A (lvN N) : Nat)) mp dn st sm (tbV 0 (T' 0 0))) ∧ ExtS F w w' ∧ Grown T T' A (lvN N) w.heap.size := by
  have hA0 : Ext w (w.alloc (.cells #[.int .u32 A, .int .i64 N] 42)) := (Ext.refl w).alloc _
  have hn := heap_new w (.cells #[.int .u32 A, .int .i64 N] 42)
  have hq : ∀ w', ExtS F (w.alloc (.cells #[.int .u32 A, .int .i64 N] 42)) w' → w'.cell? ⟨w.heap.size, 0, none⟩ = some (.int .u32 A) ∧ w'.cell? ⟨w.heap.size, 1, none⟩ = some (.int .i64 N) := fun w' hx => by
    have hnF : w.heap.size ∉ F := fun h => Nat.lt_irrefl _ (hF3 _ h)
    exact ⟨by rw [heap_cell (hx.heap hnF hn)]; rfl, by rw [heap_cell (hx.heap hnF hn)]; rfl⟩
  have HQ : Hid _ := hq
  have hsz : w.heap.size ≤ (w.alloc (.cells #[.int .u32 A, .int .i64 N] 42)).heap.size := hA0.size
  have hdW := hA0.heap hd
  have d6 : (w.alloc (.cells #[.int .u32 A, .int .i64 N] 42)).cell? ⟨db, 6, none⟩ = some (tbV 0 (T 0 0)) := by rw [heap_cell hdW]; rfl
  have z0 := pl_zero A hA
  have hon : onT T A 0 = T 0 0 := by unfold onT; rw [z0]
  have hR : OwnR db A mo mp dn st sm o T f (w.alloc (.cells #[.int .u32 A, .int .i64 N] 42)).heap.size 0 (tbV 0 (T 0 0)) (w.alloc (.cells #[.int .u32 A, .int .i64 N] 42)) :=
    ⟨T, hT.ext hA0, by rw [hon], by rw [hon]; exact h0, hdW, ⟨fun _ _ _ h => h, (fun k n b h h' => by rw [h] at h'; cases h'), (fun j hj => by omega)⟩⟩
  have HR : Hid _ := hR
  obtain ⟨v0, hv0⟩ : ∃ v0, v0 = tbV 0 (T 0 0) := ⟨_, rfl⟩
  rw [← hv0] at d6 HR
  clear hq hn hd hv0 hR hdW
  have HF2 : Hid _ := hF2
  have HTT : Hid (Tabs w T f) := hT
  clear hF2 hT
  generalize hW0 : (w.alloc (.cells #[.int .u32 A, .int .i64 N] 42)) = W0 at *
  go_enter Tryz.func125, Tryz.ntmps125
  go_wp2_with fail
  clear d6
  go_loopw [4, 5] (fun tab be wr => ∃ k : Nat, k ≤ lvN N ∧ be = .int .i64 (beN k) ∧ ExtS F W0 wr ∧ Hid (OwnR db A mo mp dn st sm o T f W0.heap.size k tab wr)) (fun _ be _ => (intOf be).toNat)
  case atStart => exact ⟨0, Nat.zero_le _, rfl, ExtS.refl _ _, HR⟩
  case round =>
    obtain ⟨k, hk, rfl, hx, HR'⟩ := hrel
    have hk2 : k ≤ 2 := Nat.le_trans hk (lvN_le N)
    obtain ⟨q0, q1⟩ := HQ.out _ hx
    have ce := fun w => ends_any (A : Int) (N : Int) (beN k) w (be_int k hk2).1 (be_int k hk2).2
    by_cases hlt : k < lvN N
    · have hk1 : k ≤ 1 := by have := lvN_le N; omega
      have hgt : decide ((N : Int) > 32 - (beN k : Int)) = true := by
        have := (lvN_lt N k hk1).1 hlt
        have := lo_be k hk2
        rw [decide_eq_true_eq]; omega
      have hb8 := be_next k hk1
      have hb0 := be_int (k + 1) (by omega)
      rw [hgt] at ce
      obtain ⟨T', hT', hv, hne, hdb', hG⟩ := HR'.out
      obtain ⟨b, ho'⟩ : ∃ b, onT T' A k = some b := by
        cases hh : onT T' A k with
        | none => exact absurd hh hne
        | some b => exact ⟨b, rfl⟩
      have hmsg := ms_grown hG
      have hms : msN T A (k + 1) = msN T A k + if (T' (k + 1) (plN k A)).isNone = true then 1 else 0 := by rw [← hmsg]; rfl
      rw [ho'] at hv
      simp only [tbV] at hv
      subst hv
      have HT' : Hid (Tabs wr T' f) := hT'
      have HD' : Hid (wr.heap[db]? = some (dirO mo (.int .i64 (o + msN T A k : Nat)) mp dn st sm (tbV 0 (T' 0 0)))) := hdb'
      have HG : Hid (Grown T T' A k W0.heap.size) := hG
      clear hT' hdb' hG hne HR'
      have cs := fun w => spot_any k A b (szN k) hk2 hA w
      cases hto : T' (k + 1) (plN k A) with
      | some b' =>
        have hno : msN T A (k + 1) = msN T A k := by rw [hms, hto]; rfl
        have hto' : ∀ w', Ext wr w' → w'.cell? ⟨b, plN k A % szN k * 2 + 1, none⟩ = some (.pointer (some ⟨b', 0, none⟩)) := fun w' h' => by
          have := (HT'.out.ext h').to_cell ho'
          rw [hto] at this; exact this
        have cb : ∀ w', Ext wr w' → Calls Tryz.prog 104 #[.pointer (some ⟨b, plN k A % szN k * 2, none⟩)] w' fun e w2 => e = .returned (tabV (some b')) ∧ w2 = w' := fun w' h' => below_any b _ (some b') w' (hto' w' h')
        have HCB : Hid _ := cb
        have HTO : Hid _ := hto'
        clear cb hto'
        generalize plN k A % szN k * 2 = off at *
        generalize szN k = sz at *
        generalize (beN k : Int) = be at *
        go_wp2_with (first | (go_at_call 142; refine (ce _).mono ?_; rintro e w1 ⟨rfl, hx1⟩; obtain ⟨q0', q1'⟩ := HQ.out _ (hx.trans (hx1.toS F)); have c0 := HTO.out _ hx1) | (go_at_call 103; refine (cs _).mono ?_; rintro e w2 ⟨rfl, rfl⟩) | (go_at_call 104; refine (HCB.out _ hx1).mono ?_; rintro e w2 ⟨rfl, rfl⟩))
        refine ⟨⟨k + 1, by omega, rfl, hx.trans (hx1.toS F), ?_⟩, by simp only [intOf]; omega⟩
        have e1 := on_next T' A k hk1
        exact ⟨T', HT'.out.ext hx1, by rw [e1, hto]; rfl, by rw [e1, hto]; simp, by rw [hno]; exact hx1.heap HD'.out, HG.out.step (by rw [hto]; simp)⟩
      | none =>
        have hno : msN T A (k + 1) = msN T A k + 1 := by rw [hms, hto]; rfl
        have hto' : ∀ w', Ext wr w' → w'.cell? ⟨b, plN k A % szN k * 2 + 1, none⟩ = some (.pointer none) ∧ w'.frozen? ⟨b, plN k A % szN k * 2 + 1, none⟩ = false ∧ b < w'.heap.size := fun w' h' => by
          have := (HT'.out.ext h').to_cell ho'
          rw [hto] at this
          exact ⟨this, ((HT'.out.ext h').tab _ _ _ ho').frozen _, ((HT'.out.ext h').tab _ _ _ ho').lt⟩
        have hdc : ∀ w', Ext wr w' → w'.cell? ⟨db, 1, none⟩ = some (.int .i64 (o + msN T A k : Nat)) ∧ w'.frozen? ⟨db, 1, none⟩ = false ∧ db < w'.heap.size := fun w' h' => by
          have := h'.heap HD'.out
          exact ⟨by rw [heap_cell this]; rfl, heap_frozen this, heap_lt this⟩
        have HTO : Hid _ := hto'
        have HDC : Hid _ := hdc
        clear hto' hdc
        have hbdb : ¬ b = db := HT'.out.ne_dir HD'.out ho'
        have hbdb' : ¬ db = b := fun h => hbdb h.symm
        obtain ⟨oo, hoo⟩ : ∃ oo, oo = o + msN T A k := ⟨_, rfl⟩
        have hoo2 : oo ≤ 2000000 := by
          have : ∀ j, msN T A j ≤ j := by
            intro j; induction j with
            | zero => exact Nat.le_refl _
            | succ j ih => simp only [msN]; split <;> omega
          have := this k; omega
        rw [← hoo] at HDC
        have HOO : Hid _ := hoo
        clear hoo
        generalize hoff : plN k A % szN k * 2 = off at *
        generalize hsz' : szN k = sz at *
        generalize (beN k : Int) = be at *
        go_wp2_with (first | (go_at_call 142; refine (ce _).mono ?_; rintro e w1 ⟨rfl, hx1⟩; obtain ⟨q0', q1'⟩ := HQ.out _ (hx.trans (hx1.toS F)); obtain ⟨c0, c1, c2⟩ := HTO.out _ hx1; obtain ⟨c3, c4, c5⟩ := HDC.out _ hx1) | (go_at_call 103; refine (cs _).mono ?_; rintro e w2 ⟨rfl, rfl⟩))
        have hst := own_step (HT'.out.ext hx1) hk1 ho' hto (hx1.heap (by rw [HOO.out]; exact HD'.out) : w2.heap[db]? = some (dirO mo (.int .i64 oo) mp dn st sm (tbV 0 (T' 0 0)))) _ rfl
        rw [hsz', hoff] at hst
        generalize hW3 : (((w2.setCell ⟨b, off + 1, none⟩ (.pointer (some ⟨w2.heap.size, 0, none⟩))).setCell ⟨db, 1, none⟩ (.int .i64 ((oo : Int) + 1))).alloc (.cells Tryz.zeroCells197 197)) = W3 at *
        obtain ⟨e1, e2, e3, e4⟩ := hst
        refine (below_any b off (some w2.heap.size) W3 e1).mono ?_
        rintro e w4 ⟨rfl, rfl⟩
        have HE2 : Hid _ := e2
        have HE3 : Hid _ := e3
        have HE4 : Hid _ := e4
        clear e1 e2 e3 e4
        go_wp2_with fail
        have hbF : b ∈ F ∨ W0.heap.size ≤ b := by
          cases hh : T k (plN k A / szN k) with
          | some b2 =>
            have := HG.out.old _ _ b2 hh
            unfold onT at ho'
            rw [ho'] at this
            cases this
            exact .inl (HF2.out _ _ _ hh)
          | none => exact .inr (HG.out.new _ _ b hh ho').1
        have hX : ExtS F W0 w4 := (hx.trans (hx1.toS F)).then HE4.out (fun x hx' => by
          rcases List.mem_cons.1 hx' with rfl | hx'
          · exact hbF
          · rw [List.mem_singleton.1 hx']; exact .inl hF1)
        refine ⟨⟨k + 1, by omega, rfl, hX, ?_⟩, by simp only [intOf]; omega⟩
        have e1 := on_next (putT T' (k + 1) (plN k A) (some w2.heap.size)) A k hk1
        rw [putT_same] at e1
        refine ⟨_, HE2.out, by rw [e1]; rfl, by rw [e1]; simp, ?_, HG.out.put hto (Nat.le_trans hx.size hx1.size)⟩
        rw [putT_other _ _ (by omega), HE3.out, hno, HOO.out]
        congr 3
    · obtain rfl : k = lvN N := by omega
      have hbN := lv_be N hN
      have hgt : decide ((N : Int) > 32 - (beN (lvN N) : Int)) = false := by
        rw [decide_eq_false_iff_not]; omega
      rw [hgt] at ce
      generalize (beN (lvN N) : Int) = be at *
      go_wp2_with (go_at_call 142; refine (ce _).mono ?_; rintro e w1 ⟨rfl, hx1⟩)
      go_end0
      obtain ⟨T', k1, -, -, k2, k3⟩ := HR'.out
      exact ⟨rfl, T', k1.ext hx1, hx1.heap k2, ((hA0.toS F).trans hx).trans (hx1.toS F), ⟨k3.old, fun k n b a1 a2 => ⟨by have := (k3.new k n b a1 a2).1; omega, (k3.new k n b a1 a2).2⟩, k3.way⟩⟩
end Go.Proofs.YtkfhkhgiojpfoaaGreat.Dr

namespace Go.Proofs.YtkfhkhgiojpfoaaGreat.Dr

open Go.RowKit Go.Proofs.YtkfhkhgiojpfoaaGreat Go.Proofs.YtkfhkhgiojpfoaaGreat.Tri

set_option linter.unusedVariables false

/-- The first address of a place. -/
def adN (k m : Nat) : Nat := m * 2 ^ beN k

/-- What places are painted with: the longest of their level. -/
def Painted (E : List (PX × Nat)) (f : Nat → Nat → Option Nat) : Prop := ∀ k m, k ≤ 2 → m < 2 ^ (32 - beN k) → Bst E (loN k) (loN (k + 1)) (adN k m) (f k m)

/-- Which tables are there: those that are owned, and those on an address's way, down to a level. -/
def DisR (T : Nat → Nat → Option Nat) (K : List PX) (A lv k : Nat) : Prop := ∀ j n, 1 ≤ j → j ≤ 2 → ((T j n).isSome = true ↔ domB K j n = true ∨ (j ≤ k ∧ j ≤ lv ∧ n = plN (j - 1) A))

theorem div_be {x a b : Nat} (h : a ≤ b) : x / 2 ^ b = x / 2 ^ a / 2 ^ (b - a) := by
  rw [Nat.div_div_eq_div_mul, ← Nat.pow_add]; congr 2; omega

/-- Whether a prefix has an address hangs on the address's place in the prefix's table. -/
theorem cov_place {p : PX} (hp : Vp p) {k A : Nat} (hk : k ≤ 2) (hl : p.2 < (loN (k + 1) : Int)) : cov p ((A : Int), 32) = cov p ((adN k (plN k A) : Nat), 32) := by
  rw [Bool.eq_iff_iff, cov_add hp, cov_add hp]
  obtain ⟨B, N, rfl, hN, hB, -⟩ := hp
  have hlo := lo_be k hk
  simp only [Int.toNat_natCast] at *
  have hbe : beN k ≤ 32 - N := by omega
  have e : adN k (plN k A) / 2 ^ (32 - N) = A / 2 ^ (32 - N) := by
    rw [div_be hbe, div_be (x := A) hbe]
    unfold adN plN
    rw [Nat.mul_div_cancel _ (Nat.pow_pos (by omega))]
  rw [e]

/-- A longer one that has an address lies behind the address's place. -/
theorem cov_behind {p : PX} (hp : Vp p) {k A : Nat} (hk : k ≤ 2) (hl : (loN (k + 1) : Int) ≤ p.2) (h : cov p ((A : Int), 32) = true) : p.1.toNat / 2 ^ beN k = plN k A := by
  rw [cov_add hp] at h
  obtain ⟨B, N, rfl, hN, hB, -⟩ := hp
  have hlo := lo_be k hk
  simp only [Int.toNat_natCast] at *
  have hbe : 32 - N ≤ beN k := by omega
  unfold plN
  rw [div_be hbe, h, ← div_be hbe]

theorem pl_lt (k A : Nat) (hA : A < 4294967296) (hk : k ≤ 2) : plN k A < 2 ^ (32 - beN k) := by
  unfold plN
  rw [Nat.div_lt_iff_lt_mul (Nat.pow_pos (by omega)), ← Nat.pow_add]
  have : 32 - beN k + beN k = 32 := by unfold beN; omega
  rw [this]; exact hA

theorem pl_up (k m i : Nat) (hk : k ≤ 1) (hi : i < 256) : plN k (adN (k + 1) (m * 256 + i)) = m := by
  unfold plN adN
  have e : beN k = beN (k + 1) + 8 := by unfold beN; omega
  rw [e, Nat.pow_add, ← Nat.div_div_eq_div_mul, Nat.mul_div_cancel _ (Nat.pow_pos (by omega))]
  exact mul_add_div hi

theorem pl_down (k B : Nat) (hk : k ≤ 1) : plN (k + 1) B / 256 = plN k B := pl_next k B hk

theorem empty_iff {T f : Nat → Nat → Option Nat} {E : List (PX × Nat)} {A lv k : Nat} (hf : Painted E f) (hE : ∀ x ∈ E, Vp x.1) (hT : DisR T (E.map (·.1)) A lv (k + 1)) (ht : ∀ j n, 2 < j → T j n = none) (hk : k ≤ 1) (m : Nat) (hm : m < 2 ^ (32 - beN k)) :
    (∀ i, i < 256 → f (k + 1) (m * 256 + i) = none ∧ T (k + 1 + 1) (m * 256 + i) = none) ↔ domB (E.map (·.1)) (k + 1) m = false := by
  have hbe : 32 - beN (k + 1) = 32 - beN k + 8 := by unfold beN; omega
  have hmi : ∀ i, i < 256 → m * 256 + i < 2 ^ (32 - beN (k + 1)) := fun i hi => by
    rw [hbe, Nat.pow_add]
    have : (m + 1) * 2 ^ 8 ≤ 2 ^ (32 - beN k) * 2 ^ 8 := Nat.mul_le_mul_right _ hm
    omega
  constructor
  · intro h
    cases hd : domB (E.map (·.1)) (k + 1) m with
    | false => rfl
    | true =>
      exfalso
      obtain ⟨p, hp, h1, h2⟩ := dom_iff.1 hd
      obtain ⟨⟨p', b⟩, hx, rfl⟩ := List.mem_map.1 hp
      simp only at h1 h2
      have hv := hE _ hx
      simp only at hv
      rw [Nat.add_sub_cancel] at h2
      have hpl : plN (k + 1) p'.1.toNat / 256 = m := by rw [pl_down k _ hk]; exact h2
      have hsp : m * 256 + plN (k + 1) p'.1.toNat % 256 = plN (k + 1) p'.1.toNat := by rw [← hpl, Nat.mul_comm]; exact Nat.div_add_mod _ 256
      obtain ⟨k1, k2⟩ := h (plN (k + 1) p'.1.toNat % 256) (Nat.mod_lt _ (by omega))
      rw [hsp] at k1 k2
      rcases Int.lt_or_le p'.2 (loN (k + 1 + 1) : Int) with hl | hl
      · have hA' : p'.1.toNat < 4294967296 := by have := hv.bd; omega
        have hb := hf (k + 1) (plN (k + 1) p'.1.toNat) (by omega) (pl_lt _ _ hA' (by omega))
        rw [k1] at hb
        have := hb _ hx h1 hl
        rw [← cov_place hv (by omega) hl] at this
        have hself : cov p' ((p'.1.toNat : Int), 32) = true := by rw [cov_add hv]
        rw [hself] at this; cases this
      · have hk0 : k + 1 + 1 ≤ 2 := by
          by_cases e : k = 1
          · subst e
            have := hv.bd
            simp only [loN] at hl; omega
          · omega
        have hdom : domB (E.map (·.1)) (k + 1 + 1) (plN (k + 1) p'.1.toNat) = true := dom_iff.2 ⟨p', hp, hl, rfl⟩
        have := (hT (k + 1 + 1) (plN (k + 1) p'.1.toNat) (by omega) hk0).2 (.inl hdom)
        rw [k2] at this; cases this
  · intro hd i hi
    constructor
    · cases hh : f (k + 1) (m * 256 + i) with
      | none => rfl
      | some b =>
        exfalso
        have hb := hf (k + 1) (m * 256 + i) (by omega) (hmi i hi)
        rw [hh] at hb
        obtain ⟨p, h1, h2, h3, h4, -⟩ := hb
        have := cov_behind (hE _ h1) (k := k) (by omega) h2 h4
        rw [pl_up k m i hk hi] at this
        have : domB (E.map (·.1)) (k + 1) m = true := dom_iff.2 ⟨p, List.mem_map.2 ⟨_, h1, rfl⟩, h2, this⟩
        rw [hd] at this; cases this
    · cases hh : T (k + 1 + 1) (m * 256 + i) with
      | none => rfl
      | some b =>
        exfalso
        have hk0 : k + 1 + 1 ≤ 2 := by
          rcases Nat.lt_or_ge 2 (k + 1 + 1) with h | h
          · rw [ht _ _ h] at hh; cases hh
          · exact h
        rcases (hT (k + 1 + 1) (m * 256 + i) (by omega) hk0).1 (by rw [hh]; rfl) with h | h
        · obtain ⟨p, h1, h2, h3⟩ := dom_iff.1 h
          have e : p.1.toNat / 2 ^ beN k = m := by
            have h3' : plN (k + 1) p.1.toNat = m * 256 + i := h3
            have := pl_down k p.1.toNat hk
            rw [h3', mul_add_div hi] at this
            exact this.symm
          have hlo : (loN (k + 1) : Int) ≤ p.2 := by
            have : loN (k + 1) ≤ loN (k + 1 + 1) := by
              have : k = 0 := by omega
              subst this; decide
            omega
          have : domB (E.map (·.1)) (k + 1) m = true := dom_iff.2 ⟨p, h1, hlo, e⟩
          rw [hd] at this; cases this
        · omega
end Go.Proofs.YtkfhkhgiojpfoaaGreat.Dr

namespace Go.Proofs.YtkfhkhgiojpfoaaGreat.Dr

set_option maxRecDepth 100000

open Go.RowKit Go.Proofs.YtkfhkhgiojpfoaaGreat Go.Proofs.YtkfhkhgiojpfoaaGreat.Tri

set_option linter.unusedVariables false

theorem part_place (cs : Array Value) (off : Nat) (w : World) : (part 156 cs off).run Tryz.prog w = .ok (.agg (cs.extract off (off + 2))) w := by kernel_rfl

theorem extract_two {cs : Array Value} {off : Nat} {a b : Value} (h1 : cs[off]? = some a) (h2 : cs[off + 1]? = some b) : cs.extract off (off + 2) = #[a, b] := by
  have l2 := (Array.getElem?_eq_some_iff.1 h2).1
  apply Array.ext'
  simp only [Array.toList_extract, List.extract_eq_take_drop]
  have e1 : cs.toList[off]? = some a := by simpa using h1
  have e2 : cs.toList[off + 1]? = some b := by simpa using h2
  obtain ⟨l1, g1⟩ := List.getElem?_eq_some_iff.1 e1
  obtain ⟨l2', g2⟩ := List.getElem?_eq_some_iff.1 e2
  rw [List.drop_eq_getElem_cons l1, List.drop_eq_getElem_cons l2', g1, g2]
  simp

theorem eq_place (o1 o2 : Option Nat) (w : World) : (Op.equalIn 9999 156 (.agg #[ptV o1, ptV o2]) (.agg #[.pointer none, .pointer none])).run Tryz.prog w = .ok (o1.isNone && o2.isNone) w := by
  cases o1 <;> cases o2 <;> kernel_rfl

theorem items_any (cs : Array Value) (f g : Nat → Option Nat) (h : ∀ i, i < 256 → cs[i * 2]? = some (ptV (f i)) ∧ cs[i * 2 + 1]? = some (ptV (g i))) (w : World) :
    ∀ is : List Nat, (∀ i ∈ is, i < 256) → (Op.eqItems 9999 156 2 cs zB is).run Tryz.prog w = .ok (is.all fun i => (f i).isNone && (g i).isNone) w
  | [], _ => rfl
  | i :: is, hi => by
    have ih := items_any cs f g h w is (fun j hj => hi j (List.mem_cons_of_mem _ hj))
    have hi0 := hi i List.mem_cons_self
    have ez : zB.extract (i * 2) (i * 2 + 2) = #[.pointer none, .pointer none] := extract_two (by simp only [zB, Array.getElem?_replicate]; rw [if_pos (by omega)]) (by simp only [zB, Array.getElem?_replicate]; rw [if_pos (by omega)])
    simp only [Op.eqItems, Sem.run_bind, part_place, Result.andThen_ok, extract_two (h i hi0).1 (h i hi0).2, ez, eq_place, List.all_cons]
    cases hb : ((f i).isNone && (g i).isNone) with
    | false => rfl
    | true => simpa using ih

theorem under_block : Tryz.prog.underlying 197 = some (.array 256 156) := by kernel_rfl

theorem cells_place : Tryz.prog.cellsOf 156 = 2 := by kernel_rfl

theorem eql_block {cs : Array Value} {f g : Nat → Option Nat} (h : ∀ i, i < 256 → cs[i * 2]? = some (ptV (f i)) ∧ cs[i * 2 + 1]? = some (ptV (g i))) (w : World) :
    (Op.equalIn 10000 197 (.agg cs) (.agg Tryz.zeroCells197)).run Tryz.prog w = .ok ((List.range 256).all fun i => (f i).isNone && (g i).isNone) w := by
  obtain ⟨i0, hi0, -⟩ := Option.map_eq_some_iff.1 info_place
  rw [zero_cells, show (10000 : Nat) = 9999 + 1 from rfl, run_equalIn_array w 9999 cs zB under_block hi0, cells_place]
  exact items_any cs f g h w _ (fun i hi => List.mem_range.1 hi)

/-- A load of a whole block, at the head of a region's rest. -/
theorem wpl_block {P : Program} {w : World} {ops : Array Oper} {rest : List Oper} {o : Oper} {a : Act} {Q : Exit → Act → World → Prop} (hgd : Region.wanted o (yielded ops a.tmps) = true) (t : TypeId) (x : Operand) (hop : o.op = .load t x) (g : Nat) (cs : Array Value) (t' : TypeId) (d : TypeDesc)
    (hx : a.eval x = .pointer (some ⟨g, 0, none⟩)) (hg : w.heap[g]? = some (.cells cs t' (0, 0))) (hu : P.underlying t = some d) (hd : (match d with | .struct _ | .array _ _ => true | _ => false) = true) (hi : (P.info? t).map (·.size) = some cs.size)
    (h : wpList P ops Q rest (a.put o.dst (.agg cs)) w) : wpList P ops Q (o :: rest) a w := by
  refine wpList_want hgd fun K hK => ?_
  have hr := run_loadVar_row (P := P) w g t' t cs (0, 0) d hg hu hd hi
  unfold Oper.wp
  simp only [execOp, hop, hx, Instr.loadAt, Instr.sureAddr, Sem.run_bind, Sem.run_pure, Result.andThen, hr]
  exact hK _ _ h

theorem size_block : (Tryz.prog.info? 197).map (·.size) = some 512 := by kernel_rfl
end Go.Proofs.YtkfhkhgiojpfoaaGreat.Dr
