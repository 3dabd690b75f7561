/- What ip.Parse answers at any bytes (chapter 4). -/
import Derived.Test.YtkagkfbdpiblkaaIp3
namespace Go.Proofs.Ytkagkfbdpiblkaa
open Go.RowKit
set_option linter.unusedVariables false

/-- What Parse answers: the packet, in new memory, and the error. -/
def ParseAns (w : World) (xs : List Int) (e : Ending) (w' : World) : Prop := ∃ v, e = .returned (.tuple #[v, .int .i64 (lookV xs)]) ∧ IsIP w' v (packV xs) ∧ Ext w w'

theorem ext_set_ip {w w1 : World} {g : Nat} (hx : Ext w w1) (hg : w.heap.size ≤ g) (v0 v1 v2 v3 v4 v5 v6 v7 v8 v9 va : Value) :
    Ext w (((((((((((w1.setCell ⟨g, 0, none⟩ v0).setCell ⟨g, 1, none⟩ v1).setCell ⟨g, 2, none⟩ v2).setCell ⟨g, 3, none⟩ v3).setCell ⟨g, 4, none⟩ v4).setCell ⟨g, 5, none⟩ v5).setCell ⟨g, 6, none⟩ v6).setCell ⟨g, 7, none⟩ v7).setCell ⟨g, 8, none⟩ v8).setCell ⟨g, 9, none⟩ v9).setCell ⟨g, 10, none⟩ va) :=
  ExtX.ext hx (((((((((((((ExtX.refl g w1).setCell rfl v0).setCell rfl v1).setCell rfl v2).setCell rfl v3).setCell rfl v4).setCell rfl v5).setCell rfl v6).setCell rfl v7).setCell rfl v8).setCell rfl v9).setCell rfl va)) hg

theorem extX_set_ip (w1 : World) (g : Nat) (v0 v1 v2 v3 v4 v5 v6 v7 v8 v9 va : Value) :
    ExtX g w1 (((((((((((w1.setCell ⟨g, 0, none⟩ v0).setCell ⟨g, 1, none⟩ v1).setCell ⟨g, 2, none⟩ v2).setCell ⟨g, 3, none⟩ v3).setCell ⟨g, 4, none⟩ v4).setCell ⟨g, 5, none⟩ v5).setCell ⟨g, 6, none⟩ v6).setCell ⟨g, 7, none⟩ v7).setCell ⟨g, 8, none⟩ v8).setCell ⟨g, 9, none⟩ v9).setCell ⟨g, 10, none⟩ va) :=
  ((((((((((((ExtX.refl g w1).setCell rfl v0).setCell rfl v1).setCell rfl v2).setCell rfl v3).setCell rfl v4).setCell rfl v5).setCell rfl v6).setCell rfl v7).setCell rfl v8).setCell rfl v9).setCell rfl va)

set_option maxHeartbeats 1000000 in
theorem parse_bad (a : Option Addr) (len cap : Nat) (xs : List Int) (w : World) (h : Bytes w a len xs) (hcap : len ≤ cap) (hn : len ≤ 1000000) (hv : lookV xs ≠ 0) :
    Calls Try.prog 27 #[.slice a len cap] w (ParseAns w xs) := by
  have hx0 : Ext w (w.alloc (.cells #[.int .i64 0, .int .i64 0, .bool false, .bool false, .int .i64 0, .int .i64 0, .int .i64 0, .int .u32 0, .int .u32 0, .slice none 0 0, .slice none 0 0] 25)) := (Ext.refl w).alloc _
  have h0 := h.below hx0
  have HH : Hid ((w.alloc (.cells #[.int .i64 0, .int .i64 0, .bool false, .bool false, .int .i64 0, .int .i64 0, .int .i64 0, .int .u32 0, .int .u32 0, .slice none 0 0, .slice none 0 0] 25)).heap[w.heap.size]? = some (.cells #[.int .i64 0, .int .i64 0, .bool false, .bool false, .int .i64 0, .int .i64 0, .int .i64 0, .int .u32 0, .int .u32 0, .slice none 0 0, .slice none 0 0] 25 (0, 0))) := heap_new' w _
  have c1 := fun w h => lengths_any a len cap xs w h hcap hn
  unfold lenE at c1
  rw [if_neg hv, if_neg hv] at c1
  have hpk : packV xs = zeroIP := by unfold packV; rw [if_neg hv]
  have hne : (lookV xs == 0) = false := by simpa using hv
  have HP : Hid (∀ e w', ParseAns w xs e w' ↔ ∃ v, e = .returned (.tuple #[v, .int .i64 (lookV xs)]) ∧ IsIP w' v (packV xs) ∧ Ext w w') := fun e w' => Iff.rfl
  generalize ParseAns w xs = Ans at *
  rw [hpk] at HP
  generalize lookV xs = er at *
  clear hv hpk h
  go_enter Try.func27, Try.ntmps27
  go_wp2_with (first
    | (go_at_call 42; refine (c1 _ h0).mono ?_; rintro e w1 ⟨rfl, hx1⟩; have k1 := Ext.heap hx1 HH.out; have K1 : Hid _ := k1; obtain ⟨d0, d1, d2, d3, d4, d5, d6, d7, d8, d9, da⟩ := box_ip (x := w.heap.size + 1) k1 (by omega) w1 (ExtX.refl _ _); have f0 := frozen_ip k1; clear k1))
  have e0 := set_ip K1.out (.int .i64 0) (.int .i64 0) (.bool false) (.bool false) (.int .i64 0) (.int .i64 0) (.int .i64 0) (.int .u32 0) (.int .u32 0) (.slice none 0 0) (.slice none 0 0)
  have e1 := ext_set_ip (hx0.trans hx1) (Nat.le_refl _) (.int .i64 0) (.int .i64 0) (.bool false) (.bool false) (.int .i64 0) (.int .i64 0) (.int .i64 0) (.int .u32 0) (.int .u32 0) (.slice none 0 0) (.slice none 0 0)
  obtain ⟨q0, q1, q2, q3, q4, q5, q6, q7, q8, q9, qa⟩ := box_ip (x := w.heap.size + 1) e0 (by omega) _ (ExtX.refl _ _)
  exact bodyPost_ret (v := .tuple #[.agg #[.int .i64 0, .int .i64 0, .bool false, .bool false, .int .i64 0, .int .i64 0, .int .i64 0, .int .u32 0, .int .u32 0, .slice none 0 0, .slice none 0 0], .int .i64 er])
    (by simp [results, Try.results27, go_sem, q0, q1, q2, q3, q4, q5, q6, q7, q8, q9, qa]) rfl
    ((HP.out _ _).2 ⟨_, rfl, ⟨⟨none, 0, 0, none, 0, 0, rfl, ⟨rfl, by omega, by intro x hx; simp [zeroIP] at hx, .inl rfl⟩, fun _ => rfl, ⟨rfl, by omega, by intro x hx; simp [zeroIP] at hx, .inl rfl⟩, fun _ => rfl, by omega⟩⟩, e1⟩)

set_option maxHeartbeats 2000000 in
theorem parse_good (a : Option Addr) (len cap : Nat) (xs : List Int) (w : World) (h : Bytes w a len xs) (hcap : len ≤ cap) (hn : len ≤ 1000000) (hv : lookV xs = 0) :
    Calls Try.prog 27 #[.slice a len cap] w (ParseAns w xs) := by
  have hx0 : Ext w (w.alloc (.cells #[.int .i64 0, .int .i64 0, .bool false, .bool false, .int .i64 0, .int .i64 0, .int .i64 0, .int .u32 0, .int .u32 0, .slice none 0 0, .slice none 0 0] 25)) := (Ext.refl w).alloc _
  have h0 := h.below hx0
  have HH : Hid ((w.alloc (.cells #[.int .i64 0, .int .i64 0, .bool false, .bool false, .int .i64 0, .int .i64 0, .int .i64 0, .int .u32 0, .int .u32 0, .slice none 0 0, .slice none 0 0] 25)).heap[w.heap.size]? = some (.cells #[.int .i64 0, .int .i64 0, .bool false, .bool false, .int .i64 0, .int .i64 0, .int .i64 0, .int .u32 0, .int .u32 0, .slice none 0 0, .slice none 0 0] 25 (0, 0))) := heap_new' w _
  have c1 := fun w h => lengths_any a len cap xs w h hcap hn
  unfold lenE at c1
  rw [if_pos hv, if_pos hv, hv] at c1
  have L := (looks_iff xs).1 hv
  have hl := h.length
  have l1 := L.len; have l2 := L.head; have l3 := L.room; have l4 := L.all; have l5 := L.whole
  have hpk : packV xs = parseV xs := by unfold packV; rw [if_pos hv]
  have HP : Hid (∀ e w', ParseAns w xs e w' ↔ ∃ v, e = .returned (.tuple #[v, .int .i64 (lookV xs)]) ∧ IsIP w' v (packV xs) ∧ Ext w w') := fun e w' => Iff.rfl
  generalize ParseAns w xs = Ans at *
  rw [hpk, hv] at HP
  obtain ⟨k, hk⟩ : ∃ k : Nat, headV xs = k := ⟨(headV xs).toNat, by have := (headV_bd h.ok).1; omega⟩
  obtain ⟨m, hm⟩ : ∃ m : Nat, get16V xs 2 = m := ⟨(get16V xs 2).toNat, by have := (get16V_bd h.ok 2).1; omega⟩
  have hpv : parseV xs = ⟨byteV xs 1, get16V xs 4, decide (get16V xs 6 / 16384 % 2 = 1), decide (get16V xs 6 / 8192 % 2 = 1), get16V xs 6 % 8192, byteV xs 8, byteV xs 9, accV xs 12 4, accV xs 16 4, (xs.take k).drop 20, (xs.take m).drop k⟩ := by
    unfold parseV; rw [hk, hm, Int.toNat_natCast, Int.toNat_natCast]
  rw [hpv] at HP
  rw [hk] at c1 l2 l3 l4
  rw [hm] at c1 l4 l5
  rw [hl] at l1 l3 l5
  obtain ⟨b, off, rfl, hc1⟩ := h.cell (k := 1) (by omega)
  obtain ⟨p1, hp1, hq1⟩ := h.part 20 k cap (by omega) (by omega) hcap
  obtain ⟨p2, hp2, hq2⟩ := h.part k m cap (by omega) (by omega) hcap
  have cg := fun (p : Int) (w : World) h (p0 : 0 ≤ p) (p1 : p ≤ 60) => get16_any (some ⟨b, off, none⟩) len cap xs p w h (by omega) (by omega)
  have cG := fun (p : Int) (w : World) h (p0 : 0 ≤ p) (p1 : p ≤ 60) => get32_any (some ⟨b, off, none⟩) len cap xs p w h (by omega) (by omega)
  have x1 : byteV xs 1 = xs[1]?.getD 0 := byteV_nat xs 1
  have x8 : byteV xs 8 = xs[8]?.getD 0 := byteV_nat xs 8
  have x9 : byteV xs 9 = xs[9]?.getD 0 := byteV_nat xs 9
  have hg := get16V_bd h.ok 6
  have i1 := i64_bit 14 (by omega) _ hg.1 hg.2
  have i2 := i64_bit 13 (by omega) _ hg.1 hg.2
  have i3 := i64_and13 _ hg.1 hg.2
  have hok := h.ok
  have j1 : (bits .and .i64 (get16V xs 6) 16384 != 0) = decide (get16V xs 6 / 16384 % 2 = 1) := by
    rw [Bool.eq_iff_iff]; simp only [bne_iff_ne, decide_eq_true_eq]
    constructor
    · intro h; have : ¬ (get16V xs 6 / 2 ^ 14 % 2 = 0) := fun h' => h (i1.2 h'); omega
    · intro h h'; have := i1.1 h'; omega
  have j2 : (bits .and .i64 (get16V xs 6) 8192 != 0) = decide (get16V xs 6 / 8192 % 2 = 1) := by
    rw [Bool.eq_iff_iff]; simp only [bne_iff_ne, decide_eq_true_eq]
    constructor
    · intro h; have : ¬ (get16V xs 6 / 2 ^ 13 % 2 = 0) := fun h' => h (i2.2 h'); omega
    · intro h h'; have := i2.1 h'; omega
  have g1 := fun w h => cg 6 w h (by omega) (by omega)
  have g2 := fun w h => cg 4 w h (by omega) (by omega)
  have g3 := fun w h => cG 12 w h (by omega) (by omega)
  have g4 := fun w h => cG 16 w h (by omega) (by omega)
  rw [← i3, ← j1, ← j2] at HP
  rw [x1, x8, x9] at HP
  clear i1 i2 i3 j1 j2 cg cG L hpk hpv hv hk hm x1 x8 x9 hc1
  have y1 := hok.get 1
  have y8 := hok.get 8
  have y9 := hok.get 9
  have v1 := wraps_i64 _ y1.1 (by omega)
  have v8 := wraps_i64 _ y8.1 (by omega)
  have v9 := wraps_i64 _ y9.1 (by omega)
  generalize get16V xs 6 = cu at *
  generalize get16V xs 4 = id at *
  generalize accV xs 12 4 = s1 at *
  generalize accV xs 16 4 = s2 at *
  have tok1 : Hid True := trivial
  go_enter Try.func27, Try.ntmps27
  go_wp2_with (first
    | (go_at_call 42; refine (c1 _ h0).mono ?_; rintro e w1 ⟨rfl, hx1⟩)
    | (go_at_call 43; clear tok1; refine (g1 _ (h0.below hx1)).mono ?_; rintro e w2 ⟨rfl, rfl⟩))
  have K2 := Ext.heap hx1 HH.out
  have hX : Ext w w2.drew := (hx0.trans hx1).drew
  have hsz : w.heap.size + 1 ≤ w2.heap.size := by have := hx1.size; simpa using this
  have hrd : ∀ j, j < len → ∀ w', ExtX w.heap.size w2.drew w' → w'.cell? ⟨b, off + j, none⟩ = some (.int .u8 (xs[j]?.getD 0)) := fun j hj w' hx => by
    obtain ⟨b', off', hab, hc⟩ := (h.below (ExtX.ext hX hx (Nat.le_refl _))).cell hj
    obtain ⟨rfl, rfl⟩ : b = b' ∧ off = off' := by simpa using hab
    exact hc
  have r1 := hrd 1 (by omega)
  have r8 := hrd 8 (by omega)
  have r9 := hrd 9 (by omega)
  have K3 : Hid (w2.drew.heap[w.heap.size]? = some (.cells #[.int .i64 0, .int .i64 0, .bool false, .bool false, .int .i64 0, .int .i64 0, .int .i64 0, .int .u32 0, .int .u32 0, .slice none 0 0, .slice none 0 0] 25 (0, 0))) := K2
  refine wp_region_makeX w.heap.size (w.heap.size + 1) hsz [(0, 0), (1, 0), (2, 0), (3, 0), (4, 0), (6, 0), (7, 0), (8, 0), (9, 0), (10, 0), (11, 0), (12, 0), (13, 0), (14, 0), (15, 0), (16, 0), (17, 0), (18, 0), (19, 0), (20, 0), (21, 0), (22, 0), (24, 0), (26, 0), (27, 0), (28, 0), (31, 0), (32, 0), (33, 0), (34, 0), (29, 3), (35, 3), (5, 1), (23, 1), (25, 1), (29, 2), (30, 1), (35, 2), (36, 1), (37, 0), (38, 4), (39, 0)] (by kernel_rfl) (by kernel_rfl) rfl (by kernel_rfl) (fun _ _ _ _ _ => Iff.rfl) ?_
  clear hrd K2 HH h0 hx0 hx1 c1 g1
  have b1 : (1 : Int) < (len : Int) := by omega
  have b8 : (8 : Int) < (len : Int) := by omega
  have b9 : (9 : Int) < (len : Int) := by omega
  have kc : (k : Int) ≤ (cap : Int) := by omega
  have mc : (m : Int) ≤ (cap : Int) := by omega
  have hsz' : w.heap.size + 1 ≤ w2.drew.heap.size := hsz
  clear hsz
  generalize w2.drew = W at *
  repeat (first
    | (refine wpW_read (v := ?_) rfl (by rfl) ?_ ?_; rotate_left; (focus (intro w' hx; go_simp; first | done | with_reducible rfl)); simp only [Act.put, List.setIfInBounds_toArray, List.set_cons_zero, List.set_cons_succ]))
  (refine wpW_say _ (fun g => .slice (some ⟨g, 0, none⟩) 1 1) rfl (by rfl) (fun w' => by go_simp; first | done | with_reducible rfl) ?_)
  (refine wpW_say _ (fun g => .slice (some ⟨g, 0, none⟩) 1 1) rfl (by rfl) (fun w' => by go_simp; first | done | with_reducible rfl) ?_)
  refine wpW_call rfl (by rfl) (fun W1 hx1 K hK => ?_); go_simp; (go_at_call 43; have hX1 := hX.trans hx1; refine (g2 _ (h.below hX1)).mono ?_; rintro e w' ⟨rfl, rfl⟩; refine hK _ _ (Ext.refl _) ?_; clear hK K)
  refine wpW_call rfl (by rfl) (fun W2 hx2 K hK => ?_); go_simp; (go_at_call 44; have hX2 := hX1.trans hx2; refine (g3 _ (h.below hX2)).mono ?_; rintro e w' ⟨rfl, rfl⟩; refine hK _ _ (Ext.refl _) ?_; clear hK K)
  refine wpW_call rfl (by rfl) (fun W3 hx3 K hK => ?_); go_simp; (go_at_call 44; have hX3 := hX2.trans hx3; refine (g4 _ (h.below hX3)).mono ?_; rintro e w' ⟨rfl, rfl⟩; refine hK _ _ (Ext.refl _) ?_; clear hK K)
  refine wpW_make _ (fun g => .slice (some ⟨g, 0, none⟩) 1 1) rfl (by rfl) (fun w' => by go_simp; first | done | with_reducible rfl) ?_; simp only [Act.put, List.setIfInBounds_toArray, List.set_cons_zero, List.set_cons_succ]; intro W4 ga hx4 hBa hga
  refine wpW_call rfl (by rfl) (fun W5 hx5 K hK => ?_); go_simp; (go_at_call 45; have hX5 := (hX3.trans hx4).trans hx5; refine (join1_own ga (some p1) (k - 20) (cap - 20) _ W5 (hx5.heap hga) (hq1 _ hX5) (by simp) (by omega)).mono ?_; rintro e w6 ⟨q1, d1, rfl, ho1, hx6⟩; refine hK _ _ hx6 ?_; clear hK K)
  refine wpW_make _ (fun g => .slice (some ⟨g, 0, none⟩) 1 1) rfl (by rfl) (fun w' => by go_simp; first | done | with_reducible rfl) ?_; simp only [Act.put, List.setIfInBounds_toArray, List.set_cons_zero, List.set_cons_succ]; intro W7 gb hx7 hBb hgb
  refine wpW_call rfl (by rfl) (fun W8 hx8 K hK => ?_); go_simp; (go_at_call 45; have hX8 := ((hX5.trans hx6).trans hx7).trans hx8; refine (join1_own gb (some p2) (m - k) (cap - k) _ W8 (hx8.heap hgb) (hq2 _ hX8) (by simp) (by omega)).mono ?_; rintro e w9 ⟨q2, d2, rfl, ho2, hx9⟩; refine hK _ _ hx9 ?_; clear hK K)
  (refine wpW_read (v := ?_) rfl (by rfl) ?_ ?_; rotate_left; (focus (intro w' hx; go_simp; first | done | with_reducible rfl)); simp only [Act.put, List.setIfInBounds_toArray, List.set_cons_zero, List.set_cons_succ])
  have hW9 : Ext W w9 := (((((((hx1.trans hx2).trans hx3).trans hx4).trans hx5).trans hx6).trans hx7).trans hx8).trans hx9
  have k9 := hW9.heap K3.out
  have s5 : w.heap.size < W5.heap.size := by have := (((hx1.trans hx2).trans hx3).trans (hx4.trans hx5)).size; omega
  have s8 : w.heap.size < W8.heap.size := by have := (hx6.trans (hx7.trans hx8)).size; omega
  have o1 := owns_later ho1 ((hx7.trans hx8).trans hx9)
  have K9 : Hid _ := k9
  obtain ⟨d0, d1', d2', d3, d4, d5, d6, d7, d8, d9, da⟩ := box_ip (x := w.heap.size + 1) k9 (by omega) w9 (ExtX.refl _ _)
  have f0 := frozen_ip k9
  clear k9 hga hgb hx1 hx2 hx3 hx4 hx5 hx6 hx7 hx8 hX1 hX2 hX3 hX5 g2 g3 g4 hq1 hq2 r1 r8 r9
  refine wpW_last rfl (by rfl) (fun K hK => ?_)
  go_simp
  refine hK _ _ (extX_set_ip w9 w.heap.size (.int .i64 (xs[1]?.getD 0)) (.int .i64 id) (.bool (bits .and .i64 cu 16384 != 0)) (.bool (bits .and .i64 cu 8192 != 0)) (.int .i64 (bits .and .i64 cu 8191)) (.int .i64 (xs[8]?.getD 0)) (.int .i64 (xs[9]?.getD 0)) (.int .u32 s1) (.int .u32 s2) (.slice q1 (k - 20) d1) (.slice q2 (m - k) d2)) ?_
  clear hK K
  have e0 := set_ip K9.out (.int .i64 (xs[1]?.getD 0)) (.int .i64 id) (.bool (bits .and .i64 cu 16384 != 0)) (.bool (bits .and .i64 cu 8192 != 0)) (.int .i64 (bits .and .i64 cu 8191)) (.int .i64 (xs[8]?.getD 0)) (.int .i64 (xs[9]?.getD 0)) (.int .u32 s1) (.int .u32 s2) (.slice q1 (k - 20) d1) (.slice q2 (m - k) d2)
  have e1 := ext_set_ip (hX8.trans hx9) (Nat.le_refl _) (.int .i64 (xs[1]?.getD 0)) (.int .i64 id) (.bool (bits .and .i64 cu 16384 != 0)) (.bool (bits .and .i64 cu 8192 != 0)) (.int .i64 (bits .and .i64 cu 8191)) (.int .i64 (xs[8]?.getD 0)) (.int .i64 (xs[9]?.getD 0)) (.int .u32 s1) (.int .u32 s2) (.slice q1 (k - 20) d1) (.slice q2 (m - k) d2)
  have e2 := extX_set_ip w9 w.heap.size (.int .i64 (xs[1]?.getD 0)) (.int .i64 id) (.bool (bits .and .i64 cu 16384 != 0)) (.bool (bits .and .i64 cu 8192 != 0)) (.int .i64 (bits .and .i64 cu 8191)) (.int .i64 (xs[8]?.getD 0)) (.int .i64 (xs[9]?.getD 0)) (.int .u32 s1) (.int .u32 s2) (.slice q1 (k - 20) d1) (.slice q2 (m - k) d2)
  have o1' := owns_laterX o1 e2 s5
  have o2' := owns_laterX ho2 e2 s8
  obtain ⟨q0, q1', q2', q3, q4, q5, q6, q7, q8, q9, qa⟩ := box_ip (x := w.heap.size + 1) e0 (by omega) _ (ExtX.refl _ _)
  obtain ⟨hba, hza, _⟩ := owns_slice o1' (fun x hx => hok x (List.mem_of_mem_take (List.mem_of_mem_drop hx)))
  obtain ⟨hbb, hzb, hcb⟩ := owns_slice o2' (fun x hx => hok x (List.mem_of_mem_take (List.mem_of_mem_drop hx)))
  (refine wpW_read (v := ?_) rfl (by rfl) ?_ ?_; rotate_left; (focus (intro w' hx; go_simp; first | done | with_reducible rfl)); simp only [Act.put, List.setIfInBounds_toArray, List.set_cons_zero, List.set_cons_succ])
  refine wpW_done ?_
  go_wp2
  exact bodyPost_ret (v := .tuple #[.agg #[.int .i64 (xs[1]?.getD 0), .int .i64 id, .bool (bits .and .i64 cu 16384 != 0), .bool (bits .and .i64 cu 8192 != 0), .int .i64 (bits .and .i64 cu 8191), .int .i64 (xs[8]?.getD 0), .int .i64 (xs[9]?.getD 0), .int .u32 s1, .int .u32 s2, .slice q1 (k - 20) d1, .slice q2 (m - k) d2], .int .i64 0])
    (by simp [results, Try.results27, go_sem, q0, q1', q2', q3, q4, q5, q6, q7, q8, q9, qa]) rfl
    ((HP.out _ _).2 ⟨_, rfl, ⟨⟨q1, k - 20, d1, q2, m - k, d2, rfl, hba, hza, hbb, hzb, hcb⟩⟩, e1⟩)

theorem parse_any (a : Option Addr) (len cap : Nat) (xs : List Int) (w : World) (h : Bytes w a len xs) (hcap : len ≤ cap) (hn : len ≤ 1000000) :
    Calls Try.prog 27 #[.slice a len cap] w (ParseAns w xs) := by
  by_cases hv : lookV xs = 0
  · exact parse_good a len cap xs w h hcap hn hv
  · exact parse_bad a len cap xs w h hcap hn hv
end Go.Proofs.Ytkagkfbdpiblkaa
