/- What the document's own Parse answers at any bytes (chapter 5). -/
import Derived.Test.YtkagkfbdpiblkaaTcp1
import Derived.Test.YtkagkfbdpiblkaaRef1
namespace Go.Proofs.Ytkagkfbdpiblkaa.Tcp
open Go.RowKit
set_option linter.unusedVariables false

set_option maxHeartbeats 1000000 in
theorem refParse_short (a : Option Addr) (len cap : Nat) (xs : List Int) (w : World) (h : Bytes w a len xs) (hcap : len ≤ cap) (hn : len ≤ 1000000) (hh : len < 20) (hv : lookV xs = 3) :
    Calls Try.prog 55 #[.slice a len cap] w (ParseAns w xs) := by
  have hx0 : Ext w (w.alloc (.cells #[.int .i64 0, .int .i64 0, .int .u32 0, .int .u32 0, .int .i64 0, .int .i64 0, .int .i64 0, .slice none 0 0, .slice none 0 0] 52)) := (Ext.refl w).alloc _
  have h0 := h.below hx0
  have H0 : Hid ((w.alloc (.cells #[.int .i64 0, .int .i64 0, .int .u32 0, .int .u32 0, .int .i64 0, .int .i64 0, .int .i64 0, .slice none 0 0, .slice none 0 0] 52)).heap[w.heap.size]? = some (.cells #[.int .i64 0, .int .i64 0, .int .u32 0, .int .u32 0, .int .i64 0, .int .i64 0, .int .i64 0, .slice none 0 0, .slice none 0 0] 52 (0, 0))) := heap_new' w _
  have HP : Hid (∀ w', Ext w w' → ParseAns w xs (.returned (.tuple #[.agg #[.int .i64 0, .int .i64 0, .int .u32 0, .int .u32 0, .int .i64 0, .int .i64 0, .int .i64 0, .slice none 0 0, .slice none 0 0], .int .i64 3])) w') := fun w' hx => parse_end xs 3 w' hx hv (by omega)
  generalize ParseAns w xs = Ans at *
  clear hv
  clear h h0
  go_enter Try.func55, Try.ntmps55
  iterate 6 (first | go_values | go_skip | go_guarded | go_step | go_upon | go_in | go_simp)
  generalize (w.alloc (.cells #[.int .i64 0, .int .i64 0, .int .u32 0, .int .u32 0, .int .i64 0, .int .i64 0, .int .i64 0, .slice none 0 0, .slice none 0 0] 52)) = W at *
  obtain ⟨d0, d1, d2, d3, d4, d5, d6, d7, d8⟩ := box_seg (x := w.heap.size + 1) H0.out (by omega) W (ExtX.refl _ _)
  have f0 := frozen_ip H0.out
  go_wp2
  have e0 := set_seg H0.out (.int .i64 0) (.int .i64 0) (.int .u32 0) (.int .u32 0) (.int .i64 0) (.int .i64 0) (.int .i64 0) (.slice none 0 0) (.slice none 0 0)
  have e1 := ext_set_seg hx0 (Nat.le_refl _) (.int .i64 0) (.int .i64 0) (.int .u32 0) (.int .u32 0) (.int .i64 0) (.int .i64 0) (.int .i64 0) (.slice none 0 0) (.slice none 0 0)
  obtain ⟨q0, q1, q2, q3, q4, q5, q6, q7, q8⟩ := box_seg (x := w.heap.size + 1) e0 (by omega) _ (ExtX.refl _ _)
  exact bodyPost_ret (v := .tuple #[.agg #[.int .i64 0, .int .i64 0, .int .u32 0, .int .u32 0, .int .i64 0, .int .i64 0, .int .i64 0, .slice none 0 0, .slice none 0 0], .int .i64 3])
    (by simp [results, Try.results55, go_sem, q0, q1, q2, q3, q4, q5, q6, q7, q8]) rfl (HP.out _ e1)

set_option maxHeartbeats 1000000 in
theorem refParse_over (a : Option Addr) (len cap : Nat) (xs : List Int) (w : World) (h : Bytes w a len xs) (hcap : len ≤ cap) (hn : len ≤ 1000000) (h20 : 20 ≤ len) (hh : (len : Int) < headV xs) (hv : lookV xs = 3) :
    Calls Try.prog 55 #[.slice a len cap] w (ParseAns w xs) := by
  have hx0 : Ext w (w.alloc (.cells #[.int .i64 0, .int .i64 0, .int .u32 0, .int .u32 0, .int .i64 0, .int .i64 0, .int .i64 0, .slice none 0 0, .slice none 0 0] 52)) := (Ext.refl w).alloc _
  have h0 := h.below hx0
  have H0 : Hid ((w.alloc (.cells #[.int .i64 0, .int .i64 0, .int .u32 0, .int .u32 0, .int .i64 0, .int .i64 0, .int .i64 0, .slice none 0 0, .slice none 0 0] 52)).heap[w.heap.size]? = some (.cells #[.int .i64 0, .int .i64 0, .int .u32 0, .int .u32 0, .int .i64 0, .int .i64 0, .int .i64 0, .slice none 0 0, .slice none 0 0] 52 (0, 0))) := heap_new' w _
  have HP : Hid (∀ w', Ext w w' → ParseAns w xs (.returned (.tuple #[.agg #[.int .i64 0, .int .i64 0, .int .u32 0, .int .u32 0, .int .i64 0, .int .i64 0, .int .i64 0, .slice none 0 0, .slice none 0 0], .int .i64 3])) w') := fun w' hx => parse_end xs 3 w' hx hv (by omega)
  generalize ParseAns w xs = Ans at *
  clear hv
  have hl := h.length
  have ex : byteV xs 12 = xs[12]?.getD 0 := byteV_nat xs 12
  have hb := h.ok.get 12
  obtain ⟨b, off, rfl, hc⟩ := h0.cell (k := 12) (by omega)
  unfold headV at hh
  rw [ex] at hh
  generalize xs[12]?.getD 0 = x at *
  obtain ⟨k, hk⟩ : ∃ k : Nat, x / 16 * 4 = (k : Int) := ⟨(x / 16 * 4).toNat, by omega⟩
  rw [hk] at hh
  have hb12 : (12 : Int) < (len : Int) := by omega
  rw [show x / 16 * 4 = 4 * (x / 16) by omega] at hk
  clear h h0
  go_enter Try.func55, Try.ntmps55
  iterate 6 (first | go_values | go_skip | go_guarded | go_step | go_upon | go_in | go_simp)
  generalize (w.alloc (.cells #[.int .i64 0, .int .i64 0, .int .u32 0, .int .u32 0, .int .i64 0, .int .i64 0, .int .i64 0, .slice none 0 0, .slice none 0 0] 52)) = W at *
  obtain ⟨d0, d1, d2, d3, d4, d5, d6, d7, d8⟩ := box_seg (x := w.heap.size + 1) H0.out (by omega) W (ExtX.refl _ _)
  have f0 := frozen_ip H0.out
  go_wp2
  have e0 := set_seg H0.out (.int .i64 0) (.int .i64 0) (.int .u32 0) (.int .u32 0) (.int .i64 0) (.int .i64 0) (.int .i64 0) (.slice none 0 0) (.slice none 0 0)
  have e1 := ext_set_seg hx0 (Nat.le_refl _) (.int .i64 0) (.int .i64 0) (.int .u32 0) (.int .u32 0) (.int .i64 0) (.int .i64 0) (.int .i64 0) (.slice none 0 0) (.slice none 0 0)
  obtain ⟨q0, q1, q2, q3, q4, q5, q6, q7, q8⟩ := box_seg (x := w.heap.size + 1) e0 (by omega) _ (ExtX.refl _ _)
  exact bodyPost_ret (v := .tuple #[.agg #[.int .i64 0, .int .i64 0, .int .u32 0, .int .u32 0, .int .i64 0, .int .i64 0, .int .i64 0, .slice none 0 0, .slice none 0 0], .int .i64 3])
    (by simp [results, Try.results55, go_sem, q0, q1, q2, q3, q4, q5, q6, q7, q8]) rfl (HP.out _ e1)

set_option maxHeartbeats 1000000 in
theorem refParse_form (a : Option Addr) (len cap : Nat) (xs : List Int) (w : World) (h : Bytes w a len xs) (hcap : len ≤ cap) (hn : len ≤ 1000000) (h20 : 20 ≤ len) (hr : headV xs ≤ (len : Int)) (hh : headV xs < 20) (hv : lookV xs = 2) :
    Calls Try.prog 55 #[.slice a len cap] w (ParseAns w xs) := by
  have hx0 : Ext w (w.alloc (.cells #[.int .i64 0, .int .i64 0, .int .u32 0, .int .u32 0, .int .i64 0, .int .i64 0, .int .i64 0, .slice none 0 0, .slice none 0 0] 52)) := (Ext.refl w).alloc _
  have h0 := h.below hx0
  have H0 : Hid ((w.alloc (.cells #[.int .i64 0, .int .i64 0, .int .u32 0, .int .u32 0, .int .i64 0, .int .i64 0, .int .i64 0, .slice none 0 0, .slice none 0 0] 52)).heap[w.heap.size]? = some (.cells #[.int .i64 0, .int .i64 0, .int .u32 0, .int .u32 0, .int .i64 0, .int .i64 0, .int .i64 0, .slice none 0 0, .slice none 0 0] 52 (0, 0))) := heap_new' w _
  have HP : Hid (∀ w', Ext w w' → ParseAns w xs (.returned (.tuple #[.agg #[.int .i64 0, .int .i64 0, .int .u32 0, .int .u32 0, .int .i64 0, .int .i64 0, .int .i64 0, .slice none 0 0, .slice none 0 0], .int .i64 2])) w') := fun w' hx => parse_end xs 2 w' hx hv (by omega)
  generalize ParseAns w xs = Ans at *
  clear hv
  have hl := h.length
  have ex : byteV xs 12 = xs[12]?.getD 0 := byteV_nat xs 12
  have hb := h.ok.get 12
  obtain ⟨b, off, rfl, hc⟩ := h0.cell (k := 12) (by omega)
  unfold headV at hh hr
  rw [ex] at hh hr
  generalize xs[12]?.getD 0 = x at *
  obtain ⟨k, hk⟩ : ∃ k : Nat, x / 16 * 4 = (k : Int) := ⟨(x / 16 * 4).toNat, by omega⟩
  rw [hk] at hh hr
  have hb12 : (12 : Int) < (len : Int) := by omega
  rw [show x / 16 * 4 = 4 * (x / 16) by omega] at hk
  clear h h0
  go_enter Try.func55, Try.ntmps55
  iterate 6 (first | go_values | go_skip | go_guarded | go_step | go_upon | go_in | go_simp)
  generalize (w.alloc (.cells #[.int .i64 0, .int .i64 0, .int .u32 0, .int .u32 0, .int .i64 0, .int .i64 0, .int .i64 0, .slice none 0 0, .slice none 0 0] 52)) = W at *
  obtain ⟨d0, d1, d2, d3, d4, d5, d6, d7, d8⟩ := box_seg (x := w.heap.size + 1) H0.out (by omega) W (ExtX.refl _ _)
  have f0 := frozen_ip H0.out
  go_wp2
  have e0 := set_seg H0.out (.int .i64 0) (.int .i64 0) (.int .u32 0) (.int .u32 0) (.int .i64 0) (.int .i64 0) (.int .i64 0) (.slice none 0 0) (.slice none 0 0)
  have e1 := ext_set_seg hx0 (Nat.le_refl _) (.int .i64 0) (.int .i64 0) (.int .u32 0) (.int .u32 0) (.int .i64 0) (.int .i64 0) (.int .i64 0) (.slice none 0 0) (.slice none 0 0)
  obtain ⟨q0, q1, q2, q3, q4, q5, q6, q7, q8⟩ := box_seg (x := w.heap.size + 1) e0 (by omega) _ (ExtX.refl _ _)
  exact bodyPost_ret (v := .tuple #[.agg #[.int .i64 0, .int .i64 0, .int .u32 0, .int .u32 0, .int .i64 0, .int .i64 0, .int .i64 0, .slice none 0 0, .slice none 0 0], .int .i64 2])
    (by simp [results, Try.results55, go_sem, q0, q1, q2, q3, q4, q5, q6, q7, q8]) rfl (HP.out _ e1)

set_option maxHeartbeats 2000000 in
theorem refParse_good (a : Option Addr) (len cap : Nat) (xs : List Int) (w : World) (h : Bytes w a len xs) (hcap : len ≤ cap) (hn : len ≤ 1000000) (hv : lookV xs = 0) :
    Calls Try.prog 55 #[.slice a len cap] w (ParseAns w xs) := by
  have hx0 : Ext w (w.alloc (.cells #[.int .i64 0, .int .i64 0, .int .u32 0, .int .u32 0, .int .i64 0, .int .i64 0, .int .i64 0, .slice none 0 0, .slice none 0 0] 52)) := (Ext.refl w).alloc _
  have h0 := h.below hx0
  have HH : Hid ((w.alloc (.cells #[.int .i64 0, .int .i64 0, .int .u32 0, .int .u32 0, .int .i64 0, .int .i64 0, .int .i64 0, .slice none 0 0, .slice none 0 0] 52)).heap[w.heap.size]? = some (.cells #[.int .i64 0, .int .i64 0, .int .u32 0, .int .u32 0, .int .i64 0, .int .i64 0, .int .i64 0, .slice none 0 0, .slice none 0 0] 52 (0, 0))) := heap_new' w _
  have L := (looks_iff xs).1 hv
  have hl := h.length
  have l1 := L.len; have l2 := L.head; have l3 := L.room
  have hpk : packV xs = parseV xs := by unfold packV; rw [if_pos hv]
  have HP : Hid (∀ e w', ParseAns w xs e w' ↔ ∃ v, e = .returned (.tuple #[v, .int .i64 (lookV xs)]) ∧ IsSeg w' v (packV xs) ∧ Ext w w') := fun e w' => Iff.rfl
  generalize ParseAns w xs = Ans at *
  rw [hpk, hv] at HP
  obtain ⟨k, hk⟩ : ∃ k : Nat, headV xs = k := ⟨(headV xs).toNat, by have := (headV_bd h.ok).1; omega⟩
  have hpv : parseV xs = ⟨get16V xs 0, get16V xs 2, accV xs 4 4, accV xs 8 4, byteV xs 13 % 64, get16V xs 14, get16V xs 18, (xs.take k).drop 20, (xs.take len).drop k⟩ := by
    unfold parseV; rw [hk, Int.toNat_natCast, List.take_of_length_le (show xs.length ≤ len by omega)]
  rw [hpv] at HP
  rw [hk] at l2 l3
  rw [hl] at l1 l3
  obtain ⟨b, off, rfl, hc12⟩ := h0.cell (k := 12) (by omega)
  obtain ⟨p1, hp1, hq1⟩ := h.part 20 k cap (by omega) (by omega) hcap
  obtain ⟨p2, hp2, hq2⟩ := h.part k len cap (by omega) (by omega) hcap
  have cg := fun (p : Int) (w : World) h (p0 : 0 ≤ p) (p1 : p ≤ 60) => refGet16_any (some ⟨b, off, none⟩) len cap xs p w h (by omega) (by omega)
  have cG := fun (p : Int) (w : World) h (p0 : 0 ≤ p) (p1 : p ≤ 60) => refGet32_any (some ⟨b, off, none⟩) len cap xs p w h (by omega) (by omega)
  have hok := h.ok
  have g0 := fun w h => cg 0 w h (by omega) (by omega)
  have g2 := fun w h => cg 2 w h (by omega) (by omega)
  have g4 := fun w h => cG 4 w h (by omega) (by omega)
  have g8 := fun w h => cG 8 w h (by omega) (by omega)
  have g14 := fun w h => cg 14 w h (by omega) (by omega)
  have g18 := fun w h => cg 18 w h (by omega) (by omega)
  have x12 : byteV xs 12 = xs[12]?.getD 0 := byteV_nat xs 12
  have x13 : byteV xs 13 = xs[13]?.getD 0 := byteV_nat xs 13
  rw [x13] at HP
  unfold headV at hk
  rw [x12] at hk
  have y12 := hok.get 12
  have y13 := hok.get 13
  have i13 := u8_and6 _ y13.1 y13.2
  obtain ⟨fl, hfl⟩ : ∃ fl, xs[13]?.getD 0 % 64 = fl := ⟨_, rfl⟩
  have hfb : 0 ≤ fl ∧ fl ≤ 63 := by omega
  rw [hfl] at i13 HP
  have v13 := wraps_i64 fl hfb.1 (by omega)
  clear cg cG L hpk hpv hv x12 x13 hfl
  generalize get16V xs 0 = s0 at *
  generalize get16V xs 2 = s1 at *
  generalize accV xs 4 4 = s2 at *
  generalize accV xs 8 4 = s3 at *
  generalize get16V xs 14 = s5 at *
  generalize get16V xs 18 = s6 at *
  have hrd : ∀ w1, Ext w w1 → ∀ j, j < len → ∀ w', ExtN w.heap.size w1 w' → w'.cell? ⟨b, off + j, none⟩ = some (.int .u8 (xs[j]?.getD 0)) := fun w1 hX j hj w' hx => by
    obtain ⟨b', off', hab, hc⟩ := (h.below (ExtN.ext hX hx (Nat.le_refl _))).cell hj
    obtain ⟨rfl, rfl⟩ : b = b' ∧ off = off' := by simpa using hab
    exact hc
  generalize xs[12]?.getD 0 = x12 at *
  rw [show x12 / 16 * 4 = 4 * (x12 / 16) by omega] at hk
  have b12 : (12 : Int) < (len : Int) := by omega
  have b13 : (13 : Int) < (len : Int) := by omega
  have kc : (k : Int) ≤ (cap : Int) := by omega
  have lc : (len : Int) ≤ (cap : Int) := by omega
  have kl : (k : Int) ≤ (len : Int) := by omega
  go_enter Try.func55, Try.ntmps55
  go_wp2
  have hX : Ext w (w.alloc (.cells #[.int .i64 0, .int .i64 0, .int .u32 0, .int .u32 0, .int .i64 0, .int .i64 0, .int .i64 0, .slice none 0 0, .slice none 0 0] 52)).drew := hx0.drew
  have r13 := hrd _ hX 13 (by omega)
  have K0 : Hid ((w.alloc (.cells #[.int .i64 0, .int .i64 0, .int .u32 0, .int .u32 0, .int .i64 0, .int .i64 0, .int .i64 0, .slice none 0 0, .slice none 0 0] 52)).drew.heap[w.heap.size]? = some (.cells #[.int .i64 0, .int .i64 0, .int .u32 0, .int .u32 0, .int .i64 0, .int .i64 0, .int .i64 0, .slice none 0 0, .slice none 0 0] 52 (0, 0))) := HH.out
  have hsz : w.heap.size + 1 ≤ (w.alloc (.cells #[.int .i64 0, .int .i64 0, .int .u32 0, .int .u32 0, .int .i64 0, .int .i64 0, .int .i64 0, .slice none 0 0, .slice none 0 0] 52)).heap.size := by simp
  refine wp_region_makeN w.heap.size (w.heap.size + 1) hsz [(0, 0), (2, 0), (4, 0), (6, 0), (8, 0), (9, 0), (10, 0), (11, 0), (12, 0), (13, 0), (15, 0), (18, 3), (1, 1), (3, 1), (5, 1), (7, 1), (14, 1), (16, 1), (17, 0), (18, 2), (19, 4)] (by kernel_rfl) (by kernel_rfl) rfl (by kernel_rfl) (fun _ _ _ _ _ => Iff.rfl) ?_
  have hszW : w.heap.size + 1 ≤ (w.alloc (.cells #[.int .i64 0, .int .i64 0, .int .u32 0, .int .u32 0, .int .i64 0, .int .i64 0, .int .i64 0, .slice none 0 0, .slice none 0 0] 52)).drew.heap.size := hsz
  clear hrd HH h0 hx0 hsz hc12 hk
  generalize (w.alloc (.cells #[.int .i64 0, .int .i64 0, .int .u32 0, .int .u32 0, .int .i64 0, .int .i64 0, .int .i64 0, .slice none 0 0, .slice none 0 0] 52)).drew = W at *
  generalize xs[13]?.getD 0 = x13 at *
  repeat (first
    | (refine wpW_read (v := ?_) rfl (by rfl) ?_ ?_; rotate_left; (focus (intro w' hx; go_simp; first | done | with_reducible rfl)); simp only [Act.put, List.setIfInBounds_toArray, List.set_cons_zero, List.set_cons_succ]))
  refine wpW_say _ (fun g => .pointer (some ⟨g, 0, none⟩)) rfl (by rfl) (fun w' => by go_simp; first | done | with_reducible rfl) ?_
  refine wpW_call rfl (by rfl) (fun W1 hx1 K hK => ?_); go_simp; (go_at_call 57; have hX1 := hX.trans hx1; refine (g0 _ (h.below hX1)).mono ?_; rintro e w' ⟨rfl, rfl⟩; refine hK _ _ (Ext.refl _) ?_; clear hK K)
  refine wpW_call rfl (by rfl) (fun W2 hx2 K hK => ?_); go_simp; (go_at_call 57; have hX2 := hX1.trans hx2; refine (g2 _ (h.below hX2)).mono ?_; rintro e w' ⟨rfl, rfl⟩; refine hK _ _ (Ext.refl _) ?_; clear hK K)
  refine wpW_call rfl (by rfl) (fun W3 hx3 K hK => ?_); go_simp; (go_at_call 70; have hX3 := hX2.trans hx3; refine (g4 _ (h.below hX3)).mono ?_; rintro e w' ⟨rfl, rfl⟩; refine hK _ _ (Ext.refl _) ?_; clear hK K)
  refine wpW_call rfl (by rfl) (fun W4 hx4 K hK => ?_); go_simp; (go_at_call 70; have hX4 := hX3.trans hx4; refine (g8 _ (h.below hX4)).mono ?_; rintro e w' ⟨rfl, rfl⟩; refine hK _ _ (Ext.refl _) ?_; clear hK K)
  refine wpW_call rfl (by rfl) (fun W5 hx5 K hK => ?_); go_simp; (go_at_call 57; have hX5 := hX4.trans hx5; refine (g14 _ (h.below hX5)).mono ?_; rintro e w' ⟨rfl, rfl⟩; refine hK _ _ (Ext.refl _) ?_; clear hK K)
  refine wpW_call rfl (by rfl) (fun W6 hx6 K hK => ?_); go_simp; (go_at_call 57; have hX6 := hX5.trans hx6; refine (g18 _ (h.below hX6)).mono ?_; rintro e w' ⟨rfl, rfl⟩; refine hK _ _ (Ext.refl _) ?_; clear hK K)
  (refine wpW_read (v := ?_) rfl (by rfl) ?_ ?_; rotate_left; (focus (intro w' hx; go_simp; first | done | with_reducible rfl)); simp only [Act.put, List.setIfInBounds_toArray, List.set_cons_zero, List.set_cons_succ])
  refine wpW_make _ (fun g => .pointer (some ⟨g, 0, none⟩)) rfl (by rfl) (fun w' => by go_simp; first | done | with_reducible rfl) ?_; simp only [Act.put, List.setIfInBounds_toArray, List.set_cons_zero, List.set_cons_succ]; intro W8 g hx8 hBg hg2
  have hW8 : Ext W W8 := hx1.trans (hx2.trans (hx3.trans (hx4.trans (hx5.trans (hx6.trans hx8)))))
  have hX8 := hX.trans hW8
  obtain ⟨d0, d1, d2, d3, d4, d5, d6, d7, d8⟩ := box_seg (x := g + 1) hg2 (by omega) W8 (ExtX.refl _ _)
  have f0 := frozen_ip hg2
  have G2 : Hid _ := hg2
  clear hg2 r13 g0 g2 g4 g8 g14 g18 i13 v13 hx1 hx2 hx3 hx4 hx5 hx6 hx8 hX1 hX2 hX3 hX4 hX5 hX6
  refine wpW_last rfl (by rfl) (fun K hK => ?_)
  go_simp
  refine hK _ _ (extN_set_seg W8 g (by omega) (.int .i64 s0) (.int .i64 s1) (.int .u32 s2) (.int .u32 s3) (.int .i64 fl) (.int .i64 s5) (.int .i64 s6) (.slice none 0 0) (.slice none 0 0)) ?_
  clear hK K
  have K3 := set_seg G2.out (.int .i64 s0) (.int .i64 s1) (.int .u32 s2) (.int .u32 s3) (.int .i64 fl) (.int .i64 s5) (.int .i64 s6) (.slice none 0 0) (.slice none 0 0)
  have hX3 := ExtN.ext hX8 (extN_set_seg (N := w.heap.size) W8 g (by omega) (.int .i64 s0) (.int .i64 s1) (.int .u32 s2) (.int .u32 s3) (.int .i64 fl) (.int .i64 s5) (.int .i64 s6) (.slice none 0 0) (.slice none 0 0)) (Nat.le_refl _)
  have Z3 := (ExtX.block (extX_set_seg W8 g (.int .i64 s0) (.int .i64 s1) (.int .u32 s2) (.int .u32 s3) (.int .i64 fl) (.int .i64 s5) (.int .i64 s6) (.slice none 0 0) (.slice none 0 0)) w.heap.size (by have := hW8.size; omega) (by omega)).trans (hW8.heap K0.out)
  refine wpW_done ?_
  clear d0 d1 d2 d3 d4 d5 d6 d7 d8 f0 G2 K0 hX hX8 hW8 hszW
  have hs4 : w.heap.size + 1 ≤ (((((((((W8.setCell ⟨g, 0, none⟩ (.int .i64 s0)).setCell ⟨g, 1, none⟩ (.int .i64 s1)).setCell ⟨g, 2, none⟩ (.int .u32 s2)).setCell ⟨g, 3, none⟩ (.int .u32 s3)).setCell ⟨g, 4, none⟩ (.int .i64 fl)).setCell ⟨g, 5, none⟩ (.int .i64 s5)).setCell ⟨g, 6, none⟩ (.int .i64 s6)).setCell ⟨g, 7, none⟩ (.slice none 0 0)).setCell ⟨g, 8, none⟩ (.slice none 0 0)).heap.size := by have h1 := block_of K3; omega
  generalize (((((((((W8.setCell ⟨g, 0, none⟩ (.int .i64 s0)).setCell ⟨g, 1, none⟩ (.int .i64 s1)).setCell ⟨g, 2, none⟩ (.int .u32 s2)).setCell ⟨g, 3, none⟩ (.int .u32 s3)).setCell ⟨g, 4, none⟩ (.int .i64 fl)).setCell ⟨g, 5, none⟩ (.int .i64 s5)).setCell ⟨g, 6, none⟩ (.int .i64 s6)).setCell ⟨g, 7, none⟩ (.slice none 0 0)).setCell ⟨g, 8, none⟩ (.slice none 0 0)) = W4 at *
  go_wp2
  refine wp_region_makeN w.heap.size (w.heap.size + 1) hs4 [(1, 0), (2, 0), (3, 0), (6, 0), (7, 0), (8, 0), (0, 3), (5, 3), (0, 2), (4, 1), (10, 0), (5, 2), (9, 1), (11, 4), (12, 0), (13, 4)] (by kernel_rfl) (by kernel_rfl) rfl (by kernel_rfl) (fun _ _ _ _ _ => Iff.rfl) ?_
  have hX : Ext w W4.drew := hX3.drew
  have K5 : Hid (W4.drew.heap[g]? = some (.cells ([.int .i64 s0, .int .i64 s1, .int .u32 s2, .int .u32 s3, .int .i64 fl, .int .i64 s5, .int .i64 s6, .slice none 0 0, .slice none 0 0]).toArray 52 (0, 0))) := K3
  have Z5 : Hid (W4.drew.heap[w.heap.size]? = some (.cells #[.int .i64 0, .int .i64 0, .int .u32 0, .int .u32 0, .int .i64 0, .int .i64 0, .int .i64 0, .slice none 0 0, .slice none 0 0] 52 (0, 0))) := Z3
  obtain ⟨i0, hi, hz0, hz1, hz2⟩ := info_parts Try.infoByte
  clear K3 Z3 hX3 hs4
  generalize W4.drew = V at *
  repeat (first
    | (refine wpW_read (v := ?_) rfl (by rfl) ?_ ?_; rotate_left; (focus (intro w' hx; go_simp; first | done | with_reducible rfl)); simp only [Act.put, List.setIfInBounds_toArray, List.set_cons_zero, List.set_cons_succ]))
  (refine wpW_say _ (fun g => .slice (some ⟨g, 0, none⟩) 0 0) rfl (by rfl) (fun w' => by go_simp; first | done | with_reducible rfl) ?_)
  (refine wpW_say _ (fun g => .slice (some ⟨g, 0, none⟩) 0 0) rfl (by rfl) (fun w' => by go_simp; first | done | with_reducible rfl) ?_)
  refine wpW_make _ (fun g => .slice (some ⟨g, 0, none⟩) 0 0) rfl (by rfl) (fun w' => by go_simp; first | done | with_reducible rfl) ?_; simp only [Act.put, List.setIfInBounds_toArray, List.set_cons_zero, List.set_cons_succ]; intro V1 g1 hx1 hB1 hg1
  refine wpW_call rfl (by rfl) (fun V2 hx2 K hK => ?_)
  refine wp_append_full (.tmp 44) (.tmp 47) 22 rfl 5 i0 (.int .u8 0) Try.underlying22 hi hz0 hz1 hz2 rfl g1 0 [] rfl (hx2.heap hg1) rfl (some p1) (k - 20) (cap - 20) _ rfl (hq1 _ (hX.trans (hx1.trans hx2))) (by simp) (by omega) (w.heap.size + 1) hB1 ?_
  intro v3 V3 ho3 hx3
  rw [Nat.zero_add, List.nil_append] at ho3
  obtain ⟨q1, e1, rfl⟩ := owns_shape ho3
  refine hK _ _ hx3 ?_
  clear hK K hg1
  simp only [Act.put, List.setIfInBounds_toArray, List.set_cons_zero, List.set_cons_succ]
  (refine wpW_read (v := ?_) rfl (by rfl) ?_ ?_; rotate_left; (focus (intro w' hx; go_simp; first | done | with_reducible rfl)); simp only [Act.put, List.setIfInBounds_toArray, List.set_cons_zero, List.set_cons_succ])
  refine wpW_make _ (fun g => .slice (some ⟨g, 0, none⟩) 0 0) rfl (by rfl) (fun w' => by go_simp; first | done | with_reducible rfl) ?_; simp only [Act.put, List.setIfInBounds_toArray, List.set_cons_zero, List.set_cons_succ]; intro V4 g4 hx4 hB4 hg4
  refine wpW_call rfl (by rfl) (fun V5 hx5 K hK => ?_)
  have hX5 : Ext w V5 := hX.trans (hx1.trans (hx2.trans (hx3.trans (hx4.trans hx5))))
  refine wp_append_full (.tmp 49) (.tmp 52) 22 rfl 5 i0 (.int .u8 0) Try.underlying22 hi hz0 hz1 hz2 rfl g4 0 [] rfl (hx5.heap hg4) rfl (some p2) (len - k) (cap - k) _ rfl (hq2 _ hX5) (by simp) (by omega) (w.heap.size + 1) hB4 ?_
  intro v6 V6 ho6 hx6
  rw [Nat.zero_add, List.nil_append] at ho6
  obtain ⟨q2, e2, rfl⟩ := owns_shape ho6
  refine hK _ _ hx6 ?_
  clear hK K hg4
  simp only [Act.put, List.setIfInBounds_toArray, List.set_cons_zero, List.set_cons_succ]
  have hV6 : Ext V V6 := hx1.trans (hx2.trans (hx3.trans (hx4.trans (hx5.trans hx6))))
  have o3 := owns_later ho3 (hx4.trans (hx5.trans hx6))
  have hX6 : Ext w V6 := hX.trans hV6
  have K6 := hV6.heap K5.out
  have Z6 := hV6.heap Z5.out
  have m9 := heap_cell (k := 7) K6
  have ma := heap_cell (k := 8) K6
  have f6 := frozen_ip K6
  have KK6 : Hid _ := K6
  have ZZ6 : Hid _ := Z6
  clear K6 Z6 K5 Z5 hx1 hx2 hx3 hx4 hx5 hx6 hV6 hq1 hq2 hX hX5
  refine wpW_last rfl (by rfl) (fun K hK => ?_)
  go_simp
  refine hK _ _ ((ExtN.refl w.heap.size V6).setCell (show w.heap.size ≤ g by omega) _) ?_
  clear hK K
  (refine wpW_read (v := ?_) rfl (by rfl) ?_ ?_; rotate_left; (focus (intro w' hx; go_simp; first | done | with_reducible rfl)); simp only [Act.put, List.setIfInBounds_toArray, List.set_cons_zero, List.set_cons_succ])
  refine wpW_last rfl (by rfl) (fun K hK => ?_)
  go_simp
  refine hK _ _ ((ExtN.refl w.heap.size _).setCell (show w.heap.size ≤ g by omega) _) ?_
  clear hK K
  have K7 := set_at 8 (.slice q2 (len - k) e2) (set_at 7 (.slice q1 (k - 20) e1) KK6.out)
  simp only [List.set_cons_zero, List.set_cons_succ] at K7
  have hX7 := ExtN.ext hX6 (((ExtN.refl w.heap.size V6).setCell (p := ⟨g, 7, none⟩) (show w.heap.size ≤ g by omega) (.slice q1 (k - 20) e1)).setCell (p := ⟨g, 8, none⟩) (show w.heap.size ≤ g by omega) (.slice q2 (len - k) e2)) (Nat.le_refl _)
  have Z7 := (ExtX.block (((ExtX.refl g V6).setCell (p := ⟨g, 7, none⟩) rfl (.slice q1 (k - 20) e1)).setCell (p := ⟨g, 8, none⟩) rfl (.slice q2 (len - k) e2)) w.heap.size (block_of ZZ6.out) (by omega)).trans ZZ6.out
  refine wpW_done ?_
  have t3 := owns_set 8 (.slice q2 (len - k) e2) (owns_set 7 (.slice q1 (k - 20) e1) o3 KK6.out (by decide)) (set_at 7 (.slice q1 (k - 20) e1) KK6.out) (by decide)
  have t6 := owns_set 8 (.slice q2 (len - k) e2) (owns_set 7 (.slice q1 (k - 20) e1) ho6 KK6.out (by decide)) (set_at 7 (.slice q1 (k - 20) e1) KK6.out) (by decide)
  clear m9 ma f6 o3 ho3 ho6 hX6 KK6 ZZ6
  generalize ((V6.setCell ⟨g, 7, none⟩ (.slice q1 (k - 20) e1)).setCell ⟨g, 8, none⟩ (.slice q2 (len - k) e2)) = V7 at *
  obtain ⟨x0, x1, x2, x3, x4, x5, x6, x7, x8⟩ := box_seg (x := g + 1) K7 (by omega) V7 (ExtX.refl _ _)
  obtain ⟨d0, d1, d2, d3, d4, d5, d6, d7, d8⟩ := box_seg (x := w.heap.size + 1) Z7 (by omega) V7 (ExtX.refl _ _)
  have f7 := frozen_ip Z7
  have ZZ7 : Hid _ := Z7
  clear K7 Z7
  go_wp2
  have e0 := set_seg ZZ7.out (.int .i64 s0) (.int .i64 s1) (.int .u32 s2) (.int .u32 s3) (.int .i64 fl) (.int .i64 s5) (.int .i64 s6) (.slice q1 (k - 20) e1) (.slice q2 (len - k) e2)
  have j1 := ext_set_seg hX7 (Nat.le_refl _) (.int .i64 s0) (.int .i64 s1) (.int .u32 s2) (.int .u32 s3) (.int .i64 fl) (.int .i64 s5) (.int .i64 s6) (.slice q1 (k - 20) e1) (.slice q2 (len - k) e2)
  have j2 := extX_set_seg V7 w.heap.size (.int .i64 s0) (.int .i64 s1) (.int .u32 s2) (.int .u32 s3) (.int .i64 fl) (.int .i64 s5) (.int .i64 s6) (.slice q1 (k - 20) e1) (.slice q2 (len - k) e2)
  have t3' := owns_laterX t3 j2 (by omega)
  have t6' := owns_laterX t6 j2 (by omega)
  obtain ⟨hba, hza, _⟩ := owns_slice t3' (fun x hx => hok x (List.mem_of_mem_take (List.mem_of_mem_drop hx)))
  obtain ⟨hbb, hzb, _⟩ := owns_slice t6' (fun x hx => hok x (List.mem_of_mem_take (List.mem_of_mem_drop hx)))
  obtain ⟨u0, u1, u2, u3, u4, u5, u6, u7, u8⟩ := box_seg (x := w.heap.size + 1) e0 (by omega) _ (ExtX.refl _ _)
  exact bodyPost_ret (v := .tuple #[.agg #[.int .i64 s0, .int .i64 s1, .int .u32 s2, .int .u32 s3, .int .i64 fl, .int .i64 s5, .int .i64 s6, .slice q1 (k - 20) e1, .slice q2 (len - k) e2], .int .i64 0])
    (by simp [results, Try.results55, go_sem, u0, u1, u2, u3, u4, u5, u6, u7, u8]) rfl
    ((HP.out _ _).2 ⟨_, rfl, ⟨⟨q1, k - 20, e1, q2, len - k, e2, rfl, hba, hza, hbb, hzb⟩⟩, j1⟩)

theorem refParse_any (a : Option Addr) (len cap : Nat) (xs : List Int) (w : World) (h : Bytes w a len xs) (hcap : len ≤ cap) (hn : len ≤ 1000000) :
    Calls Try.prog 55 #[.slice a len cap] w (ParseAns w xs) := by
  have hl := h.length
  rcases look_cases xs with ⟨h1, hv⟩ | ⟨h1, h2, hv⟩ | ⟨h1, h2, h3, hv⟩ | ⟨h1, h2, h3, hv⟩
  · exact refParse_short a len cap xs w h hcap hn (by omega) hv
  · exact refParse_over a len cap xs w h hcap hn (by omega) (by omega) hv
  · exact refParse_form a len cap xs w h hcap hn (by omega) (by omega) h3 hv
  · exact refParse_good a len cap xs w h hcap hn hv

end Go.Proofs.Ytkagkfbdpiblkaa.Tcp
