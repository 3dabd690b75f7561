/- What the document's own Read and Parse answer (chapter 4). -/
import Derived.Test.YtkagkfbdpiblkaaIp3P
import Derived.Test.YtkagkfbdpiblkaaGrow3
namespace Go.Proofs.Ytkagkfbdpiblkaa
open Go.RowKit
set_option linter.unusedVariables false

theorem i64_and1 (n : Int) (h0 : 0 ≤ n) (h1 : n ≤ 65535) : bits .and .i64 n 1 = n % 2 := by
  obtain ⟨a, rfl⟩ := Int.eq_ofNat_of_zero_le h0
  have e := (bits_nat .i64 63 (by decide) wraps_i64 a 1 (by omega) (by omega)).1
  have e2 : a &&& 1 = a % 2 := Nat.and_two_pow_sub_one_eq_mod a 1
  rw [show (1 : Int) = ((1 : Nat) : Int) from rfl, e, e2]; rfl

theorem no_byte {w : World} {g : Nat} {t : TypeId} (h : w.heap[g]? = some (.cells #[.int .i64 0, .int .i64 0, .bool false, .bool false, .int .i64 0, .int .i64 0, .int .i64 0, .int .u32 0, .int .u32 0, .slice none 0 0, .slice none 0 0] t (0, 0))) : ∀ k v, w.cell? ⟨g, k, none⟩ ≠ some (.int .u8 v) := fun k v => by
  rw [heap_cell h]
  match k with
  | 0 => simp
  | 1 => simp
  | 2 => simp
  | 3 => simp
  | 4 => simp
  | 5 => simp
  | 6 => simp
  | 7 => simp
  | 8 => simp
  | 9 => simp
  | 10 => simp
  | k + 11 => simp

/-- What Read answers. -/
def ReadAns (w : World) (xs : List Int) (e : Ending) (w' : World) : Prop := ∃ v, e = .returned v ∧ IsIP w' v (parseV xs) ∧ Ext w w'

set_option maxHeartbeats 2000000 in
theorem refRead_any (a : Option Addr) (len cap : Nat) (xs : List Int) (w : World) (h : Bytes w a len xs) (hcap : len ≤ cap) (hn : len ≤ 1000000) (L : Looks xs) :
    Calls Try.prog 54 #[.slice a len cap] w (ReadAns w xs) := by
  have hx0 : Ext w (w.alloc (.cells #[.int .i64 0, .int .i64 0, .bool false, .bool false, .int .i64 0, .int .i64 0, .int .i64 0, .int .u32 0, .int .u32 0, .slice none 0 0, .slice none 0 0] 25)) := (Ext.refl w).alloc _
  have h0 := h.below hx0
  have HH : Hid ((w.alloc (.cells #[.int .i64 0, .int .i64 0, .bool false, .bool false, .int .i64 0, .int .i64 0, .int .i64 0, .int .u32 0, .int .u32 0, .slice none 0 0, .slice none 0 0] 25)).heap[w.heap.size]? = some (.cells #[.int .i64 0, .int .i64 0, .bool false, .bool false, .int .i64 0, .int .i64 0, .int .i64 0, .int .u32 0, .int .u32 0, .slice none 0 0, .slice none 0 0] 25 (0, 0))) := heap_new' w _
  have hsz : (w.alloc (.cells #[.int .i64 0, .int .i64 0, .bool false, .bool false, .int .i64 0, .int .i64 0, .int .i64 0, .int .u32 0, .int .u32 0, .slice none 0 0, .slice none 0 0] 25)).heap.size = w.heap.size + 1 := by simp
  have c1 := fun w h => refHeader_any a len cap xs w h
  have hl := h.length
  have l1 := L.len; have l2 := L.head; have l3 := L.room; have l4 := L.all; have l5 := L.whole
  have HP : Hid (∀ e w', ReadAns w xs e w' ↔ ∃ v, e = .returned v ∧ IsIP w' v (parseV xs) ∧ Ext w w') := fun e w' => Iff.rfl
  generalize ReadAns w xs = Ans at *
  obtain ⟨k, hk⟩ : ∃ k : Nat, headV xs = k := ⟨(headV xs).toNat, by have := (headV_bd h.ok).1; omega⟩
  obtain ⟨m, hm⟩ : ∃ m : Nat, get16V xs 2 = m := ⟨(get16V xs 2).toNat, by have := (get16V_bd h.ok 2).1; omega⟩
  have hpv : parseV xs = ⟨byteV xs 1, get16V xs 4, decide (get16V xs 6 / 16384 % 2 = 1), decide (get16V xs 6 / 8192 % 2 = 1), get16V xs 6 % 8192, byteV xs 8, byteV xs 9, accV xs 12 4, accV xs 16 4, (xs.take k).drop 20, (xs.take m).drop k⟩ := by
    unfold parseV; rw [hk, hm, Int.toNat_natCast, Int.toNat_natCast]
  rw [hpv] at HP
  rw [hk] at c1 l2 l3 l4
  rw [hm] at l4 l5
  rw [hl] at l1 l3 l5
  obtain ⟨b, off, rfl, hc1⟩ := h.cell (k := 1) (by omega)
  obtain ⟨p1, hp1, hq1⟩ := h.part 20 k cap (by omega) (by omega) hcap
  obtain ⟨p2, hp2, hq2⟩ := h.part k m cap (by omega) (by omega) hcap
  have cg := fun (p : Int) (w : World) h (p0 : 0 ≤ p) (p1 : p ≤ 60) => refGet16_any (some ⟨b, off, none⟩) len cap xs p w h (by omega) (by omega)
  have cG := fun (p : Int) (w : World) h (p0 : 0 ≤ p) (p1 : p ≤ 60) => refGet32_any (some ⟨b, off, none⟩) len cap xs p w h (by omega) (by omega)
  have x1 : byteV xs 1 = xs[1]?.getD 0 := byteV_nat xs 1
  have x8 : byteV xs 8 = xs[8]?.getD 0 := byteV_nat xs 8
  have x9 : byteV xs 9 = xs[9]?.getD 0 := byteV_nat xs 9
  have hg := get16V_bd h.ok 6
  have i3 := i64_and13 _ hg.1 hg.2
  have hok := h.ok
  have g0 := fun w h => cg 2 w h (by omega) (by omega)
  rw [hm] at g0
  have g1 := fun w h => cg 6 w h (by omega) (by omega)
  have g2 := fun w h => cg 4 w h (by omega) (by omega)
  have g3 := fun w h => cG 12 w h (by omega) (by omega)
  have g4 := fun w h => cG 16 w h (by omega) (by omega)
  rw [x1, x8, x9] at HP
  clear cg cG L hpv hk hm x1 x8 x9 hc1
  have y1 := hok.get 1
  have y8 := hok.get 8
  have y9 := hok.get 9
  have v1 := wraps_i64 _ y1.1 (by omega)
  have v8 := wraps_i64 _ y8.1 (by omega)
  have v9 := wraps_i64 _ y9.1 (by omega)
  generalize get16V xs 6 = cu at *
  generalize get16V xs 4 = id at *
  generalize accV xs 12 4 = s1 at *
  generalize accV xs 16 4 = s2 at *
  have tok1 : Hid True := trivial
  go_enter Try.func54, Try.ntmps54
  go_wp2_with (first
    | (go_at_call 39; refine (c1 _ h0).mono ?_; rintro e w1 ⟨rfl, hw1⟩; subst hw1)
    | (go_at_call 57; clear tok1; refine (g0 _ h0).mono ?_; rintro e w2 ⟨rfl, hw2⟩; subst hw2)
    | (go_at_call 57; refine (g1 _ h0).mono ?_; rintro e w2 ⟨rfl, hw2⟩; subst hw2))
  have hX : Ext w (w.alloc (.cells #[.int .i64 0, .int .i64 0, .bool false, .bool false, .int .i64 0, .int .i64 0, .int .i64 0, .int .u32 0, .int .u32 0, .slice none 0 0, .slice none 0 0] 25)).drew := hx0.drew
  have hsz' : w.heap.size + 1 ≤ (w.alloc (.cells #[.int .i64 0, .int .i64 0, .bool false, .bool false, .int .i64 0, .int .i64 0, .int .i64 0, .int .u32 0, .int .u32 0, .slice none 0 0, .slice none 0 0] 25)).drew.heap.size := Nat.le_of_eq hsz.symm
  have K0 : Hid ((w.alloc (.cells #[.int .i64 0, .int .i64 0, .bool false, .bool false, .int .i64 0, .int .i64 0, .int .i64 0, .int .u32 0, .int .u32 0, .slice none 0 0, .slice none 0 0] 25)).drew.heap[w.heap.size]? = some (.cells #[.int .i64 0, .int .i64 0, .bool false, .bool false, .int .i64 0, .int .i64 0, .int .i64 0, .int .u32 0, .int .u32 0, .slice none 0 0, .slice none 0 0] 25 (0, 0))) := HH.out
  refine wp_region_makeN w.heap.size (w.heap.size + 1) (Nat.le_of_eq hsz.symm) [(0, 0), (1, 0), (2, 0), (3, 0), (4, 0), (6, 0), (7, 0), (8, 0), (9, 0), (10, 0), (11, 0), (12, 0), (13, 0), (14, 0), (15, 0), (16, 0), (17, 0), (18, 0), (19, 0), (20, 0), (21, 0), (22, 0), (23, 0), (25, 3), (5, 1), (24, 0), (25, 2), (26, 4)] (by kernel_rfl) (by kernel_rfl) rfl (by kernel_rfl) (fun _ _ _ _ _ => Iff.rfl) ?_
  have hrd : ∀ j, j < len → ∀ w', ExtN w.heap.size (w.alloc (.cells #[.int .i64 0, .int .i64 0, .bool false, .bool false, .int .i64 0, .int .i64 0, .int .i64 0, .int .u32 0, .int .u32 0, .slice none 0 0, .slice none 0 0] 25)).drew w' → w'.cell? ⟨b, off + j, none⟩ = some (.int .u8 (xs[j]?.getD 0)) := fun j hj w' hx => by
    obtain ⟨b', off', hab, hc⟩ := (h.below (ExtN.ext hX hx (Nat.le_refl _))).cell hj
    obtain ⟨rfl, rfl⟩ : b = b' ∧ off = off' := by simpa using hab
    exact hc
  have r1 := hrd 1 (by omega)
  have r8 := hrd 8 (by omega)
  have r9 := hrd 9 (by omega)
  clear hrd HH h0 hx0 c1 g0 g1 hsz
  have b1 : (1 : Int) < (len : Int) := by omega
  have b8 : (8 : Int) < (len : Int) := by omega
  have b9 : (9 : Int) < (len : Int) := by omega
  have kc : (k : Int) ≤ (cap : Int) := by omega
  have mc : (m : Int) ≤ (cap : Int) := by omega
  have n1 := i64_and1 (cu / 16384) (by omega) (by omega)
  have n2 := i64_and1 (cu / 8192) (by omega) (by omega)
  obtain ⟨D1, hD1⟩ : ∃ D1, decide (cu / 16384 % 2 = 1) = D1 := ⟨_, rfl⟩
  obtain ⟨D2, hD2⟩ : ∃ D2, decide (cu / 8192 % 2 = 1) = D2 := ⟨_, rfl⟩
  obtain ⟨of, hof⟩ : ∃ of, cu % 8192 = of := ⟨_, rfl⟩
  rw [hD1, hD2, hof] at HP
  have hD1' : (cu / 16384 % 2 == 1) = D1 := hD1
  have hD2' : (cu / 8192 % 2 == 1) = D2 := hD2
  generalize (w.alloc (.cells #[.int .i64 0, .int .i64 0, .bool false, .bool false, .int .i64 0, .int .i64 0, .int .i64 0, .int .u32 0, .int .u32 0, .slice none 0 0, .slice none 0 0] 25)).drew = W at *
  repeat (first
    | (refine wpW_read (v := ?_) rfl (by rfl) ?_ ?_; rotate_left; (focus (intro w' hx; go_simp; first | done | with_reducible rfl)); simp only [Act.put, List.setIfInBounds_toArray, List.set_cons_zero, List.set_cons_succ]))
  refine wpW_say _ (fun g => .pointer (some ⟨g, 0, none⟩)) rfl (by rfl) (fun w' => by go_simp; first | done | with_reducible rfl) ?_
  refine wpW_call rfl (by rfl) (fun W1 hx1 K hK => ?_); go_simp; (go_at_call 57; have hX1 := hX.trans hx1; refine (g2 _ (h.below hX1)).mono ?_; rintro e w' ⟨rfl, rfl⟩; refine hK _ _ (Ext.refl _) ?_; clear hK K)
  (refine wpW_read (v := ?_) rfl (by rfl) ?_ ?_; rotate_left; (focus (intro w' hx; go_simp; first | done | with_reducible rfl)); simp only [Act.put, List.setIfInBounds_toArray, List.set_cons_zero, List.set_cons_succ])
  refine wpW_make _ (fun g => .pointer (some ⟨g, 0, none⟩)) rfl (by rfl) (fun w' => by go_simp; first | done | with_reducible rfl) ?_; simp only [Act.put, List.setIfInBounds_toArray, List.set_cons_zero, List.set_cons_succ]; intro W2 g hx2 hBg hg2
  have hX2 := hX1.trans hx2
  have hW2 := hx1.trans hx2
  obtain ⟨d0, d1, d2, d3, d4, d5, d6, d7, d8, d9, da⟩ := box_ip (x := g + 1) hg2 (by omega) W2 (ExtX.refl _ _)
  have f0 := frozen_ip hg2
  have G2 : Hid _ := hg2
  clear hg2 r1 r8 r9 g2 n1 n2 hD1 hD2 hof v1 v8 v9
  refine wpW_last rfl (by rfl) (fun K hK => ?_)
  go_simp
  refine hK _ _ (extN_set_ip W2 g (by omega) (.int .i64 (xs[1]?.getD 0)) (.int .i64 id) (.bool D1) (.bool D2) (.int .i64 of) (.int .i64 (xs[8]?.getD 0)) (.int .i64 (xs[9]?.getD 0)) (.int .u32 0) (.int .u32 0) (.slice none 0 0) (.slice none 0 0)) ?_
  clear hK K
  have K3 := set_ip G2.out (.int .i64 (xs[1]?.getD 0)) (.int .i64 id) (.bool D1) (.bool D2) (.int .i64 of) (.int .i64 (xs[8]?.getD 0)) (.int .i64 (xs[9]?.getD 0)) (.int .u32 0) (.int .u32 0) (.slice none 0 0) (.slice none 0 0)
  have hX3 := ExtN.ext hX2 (extN_set_ip (N := w.heap.size) W2 g (by omega) (.int .i64 (xs[1]?.getD 0)) (.int .i64 id) (.bool D1) (.bool D2) (.int .i64 of) (.int .i64 (xs[8]?.getD 0)) (.int .i64 (xs[9]?.getD 0)) (.int .u32 0) (.int .u32 0) (.slice none 0 0) (.slice none 0 0)) (Nat.le_refl _)
  have Z3 := (ExtX.block (extX_set_ip W2 g (.int .i64 (xs[1]?.getD 0)) (.int .i64 id) (.bool D1) (.bool D2) (.int .i64 of) (.int .i64 (xs[8]?.getD 0)) (.int .i64 (xs[9]?.getD 0)) (.int .u32 0) (.int .u32 0) (.slice none 0 0) (.slice none 0 0)) w.heap.size (by have := hW2.size; omega) (by omega)).trans (hW2.heap K0.out)
  refine wpW_done ?_
  clear d0 d1 d2 d3 d4 d5 d6 d7 d8 d9 da f0 G2 K0 hX hX1 hX2 hx1 hx2 hsz' hW2
  have hs3 : w.heap.size + 1 ≤ (((((((((((W2.setCell ⟨g, 0, none⟩ (.int .i64 (xs[1]?.getD 0))).setCell ⟨g, 1, none⟩ (.int .i64 id)).setCell ⟨g, 2, none⟩ (.bool D1)).setCell ⟨g, 3, none⟩ (.bool D2)).setCell ⟨g, 4, none⟩ (.int .i64 of)).setCell ⟨g, 5, none⟩ (.int .i64 (xs[8]?.getD 0))).setCell ⟨g, 6, none⟩ (.int .i64 (xs[9]?.getD 0))).setCell ⟨g, 7, none⟩ (.int .u32 0)).setCell ⟨g, 8, none⟩ (.int .u32 0)).setCell ⟨g, 9, none⟩ (.slice none 0 0)).setCell ⟨g, 10, none⟩ (.slice none 0 0)).heap.size := by have h1 := block_of K3; omega
  generalize (((((((((((W2.setCell ⟨g, 0, none⟩ (.int .i64 (xs[1]?.getD 0))).setCell ⟨g, 1, none⟩ (.int .i64 id)).setCell ⟨g, 2, none⟩ (.bool D1)).setCell ⟨g, 3, none⟩ (.bool D2)).setCell ⟨g, 4, none⟩ (.int .i64 of)).setCell ⟨g, 5, none⟩ (.int .i64 (xs[8]?.getD 0))).setCell ⟨g, 6, none⟩ (.int .i64 (xs[9]?.getD 0))).setCell ⟨g, 7, none⟩ (.int .u32 0)).setCell ⟨g, 8, none⟩ (.int .u32 0)).setCell ⟨g, 9, none⟩ (.slice none 0 0)).setCell ⟨g, 10, none⟩ (.slice none 0 0)) = W3 at *
  have m7 := heap_cell (k := 7) K3
  have m8 := heap_cell (k := 8) K3
  have f3 := frozen_ip K3
  have K4 := set_at 8 (.int .u32 s2) (set_at 7 (.int .u32 s1) (l := [.int .i64 (xs[1]?.getD 0), .int .i64 id, .bool D1, .bool D2, .int .i64 of, .int .i64 (xs[8]?.getD 0), .int .i64 (xs[9]?.getD 0), .int .u32 0, .int .u32 0, .slice none 0 0, .slice none 0 0]) K3)
  simp only [List.set_cons_zero, List.set_cons_succ] at K4
  have H3 := h.below hX3
  have KK4 : Hid _ := K4
  have ZZ3 : Hid _ := Z3
  clear K3 K4 Z3
  have tok2 : Hid True := trivial
  go_wp2_with (first
    | (go_at_call 70; clear tok2; refine (g3 _ H3).mono ?_; rintro e w' ⟨rfl, rfl⟩)
    | (go_at_call 70; refine (g4 _ H3).mono ?_; rintro e w' ⟨rfl, rfl⟩))
  have hX4 : Ext w ((w'.setCell ⟨g, 7, none⟩ (.int .u32 s1)).setCell ⟨g, 8, none⟩ (.int .u32 s2)) := ExtN.ext hX3 (((ExtN.refl w.heap.size w').setCell (p := ⟨g, 7, none⟩) (show w.heap.size ≤ g by omega) _).setCell (p := ⟨g, 8, none⟩) (show w.heap.size ≤ g by omega) _) (Nat.le_refl _)
  have Z4 := (ExtX.block (((ExtX.refl g w').setCell (p := ⟨g, 7, none⟩) rfl (.int .u32 s1)).setCell (p := ⟨g, 8, none⟩) rfl (.int .u32 s2)) w.heap.size (by omega) (by omega)).trans ZZ3.out
  have hs4 : w.heap.size + 1 ≤ ((w'.setCell ⟨g, 7, none⟩ (.int .u32 s1)).setCell ⟨g, 8, none⟩ (.int .u32 s2)).heap.size := by have h1 := block_of KK4.out; omega
  clear m7 m8 f3 H3 ZZ3 hX3 hs3 g3 g4
  generalize ((w'.setCell ⟨g, 7, none⟩ (.int .u32 s1)).setCell ⟨g, 8, none⟩ (.int .u32 s2)) = W4 at *
  refine wp_region_makeN w.heap.size (w.heap.size + 1) hs4 [(1, 0), (2, 0), (3, 0), (6, 0), (7, 0), (8, 0), (9, 0), (0, 3), (5, 3), (0, 2), (4, 1), (11, 0), (5, 2), (10, 1), (12, 4), (13, 0), (14, 4)] (by kernel_rfl) (by kernel_rfl) rfl (by kernel_rfl) (fun _ _ _ _ _ => Iff.rfl) ?_
  have hX : Ext w W4.drew := hX4.drew
  have K5 : Hid (W4.drew.heap[g]? = some (.cells ([.int .i64 (xs[1]?.getD 0), .int .i64 id, .bool D1, .bool D2, .int .i64 of, .int .i64 (xs[8]?.getD 0), .int .i64 (xs[9]?.getD 0), .int .u32 s1, .int .u32 s2, .slice none 0 0, .slice none 0 0]).toArray 25 (0, 0))) := KK4.out
  have Z5 : Hid (W4.drew.heap[w.heap.size]? = some (.cells #[.int .i64 0, .int .i64 0, .bool false, .bool false, .int .i64 0, .int .i64 0, .int .i64 0, .int .u32 0, .int .u32 0, .slice none 0 0, .slice none 0 0] 25 (0, 0))) := Z4
  obtain ⟨i0, hi, hz0, hz1, hz2⟩ := info_parts Try.infoByte
  clear KK4 Z4 hX4 hs4
  generalize W4.drew = V at *
  repeat (first
    | (refine wpW_read (v := ?_) rfl (by rfl) ?_ ?_; rotate_left; (focus (intro w' hx; go_simp; first | done | with_reducible rfl)); simp only [Act.put, List.setIfInBounds_toArray, List.set_cons_zero, List.set_cons_succ]))
  (refine wpW_say _ (fun g => .slice (some ⟨g, 0, none⟩) 0 0) rfl (by rfl) (fun w' => by go_simp; first | done | with_reducible rfl) ?_)
  (refine wpW_say _ (fun g => .slice (some ⟨g, 0, none⟩) 0 0) rfl (by rfl) (fun w' => by go_simp; first | done | with_reducible rfl) ?_)
  refine wpW_make _ (fun g => .slice (some ⟨g, 0, none⟩) 0 0) rfl (by rfl) (fun w' => by go_simp; first | done | with_reducible rfl) ?_; simp only [Act.put, List.setIfInBounds_toArray, List.set_cons_zero, List.set_cons_succ]; intro V1 g1 hx1 hB1 hg1
  refine wpW_call rfl (by rfl) (fun V2 hx2 K hK => ?_)
  refine wp_append_full (.tmp 49) (.tmp 52) 22 rfl 5 i0 (.int .u8 0) Try.underlying22 hi hz0 hz1 hz2 rfl g1 0 [] rfl (hx2.heap hg1) rfl (some p1) (k - 20) (cap - 20) _ rfl (hq1 _ (hX.trans (hx1.trans hx2))) (by simp) (by omega) (w.heap.size + 1) hB1 ?_
  intro v3 V3 ho3 hx3
  rw [Nat.zero_add, List.nil_append] at ho3
  obtain ⟨q1, e1, rfl⟩ := owns_shape ho3
  refine hK _ _ hx3 ?_
  clear hK K hg1
  simp only [Act.put, List.setIfInBounds_toArray, List.set_cons_zero, List.set_cons_succ]
  (refine wpW_read (v := ?_) rfl (by rfl) ?_ ?_; rotate_left; (focus (intro w' hx; go_simp; first | done | with_reducible rfl)); simp only [Act.put, List.setIfInBounds_toArray, List.set_cons_zero, List.set_cons_succ])
  refine wpW_make _ (fun g => .slice (some ⟨g, 0, none⟩) 0 0) rfl (by rfl) (fun w' => by go_simp; first | done | with_reducible rfl) ?_; simp only [Act.put, List.setIfInBounds_toArray, List.set_cons_zero, List.set_cons_succ]; intro V4 g4 hx4 hB4 hg4
  refine wpW_call rfl (by rfl) (fun V5 hx5 K hK => ?_)
  have hX5 : Ext w V5 := hX.trans (hx1.trans (hx2.trans (hx3.trans (hx4.trans hx5))))
  refine wp_append_full (.tmp 54) (.tmp 58) 22 rfl 5 i0 (.int .u8 0) Try.underlying22 hi hz0 hz1 hz2 rfl g4 0 [] rfl (hx5.heap hg4) rfl (some p2) (m - k) (cap - k) _ rfl (hq2 _ hX5) (by simp) (by omega) (w.heap.size + 1) hB4 ?_
  intro v6 V6 ho6 hx6
  rw [Nat.zero_add, List.nil_append] at ho6
  obtain ⟨q2, e2, rfl⟩ := owns_shape ho6
  refine hK _ _ hx6 ?_
  clear hK K hg4
  simp only [Act.put, List.setIfInBounds_toArray, List.set_cons_zero, List.set_cons_succ]
  have hV6 : Ext V V6 := hx1.trans (hx2.trans (hx3.trans (hx4.trans (hx5.trans hx6))))
  have o3 := owns_later ho3 (hx4.trans (hx5.trans hx6))
  have hX6 : Ext w V6 := hX.trans hV6
  have K6 := hV6.heap K5.out
  have Z6 := hV6.heap Z5.out
  have m9 := heap_cell (k := 9) K6
  have ma := heap_cell (k := 10) K6
  have f6 := frozen_ip K6
  have KK6 : Hid _ := K6
  have ZZ6 : Hid _ := Z6
  clear K6 Z6 K5 Z5 hx1 hx2 hx3 hx4 hx5 hx6 hV6 hq1 hq2 hX hX5
  refine wpW_last rfl (by rfl) (fun K hK => ?_)
  go_simp
  refine hK _ _ ((ExtN.refl w.heap.size V6).setCell (show w.heap.size ≤ g by omega) _) ?_
  clear hK K
  (refine wpW_read (v := ?_) rfl (by rfl) ?_ ?_; rotate_left; (focus (intro w' hx; go_simp; first | done | with_reducible rfl)); simp only [Act.put, List.setIfInBounds_toArray, List.set_cons_zero, List.set_cons_succ])
  refine wpW_last rfl (by rfl) (fun K hK => ?_)
  go_simp
  refine hK _ _ ((ExtN.refl w.heap.size _).setCell (show w.heap.size ≤ g by omega) _) ?_
  clear hK K
  have K7 := set_at 10 (.slice q2 (m - k) e2) (set_at 9 (.slice q1 (k - 20) e1) KK6.out)
  simp only [List.set_cons_zero, List.set_cons_succ] at K7
  have hX7 := ExtN.ext hX6 (((ExtN.refl w.heap.size V6).setCell (p := ⟨g, 9, none⟩) (show w.heap.size ≤ g by omega) (.slice q1 (k - 20) e1)).setCell (p := ⟨g, 10, none⟩) (show w.heap.size ≤ g by omega) (.slice q2 (m - k) e2)) (Nat.le_refl _)
  have Z7 := (ExtX.block (((ExtX.refl g V6).setCell (p := ⟨g, 9, none⟩) rfl (.slice q1 (k - 20) e1)).setCell (p := ⟨g, 10, none⟩) rfl (.slice q2 (m - k) e2)) w.heap.size (block_of ZZ6.out) (by omega)).trans ZZ6.out
  refine wpW_done ?_
  have t3 := owns_set 10 (.slice q2 (m - k) e2) (owns_set 9 (.slice q1 (k - 20) e1) o3 KK6.out (by decide)) (set_at 9 (.slice q1 (k - 20) e1) KK6.out) (by decide)
  have t6 := owns_set 10 (.slice q2 (m - k) e2) (owns_set 9 (.slice q1 (k - 20) e1) ho6 KK6.out (by decide)) (set_at 9 (.slice q1 (k - 20) e1) KK6.out) (by decide)
  clear m9 ma f6 o3 ho3 ho6 hX6 KK6 ZZ6
  generalize ((V6.setCell ⟨g, 9, none⟩ (.slice q1 (k - 20) e1)).setCell ⟨g, 10, none⟩ (.slice q2 (m - k) e2)) = V7 at *
  obtain ⟨x0, x1, x2, x3, x4, x5, x6, x7, x8, x9, xa⟩ := box_ip (x := g + 1) K7 (by omega) V7 (ExtX.refl _ _)
  obtain ⟨d0, d1, d2, d3, d4, d5, d6, d7, d8, d9, da⟩ := box_ip (x := w.heap.size + 1) Z7 (by omega) V7 (ExtX.refl _ _)
  have f7 := frozen_ip Z7
  have ZZ7 : Hid _ := Z7
  clear K7 Z7
  go_wp2
  have e0 := set_ip ZZ7.out (.int .i64 (xs[1]?.getD 0)) (.int .i64 id) (.bool D1) (.bool D2) (.int .i64 of) (.int .i64 (xs[8]?.getD 0)) (.int .i64 (xs[9]?.getD 0)) (.int .u32 s1) (.int .u32 s2) (.slice q1 (k - 20) e1) (.slice q2 (m - k) e2)
  have j1 := ext_set_ip hX7 (Nat.le_refl _) (.int .i64 (xs[1]?.getD 0)) (.int .i64 id) (.bool D1) (.bool D2) (.int .i64 of) (.int .i64 (xs[8]?.getD 0)) (.int .i64 (xs[9]?.getD 0)) (.int .u32 s1) (.int .u32 s2) (.slice q1 (k - 20) e1) (.slice q2 (m - k) e2)
  have j2 := extX_set_ip V7 w.heap.size (.int .i64 (xs[1]?.getD 0)) (.int .i64 id) (.bool D1) (.bool D2) (.int .i64 of) (.int .i64 (xs[8]?.getD 0)) (.int .i64 (xs[9]?.getD 0)) (.int .u32 s1) (.int .u32 s2) (.slice q1 (k - 20) e1) (.slice q2 (m - k) e2)
  have t3' := owns_laterX t3 j2 (by omega)
  have t6' := owns_laterX t6 j2 (by omega)
  obtain ⟨hba, hza, _⟩ := owns_slice t3' (fun x hx => hok x (List.mem_of_mem_take (List.mem_of_mem_drop hx)))
  obtain ⟨hbb, hzb, hcb⟩ := owns_slice t6' (fun x hx => hok x (List.mem_of_mem_take (List.mem_of_mem_drop hx)))
  obtain ⟨u0, u1, u2, u3, u4, u5, u6, u7, u8, u9, ua⟩ := box_ip (x := w.heap.size + 1) e0 (by omega) _ (ExtX.refl _ _)
  exact bodyPost_ret (v := .agg #[.int .i64 (xs[1]?.getD 0), .int .i64 id, .bool D1, .bool D2, .int .i64 of, .int .i64 (xs[8]?.getD 0), .int .i64 (xs[9]?.getD 0), .int .u32 s1, .int .u32 s2, .slice q1 (k - 20) e1, .slice q2 (m - k) e2])
    (by simp [results, Try.results54, go_sem, u0, u1, u2, u3, u4, u5, u6, u7, u8, u9, ua]) rfl
    ((HP.out _ _).2 ⟨_, rfl, ⟨⟨q1, k - 20, e1, q2, m - k, e2, rfl, hba, hza, hbb, hzb, hcb⟩⟩, j1⟩)

set_option maxHeartbeats 1000000 in
theorem refParse_bad (a : Option Addr) (len cap : Nat) (xs : List Int) (w : World) (h : Bytes w a len xs) (hcap : len ≤ cap) (hn : len ≤ 1000000) (hv : lookV xs ≠ 0) :
    Calls Try.prog 31 #[.slice a len cap] w (ParseAns w xs) := by
  have hx0 : Ext w (w.alloc (.cells #[.int .i64 0, .int .i64 0, .bool false, .bool false, .int .i64 0, .int .i64 0, .int .i64 0, .int .u32 0, .int .u32 0, .slice none 0 0, .slice none 0 0] 25)) := (Ext.refl w).alloc _
  have h0 := h.below hx0
  have HH : Hid ((w.alloc (.cells #[.int .i64 0, .int .i64 0, .bool false, .bool false, .int .i64 0, .int .i64 0, .int .i64 0, .int .u32 0, .int .u32 0, .slice none 0 0, .slice none 0 0] 25)).heap[w.heap.size]? = some (.cells #[.int .i64 0, .int .i64 0, .bool false, .bool false, .int .i64 0, .int .i64 0, .int .i64 0, .int .u32 0, .int .u32 0, .slice none 0 0, .slice none 0 0] 25 (0, 0))) := heap_new' w _
  have c1 := fun w h => refLook_any a len cap xs w h hcap hn
  have hpk : packV xs = zeroIP := by unfold packV; rw [if_neg hv]
  have hne : (lookV xs == 0) = false := by simpa using hv
  have hne2 : (lookV xs != 0) = true := by simpa using hv
  have HP : Hid (∀ e w', ParseAns w xs e w' ↔ ∃ v, e = .returned (.tuple #[v, .int .i64 (lookV xs)]) ∧ IsIP w' v (packV xs) ∧ Ext w w') := fun e w' => Iff.rfl
  generalize ParseAns w xs = Ans at *
  rw [hpk] at HP
  generalize lookV xs = er at *
  clear hv hpk h
  go_enter Try.func31, Try.ntmps31
  go_wp2_with (first
    | (go_at_call 53; refine (c1 _ h0).mono ?_; rintro e w1 ⟨rfl, hw1⟩; have hx1 : Ext (w.alloc (.cells #[.int .i64 0, .int .i64 0, .bool false, .bool false, .int .i64 0, .int .i64 0, .int .i64 0, .int .u32 0, .int .u32 0, .slice none 0 0, .slice none 0 0] 25)) w1 := (by rw [hw1]; exact Ext.refl _); clear hw1; have k1 := Ext.heap hx1 HH.out; have K1 : Hid _ := k1; obtain ⟨d0, d1, d2, d3, d4, d5, d6, d7, d8, d9, da⟩ := box_ip (x := w.heap.size + 1) k1 (by omega) w1 (ExtX.refl _ _); have f0 := frozen_ip k1; clear k1))
  have e0 := set_ip K1.out (.int .i64 0) (.int .i64 0) (.bool false) (.bool false) (.int .i64 0) (.int .i64 0) (.int .i64 0) (.int .u32 0) (.int .u32 0) (.slice none 0 0) (.slice none 0 0)
  have e1 := ext_set_ip (hx0.trans hx1) (Nat.le_refl _) (.int .i64 0) (.int .i64 0) (.bool false) (.bool false) (.int .i64 0) (.int .i64 0) (.int .i64 0) (.int .u32 0) (.int .u32 0) (.slice none 0 0) (.slice none 0 0)
  obtain ⟨q0, q1, q2, q3, q4, q5, q6, q7, q8, q9, qa⟩ := box_ip (x := w.heap.size + 1) e0 (by omega) _ (ExtX.refl _ _)
  exact bodyPost_ret (v := .tuple #[.agg #[.int .i64 0, .int .i64 0, .bool false, .bool false, .int .i64 0, .int .i64 0, .int .i64 0, .int .u32 0, .int .u32 0, .slice none 0 0, .slice none 0 0], .int .i64 er])
    (by simp [results, Try.results31, go_sem, q0, q1, q2, q3, q4, q5, q6, q7, q8, q9, qa]) rfl
    ((HP.out _ _).2 ⟨_, rfl, ⟨⟨none, 0, 0, none, 0, 0, rfl, ⟨rfl, by omega, by intro x hx; simp [zeroIP] at hx, .inl rfl⟩, fun _ => rfl, ⟨rfl, by omega, by intro x hx; simp [zeroIP] at hx, .inl rfl⟩, fun _ => rfl, by omega⟩⟩, e1⟩)

set_option maxHeartbeats 1000000 in
theorem refParse_good (a : Option Addr) (len cap : Nat) (xs : List Int) (w : World) (h : Bytes w a len xs) (hcap : len ≤ cap) (hn : len ≤ 1000000) (hv : lookV xs = 0) :
    Calls Try.prog 31 #[.slice a len cap] w (ParseAns w xs) := by
  have hx0 : Ext w (w.alloc (.cells #[.int .i64 0, .int .i64 0, .bool false, .bool false, .int .i64 0, .int .i64 0, .int .i64 0, .int .u32 0, .int .u32 0, .slice none 0 0, .slice none 0 0] 25)) := (Ext.refl w).alloc _
  have h0 := h.below hx0
  have HH : Hid ((w.alloc (.cells #[.int .i64 0, .int .i64 0, .bool false, .bool false, .int .i64 0, .int .i64 0, .int .i64 0, .int .u32 0, .int .u32 0, .slice none 0 0, .slice none 0 0] 25)).heap[w.heap.size]? = some (.cells #[.int .i64 0, .int .i64 0, .bool false, .bool false, .int .i64 0, .int .i64 0, .int .i64 0, .int .u32 0, .int .u32 0, .slice none 0 0, .slice none 0 0] 25 (0, 0))) := heap_new' w _
  have c1 := fun w h => refLook_any a len cap xs w h hcap hn
  have c2 := fun w h => refRead_any a len cap xs w h hcap hn ((looks_iff xs).1 hv)
  have hpk : packV xs = parseV xs := by unfold packV; rw [if_pos hv]
  have HP : Hid (∀ e w', ParseAns w xs e w' ↔ ∃ v, e = .returned (.tuple #[v, .int .i64 (lookV xs)]) ∧ IsIP w' v (packV xs) ∧ Ext w w') := fun e w' => Iff.rfl
  generalize ParseAns w xs = Ans at *
  rw [hpk, hv] at HP
  rw [hv] at c1
  have HR : Hid (∀ w e w', ReadAns w xs e w' → ∃ v, e = .returned v ∧ IsIP w' v (parseV xs) ∧ Ext w w') := fun w e w' h => h
  generalize parseV xs = p at *
  obtain ⟨t0, t1, t2, t3, t4, t5, t6, t7, t8, t9, ta⟩ := p
  clear hv hpk h
  go_enter Try.func31, Try.ntmps31
  go_wp2_with (first
    | (go_at_call 53; refine (c1 _ h0).mono ?_; rintro e w1 ⟨rfl, hw1⟩; have hx1 : Ext (w.alloc (.cells #[.int .i64 0, .int .i64 0, .bool false, .bool false, .int .i64 0, .int .i64 0, .int .i64 0, .int .u32 0, .int .u32 0, .slice none 0 0, .slice none 0 0] 25)) w1 := (by rw [hw1]; exact Ext.refl _); clear hw1)
    | (go_at_call 54; refine (c2 _ (h0.below hx1)).mono ?_; intro e w2 hRd; obtain ⟨v, rfl, ⟨⟨a1, n1, c1', a2, n2, c2', rfl, hb1, z1, hb2, z2⟩⟩, hx2⟩ := HR.out _ _ _ hRd; clear hRd; have k1 := Ext.heap (hx1.trans hx2) HH.out; have K1 : Hid _ := k1; obtain ⟨d0, d1, d2, d3, d4, d5, d6, d7, d8, d9, da⟩ := box_ip (x := w.heap.size + 1) k1 (by omega) w2 (ExtX.refl _ _); have f0 := frozen_ip k1; clear k1))
  have e0 := set_ip K1.out (.int .i64 t0) (.int .i64 t1) (.bool t2) (.bool t3) (.int .i64 t4) (.int .i64 t5) (.int .i64 t6) (.int .u32 t7) (.int .u32 t8) (.slice a1 n1 c1') (.slice a2 n2 c2')
  have e1 := ext_set_ip (hx0.trans (hx1.trans hx2)) (Nat.le_refl _) (.int .i64 t0) (.int .i64 t1) (.bool t2) (.bool t3) (.int .i64 t4) (.int .i64 t5) (.int .i64 t6) (.int .u32 t7) (.int .u32 t8) (.slice a1 n1 c1') (.slice a2 n2 c2')
  obtain ⟨q0, q1, q2, q3, q4, q5, q6, q7, q8, q9, qa⟩ := box_ip (x := w.heap.size + 1) e0 (by omega) _ (ExtX.refl _ _)
  have no8 : ∀ k v, w2.cell? ⟨w.heap.size, k, none⟩ ≠ some (.int .u8 v) := no_byte K1.out
  have hb1' := hb1.laterX (extX_set_ip w2 w.heap.size (.int .i64 t0) (.int .i64 t1) (.bool t2) (.bool t3) (.int .i64 t4) (.int .i64 t5) (.int .i64 t6) (.int .u32 t7) (.int .u32 t8) (.slice a1 n1 c1') (.slice a2 n2 c2')) no8
  have hb2' := hb2.laterX (extX_set_ip w2 w.heap.size (.int .i64 t0) (.int .i64 t1) (.bool t2) (.bool t3) (.int .i64 t4) (.int .i64 t5) (.int .i64 t6) (.int .u32 t7) (.int .u32 t8) (.slice a1 n1 c1') (.slice a2 n2 c2')) no8
  exact bodyPost_ret (v := .tuple #[.agg #[.int .i64 t0, .int .i64 t1, .bool t2, .bool t3, .int .i64 t4, .int .i64 t5, .int .i64 t6, .int .u32 t7, .int .u32 t8, .slice a1 n1 c1', .slice a2 n2 c2'], .int .i64 0])
    (by simp [results, Try.results31, go_sem, q0, q1, q2, q3, q4, q5, q6, q7, q8, q9, qa]) rfl
    ((HP.out _ _).2 ⟨_, rfl, ⟨⟨a1, n1, c1', a2, n2, c2', rfl, hb1', z1, hb2', z2⟩⟩, e1⟩)

theorem refParse_any (a : Option Addr) (len cap : Nat) (xs : List Int) (w : World) (h : Bytes w a len xs) (hcap : len ≤ cap) (hn : len ≤ 1000000) :
    Calls Try.prog 31 #[.slice a len cap] w (ParseAns w xs) := by
  by_cases hv : lookV xs = 0
  · exact refParse_good a len cap xs w h hcap hn hv
  · exact refParse_bad a len cap xs w h hcap hn hv

end Go.Proofs.Ytkagkfbdpiblkaa
