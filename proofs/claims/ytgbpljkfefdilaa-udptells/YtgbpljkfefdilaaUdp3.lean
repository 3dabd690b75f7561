/- What udp.isPort, udp.sent and udp.Build answer (chapter 6). -/
import Derived.Test.YtgbpljkfefdilaaUdpP
import Derived.Test.YtgbpljkfefdilaaBoxDat
import Derived.Test.YtgbpljkfefdilaaOf3
namespace Go.Proofs.Ytgbpljkfefdilaa.Udp
open Go.RowKit
set_option linter.unusedVariables false

theorem port_any (n : Int) (w : World) : Calls Try.prog 19 #[.int .i64 n] w fun e w' => e = .returned (.bool (decide (0 ≤ n ∧ n ≤ 65535))) ∧ w' = w := by
  by_cases h : 0 ≤ n
  · rw [show decide (0 ≤ n ∧ n ≤ 65535) = decide (n ≤ 65535) by simp [h]]
    go_enter Try.func19, Try.ntmps19
    go_wp2
    go_ret
    exact ⟨rfl, rfl⟩
  · rw [show decide (0 ≤ n ∧ n ≤ 65535) = false by simp [h]]
    go_enter Try.func19, Try.ntmps19
    go_wp2
    go_ret
    exact ⟨rfl, rfl⟩

theorem port_is (n : Int) (w : World) (h : 0 ≤ n ∧ n ≤ 65535) : Calls Try.prog 19 #[.int .i64 n] w fun e w' => e = .returned (.bool true) ∧ w' = w := by
  have := port_any n w
  rwa [show decide (0 ≤ n ∧ n ≤ 65535) = true by simp [h]] at this

theorem port_not (n : Int) (w : World) (h : ¬ (0 ≤ n ∧ n ≤ 65535)) : Calls Try.prog 19 #[.int .i64 n] w fun e w' => e = .returned (.bool false) ∧ w' = w := by
  have := port_any n w
  rwa [show decide (0 ≤ n ∧ n ≤ 65535) = false by rw [decide_eq_false_iff_not]; exact h] at this

theorem sent_any (n : Int) (w : World) : Calls Try.prog 23 #[.int .i64 n] w fun e w' => e = .returned (.int .i64 (sentV n)) ∧ w' = w := by
  unfold sentV
  by_cases h : n = 0
  · rw [if_pos h]
    go_enter Try.func23, Try.ntmps23
    go_wp2
    go_ret
    exact ⟨rfl, rfl⟩
  · rw [if_neg h]
    go_enter Try.func23, Try.ntmps23
    go_wp2
    go_ret
    exact ⟨rfl, rfl⟩

/-- What Build answers. -/
def BuildAns (w : World) (s d : Int) (p : DATv) (n : Nat) (e : Ending) (w' : World) : Prop := ∃ q c, e = .returned (.tuple #[.slice q n c, .int .i64 0]) ∧
  w'.ownsRow w.heap.size 5 1 (.slice q n c) n ((buildV s d p).map (Value.int .u8)) ∧ Ext w w'

set_option maxHeartbeats 1000000 in
theorem build_bad (s d : Int) (p : DATv) (a1 : Option Addr) (n1 c1 : Nat) (w : World) (h1 : p.data.length = n1) (hv : isV p = false) :
    Calls Try.prog 9 #[.int .u32 s, .int .u32 d, .agg #[.int .i64 p.src, .int .i64 p.dst, .slice a1 n1 c1]] w fun e w' => e = .returned (.tuple #[.slice none 0 0, .int .i64 1]) ∧ Ext w w' := by
  unfold isV at hv
  rw [decide_eq_false_iff_not, h1] at hv
  obtain ⟨p0, p1, p2⟩ := p
  dsimp only at *
  clear h1
  have hx : Ext w (w.alloc (.cells #[.int .i64 p0, .int .i64 p1, .slice a1 n1 c1] 25)) := (Ext.refl w).alloc _
  have tok1 : Hid True := trivial
  by_cases hA : 0 ≤ p0 ∧ p0 ≤ 65535
  · have cA := fun w => port_is p0 w hA
    by_cases hB : 0 ≤ p1 ∧ p1 ≤ 65535
    · have cB := fun w => port_is p1 w hB
      have hC : 65000 < n1 := by omega
      have hC' : (65000 : Int) < (n1 : Int) := by omega
      clear hv hA hB
      go_enter Try.func9, Try.ntmps9
      go_wp2_with (first
        | (go_at_call 19; clear tok1; refine (cA _).mono ?_; rintro e w1 ⟨rfl, rfl⟩)
        | (go_at_call 19; refine (cB _).mono ?_; rintro e w2 ⟨rfl, rfl⟩))
      go_ret2
      exact ⟨rfl, hx⟩
    · have cB := fun w => port_not p1 w hB
      clear hv hA hB
      go_enter Try.func9, Try.ntmps9
      go_wp2_with (first
        | (go_at_call 19; clear tok1; refine (cA _).mono ?_; rintro e w1 ⟨rfl, rfl⟩)
        | (go_at_call 19; refine (cB _).mono ?_; rintro e w2 ⟨rfl, rfl⟩))
      go_ret2
      exact ⟨rfl, hx⟩
  · have cA := fun w => port_not p0 w hA
    clear hv hA
    go_enter Try.func9, Try.ntmps9
    go_wp2_with (go_at_call 19; refine (cA _).mono ?_; rintro e w1 ⟨rfl, rfl⟩)
    go_ret2
    exact ⟨rfl, hx⟩

set_option maxHeartbeats 2000000 in
theorem build_good (s d : Int) (p : DATv) (a1 : Option Addr) (n1 c1 : Nat) (w : World) (h1 : Bytes w a1 n1 p.data) (z1 : a1 = none → c1 = 0)
    (hp : Fits p) (s0 : 0 ≤ s) (s1 : s ≤ 4294967295) (d0 : 0 ≤ d) (d1 : d ≤ 4294967295) (N : Nat) (hN : 8 + n1 = N) : Calls Try.prog 9 #[.int .u32 s, .int .u32 d, .agg #[.int .i64 p.src, .int .i64 p.dst, .slice a1 n1 c1]] w (BuildAns w s d p N) := by
  have l1 := h1.length
  have hall := hp.all
  rw [l1] at hall
  have HP : Hid (∀ e w', BuildAns w s d p N e w' ↔ ∃ q c, e = .returned (.tuple #[.slice q N c, .int .i64 0]) ∧
    w'.ownsRow w.heap.size 5 1 (.slice q N c) N ((buildV s d p).map (Value.int .u8)) ∧ Ext w w') := fun e w' => Iff.rfl
  generalize BuildAns w s d p N = Ans at *
  have HA : Hid (aheadV p = [p.src / 256 % 256, p.src % 256, p.dst / 256 % 256, p.dst % 256, (8 + (n1 : Int)) / 256 % 256, (8 + (n1 : Int)) % 256]) := by show _ = _; unfold aheadV; rw [l1]
  have HC : Hid (buildV s d p = aheadV p ++ ([checkV s d p / 256 % 256, checkV s d p % 256] ++ p.data)) := (rfl : _ = _)
  have HE : pseuV s d p = pseudoV s d 17 (8 + (n1 : Int)) := by unfold pseuV; rw [l1]
  have HK : ofV (pseuV s d p ++ (aheadV p ++ p.data)) = sumV s d p := rfl
  have cs : ∀ w, _ := fun w => sent_any (sumV s d p) w
  rw [show sentV (sumV s d p) = checkV s d p from rfl] at cs
  have hsu := sum_bd (p := p) h1.ok s0 s1 d0 d1
  have hck := check_bd (p := p) h1.ok s0 s1 d0 d1
  have oA := ahead_ok p
  have lA := ahead_len p
  have lY := build_len s d p
  rw [l1, hN] at lY
  rw [HE] at HK
  have HKK : Hid _ := HK
  obtain ⟨t0, t1, u0, u1, _⟩ := hp
  clear HE HK
  have oP : BytesOk (pseudoV s d 17 (8 + (n1 : Int))) := pseudoV_ok _ _ s0 s1 d0 d1
  have lP : (pseudoV s d 17 (8 + (n1 : Int))).length = 12 := rfl
  have cp : ∀ w, _ := fun w => pseudo_any s d 17 (8 + (n1 : Int)) w s0 s1 d0 d1 (by omega) (by omega) (by omega) (by omega)
  generalize pseudoV s d 17 (8 + (n1 : Int)) = E at *
  generalize aheadV p = A at *
  generalize checkV s d p = ck at *
  generalize sumV s d p = su at *
  generalize buildV s d p = Y at *
  obtain ⟨p0, p1, p2⟩ := p
  dsimp only at *
  have lX : (E ++ (A ++ p2)).length = 12 + (6 + n1) := by rw [List.length_append, List.length_append, lP, lA, l1]
  have oX := bytesOk_append oP (bytesOk_append oA h1.ok)
  have hx0 : Ext w (w.alloc (.cells #[.int .i64 p0, .int .i64 p1, .slice a1 n1 c1] 25)) := (Ext.refl w).alloc _
  obtain ⟨b0, b1, b2⟩ := box_datE (heap_new' w (.cells #[.int .i64 p0, .int .i64 p1, .slice a1 n1 c1] 25))
  have cA := fun w => port_is p0 w ⟨t0, t1⟩
  have cB := fun w => port_is p1 w ⟨u0, u1⟩
  have tok1 : Hid True := trivial
  have hall' : (n1 : Int) ≤ 65000 := by omega
  go_enter Try.func9, Try.ntmps9
  go_wp2_with (first
    | (go_at_call 19; clear tok1; refine (cA _).mono ?_; rintro e w1 ⟨rfl, rfl⟩)
    | (go_at_call 19; refine (cB _).mono ?_; rintro e w2 ⟨rfl, rfl⟩))
  have hX : Ext (w.alloc (.cells #[.int .i64 p0, .int .i64 p1, .slice a1 n1 c1] 25)) (w.alloc (.cells #[.int .i64 p0, .int .i64 p1, .slice a1 n1 c1] 25)).drew := (Ext.refl _).drew
  have hsz : w.heap.size + 1 ≤ (w.alloc (.cells #[.int .i64 p0, .int .i64 p1, .slice a1 n1 c1] 25)).heap.size := by simp
  refine wp_region_make (w.heap.size + 1) hsz [(0, 0), (1, 0), (3, 0), (4, 0), (6, 0), (2, 1), (5, 1), (7, 1), (8, 3), (8, 2), (9, 1), (10, 0)] (by kernel_rfl) (by kernel_rfl) rfl (by kernel_rfl) (fun _ _ _ _ _ => Iff.rfl) ?_
  have hszW : w.heap.size + 1 ≤ (w.alloc (.cells #[.int .i64 p0, .int .i64 p1, .slice a1 n1 c1] 25)).drew.heap.size := hsz
  clear hsz cA cB
  generalize (w.alloc (.cells #[.int .i64 p0, .int .i64 p1, .slice a1 n1 c1] 25)).drew = W at *
  generalize (w.alloc (.cells #[.int .i64 p0, .int .i64 p1, .slice a1 n1 c1] 25)) = W0 at *
  have x0 := fun w' h => b0 w' (hX.trans h)
  have x1 := fun w' h => b1 w' (hX.trans h)
  repeat (first
    | (refine wpW_read (v := ?_) rfl (by rfl) ?_ ?_; rotate_left; (focus (intro w' hx; go_simp; first | done | with_reducible rfl)); simp only [Act.put, List.setIfInBounds_toArray, List.set_cons_zero, List.set_cons_succ]))
  clear x0 x1
  refine wpW_call rfl (by rfl) (fun W1 hx1 K hK => ?_); go_simp; (go_at_call 20; refine (put16_new _ _ (by omega) (by omega)).mono ?_; rintro e W1' ⟨q1, rfl, hq1, hx1'⟩; refine hK _ _ hx1' ?_; clear hK K)
  refine wpW_call rfl (by rfl) (fun W2 hx2 K hK => ?_); go_simp; (go_at_call 20; refine (put16_new _ _ (by omega) (by omega)).mono ?_; rintro e W2' ⟨q2, rfl, hq2, hx2'⟩; refine hK _ _ hx2' ?_; clear hK K)
  refine wpW_call rfl (by rfl) (fun W3 hx3 K hK => ?_); go_simp; (go_at_call 20; refine (put16_new _ _ (by omega) (by omega)).mono ?_; rintro e W3' ⟨q3, rfl, hq3, hx3'⟩; refine hK _ _ hx3' ?_; clear hK K)
  (refine wpW_say _ (fun g => .slice (some ⟨g, 0, none⟩) 3 3) rfl (by rfl) (fun w' => by go_simp; first | done | with_reducible rfl) ?_)
  refine wpW_make _ (fun g => .slice (some ⟨g, 0, none⟩) 3 3) rfl (by rfl) (fun w' => by go_simp; first | done | with_reducible rfl) ?_; simp only [Act.put, List.setIfInBounds_toArray, List.set_cons_zero, List.set_cons_succ]; intro W7 g7 hx7 hB7 hg7
  refine wpW_call rfl (by rfl) (fun W8 hx8 K hK => ?_); go_simp; (go_at_call 17)
  have y7 := hx7.trans hx8
  have y2 := hx3.trans (hx3'.trans y7)
  have y1 := hx2.trans (hx2'.trans y2)
  have k1 := hq1.below y1
  have k2 := hq2.below y2
  have k3 := hq3.below y7
  refine (joinL_own g7 3 [.slice q1 2 2, .slice q2 2 2, .slice q3 2 2] [[p0 / 256 % 256, p0 % 256], [p1 / 256 % 256, p1 % 256], [(8 + (n1 : Int)) / 256 % 256, (8 + (n1 : Int)) % 256]] W8 (hx8.heap hg7) rfl (by omega)
    (fun i hi => by
      match i, hi with
      | 0, _ => exact ⟨_, _, _, rfl, k1, k1.has (by omega) _⟩
      | 1, _ => exact ⟨_, _, _, rfl, k2, k2.has (by omega) _⟩
      | 2, _ => exact ⟨_, _, _, rfl, k3, k3.has (by omega) _⟩) A 6 (by rw [HA.out]; rfl) lA (by omega)).mono ?_
  rintro e W9 ⟨qA, dA, rfl, hoA, hx9⟩
  refine hK _ _ hx9 ?_
  clear hK K
  have hW9 := (hx1.trans (hx1'.trans y1)).trans hx9
  have hX9 : Ext W0 W9 := hX.trans hW9
  have hs9 : w.heap.size + 1 ≤ W9.heap.size := by have := hW9.size; omega
  clear k1 k2 k3 y1 y2 y7 hg7 hq1 hq2 hq3 hx1 hx1' hx2 hx2' hx3 hx3' hx7 hx8 hx9 hB7 hX hW9
  (refine wpW_read (v := ?_) rfl (by rfl) ?_ ?_; rotate_left; (focus (intro w' hx; go_simp; first | done | with_reducible rfl)); simp only [Act.put, List.setIfInBounds_toArray, List.set_cons_zero, List.set_cons_succ])
  refine wpW_done ?_
  go_wp2
  refine wp_region_make (w.heap.size + 1) hs9 [(0, 0), (1, 0), (2, 0), (4, 0), (5, 0), (6, 0), (3, 1), (7, 3), (7, 2), (8, 1), (9, 0)] (by kernel_rfl) (by kernel_rfl) rfl (by kernel_rfl) (fun _ _ _ _ _ => Iff.rfl) ?_
  have hX : Ext W0 W9.drew := hX9.drew
  obtain ⟨bA9, zA, _⟩ := owns_slice (owns_later hoA (Ext.refl W9).drew) oA
  have x2 := fun w' h => b2 w' (hX.trans h)
  clear hX9 hoA
  have hsV : w.heap.size + 1 ≤ W9.drew.heap.size := hs9
  generalize W9.drew = V at *
  repeat (first
    | (refine wpW_read (v := ?_) rfl (by rfl) ?_ ?_; rotate_left; (focus (intro w' hx; go_simp; first | done | with_reducible rfl)); simp only [Act.put, List.setIfInBounds_toArray, List.set_cons_zero, List.set_cons_succ]))
  clear x2
  refine wpW_call rfl (by rfl) (fun V1 hx1 K hK => ?_); go_simp; (go_at_call 22; refine (cp _).mono ?_; rintro e V1' ⟨qP, cP, rfl, bP, hx1'⟩; refine hK _ _ hx1' ?_; clear hK K)
  (refine wpW_say _ (fun g => .slice (some ⟨g, 0, none⟩) 3 3) rfl (by rfl) (fun w' => by go_simp; first | done | with_reducible rfl) ?_)
  refine wpW_make _ (fun g => .slice (some ⟨g, 0, none⟩) 3 3) rfl (by rfl) (fun w' => by go_simp; first | done | with_reducible rfl) ?_; simp only [Act.put, List.setIfInBounds_toArray, List.set_cons_zero, List.set_cons_succ]; intro V3 g3 hx3 hB3 hg3
  refine wpW_call rfl (by rfl) (fun V4 hx4 K hK => ?_); go_simp; (go_at_call 21)
  have y3 := hx3.trans hx4
  have hV4 : Ext V V4 := hx1.trans (hx1'.trans y3)
  have k1 := bP.below y3
  have k2 := bA9.below hV4
  have k3 := h1.below (hx0.trans (hX.trans hV4))
  have co := ofL_any g3 3 [.slice qP 12 cP, .slice qA 6 dA, .slice a1 n1 c1] [E, A, p2] V4 (hx4.heap hg3) rfl (by omega)
    (fun i hi => by
      match i, hi with
      | 0, _ => exact ⟨_, _, _, rfl, k1, k1.has (by omega) _⟩
      | 1, _ => exact ⟨_, _, _, rfl, k2, zA⟩
      | 2, _ => exact ⟨_, _, _, rfl, k3, z1⟩) (E ++ (A ++ p2)) (12 + (6 + n1)) (by simp) lX (by omega) oX
  rw [HKK.out] at co
  refine co.mono ?_
  rintro e V5 ⟨rfl, rfl⟩
  refine hK _ _ (Ext.refl _) ?_
  clear hK K co
  have hX5 : Ext W0 V5 := hX.trans hV4
  have hs5 : w.heap.size + 1 ≤ V5.heap.size := by have := hV4.size; omega
  clear k1 hg3 bP hx1 hx1' hx3 hx4 hB3 hX y3 bA9 hV4
  (refine wpW_read (v := ?_) rfl (by rfl) ?_ ?_; rotate_left; (focus (intro w' hx; go_simp; first | done | with_reducible rfl)); simp only [Act.put, List.setIfInBounds_toArray, List.set_cons_zero, List.set_cons_succ])
  refine wpW_done ?_
  go_wp2
  refine wp_region_make (w.heap.size + 1) hs5 [(0, 0), (1, 0), (4, 0), (5, 0), (2, 1), (3, 1), (6, 3), (6, 2), (7, 1), (8, 0), (9, 0)] (by kernel_rfl) (by kernel_rfl) rfl (by kernel_rfl) (fun _ _ _ _ _ => Iff.rfl) ?_
  have hX : Ext W0 V5.drew := hX5.drew
  have bA5 := k2.below (Ext.refl V5).drew
  have bD5 := k3.below (Ext.refl V5).drew
  have x2 := fun w' h => b2 w' (hX.trans h)
  clear hX5 k2 k3
  generalize V5.drew = U at *
  repeat (first
    | (refine wpW_read (v := ?_) rfl (by rfl) ?_ ?_; rotate_left; (focus (intro w' hx; go_simp; first | done | with_reducible rfl)); simp only [Act.put, List.setIfInBounds_toArray, List.set_cons_zero, List.set_cons_succ]))
  clear x2
  refine wpW_call rfl (by rfl) (fun U1 hx1 K hK => ?_); go_simp; (go_at_call 23; refine (cs _).mono ?_; rintro e U1' ⟨rfl, rfl⟩; refine hK _ _ (Ext.refl _) ?_; clear hK K)
  refine wpW_call rfl (by rfl) (fun U2 hx2 K hK => ?_); go_simp; (go_at_call 20; refine (put16_new _ _ (by omega) (by omega)).mono ?_; rintro e U2' ⟨qc, rfl, hqc, hx2'⟩; refine hK _ _ hx2' ?_; clear hK K)
  (refine wpW_say _ (fun g => .slice (some ⟨g, 0, none⟩) 3 3) rfl (by rfl) (fun w' => by go_simp; first | done | with_reducible rfl) ?_)
  refine wpW_make _ (fun g => .slice (some ⟨g, 0, none⟩) 3 3) rfl (by rfl) (fun w' => by go_simp; first | done | with_reducible rfl) ?_; simp only [Act.put, List.setIfInBounds_toArray, List.set_cons_zero, List.set_cons_succ]; intro U3 g3 hx3 hB3 hg3
  refine wpW_call rfl (by rfl) (fun U4 hx4 K hK => ?_); go_simp; (go_at_call 17)
  have y3 := hx3.trans hx4
  have hU4 : Ext U U4 := hx1.trans (hx2.trans (hx2'.trans y3))
  have k1 := bA5.below hU4
  have k2 := hqc.below y3
  have k3 := bD5.below hU4
  refine (joinL_own g3 3 [.slice qA 6 dA, .slice qc 2 2, .slice a1 n1 c1] [A, [ck / 256 % 256, ck % 256], p2] U4 (hx4.heap hg3) rfl (by omega)
    (fun i hi => by
      match i, hi with
      | 0, _ => exact ⟨_, _, _, rfl, k1, zA⟩
      | 1, _ => exact ⟨_, _, _, rfl, k2, k2.has (by omega) _⟩
      | 2, _ => exact ⟨_, _, _, rfl, k3, z1⟩) Y N (by rw [HC.out]; simp) lY (by omega)).mono ?_
  rintro e U5 ⟨qY, dY, rfl, hoY, hx5⟩
  refine hK _ _ hx5 ?_
  clear hK K
  have hXz : Ext w U4 := hx0.trans (hX.trans hU4)
  clear k1 k2 k3 hg3 hqc
  repeat (first
    | (refine wpW_read (v := ?_) rfl (by rfl) ?_ ?_; rotate_left; (focus (intro w' hx; go_simp; first | done | with_reducible rfl)); simp only [Act.put, List.setIfInBounds_toArray, List.set_cons_zero, List.set_cons_succ]))
  refine wpW_done ?_
  go_wp2
  exact (HP.out _ _).2 ⟨qY, dY, rfl, owns_base hoY hXz.size, hXz.trans hx5⟩

end Go.Proofs.Ytgbpljkfefdilaa.Udp
