/- What tcp.Build answers of any segment (chapter 5). -/
import Derived.Test.YtlinkbniihlagaaTcp2
namespace Go.Proofs.Ytlinkbniihlagaa
open Go.RowKit
set_option linter.unusedVariables false

/-- Of three. -/
theorem of3_any (p0 : Option Addr) (n0 c0 : Nat) (p1 : Option Addr) (n1 c1 : Nat) (p2 : Option Addr) (n2 c2 : Nat) (x0 x1 x2 : List Int) (w : World) (b0 : Bytes w p0 n0 x0) (b1 : Bytes w p1 n1 x1) (b2 : Bytes w p2 n2 x2) (z0 : p0 = none → c0 = 0) (z1 : p1 = none → c1 = 0) (z2 : p2 = none → c2 = 0) (hs : n0 + (n1 + n2) ≤ 1000000) :
    Calls Try.prog 30 #[.slice (some ⟨w.heap.size, 0, none⟩) 3 3] (w.alloc (.cells #[.slice p0 n0 c0, .slice p1 n1 c1, .slice p2 n2 c2] 22)) fun e w' => e = .returned (.int .i64 (ofV (x0 ++ (x1 ++ x2)))) ∧ Ext w w' := by
  have hL : BytesL (w.alloc (.cells #[.slice p0 n0 c0, .slice p1 n1 c1, .slice p2 n2 c2] 22)) (some ⟨w.heap.size, 0, none⟩) 3 [x0, x1, x2] :=
    BytesL.new w _ [.slice p0 n0 c0, .slice p1 n1 c1, .slice p2 n2 c2] [x0, x1, x2] (by simp) fun i hi => by
      match i, hi with
      | 0, _ => exact ⟨_, _, _, rfl, b0, z0⟩
      | 1, _ => exact ⟨_, _, _, rfl, b1, z1⟩
      | 2, _ => exact ⟨_, _, _, rfl, b2, z2⟩
  refine (of_n _ 3 3 [x0, x1, x2] _ (x0 ++ (x1 ++ x2)) (n0 + (n1 + n2)) (by simp) (by simp only [List.length_append, b0.length, b1.length, b2.length]) hL hs (bytesOk_append b0.ok (bytesOk_append b1.ok b2.ok))).mono ?_
  rintro e w' ⟨he, hw⟩
  exact ⟨he, by rw [hw]; exact (Ext.refl _).alloc _⟩

end Go.Proofs.Ytlinkbniihlagaa
namespace Go.Proofs.Ytlinkbniihlagaa.Tcp
open Go.RowKit
set_option linter.unusedVariables false

/-- What Build answers. -/
def BuildAns (w : World) (s d : Int) (p : SEGv) (n : Nat) (e : Ending) (w' : World) : Prop := ∃ q c, e = .returned (.tuple #[.slice q n c, .int .i64 0]) ∧
  w'.ownsRow w.heap.size 5 1 (.slice q n c) n ((buildV s d p).map (Value.int .u8)) ∧ Ext w w'

set_option maxHeartbeats 1000000 in
theorem build_bad (s d : Int) (p : SEGv) (a1 : Option Addr) (n1 c1 : Nat) (a2 : Option Addr) (n2 c2 : Nat) (w : World) (h1 : p.opts.length = n1) (h2 : p.data.length = n2) (hn : n1 ≤ 140737488355328) (hm : n2 ≤ 140737488355328) (hv : isV p = false) :
    Calls Try.prog 14 #[.int .u32 s, .int .u32 d, .agg #[.int .i64 p.src, .int .i64 p.dst, .int .u32 p.seq, .int .u32 p.ack, .int .i64 p.flags, .int .i64 p.win, .int .i64 p.urg, .slice a1 n1 c1, .slice a2 n2 c2]] w fun e w' => e = .returned (.tuple #[.slice none 0 0, .int .i64 1]) ∧ Ext w w' := by
  have c := fun w => fits_any p a1 n1 c1 a2 n2 c2 w h1 h2 hn hm
  rw [hv] at c
  obtain ⟨p0, p1, p2, p3, p4, p5, p6, p7, p8⟩ := p
  dsimp only at *
  have hx : Ext w (w.alloc (.cells #[.int .i64 p0, .int .i64 p1, .int .u32 p2, .int .u32 p3, .int .i64 p4, .int .i64 p5, .int .i64 p6, .slice a1 n1 c1, .slice a2 n2 c2] 25)) := (Ext.refl w).alloc _
  go_enter Try.func14, Try.ntmps14
  go_wp2_with (go_at_call 27; refine (c _).mono ?_; rintro e w1 ⟨rfl, hx1⟩)
  go_ret2
  exact ⟨rfl, hx.trans hx1⟩

set_option maxHeartbeats 2000000 in
theorem build_good (s d : Int) (p : SEGv) (a1 : Option Addr) (n1 c1 : Nat) (a2 : Option Addr) (n2 c2 : Nat) (w : World) (h1 : Bytes w a1 n1 p.opts) (z1 : a1 = none → c1 = 0) (h2 : Bytes w a2 n2 p.data) (z2 : a2 = none → c2 = 0)
    (f : Fine p) (hp : Fits p) (s0 : 0 ≤ s) (s1 : s ≤ 4294967295) (d0 : 0 ≤ d) (d1 : d ≤ 4294967295) (N : Nat) (hN : 20 + n1 + n2 = N) : Calls Try.prog 14 #[.int .u32 s, .int .u32 d, .agg #[.int .i64 p.src, .int .i64 p.dst, .int .u32 p.seq, .int .u32 p.ack, .int .i64 p.flags, .int .i64 p.win, .int .i64 p.urg, .slice a1 n1 c1, .slice a2 n2 c2]] w (BuildAns w s d p N) := by
  have l1 := h1.length
  have l2 := h2.length
  have hall := hp.all
  rw [l1, l2] at hall
  have cf := fun w => fits_any p a1 n1 c1 a2 n2 c2 w l1 l2 (by omega) (by omega)
  rw [(isV_iff p).2 hp] at cf
  have HP : Hid (∀ e w', BuildAns w s d p N e w' ↔ ∃ q c, e = .returned (.tuple #[.slice q N c, .int .i64 0]) ∧
    w'.ownsRow w.heap.size 5 1 (.slice q N c) N ((buildV s d p).map (Value.int .u8)) ∧ Ext w w') := fun e w' => Iff.rfl
  generalize BuildAns w s d p N = Ans at *
  have HA : Hid (aheadV p = [p.src / 256 % 256, p.src % 256, p.dst / 256 % 256, p.dst % 256, p.seq / 16777216, p.seq / 65536 % 256, p.seq / 256 % 256, p.seq % 256, p.ack / 16777216, p.ack / 65536 % 256, p.ack / 256 % 256, p.ack % 256,
    (20 + (n1 : Int)) / 4 * 16, p.flags, p.win / 256 % 256, p.win % 256]) := by show _ = _; unfold aheadV; rw [l1]
  have HB : Hid (behindV p = [p.urg / 256 % 256, p.urg % 256] ++ (p.opts ++ p.data)) := (rfl : _ = _)
  have HE : Hid (pseuV s d p = pseudoV s d 6 (20 + (n1 : Int) + n2)) := by show _ = _; unfold pseuV; rw [l1, l2]
  have HC : Hid (buildV s d p = aheadV p ++ ([checkV s d p / 256 % 256, checkV s d p % 256] ++ behindV p)) := (rfl : _ = _)
  have HK : Hid (ofV (pseuV s d p ++ (aheadV p ++ behindV p)) = checkV s d p) := (rfl : _ = _)
  have hck := check_bd f hp s0 s1 d0 d1
  have oA := ahead_ok f hp
  have oB := behind_ok f
  have lA := ahead_len p
  have lB := behind_len p
  rw [l1, l2] at lB
  have lY := build_len s d p
  rw [l1, l2, hN] at lY
  obtain ⟨t0, t1, u0, u1, v0, v1, r0, r1, f0, f1, n4, n40, _⟩ := hp
  obtain ⟨q0, q1, k0, k1, ho, hd⟩ := f
  rw [l1] at n4 n40
  generalize aheadV p = A at *
  generalize behindV p = B at *
  generalize checkV s d p = ck at *
  generalize buildV s d p = Y at *
  rw [HE.out] at HK
  clear HE
  obtain ⟨p0, p1, p2, p3, p4, p5, p6, p7, p8⟩ := p
  dsimp only at *
  have hx0 : Ext w (w.alloc (.cells #[.int .i64 p0, .int .i64 p1, .int .u32 p2, .int .u32 p3, .int .i64 p4, .int .i64 p5, .int .i64 p6, .slice a1 n1 c1, .slice a2 n2 c2] 25)) := (Ext.refl w).alloc _
  obtain ⟨b0, b1, b2, b3, b4, b5, b6, b7, b8⟩ := box_segE (heap_new' w (.cells #[.int .i64 p0, .int .i64 p1, .int .u32 p2, .int .u32 p3, .int .i64 p4, .int .i64 p5, .int .i64 p6, .slice a1 n1 c1, .slice a2 n2 c2] 25))
  have cp : ∀ w, _ := fun w => pseudo_any s d 6 (20 + (n1 : Int) + n2) w s0 s1 d0 d1 (by omega) (by omega) (by omega) (by omega)
  go_enter Try.func14, Try.ntmps14
  go_wp2_with (go_at_call 27; refine (cf _).mono ?_; rintro e w1 ⟨rfl, hx1⟩)
  have hX : Ext (w.alloc (.cells #[.int .i64 p0, .int .i64 p1, .int .u32 p2, .int .u32 p3, .int .i64 p4, .int .i64 p5, .int .i64 p6, .slice a1 n1 c1, .slice a2 n2 c2] 25)) w1.drew := hx1.drew
  have hsz : w.heap.size + 1 ≤ w1.heap.size := by have := hx1.size; simpa using this
  generalize (w.alloc (.cells #[.int .i64 p0, .int .i64 p1, .int .u32 p2, .int .u32 p3, .int .i64 p4, .int .i64 p5, .int .i64 p6, .slice a1 n1 c1, .slice a2 n2 c2] 25)) = W0 at *
  refine wp_region_make (w.heap.size + 1) hsz [(0, 0), (1, 0), (3, 0), (4, 0), (6, 0), (7, 0), (9, 0), (10, 0), (12, 0), (13, 0), (14, 0), (15, 0), (16, 0), (17, 0), (18, 0), (20, 0), (21, 0), (19, 3), (2, 1), (5, 1), (8, 1), (11, 1), (22, 1), (19, 2), (23, 3), (23, 2), (24, 1), (25, 0)] (by kernel_rfl) (by kernel_rfl) rfl (by kernel_rfl) (fun _ _ _ _ _ => Iff.rfl) ?_
  have hszW : w.heap.size + 1 ≤ w1.drew.heap.size := hsz
  clear hx1 cf hsz
  generalize w1.drew = W at *
  have x0 := fun w' h => b0 w' (hX.trans h)
  have x1 := fun w' h => b1 w' (hX.trans h)
  have x2 := fun w' h => b2 w' (hX.trans h)
  have x3 := fun w' h => b3 w' (hX.trans h)
  have x4 := fun w' h => b4 w' (hX.trans h)
  have x5 := fun w' h => b5 w' (hX.trans h)
  have e1 : IntKind.i64.wrap ((20 + (n1 : Int)).tdiv 4) = (20 + (n1 : Int)) / 4 := by rw [Int.tdiv_eq_ediv_of_nonneg (by omega), IntKind.wrap_i64]; omega
  have e2 : IntKind.i64.wrap ((20 + (n1 : Int)) / 4 * 16) = (20 + (n1 : Int)) / 4 * 16 := by rw [IntKind.wrap_i64]; omega
  have e3 : IntKind.u8.wrap ((20 + (n1 : Int)) / 4 * 16) = (20 + (n1 : Int)) / 4 * 16 := by rw [IntKind.wrap_u8]; omega
  have e4 : IntKind.u8.wrap p4 = p4 := by rw [IntKind.wrap_u8]; omega
  have hhb : 0 ≤ (20 + (n1 : Int)) / 4 * 16 ∧ (20 + (n1 : Int)) / 4 * 16 ≤ 255 := by omega
  repeat (first
    | (refine wpW_read (v := ?_) rfl (by rfl) ?_ ?_; rotate_left; (focus (intro w' hx; go_simp; first | done | with_reducible rfl)); simp only [Act.put, List.setIfInBounds_toArray, List.set_cons_zero, List.set_cons_succ]))
  (refine wpW_say _ (fun g => .slice (some ⟨g, 0, none⟩) 2 2) rfl (by rfl) (fun w' => by go_simp; first | done | with_reducible rfl) ?_)
  clear x0 x1 x2 x3 x4 x5 e1 e2 e3 e4
  generalize (20 + (n1 : Int)) / 4 * 16 = hb at *
  refine wpW_call rfl (by rfl) (fun W1 hx1 K hK => ?_); go_simp; (go_at_call 28; refine (put16_new _ _ (by omega) (by omega)).mono ?_; rintro e W1' ⟨q1, rfl, hq1, hx1'⟩; refine hK _ _ hx1' ?_; clear hK K)
  refine wpW_call rfl (by rfl) (fun W2 hx2 K hK => ?_); go_simp; (go_at_call 28; refine (put16_new _ _ (by omega) (by omega)).mono ?_; rintro e W2' ⟨q2, rfl, hq2, hx2'⟩; refine hK _ _ hx2' ?_; clear hK K)
  refine wpW_call rfl (by rfl) (fun W3 hx3 K hK => ?_); go_simp; (go_at_call 29; refine (put32_new _ _ (by omega) (by omega)).mono ?_; rintro e W3' ⟨q3, rfl, hq3, hx3'⟩; refine hK _ _ hx3' ?_; clear hK K)
  refine wpW_call rfl (by rfl) (fun W4 hx4 K hK => ?_); go_simp; (go_at_call 29; refine (put32_new _ _ (by omega) (by omega)).mono ?_; rintro e W4' ⟨q4, rfl, hq4, hx4'⟩; refine hK _ _ hx4' ?_; clear hK K)
  refine wpW_call rfl (by rfl) (fun W5 hx5 K hK => ?_); go_simp; (go_at_call 28; refine (put16_new _ _ (by omega) (by omega)).mono ?_; rintro e W5' ⟨q5, rfl, hq5, hx5'⟩; refine hK _ _ hx5' ?_; clear hK K)
  refine wpW_make _ (fun g => .slice (some ⟨g, 0, none⟩) 2 2) rfl (by rfl) (fun w' => by go_simp; first | done | with_reducible rfl) ?_; simp only [Act.put, List.setIfInBounds_toArray, List.set_cons_zero, List.set_cons_succ]; intro W6 g6 hx6 hB6 hg6
  (refine wpW_say _ (fun g => .slice (some ⟨g, 0, none⟩) 6 6) rfl (by rfl) (fun w' => by go_simp; first | done | with_reducible rfl) ?_)
  refine wpW_make _ (fun g => .slice (some ⟨g, 0, none⟩) 6 6) rfl (by rfl) (fun w' => by go_simp; first | done | with_reducible rfl) ?_; simp only [Act.put, List.setIfInBounds_toArray, List.set_cons_zero, List.set_cons_succ]; intro W7 g7 hx7 hB7 hg7
  refine wpW_call rfl (by rfl) (fun W8 hx8 K hK => ?_); go_simp; (go_at_call 24)
  have y7 := hx7.trans hx8
  have y6 := hx6.trans y7
  have y4 := hx5.trans (hx5'.trans y6)
  have y3 := hx4.trans (hx4'.trans y4)
  have y2 := hx3.trans (hx3'.trans y3)
  have y1 := hx2.trans (hx2'.trans y2)
  have k1' := hq1.below y1
  have k2 := hq2.below y2
  have k3 := hq3.below y3
  have k4 := hq4.below y4
  have k5 := bytes_of_heap (xs := [hb, p4]) (y7.heap hg6) (by intro x hx; simp at hx; omega) (by simp)
  have k6 := hq5.below y6
  refine (joinL_own g7 6 [.slice q1 2 2, .slice q2 2 2, .slice q3 4 4, .slice q4 4 4, .slice (some ⟨g6, 0, none⟩) 2 2, .slice q5 2 2] [[p0 / 256 % 256, p0 % 256], [p1 / 256 % 256, p1 % 256], [p2 / 16777216, p2 / 65536 % 256, p2 / 256 % 256, p2 % 256], [p3 / 16777216, p3 / 65536 % 256, p3 / 256 % 256, p3 % 256], [hb, p4], [p5 / 256 % 256, p5 % 256]] W8 (hx8.heap hg7) rfl (by omega)
    (fun i hi => by
      match i, hi with
      | 0, _ => exact ⟨_, _, _, rfl, k1', k1'.has (by omega) _⟩
      | 1, _ => exact ⟨_, _, _, rfl, k2, k2.has (by omega) _⟩
      | 2, _ => exact ⟨_, _, _, rfl, k3, k3.has (by omega) _⟩
      | 3, _ => exact ⟨_, _, _, rfl, k4, k4.has (by omega) _⟩
      | 4, _ => exact ⟨_, _, _, rfl, k5, by simp⟩
      | 5, _ => exact ⟨_, _, _, rfl, k6, k6.has (by omega) _⟩) A 16 (by rw [HA.out]; rfl) lA (by omega)).mono ?_
  rintro e W9 ⟨qA, dA, rfl, hoA, hx9⟩
  refine hK _ _ hx9 ?_
  clear hK K
  have hW9 := (hx1.trans (hx1'.trans y1)).trans hx9
  have hX9 : Ext W0 W9 := hX.trans hW9
  have hs9 : w.heap.size + 1 ≤ W9.heap.size := by have := hW9.size; omega
  clear k1' k2 k3 k4 k5 k6 y1 y2 y3 y4 y6 y7 hg6 hg7 hq1 hq2 hq3 hq4 hq5 hx1 hx1' hx2 hx2' hx3 hx3' hx4 hx4' hx5 hx5' hx6 hx7 hB6 hB7 hX hW9
  (refine wpW_read (v := ?_) rfl (by rfl) ?_ ?_; rotate_left; (focus (intro w' hx; go_simp; first | done | with_reducible rfl)); simp only [Act.put, List.setIfInBounds_toArray, List.set_cons_zero, List.set_cons_succ])
  refine wpW_done ?_
  go_wp2
  refine wp_region_make (w.heap.size + 1) hs9 [(0, 0), (1, 0), (3, 0), (4, 0), (5, 0), (6, 0), (2, 1), (7, 3), (7, 2), (8, 1), (9, 0)] (by kernel_rfl) (by kernel_rfl) rfl (by kernel_rfl) (fun _ _ _ _ _ => Iff.rfl) ?_
  have hX : Ext W0 W9.drew := hX9.drew
  have hx9' : Ext W9 W9.drew := (Ext.refl _).drew
  have x6 := fun w' h => b6 w' (hX.trans h)
  have x7 := fun w' h => b7 w' (hX.trans h)
  have x8 := fun w' h => b8 w' (hX.trans h)
  generalize W9.drew = V at *
  repeat (first
    | (refine wpW_read (v := ?_) rfl (by rfl) ?_ ?_; rotate_left; (focus (intro w' hx; go_simp; first | done | with_reducible rfl)); simp only [Act.put, List.setIfInBounds_toArray, List.set_cons_zero, List.set_cons_succ]))
  clear x6 x7 x8
  refine wpW_call rfl (by rfl) (fun V1 hx1 K hK => ?_); go_simp; (go_at_call 28; refine (put16_new _ _ (by omega) (by omega)).mono ?_; rintro e V1' ⟨q1, rfl, hq1, hx1'⟩; refine hK _ _ hx1' ?_; clear hK K)
  (refine wpW_say _ (fun g => .slice (some ⟨g, 0, none⟩) 3 3) rfl (by rfl) (fun w' => by go_simp; first | done | with_reducible rfl) ?_)
  refine wpW_make _ (fun g => .slice (some ⟨g, 0, none⟩) 3 3) rfl (by rfl) (fun w' => by go_simp; first | done | with_reducible rfl) ?_; simp only [Act.put, List.setIfInBounds_toArray, List.set_cons_zero, List.set_cons_succ]; intro V3 g3 hx3 hB3 hg3
  refine wpW_call rfl (by rfl) (fun V4 hx4 K hK => ?_); go_simp; (go_at_call 24)
  have k1 := hq1.below (hx3.trans hx4)
  have hV4 : Ext V V4 := hx1.trans (hx1'.trans (hx3.trans hx4))
  have k2 := h1.below (hx0.trans (hX.trans hV4))
  have k3 := h2.below (hx0.trans (hX.trans hV4))
  refine (joinL_own g3 3 [.slice q1 2 2, .slice a1 n1 c1, .slice a2 n2 c2] [[p6 / 256 % 256, p6 % 256], p7, p8] V4 (hx4.heap hg3) rfl (by omega)
    (fun i hi => by
      match i, hi with
      | 0, _ => exact ⟨_, _, _, rfl, k1, k1.has (by omega) _⟩
      | 1, _ => exact ⟨_, _, _, rfl, k2, z1⟩
      | 2, _ => exact ⟨_, _, _, rfl, k3, z2⟩) B (2 + n1 + n2) (by rw [HB.out]; simp) lB (by omega)).mono ?_
  rintro e V5 ⟨qB, dB, rfl, hoB, hx5⟩
  refine hK _ _ hx5 ?_
  clear hK K
  have hV5 : Ext V V5 := hV4.trans hx5
  have oA5 := owns_later hoA (hx9'.trans hV5)
  have hX5 : Ext W0 V5 := hX.trans hV5
  obtain ⟨bA, zA, _⟩ := owns_slice oA5 oA
  obtain ⟨bB, zB, _⟩ := owns_slice hoB oB
  clear k1 k2 k3 hg3 hq1 hx1 hx1' hx3 hx4 hB3 hX hx9'
  (refine wpW_read (v := ?_) rfl (by rfl) ?_ ?_; rotate_left; (focus (intro w' hx; go_simp; first | done | with_reducible rfl)); simp only [Act.put, List.setIfInBounds_toArray, List.set_cons_zero, List.set_cons_succ])
  refine wpW_done ?_
  go_wp2_with (first
    | (go_at_call 31; refine (cp _).mono ?_; rintro e V6 ⟨qP, cP, rfl, bP, hx6⟩; have bA6 := bA.below hx6; have bB6 := bB.below hx6)
    | (go_at_call 30; have co := of3_any qP 12 cP qA 16 dA qB (2 + n1 + n2) dB _ A B V6 bP bA6 bB6 (bP.has (by omega) _) zA zB (by omega); rw [HK.out] at co; refine co.mono ?_; rintro e V7 ⟨rfl, hx7⟩; clear co)
    | (go_at_call 28; refine (put16_new _ _ (by omega) (by omega)).mono ?_; rintro e V8 ⟨qc, rfl, hqc, hx8⟩; have hX8 := hX5.trans (hx6.trans (hx7.trans hx8)); have bA8 := bA6.below (hx7.trans hx8); have bB8 := bB6.below (hx7.trans hx8); clear bA bB bA6 bB6)
    | (go_at_call 24; have hxa : Ext V8 (V8.alloc (.cells [.slice qA 16 dA, .slice qc 2 2, .slice qB (2 + n1 + n2) dB].toArray 22)) := (Ext.refl _).alloc _; refine (joinL_own V8.heap.size 3 [.slice qA 16 dA, .slice qc 2 2, .slice qB (2 + n1 + n2) dB] [A, [ck / 256 % 256, ck % 256], B] _ (heap_new' V8 _) rfl (by omega) (fun i hi => by
      match i, hi with
      | 0, _ => exact ⟨_, _, _, rfl, bA8.below hxa, zA⟩
      | 1, _ => exact ⟨_, _, _, rfl, hqc.below hxa, hqc.has (by omega) _⟩
      | 2, _ => exact ⟨_, _, _, rfl, bB8.below hxa, zB⟩) Y N (by rw [HC.out]; simp) lY (by omega)).mono ?_; rintro e V9 ⟨qY, dY, rfl, hoY, hx9⟩))
  exact (HP.out _ _).2 ⟨qY, dY, rfl, owns_base hoY (by have := (hx0.trans hX8).size; have := hxa.size; omega), hx0.trans (hX8.trans (hxa.trans hx9))⟩

end Go.Proofs.Ytlinkbniihlagaa.Tcp
