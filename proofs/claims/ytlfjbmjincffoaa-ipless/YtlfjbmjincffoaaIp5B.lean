/- What ip.Build answers of a packet that may be built (chapter 4). -/
import Derived.Test.YtlfjbmjincffoaaIp5
namespace Go.Proofs.Ytlfjbmjincffoaa
open Go.RowKit
set_option linter.unusedVariables false

set_option maxHeartbeats 2000000 in
theorem build_good (p : IPv) (a1 : Option Addr) (n1 c1 : Nat) (a2 : Option Addr) (n2 c2 : Nat) (w : World) (h1 : Bytes w a1 n1 p.opts) (z1 : a1 = none → c1 = 0) (h2 : Bytes w a2 n2 p.data) (z2 : a2 = none → c2 = 0)
    (f : Fine p) (hp : Fits p) (hn2 : n2 ≤ 1500) : Calls Try.prog 18 #[.agg #[.int .i64 p.tos, .int .i64 p.id, .bool p.df, .bool p.mf, .int .i64 p.off, .int .i64 p.ttl, .int .i64 p.proto, .int .u32 p.src, .int .u32 p.dst, .slice a1 n1 c1, .slice a2 n2 c2]] w (BuildAns w p) := by
  have l1 := h1.length
  have l2 := h2.length
  have cf := fun w => fits_any p a1 n1 c1 a2 n2 c2 w l1 (by have := hp.n40; omega)
  rw [(isV_iff p).2 hp] at cf
  have cl := fun w => flags_any p a1 n1 c1 a2 n2 c2 w
  have HP : Hid (∀ e w', BuildAns w p e w' ↔ ∃ q c, e = .returned (.tuple #[.slice q (20 + p.opts.length + p.data.length) c, .int .i64 0]) ∧
    w'.ownsRow w.heap.size 5 1 (.slice q (20 + p.opts.length + p.data.length) c) (20 + p.opts.length + p.data.length) ((buildV p).map (Value.int .u8)) ∧ Ext w w') := fun e w' => Iff.rfl
  generalize BuildAns w p = Ans at *
  have HA : Hid (aheadV p = [64 + (20 + (n1 : Int)) / 4, p.tos, (20 + (n1 : Int) + n2) / 256 % 256, (20 + (n1 : Int) + n2) % 256, p.id / 256 % 256, p.id % 256,
    (flagV p.df p.mf + p.off) / 256 % 256, (flagV p.df p.mf + p.off) % 256, p.ttl, p.proto]) := by show _ = _; unfold aheadV; rw [l1, l2]
  have HB : Hid (behindV p = [p.src / 16777216, p.src / 65536 % 256, p.src / 256 % 256, p.src % 256] ++ ([p.dst / 16777216, p.dst / 65536 % 256, p.dst / 256 % 256, p.dst % 256] ++ p.opts)) := (rfl : _ = _)
  have HC : Hid (buildV p = aheadV p ++ ([ofV (aheadV p ++ behindV p) / 256 % 256, ofV (aheadV p ++ behindV p) % 256] ++ (behindV p ++ p.data))) := (rfl : _ = _)
  have hck : 0 ≤ ofV (aheadV p ++ behindV p) ∧ ofV (aheadV p ++ behindV p) ≤ 65535 := check_bd f hp
  have oA := ahead_ok f hp
  have oB := behind_ok f
  have lA := ahead_len p
  have lB := behind_len p
  rw [l1] at lB
  have lY := build_len p
  rw [l1, l2] at lY
  rw [l1, l2] at HP
  have hfl := flagV_bd p.df p.mf
  have hfo := flag_or p.df p.mf p.off hp.o0 hp.o1
  obtain ⟨t0, t1, u0, u1, r0, r1, i0, i1, o0, o1, n4, n40⟩ := hp
  obtain ⟨s0, s1, d0, d1, ho, hd⟩ := f
  rw [l1] at n4 n40
  have hho := head_or ((20 + (n1 : Int)) / 4) (by omega) (by omega)
  generalize aheadV p = A at *
  generalize behindV p = B at *
  obtain ⟨ck, hck'⟩ : ∃ ck, ofV (A ++ B) = ck := ⟨_, rfl⟩
  rw [hck'] at HC hck
  have HK : Hid _ := hck'
  clear hck'
  generalize buildV p = Y at *
  obtain ⟨p0, p1, p2, p3, p4, p5, p6, p7, p8, p9, pa⟩ := p
  dsimp only at *
  generalize flagV p2 p3 = fl at *
  have hx0 : Ext w (w.alloc (.cells #[.int .i64 p0, .int .i64 p1, .bool p2, .bool p3, .int .i64 p4, .int .i64 p5, .int .i64 p6, .int .u32 p7, .int .u32 p8, .slice a1 n1 c1, .slice a2 n2 c2] 25)) := (Ext.refl w).alloc _
  obtain ⟨b0, b1, b2, b3, b4, b5, b6, b7, b8, b9, ba⟩ := box_ipE (heap_new' w (.cells #[.int .i64 p0, .int .i64 p1, .bool p2, .bool p3, .int .i64 p4, .int .i64 p5, .int .i64 p6, .int .u32 p7, .int .u32 p8, .slice a1 n1 c1, .slice a2 n2 c2] 25))
  go_enter Try.func18, Try.ntmps18
  go_wp2_with (go_at_call 31; refine (cf _).mono ?_; rintro e w1 ⟨rfl, hx1⟩)
  have hX : Ext (w.alloc (.cells #[.int .i64 p0, .int .i64 p1, .bool p2, .bool p3, .int .i64 p4, .int .i64 p5, .int .i64 p6, .int .u32 p7, .int .u32 p8, .slice a1 n1 c1, .slice a2 n2 c2] 25)) w1.drew := hx1.drew
  have hsz : w.heap.size + 1 ≤ w1.heap.size := by have := hx1.size; simpa using this
  generalize (w.alloc (.cells #[.int .i64 p0, .int .i64 p1, .bool p2, .bool p3, .int .i64 p4, .int .i64 p5, .int .i64 p6, .int .u32 p7, .int .u32 p8, .slice a1 n1 c1, .slice a2 n2 c2] 25)) = W0 at *
  refine wp_region_make (w.heap.size + 1) hsz [(0, 0), (1, 0), (2, 0), (3, 0), (4, 0), (5, 0), (6, 0), (8, 0), (10, 0), (11, 0), (13, 0), (15, 0), (16, 0), (19, 0), (20, 0), (21, 0), (22, 0), (23, 0), (24, 0), (7, 3), (25, 3), (9, 1), (12, 1), (14, 1), (17, 0), (18, 1), (7, 2), (25, 2), (26, 3), (26, 2), (27, 1), (28, 0)] (by kernel_rfl) (by kernel_rfl) rfl (by kernel_rfl) (fun _ _ _ _ _ => Iff.rfl) ?_
  have hszW : w.heap.size + 1 ≤ w1.drew.heap.size := hsz
  clear hx1 cf hsz
  generalize w1.drew = W at *
  have x0 := fun w' h => b0 w' (hX.trans h)
  have x1 := fun w' h => b1 w' (hX.trans h)
  have x2 := fun w' h => b2 w' (hX.trans h)
  have x3 := fun w' h => b3 w' (hX.trans h)
  have x4 := fun w' h => b4 w' (hX.trans h)
  have x5 := fun w' h => b5 w' (hX.trans h)
  have x6 := fun w' h => b6 w' (hX.trans h)
  have x7 := fun w' h => b7 w' (hX.trans h)
  have x8 := fun w' h => b8 w' (hX.trans h)
  have x9 := fun w' h => b9 w' (hX.trans h)
  have xa := fun w' h => ba w' (hX.trans h)
  have e1 : IntKind.i64.wrap ((20 + (n1 : Int)).tdiv 4) = (20 + (n1 : Int)) / 4 := by rw [Int.tdiv_eq_ediv_of_nonneg (by omega), IntKind.wrap_i64]; omega
  have e2 : IntKind.u8.wrap (64 + (20 + (n1 : Int)) / 4) = 64 + (20 + (n1 : Int)) / 4 := by rw [IntKind.wrap_u8]; omega
  have e3 : IntKind.u8.wrap p0 = p0 := by rw [IntKind.wrap_u8]; omega
  have e4 : IntKind.u8.wrap p5 = p5 := by rw [IntKind.wrap_u8]; omega
  have e5 : IntKind.u8.wrap p6 = p6 := by rw [IntKind.wrap_u8]; omega
  have hhb : 0 ≤ 64 + (20 + (n1 : Int)) / 4 ∧ 64 + (20 + (n1 : Int)) / 4 ≤ 255 := by omega
  generalize 64 + (20 + (n1 : Int)) / 4 = hb at *
  repeat (first
    | (refine wpW_read (v := ?_) rfl (by rfl) ?_ ?_; rotate_left; (focus (intro w' hx; go_simp; first | done | with_reducible rfl)); simp only [Act.put, List.setIfInBounds_toArray, List.set_cons_zero, List.set_cons_succ]))
  (refine wpW_say _ (fun g => .slice (some ⟨g, 0, none⟩) 2 2) rfl (by rfl) (fun w' => by go_simp; first | done | with_reducible rfl) ?_)
  (refine wpW_say _ (fun g => .slice (some ⟨g, 0, none⟩) 2 2) rfl (by rfl) (fun w' => by go_simp; first | done | with_reducible rfl) ?_)
  clear x0 x1 x2 x3 x4 x5 x6 x7 x8 x9 xa e1 e2 e3 e4 e5
  refine wpW_call rfl (by rfl) (fun W1 hx1 K hK => ?_); go_simp; (go_at_call 32; refine (put16_new _ _ (by omega) (by omega)).mono ?_; rintro e W1' ⟨q1, rfl, hq1, hx1'⟩; refine hK _ _ hx1' ?_; clear hK K)
  refine wpW_call rfl (by rfl) (fun W2 hx2 K hK => ?_); go_simp; (go_at_call 32; refine (put16_new _ _ (by omega) (by omega)).mono ?_; rintro e W2' ⟨q2, rfl, hq2, hx2'⟩; refine hK _ _ hx2' ?_; clear hK K)
  refine wpW_call rfl (by rfl) (fun W3 hx3 K hK => ?_); go_simp; (go_at_call 33; refine (cl _).mono ?_; rintro e W3' ⟨rfl, hx3'⟩; refine hK _ _ hx3' ?_; clear hK K)
  (refine wpW_read (v := ?_) rfl (by rfl) ?_ ?_; rotate_left; (focus (intro w' hx; go_simp; first | done | with_reducible rfl)); simp only [Act.put, List.setIfInBounds_toArray, List.set_cons_zero, List.set_cons_succ])
  refine wpW_call rfl (by rfl) (fun W4 hx4 K hK => ?_); go_simp; (go_at_call 32; refine (put16_new _ _ (by omega) (by omega)).mono ?_; rintro e W4' ⟨q4, rfl, hq4, hx4'⟩; refine hK _ _ hx4' ?_; clear hK K)
  refine wpW_make _ (fun g => .slice (some ⟨g, 0, none⟩) 2 2) rfl (by rfl) (fun w' => by go_simp; first | done | with_reducible rfl) ?_; simp only [Act.put, List.setIfInBounds_toArray, List.set_cons_zero, List.set_cons_succ]; intro W5 g5 hx5 hB5 hg5
  refine wpW_make _ (fun g => .slice (some ⟨g, 0, none⟩) 2 2) rfl (by rfl) (fun w' => by go_simp; first | done | with_reducible rfl) ?_; simp only [Act.put, List.setIfInBounds_toArray, List.set_cons_zero, List.set_cons_succ]; intro W6 g6 hx6 hB6 hg6
  (refine wpW_say _ (fun g => .slice (some ⟨g, 0, none⟩) 5 5) rfl (by rfl) (fun w' => by go_simp; first | done | with_reducible rfl) ?_)
  refine wpW_make _ (fun g => .slice (some ⟨g, 0, none⟩) 5 5) rfl (by rfl) (fun w' => by go_simp; first | done | with_reducible rfl) ?_; simp only [Act.put, List.setIfInBounds_toArray, List.set_cons_zero, List.set_cons_succ]; intro W7 g7 hx7 hB7 hg7
  refine wpW_call rfl (by rfl) (fun W8 hx8 K hK => ?_); go_simp; (go_at_call 28)
  have y8 := hx7.trans hx8
  have y6 := hx6.trans y8
  have y4 := hx5.trans y6
  have k0 := bytes_of_heap (xs := [hb, p0]) (y6.heap hg5) (by intro x hx; simp at hx; omega) (by simp)
  have k1 := hq1.below ((hx2.trans (hx2'.trans (hx3.trans (hx3'.trans (hx4.trans hx4'))))).trans y4)
  have k2 := hq2.below ((hx3.trans (hx3'.trans (hx4.trans hx4'))).trans y4)
  have k3 := hq4.below y4
  have k4 := bytes_of_heap (xs := [p5, p6]) (y8.heap hg6) (by intro x hx; simp at hx; omega) (by simp)
  refine (joinL_own g7 5 [.slice (some ⟨g5, 0, none⟩) 2 2, .slice q1 2 2, .slice q2 2 2, .slice q4 2 2, .slice (some ⟨g6, 0, none⟩) 2 2] [[hb, p0], [(20 + (n1 : Int) + n2) / 256 % 256, (20 + (n1 : Int) + n2) % 256], [p1 / 256 % 256, p1 % 256], [(fl + p4) / 256 % 256, (fl + p4) % 256], [p5, p6]] W8 (hx8.heap hg7) rfl (by omega)
    (fun i hi => by
      match i, hi with
      | 0, _ => exact ⟨_, _, _, rfl, k0, by simp⟩
      | 1, _ => exact ⟨_, _, _, rfl, k1, k1.has (by omega) _⟩
      | 2, _ => exact ⟨_, _, _, rfl, k2, k2.has (by omega) _⟩
      | 3, _ => exact ⟨_, _, _, rfl, k3, k3.has (by omega) _⟩
      | 4, _ => exact ⟨_, _, _, rfl, k4, by simp⟩) A 10 (by rw [HA.out]; rfl) lA (by omega)).mono ?_
  rintro e W9 ⟨qA, dA, rfl, hoA, hx9⟩
  refine hK _ _ hx9 ?_
  clear hK K
  have hX9 : Ext W0 W9 := hX.trans (hx1.trans (hx1'.trans (hx2.trans (hx2'.trans (hx3.trans (hx3'.trans (hx4.trans (hx4'.trans (y4.trans hx9)))))))))
  have hs9 : w.heap.size + 1 ≤ W9.heap.size := by have := (hx1.trans (hx1'.trans (hx2.trans (hx2'.trans (hx3.trans (hx3'.trans (hx4.trans (hx4'.trans (y4.trans hx9))))))))).size; omega
  clear k0 k1 k2 k3 k4 y8 y6 y4 hg5 hg6 hg7 hq1 hq2 hq4 hx1 hx1' hx2 hx2' hx3 hx3' hx4 hx4' hx5 hx6 hx7 hB5 hB6 hB7 hX cl hho hfo
  (refine wpW_read (v := ?_) rfl (by rfl) ?_ ?_; rotate_left; (focus (intro w' hx; go_simp; first | done | with_reducible rfl)); simp only [Act.put, List.setIfInBounds_toArray, List.set_cons_zero, List.set_cons_succ])
  refine wpW_done ?_
  go_wp2
  refine wp_region_make (w.heap.size + 1) hs9 [(0, 0), (1, 0), (3, 0), (4, 0), (6, 0), (7, 0), (2, 1), (5, 1), (8, 3), (8, 2), (9, 1), (10, 0)] (by kernel_rfl) (by kernel_rfl) rfl (by kernel_rfl) (fun _ _ _ _ _ => Iff.rfl) ?_
  have hX : Ext W0 W9.drew := hX9.drew
  have hx9' : Ext W9 W9.drew := (Ext.refl _).drew
  have x7 := fun w' h => b7 w' (hX.trans h)
  have x8 := fun w' h => b8 w' (hX.trans h)
  have x9 := fun w' h => b9 w' (hX.trans h)
  generalize W9.drew = V at *
  repeat (first
    | (refine wpW_read (v := ?_) rfl (by rfl) ?_ ?_; rotate_left; (focus (intro w' hx; go_simp; first | done | with_reducible rfl)); simp only [Act.put, List.setIfInBounds_toArray, List.set_cons_zero, List.set_cons_succ]))
  clear x7 x8 x9
  refine wpW_call rfl (by rfl) (fun V1 hx1 K hK => ?_); go_simp; (go_at_call 34; refine (put32_new _ _ (by omega) (by omega)).mono ?_; rintro e V1' ⟨q1, rfl, hq1, hx1'⟩; refine hK _ _ hx1' ?_; clear hK K)
  refine wpW_call rfl (by rfl) (fun V2 hx2 K hK => ?_); go_simp; (go_at_call 34; refine (put32_new _ _ (by omega) (by omega)).mono ?_; rintro e V2' ⟨q2, rfl, hq2, hx2'⟩; refine hK _ _ hx2' ?_; clear hK K)
  (refine wpW_say _ (fun g => .slice (some ⟨g, 0, none⟩) 3 3) rfl (by rfl) (fun w' => by go_simp; first | done | with_reducible rfl) ?_)
  refine wpW_make _ (fun g => .slice (some ⟨g, 0, none⟩) 3 3) rfl (by rfl) (fun w' => by go_simp; first | done | with_reducible rfl) ?_; simp only [Act.put, List.setIfInBounds_toArray, List.set_cons_zero, List.set_cons_succ]; intro V3 g3 hx3 hB3 hg3
  refine wpW_call rfl (by rfl) (fun V4 hx4 K hK => ?_); go_simp; (go_at_call 28)
  have k1 := hq1.below (hx2.trans (hx2'.trans (hx3.trans hx4)))
  have k2 := hq2.below (hx3.trans hx4)
  have hV4 : Ext V V4 := hx1.trans (hx1'.trans (hx2.trans (hx2'.trans (hx3.trans hx4))))
  have k3 := h1.below (hx0.trans (hX.trans hV4))
  refine (joinL_own g3 3 [.slice q1 4 4, .slice q2 4 4, .slice a1 n1 c1] [[p7 / 16777216, p7 / 65536 % 256, p7 / 256 % 256, p7 % 256], [p8 / 16777216, p8 / 65536 % 256, p8 / 256 % 256, p8 % 256], p9] V4 (hx4.heap hg3) rfl (by omega)
    (fun i hi => by
      match i, hi with
      | 0, _ => exact ⟨_, _, _, rfl, k1, k1.has (by omega) _⟩
      | 1, _ => exact ⟨_, _, _, rfl, k2, k2.has (by omega) _⟩
      | 2, _ => exact ⟨_, _, _, rfl, k3, z1⟩) B (8 + n1) (by rw [HB.out]; simp) lB (by omega)).mono ?_
  rintro e V5 ⟨qB, dB, rfl, hoB, hx5⟩
  refine hK _ _ hx5 ?_
  clear hK K
  have hV5 : Ext V V5 := hV4.trans hx5
  have oA5 := owns_later hoA (hx9'.trans hV5)
  have hX5 : Ext W0 V5 := hX.trans hV5
  obtain ⟨bA, zA, _⟩ := owns_slice oA5 oA
  obtain ⟨bB, zB, _⟩ := owns_slice hoB oB
  clear k1 k2 k3 hg3 hq1 hq2 hx1 hx1' hx2 hx2' hx3 hx4 hB3 hX hx9'
  (refine wpW_read (v := ?_) rfl (by rfl) ?_ ?_; rotate_left; (focus (intro w' hx; go_simp; first | done | with_reducible rfl)); simp only [Act.put, List.setIfInBounds_toArray, List.set_cons_zero, List.set_cons_succ])
  refine wpW_done ?_
  go_wp2_with (first
    | (go_at_call 35; have co := of2_any qA 10 dA qB (8 + n1) dB A B V5 bA bB zA zB (by omega); rw [HK.out] at co; refine co.mono ?_; rintro e V6 ⟨rfl, hx6⟩; clear co)
    | (go_at_call 32; refine (put16_new _ _ (by omega) (by omega)).mono ?_; rintro e V7 ⟨qc, rfl, hqc, hx7⟩; have hX7 := hX5.trans (hx6.trans hx7); have bA7 := bA.below (hx6.trans hx7); have bB7 := bB.below (hx6.trans hx7); have bD7 := h2.below (hx0.trans hX7); clear bA bB)
    | (go_at_call 28; have hxa : Ext V7 (V7.alloc (.cells [.slice qA 10 dA, .slice qc 2 2, .slice qB (8 + n1) dB, .slice a2 n2 c2].toArray 22)) := (Ext.refl _).alloc _; refine (joinL_own V7.heap.size 4 [.slice qA 10 dA, .slice qc 2 2, .slice qB (8 + n1) dB, .slice a2 n2 c2] [A, [ck / 256 % 256, ck % 256], B, pa] _ (heap_new' V7 _) rfl (by omega) (fun i hi => by
      match i, hi with
      | 0, _ => exact ⟨_, _, _, rfl, bA7.below hxa, zA⟩
      | 1, _ => exact ⟨_, _, _, rfl, hqc.below hxa, hqc.has (by omega) _⟩
      | 2, _ => exact ⟨_, _, _, rfl, bB7.below hxa, zB⟩
      | 3, _ => exact ⟨_, _, _, rfl, bD7.below hxa, z2⟩) Y (20 + n1 + n2) (by rw [HC.out]; simp) lY (by omega)).mono ?_; rintro e V8 ⟨qY, dY, rfl, hoY, hx8⟩))
  exact (HP.out _ _).2 ⟨qY, dY, rfl, owns_base hoY (by have := (hx0.trans hX7).size; have := hxa.size; omega), hx0.trans (hX7.trans (hxa.trans hx8))⟩

end Go.Proofs.Ytlfjbmjincffoaa
