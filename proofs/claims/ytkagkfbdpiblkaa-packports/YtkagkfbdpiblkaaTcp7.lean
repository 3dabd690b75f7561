/- What the document's own Build answers of any segment (chapter 5). -/
import Derived.Test.YtkagkfbdpiblkaaTcp2
import Derived.Test.YtkagkfbdpiblkaaPseudoO
import Derived.Test.YtkagkfbdpiblkaaRef2
namespace Go.Proofs.Ytkagkfbdpiblkaa.Tcp
open Go.RowKit
set_option linter.unusedVariables false

theorem refPut16_own (n : Int) (w : World) (n1 : -9223372036854775808 ≤ n) (n2 : n ≤ 9223372036854775807) :
    Calls Try.prog 36 #[.int .i64 n] w fun e w' => e = .returned (.slice (some ⟨w.heap.size, 0, none⟩) 2 2) ∧ w'.ownsRow w.heap.size 5 1 (.slice (some ⟨w.heap.size, 0, none⟩) 2 2) 2 (([n / 256 % 256, n % 256]).map (Value.int .u8)) ∧ Ext w w' :=
  (refPut16_any n w n1 n2).mono fun e w' ⟨he, hw⟩ => ⟨he, by rw [hw]; exact own_of_heap (heap_alloc_new w _) (Nat.le_refl _) rfl (by omega), by rw [hw]; exact (Ext.refl _).alloc _⟩

/-- What the document's own Build answers. -/
def RefBuildAns (w : World) (s d : Int) (p : SEGv) (n : Nat) (e : Ending) (w' : World) : Prop := ∃ q c, e = .returned (.tuple #[.slice q n c, .int .i64 0]) ∧ Bytes w' q n (buildV s d p) ∧ Ext w w'

/-- The same, as a row of the caller's own. -/
def RefBuildOwn (w : World) (s d : Int) (p : SEGv) (n : Nat) (e : Ending) (w' : World) : Prop := ∃ q c, e = .returned (.tuple #[.slice q n c, .int .i64 0]) ∧ w'.ownsRow w.heap.size 5 1 (.slice q n c) n ((buildV s d p).map (Value.int .u8)) ∧ Ext w w'

set_option maxHeartbeats 1000000 in
theorem refBuild_bad (s d : Int) (p : SEGv) (a1 : Option Addr) (n1 c1 : Nat) (a2 : Option Addr) (n2 c2 : Nat) (w : World) (h1 : p.opts.length = n1) (h2 : p.data.length = n2) (hn : n1 ≤ 140737488355328) (hm : n2 ≤ 140737488355328) (hv : isV p = false) :
    Calls Try.prog 25 #[.int .u32 s, .int .u32 d, .agg #[.int .i64 p.src, .int .i64 p.dst, .int .u32 p.seq, .int .u32 p.ack, .int .i64 p.flags, .int .i64 p.win, .int .i64 p.urg, .slice a1 n1 c1, .slice a2 n2 c2]] w fun e w' => e = .returned (.tuple #[.slice none 0 0, .int .i64 1]) ∧ Ext w w' := by
  have c := fun w => refIs_any p a1 n1 c1 a2 n2 c2 w h1 h2 hn hm
  rw [hv] at c
  obtain ⟨p0, p1, p2, p3, p4, p5, p6, p7, p8⟩ := p
  dsimp only at *
  have hx : Ext w (w.alloc (.cells #[.int .i64 p0, .int .i64 p1, .int .u32 p2, .int .u32 p3, .int .i64 p4, .int .i64 p5, .int .i64 p6, .slice a1 n1 c1, .slice a2 n2 c2] 52)) := (Ext.refl w).alloc _
  go_enter Try.func25, Try.ntmps25
  go_wp2_with (go_at_call 24; refine (c _).mono ?_; rintro e w1 ⟨rfl, hx1⟩)
  go_ret2
  exact ⟨rfl, hx.trans hx1⟩

set_option maxHeartbeats 4000000 in
theorem refBuild_own (s d : Int) (p : SEGv) (a1 : Option Addr) (n1 c1 : Nat) (a2 : Option Addr) (n2 c2 : Nat) (w : World) (h1 : Bytes w a1 n1 p.opts) (z1 : a1 = none → c1 = 0) (h2 : Bytes w a2 n2 p.data) (z2 : a2 = none → c2 = 0)
    (f : Fine p) (hp : Fits p) (s0 : 0 ≤ s) (s1 : s ≤ 4294967295) (d0 : 0 ≤ d) (d1 : d ≤ 4294967295) (N : Nat) (hN : 20 + n1 + n2 = N) : Calls Try.prog 25 #[.int .u32 s, .int .u32 d, .agg #[.int .i64 p.src, .int .i64 p.dst, .int .u32 p.seq, .int .u32 p.ack, .int .i64 p.flags, .int .i64 p.win, .int .i64 p.urg, .slice a1 n1 c1, .slice a2 n2 c2]] w (RefBuildOwn w s d p N) := by
  have l1 := h1.length
  have l2 := h2.length
  have hall := hp.all
  rw [l1, l2] at hall
  have cf := fun w => refIs_any p a1 n1 c1 a2 n2 c2 w l1 l2 (by omega) (by omega)
  rw [(isV_iff p).2 hp] at cf
  have HP : Hid (∀ e w', RefBuildOwn w s d p N e w' ↔ ∃ q c, e = .returned (.tuple #[.slice q N c, .int .i64 0]) ∧ w'.ownsRow w.heap.size 5 1 (.slice q N c) N ((buildV s d p).map (Value.int .u8)) ∧ Ext w w') := fun e w' => Iff.rfl
  generalize RefBuildOwn w s d p N = Ans at *
  have hck := check_bd f hp s0 s1 d0 d1
  have okB := build_ok f hp s0 s1 d0 d1
  obtain ⟨fs, fl, fo, fp⟩ := ref_form s d f hp
  have hE : pseuV s d p = pseudoV s d 6 (N : Int) := by
    unfold pseuV; rw [l1, l2, ← hN]; congr 1
  rw [hE] at fs
  rw [l1, l2, hN] at fl
  have HX : Hid (((((((((([p.src / 256 % 256, p.src % 256] ++ [p.dst / 256 % 256, p.dst % 256]) ++ [p.seq / 16777216, p.seq / 65536 % 256, p.seq / 256 % 256, p.seq % 256]) ++ [p.ack / 16777216, p.ack / 65536 % 256, p.ack / 256 % 256, p.ack % 256]) ++ [(20 + (n1 : Int)) / 4 * 16, p.flags]) ++ [p.win / 256 % 256, p.win % 256]) ++ [0, 0]) ++ [p.urg / 256 % 256, p.urg % 256]) ++ p.opts) ++ p.data) = refX p) := by
    show _ = _
    unfold refX aheadV behindV; rw [l1]; simp
  have HS : Hid _ := fs
  have HPt : Hid _ := fp
  have cE : ∀ w, _ := fun w => refPseudo_own s d 6 (N : Int) w s0 s1 d0 d1 (by omega) (by omega) (by omega) (by omega)
  have oP : BytesOk (pseudoV s d 6 (N : Int)) := pseudoV_ok _ _ s0 s1 d0 d1
  have okX := bytesOk_append oP fo
  clear fs fp hE
  obtain ⟨t0, t1, u0, u1, v0, v1, r0, r1, f0, f1, n4, n40, _⟩ := hp
  obtain ⟨q0', q1', k0, k1, ho', hd'⟩ := f
  rw [l1] at n4 n40
  generalize refX p = XX at *
  generalize checkV s d p = ck at *
  generalize buildV s d p = Y at *
  generalize pseudoV s d 6 (N : Int) = E at *
  obtain ⟨p0, p1, p2, p3, p4, p5, p6, p7, p8⟩ := p
  dsimp only at *
  have hx0 : Ext w (w.alloc (.cells #[.int .i64 p0, .int .i64 p1, .int .u32 p2, .int .u32 p3, .int .i64 p4, .int .i64 p5, .int .i64 p6, .slice a1 n1 c1, .slice a2 n2 c2] 52)) := (Ext.refl w).alloc _
  obtain ⟨b0, b1, b2, b3, b4, b5, b6, b7, b8⟩ := box_segE (heap_new' w (.cells #[.int .i64 p0, .int .i64 p1, .int .u32 p2, .int .u32 p3, .int .i64 p4, .int .i64 p5, .int .i64 p6, .slice a1 n1 c1, .slice a2 n2 c2] 52))
  obtain ⟨i0, hi, hz0, hz1, hz2⟩ := info_parts Try.infoByte
  have e1 : IntKind.i64.wrap ((20 + (n1 : Int)).tdiv 4) = (20 + (n1 : Int)) / 4 := by rw [Int.tdiv_eq_ediv_of_nonneg (by omega), IntKind.wrap_i64]; omega
  have e2 : IntKind.i64.wrap ((20 + (n1 : Int)) / 4 * 16) = (20 + (n1 : Int)) / 4 * 16 := by rw [IntKind.wrap_i64]; omega
  have e3 : IntKind.u8.wrap ((20 + (n1 : Int)) / 4 * 16) = (20 + (n1 : Int)) / 4 * 16 := by rw [IntKind.wrap_u8]; omega
  have e4 : IntKind.u8.wrap p4 = p4 := by rw [IntKind.wrap_u8]; omega
  have hhb : 0 ≤ (20 + (n1 : Int)) / 4 * 16 ∧ (20 + (n1 : Int)) / 4 * 16 ≤ 255 := by omega
  have HN : Hid _ := hN
  go_enter Try.func25, Try.ntmps25
  go_wp2_with (go_at_call 24; refine (cf _).mono ?_; rintro e w1 ⟨rfl, hx1⟩)
  generalize (w.alloc (.cells #[.int .i64 p0, .int .i64 p1, .int .u32 p2, .int .u32 p3, .int .i64 p4, .int .i64 p5, .int .i64 p6, .slice a1 n1 c1, .slice a2 n2 c2] 52)) = W0 at *
  refine wp_region_eagerN W0.heap.size [(0, false), (1, false), (3, false), (4, false), (2, true), (5, true), (6, true), (7, false)] (by kernel_rfl) (by kernel_rfl) rfl (by kernel_rfl) (fun _ _ _ _ _ h => h) ?_
  have hXd : Ext W0 w1.drew := hx1.drew
  have y0 : ∀ w', ExtN W0.heap.size w1.drew w' → w'.cell? ⟨w.heap.size, 0, none⟩ = _ := fun w' hx => b0 w' (ExtN.ext hXd hx (Nat.le_refl _))
  have y1 : ∀ w', ExtN W0.heap.size w1.drew w' → w'.cell? ⟨w.heap.size, 1, none⟩ = _ := fun w' hx => b1 w' (ExtN.ext hXd hx (Nat.le_refl _))
  clear hx1
  generalize w1.drew = V at *
  (refine wpE_read (v := ?_) rfl (by rfl) ?_ ?_; rotate_left; (focus (intro w' hx; go_simp; first | done | with_reducible rfl)); simp only [Act.put, List.setIfInBounds_toArray, List.set_cons_zero, List.set_cons_succ])
  (refine wpE_read (v := ?_) rfl (by rfl) ?_ ?_; rotate_left; (focus (intro w' hx; go_simp; first | done | with_reducible rfl)); simp only [Act.put, List.setIfInBounds_toArray, List.set_cons_zero, List.set_cons_succ])
  (refine wpE_read (v := ?_) rfl (by rfl) ?_ ?_; rotate_left; (focus (intro w' hx; go_simp; first | done | with_reducible rfl)); simp only [Act.put, List.setIfInBounds_toArray, List.set_cons_zero, List.set_cons_succ])
  (refine wpE_read (v := ?_) rfl (by rfl) ?_ ?_; rotate_left; (focus (intro w' hx; go_simp; first | done | with_reducible rfl)); simp only [Act.put, List.setIfInBounds_toArray, List.set_cons_zero, List.set_cons_succ])
  clear y0 y1
  refine wpE_call rfl (by rfl) (fun K hK => ?_); go_simp; (go_at_call 36; refine (refPut16_own _ _ (by omega) (by omega)).mono ?_; rintro e V1 ⟨rfl, hoa, hx1⟩; refine hK _ _ (hx1.upto _) ?_; clear hK K; have hX1 := hXd.trans hx1; have ho1 := owns_base hoa hXd.size; clear hoa hx1 hXd)
  refine wpE_call rfl (by rfl) (fun K hK => ?_); go_simp; (go_at_call 36; refine (refPut16_new _ _ (by omega) (by omega)).mono ?_; rintro e V2 ⟨q2, rfl, hb2, hx2⟩; refine hK _ _ (hx2.upto _) ?_; clear hK K; have hX2 := hX1.trans hx2; have ho2 := owns_later ho1 hx2; clear ho1 hx2)
  refine wpE_call rfl (by rfl) (fun K hK => ?_)
  refine wp_append_bytes (.tmp 15) (.tmp 18) 22 rfl W0.heap.size 5 i0 (.int .u8 0) Try.underlying22 hi hz0 hz1 hz2 rfl _ _ _ rfl ho2 q2 2 2 _ rfl hb2 (hb2.has (by omega) _) (by omega) hX2.size ?_
  intro v3 V3 ho3 hg3
  have hX3 := grown_ext hX2 ho2 hg3
  refine hK _ _ (grown_N ho2 hg3) ?_
  clear hK K hg3 ho2
  simp only [Act.put, List.setIfInBounds_toArray, List.set_cons_zero, List.set_cons_succ]
  (refine wpE_read (v := ?_) rfl (by rfl) ?_ ?_; rotate_left; (focus (intro w' hx; go_simp; first | done | with_reducible rfl)); simp only [Act.put, List.setIfInBounds_toArray, List.set_cons_zero, List.set_cons_succ])
  refine wpE_done ?_
  clear hX1 hX2 hb2
  go_wp2
  refine wp_region_eagerN W0.heap.size [(0, false), (1, false), (2, false), (5, false), (6, false), (3, true), (4, true), (7, true), (8, true), (9, false)] (by kernel_rfl) (by kernel_rfl) rfl (by kernel_rfl) (fun _ _ _ _ _ h => h) ?_
  have hXd : Ext W0 V3.drew := hX3.drew
  have hod := owns_later ho3 (Ext.refl V3).drew
  clear ho3
  have y2 : ∀ w', ExtN W0.heap.size V3.drew w' → w'.cell? ⟨w.heap.size, 2, none⟩ = _ := fun w' hx => b2 w' (ExtN.ext hXd hx (Nat.le_refl _))
  have y3 : ∀ w', ExtN W0.heap.size V3.drew w' → w'.cell? ⟨w.heap.size, 3, none⟩ = _ := fun w' hx => b3 w' (ExtN.ext hXd hx (Nat.le_refl _))
  clear hX3
  generalize V3.drew = V at *
  (refine wpE_read (v := ?_) rfl (by rfl) ?_ ?_; rotate_left; (focus (intro w' hx; go_simp; first | done | with_reducible rfl)); simp only [Act.put, List.setIfInBounds_toArray, List.set_cons_zero, List.set_cons_succ])
  (refine wpE_read (v := ?_) rfl (by rfl) ?_ ?_; rotate_left; (focus (intro w' hx; go_simp; first | done | with_reducible rfl)); simp only [Act.put, List.setIfInBounds_toArray, List.set_cons_zero, List.set_cons_succ])
  (refine wpE_read (v := ?_) rfl (by rfl) ?_ ?_; rotate_left; (focus (intro w' hx; go_simp; first | done | with_reducible rfl)); simp only [Act.put, List.setIfInBounds_toArray, List.set_cons_zero, List.set_cons_succ])
  (refine wpE_read (v := ?_) rfl (by rfl) ?_ ?_; rotate_left; (focus (intro w' hx; go_simp; first | done | with_reducible rfl)); simp only [Act.put, List.setIfInBounds_toArray, List.set_cons_zero, List.set_cons_succ])
  (refine wpE_read (v := ?_) rfl (by rfl) ?_ ?_; rotate_left; (focus (intro w' hx; go_simp; first | done | with_reducible rfl)); simp only [Act.put, List.setIfInBounds_toArray, List.set_cons_zero, List.set_cons_succ])
  clear y2 y3
  refine wpE_call rfl (by rfl) (fun K hK => ?_); go_simp; (go_at_call 37; refine (refPut32_new _ _ (by omega) (by omega)).mono ?_; rintro e V4 ⟨q4, rfl, hb4, hx4⟩; refine hK _ _ (hx4.upto _) ?_; clear hK K; have hX4 := hXd.trans hx4; have ho4 := owns_later hod hx4; clear hod hx4)
  refine wpE_call rfl (by rfl) (fun K hK => ?_)
  refine wp_append_bytes (.tmp 20) (.tmp 23) 22 rfl W0.heap.size 5 i0 (.int .u8 0) Try.underlying22 hi hz0 hz1 hz2 rfl _ _ _ rfl ho4 q4 4 4 _ rfl hb4 (hb4.has (by omega) _) (by omega) hX4.size ?_
  intro v5 V5 ho5 hg5
  have hX5 := grown_ext hX4 ho4 hg5
  refine hK _ _ (grown_N ho4 hg5) ?_
  clear hK K hg5 ho4
  simp only [Act.put, List.setIfInBounds_toArray, List.set_cons_zero, List.set_cons_succ]
  refine wpE_call rfl (by rfl) (fun K hK => ?_); go_simp; (go_at_call 37; refine (refPut32_new _ _ (by omega) (by omega)).mono ?_; rintro e V6 ⟨q6, rfl, hb6, hx6⟩; refine hK _ _ (hx6.upto _) ?_; clear hK K; have hX6 := hX5.trans hx6; have ho6 := owns_later ho5 hx6; clear ho5 hx6)
  refine wpE_call rfl (by rfl) (fun K hK => ?_)
  refine wp_append_bytes (.tmp 24) (.tmp 27) 22 rfl W0.heap.size 5 i0 (.int .u8 0) Try.underlying22 hi hz0 hz1 hz2 rfl _ _ _ rfl ho6 q6 4 4 _ rfl hb6 (hb6.has (by omega) _) (by omega) hX6.size ?_
  intro v7 V7 ho7 hg7
  have hX7 := grown_ext hX6 ho6 hg7
  refine hK _ _ (grown_N ho6 hg7) ?_
  clear hK K hg7 ho6
  simp only [Act.put, List.setIfInBounds_toArray, List.set_cons_zero, List.set_cons_succ]
  (refine wpE_read (v := ?_) rfl (by rfl) ?_ ?_; rotate_left; (focus (intro w' hx; go_simp; first | done | with_reducible rfl)); simp only [Act.put, List.setIfInBounds_toArray, List.set_cons_zero, List.set_cons_succ])
  refine wpE_done ?_
  clear hXd hX4 hX5 hX6 hb4 hb6
  have tA : Hid True := trivial
  have tB : Hid True := trivial
  go_wp2_with (first
    | (at_builtin; clear tA; have hn : Bytes (V7.alloc (.cells #[.int .u8 ((20 + (n1 : Int)) / 4 * 16), .int .u8 p4] 5)) (some ⟨V7.heap.size, 0, none⟩) 2 [(20 + (n1 : Int)) / 4 * 16, p4] := Bytes.new V7 _ [(20 + (n1 : Int)) / 4 * 16, p4] (by intro x hx; simp at hx; omega) (by simp); have ho8 := ho7.alloc (.cells #[.int .u8 ((20 + (n1 : Int)) / 4 * 16), .int .u8 p4] 5); have hX8 := hX7.alloc (.cells #[.int .u8 ((20 + (n1 : Int)) / 4 * 16), .int .u8 p4] 5); refine append_bytes rfl (.tmp 29) (.tmp 40) 22 rfl W0.heap.size 5 i0 (.int .u8 0) Try.underlying22 hi hz0 hz1 hz2 rfl _ _ _ rfl ho8 _ 2 2 _ rfl hn (by simp) (by omega) hX8.size ?_; intro v9 w9 ho9 hg9; have hX9 := grown_ext hX8 ho8 hg9; clear hg9 ho8 hn ho7)
    | (go_at_call 36; refine (refPut16_new _ _ (by omega) (by omega)).mono ?_; rintro e w10 ⟨q10, rfl, hb10, hx10⟩; have ho10 := owns_later ho9 hx10; have hX10 := hX9.trans hx10; clear ho9 hx10)
    | (at_builtin; clear tB; refine append_bytes rfl (.tmp 42) (.tmp 45) 22 rfl W0.heap.size 5 i0 (.int .u8 0) Try.underlying22 hi hz0 hz1 hz2 rfl _ _ _ rfl ho10 q10 2 2 _ rfl hb10 (hb10.has (by omega) _) (by omega) hX10.size ?_; intro v11 w11 ho11 hg11; have hX11 := grown_ext hX10 ho10 hg11; clear hg11 ho10 hb10)
    | (at_builtin; have hn : Bytes (w11.alloc (.cells #[.int .u8 0, .int .u8 0] 5)) (some ⟨w11.heap.size, 0, none⟩) 2 [0, 0] := Bytes.new w11 _ [0, 0] (by intro x hx; simp at hx; omega) (by simp); have ho12 := ho11.alloc (.cells #[.int .u8 0, .int .u8 0] 5); have hX12 := hX11.alloc (.cells #[.int .u8 0, .int .u8 0] 5); refine append_bytes rfl (.tmp 46) (.tmp 47) 22 rfl W0.heap.size 5 i0 (.int .u8 0) Try.underlying22 hi hz0 hz1 hz2 rfl _ _ _ rfl ho12 _ 2 2 _ rfl hn (by simp) (by omega) hX12.size ?_; intro v13 w13 ho13 hg13; have hX13 := grown_ext hX12 ho12 hg13; clear hg13 ho12 hn ho11))
  clear hX7 hX8 hX9 hX10 hX11 hX12
  refine wp_region_eagerN W0.heap.size [(0, false), (1, false), (2, false), (5, false), (6, false), (3, true), (4, true), (7, true), (8, false)] (by kernel_rfl) (by kernel_rfl) rfl (by kernel_rfl) (fun _ _ _ _ _ h => h) ?_
  have hXd : Ext W0 w13.drew := hX13.drew
  have hod := owns_later ho13 (Ext.refl w13).drew
  clear ho13
  have y6 : ∀ w', ExtN W0.heap.size w13.drew w' → w'.cell? ⟨w.heap.size, 6, none⟩ = _ := fun w' hx => b6 w' (ExtN.ext hXd hx (Nat.le_refl _))
  have y7 : ∀ w', ExtN W0.heap.size w13.drew w' → w'.cell? ⟨w.heap.size, 7, none⟩ = _ := fun w' hx => b7 w' (ExtN.ext hXd hx (Nat.le_refl _))
  clear hX13
  generalize w13.drew = V at *
  (refine wpE_read (v := ?_) rfl (by rfl) ?_ ?_; rotate_left; (focus (intro w' hx; go_simp; first | done | with_reducible rfl)); simp only [Act.put, List.setIfInBounds_toArray, List.set_cons_zero, List.set_cons_succ])
  (refine wpE_read (v := ?_) rfl (by rfl) ?_ ?_; rotate_left; (focus (intro w' hx; go_simp; first | done | with_reducible rfl)); simp only [Act.put, List.setIfInBounds_toArray, List.set_cons_zero, List.set_cons_succ])
  (refine wpE_read (v := ?_) rfl (by rfl) ?_ ?_; rotate_left; (focus (intro w' hx; go_simp; first | done | with_reducible rfl)); simp only [Act.put, List.setIfInBounds_toArray, List.set_cons_zero, List.set_cons_succ])
  (refine wpE_read (v := ?_) rfl (by rfl) ?_ ?_; rotate_left; (focus (intro w' hx; go_simp; first | done | with_reducible rfl)); simp only [Act.put, List.setIfInBounds_toArray, List.set_cons_zero, List.set_cons_succ])
  (refine wpE_read (v := ?_) rfl (by rfl) ?_ ?_; rotate_left; (focus (intro w' hx; go_simp; first | done | with_reducible rfl)); simp only [Act.put, List.setIfInBounds_toArray, List.set_cons_zero, List.set_cons_succ])
  clear y6 y7
  refine wpE_call rfl (by rfl) (fun K hK => ?_); go_simp; (go_at_call 36; refine (refPut16_new _ _ (by omega) (by omega)).mono ?_; rintro e V14 ⟨q14, rfl, hb14, hx14⟩; refine hK _ _ (hx14.upto _) ?_; clear hK K; have hX14 := hXd.trans hx14; have ho14 := owns_later hod hx14; clear hod hx14)
  refine wpE_call rfl (by rfl) (fun K hK => ?_)
  refine wp_append_bytes (.tmp 49) (.tmp 52) 22 rfl W0.heap.size 5 i0 (.int .u8 0) Try.underlying22 hi hz0 hz1 hz2 rfl _ _ _ rfl ho14 q14 2 2 _ rfl hb14 (hb14.has (by omega) _) (by omega) hX14.size ?_
  intro v15 V15 ho15 hg15
  have hX15 := grown_ext hX14 ho14 hg15
  refine hK _ _ (grown_N ho14 hg15) ?_
  clear hK K hg15 ho14
  simp only [Act.put, List.setIfInBounds_toArray, List.set_cons_zero, List.set_cons_succ]
  refine wpE_call rfl (by rfl) (fun K hK => ?_)
  refine wp_append_bytes (.tmp 53) (.tmp 55) 22 rfl W0.heap.size 5 i0 (.int .u8 0) Try.underlying22 hi hz0 hz1 hz2 rfl _ _ _ rfl ho15 a1 n1 c1 _ rfl (h1.below (hx0.trans hX15)) z1 (by omega) hX15.size ?_
  intro v16 V16 ho16 hg16
  have hX16 := grown_ext hX15 ho15 hg16
  refine hK _ _ (grown_N ho15 hg16) ?_
  clear hK K hg16 ho15
  simp only [Act.put, List.setIfInBounds_toArray, List.set_cons_zero, List.set_cons_succ]
  (refine wpE_read (v := ?_) rfl (by rfl) ?_ ?_; rotate_left; (focus (intro w' hx; go_simp; first | done | with_reducible rfl)); simp only [Act.put, List.setIfInBounds_toArray, List.set_cons_zero, List.set_cons_succ])
  refine wpE_done ?_
  clear hXd hX14 hX15 hb14
  have tC : Hid True := trivial
  go_wp2_with (first
    | (at_builtin; clear tC; refine append_bytes rfl (.tmp 57) (.tmp 59) 22 rfl W0.heap.size 5 i0 (.int .u8 0) Try.underlying22 hi hz0 hz1 hz2 rfl _ _ _ rfl ho16 a2 n2 c2 _ rfl (h2.below (hx0.trans hX16)) z2 (by omega) hX16.size ?_; intro v17 V17 ho17' hg17; have hX17 := grown_ext hX16 ho16 hg17; have ho17 : V17.ownsRow W0.heap.size 5 1 v17 N (XX.map (Value.int .u8)) := (by rw [← HX.out]; have e : 2 + 2 + 4 + 4 + 2 + 2 + 2 + 2 + n1 + n2 = N := (by have := HN.out; omega); rw [← e]; exact ho17'); clear ho17' hg17 ho16; obtain ⟨g, c5, rfl, hO⟩ := OwnB.of_owns ho17 (by omega) fo)
    | (go_at_call 41; refine (cE V17).mono ?_; rintro e V18 ⟨pE, dE, rfl, hoE, hx18⟩; have hb18 := hO.bytes.below hx18)
    | (at_builtin; refine append_bytes (by rfl) (.tmp 65) (.tmp 66) 22 rfl V17.heap.size 5 i0 (.int .u8 0) Try.underlying22 hi hz0 hz1 hz2 rfl _ _ _ rfl hoE _ N c5 _ rfl hb18 (by simp) (by omega) hx18.size ?_; intro v19 V19 ho19 hg19; have hx19 := grown_ext hx18 hoE hg19; obtain ⟨a19, c19, rfl⟩ := owns_shape ho19; obtain ⟨hb19, _, _⟩ := owns_slice ho19 okX; clear hg19 hoE ho19)
    | (go_at_call 38; have co := refOf_any a19 (12 + N) c19 _ V19 hb19 (by omega); rw [HS.out] at co; refine co.mono ?_; clear co; rintro e V20 ⟨rfl, rfl⟩; have hO20 := hO.later hx19; have ho20 := owns_later ho17 hx19; have m16 := hO20.cell (k := 16) (by omega); have m17 := hO20.cell (k := 17) (by omega); have f16 := hO20.frozen 16; have f17 := hO20.frozen 17; have hgw := hO20.lt; have hgne : g ≠ V20.heap.size := (by omega))
    | (go_at_call 36; refine (refPut16_any _ _ (by omega) (by omega)).mono ?_; rintro e V21 ⟨rfl, rfl⟩))
  have b16 : (16 : Int) < (N : Int) := by omega
  have b17 : (17 : Int) < (N : Int) := by omega
  go_region
  have hoz := owns_later (owns_put 17 (ck % 256) (owns_put 16 (ck / 256 % 256) ho20 (by omega)) (by omega)) (((Ext.refl _).alloc (.cells #[.int .u8 (ck / 256 % 256), .int .u8 (ck % 256)] 5)).drew)
  have hXz := ((ExtX.ext (hX17.trans hx19) (((ExtX.refl g V20).setCell (p := ⟨g, 16, none⟩) rfl (.int .u8 (ck / 256 % 256))).setCell (p := ⟨g, 17, none⟩) rfl (.int .u8 (ck % 256))) hO20.base).alloc (.cells #[.int .u8 (ck / 256 % 256), .int .u8 (ck % 256)] 5)).drew
  rw [HPt.out] at hoz
  have oY := owns_base hoz hx0.size
  clear m16 m17 f16 f17 hgw hgne hoz
  generalize (((V20.setCell ⟨g, 16, none⟩ (.int .u8 (ck / 256 % 256))).setCell ⟨g, 17, none⟩ (.int .u8 (ck % 256))).alloc (.cells #[.int .u8 (ck / 256 % 256), .int .u8 (ck % 256)] 5)).drew = Vz at oY hXz ⊢
  go_wp2
  exact (HP.out _ _).2 ⟨_, _, rfl, oY, hx0.trans hXz⟩

theorem refBuild_good (s d : Int) (p : SEGv) (a1 : Option Addr) (n1 c1 : Nat) (a2 : Option Addr) (n2 c2 : Nat) (w : World) (h1 : Bytes w a1 n1 p.opts) (z1 : a1 = none → c1 = 0) (h2 : Bytes w a2 n2 p.data) (z2 : a2 = none → c2 = 0)
    (f : Fine p) (hp : Fits p) (s0 : 0 ≤ s) (s1 : s ≤ 4294967295) (d0 : 0 ≤ d) (d1 : d ≤ 4294967295) (N : Nat) (hN : 20 + n1 + n2 = N) : Calls Try.prog 25 #[.int .u32 s, .int .u32 d, .agg #[.int .i64 p.src, .int .i64 p.dst, .int .u32 p.seq, .int .u32 p.ack, .int .i64 p.flags, .int .i64 p.win, .int .i64 p.urg, .slice a1 n1 c1, .slice a2 n2 c2]] w (RefBuildAns w s d p N) :=
  (refBuild_own s d p a1 n1 c1 a2 n2 c2 w h1 z1 h2 z2 f hp s0 s1 d0 d1 N hN).mono fun e w' ⟨q, c, he, ho, hx⟩ => ⟨q, c, he, (owns_slice ho (build_ok f hp s0 s1 d0 d1)).1, hx⟩

end Go.Proofs.Ytkagkfbdpiblkaa.Tcp
