/- What tcp.Reset, and the document's own Reset, answer of any segment (chapter 5). -/
import Derived.Test.YtlinkbniihlagaaTcp2
namespace Go.Proofs.Ytlinkbniihlagaa.Tcp
open Go.RowKit
set_option linter.unusedVariables false

theorem has_any (p : SEGv) (m : Int) (a1 : Option Addr) (n1 c1 : Nat) (a2 : Option Addr) (n2 c2 : Nat) (w : World) :
    Calls Try.prog 35 #[.agg #[.int .i64 p.src, .int .i64 p.dst, .int .u32 p.seq, .int .u32 p.ack, .int .i64 p.flags, .int .i64 p.win, .int .i64 p.urg, .slice a1 n1 c1, .slice a2 n2 c2], .int .i64 m] w fun e w' => e = .returned (.bool (flagV p m)) ∧ Ext w w' := by
  obtain ⟨p0, p1, p2, p3, p4, p5, p6, p7, p8⟩ := p
  dsimp only [flagV] at *
  have hx : Ext w (w.alloc (.cells #[.int .i64 p0, .int .i64 p1, .int .u32 p2, .int .u32 p3, .int .i64 p4, .int .i64 p5, .int .i64 p6, .slice a1 n1 c1, .slice a2 n2 c2] 25)) := (Ext.refl w).alloc _
  go_enter Try.func35, Try.ntmps35
  go_wp2
  go_ret
  exact ⟨rfl, hx⟩

set_option maxHeartbeats 1000000 in
theorem room_any (p : SEGv) (a1 : Option Addr) (n1 c1 : Nat) (a2 : Option Addr) (n2 c2 : Nat) (w : World) (h2 : p.data.length = n2) (hn : n2 ≤ 1000000) :
    Calls Try.prog 36 #[.agg #[.int .i64 p.src, .int .i64 p.dst, .int .u32 p.seq, .int .u32 p.ack, .int .i64 p.flags, .int .i64 p.win, .int .i64 p.urg, .slice a1 n1 c1, .slice a2 n2 c2]] w fun e w' => e = .returned (.int .u32 (roomV p)) ∧ Ext w w' := by
  have c1' := fun w => has_any p 2 a1 n1 c1 a2 n2 c2 w
  have c2' := fun w => has_any p 1 a1 n1 c1 a2 n2 c2 w
  have e : roomV p = (n2 : Int) + (if flagV p 2 = true then 1 else 0) + (if flagV p 1 = true then 1 else 0) := by
    unfold roomV; rw [h2]; split <;> split <;> omega
  rw [e]
  clear e
  generalize flagV p 2 = F2 at *
  generalize flagV p 1 = F1 at *
  obtain ⟨p0, p1, p2, p3, p4, p5, p6, p7, p8⟩ := p
  dsimp only at *
  have hx : Ext w (w.alloc (.cells #[.int .i64 p0, .int .i64 p1, .int .u32 p2, .int .u32 p3, .int .i64 p4, .int .i64 p5, .int .i64 p6, .slice a1 n1 c1, .slice a2 n2 c2] 25)) := (Ext.refl w).alloc _
  obtain ⟨b0, b1, b2, b3, b4, b5, b6, b7, b8⟩ := box_segE (heap_new' w (.cells #[.int .i64 p0, .int .i64 p1, .int .u32 p2, .int .u32 p3, .int .i64 p4, .int .i64 p5, .int .i64 p6, .slice a1 n1 c1, .slice a2 n2 c2] 25))
  clear h2
  have tok1 : Hid True := trivial
  cases F2 <;> cases F1 <;> simp only [Bool.false_eq_true, if_true, if_false, Int.add_zero]
  all_goals
    go_enter Try.func36, Try.ntmps36
    go_wp2_with (first
      | (go_at_call 35; clear tok1; refine (c1' _).mono ?_; rintro e w1 ⟨rfl, hx1⟩)
      | (go_at_call 35; refine (c2' _).mono ?_; rintro e w2 ⟨rfl, hx2⟩))
    go_ret
    exact ⟨rfl, hx.trans (hx1.trans hx2)⟩

/-- What Reset answers. -/
def resetE (p : SEGv) : Ending := .returned (.tuple #[.agg #[.int .i64 (resetV p).src, .int .i64 (resetV p).dst, .int .u32 (resetV p).seq, .int .u32 (resetV p).ack, .int .i64 (resetV p).flags, .int .i64 (resetV p).win, .int .i64 (resetV p).urg, .slice none 0 0, .slice none 0 0], .bool (!(flagV p 4))])

theorem resetE_no {p : SEGv} (h : flagV p 4 = true) : resetE p = .returned (.tuple #[.agg #[.int .i64 0, .int .i64 0, .int .u32 0, .int .u32 0, .int .i64 0, .int .i64 0, .int .i64 0, .slice none 0 0, .slice none 0 0], .bool false]) := by
  have : resetV p = zeroSeg := by unfold resetV; rw [if_pos h]
  unfold resetE; rw [this, h]; rfl

theorem resetE_ack {p : SEGv} (h : flagV p 4 = false) (h' : flagV p 16 = true) : resetE p = .returned (.tuple #[.agg #[.int .i64 p.dst, .int .i64 p.src, .int .u32 p.ack, .int .u32 0, .int .i64 4, .int .i64 0, .int .i64 0, .slice none 0 0, .slice none 0 0], .bool true]) := by
  have : resetV p = ⟨p.dst, p.src, p.ack, 0, 4, 0, 0, [], []⟩ := by unfold resetV; rw [if_neg (by simp [h]), if_pos h']
  unfold resetE; rw [this, h]; rfl

theorem resetE_non {p : SEGv} (h : flagV p 4 = false) (h' : flagV p 16 = false) : resetE p = .returned (.tuple #[.agg #[.int .i64 p.dst, .int .i64 p.src, .int .u32 0, .int .u32 ((p.seq + roomV p) % 4294967296), .int .i64 20, .int .i64 0, .int .i64 0, .slice none 0 0, .slice none 0 0], .bool true]) := by
  have : resetV p = ⟨p.dst, p.src, 0, (p.seq + roomV p) % 4294967296, 20, 0, 0, [], []⟩ := by unfold resetV; rw [if_neg (by simp [h]), if_neg (by simp [h'])]
  unfold resetE; rw [this, h]; rfl

set_option maxHeartbeats 2000000 in
theorem reset_no (p : SEGv) (a1 : Option Addr) (n1 c1 : Nat) (a2 : Option Addr) (n2 c2 : Nat) (w : World) (h4 : flagV p 4 = true) :
    Calls Try.prog 16 #[.agg #[.int .i64 p.src, .int .i64 p.dst, .int .u32 p.seq, .int .u32 p.ack, .int .i64 p.flags, .int .i64 p.win, .int .i64 p.urg, .slice a1 n1 c1, .slice a2 n2 c2]] w fun e w' => e = resetE p ∧ Ext w w' := by
  have c1' := fun w => has_any p 4 a1 n1 c1 a2 n2 c2 w
  rw [resetE_no h4]
  rw [h4] at c1'
  clear h4
  obtain ⟨p0, p1, p2, p3, p4, p5, p6, p7, p8⟩ := p
  dsimp only at *
  have hx0 : Ext w (w.alloc (.cells #[.int .i64 p0, .int .i64 p1, .int .u32 p2, .int .u32 p3, .int .i64 p4, .int .i64 p5, .int .i64 p6, .slice a1 n1 c1, .slice a2 n2 c2] 25)) := (Ext.refl w).alloc _
  have hx : Ext w ((w.alloc (.cells #[.int .i64 p0, .int .i64 p1, .int .u32 p2, .int .u32 p3, .int .i64 p4, .int .i64 p5, .int .i64 p6, .slice a1 n1 c1, .slice a2 n2 c2] 25)).alloc (.cells #[.int .i64 0, .int .i64 0, .int .u32 0, .int .u32 0, .int .i64 0, .int .i64 0, .int .i64 0, .slice none 0 0, .slice none 0 0] 25)) := hx0.alloc _
  have hA := ((Ext.refl (w.alloc (.cells #[.int .i64 p0, .int .i64 p1, .int .u32 p2, .int .u32 p3, .int .i64 p4, .int .i64 p5, .int .i64 p6, .slice a1 n1 c1, .slice a2 n2 c2] 25))).alloc (.cells #[.int .i64 0, .int .i64 0, .int .u32 0, .int .u32 0, .int .i64 0, .int .i64 0, .int .i64 0, .slice none 0 0, .slice none 0 0] 25)).heap (heap_new' w (.cells #[.int .i64 p0, .int .i64 p1, .int .u32 p2, .int .u32 p3, .int .i64 p4, .int .i64 p5, .int .i64 p6, .slice a1 n1 c1, .slice a2 n2 c2] 25))
  have hB := heap_new' (w.alloc (.cells #[.int .i64 p0, .int .i64 p1, .int .u32 p2, .int .u32 p3, .int .i64 p4, .int .i64 p5, .int .i64 p6, .slice a1 n1 c1, .slice a2 n2 c2] 25)) (.cells #[.int .i64 0, .int .i64 0, .int .u32 0, .int .u32 0, .int .i64 0, .int .i64 0, .int .i64 0, .slice none 0 0, .slice none 0 0] 25)
  rw [show (w.alloc (.cells #[.int .i64 p0, .int .i64 p1, .int .u32 p2, .int .u32 p3, .int .i64 p4, .int .i64 p5, .int .i64 p6, .slice a1 n1 c1, .slice a2 n2 c2] 25)).heap.size = w.heap.size + 1 by simp] at hB
  have HB : Hid _ := hB
  clear hB hx0
  go_enter Try.func16, Try.ntmps16
  iterate 9 (first | go_values | go_skip | go_guarded | go_step | go_upon | go_in | go_simp)
  generalize ((w.alloc (.cells #[.int .i64 p0, .int .i64 p1, .int .u32 p2, .int .u32 p3, .int .i64 p4, .int .i64 p5, .int .i64 p6, .slice a1 n1 c1, .slice a2 n2 c2] 25)).alloc (.cells #[.int .i64 0, .int .i64 0, .int .u32 0, .int .u32 0, .int .i64 0, .int .i64 0, .int .i64 0, .slice none 0 0, .slice none 0 0] 25)) = W at *
  obtain ⟨b0, b1, b2, b3, b4, b5, b6, b7, b8⟩ := box_segE hA
  have hxW : Ext W W := Ext.refl W
  clear hA
  go_wp2_with (go_at_call 35; refine (c1' _).mono ?_; rintro e w1 ⟨rfl, hx1⟩; have k1 := hx1.heap HB.out; have K1 : Hid _ := k1; obtain ⟨d0, d1, d2, d3, d4, d5, d6, d7, d8⟩ := box_seg (x := w.heap.size + 2) k1 (by omega) w1 (ExtX.refl _ _); have f0 := frozen_ip k1; clear k1)
  have e0 := set_seg K1.out (.int .i64 0) (.int .i64 0) (.int .u32 0) (.int .u32 0) (.int .i64 0) (.int .i64 0) (.int .i64 0) (.slice none 0 0) (.slice none 0 0)
  have e1 := ext_set_seg (hx.trans hx1) (show w.heap.size ≤ w.heap.size + 1 by omega) (.int .i64 0) (.int .i64 0) (.int .u32 0) (.int .u32 0) (.int .i64 0) (.int .i64 0) (.int .i64 0) (.slice none 0 0) (.slice none 0 0)
  obtain ⟨q0, q1, q2, q3, q4, q5, q6, q7, q8⟩ := box_seg (x := w.heap.size + 2) e0 (by omega) _ (ExtX.refl _ _)
  exact bodyPost_ret (v := .tuple #[.agg #[.int .i64 0, .int .i64 0, .int .u32 0, .int .u32 0, .int .i64 0, .int .i64 0, .int .i64 0, .slice none 0 0, .slice none 0 0], .bool false])
    (by simp [results, Try.results16, go_sem, q0, q1, q2, q3, q4, q5, q6, q7, q8]) rfl ⟨rfl, e1⟩

/- made by tcp4.py: Resets that answer. -/

set_option maxHeartbeats 2000000 in
theorem reset_ack (p : SEGv) (a1 : Option Addr) (n1 c1 : Nat) (a2 : Option Addr) (n2 c2 : Nat) (w : World) (h4 : flagV p 4 = false) (h16 : flagV p 16 = true) :
    Calls Try.prog 16 #[.agg #[.int .i64 p.src, .int .i64 p.dst, .int .u32 p.seq, .int .u32 p.ack, .int .i64 p.flags, .int .i64 p.win, .int .i64 p.urg, .slice a1 n1 c1, .slice a2 n2 c2]] w fun e w' => e = resetE p ∧ Ext w w' := by
  have c1' := fun w => has_any p 4 a1 n1 c1 a2 n2 c2 w
  have c2' := fun w => has_any p 16 a1 n1 c1 a2 n2 c2 w
  rw [resetE_ack h4 h16]
  rw [h4] at c1'
  rw [h16] at c2'
  clear h4 h16
  obtain ⟨p0, p1, p2, p3, p4, p5, p6, p7, p8⟩ := p
  dsimp only at *
  have hx0 : Ext w (w.alloc (.cells #[.int .i64 p0, .int .i64 p1, .int .u32 p2, .int .u32 p3, .int .i64 p4, .int .i64 p5, .int .i64 p6, .slice a1 n1 c1, .slice a2 n2 c2] 25)) := (Ext.refl w).alloc _
  have hx : Ext w ((w.alloc (.cells #[.int .i64 p0, .int .i64 p1, .int .u32 p2, .int .u32 p3, .int .i64 p4, .int .i64 p5, .int .i64 p6, .slice a1 n1 c1, .slice a2 n2 c2] 25)).alloc (.cells #[.int .i64 0, .int .i64 0, .int .u32 0, .int .u32 0, .int .i64 0, .int .i64 0, .int .i64 0, .slice none 0 0, .slice none 0 0] 25)) := hx0.alloc _
  have hA := ((Ext.refl (w.alloc (.cells #[.int .i64 p0, .int .i64 p1, .int .u32 p2, .int .u32 p3, .int .i64 p4, .int .i64 p5, .int .i64 p6, .slice a1 n1 c1, .slice a2 n2 c2] 25))).alloc (.cells #[.int .i64 0, .int .i64 0, .int .u32 0, .int .u32 0, .int .i64 0, .int .i64 0, .int .i64 0, .slice none 0 0, .slice none 0 0] 25)).heap (heap_new' w (.cells #[.int .i64 p0, .int .i64 p1, .int .u32 p2, .int .u32 p3, .int .i64 p4, .int .i64 p5, .int .i64 p6, .slice a1 n1 c1, .slice a2 n2 c2] 25))
  have hB := heap_new' (w.alloc (.cells #[.int .i64 p0, .int .i64 p1, .int .u32 p2, .int .u32 p3, .int .i64 p4, .int .i64 p5, .int .i64 p6, .slice a1 n1 c1, .slice a2 n2 c2] 25)) (.cells #[.int .i64 0, .int .i64 0, .int .u32 0, .int .u32 0, .int .i64 0, .int .i64 0, .int .i64 0, .slice none 0 0, .slice none 0 0] 25)
  rw [show (w.alloc (.cells #[.int .i64 p0, .int .i64 p1, .int .u32 p2, .int .u32 p3, .int .i64 p4, .int .i64 p5, .int .i64 p6, .slice a1 n1 c1, .slice a2 n2 c2] 25)).heap.size = w.heap.size + 1 by simp] at hB
  have HB : Hid _ := hB
  have hsW : w.heap.size + 2 = ((w.alloc (.cells #[.int .i64 p0, .int .i64 p1, .int .u32 p2, .int .u32 p3, .int .i64 p4, .int .i64 p5, .int .i64 p6, .slice a1 n1 c1, .slice a2 n2 c2] 25)).alloc (.cells #[.int .i64 0, .int .i64 0, .int .u32 0, .int .u32 0, .int .i64 0, .int .i64 0, .int .i64 0, .slice none 0 0, .slice none 0 0] 25)).heap.size := by simp
  have HS : Hid _ := hsW
  clear hB hx0 hsW
  have tok1 : Hid True := trivial
  go_enter Try.func16, Try.ntmps16
  iterate 9 (first | go_values | go_skip | go_guarded | go_step | go_upon | go_in | go_simp)
  generalize ((w.alloc (.cells #[.int .i64 p0, .int .i64 p1, .int .u32 p2, .int .u32 p3, .int .i64 p4, .int .i64 p5, .int .i64 p6, .slice a1 n1 c1, .slice a2 n2 c2] 25)).alloc (.cells #[.int .i64 0, .int .i64 0, .int .u32 0, .int .u32 0, .int .i64 0, .int .i64 0, .int .i64 0, .slice none 0 0, .slice none 0 0] 25)) = W at *
  obtain ⟨b0, b1, b2, b3, b4, b5, b6, b7, b8⟩ := box_segE hA
  have hxW : Ext W W := Ext.refl W
  clear hA
  go_wp2_with (first
    | (go_at_call 35; clear tok1; refine (c1' _).mono ?_; rintro e w1 ⟨rfl, hx1⟩; have hs1 := hx1.size; have hXa : Ext W (w1.alloc (.cells #[.int .i64 p1, .int .i64 p0, .int .u32 0, .int .u32 0, .int .i64 4, .int .i64 0, .int .i64 0, .slice none 0 0, .slice none 0 0] 25)) := hx1.alloc _)
    | (go_at_call 35; refine (c2' _).mono ?_; rintro e w2 ⟨rfl, hx2⟩; have hW2 := hXa.trans hx2; have kg := hx2.heap (heap_new' w1 (.cells #[.int .i64 p1, .int .i64 p0, .int .u32 0, .int .u32 0, .int .i64 4, .int .i64 0, .int .i64 0, .slice none 0 0, .slice none 0 0] 25)); have kr := hW2.heap HB.out; have hne : w.heap.size + 1 ≠ w1.heap.size := (by have := HS.out; omega); have kg' := set_at 2 (.int .u32 p3) kg; have kr' := (((ExtX.refl w1.heap.size w2).setCell (p := ⟨w1.heap.size, 2, none⟩) rfl (.int .u32 p3)).block _ (block_of kr) hne).trans kr; simp only [List.set_cons_zero, List.set_cons_succ] at kg'; obtain ⟨g0, g1, g2, g3, g4, g5, g6, g7, g8⟩ := box_seg (x := w2.heap.size) kg (by have := block_of kg; omega) w2 (ExtX.refl _ _); have fg := frozen_ip kg; obtain ⟨h0, h1, h2, h3, h4, h5, h6, h7, h8⟩ := box_seg (x := (w2.setCell ⟨w1.heap.size, 2, none⟩ (.int .u32 p3)).heap.size) kg' (by have := block_of kg'; omega) (w2.setCell ⟨w1.heap.size, 2, none⟩ (.int .u32 p3)) (ExtX.refl _ _); obtain ⟨k0, k1, k2, k3, k4, k5, k6, k7, k8⟩ := box_seg (x := (w2.setCell ⟨w1.heap.size, 2, none⟩ (.int .u32 p3)).heap.size) kr' (by have := block_of kr'; omega) (w2.setCell ⟨w1.heap.size, 2, none⟩ (.int .u32 p3)) (ExtX.refl _ _); have fk := frozen_ip kr'; have KR : Hid _ := kr'; clear kg kr kg' kr'))
  have hXe : Ext w (w2.setCell ⟨w1.heap.size, 2, none⟩ (.int .u32 p3)) := ExtX.ext (hx.trans hW2) ((ExtX.refl w1.heap.size w2).setCell (p := ⟨w1.heap.size, 2, none⟩) rfl (.int .u32 p3)) (by have := hx.size; omega)
  have e0 := set_seg KR.out (.int .i64 p1) (.int .i64 p0) (.int .u32 p3) (.int .u32 0) (.int .i64 4) (.int .i64 0) (.int .i64 0) (.slice none 0 0) (.slice none 0 0)
  have e1 := ext_set_seg hXe (show w.heap.size ≤ w.heap.size + 1 by omega) (.int .i64 p1) (.int .i64 p0) (.int .u32 p3) (.int .u32 0) (.int .i64 4) (.int .i64 0) (.int .i64 0) (.slice none 0 0) (.slice none 0 0)
  obtain ⟨q0, q1, q2, q3, q4, q5, q6, q7, q8⟩ := box_seg (x := w.heap.size + 2) e0 (by omega) _ (ExtX.refl _ _)
  exact bodyPost_ret (v := .tuple #[.agg #[.int .i64 p1, .int .i64 p0, .int .u32 p3, .int .u32 0, .int .i64 4, .int .i64 0, .int .i64 0, .slice none 0 0, .slice none 0 0], .bool true])
    (by simp [results, Try.results16, go_sem, q0, q1, q2, q3, q4, q5, q6, q7, q8]) rfl ⟨rfl, e1⟩

set_option maxHeartbeats 2000000 in
theorem reset_non (p : SEGv) (a1 : Option Addr) (n1 c1 : Nat) (a2 : Option Addr) (n2 c2 : Nat) (w : World) (h4 : flagV p 4 = false) (h16 : flagV p 16 = false) (h2 : p.data.length = n2) (hn : n2 ≤ 1000000) (q0 : 0 ≤ p.seq) (q1 : p.seq ≤ 4294967295) :
    Calls Try.prog 16 #[.agg #[.int .i64 p.src, .int .i64 p.dst, .int .u32 p.seq, .int .u32 p.ack, .int .i64 p.flags, .int .i64 p.win, .int .i64 p.urg, .slice a1 n1 c1, .slice a2 n2 c2]] w fun e w' => e = resetE p ∧ Ext w w' := by
  have c1' := fun w => has_any p 4 a1 n1 c1 a2 n2 c2 w
  have c2' := fun w => has_any p 16 a1 n1 c1 a2 n2 c2 w
  have c3' := fun w => room_any p a1 n1 c1 a2 n2 c2 w h2 hn
  rw [resetE_non h4 h16]
  rw [h4] at c1'
  rw [h16] at c2'
  have hr : 0 ≤ roomV p ∧ roomV p ≤ 4294967295 := by unfold roomV; omega
  generalize roomV p = rm at *
  obtain ⟨ak, hak⟩ : ∃ ak, (p.seq + rm) % 4294967296 = ak := ⟨_, rfl⟩
  have hwr : IntKind.u32.wrap (p.seq + rm) = ak := by rw [← hak, IntKind.wrap_u32]
  rw [hak]
  clear h4 h16 h2 hak
  have o1 : bits .or .i64 4 16 = 20 := by decide
  obtain ⟨p0, p1, p2, p3, p4, p5, p6, p7, p8⟩ := p
  dsimp only at *
  have hx0 : Ext w (w.alloc (.cells #[.int .i64 p0, .int .i64 p1, .int .u32 p2, .int .u32 p3, .int .i64 p4, .int .i64 p5, .int .i64 p6, .slice a1 n1 c1, .slice a2 n2 c2] 25)) := (Ext.refl w).alloc _
  have hx : Ext w ((w.alloc (.cells #[.int .i64 p0, .int .i64 p1, .int .u32 p2, .int .u32 p3, .int .i64 p4, .int .i64 p5, .int .i64 p6, .slice a1 n1 c1, .slice a2 n2 c2] 25)).alloc (.cells #[.int .i64 0, .int .i64 0, .int .u32 0, .int .u32 0, .int .i64 0, .int .i64 0, .int .i64 0, .slice none 0 0, .slice none 0 0] 25)) := hx0.alloc _
  have hA := ((Ext.refl (w.alloc (.cells #[.int .i64 p0, .int .i64 p1, .int .u32 p2, .int .u32 p3, .int .i64 p4, .int .i64 p5, .int .i64 p6, .slice a1 n1 c1, .slice a2 n2 c2] 25))).alloc (.cells #[.int .i64 0, .int .i64 0, .int .u32 0, .int .u32 0, .int .i64 0, .int .i64 0, .int .i64 0, .slice none 0 0, .slice none 0 0] 25)).heap (heap_new' w (.cells #[.int .i64 p0, .int .i64 p1, .int .u32 p2, .int .u32 p3, .int .i64 p4, .int .i64 p5, .int .i64 p6, .slice a1 n1 c1, .slice a2 n2 c2] 25))
  have hB := heap_new' (w.alloc (.cells #[.int .i64 p0, .int .i64 p1, .int .u32 p2, .int .u32 p3, .int .i64 p4, .int .i64 p5, .int .i64 p6, .slice a1 n1 c1, .slice a2 n2 c2] 25)) (.cells #[.int .i64 0, .int .i64 0, .int .u32 0, .int .u32 0, .int .i64 0, .int .i64 0, .int .i64 0, .slice none 0 0, .slice none 0 0] 25)
  rw [show (w.alloc (.cells #[.int .i64 p0, .int .i64 p1, .int .u32 p2, .int .u32 p3, .int .i64 p4, .int .i64 p5, .int .i64 p6, .slice a1 n1 c1, .slice a2 n2 c2] 25)).heap.size = w.heap.size + 1 by simp] at hB
  have HB : Hid _ := hB
  have hsW : w.heap.size + 2 = ((w.alloc (.cells #[.int .i64 p0, .int .i64 p1, .int .u32 p2, .int .u32 p3, .int .i64 p4, .int .i64 p5, .int .i64 p6, .slice a1 n1 c1, .slice a2 n2 c2] 25)).alloc (.cells #[.int .i64 0, .int .i64 0, .int .u32 0, .int .u32 0, .int .i64 0, .int .i64 0, .int .i64 0, .slice none 0 0, .slice none 0 0] 25)).heap.size := by simp
  have HS : Hid _ := hsW
  clear hB hx0 hsW
  have tok1 : Hid True := trivial
  go_enter Try.func16, Try.ntmps16
  iterate 9 (first | go_values | go_skip | go_guarded | go_step | go_upon | go_in | go_simp)
  generalize ((w.alloc (.cells #[.int .i64 p0, .int .i64 p1, .int .u32 p2, .int .u32 p3, .int .i64 p4, .int .i64 p5, .int .i64 p6, .slice a1 n1 c1, .slice a2 n2 c2] 25)).alloc (.cells #[.int .i64 0, .int .i64 0, .int .u32 0, .int .u32 0, .int .i64 0, .int .i64 0, .int .i64 0, .slice none 0 0, .slice none 0 0] 25)) = W at *
  obtain ⟨b0, b1, b2, b3, b4, b5, b6, b7, b8⟩ := box_segE hA
  have hxW : Ext W W := Ext.refl W
  clear hA
  go_wp2_with (first
    | (go_at_call 35; clear tok1; refine (c1' _).mono ?_; rintro e w1 ⟨rfl, hx1⟩; have hs1 := hx1.size; have hXa : Ext W (w1.alloc (.cells #[.int .i64 p1, .int .i64 p0, .int .u32 0, .int .u32 0, .int .i64 4, .int .i64 0, .int .i64 0, .slice none 0 0, .slice none 0 0] 25)) := hx1.alloc _)
    | (go_at_call 35; refine (c2' _).mono ?_; rintro e w2 ⟨rfl, hx2⟩; have hW2 := hXa.trans hx2; have kg := hx2.heap (heap_new' w1 (.cells #[.int .i64 p1, .int .i64 p0, .int .u32 0, .int .u32 0, .int .i64 4, .int .i64 0, .int .i64 0, .slice none 0 0, .slice none 0 0] 25)); have KG : Hid _ := kg; obtain ⟨g0, g1, g2, g3, g4, g5, g6, g7, g8⟩ := box_seg (x := w2.heap.size) kg (by have := block_of kg; omega) w2 (ExtX.refl _ _); have fg := frozen_ip kg; clear kg))
  have hne : w.heap.size + 1 ≠ w1.heap.size := by have := HS.out; omega
  have kg' := set_at 4 (.int .i64 20) KG.out
  simp only [List.set_cons_zero, List.set_cons_succ] at kg'
  have hXs := (ExtX.refl w1.heap.size w2).setCell (p := ⟨w1.heap.size, 4, none⟩) rfl (.int .i64 20)
  have hWe : Ext W (w2.setCell ⟨w1.heap.size, 4, none⟩ (.int .i64 20)) := ExtX.ext hW2 hXs hs1
  have hWd : Ext W (w2.setCell ⟨w1.heap.size, 4, none⟩ (.int .i64 20)).drew := hWe.drew
  have kd : (w2.setCell ⟨w1.heap.size, 4, none⟩ (.int .i64 20)).drew.heap[w1.heap.size]? = some (.cells #[.int .i64 p1, .int .i64 p0, .int .u32 0, .int .u32 0, .int .i64 20, .int .i64 0, .int .i64 0, .slice none 0 0, .slice none 0 0] 25 (0, 0)) := kg'
  have KD : Hid _ := kd
  clear kg' kd hXs g0 g1 g2 g3 g4 g5 g6 g7 g8 fg hWe
  refine wp_region_eagerX w1.heap.size [(0, false), (1, false), (2, false), (3, true), (4, false), (5, false), (6, true)] (by kernel_rfl) (by kernel_rfl) rfl (by kernel_rfl) (fun _ _ _ _ _ h => h) ?_
  generalize (w2.setCell ⟨w1.heap.size, 4, none⟩ (.int .i64 20)).drew = V at *
  have y0 : ∀ w', ExtX w1.heap.size V w' → w'.cell? ⟨w.heap.size, 0, none⟩ = _ := fun w' hx => b0 w' (ExtX.ext hWd hx hs1)
  have y1 : ∀ w', ExtX w1.heap.size V w' → w'.cell? ⟨w.heap.size, 1, none⟩ = _ := fun w' hx => b1 w' (ExtX.ext hWd hx hs1)
  have y2 : ∀ w', ExtX w1.heap.size V w' → w'.cell? ⟨w.heap.size, 2, none⟩ = _ := fun w' hx => b2 w' (ExtX.ext hWd hx hs1)
  have y3 : ∀ w', ExtX w1.heap.size V w' → w'.cell? ⟨w.heap.size, 3, none⟩ = _ := fun w' hx => b3 w' (ExtX.ext hWd hx hs1)
  have y4 : ∀ w', ExtX w1.heap.size V w' → w'.cell? ⟨w.heap.size, 4, none⟩ = _ := fun w' hx => b4 w' (ExtX.ext hWd hx hs1)
  have y5 : ∀ w', ExtX w1.heap.size V w' → w'.cell? ⟨w.heap.size, 5, none⟩ = _ := fun w' hx => b5 w' (ExtX.ext hWd hx hs1)
  have y6 : ∀ w', ExtX w1.heap.size V w' → w'.cell? ⟨w.heap.size, 6, none⟩ = _ := fun w' hx => b6 w' (ExtX.ext hWd hx hs1)
  have y7 : ∀ w', ExtX w1.heap.size V w' → w'.cell? ⟨w.heap.size, 7, none⟩ = _ := fun w' hx => b7 w' (ExtX.ext hWd hx hs1)
  have y8 : ∀ w', ExtX w1.heap.size V w' → w'.cell? ⟨w.heap.size, 8, none⟩ = _ := fun w' hx => b8 w' (ExtX.ext hWd hx hs1)
  clear b0 b1 b2 b3 b4 b5 b6 b7 b8
  (refine wpE_read (v := ?_) rfl (by rfl) ?_ ?_; rotate_left; (focus (intro w' hx; go_simp; first | done | with_reducible rfl)); simp only [Act.put, List.setIfInBounds_toArray, List.set_cons_zero, List.set_cons_succ])
  (refine wpE_read (v := ?_) rfl (by rfl) ?_ ?_; rotate_left; (focus (intro w' hx; go_simp; first | done | with_reducible rfl)); simp only [Act.put, List.setIfInBounds_toArray, List.set_cons_zero, List.set_cons_succ])
  (refine wpE_read (v := ?_) rfl (by rfl) ?_ ?_; rotate_left; (focus (intro w' hx; go_simp; first | done | with_reducible rfl)); simp only [Act.put, List.setIfInBounds_toArray, List.set_cons_zero, List.set_cons_succ])
  refine wpE_call rfl (by rfl) (fun K hK => ?_); go_simp; (go_at_call 36; refine (c3' _).mono ?_; rintro e w3 ⟨rfl, hx3⟩; refine hK _ _ (hx3.but _) ?_; clear hK K)
  (refine wpE_read (v := ?_) rfl (by rfl) ?_ ?_; rotate_left; (focus (intro w' hx; go_simp; first | done | with_reducible rfl)); simp only [Act.put, List.setIfInBounds_toArray, List.set_cons_zero, List.set_cons_succ])
  (refine wpE_read (v := ?_) rfl (by rfl) ?_ ?_; rotate_left; (focus (intro w' hx; go_simp; first | done | with_reducible rfl)); simp only [Act.put, List.setIfInBounds_toArray, List.set_cons_zero, List.set_cons_succ])
  have m3 := hx3.heap KD.out
  have hW3 := hWd.trans hx3
  have kr := hW3.heap HB.out
  have m4 := set_at 3 (.int .u32 ak) m3
  simp only [List.set_cons_zero, List.set_cons_succ] at m4
  have hXs := (ExtX.refl w1.heap.size w3).setCell (p := ⟨w1.heap.size, 3, none⟩) rfl (.int .u32 ak)
  have kr' := (hXs.block _ (block_of kr) hne).trans kr
  obtain ⟨g0, g1, g2, g3, g4, g5, g6, g7, g8⟩ := box_seg (x := w3.heap.size) m3 (by have := block_of m3; omega) w3 (ExtX.refl _ _)
  have fg := frozen_ip m3
  refine wpE_call rfl (by rfl) (fun K hK => ?_)
  go_simp
  refine hK _ _ hXs ?_
  clear hK K
  refine wpE_done ?_
  have hXe : Ext w (w3.setCell ⟨w1.heap.size, 3, none⟩ (.int .u32 ak)) := ExtX.ext (hx.trans hW3) hXs (by have := hx.size; omega)
  obtain ⟨h0, h1, h2, h3, h4, h5, h6, h7, h8⟩ := box_seg (x := (w3.setCell ⟨w1.heap.size, 3, none⟩ (.int .u32 ak)).heap.size) m4 (by have := block_of m4; omega) (w3.setCell ⟨w1.heap.size, 3, none⟩ (.int .u32 ak)) (ExtX.refl _ _)
  obtain ⟨k0, k1, k2, k3, k4, k5, k6, k7, k8⟩ := box_seg (x := (w3.setCell ⟨w1.heap.size, 3, none⟩ (.int .u32 ak)).heap.size) kr' (by have := block_of kr'; omega) (w3.setCell ⟨w1.heap.size, 3, none⟩ (.int .u32 ak)) (ExtX.refl _ _)
  have fk := frozen_ip kr'
  have KR : Hid _ := kr'
  clear m3 m4 kr kr' hXs y0 y1 y2 y3 y4 y5 y6 y7 y8 g0 g1 g2 g3 g4 g5 g6 g7 g8 fg
  generalize (w3.setCell ⟨w1.heap.size, 3, none⟩ (.int .u32 ak)) = V3 at *
  go_wp2
  have e0 := set_seg KR.out (.int .i64 p1) (.int .i64 p0) (.int .u32 0) (.int .u32 ak) (.int .i64 20) (.int .i64 0) (.int .i64 0) (.slice none 0 0) (.slice none 0 0)
  have e1 := ext_set_seg hXe (show w.heap.size ≤ w.heap.size + 1 by omega) (.int .i64 p1) (.int .i64 p0) (.int .u32 0) (.int .u32 ak) (.int .i64 20) (.int .i64 0) (.int .i64 0) (.slice none 0 0) (.slice none 0 0)
  obtain ⟨q0, q1, q2, q3, q4, q5, q6, q7, q8⟩ := box_seg (x := w.heap.size + 2) e0 (by omega) _ (ExtX.refl _ _)
  exact bodyPost_ret (v := .tuple #[.agg #[.int .i64 p1, .int .i64 p0, .int .u32 0, .int .u32 ak, .int .i64 20, .int .i64 0, .int .i64 0, .slice none 0 0, .slice none 0 0], .bool true])
    (by simp [results, Try.results16, go_sem, q0, q1, q2, q3, q4, q5, q6, q7, q8]) rfl ⟨rfl, e1⟩

theorem reset_any (p : SEGv) (a1 : Option Addr) (n1 c1 : Nat) (a2 : Option Addr) (n2 c2 : Nat) (w : World) (h2 : p.data.length = n2) (hn : n2 ≤ 1000000) (q0 : 0 ≤ p.seq) (q1 : p.seq ≤ 4294967295) :
    Calls Try.prog 16 #[.agg #[.int .i64 p.src, .int .i64 p.dst, .int .u32 p.seq, .int .u32 p.ack, .int .i64 p.flags, .int .i64 p.win, .int .i64 p.urg, .slice a1 n1 c1, .slice a2 n2 c2]] w fun e w' => e = resetE p ∧ Ext w w' := by
  cases h4 : flagV p 4 with
  | true => exact reset_no p a1 n1 c1 a2 n2 c2 w h4
  | false =>
    cases h16 : flagV p 16 with
    | true => exact reset_ack p a1 n1 c1 a2 n2 c2 w h4 h16
    | false => exact reset_non p a1 n1 c1 a2 n2 c2 w h4 h16 h2 hn q0 q1

end Go.Proofs.Ytlinkbniihlagaa.Tcp
