/- What the document's own Reset answers of any segment (chapter 5). -/
import Derived.Test.YtlinkbniihlagaaTcp4
namespace Go.Proofs.Ytlinkbniihlagaa.Tcp
open Go.RowKit
set_option linter.unusedVariables false

set_option maxHeartbeats 2000000 in
theorem refReset_no (p : SEGv) (a1 : Option Addr) (n1 c1 : Nat) (a2 : Option Addr) (n2 c2 : Nat) (w : World) (h4 : flagV p 4 = true) :
    Calls Try.prog 17 #[.agg #[.int .i64 p.src, .int .i64 p.dst, .int .u32 p.seq, .int .u32 p.ack, .int .i64 p.flags, .int .i64 p.win, .int .i64 p.urg, .slice a1 n1 c1, .slice a2 n2 c2]] w fun e w' => e = resetE p ∧ Ext w w' := by
  rw [resetE_no h4]
  obtain ⟨p0, p1, p2, p3, p4, p5, p6, p7, p8⟩ := p
  dsimp only [flagV] at *
  have hx0 : Ext w (w.alloc (.cells #[.int .i64 p0, .int .i64 p1, .int .u32 p2, .int .u32 p3, .int .i64 p4, .int .i64 p5, .int .i64 p6, .slice a1 n1 c1, .slice a2 n2 c2] 25)) := (Ext.refl w).alloc _
  have hx : Ext w ((w.alloc (.cells #[.int .i64 p0, .int .i64 p1, .int .u32 p2, .int .u32 p3, .int .i64 p4, .int .i64 p5, .int .i64 p6, .slice a1 n1 c1, .slice a2 n2 c2] 25)).alloc (.cells #[.int .i64 0, .int .i64 0, .int .u32 0, .int .u32 0, .int .i64 0, .int .i64 0, .int .i64 0, .slice none 0 0, .slice none 0 0] 25)) := hx0.alloc _
  have hA := ((Ext.refl (w.alloc (.cells #[.int .i64 p0, .int .i64 p1, .int .u32 p2, .int .u32 p3, .int .i64 p4, .int .i64 p5, .int .i64 p6, .slice a1 n1 c1, .slice a2 n2 c2] 25))).alloc (.cells #[.int .i64 0, .int .i64 0, .int .u32 0, .int .u32 0, .int .i64 0, .int .i64 0, .int .i64 0, .slice none 0 0, .slice none 0 0] 25)).heap (heap_new' w (.cells #[.int .i64 p0, .int .i64 p1, .int .u32 p2, .int .u32 p3, .int .i64 p4, .int .i64 p5, .int .i64 p6, .slice a1 n1 c1, .slice a2 n2 c2] 25))
  have hB := heap_new' (w.alloc (.cells #[.int .i64 p0, .int .i64 p1, .int .u32 p2, .int .u32 p3, .int .i64 p4, .int .i64 p5, .int .i64 p6, .slice a1 n1 c1, .slice a2 n2 c2] 25)) (.cells #[.int .i64 0, .int .i64 0, .int .u32 0, .int .u32 0, .int .i64 0, .int .i64 0, .int .i64 0, .slice none 0 0, .slice none 0 0] 25)
  rw [show (w.alloc (.cells #[.int .i64 p0, .int .i64 p1, .int .u32 p2, .int .u32 p3, .int .i64 p4, .int .i64 p5, .int .i64 p6, .slice a1 n1 c1, .slice a2 n2 c2] 25)).heap.size = w.heap.size + 1 by simp] at hB
  have HB : Hid _ := hB
  clear hB hx0
  go_enter Try.func17, Try.ntmps17
  iterate 9 (first | go_values | go_skip | go_guarded | go_step | go_upon | go_in | go_simp)
  generalize ((w.alloc (.cells #[.int .i64 p0, .int .i64 p1, .int .u32 p2, .int .u32 p3, .int .i64 p4, .int .i64 p5, .int .i64 p6, .slice a1 n1 c1, .slice a2 n2 c2] 25)).alloc (.cells #[.int .i64 0, .int .i64 0, .int .u32 0, .int .u32 0, .int .i64 0, .int .i64 0, .int .i64 0, .slice none 0 0, .slice none 0 0] 25)) = W at *
  obtain ⟨b0, b1, b2, b3, b4, b5, b6, b7, b8⟩ := box_segE hA
  have hxW : Ext W W := Ext.refl W
  clear hA
  have kr := hxW.heap HB.out
  have KR : Hid _ := kr
  obtain ⟨d0, d1, d2, d3, d4, d5, d6, d7, d8⟩ := box_seg (x := w.heap.size + 2) kr (by omega) W (ExtX.refl _ _)
  have f0 := frozen_ip kr
  clear kr
  go_wp2
  have e0 := set_seg KR.out (.int .i64 0) (.int .i64 0) (.int .u32 0) (.int .u32 0) (.int .i64 0) (.int .i64 0) (.int .i64 0) (.slice none 0 0) (.slice none 0 0)
  have e1 := ext_set_seg (hx.trans hxW) (show w.heap.size ≤ w.heap.size + 1 by omega) (.int .i64 0) (.int .i64 0) (.int .u32 0) (.int .u32 0) (.int .i64 0) (.int .i64 0) (.int .i64 0) (.slice none 0 0) (.slice none 0 0)
  obtain ⟨q0, q1, q2, q3, q4, q5, q6, q7, q8⟩ := box_seg (x := w.heap.size + 2) e0 (by omega) _ (ExtX.refl _ _)
  exact bodyPost_ret (v := .tuple #[.agg #[.int .i64 0, .int .i64 0, .int .u32 0, .int .u32 0, .int .i64 0, .int .i64 0, .int .i64 0, .slice none 0 0, .slice none 0 0], .bool false])
    (by simp [results, Try.results17, go_sem, q0, q1, q2, q3, q4, q5, q6, q7, q8]) rfl ⟨rfl, e1⟩

set_option maxHeartbeats 2000000 in
theorem refReset_ack (p : SEGv) (a1 : Option Addr) (n1 c1 : Nat) (a2 : Option Addr) (n2 c2 : Nat) (w : World) (h4 : flagV p 4 = false) (h16 : flagV p 16 = true) :
    Calls Try.prog 17 #[.agg #[.int .i64 p.src, .int .i64 p.dst, .int .u32 p.seq, .int .u32 p.ack, .int .i64 p.flags, .int .i64 p.win, .int .i64 p.urg, .slice a1 n1 c1, .slice a2 n2 c2]] w fun e w' => e = resetE p ∧ Ext w w' := by
  rw [resetE_ack h4 h16]
  obtain ⟨p0, p1, p2, p3, p4, p5, p6, p7, p8⟩ := p
  dsimp only [flagV] at *
  have hx0 : Ext w (w.alloc (.cells #[.int .i64 p0, .int .i64 p1, .int .u32 p2, .int .u32 p3, .int .i64 p4, .int .i64 p5, .int .i64 p6, .slice a1 n1 c1, .slice a2 n2 c2] 25)) := (Ext.refl w).alloc _
  have hx : Ext w ((w.alloc (.cells #[.int .i64 p0, .int .i64 p1, .int .u32 p2, .int .u32 p3, .int .i64 p4, .int .i64 p5, .int .i64 p6, .slice a1 n1 c1, .slice a2 n2 c2] 25)).alloc (.cells #[.int .i64 0, .int .i64 0, .int .u32 0, .int .u32 0, .int .i64 0, .int .i64 0, .int .i64 0, .slice none 0 0, .slice none 0 0] 25)) := hx0.alloc _
  have hA := ((Ext.refl (w.alloc (.cells #[.int .i64 p0, .int .i64 p1, .int .u32 p2, .int .u32 p3, .int .i64 p4, .int .i64 p5, .int .i64 p6, .slice a1 n1 c1, .slice a2 n2 c2] 25))).alloc (.cells #[.int .i64 0, .int .i64 0, .int .u32 0, .int .u32 0, .int .i64 0, .int .i64 0, .int .i64 0, .slice none 0 0, .slice none 0 0] 25)).heap (heap_new' w (.cells #[.int .i64 p0, .int .i64 p1, .int .u32 p2, .int .u32 p3, .int .i64 p4, .int .i64 p5, .int .i64 p6, .slice a1 n1 c1, .slice a2 n2 c2] 25))
  have hB := heap_new' (w.alloc (.cells #[.int .i64 p0, .int .i64 p1, .int .u32 p2, .int .u32 p3, .int .i64 p4, .int .i64 p5, .int .i64 p6, .slice a1 n1 c1, .slice a2 n2 c2] 25)) (.cells #[.int .i64 0, .int .i64 0, .int .u32 0, .int .u32 0, .int .i64 0, .int .i64 0, .int .i64 0, .slice none 0 0, .slice none 0 0] 25)
  rw [show (w.alloc (.cells #[.int .i64 p0, .int .i64 p1, .int .u32 p2, .int .u32 p3, .int .i64 p4, .int .i64 p5, .int .i64 p6, .slice a1 n1 c1, .slice a2 n2 c2] 25)).heap.size = w.heap.size + 1 by simp] at hB
  have HB : Hid _ := hB
  clear hB hx0
  go_enter Try.func17, Try.ntmps17
  iterate 9 (first | go_values | go_skip | go_guarded | go_step | go_upon | go_in | go_simp)
  generalize ((w.alloc (.cells #[.int .i64 p0, .int .i64 p1, .int .u32 p2, .int .u32 p3, .int .i64 p4, .int .i64 p5, .int .i64 p6, .slice a1 n1 c1, .slice a2 n2 c2] 25)).alloc (.cells #[.int .i64 0, .int .i64 0, .int .u32 0, .int .u32 0, .int .i64 0, .int .i64 0, .int .i64 0, .slice none 0 0, .slice none 0 0] 25)) = W at *
  obtain ⟨b0, b1, b2, b3, b4, b5, b6, b7, b8⟩ := box_segE hA
  have hxW : Ext W W := Ext.refl W
  clear hA
  have hY0 : Ext W (W.alloc (.cells #[.int .i64 p1, .int .i64 p0, .int .u32 0, .int .u32 0, .int .i64 4, .int .i64 0, .int .i64 0, .slice none 0 0, .slice none 0 0] 25)) := hxW.alloc _
  have hY1 : Ext W (W.alloc (.cells #[.int .i64 p1, .int .i64 p0, .int .u32 p3, .int .u32 0, .int .i64 4, .int .i64 0, .int .i64 0, .slice none 0 0, .slice none 0 0] 25)) := hxW.alloc _
  have kr := hY1.heap HB.out
  have KR : Hid _ := kr
  obtain ⟨d0, d1, d2, d3, d4, d5, d6, d7, d8⟩ := box_seg (x := w.heap.size + 2) kr (by omega) (W.alloc (.cells #[.int .i64 p1, .int .i64 p0, .int .u32 p3, .int .u32 0, .int .i64 4, .int .i64 0, .int .i64 0, .slice none 0 0, .slice none 0 0] 25)) (ExtX.refl _ _)
  have f0 := frozen_ip kr
  clear kr
  go_wp2
  have e0 := set_seg KR.out (.int .i64 p1) (.int .i64 p0) (.int .u32 p3) (.int .u32 0) (.int .i64 4) (.int .i64 0) (.int .i64 0) (.slice none 0 0) (.slice none 0 0)
  have e1 := ext_set_seg (hx.trans hY1) (show w.heap.size ≤ w.heap.size + 1 by omega) (.int .i64 p1) (.int .i64 p0) (.int .u32 p3) (.int .u32 0) (.int .i64 4) (.int .i64 0) (.int .i64 0) (.slice none 0 0) (.slice none 0 0)
  obtain ⟨q0, q1, q2, q3, q4, q5, q6, q7, q8⟩ := box_seg (x := w.heap.size + 2) e0 (by omega) _ (ExtX.refl _ _)
  exact bodyPost_ret (v := .tuple #[.agg #[.int .i64 p1, .int .i64 p0, .int .u32 p3, .int .u32 0, .int .i64 4, .int .i64 0, .int .i64 0, .slice none 0 0, .slice none 0 0], .bool true])
    (by simp [results, Try.results17, go_sem, q0, q1, q2, q3, q4, q5, q6, q7, q8]) rfl ⟨rfl, e1⟩

set_option maxHeartbeats 2000000 in
theorem refReset_00 (p : SEGv) (a1 : Option Addr) (n1 c1 : Nat) (a2 : Option Addr) (n2 c2 : Nat) (w : World) (h4 : flagV p 4 = false) (h16 : flagV p 16 = false) (hf2 : flagV p 2 = false) (hf1 : flagV p 1 = false) (h2 : p.data.length = n2) (hn : n2 ≤ 1000000) (q0 : 0 ≤ p.seq) (q1 : p.seq ≤ 4294967295) :
    Calls Try.prog 17 #[.agg #[.int .i64 p.src, .int .i64 p.dst, .int .u32 p.seq, .int .u32 p.ack, .int .i64 p.flags, .int .i64 p.win, .int .i64 p.urg, .slice a1 n1 c1, .slice a2 n2 c2]] w fun e w' => e = resetE p ∧ Ext w w' := by
  rw [resetE_non h4 h16]
  have e : (p.seq + roomV p) % 4294967296 = ((p.seq + (n2 : Int)) % 4294967296) := by
    unfold roomV; rw [hf2, hf1, h2]; simp only [Bool.false_eq_true, if_false]; omega
  rw [e]
  clear e h2
  obtain ⟨p0, p1, p2, p3, p4, p5, p6, p7, p8⟩ := p
  dsimp only [flagV] at *
  have hx0 : Ext w (w.alloc (.cells #[.int .i64 p0, .int .i64 p1, .int .u32 p2, .int .u32 p3, .int .i64 p4, .int .i64 p5, .int .i64 p6, .slice a1 n1 c1, .slice a2 n2 c2] 25)) := (Ext.refl w).alloc _
  have hx : Ext w ((w.alloc (.cells #[.int .i64 p0, .int .i64 p1, .int .u32 p2, .int .u32 p3, .int .i64 p4, .int .i64 p5, .int .i64 p6, .slice a1 n1 c1, .slice a2 n2 c2] 25)).alloc (.cells #[.int .i64 0, .int .i64 0, .int .u32 0, .int .u32 0, .int .i64 0, .int .i64 0, .int .i64 0, .slice none 0 0, .slice none 0 0] 25)) := hx0.alloc _
  have hA := ((Ext.refl (w.alloc (.cells #[.int .i64 p0, .int .i64 p1, .int .u32 p2, .int .u32 p3, .int .i64 p4, .int .i64 p5, .int .i64 p6, .slice a1 n1 c1, .slice a2 n2 c2] 25))).alloc (.cells #[.int .i64 0, .int .i64 0, .int .u32 0, .int .u32 0, .int .i64 0, .int .i64 0, .int .i64 0, .slice none 0 0, .slice none 0 0] 25)).heap (heap_new' w (.cells #[.int .i64 p0, .int .i64 p1, .int .u32 p2, .int .u32 p3, .int .i64 p4, .int .i64 p5, .int .i64 p6, .slice a1 n1 c1, .slice a2 n2 c2] 25))
  have hB := heap_new' (w.alloc (.cells #[.int .i64 p0, .int .i64 p1, .int .u32 p2, .int .u32 p3, .int .i64 p4, .int .i64 p5, .int .i64 p6, .slice a1 n1 c1, .slice a2 n2 c2] 25)) (.cells #[.int .i64 0, .int .i64 0, .int .u32 0, .int .u32 0, .int .i64 0, .int .i64 0, .int .i64 0, .slice none 0 0, .slice none 0 0] 25)
  rw [show (w.alloc (.cells #[.int .i64 p0, .int .i64 p1, .int .u32 p2, .int .u32 p3, .int .i64 p4, .int .i64 p5, .int .i64 p6, .slice a1 n1 c1, .slice a2 n2 c2] 25)).heap.size = w.heap.size + 1 by simp] at hB
  have HB : Hid _ := hB
  clear hB hx0
  go_enter Try.func17, Try.ntmps17
  iterate 9 (first | go_values | go_skip | go_guarded | go_step | go_upon | go_in | go_simp)
  generalize ((w.alloc (.cells #[.int .i64 p0, .int .i64 p1, .int .u32 p2, .int .u32 p3, .int .i64 p4, .int .i64 p5, .int .i64 p6, .slice a1 n1 c1, .slice a2 n2 c2] 25)).alloc (.cells #[.int .i64 0, .int .i64 0, .int .u32 0, .int .u32 0, .int .i64 0, .int .i64 0, .int .i64 0, .slice none 0 0, .slice none 0 0] 25)) = W at *
  obtain ⟨b0, b1, b2, b3, b4, b5, b6, b7, b8⟩ := box_segE hA
  have hxW : Ext W W := Ext.refl W
  clear hA
  have hY0 : Ext W (W.alloc (.cells #[.int .i64 p1, .int .i64 p0, .int .u32 0, .int .u32 0, .int .i64 4, .int .i64 0, .int .i64 0, .slice none 0 0, .slice none 0 0] 25)) := hxW.alloc _
  have hY1 : Ext W (W.alloc (.cells #[.int .i64 p1, .int .i64 p0, .int .u32 0, .int .u32 0, .int .i64 20, .int .i64 0, .int .i64 0, .slice none 0 0, .slice none 0 0] 25)) := hxW.alloc _
  have hY2 : Ext W (W.alloc (.cells #[.int .i64 p1, .int .i64 p0, .int .u32 0, .int .u32 ((p2 + (n2 : Int)) % 4294967296), .int .i64 20, .int .i64 0, .int .i64 0, .slice none 0 0, .slice none 0 0] 25)) := hxW.alloc _
  have kr := hY2.heap HB.out
  have KR : Hid _ := kr
  obtain ⟨d0, d1, d2, d3, d4, d5, d6, d7, d8⟩ := box_seg (x := w.heap.size + 2) kr (by omega) (W.alloc (.cells #[.int .i64 p1, .int .i64 p0, .int .u32 0, .int .u32 ((p2 + (n2 : Int)) % 4294967296), .int .i64 20, .int .i64 0, .int .i64 0, .slice none 0 0, .slice none 0 0] 25)) (ExtX.refl _ _)
  have f0 := frozen_ip kr
  clear kr
  go_wp2
  have e0 := set_seg KR.out (.int .i64 p1) (.int .i64 p0) (.int .u32 0) (.int .u32 ((p2 + (n2 : Int)) % 4294967296)) (.int .i64 20) (.int .i64 0) (.int .i64 0) (.slice none 0 0) (.slice none 0 0)
  have e1 := ext_set_seg (hx.trans hY2) (show w.heap.size ≤ w.heap.size + 1 by omega) (.int .i64 p1) (.int .i64 p0) (.int .u32 0) (.int .u32 ((p2 + (n2 : Int)) % 4294967296)) (.int .i64 20) (.int .i64 0) (.int .i64 0) (.slice none 0 0) (.slice none 0 0)
  obtain ⟨q0, q1, q2, q3, q4, q5, q6, q7, q8⟩ := box_seg (x := w.heap.size + 2) e0 (by omega) _ (ExtX.refl _ _)
  exact bodyPost_ret (v := .tuple #[.agg #[.int .i64 p1, .int .i64 p0, .int .u32 0, .int .u32 ((p2 + (n2 : Int)) % 4294967296), .int .i64 20, .int .i64 0, .int .i64 0, .slice none 0 0, .slice none 0 0], .bool true])
    (by simp [results, Try.results17, go_sem, q0, q1, q2, q3, q4, q5, q6, q7, q8]) rfl ⟨rfl, e1⟩

set_option maxHeartbeats 2000000 in
theorem refReset_01 (p : SEGv) (a1 : Option Addr) (n1 c1 : Nat) (a2 : Option Addr) (n2 c2 : Nat) (w : World) (h4 : flagV p 4 = false) (h16 : flagV p 16 = false) (hf2 : flagV p 2 = false) (hf1 : flagV p 1 = true) (h2 : p.data.length = n2) (hn : n2 ≤ 1000000) (q0 : 0 ≤ p.seq) (q1 : p.seq ≤ 4294967295) :
    Calls Try.prog 17 #[.agg #[.int .i64 p.src, .int .i64 p.dst, .int .u32 p.seq, .int .u32 p.ack, .int .i64 p.flags, .int .i64 p.win, .int .i64 p.urg, .slice a1 n1 c1, .slice a2 n2 c2]] w fun e w' => e = resetE p ∧ Ext w w' := by
  rw [resetE_non h4 h16]
  have e : (p.seq + roomV p) % 4294967296 = ((p.seq + (n2 : Int) + 1) % 4294967296) := by
    unfold roomV; rw [hf2, hf1, h2]; simp only [Bool.false_eq_true, if_true, if_false]; omega
  rw [e]
  clear e h2
  obtain ⟨p0, p1, p2, p3, p4, p5, p6, p7, p8⟩ := p
  dsimp only [flagV] at *
  have hx0 : Ext w (w.alloc (.cells #[.int .i64 p0, .int .i64 p1, .int .u32 p2, .int .u32 p3, .int .i64 p4, .int .i64 p5, .int .i64 p6, .slice a1 n1 c1, .slice a2 n2 c2] 25)) := (Ext.refl w).alloc _
  have hx : Ext w ((w.alloc (.cells #[.int .i64 p0, .int .i64 p1, .int .u32 p2, .int .u32 p3, .int .i64 p4, .int .i64 p5, .int .i64 p6, .slice a1 n1 c1, .slice a2 n2 c2] 25)).alloc (.cells #[.int .i64 0, .int .i64 0, .int .u32 0, .int .u32 0, .int .i64 0, .int .i64 0, .int .i64 0, .slice none 0 0, .slice none 0 0] 25)) := hx0.alloc _
  have hA := ((Ext.refl (w.alloc (.cells #[.int .i64 p0, .int .i64 p1, .int .u32 p2, .int .u32 p3, .int .i64 p4, .int .i64 p5, .int .i64 p6, .slice a1 n1 c1, .slice a2 n2 c2] 25))).alloc (.cells #[.int .i64 0, .int .i64 0, .int .u32 0, .int .u32 0, .int .i64 0, .int .i64 0, .int .i64 0, .slice none 0 0, .slice none 0 0] 25)).heap (heap_new' w (.cells #[.int .i64 p0, .int .i64 p1, .int .u32 p2, .int .u32 p3, .int .i64 p4, .int .i64 p5, .int .i64 p6, .slice a1 n1 c1, .slice a2 n2 c2] 25))
  have hB := heap_new' (w.alloc (.cells #[.int .i64 p0, .int .i64 p1, .int .u32 p2, .int .u32 p3, .int .i64 p4, .int .i64 p5, .int .i64 p6, .slice a1 n1 c1, .slice a2 n2 c2] 25)) (.cells #[.int .i64 0, .int .i64 0, .int .u32 0, .int .u32 0, .int .i64 0, .int .i64 0, .int .i64 0, .slice none 0 0, .slice none 0 0] 25)
  rw [show (w.alloc (.cells #[.int .i64 p0, .int .i64 p1, .int .u32 p2, .int .u32 p3, .int .i64 p4, .int .i64 p5, .int .i64 p6, .slice a1 n1 c1, .slice a2 n2 c2] 25)).heap.size = w.heap.size + 1 by simp] at hB
  have HB : Hid _ := hB
  clear hB hx0
  go_enter Try.func17, Try.ntmps17
  iterate 9 (first | go_values | go_skip | go_guarded | go_step | go_upon | go_in | go_simp)
  generalize ((w.alloc (.cells #[.int .i64 p0, .int .i64 p1, .int .u32 p2, .int .u32 p3, .int .i64 p4, .int .i64 p5, .int .i64 p6, .slice a1 n1 c1, .slice a2 n2 c2] 25)).alloc (.cells #[.int .i64 0, .int .i64 0, .int .u32 0, .int .u32 0, .int .i64 0, .int .i64 0, .int .i64 0, .slice none 0 0, .slice none 0 0] 25)) = W at *
  obtain ⟨b0, b1, b2, b3, b4, b5, b6, b7, b8⟩ := box_segE hA
  have hxW : Ext W W := Ext.refl W
  clear hA
  have hY0 : Ext W (W.alloc (.cells #[.int .i64 p1, .int .i64 p0, .int .u32 0, .int .u32 0, .int .i64 4, .int .i64 0, .int .i64 0, .slice none 0 0, .slice none 0 0] 25)) := hxW.alloc _
  have hY1 : Ext W (W.alloc (.cells #[.int .i64 p1, .int .i64 p0, .int .u32 0, .int .u32 0, .int .i64 20, .int .i64 0, .int .i64 0, .slice none 0 0, .slice none 0 0] 25)) := hxW.alloc _
  have hY2 : Ext W (W.alloc (.cells #[.int .i64 p1, .int .i64 p0, .int .u32 0, .int .u32 ((p2 + (n2 : Int)) % 4294967296), .int .i64 20, .int .i64 0, .int .i64 0, .slice none 0 0, .slice none 0 0] 25)) := hxW.alloc _
  have hY3 : Ext W (W.alloc (.cells #[.int .i64 p1, .int .i64 p0, .int .u32 0, .int .u32 ((p2 + (n2 : Int) + 1) % 4294967296), .int .i64 20, .int .i64 0, .int .i64 0, .slice none 0 0, .slice none 0 0] 25)) := hxW.alloc _
  have kr := hY3.heap HB.out
  have KR : Hid _ := kr
  obtain ⟨d0, d1, d2, d3, d4, d5, d6, d7, d8⟩ := box_seg (x := w.heap.size + 2) kr (by omega) (W.alloc (.cells #[.int .i64 p1, .int .i64 p0, .int .u32 0, .int .u32 ((p2 + (n2 : Int) + 1) % 4294967296), .int .i64 20, .int .i64 0, .int .i64 0, .slice none 0 0, .slice none 0 0] 25)) (ExtX.refl _ _)
  have f0 := frozen_ip kr
  clear kr
  go_wp2
  have e0 := set_seg KR.out (.int .i64 p1) (.int .i64 p0) (.int .u32 0) (.int .u32 ((p2 + (n2 : Int) + 1) % 4294967296)) (.int .i64 20) (.int .i64 0) (.int .i64 0) (.slice none 0 0) (.slice none 0 0)
  have e1 := ext_set_seg (hx.trans hY3) (show w.heap.size ≤ w.heap.size + 1 by omega) (.int .i64 p1) (.int .i64 p0) (.int .u32 0) (.int .u32 ((p2 + (n2 : Int) + 1) % 4294967296)) (.int .i64 20) (.int .i64 0) (.int .i64 0) (.slice none 0 0) (.slice none 0 0)
  obtain ⟨q0, q1, q2, q3, q4, q5, q6, q7, q8⟩ := box_seg (x := w.heap.size + 2) e0 (by omega) _ (ExtX.refl _ _)
  exact bodyPost_ret (v := .tuple #[.agg #[.int .i64 p1, .int .i64 p0, .int .u32 0, .int .u32 ((p2 + (n2 : Int) + 1) % 4294967296), .int .i64 20, .int .i64 0, .int .i64 0, .slice none 0 0, .slice none 0 0], .bool true])
    (by simp [results, Try.results17, go_sem, q0, q1, q2, q3, q4, q5, q6, q7, q8]) rfl ⟨rfl, e1⟩

set_option maxHeartbeats 2000000 in
theorem refReset_10 (p : SEGv) (a1 : Option Addr) (n1 c1 : Nat) (a2 : Option Addr) (n2 c2 : Nat) (w : World) (h4 : flagV p 4 = false) (h16 : flagV p 16 = false) (hf2 : flagV p 2 = true) (hf1 : flagV p 1 = false) (h2 : p.data.length = n2) (hn : n2 ≤ 1000000) (q0 : 0 ≤ p.seq) (q1 : p.seq ≤ 4294967295) :
    Calls Try.prog 17 #[.agg #[.int .i64 p.src, .int .i64 p.dst, .int .u32 p.seq, .int .u32 p.ack, .int .i64 p.flags, .int .i64 p.win, .int .i64 p.urg, .slice a1 n1 c1, .slice a2 n2 c2]] w fun e w' => e = resetE p ∧ Ext w w' := by
  rw [resetE_non h4 h16]
  have e : (p.seq + roomV p) % 4294967296 = ((p.seq + (n2 : Int) + 1) % 4294967296) := by
    unfold roomV; rw [hf2, hf1, h2]; simp only [Bool.false_eq_true, if_true, if_false]; omega
  rw [e]
  clear e h2
  obtain ⟨p0, p1, p2, p3, p4, p5, p6, p7, p8⟩ := p
  dsimp only [flagV] at *
  have hx0 : Ext w (w.alloc (.cells #[.int .i64 p0, .int .i64 p1, .int .u32 p2, .int .u32 p3, .int .i64 p4, .int .i64 p5, .int .i64 p6, .slice a1 n1 c1, .slice a2 n2 c2] 25)) := (Ext.refl w).alloc _
  have hx : Ext w ((w.alloc (.cells #[.int .i64 p0, .int .i64 p1, .int .u32 p2, .int .u32 p3, .int .i64 p4, .int .i64 p5, .int .i64 p6, .slice a1 n1 c1, .slice a2 n2 c2] 25)).alloc (.cells #[.int .i64 0, .int .i64 0, .int .u32 0, .int .u32 0, .int .i64 0, .int .i64 0, .int .i64 0, .slice none 0 0, .slice none 0 0] 25)) := hx0.alloc _
  have hA := ((Ext.refl (w.alloc (.cells #[.int .i64 p0, .int .i64 p1, .int .u32 p2, .int .u32 p3, .int .i64 p4, .int .i64 p5, .int .i64 p6, .slice a1 n1 c1, .slice a2 n2 c2] 25))).alloc (.cells #[.int .i64 0, .int .i64 0, .int .u32 0, .int .u32 0, .int .i64 0, .int .i64 0, .int .i64 0, .slice none 0 0, .slice none 0 0] 25)).heap (heap_new' w (.cells #[.int .i64 p0, .int .i64 p1, .int .u32 p2, .int .u32 p3, .int .i64 p4, .int .i64 p5, .int .i64 p6, .slice a1 n1 c1, .slice a2 n2 c2] 25))
  have hB := heap_new' (w.alloc (.cells #[.int .i64 p0, .int .i64 p1, .int .u32 p2, .int .u32 p3, .int .i64 p4, .int .i64 p5, .int .i64 p6, .slice a1 n1 c1, .slice a2 n2 c2] 25)) (.cells #[.int .i64 0, .int .i64 0, .int .u32 0, .int .u32 0, .int .i64 0, .int .i64 0, .int .i64 0, .slice none 0 0, .slice none 0 0] 25)
  rw [show (w.alloc (.cells #[.int .i64 p0, .int .i64 p1, .int .u32 p2, .int .u32 p3, .int .i64 p4, .int .i64 p5, .int .i64 p6, .slice a1 n1 c1, .slice a2 n2 c2] 25)).heap.size = w.heap.size + 1 by simp] at hB
  have HB : Hid _ := hB
  clear hB hx0
  go_enter Try.func17, Try.ntmps17
  iterate 9 (first | go_values | go_skip | go_guarded | go_step | go_upon | go_in | go_simp)
  generalize ((w.alloc (.cells #[.int .i64 p0, .int .i64 p1, .int .u32 p2, .int .u32 p3, .int .i64 p4, .int .i64 p5, .int .i64 p6, .slice a1 n1 c1, .slice a2 n2 c2] 25)).alloc (.cells #[.int .i64 0, .int .i64 0, .int .u32 0, .int .u32 0, .int .i64 0, .int .i64 0, .int .i64 0, .slice none 0 0, .slice none 0 0] 25)) = W at *
  obtain ⟨b0, b1, b2, b3, b4, b5, b6, b7, b8⟩ := box_segE hA
  have hxW : Ext W W := Ext.refl W
  clear hA
  have hY0 : Ext W (W.alloc (.cells #[.int .i64 p1, .int .i64 p0, .int .u32 0, .int .u32 0, .int .i64 4, .int .i64 0, .int .i64 0, .slice none 0 0, .slice none 0 0] 25)) := hxW.alloc _
  have hY1 : Ext W (W.alloc (.cells #[.int .i64 p1, .int .i64 p0, .int .u32 0, .int .u32 0, .int .i64 20, .int .i64 0, .int .i64 0, .slice none 0 0, .slice none 0 0] 25)) := hxW.alloc _
  have hY2 : Ext W (W.alloc (.cells #[.int .i64 p1, .int .i64 p0, .int .u32 0, .int .u32 ((p2 + (n2 : Int)) % 4294967296), .int .i64 20, .int .i64 0, .int .i64 0, .slice none 0 0, .slice none 0 0] 25)) := hxW.alloc _
  have hY3 : Ext W (W.alloc (.cells #[.int .i64 p1, .int .i64 p0, .int .u32 0, .int .u32 ((p2 + (n2 : Int) + 1) % 4294967296), .int .i64 20, .int .i64 0, .int .i64 0, .slice none 0 0, .slice none 0 0] 25)) := hxW.alloc _
  have kr := hY3.heap HB.out
  have KR : Hid _ := kr
  obtain ⟨d0, d1, d2, d3, d4, d5, d6, d7, d8⟩ := box_seg (x := w.heap.size + 2) kr (by omega) (W.alloc (.cells #[.int .i64 p1, .int .i64 p0, .int .u32 0, .int .u32 ((p2 + (n2 : Int) + 1) % 4294967296), .int .i64 20, .int .i64 0, .int .i64 0, .slice none 0 0, .slice none 0 0] 25)) (ExtX.refl _ _)
  have f0 := frozen_ip kr
  clear kr
  go_wp2
  have e0 := set_seg KR.out (.int .i64 p1) (.int .i64 p0) (.int .u32 0) (.int .u32 ((p2 + (n2 : Int) + 1) % 4294967296)) (.int .i64 20) (.int .i64 0) (.int .i64 0) (.slice none 0 0) (.slice none 0 0)
  have e1 := ext_set_seg (hx.trans hY3) (show w.heap.size ≤ w.heap.size + 1 by omega) (.int .i64 p1) (.int .i64 p0) (.int .u32 0) (.int .u32 ((p2 + (n2 : Int) + 1) % 4294967296)) (.int .i64 20) (.int .i64 0) (.int .i64 0) (.slice none 0 0) (.slice none 0 0)
  obtain ⟨q0, q1, q2, q3, q4, q5, q6, q7, q8⟩ := box_seg (x := w.heap.size + 2) e0 (by omega) _ (ExtX.refl _ _)
  exact bodyPost_ret (v := .tuple #[.agg #[.int .i64 p1, .int .i64 p0, .int .u32 0, .int .u32 ((p2 + (n2 : Int) + 1) % 4294967296), .int .i64 20, .int .i64 0, .int .i64 0, .slice none 0 0, .slice none 0 0], .bool true])
    (by simp [results, Try.results17, go_sem, q0, q1, q2, q3, q4, q5, q6, q7, q8]) rfl ⟨rfl, e1⟩

set_option maxHeartbeats 2000000 in
theorem refReset_11 (p : SEGv) (a1 : Option Addr) (n1 c1 : Nat) (a2 : Option Addr) (n2 c2 : Nat) (w : World) (h4 : flagV p 4 = false) (h16 : flagV p 16 = false) (hf2 : flagV p 2 = true) (hf1 : flagV p 1 = true) (h2 : p.data.length = n2) (hn : n2 ≤ 1000000) (q0 : 0 ≤ p.seq) (q1 : p.seq ≤ 4294967295) :
    Calls Try.prog 17 #[.agg #[.int .i64 p.src, .int .i64 p.dst, .int .u32 p.seq, .int .u32 p.ack, .int .i64 p.flags, .int .i64 p.win, .int .i64 p.urg, .slice a1 n1 c1, .slice a2 n2 c2]] w fun e w' => e = resetE p ∧ Ext w w' := by
  rw [resetE_non h4 h16]
  have e : (p.seq + roomV p) % 4294967296 = ((p.seq + (n2 : Int) + 1 + 1) % 4294967296) := by
    unfold roomV; rw [hf2, hf1, h2]; simp only [if_true]; omega
  rw [e]
  clear e h2
  obtain ⟨p0, p1, p2, p3, p4, p5, p6, p7, p8⟩ := p
  dsimp only [flagV] at *
  have hx0 : Ext w (w.alloc (.cells #[.int .i64 p0, .int .i64 p1, .int .u32 p2, .int .u32 p3, .int .i64 p4, .int .i64 p5, .int .i64 p6, .slice a1 n1 c1, .slice a2 n2 c2] 25)) := (Ext.refl w).alloc _
  have hx : Ext w ((w.alloc (.cells #[.int .i64 p0, .int .i64 p1, .int .u32 p2, .int .u32 p3, .int .i64 p4, .int .i64 p5, .int .i64 p6, .slice a1 n1 c1, .slice a2 n2 c2] 25)).alloc (.cells #[.int .i64 0, .int .i64 0, .int .u32 0, .int .u32 0, .int .i64 0, .int .i64 0, .int .i64 0, .slice none 0 0, .slice none 0 0] 25)) := hx0.alloc _
  have hA := ((Ext.refl (w.alloc (.cells #[.int .i64 p0, .int .i64 p1, .int .u32 p2, .int .u32 p3, .int .i64 p4, .int .i64 p5, .int .i64 p6, .slice a1 n1 c1, .slice a2 n2 c2] 25))).alloc (.cells #[.int .i64 0, .int .i64 0, .int .u32 0, .int .u32 0, .int .i64 0, .int .i64 0, .int .i64 0, .slice none 0 0, .slice none 0 0] 25)).heap (heap_new' w (.cells #[.int .i64 p0, .int .i64 p1, .int .u32 p2, .int .u32 p3, .int .i64 p4, .int .i64 p5, .int .i64 p6, .slice a1 n1 c1, .slice a2 n2 c2] 25))
  have hB := heap_new' (w.alloc (.cells #[.int .i64 p0, .int .i64 p1, .int .u32 p2, .int .u32 p3, .int .i64 p4, .int .i64 p5, .int .i64 p6, .slice a1 n1 c1, .slice a2 n2 c2] 25)) (.cells #[.int .i64 0, .int .i64 0, .int .u32 0, .int .u32 0, .int .i64 0, .int .i64 0, .int .i64 0, .slice none 0 0, .slice none 0 0] 25)
  rw [show (w.alloc (.cells #[.int .i64 p0, .int .i64 p1, .int .u32 p2, .int .u32 p3, .int .i64 p4, .int .i64 p5, .int .i64 p6, .slice a1 n1 c1, .slice a2 n2 c2] 25)).heap.size = w.heap.size + 1 by simp] at hB
  have HB : Hid _ := hB
  clear hB hx0
  go_enter Try.func17, Try.ntmps17
  iterate 9 (first | go_values | go_skip | go_guarded | go_step | go_upon | go_in | go_simp)
  generalize ((w.alloc (.cells #[.int .i64 p0, .int .i64 p1, .int .u32 p2, .int .u32 p3, .int .i64 p4, .int .i64 p5, .int .i64 p6, .slice a1 n1 c1, .slice a2 n2 c2] 25)).alloc (.cells #[.int .i64 0, .int .i64 0, .int .u32 0, .int .u32 0, .int .i64 0, .int .i64 0, .int .i64 0, .slice none 0 0, .slice none 0 0] 25)) = W at *
  obtain ⟨b0, b1, b2, b3, b4, b5, b6, b7, b8⟩ := box_segE hA
  have hxW : Ext W W := Ext.refl W
  clear hA
  have hY0 : Ext W (W.alloc (.cells #[.int .i64 p1, .int .i64 p0, .int .u32 0, .int .u32 0, .int .i64 4, .int .i64 0, .int .i64 0, .slice none 0 0, .slice none 0 0] 25)) := hxW.alloc _
  have hY1 : Ext W (W.alloc (.cells #[.int .i64 p1, .int .i64 p0, .int .u32 0, .int .u32 0, .int .i64 20, .int .i64 0, .int .i64 0, .slice none 0 0, .slice none 0 0] 25)) := hxW.alloc _
  have hY2 : Ext W (W.alloc (.cells #[.int .i64 p1, .int .i64 p0, .int .u32 0, .int .u32 ((p2 + (n2 : Int)) % 4294967296), .int .i64 20, .int .i64 0, .int .i64 0, .slice none 0 0, .slice none 0 0] 25)) := hxW.alloc _
  have hY3 : Ext W (W.alloc (.cells #[.int .i64 p1, .int .i64 p0, .int .u32 0, .int .u32 ((p2 + (n2 : Int) + 1) % 4294967296), .int .i64 20, .int .i64 0, .int .i64 0, .slice none 0 0, .slice none 0 0] 25)) := hxW.alloc _
  have hY4 : Ext W (W.alloc (.cells #[.int .i64 p1, .int .i64 p0, .int .u32 0, .int .u32 ((p2 + (n2 : Int) + 1 + 1) % 4294967296), .int .i64 20, .int .i64 0, .int .i64 0, .slice none 0 0, .slice none 0 0] 25)) := hxW.alloc _
  have kr := hY4.heap HB.out
  have KR : Hid _ := kr
  obtain ⟨d0, d1, d2, d3, d4, d5, d6, d7, d8⟩ := box_seg (x := w.heap.size + 2) kr (by omega) (W.alloc (.cells #[.int .i64 p1, .int .i64 p0, .int .u32 0, .int .u32 ((p2 + (n2 : Int) + 1 + 1) % 4294967296), .int .i64 20, .int .i64 0, .int .i64 0, .slice none 0 0, .slice none 0 0] 25)) (ExtX.refl _ _)
  have f0 := frozen_ip kr
  clear kr
  go_wp2
  have e0 := set_seg KR.out (.int .i64 p1) (.int .i64 p0) (.int .u32 0) (.int .u32 ((p2 + (n2 : Int) + 1 + 1) % 4294967296)) (.int .i64 20) (.int .i64 0) (.int .i64 0) (.slice none 0 0) (.slice none 0 0)
  have e1 := ext_set_seg (hx.trans hY4) (show w.heap.size ≤ w.heap.size + 1 by omega) (.int .i64 p1) (.int .i64 p0) (.int .u32 0) (.int .u32 ((p2 + (n2 : Int) + 1 + 1) % 4294967296)) (.int .i64 20) (.int .i64 0) (.int .i64 0) (.slice none 0 0) (.slice none 0 0)
  obtain ⟨q0, q1, q2, q3, q4, q5, q6, q7, q8⟩ := box_seg (x := w.heap.size + 2) e0 (by omega) _ (ExtX.refl _ _)
  exact bodyPost_ret (v := .tuple #[.agg #[.int .i64 p1, .int .i64 p0, .int .u32 0, .int .u32 ((p2 + (n2 : Int) + 1 + 1) % 4294967296), .int .i64 20, .int .i64 0, .int .i64 0, .slice none 0 0, .slice none 0 0], .bool true])
    (by simp [results, Try.results17, go_sem, q0, q1, q2, q3, q4, q5, q6, q7, q8]) rfl ⟨rfl, e1⟩

theorem refReset_any (p : SEGv) (a1 : Option Addr) (n1 c1 : Nat) (a2 : Option Addr) (n2 c2 : Nat) (w : World) (h2 : p.data.length = n2) (hn : n2 ≤ 1000000) (q0 : 0 ≤ p.seq) (q1 : p.seq ≤ 4294967295) :
    Calls Try.prog 17 #[.agg #[.int .i64 p.src, .int .i64 p.dst, .int .u32 p.seq, .int .u32 p.ack, .int .i64 p.flags, .int .i64 p.win, .int .i64 p.urg, .slice a1 n1 c1, .slice a2 n2 c2]] w fun e w' => e = resetE p ∧ Ext w w' := by
  cases h4 : flagV p 4 with
  | true => exact refReset_no p a1 n1 c1 a2 n2 c2 w h4
  | false =>
    cases h16 : flagV p 16 with
    | true => exact refReset_ack p a1 n1 c1 a2 n2 c2 w h4 h16
    | false =>
      cases hf2 : flagV p 2 <;> cases hf1 : flagV p 1
      · exact refReset_00 p a1 n1 c1 a2 n2 c2 w h4 h16 hf2 hf1 h2 hn q0 q1
      · exact refReset_01 p a1 n1 c1 a2 n2 c2 w h4 h16 hf2 hf1 h2 hn q0 q1
      · exact refReset_10 p a1 n1 c1 a2 n2 c2 w h4 h16 hf2 hf1 h2 hn q0 q1
      · exact refReset_11 p a1 n1 c1 a2 n2 c2 w h4 h16 hf2 hf1 h2 hn q0 q1

end Go.Proofs.Ytlinkbniihlagaa.Tcp
