/- What of a segment, a datagram, a message is looked at (chapter 8): withSegment, wrongDatagram, wrongMessage, withDatagram, withMessage. -/
import Derived.Test.YtkagkfbdpiblkaaPack1
import Derived.Test.YtkagkfbdpiblkaaWhole
import Derived.Test.YtkagkfbdpiblkaaTcp1
import Derived.Test.YtkagkfbdpiblkaaUdp1
import Derived.Test.YtkagkfbdpiblkaaIcmp1
namespace Go.Proofs.Ytkagkfbdpiblkaa.Pack
open Go.RowKit
set_option linter.unusedVariables false
set_option maxRecDepth 100000

theorem pkt_size : (Try.prog.info? 28).map (·.size) = some 18 := by kernel_rfl

theorem two_new (w : World) (o o' : Obj) : ((w.alloc o).alloc o').heap[w.heap.size]? = some o ∧ ((w.alloc o).alloc o').heap[w.heap.size + 1]? = some o' := by
  refine ⟨Ext.heap ((Ext.refl (w.alloc o)).alloc o') (heap_new' w o), ?_⟩
  have h := heap_new' (w.alloc o) o'
  rwa [show (w.alloc o).heap.size = w.heap.size + 1 by simp] at h

theorem keepX {x g : Nat} {w w' : World} {o : Obj} (h : w.heap[g]? = some o) (hx : ExtX x w w') (hg : g ≠ x) : w'.heap[g]? = some o :=
  (hx.block g (block_of h) hg).trans h

/-- Nothing, beside an error. -/
def ZeroAns (w : World) (er : Int) (e : Ending) (w' : World) : Prop := e = .returned (.tuple #[.agg #[.int .i64 0, .int .i64 0, .bool false, .bool false, .int .i64 0, .int .i64 0, .int .i64 0, .int .u32 0, .int .u32 0, .slice none 0 0, .slice none 0 0, .int .i64 0, .int .i64 0, .int .i64 0, .int .i64 0, .int .i64 0, .int .i64 0, .pointer none], .int .i64 er]) ∧ Ext w w'

set_option maxHeartbeats 2000000 in
theorem seg_bad (p0 p1 : Int) (p2 p3 : Bool) (p4 p5 p6 p7 p8 : Int) (c er : Int) (a1 : Option Addr) (n1 c1 : Nat) (a2 : Option Addr) (n2 c2 : Nat) (xs : List Int) (w : World)
    (h2 : Bytes w a2 n2 xs) (hcap : n2 ≤ c2) (hn : n2 ≤ 1000000) (hv : Tcp.lookV xs = er) (h0 : er ≠ 0) :
    Calls Try.prog 28 #[.agg #[.int .i64 p0, .int .i64 p1, .bool p2, .bool p3, .int .i64 p4, .int .i64 p5, .int .i64 p6, .int .u32 p7, .int .u32 p8, .slice a1 n1 c1, .slice a2 n2 c2, .int .i64 c, .int .i64 0, .int .i64 0, .int .i64 0, .int .i64 0, .int .i64 0, .pointer none]] w (ZeroAns w er) := by
  obtain ⟨H1, H2⟩ := two_new w (.cells #[.int .i64 p0, .int .i64 p1, .bool p2, .bool p3, .int .i64 p4, .int .i64 p5, .int .i64 p6, .int .u32 p7, .int .u32 p8, .slice a1 n1 c1, .slice a2 n2 c2, .int .i64 c, .int .i64 0, .int .i64 0, .int .i64 0, .int .i64 0, .int .i64 0, .pointer none] 28) (.cells #[.int .i64 0, .int .i64 0, .bool false, .bool false, .int .i64 0, .int .i64 0, .int .i64 0, .int .u32 0, .int .u32 0, .slice none 0 0, .slice none 0 0, .int .i64 0, .int .i64 0, .int .i64 0, .int .i64 0, .int .i64 0, .int .i64 0, .pointer none] 28)
  have hx0 := ((Ext.refl w).alloc (.cells #[.int .i64 p0, .int .i64 p1, .bool p2, .bool p3, .int .i64 p4, .int .i64 p5, .int .i64 p6, .int .u32 p7, .int .u32 p8, .slice a1 n1 c1, .slice a2 n2 c2, .int .i64 c, .int .i64 0, .int .i64 0, .int .i64 0, .int .i64 0, .int .i64 0, .pointer none] 28)).alloc (.cells #[.int .i64 0, .int .i64 0, .bool false, .bool false, .int .i64 0, .int .i64 0, .int .i64 0, .int .u32 0, .int .u32 0, .slice none 0 0, .slice none 0 0, .int .i64 0, .int .i64 0, .int .i64 0, .int .i64 0, .int .i64 0, .int .i64 0, .pointer none] 28)
  have cp := fun w h => Tcp.parse_not a2 n2 c2 xs er w h hcap hn hv h0
  simp only [Tcp.zeroSeg] at cp
  have hne : (er == 0) = false := by simpa using h0
  have hne' : (er != 0) = true := by simpa using h0
  have HP : Hid (∀ w', Ext w w' → ZeroAns w er (.returned (.tuple #[.agg #[.int .i64 0, .int .i64 0, .bool false, .bool false, .int .i64 0, .int .i64 0, .int .i64 0, .int .u32 0, .int .u32 0, .slice none 0 0, .slice none 0 0, .int .i64 0, .int .i64 0, .int .i64 0, .int .i64 0, .int .i64 0, .int .i64 0, .pointer none], .int .i64 er])) w') := fun w' h => ⟨rfl, h⟩
  generalize ZeroAns w er = Ans at *
  clear hv h0
  go_enter Try.func28, Try.ntmps28
  iterate 9 (first | go_values | go_skip | go_guarded | go_step | go_upon | go_in | go_simp)
  generalize ((w.alloc (.cells #[.int .i64 p0, .int .i64 p1, .bool p2, .bool p3, .int .i64 p4, .int .i64 p5, .int .i64 p6, .int .u32 p7, .int .u32 p8, .slice a1 n1 c1, .slice a2 n2 c2, .int .i64 c, .int .i64 0, .int .i64 0, .int .i64 0, .int .i64 0, .int .i64 0, .pointer none] 28)).alloc (.cells #[.int .i64 0, .int .i64 0, .bool false, .bool false, .int .i64 0, .int .i64 0, .int .i64 0, .int .u32 0, .int .u32 0, .slice none 0 0, .slice none 0 0, .int .i64 0, .int .i64 0, .int .i64 0, .int .i64 0, .int .i64 0, .int .i64 0, .pointer none] 28)) = W at *
  obtain ⟨x0, x1, x2, x3, x4, x5, x6, x7, x8, x9, xa, xb, xc, xd, xe, xf, xg, xh⟩ := box_pkt (x := w.heap.size + 2) H1 (by omega) W (ExtX.refl _ _)
  have K2 : Hid _ := H2
  have h2' := h2.below hx0
  clear H1 H2 h2
  go_wp2_with (first
    | (go_at_call 46; refine (cp _ h2').mono ?_; rintro e w1 ⟨b1, m1, e1, b2, m2, e2, rfl, _, _, _, _, hx1⟩; have hx2 := hx1.alloc (.cells #[.int .i64 0, .int .i64 0, .int .u32 0, .int .u32 0, .int .i64 0, .int .i64 0, .int .i64 0, .slice b1 m1 e1, .slice b2 m2 e2] 52))
    | (refine wpl_store (by rfl) 28 _ _ rfl rfl 18 (w.heap.size + 1) #[.int .i64 0, .int .i64 0, .bool false, .bool false, .int .i64 0, .int .i64 0, .int .i64 0, .int .u32 0, .int .u32 0, .slice none 0 0, .slice none 0 0, .int .i64 0, .int .i64 0, .int .i64 0, .int .i64 0, .int .i64 0, .int .i64 0, .pointer none] _ _ rfl rfl (hx2.heap K2.out) pkt_size rfl rfl (by simp [Value.oneCell']) ?_; intro w5 hx5 k5))
  exact bodyPost_ret (results_two Try.results28 _ rfl k5 Try.underlying28 rfl pkt_size) rfl (HP.out _ (ExtX.ext (hx0.trans hx2) hx5 (by omega)))

/-- What is looked at of a segment. -/
def SegAns (w : World) (v : Value) (e : Ending) (w' : World) : Prop := e = .returned (.tuple #[v, .int .i64 0]) ∧ Ext w w'

set_option maxHeartbeats 2000000 in
theorem seg_good (p0 p1 : Int) (p2 p3 : Bool) (p4 p5 p6 p7 p8 : Int) (c : Int) (a1 : Option Addr) (n1 c1 : Nat) (a2 : Option Addr) (n2 c2 : Nat) (xs : List Int) (w : World)
    (h2 : Bytes w a2 n2 xs) (hcap : n2 ≤ c2) (hn : n2 ≤ 1000000) (hv : Tcp.lookV xs = 0) :
    Calls Try.prog 28 #[.agg #[.int .i64 p0, .int .i64 p1, .bool p2, .bool p3, .int .i64 p4, .int .i64 p5, .int .i64 p6, .int .u32 p7, .int .u32 p8, .slice a1 n1 c1, .slice a2 n2 c2, .int .i64 c, .int .i64 0, .int .i64 0, .int .i64 0, .int .i64 0, .int .i64 0, .pointer none]] w
      (SegAns w (.agg #[.int .i64 p0, .int .i64 p1, .bool p2, .bool p3, .int .i64 p4, .int .i64 p5, .int .i64 p6, .int .u32 p7, .int .u32 p8, .slice a1 n1 c1, .slice a2 n2 c2, .int .i64 c, .int .i64 (Tcp.parseV xs).src, .int .i64 (Tcp.parseV xs).dst, .int .i64 (Tcp.parseV xs).flags, .int .i64 0, .int .i64 0, .pointer none])) := by
  obtain ⟨H1, H2⟩ := two_new w (.cells #[.int .i64 p0, .int .i64 p1, .bool p2, .bool p3, .int .i64 p4, .int .i64 p5, .int .i64 p6, .int .u32 p7, .int .u32 p8, .slice a1 n1 c1, .slice a2 n2 c2, .int .i64 c, .int .i64 0, .int .i64 0, .int .i64 0, .int .i64 0, .int .i64 0, .pointer none] 28) (.cells #[.int .i64 0, .int .i64 0, .bool false, .bool false, .int .i64 0, .int .i64 0, .int .i64 0, .int .u32 0, .int .u32 0, .slice none 0 0, .slice none 0 0, .int .i64 0, .int .i64 0, .int .i64 0, .int .i64 0, .int .i64 0, .int .i64 0, .pointer none] 28)
  have hx0 := ((Ext.refl w).alloc (.cells #[.int .i64 p0, .int .i64 p1, .bool p2, .bool p3, .int .i64 p4, .int .i64 p5, .int .i64 p6, .int .u32 p7, .int .u32 p8, .slice a1 n1 c1, .slice a2 n2 c2, .int .i64 c, .int .i64 0, .int .i64 0, .int .i64 0, .int .i64 0, .int .i64 0, .pointer none] 28)).alloc (.cells #[.int .i64 0, .int .i64 0, .bool false, .bool false, .int .i64 0, .int .i64 0, .int .i64 0, .int .u32 0, .int .u32 0, .slice none 0 0, .slice none 0 0, .int .i64 0, .int .i64 0, .int .i64 0, .int .i64 0, .int .i64 0, .int .i64 0, .pointer none] 28)
  have cp := fun w h => Tcp.parse_is a2 n2 c2 xs _ w h hcap hn hv rfl
  generalize Tcp.parseV xs = S at *
  obtain ⟨s0, s1, s2, s3, s4, s5, s6, s7, s8⟩ := S
  dsimp only at cp ⊢
  have HP : Hid (∀ w', Ext w w' → SegAns w (.agg #[.int .i64 p0, .int .i64 p1, .bool p2, .bool p3, .int .i64 p4, .int .i64 p5, .int .i64 p6, .int .u32 p7, .int .u32 p8, .slice a1 n1 c1, .slice a2 n2 c2, .int .i64 c, .int .i64 s0, .int .i64 s1, .int .i64 s4, .int .i64 0, .int .i64 0, .pointer none]) (.returned (.tuple #[.agg #[.int .i64 p0, .int .i64 p1, .bool p2, .bool p3, .int .i64 p4, .int .i64 p5, .int .i64 p6, .int .u32 p7, .int .u32 p8, .slice a1 n1 c1, .slice a2 n2 c2, .int .i64 c, .int .i64 s0, .int .i64 s1, .int .i64 s4, .int .i64 0, .int .i64 0, .pointer none], .int .i64 0])) w') := fun w' h => ⟨rfl, h⟩
  generalize SegAns w (.agg #[.int .i64 p0, .int .i64 p1, .bool p2, .bool p3, .int .i64 p4, .int .i64 p5, .int .i64 p6, .int .u32 p7, .int .u32 p8, .slice a1 n1 c1, .slice a2 n2 c2, .int .i64 c, .int .i64 s0, .int .i64 s1, .int .i64 s4, .int .i64 0, .int .i64 0, .pointer none]) = Ans at *
  clear hv
  go_enter Try.func28, Try.ntmps28
  iterate 9 (first | go_values | go_skip | go_guarded | go_step | go_upon | go_in | go_simp)
  have hsz : w.heap.size + 2 ≤ ((w.alloc (.cells #[.int .i64 p0, .int .i64 p1, .bool p2, .bool p3, .int .i64 p4, .int .i64 p5, .int .i64 p6, .int .u32 p7, .int .u32 p8, .slice a1 n1 c1, .slice a2 n2 c2, .int .i64 c, .int .i64 0, .int .i64 0, .int .i64 0, .int .i64 0, .int .i64 0, .pointer none] 28)).alloc (.cells #[.int .i64 0, .int .i64 0, .bool false, .bool false, .int .i64 0, .int .i64 0, .int .i64 0, .int .u32 0, .int .u32 0, .slice none 0 0, .slice none 0 0, .int .i64 0, .int .i64 0, .int .i64 0, .int .i64 0, .int .i64 0, .int .i64 0, .pointer none] 28)).heap.size := by simp
  generalize ((w.alloc (.cells #[.int .i64 p0, .int .i64 p1, .bool p2, .bool p3, .int .i64 p4, .int .i64 p5, .int .i64 p6, .int .u32 p7, .int .u32 p8, .slice a1 n1 c1, .slice a2 n2 c2, .int .i64 c, .int .i64 0, .int .i64 0, .int .i64 0, .int .i64 0, .int .i64 0, .pointer none] 28)).alloc (.cells #[.int .i64 0, .int .i64 0, .bool false, .bool false, .int .i64 0, .int .i64 0, .int .i64 0, .int .u32 0, .int .u32 0, .slice none 0 0, .slice none 0 0, .int .i64 0, .int .i64 0, .int .i64 0, .int .i64 0, .int .i64 0, .int .i64 0, .pointer none] 28)) = W at *
  have xa := heap_cell (k := 10) H1
  have K1 : Hid _ := H1
  have K2 : Hid _ := H2
  have h2' := h2.below hx0
  clear H1 H2 h2
  go_wp2_with (first
    | (go_at_call 46; refine (cp _ h2').mono ?_; rintro e w1 ⟨b1, m1, e1, b2, m2, e2, rfl, _, _, _, _, hx1⟩))
  refine wp_region_eagerX w.heap.size [(0, false), (1, false), (2, false), (3, false), (4, false), (5, false), (6, false), (7, true), (8, false), (9, true), (10, false), (11, true)] (by kernel_rfl) (by kernel_rfl) rfl (by kernel_rfl) (fun _ _ _ _ _ h => h) ?_
  have hx2 : Ext W (w1.alloc (.cells #[.int .i64 s0, .int .i64 s1, .int .u32 s2, .int .u32 s3, .int .i64 s4, .int .i64 s5, .int .i64 s6, .slice b1 m1 e1, .slice b2 m2 e2] 52)).drew := (hx1.alloc _).drew
  have hs1 := hx1.size
  have hB : (w1.alloc (.cells #[.int .i64 s0, .int .i64 s1, .int .u32 s2, .int .u32 s3, .int .i64 s4, .int .i64 s5, .int .i64 s6, .slice b1 m1 e1, .slice b2 m2 e2] 52)).drew.heap[w1.heap.size]? = some (.cells #[.int .i64 s0, .int .i64 s1, .int .u32 s2, .int .u32 s3, .int .i64 s4, .int .i64 s5, .int .i64 s6, .slice b1 m1 e1, .slice b2 m2 e2] 52 (0, 0)) := heap_new' w1 _
  have hbs := box_seg (x := w.heap.size) hB (by omega)
  generalize (w1.alloc (.cells #[.int .i64 s0, .int .i64 s1, .int .u32 s2, .int .u32 s3, .int .i64 s4, .int .i64 s5, .int .i64 s6, .slice b1 m1 e1, .slice b2 m2 e2] 52)).drew = V at *
  have y0 : ∀ w', ExtX w.heap.size V w' → w'.cell? ⟨w1.heap.size, 0, none⟩ = some (.int .i64 s0) := fun w' h => (hbs w' h).1
  have y1 : ∀ w', ExtX w.heap.size V w' → w'.cell? ⟨w1.heap.size, 1, none⟩ = some (.int .i64 s1) := fun w' h => (hbs w' h).2.1
  have y4 : ∀ w', ExtX w.heap.size V w' → w'.cell? ⟨w1.heap.size, 4, none⟩ = some (.int .i64 s4) := fun w' h => (hbs w' h).2.2.2.2.1
  clear hbs hB
  iterate 7 (refine wpE_read (v := ?_) rfl (by rfl) ?_ ?_; rotate_left; (focus (intro w' hx; go_simp; first | done | with_reducible rfl)); simp only [Act.put, List.setIfInBounds_toArray, List.set_cons_zero, List.set_cons_succ])
  have k1 := hx2.heap K1.out
  have mc := heap_cell (k := 12) k1
  have md := heap_cell (k := 13) k1
  have me := heap_cell (k := 14) k1
  have fz := frozen_ip k1
  have KK1 : Hid _ := k1
  clear k1 y0 y1 y4
  refine wpE_call rfl (by rfl) (fun K hK => ?_); go_simp; refine hK _ _ (putX _ _ _ _) ?_; clear hK K
  (refine wpE_read (v := ?_) rfl (by rfl) ?_ ?_; rotate_left; (focus (intro w' hx; go_simp; first | done | with_reducible rfl)); simp only [Act.put, List.setIfInBounds_toArray, List.set_cons_zero, List.set_cons_succ])
  refine wpE_call rfl (by rfl) (fun K hK => ?_); go_simp; refine hK _ _ (putX _ _ _ _) ?_; clear hK K
  (refine wpE_read (v := ?_) rfl (by rfl) ?_ ?_; rotate_left; (focus (intro w' hx; go_simp; first | done | with_reducible rfl)); simp only [Act.put, List.setIfInBounds_toArray, List.set_cons_zero, List.set_cons_succ])
  refine wpE_call rfl (by rfl) (fun K hK => ?_); go_simp; refine hK _ _ (putX _ _ _ _) ?_; clear hK K
  have k6 := set_at 14 (.int .i64 s4) (set_at 13 (.int .i64 s1) (set_at 12 (.int .i64 s0) (l := [.int .i64 p0, .int .i64 p1, .bool p2, .bool p3, .int .i64 p4, .int .i64 p5, .int .i64 p6, .int .u32 p7, .int .u32 p8, .slice a1 n1 c1, .slice a2 n2 c2, .int .i64 c, .int .i64 0, .int .i64 0, .int .i64 0, .int .i64 0, .int .i64 0, .pointer none]) KK1.out))
  simp only [List.set_cons_zero, List.set_cons_succ] at k6
  have hxs := (((ExtX.refl w.heap.size V).setCell (p := ⟨w.heap.size, 12, none⟩) rfl (.int .i64 s0)).setCell (p := ⟨w.heap.size, 13, none⟩) rfl (.int .i64 s1)).setCell (p := ⟨w.heap.size, 14, none⟩) rfl (.int .i64 s4)
  refine wpE_done ?_
  have k7 := keepX (hx2.heap K2.out) hxs (by omega)
  generalize (((V.setCell ⟨w.heap.size, 12, none⟩ (.int .i64 s0)).setCell ⟨w.heap.size, 13, none⟩ (.int .i64 s1)).setCell ⟨w.heap.size, 14, none⟩ (.int .i64 s4)) = V6 at *
  have hX6 := ExtX.ext (hx0.trans hx2) hxs (Nat.le_refl _)
  have K6 : Hid _ := k6
  have K7 : Hid _ := k7
  clear k6 k7 mc md me fz KK1 K1 K2 hxs
  go_wp2_with (first
    | (refine wpl_load (by rfl) 28 _ rfl w.heap.size _ _ _ rfl K6.out Try.underlying28 rfl pkt_size ?_)
    | (refine wpl_store (by rfl) 28 _ _ rfl rfl 18 (w.heap.size + 1) _ _ _ rfl rfl K7.out pkt_size rfl rfl (by simp [Value.oneCell']) ?_; intro w5 hx5 k5))
  exact bodyPost_ret (results_two Try.results28 _ rfl k5 Try.underlying28 rfl pkt_size) rfl (HP.out _ (ExtX.ext hX6 hx5 (by omega)))

end Go.Proofs.Ytkagkfbdpiblkaa.Pack

namespace Go.Proofs.Ytkagkfbdpiblkaa.Pack
open Go.RowKit
set_option linter.unusedVariables false
set_option maxRecDepth 100000

set_option maxHeartbeats 1000000 in
theorem wrongDat_any (p0 p1 : Int) (p2 p3 : Bool) (p4 p5 p6 p7 p8 : Int) (c : Int) (a1 : Option Addr) (n1 c1 : Nat) (a2 : Option Addr) (n2 c2 : Nat) (xs : List Int) (w : World)
    (h2 : Bytes w a2 n2 xs) (hcap : n2 ≤ c2) (hn : n2 ≤ 1000000) :
    Calls Try.prog 47 #[.agg #[.int .i64 p0, .int .i64 p1, .bool p2, .bool p3, .int .i64 p4, .int .i64 p5, .int .i64 p6, .int .u32 p7, .int .u32 p8, .slice a1 n1 c1, .slice a2 n2 c2, .int .i64 c, .int .i64 0, .int .i64 0, .int .i64 0, .int .i64 0, .int .i64 0, .pointer none]] w fun e w' => e = .returned (.int .i64 (partV c (Udp.lookV xs) xs)) ∧ Ext w w' := by
  have hx0 := (Ext.refl w).alloc (.cells #[.int .i64 p0, .int .i64 p1, .bool p2, .bool p3, .int .i64 p4, .int .i64 p5, .int .i64 p6, .int .u32 p7, .int .u32 p8, .slice a1 n1 c1, .slice a2 n2 c2, .int .i64 c, .int .i64 0, .int .i64 0, .int .i64 0, .int .i64 0, .int .i64 0, .pointer none] 28)
  have H1 := heap_new' w (.cells #[.int .i64 p0, .int .i64 p1, .bool p2, .bool p3, .int .i64 p4, .int .i64 p5, .int .i64 p6, .int .u32 p7, .int .u32 p8, .slice a1 n1 c1, .slice a2 n2 c2, .int .i64 c, .int .i64 0, .int .i64 0, .int .i64 0, .int .i64 0, .int .i64 0, .pointer none] 28)
  have xa := heap_cell (k := 10) H1
  have xb := heap_cell (k := 11) H1
  have h2' := h2.below hx0
  have hl := h2.length
  have c8 := fun w => header8_any a2 n2 c2 xs w hl
  have cu := fun w h => (Udp.parse_any a2 n2 c2 xs w h hcap hn).mono (fun e w' (h : Udp.ParseAns w xs e w') => (show ∃ v, e = .returned (.tuple #[v, .int .i64 (Udp.lookV xs)]) ∧ Udp.IsDat w' v (Udp.packV xs) ∧ Ext w w' from h))
  generalize Udp.packV xs = U at *
  obtain ⟨u0, u1, u2⟩ := U
  clear H1 h2
  by_cases hc : c = 1
  · subst hc
    rw [show partV 1 (Udp.lookV xs) xs = shortV xs from rfl]
    generalize shortV xs = er at *
    generalize Udp.lookV xs = eu at *
    clear cu
    go_enter Try.func47, Try.ntmps47
    go_wp2_with (go_at_call 64; refine (c8 _).mono ?_; rintro e w1 ⟨rfl, hw⟩; obtain rfl := hw.symm; clear hw)
    go_ret
    exact ⟨rfl, hx0⟩
  · have hcb : (c == 1) = false := by simpa using hc
    rw [show partV c (Udp.lookV xs) xs = Udp.lookV xs by unfold partV; rw [if_neg hc]]
    generalize Udp.lookV xs = eu at *
    clear c8 hc
    go_enter Try.func47, Try.ntmps47
    go_wp2_with (go_at_call 65; refine (cu _ h2').mono ?_; rintro e w1 ⟨v, rfl, ⟨⟨b1, m1, e1, rfl, _⟩⟩, hx1⟩; dsimp only)
    go_ret
    exact ⟨rfl, (hx0.trans hx1).alloc _⟩

set_option maxHeartbeats 1000000 in
theorem wrongMsg_any (p0 p1 : Int) (p2 p3 : Bool) (p4 p5 p6 p7 p8 : Int) (c : Int) (a1 : Option Addr) (n1 c1 : Nat) (a2 : Option Addr) (n2 c2 : Nat) (xs : List Int) (w : World)
    (h2 : Bytes w a2 n2 xs) (hcap : n2 ≤ c2) (hn : n2 ≤ 1000000) :
    Calls Try.prog 48 #[.agg #[.int .i64 p0, .int .i64 p1, .bool p2, .bool p3, .int .i64 p4, .int .i64 p5, .int .i64 p6, .int .u32 p7, .int .u32 p8, .slice a1 n1 c1, .slice a2 n2 c2, .int .i64 c, .int .i64 0, .int .i64 0, .int .i64 0, .int .i64 0, .int .i64 0, .pointer none]] w fun e w' => e = .returned (.int .i64 (partV c (Icmp.lookV xs) xs)) ∧ Ext w w' := by
  have hx0 := (Ext.refl w).alloc (.cells #[.int .i64 p0, .int .i64 p1, .bool p2, .bool p3, .int .i64 p4, .int .i64 p5, .int .i64 p6, .int .u32 p7, .int .u32 p8, .slice a1 n1 c1, .slice a2 n2 c2, .int .i64 c, .int .i64 0, .int .i64 0, .int .i64 0, .int .i64 0, .int .i64 0, .pointer none] 28)
  have H1 := heap_new' w (.cells #[.int .i64 p0, .int .i64 p1, .bool p2, .bool p3, .int .i64 p4, .int .i64 p5, .int .i64 p6, .int .u32 p7, .int .u32 p8, .slice a1 n1 c1, .slice a2 n2 c2, .int .i64 c, .int .i64 0, .int .i64 0, .int .i64 0, .int .i64 0, .int .i64 0, .pointer none] 28)
  have xa := heap_cell (k := 10) H1
  have xb := heap_cell (k := 11) H1
  have h2' := h2.below hx0
  have hl := h2.length
  have c8 := fun w => header8_any a2 n2 c2 xs w hl
  have cu := fun w h => (Icmp.parse_any a2 n2 c2 xs w h hcap hn).mono (fun e w' (h : Icmp.ParseAns w xs e w') => (show ∃ v, e = .returned (.tuple #[v, .int .i64 (Icmp.lookV xs)]) ∧ Icmp.IsMsg w' v (Icmp.packV xs) ∧ Ext w w' from h))
  generalize Icmp.packV xs = U at *
  obtain ⟨u0, u1, u2, u3⟩ := U
  clear H1 h2
  by_cases hc : c = 1
  · subst hc
    rw [show partV 1 (Icmp.lookV xs) xs = shortV xs from rfl]
    generalize shortV xs = er at *
    generalize Icmp.lookV xs = eu at *
    clear cu
    go_enter Try.func48, Try.ntmps48
    go_wp2_with (go_at_call 64; refine (c8 _).mono ?_; rintro e w1 ⟨rfl, hw⟩; obtain rfl := hw.symm; clear hw)
    go_ret
    exact ⟨rfl, hx0⟩
  · have hcb : (c == 1) = false := by simpa using hc
    rw [show partV c (Icmp.lookV xs) xs = Icmp.lookV xs by unfold partV; rw [if_neg hc]]
    generalize Icmp.lookV xs = eu at *
    clear c8 hc
    go_enter Try.func48, Try.ntmps48
    go_wp2_with (go_at_call 66; refine (cu _ h2').mono ?_; rintro e w1 ⟨v, rfl, ⟨⟨b1, m1, e1, rfl, _⟩⟩, hx1⟩; dsimp only)
    go_ret
    exact ⟨rfl, (hx0.trans hx1).alloc _⟩

set_option maxHeartbeats 2000000 in
theorem dat_bad (p0 p1 : Int) (p2 p3 : Bool) (p4 p5 p6 p7 p8 : Int) (c er : Int) (a1 : Option Addr) (n1 c1 : Nat) (a2 : Option Addr) (n2 c2 : Nat) (xs : List Int) (w : World)
    (h2 : Bytes w a2 n2 xs) (hcap : n2 ≤ c2) (hn : n2 ≤ 1000000) (hv : partV c (Udp.lookV xs) xs = er) (h0 : er ≠ 0) :
    Calls Try.prog 29 #[.agg #[.int .i64 p0, .int .i64 p1, .bool p2, .bool p3, .int .i64 p4, .int .i64 p5, .int .i64 p6, .int .u32 p7, .int .u32 p8, .slice a1 n1 c1, .slice a2 n2 c2, .int .i64 c, .int .i64 0, .int .i64 0, .int .i64 0, .int .i64 0, .int .i64 0, .pointer none]] w (ZeroAns w er) := by
  obtain ⟨H1, H2⟩ := two_new w (.cells #[.int .i64 p0, .int .i64 p1, .bool p2, .bool p3, .int .i64 p4, .int .i64 p5, .int .i64 p6, .int .u32 p7, .int .u32 p8, .slice a1 n1 c1, .slice a2 n2 c2, .int .i64 c, .int .i64 0, .int .i64 0, .int .i64 0, .int .i64 0, .int .i64 0, .pointer none] 28) (.cells #[.int .i64 0, .int .i64 0, .bool false, .bool false, .int .i64 0, .int .i64 0, .int .i64 0, .int .u32 0, .int .u32 0, .slice none 0 0, .slice none 0 0, .int .i64 0, .int .i64 0, .int .i64 0, .int .i64 0, .int .i64 0, .int .i64 0, .pointer none] 28)
  have hx0 := ((Ext.refl w).alloc (.cells #[.int .i64 p0, .int .i64 p1, .bool p2, .bool p3, .int .i64 p4, .int .i64 p5, .int .i64 p6, .int .u32 p7, .int .u32 p8, .slice a1 n1 c1, .slice a2 n2 c2, .int .i64 c, .int .i64 0, .int .i64 0, .int .i64 0, .int .i64 0, .int .i64 0, .pointer none] 28)).alloc (.cells #[.int .i64 0, .int .i64 0, .bool false, .bool false, .int .i64 0, .int .i64 0, .int .i64 0, .int .u32 0, .int .u32 0, .slice none 0 0, .slice none 0 0, .int .i64 0, .int .i64 0, .int .i64 0, .int .i64 0, .int .i64 0, .int .i64 0, .pointer none] 28)
  have cp := fun w h => wrongDat_any p0 p1 p2 p3 p4 p5 p6 p7 p8 c a1 n1 c1 a2 n2 c2 xs w h hcap hn
  rw [hv] at cp
  have hne : (er == 0) = false := by simpa using h0
  have hne' : (er != 0) = true := by simpa using h0
  have HP : Hid (∀ w', Ext w w' → ZeroAns w er (.returned (.tuple #[.agg #[.int .i64 0, .int .i64 0, .bool false, .bool false, .int .i64 0, .int .i64 0, .int .i64 0, .int .u32 0, .int .u32 0, .slice none 0 0, .slice none 0 0, .int .i64 0, .int .i64 0, .int .i64 0, .int .i64 0, .int .i64 0, .int .i64 0, .pointer none], .int .i64 er])) w') := fun w' h => ⟨rfl, h⟩
  generalize ZeroAns w er = Ans at *
  clear hv h0
  go_enter Try.func29, Try.ntmps29
  iterate 9 (first | go_values | go_skip | go_guarded | go_step | go_upon | go_in | go_simp)
  generalize ((w.alloc (.cells #[.int .i64 p0, .int .i64 p1, .bool p2, .bool p3, .int .i64 p4, .int .i64 p5, .int .i64 p6, .int .u32 p7, .int .u32 p8, .slice a1 n1 c1, .slice a2 n2 c2, .int .i64 c, .int .i64 0, .int .i64 0, .int .i64 0, .int .i64 0, .int .i64 0, .pointer none] 28)).alloc (.cells #[.int .i64 0, .int .i64 0, .bool false, .bool false, .int .i64 0, .int .i64 0, .int .i64 0, .int .u32 0, .int .u32 0, .slice none 0 0, .slice none 0 0, .int .i64 0, .int .i64 0, .int .i64 0, .int .i64 0, .int .i64 0, .int .i64 0, .pointer none] 28)) = W at *
  have K1 : Hid _ := H1
  have K2 : Hid _ := H2
  have h2' := h2.below hx0
  clear H1 H2 h2
  go_wp2_with (first
    | (refine wpl_load (by rfl) 28 _ rfl w.heap.size _ _ _ rfl K1.out Try.underlying28 rfl pkt_size ?_)
    | (go_at_call 47; refine (cp _ h2').mono ?_; rintro e w1 ⟨rfl, hx1⟩)
    | (refine wpl_store (by rfl) 28 _ _ rfl rfl 18 (w.heap.size + 1) #[.int .i64 0, .int .i64 0, .bool false, .bool false, .int .i64 0, .int .i64 0, .int .i64 0, .int .u32 0, .int .u32 0, .slice none 0 0, .slice none 0 0, .int .i64 0, .int .i64 0, .int .i64 0, .int .i64 0, .int .i64 0, .int .i64 0, .pointer none] _ _ rfl rfl (hx1.heap K2.out) pkt_size rfl rfl (by simp [Value.oneCell']) ?_; intro w5 hx5 k5))
  exact bodyPost_ret (results_two Try.results29 _ rfl k5 Try.underlying28 rfl pkt_size) rfl (HP.out _ (ExtX.ext (hx0.trans hx1) hx5 (by omega)))

set_option maxHeartbeats 2000000 in
theorem dat_good (p0 p1 : Int) (p2 p3 : Bool) (p4 p5 p6 p7 p8 : Int) (c : Int) (a1 : Option Addr) (n1 c1 : Nat) (a2 : Option Addr) (n2 c2 : Nat) (xs : List Int) (w : World)
    (h2 : Bytes w a2 n2 xs) (hcap : n2 ≤ c2) (hn : n2 ≤ 1000000) (hv : partV c (Udp.lookV xs) xs = 0) :
    Calls Try.prog 29 #[.agg #[.int .i64 p0, .int .i64 p1, .bool p2, .bool p3, .int .i64 p4, .int .i64 p5, .int .i64 p6, .int .u32 p7, .int .u32 p8, .slice a1 n1 c1, .slice a2 n2 c2, .int .i64 c, .int .i64 0, .int .i64 0, .int .i64 0, .int .i64 0, .int .i64 0, .pointer none]] w
      (SegAns w (.agg #[.int .i64 p0, .int .i64 p1, .bool p2, .bool p3, .int .i64 p4, .int .i64 p5, .int .i64 p6, .int .u32 p7, .int .u32 p8, .slice a1 n1 c1, .slice a2 n2 c2, .int .i64 c, .int .i64 (get16V xs 0), .int .i64 (get16V xs 2), .int .i64 0, .int .i64 0, .int .i64 0, .pointer none])) := by
  obtain ⟨H1, H2⟩ := two_new w (.cells #[.int .i64 p0, .int .i64 p1, .bool p2, .bool p3, .int .i64 p4, .int .i64 p5, .int .i64 p6, .int .u32 p7, .int .u32 p8, .slice a1 n1 c1, .slice a2 n2 c2, .int .i64 c, .int .i64 0, .int .i64 0, .int .i64 0, .int .i64 0, .int .i64 0, .pointer none] 28) (.cells #[.int .i64 0, .int .i64 0, .bool false, .bool false, .int .i64 0, .int .i64 0, .int .i64 0, .int .u32 0, .int .u32 0, .slice none 0 0, .slice none 0 0, .int .i64 0, .int .i64 0, .int .i64 0, .int .i64 0, .int .i64 0, .int .i64 0, .pointer none] 28)
  have hx0 := ((Ext.refl w).alloc (.cells #[.int .i64 p0, .int .i64 p1, .bool p2, .bool p3, .int .i64 p4, .int .i64 p5, .int .i64 p6, .int .u32 p7, .int .u32 p8, .slice a1 n1 c1, .slice a2 n2 c2, .int .i64 c, .int .i64 0, .int .i64 0, .int .i64 0, .int .i64 0, .int .i64 0, .pointer none] 28)).alloc (.cells #[.int .i64 0, .int .i64 0, .bool false, .bool false, .int .i64 0, .int .i64 0, .int .i64 0, .int .u32 0, .int .u32 0, .slice none 0 0, .slice none 0 0, .int .i64 0, .int .i64 0, .int .i64 0, .int .i64 0, .int .i64 0, .int .i64 0, .pointer none] 28)
  have cp := fun w h => wrongDat_any p0 p1 p2 p3 p4 p5 p6 p7 p8 c a1 n1 c1 a2 n2 c2 xs w h hcap hn
  rw [hv] at cp
  have g0 := fun w h => get16_any a2 n2 c2 xs 0 w h (by omega) (by omega)
  have g2 := fun w h => get16_any a2 n2 c2 xs 2 w h (by omega) (by omega)
  generalize get16V xs 0 = s0 at *
  generalize get16V xs 2 = s1 at *
  have HP : Hid (∀ w', Ext w w' → SegAns w (.agg #[.int .i64 p0, .int .i64 p1, .bool p2, .bool p3, .int .i64 p4, .int .i64 p5, .int .i64 p6, .int .u32 p7, .int .u32 p8, .slice a1 n1 c1, .slice a2 n2 c2, .int .i64 c, .int .i64 s0, .int .i64 s1, .int .i64 0, .int .i64 0, .int .i64 0, .pointer none]) (.returned (.tuple #[.agg #[.int .i64 p0, .int .i64 p1, .bool p2, .bool p3, .int .i64 p4, .int .i64 p5, .int .i64 p6, .int .u32 p7, .int .u32 p8, .slice a1 n1 c1, .slice a2 n2 c2, .int .i64 c, .int .i64 s0, .int .i64 s1, .int .i64 0, .int .i64 0, .int .i64 0, .pointer none], .int .i64 0])) w') := fun w' h => ⟨rfl, h⟩
  generalize SegAns w (.agg #[.int .i64 p0, .int .i64 p1, .bool p2, .bool p3, .int .i64 p4, .int .i64 p5, .int .i64 p6, .int .u32 p7, .int .u32 p8, .slice a1 n1 c1, .slice a2 n2 c2, .int .i64 c, .int .i64 s0, .int .i64 s1, .int .i64 0, .int .i64 0, .int .i64 0, .pointer none]) = Ans at *
  clear hv
  go_enter Try.func29, Try.ntmps29
  iterate 9 (first | go_values | go_skip | go_guarded | go_step | go_upon | go_in | go_simp)
  generalize ((w.alloc (.cells #[.int .i64 p0, .int .i64 p1, .bool p2, .bool p3, .int .i64 p4, .int .i64 p5, .int .i64 p6, .int .u32 p7, .int .u32 p8, .slice a1 n1 c1, .slice a2 n2 c2, .int .i64 c, .int .i64 0, .int .i64 0, .int .i64 0, .int .i64 0, .int .i64 0, .pointer none] 28)).alloc (.cells #[.int .i64 0, .int .i64 0, .bool false, .bool false, .int .i64 0, .int .i64 0, .int .i64 0, .int .u32 0, .int .u32 0, .slice none 0 0, .slice none 0 0, .int .i64 0, .int .i64 0, .int .i64 0, .int .i64 0, .int .i64 0, .int .i64 0, .pointer none] 28)) = W at *
  have K1 : Hid _ := H1
  have K2 : Hid _ := H2
  have h2' := h2.below hx0
  clear H1 H2 h2
  go_wp2_with (first
    | (refine wpl_load (by rfl) 28 _ rfl w.heap.size _ _ _ rfl K1.out Try.underlying28 rfl pkt_size ?_)
    | (go_at_call 47; refine (cp _ h2').mono ?_; rintro e w1 ⟨rfl, hx1⟩))
  refine wp_region_tail [9, 10, 11] [(0, false), (1, false), (2, false), (4, false), (5, false), (6, false), (3, true), (8, false), (7, true)] (by kernel_rfl) (by kernel_rfl) rfl (by kernel_rfl) (fun _ _ _ _ _ h => h) ?_
  have hx2 : Ext W w1.drew := hx1.drew
  have k1 := hx2.heap K1.out
  have KK1 : Hid _ := k1
  generalize w1.drew = V at *
  have ya : ∀ w', Ext V w' → w'.cell? ⟨w.heap.size, 10, none⟩ = some (.slice a2 n2 c2) := fun w' h => heap_cell (k := 10) (h.heap k1)
  have hV := h2'.below hx2
  iterate 6 (refine wpE_read (v := ?_) rfl (by rfl) ?_ ?_; rotate_left; (focus (intro w' hx; go_simp; first | done | with_reducible rfl)); simp only [Act.put, List.setIfInBounds_toArray, List.set_cons_zero, List.set_cons_succ])
  refine wpE_call rfl (by rfl) (fun K hK => ?_); go_simp; (go_at_call 43; refine (g0 _ hV).mono ?_; rintro e w3 ⟨rfl, hw⟩; obtain rfl := hw.symm; clear hw; refine hK _ _ (Ext.refl _) ?_; clear hK K)
  (refine wpE_read (v := ?_) rfl (by rfl) ?_ ?_; rotate_left; (focus (intro w' hx; go_simp; first | done | with_reducible rfl)); simp only [Act.put, List.setIfInBounds_toArray, List.set_cons_zero, List.set_cons_succ])
  refine wpE_call rfl (by rfl) (fun K hK => ?_); go_simp; (go_at_call 43; refine (g2 _ hV).mono ?_; rintro e w3 ⟨rfl, hw⟩; obtain rfl := hw.symm; clear hw; refine hK _ _ (Ext.refl _) ?_; clear hK K)
  refine wpE_done ?_
  have mc := heap_cell (k := 12) k1
  have md := heap_cell (k := 13) k1
  have fz := frozen_ip k1
  clear k1 ya g0 g2
  refine wpT_step rfl (by rfl) (fun K hK => ?_); go_simp; refine hK _ _ ?_; clear hK K
  refine wpT_step rfl (by rfl) (fun K hK => ?_); go_simp; refine hK _ _ ?_; clear hK K
  refine wpT_step rfl (by rfl) (fun K hK => ?_); go_simp; refine hK _ _ ?_; clear hK K
  have k6 := set_at 13 (.int .i64 s1) (set_at 12 (.int .i64 s0) (l := [.int .i64 p0, .int .i64 p1, .bool p2, .bool p3, .int .i64 p4, .int .i64 p5, .int .i64 p6, .int .u32 p7, .int .u32 p8, .slice a1 n1 c1, .slice a2 n2 c2, .int .i64 c, .int .i64 0, .int .i64 0, .int .i64 0, .int .i64 0, .int .i64 0, .pointer none]) KK1.out)
  simp only [List.set_cons_zero, List.set_cons_succ] at k6
  have hxs := (putX w.heap.size 12 V (.int .i64 s0)).trans (putX w.heap.size 13 _ (.int .i64 s1))
  refine wpT_done ?_
  have k7 := keepX (hx2.heap K2.out) hxs (by omega)
  generalize ((V.setCell ⟨w.heap.size, 12, none⟩ (.int .i64 s0)).setCell ⟨w.heap.size, 13, none⟩ (.int .i64 s1)) = V6 at *
  have hX6 := ExtX.ext (hx0.trans hx2) hxs (Nat.le_refl _)
  have K6 : Hid _ := k6
  have K7 : Hid _ := k7
  clear k6 k7 mc md fz KK1 K1 K2 hxs
  go_wp2_with (first
    | (refine wpl_load (by rfl) 28 _ rfl w.heap.size _ _ _ rfl K6.out Try.underlying28 rfl pkt_size ?_)
    | (refine wpl_store (by rfl) 28 _ _ rfl rfl 18 (w.heap.size + 1) _ _ _ rfl rfl K7.out pkt_size rfl rfl (by simp [Value.oneCell']) ?_; intro w5 hx5 k5))
  exact bodyPost_ret (results_two Try.results29 _ rfl k5 Try.underlying28 rfl pkt_size) rfl (HP.out _ (ExtX.ext hX6 hx5 (by omega)))

end Go.Proofs.Ytkagkfbdpiblkaa.Pack

namespace Go.Proofs.Ytkagkfbdpiblkaa.Pack
open Go.RowKit
set_option linter.unusedVariables false
set_option maxRecDepth 100000

set_option maxHeartbeats 2000000 in
theorem msg_bad (p0 p1 : Int) (p2 p3 : Bool) (p4 p5 p6 p7 p8 : Int) (c er : Int) (a1 : Option Addr) (n1 c1 : Nat) (a2 : Option Addr) (n2 c2 : Nat) (xs : List Int) (w : World)
    (h2 : Bytes w a2 n2 xs) (hcap : n2 ≤ c2) (hn : n2 ≤ 1000000) (hv : partV c (Icmp.lookV xs) xs = er) (h0 : er ≠ 0) :
    Calls Try.prog 30 #[.agg #[.int .i64 p0, .int .i64 p1, .bool p2, .bool p3, .int .i64 p4, .int .i64 p5, .int .i64 p6, .int .u32 p7, .int .u32 p8, .slice a1 n1 c1, .slice a2 n2 c2, .int .i64 c, .int .i64 0, .int .i64 0, .int .i64 0, .int .i64 0, .int .i64 0, .pointer none]] w (ZeroAns w er) := by
  obtain ⟨H1, H2⟩ := two_new w (.cells #[.int .i64 p0, .int .i64 p1, .bool p2, .bool p3, .int .i64 p4, .int .i64 p5, .int .i64 p6, .int .u32 p7, .int .u32 p8, .slice a1 n1 c1, .slice a2 n2 c2, .int .i64 c, .int .i64 0, .int .i64 0, .int .i64 0, .int .i64 0, .int .i64 0, .pointer none] 28) (.cells #[.int .i64 0, .int .i64 0, .bool false, .bool false, .int .i64 0, .int .i64 0, .int .i64 0, .int .u32 0, .int .u32 0, .slice none 0 0, .slice none 0 0, .int .i64 0, .int .i64 0, .int .i64 0, .int .i64 0, .int .i64 0, .int .i64 0, .pointer none] 28)
  have hx0 := ((Ext.refl w).alloc (.cells #[.int .i64 p0, .int .i64 p1, .bool p2, .bool p3, .int .i64 p4, .int .i64 p5, .int .i64 p6, .int .u32 p7, .int .u32 p8, .slice a1 n1 c1, .slice a2 n2 c2, .int .i64 c, .int .i64 0, .int .i64 0, .int .i64 0, .int .i64 0, .int .i64 0, .pointer none] 28)).alloc (.cells #[.int .i64 0, .int .i64 0, .bool false, .bool false, .int .i64 0, .int .i64 0, .int .i64 0, .int .u32 0, .int .u32 0, .slice none 0 0, .slice none 0 0, .int .i64 0, .int .i64 0, .int .i64 0, .int .i64 0, .int .i64 0, .int .i64 0, .pointer none] 28)
  have cp := fun w h => wrongMsg_any p0 p1 p2 p3 p4 p5 p6 p7 p8 c a1 n1 c1 a2 n2 c2 xs w h hcap hn
  rw [hv] at cp
  have hne : (er == 0) = false := by simpa using h0
  have hne' : (er != 0) = true := by simpa using h0
  have HP : Hid (∀ w', Ext w w' → ZeroAns w er (.returned (.tuple #[.agg #[.int .i64 0, .int .i64 0, .bool false, .bool false, .int .i64 0, .int .i64 0, .int .i64 0, .int .u32 0, .int .u32 0, .slice none 0 0, .slice none 0 0, .int .i64 0, .int .i64 0, .int .i64 0, .int .i64 0, .int .i64 0, .int .i64 0, .pointer none], .int .i64 er])) w') := fun w' h => ⟨rfl, h⟩
  generalize ZeroAns w er = Ans at *
  clear hv h0
  go_enter Try.func30, Try.ntmps30
  iterate 9 (first | go_values | go_skip | go_guarded | go_step | go_upon | go_in | go_simp)
  generalize ((w.alloc (.cells #[.int .i64 p0, .int .i64 p1, .bool p2, .bool p3, .int .i64 p4, .int .i64 p5, .int .i64 p6, .int .u32 p7, .int .u32 p8, .slice a1 n1 c1, .slice a2 n2 c2, .int .i64 c, .int .i64 0, .int .i64 0, .int .i64 0, .int .i64 0, .int .i64 0, .pointer none] 28)).alloc (.cells #[.int .i64 0, .int .i64 0, .bool false, .bool false, .int .i64 0, .int .i64 0, .int .i64 0, .int .u32 0, .int .u32 0, .slice none 0 0, .slice none 0 0, .int .i64 0, .int .i64 0, .int .i64 0, .int .i64 0, .int .i64 0, .int .i64 0, .pointer none] 28)) = W at *
  have K1 : Hid _ := H1
  have K2 : Hid _ := H2
  have h2' := h2.below hx0
  clear H1 H2 h2
  go_wp2_with (first
    | (refine wpl_load (by rfl) 28 _ rfl w.heap.size _ _ _ rfl K1.out Try.underlying28 rfl pkt_size ?_)
    | (go_at_call 48; refine (cp _ h2').mono ?_; rintro e w1 ⟨rfl, hx1⟩)
    | (refine wpl_store (by rfl) 28 _ _ rfl rfl 18 (w.heap.size + 1) #[.int .i64 0, .int .i64 0, .bool false, .bool false, .int .i64 0, .int .i64 0, .int .i64 0, .int .u32 0, .int .u32 0, .slice none 0 0, .slice none 0 0, .int .i64 0, .int .i64 0, .int .i64 0, .int .i64 0, .int .i64 0, .int .i64 0, .pointer none] _ _ rfl rfl (hx1.heap K2.out) pkt_size rfl rfl (by simp [Value.oneCell']) ?_; intro w5 hx5 k5))
  exact bodyPost_ret (results_two Try.results30 _ rfl k5 Try.underlying28 rfl pkt_size) rfl (HP.out _ (ExtX.ext (hx0.trans hx1) hx5 (by omega)))

theorem part_len {c : Int} {xs : List Int} (h : partV c (Icmp.lookV xs) xs = 0) : 8 ≤ xs.length := by
  unfold partV at h
  by_cases hc : c = 1
  · rw [if_pos hc] at h
    unfold shortV at h
    by_cases h8 : xs.length < 8
    · rw [if_pos h8] at h; omega
    · omega
  · rw [if_neg hc] at h
    exact ((Icmp.looks_iff xs).1 h).len

theorem query_not_bad {t : Int} (h : Icmp.queryV t = true) : Icmp.badV t = false := by
  unfold Icmp.queryV at h
  unfold Icmp.badV
  rw [decide_eq_true_eq] at h
  rw [decide_eq_false_iff_not]
  omega

/-- What is looked at of a message: its numbers, and a pointer to what it is about. -/
def MsgAns (w : World) (f : Option Addr → Value) (o : Option KEYv) (e : Ending) (w' : World) : Prop := ∃ k, e = .returned (.tuple #[f k, .int .i64 0]) ∧ IsKey w' k o ∧ (∀ a, k = some a → w.heap.size ≤ a.block) ∧ Ext w w'

set_option maxHeartbeats 4000000 in
theorem msg_good (p0 p1 : Int) (p2 p3 : Bool) (p4 p5 p6 p7 p8 : Int) (c : Int) (a1 : Option Addr) (n1 c1 : Nat) (a2 : Option Addr) (n2 c2 : Nat) (xs : List Int) (w : World)
    (h2 : Bytes w a2 n2 xs) (hcap : n2 ≤ c2) (hn : n2 ≤ 1000000) (hv : partV c (Icmp.lookV xs) xs = 0) :
    Calls Try.prog 30 #[.agg #[.int .i64 p0, .int .i64 p1, .bool p2, .bool p3, .int .i64 p4, .int .i64 p5, .int .i64 p6, .int .u32 p7, .int .u32 p8, .slice a1 n1 c1, .slice a2 n2 c2, .int .i64 c, .int .i64 0, .int .i64 0, .int .i64 0, .int .i64 0, .int .i64 0, .pointer none]] w
      (MsgAns w (fun k => .agg #[.int .i64 p0, .int .i64 p1, .bool p2, .bool p3, .int .i64 p4, .int .i64 p5, .int .i64 p6, .int .u32 p7, .int .u32 p8, .slice a1 n1 c1, .slice a2 n2 c2, .int .i64 c, .int .i64 (numberV xs), .int .i64 (numberV xs), .int .i64 0, .int .i64 (byteV xs 0), .int .i64 (byteV xs 1), .pointer k]) (innerV xs)) := by
  obtain ⟨H1, H2⟩ := two_new w (.cells #[.int .i64 p0, .int .i64 p1, .bool p2, .bool p3, .int .i64 p4, .int .i64 p5, .int .i64 p6, .int .u32 p7, .int .u32 p8, .slice a1 n1 c1, .slice a2 n2 c2, .int .i64 c, .int .i64 0, .int .i64 0, .int .i64 0, .int .i64 0, .int .i64 0, .pointer none] 28) (.cells #[.int .i64 0, .int .i64 0, .bool false, .bool false, .int .i64 0, .int .i64 0, .int .i64 0, .int .u32 0, .int .u32 0, .slice none 0 0, .slice none 0 0, .int .i64 0, .int .i64 0, .int .i64 0, .int .i64 0, .int .i64 0, .int .i64 0, .pointer none] 28)
  have hx0 := ((Ext.refl w).alloc (.cells #[.int .i64 p0, .int .i64 p1, .bool p2, .bool p3, .int .i64 p4, .int .i64 p5, .int .i64 p6, .int .u32 p7, .int .u32 p8, .slice a1 n1 c1, .slice a2 n2 c2, .int .i64 c, .int .i64 0, .int .i64 0, .int .i64 0, .int .i64 0, .int .i64 0, .pointer none] 28)).alloc (.cells #[.int .i64 0, .int .i64 0, .bool false, .bool false, .int .i64 0, .int .i64 0, .int .i64 0, .int .u32 0, .int .u32 0, .slice none 0 0, .slice none 0 0, .int .i64 0, .int .i64 0, .int .i64 0, .int .i64 0, .int .i64 0, .int .i64 0, .pointer none] 28)
  have cp := fun w h => wrongMsg_any p0 p1 p2 p3 p4 p5 p6 p7 p8 c a1 n1 c1 a2 n2 c2 xs w h hcap hn
  rw [hv] at cp
  have hl := h2.length
  have h8 := part_len hv
  rw [hl] at h8
  have hok := h2.ok
  obtain ⟨b, off, rfl, _⟩ := h2.cell (k := 0) (by omega)
  obtain ⟨q1, hp1, hq1⟩ := h2.part 8 n2 c2 (by omega) (by omega) hcap
  have htk : xs.take n2 = xs := List.take_of_length_le (by omega)
  rw [htk] at hq1
  have gN := fun w h => number_any (some ⟨b, off, none⟩) n2 c2 xs w h hn
  have ca := fun w h => (about_any (some q1) (n2 - 8) (c2 - 8) (xs.drop 8) w h (by omega) (by omega)).mono (fun e w' (h : KeyAns w (aboutV (xs.drop 8)) e w') => (show ∃ k, e = .returned (.pointer k) ∧ IsKey w' k (aboutV (xs.drop 8)) ∧ (∀ a, k = some a → w.heap.size ≤ a.block) ∧ Ext w w' from h))
  have b0 : byteV xs 0 = xs[0]?.getD 0 := byteV_nat xs 0
  have b1 : byteV xs 1 = xs[1]?.getD 0 := byteV_nat xs 1
  have y0 := hok.get 0
  have y1 := hok.get 1
  have v0 := wraps_i64 _ y0.1 (by omega)
  have v1 := wraps_i64 _ y1.1 (by omega)
  have cq := fun w => Icmp.query_any (xs[0]?.getD 0) w
  have cb := fun w => Icmp.bad_any (xs[0]?.getD 0) w
  have hN : numberV xs = if Icmp.queryV (xs[0]?.getD 0) = true then get16V xs 4 else 0 := by unfold numberV; rw [b0]
  have hI : innerV xs = if Icmp.badV (xs[0]?.getD 0) = true then aboutV (xs.drop 8) else none := by unfold innerV; rw [b0]
  have hqb := fun h => query_not_bad (t := xs[0]?.getD 0) h
  rw [hN, hI, b0, b1]
  have hrd : ∀ j, j < n2 → ∀ w', Ext w w' → w'.cell? ⟨b, off + j, none⟩ = some (.int .u8 (xs[j]?.getD 0)) := fun j hj w' hx => by
    obtain ⟨b', off', hab, hc⟩ := (h2.below hx).cell hj
    obtain ⟨rfl, rfl⟩ : b = b' ∧ off = off' := by simpa using hab
    exact hc
  have r0 := hrd 0 (by omega)
  rw [Nat.add_zero] at r0
  have r1 := hrd 1 (by omega)
  clear hN hI b0 b1 hv hrd htk
  generalize xs[0]?.getD 0 = T at *
  generalize xs[1]?.getD 0 = C at *
  generalize get16V xs 4 = N at *
  generalize aboutV (xs.drop 8) = O at *
  generalize Icmp.queryV T = Q at *
  generalize Icmp.badV T = B at *
  have HP : Hid (∀ k w', IsKey w' k (if B = true then O else none) → (∀ a, k = some a → w.heap.size ≤ a.block) → Ext w w' → MsgAns w (fun k => .agg #[.int .i64 p0, .int .i64 p1, .bool p2, .bool p3, .int .i64 p4, .int .i64 p5, .int .i64 p6, .int .u32 p7, .int .u32 p8, .slice a1 n1 c1, .slice (some ⟨b, off, none⟩) n2 c2, .int .i64 c, .int .i64 (if Q = true then N else 0), .int .i64 (if Q = true then N else 0), .int .i64 0, .int .i64 T, .int .i64 C, .pointer k]) (if B = true then O else none)
      (.returned (.tuple #[.agg #[.int .i64 p0, .int .i64 p1, .bool p2, .bool p3, .int .i64 p4, .int .i64 p5, .int .i64 p6, .int .u32 p7, .int .u32 p8, .slice a1 n1 c1, .slice (some ⟨b, off, none⟩) n2 c2, .int .i64 c, .int .i64 (if Q = true then N else 0), .int .i64 (if Q = true then N else 0), .int .i64 0, .int .i64 T, .int .i64 C, .pointer k], .int .i64 0])) w') := fun k w' h hf h' => ⟨k, rfl, h, hf, h'⟩
  generalize MsgAns w (fun k => .agg #[.int .i64 p0, .int .i64 p1, .bool p2, .bool p3, .int .i64 p4, .int .i64 p5, .int .i64 p6, .int .u32 p7, .int .u32 p8, .slice a1 n1 c1, .slice (some ⟨b, off, none⟩) n2 c2, .int .i64 c, .int .i64 (if Q = true then N else 0), .int .i64 (if Q = true then N else 0), .int .i64 0, .int .i64 T, .int .i64 C, .pointer k]) (if B = true then O else none) = Ans at *
  have l8 : (8 : Int) ≤ (n2 : Int) := by omega
  have l1 : (1 : Int) < (n2 : Int) := by omega
  have l0 : 0 < n2 := by omega
  have lc : (n2 : Int) ≤ (c2 : Int) := by omega
  go_enter Try.func30, Try.ntmps30
  iterate 9 (first | go_values | go_skip | go_guarded | go_step | go_upon | go_in | go_simp)
  have hsz : w.heap.size + 2 ≤ ((w.alloc (.cells #[.int .i64 p0, .int .i64 p1, .bool p2, .bool p3, .int .i64 p4, .int .i64 p5, .int .i64 p6, .int .u32 p7, .int .u32 p8, .slice a1 n1 c1, .slice (some ⟨b, off, none⟩) n2 c2, .int .i64 c, .int .i64 0, .int .i64 0, .int .i64 0, .int .i64 0, .int .i64 0, .pointer none] 28)).alloc (.cells #[.int .i64 0, .int .i64 0, .bool false, .bool false, .int .i64 0, .int .i64 0, .int .i64 0, .int .u32 0, .int .u32 0, .slice none 0 0, .slice none 0 0, .int .i64 0, .int .i64 0, .int .i64 0, .int .i64 0, .int .i64 0, .int .i64 0, .pointer none] 28)).heap.size := by simp
  generalize ((w.alloc (.cells #[.int .i64 p0, .int .i64 p1, .bool p2, .bool p3, .int .i64 p4, .int .i64 p5, .int .i64 p6, .int .u32 p7, .int .u32 p8, .slice a1 n1 c1, .slice (some ⟨b, off, none⟩) n2 c2, .int .i64 c, .int .i64 0, .int .i64 0, .int .i64 0, .int .i64 0, .int .i64 0, .pointer none] 28)).alloc (.cells #[.int .i64 0, .int .i64 0, .bool false, .bool false, .int .i64 0, .int .i64 0, .int .i64 0, .int .u32 0, .int .u32 0, .slice none 0 0, .slice none 0 0, .int .i64 0, .int .i64 0, .int .i64 0, .int .i64 0, .int .i64 0, .int .i64 0, .pointer none] 28)) = W at *
  have K1 : Hid _ := H1
  have K2 : Hid _ := H2
  have h2' := h2.below hx0
  clear H1 H2
  go_wp2_with (first
    | (refine wpl_load (by rfl) 28 _ rfl w.heap.size _ _ _ rfl K1.out Try.underlying28 rfl pkt_size ?_)
    | (go_at_call 48; refine (cp _ h2').mono ?_; rintro e w1 ⟨rfl, hx1⟩; have ma := heap_cell (k := 10) (hx1.heap K1.out)))
  refine wp_region_eagerX w.heap.size [(0, false), (1, false), (2, false), (3, false), (4, false), (5, false), (6, false), (7, false), (8, false), (9, true), (10, false), (11, true)] (by kernel_rfl) (by kernel_rfl) rfl (by kernel_rfl) (fun _ _ _ _ _ h => h) ?_
  have hx2 : Ext W w1.drew := hx1.drew
  clear ma
  generalize w1.drew = V at *
  have hwV : Ext w V := hx0.trans hx2
  have z0 : ∀ w', ExtX w.heap.size V w' → w'.cell? ⟨b, off, none⟩ = some (.int .u8 T) := fun w' h => r0 w' (ExtX.ext hwV h (Nat.le_refl _))
  have z1 : ∀ w', ExtX w.heap.size V w' → w'.cell? ⟨b, off + 1, none⟩ = some (.int .u8 C) := fun w' h => r1 w' (ExtX.ext hwV h (Nat.le_refl _))
  iterate 9 (refine wpE_read (v := ?_) rfl (by rfl) ?_ ?_; rotate_left; (focus (intro w' hx; go_simp; first | done | with_reducible rfl)); simp only [Act.put, List.setIfInBounds_toArray, List.set_cons_zero, List.set_cons_succ])
  have k1 := hx2.heap K1.out
  have mf := heap_cell (k := 15) k1
  have mg := heap_cell (k := 16) k1
  have fz := frozen_ip k1
  have KK1 : Hid _ := k1
  clear k1 z0 z1
  refine wpE_call rfl (by rfl) (fun K hK => ?_); go_simp; refine hK _ _ (putX _ _ _ _) ?_; clear hK K
  (refine wpE_read (v := ?_) rfl (by rfl) ?_ ?_; rotate_left; (focus (intro w' hx; go_simp; first | done | with_reducible rfl)); simp only [Act.put, List.setIfInBounds_toArray, List.set_cons_zero, List.set_cons_succ])
  refine wpE_call rfl (by rfl) (fun K hK => ?_); go_simp; refine hK _ _ (putX _ _ _ _) ?_; clear hK K
  have k6 := set_at 16 (.int .i64 C) (set_at 15 (.int .i64 T) (l := [.int .i64 p0, .int .i64 p1, .bool p2, .bool p3, .int .i64 p4, .int .i64 p5, .int .i64 p6, .int .u32 p7, .int .u32 p8, .slice a1 n1 c1, .slice (some ⟨b, off, none⟩) n2 c2, .int .i64 c, .int .i64 0, .int .i64 0, .int .i64 0, .int .i64 0, .int .i64 0, .pointer none]) KK1.out)
  simp only [List.set_cons_zero, List.set_cons_succ] at k6
  have hxs := (putX w.heap.size 15 V (.int .i64 T)).trans (putX w.heap.size 16 _ (.int .i64 C))
  refine wpE_done ?_
  have k7 := keepX (hx2.heap K2.out) hxs (by omega)
  have hs2 := hx2.size
  have hs6 := hxs.size
  generalize ((V.setCell ⟨w.heap.size, 15, none⟩ (.int .i64 T)).setCell ⟨w.heap.size, 16, none⟩ (.int .i64 C)) = V6 at *
  have hX6 := ExtX.ext hwV hxs (Nat.le_refl _)
  have m12 := heap_cell (k := 12) k6
  have m13 := heap_cell (k := 13) k6
  have m15 := heap_cell (k := 15) k6
  have f6 := frozen_ip k6
  have hb6 := h2.below hX6
  have hb8 := hq1 _ hX6
  have K6 : Hid _ := k6
  have K7 : Hid _ := k7
  clear k6 k7 mf mg fz KK1 K1 K2 hxs h2' r0 r1 v0 v1 cp
  cases Q with
  | true =>
    obtain rfl := hqb rfl
    have k8 := set_at 13 (.int .i64 N) (set_at 12 (.int .i64 N) (l := [.int .i64 p0, .int .i64 p1, .bool p2, .bool p3, .int .i64 p4, .int .i64 p5, .int .i64 p6, .int .u32 p7, .int .u32 p8, .slice a1 n1 c1, .slice (some ⟨b, off, none⟩) n2 c2, .int .i64 c, .int .i64 0, .int .i64 0, .int .i64 0, .int .i64 T, .int .i64 C, .pointer none]) K6.out)
    simp only [List.set_cons_zero, List.set_cons_succ] at k8
    have hx8 := (putX w.heap.size 12 V6 (.int .i64 N)).trans (putX w.heap.size 13 _ (.int .i64 N))
    have K8 : Hid _ := k8
    have K9 : Hid _ := keepX K7.out hx8 (by omega)
    have hX8 := ExtX.ext hX6 hx8 (Nat.le_refl _)
    have HX8 : Hid _ := hX8
    clear k8 hx8 hX8 ca
    go_wp2_with (first
      | (refine wpl_load (by rfl) 28 _ rfl w.heap.size _ _ _ rfl K8.out Try.underlying28 rfl pkt_size ?_)
      | (refine wpl_store (by rfl) 28 _ _ rfl rfl 18 (w.heap.size + 1) _ _ _ rfl rfl K9.out pkt_size rfl rfl (by simp [Value.oneCell']) ?_; intro w5 hx5 k5)
      | (go_at_call 49; refine (cq _).mono ?_; rintro e w3 ⟨rfl, hw⟩; obtain rfl := hw.symm; clear hw)
      | (go_at_call 51; refine (cb _).mono ?_; rintro e w3 ⟨rfl, hw⟩; obtain rfl := hw.symm; clear hw)
      | (go_at_call 50; refine (gN _ hb6).mono ?_; rintro e w3 ⟨rfl, hw⟩; obtain rfl := hw.symm; clear hw))
    exact bodyPost_ret (results_two Try.results30 _ rfl k5 Try.underlying28 rfl pkt_size) rfl (HP.out none _ rfl (fun a h => by cases h) (ExtX.ext HX8.out hx5 (by omega)))
  | false =>
    clear hqb
    cases B with
    | false =>
      go_wp2_with (first
        | (refine wpl_load (by rfl) 28 _ rfl w.heap.size _ _ _ rfl K6.out Try.underlying28 rfl pkt_size ?_)
        | (refine wpl_store (by rfl) 28 _ _ rfl rfl 18 (w.heap.size + 1) _ _ _ rfl rfl K7.out pkt_size rfl rfl (by simp [Value.oneCell']) ?_; intro w5 hx5 k5)
        | (go_at_call 49; refine (cq _).mono ?_; rintro e w3 ⟨rfl, hw⟩; obtain rfl := hw.symm; clear hw)
        | (go_at_call 51; refine (cb _).mono ?_; rintro e w3 ⟨rfl, hw⟩; obtain rfl := hw.symm; clear hw))
      exact bodyPost_ret (results_two Try.results30 _ rfl k5 Try.underlying28 rfl pkt_size) rfl (HP.out none _ rfl (fun a h => by cases h) (ExtX.ext hX6 hx5 (by omega)))
    | true =>
      go_wp2_with (first
        | (refine wpl_load (by rfl) 28 _ rfl w.heap.size _ _ _ rfl K8.out Try.underlying28 rfl pkt_size ?_)
        | (refine wpl_store (by rfl) 28 _ _ rfl rfl 18 (w.heap.size + 1) _ _ _ rfl rfl K9.out pkt_size rfl rfl (by simp [Value.oneCell']) ?_; intro w5 hx5 k5)
        | (go_at_call 49; refine (cq _).mono ?_; rintro e w3 ⟨rfl, hw⟩; obtain rfl := hw.symm; clear hw)
        | (go_at_call 51; refine (cb _).mono ?_; rintro e w3 ⟨rfl, hw⟩; obtain rfl := hw.symm; clear hw)
        | (go_at_call 52; refine (ca _ hb8).mono ?_; rintro e w4 ⟨k, rfl, hk, hfr, hx4⟩; have n6 := hx4.heap K6.out; have m17 := heap_cell (k := 17) n6; have f17 := frozen_ip n6; have k8 := set_at 17 (.pointer k) (l := [.int .i64 p0, .int .i64 p1, .bool p2, .bool p3, .int .i64 p4, .int .i64 p5, .int .i64 p6, .int .u32 p7, .int .u32 p8, .slice a1 n1 c1, .slice (some ⟨b, off, none⟩) n2 c2, .int .i64 c, .int .i64 0, .int .i64 0, .int .i64 0, .int .i64 T, .int .i64 C, .pointer none]) n6; simp only [List.set_cons_zero, List.set_cons_succ] at k8; have K8 : Hid _ := k8; have hx8 := putX w.heap.size 17 w4 (.pointer k); have K9 : Hid _ := keepX (hx4.heap K7.out) hx8 (by omega); have HX8 : Hid _ := ExtX.ext (hX6.trans hx4) hx8 (Nat.le_refl _); have HK : Hid _ := hk.laterX hx8 (fun a ha => by have := hfr a ha; omega); clear n6 k8 hx8))
      exact bodyPost_ret (results_two Try.results30 _ rfl k5 Try.underlying28 rfl pkt_size) rfl
        (HP.out k _ (IsKey.laterX (o := O) HK.out hx5 (fun a ha => by have := hfr a ha; omega)) (fun a ha => by have := hfr a ha; omega) (ExtX.ext HX8.out hx5 (by omega)))

end Go.Proofs.Ytkagkfbdpiblkaa.Pack
