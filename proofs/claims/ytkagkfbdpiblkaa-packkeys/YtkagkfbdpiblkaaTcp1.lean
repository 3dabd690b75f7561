/- What tcp.Parse answers at any bytes (chapter 5). -/
import Derived.Test.YtkagkfbdpiblkaaTcpP
import Derived.Test.YtkagkfbdpiblkaaBoxSeg
namespace Go.Proofs.Ytkagkfbdpiblkaa.Tcp
open Go.RowKit
set_option linter.unusedVariables false

/-- What a segment's value is, in a world. -/
structure IsSeg (w : World) (v : Value) (p : SEGv) : Prop where
  val : ∃ a1 n1 c1 a2 n2 c2, v = .agg #[.int .i64 p.src, .int .i64 p.dst, .int .u32 p.seq, .int .u32 p.ack, .int .i64 p.flags, .int .i64 p.win, .int .i64 p.urg, .slice a1 n1 c1, .slice a2 n2 c2] ∧ Bytes w a1 n1 p.opts ∧ (a1 = none → c1 = 0) ∧ Bytes w a2 n2 p.data ∧ (a2 = none → c2 = 0)

/-- What Parse answers: the segment, in new memory, and the error. -/
def ParseAns (w : World) (xs : List Int) (e : Ending) (w' : World) : Prop := ∃ v, e = .returned (.tuple #[v, .int .i64 (lookV xs)]) ∧ IsSeg w' v (packV xs) ∧ Ext w w'

theorem parse_end {w : World} (xs : List Int) (er : Int) (w' : World) (hx : Ext w w') (hv : lookV xs = er) (h0 : er ≠ 0) :
    ParseAns w xs (.returned (.tuple #[.agg #[.int .i64 0, .int .i64 0, .int .u32 0, .int .u32 0, .int .i64 0, .int .i64 0, .int .i64 0, .slice none 0 0, .slice none 0 0], .int .i64 er])) w' := by
  have hpk : packV xs = zeroSeg := by unfold packV; rw [if_neg (by omega)]
  unfold ParseAns
  rw [hpk, hv]
  exact ⟨_, rfl, ⟨none, 0, 0, none, 0, 0, rfl, bytes_nil w', fun _ => rfl, bytes_nil w', fun _ => rfl⟩, hx⟩

set_option maxHeartbeats 1000000 in
theorem parse_short (a : Option Addr) (len cap : Nat) (xs : List Int) (w : World) (h : Bytes w a len xs) (hcap : len ≤ cap) (hn : len ≤ 1000000) (hh : len < 20) (hv : lookV xs = 3) :
    Calls Try.prog 46 #[.slice a len cap] w (ParseAns w xs) := by
  have hx0 : Ext w (w.alloc (.cells #[.int .i64 0, .int .i64 0, .int .u32 0, .int .u32 0, .int .i64 0, .int .i64 0, .int .i64 0, .slice none 0 0, .slice none 0 0] 52)) := (Ext.refl w).alloc _
  have h0 := h.below hx0
  have H0 : Hid ((w.alloc (.cells #[.int .i64 0, .int .i64 0, .int .u32 0, .int .u32 0, .int .i64 0, .int .i64 0, .int .i64 0, .slice none 0 0, .slice none 0 0] 52)).heap[w.heap.size]? = some (.cells #[.int .i64 0, .int .i64 0, .int .u32 0, .int .u32 0, .int .i64 0, .int .i64 0, .int .i64 0, .slice none 0 0, .slice none 0 0] 52 (0, 0))) := heap_new' w _
  have HP : Hid (∀ w', Ext w w' → ParseAns w xs (.returned (.tuple #[.agg #[.int .i64 0, .int .i64 0, .int .u32 0, .int .u32 0, .int .i64 0, .int .i64 0, .int .i64 0, .slice none 0 0, .slice none 0 0], .int .i64 3])) w') := fun w' hx => parse_end xs 3 w' hx hv (by omega)
  generalize ParseAns w xs = Ans at *
  clear hv
  clear h h0
  go_enter Try.func46, Try.ntmps46
  iterate 6 (first | go_values | go_skip | go_guarded | go_step | go_upon | go_in | go_simp)
  generalize (w.alloc (.cells #[.int .i64 0, .int .i64 0, .int .u32 0, .int .u32 0, .int .i64 0, .int .i64 0, .int .i64 0, .slice none 0 0, .slice none 0 0] 52)) = W at *
  obtain ⟨d0, d1, d2, d3, d4, d5, d6, d7, d8⟩ := box_seg (x := w.heap.size + 1) H0.out (by omega) W (ExtX.refl _ _)
  have f0 := frozen_ip H0.out
  go_wp2
  have e0 := set_seg H0.out (.int .i64 0) (.int .i64 0) (.int .u32 0) (.int .u32 0) (.int .i64 0) (.int .i64 0) (.int .i64 0) (.slice none 0 0) (.slice none 0 0)
  have e1 := ext_set_seg hx0 (Nat.le_refl _) (.int .i64 0) (.int .i64 0) (.int .u32 0) (.int .u32 0) (.int .i64 0) (.int .i64 0) (.int .i64 0) (.slice none 0 0) (.slice none 0 0)
  obtain ⟨q0, q1, q2, q3, q4, q5, q6, q7, q8⟩ := box_seg (x := w.heap.size + 1) e0 (by omega) _ (ExtX.refl _ _)
  exact bodyPost_ret (v := .tuple #[.agg #[.int .i64 0, .int .i64 0, .int .u32 0, .int .u32 0, .int .i64 0, .int .i64 0, .int .i64 0, .slice none 0 0, .slice none 0 0], .int .i64 3])
    (by simp [results, Try.results46, go_sem, q0, q1, q2, q3, q4, q5, q6, q7, q8]) rfl (HP.out _ e1)

set_option maxHeartbeats 1000000 in
theorem parse_over (a : Option Addr) (len cap : Nat) (xs : List Int) (w : World) (h : Bytes w a len xs) (hcap : len ≤ cap) (hn : len ≤ 1000000) (h20 : 20 ≤ len) (hh : (len : Int) < headV xs) (hv : lookV xs = 3) :
    Calls Try.prog 46 #[.slice a len cap] w (ParseAns w xs) := by
  have hx0 : Ext w (w.alloc (.cells #[.int .i64 0, .int .i64 0, .int .u32 0, .int .u32 0, .int .i64 0, .int .i64 0, .int .i64 0, .slice none 0 0, .slice none 0 0] 52)) := (Ext.refl w).alloc _
  have h0 := h.below hx0
  have H0 : Hid ((w.alloc (.cells #[.int .i64 0, .int .i64 0, .int .u32 0, .int .u32 0, .int .i64 0, .int .i64 0, .int .i64 0, .slice none 0 0, .slice none 0 0] 52)).heap[w.heap.size]? = some (.cells #[.int .i64 0, .int .i64 0, .int .u32 0, .int .u32 0, .int .i64 0, .int .i64 0, .int .i64 0, .slice none 0 0, .slice none 0 0] 52 (0, 0))) := heap_new' w _
  have HP : Hid (∀ w', Ext w w' → ParseAns w xs (.returned (.tuple #[.agg #[.int .i64 0, .int .i64 0, .int .u32 0, .int .u32 0, .int .i64 0, .int .i64 0, .int .i64 0, .slice none 0 0, .slice none 0 0], .int .i64 3])) w') := fun w' hx => parse_end xs 3 w' hx hv (by omega)
  generalize ParseAns w xs = Ans at *
  clear hv
  have hl := h.length
  have ex : byteV xs 12 = xs[12]?.getD 0 := byteV_nat xs 12
  have hb := h.ok.get 12
  obtain ⟨b, off, rfl, hc⟩ := h0.cell (k := 12) (by omega)
  unfold headV at hh
  rw [ex] at hh
  generalize xs[12]?.getD 0 = x at *
  obtain ⟨k, hk⟩ : ∃ k : Nat, x / 16 * 4 = (k : Int) := ⟨(x / 16 * 4).toNat, by omega⟩
  rw [hk] at hh
  have hb12 : (12 : Int) < (len : Int) := by omega
  clear h h0
  go_enter Try.func46, Try.ntmps46
  iterate 6 (first | go_values | go_skip | go_guarded | go_step | go_upon | go_in | go_simp)
  generalize (w.alloc (.cells #[.int .i64 0, .int .i64 0, .int .u32 0, .int .u32 0, .int .i64 0, .int .i64 0, .int .i64 0, .slice none 0 0, .slice none 0 0] 52)) = W at *
  obtain ⟨d0, d1, d2, d3, d4, d5, d6, d7, d8⟩ := box_seg (x := w.heap.size + 1) H0.out (by omega) W (ExtX.refl _ _)
  have f0 := frozen_ip H0.out
  go_wp2
  have e0 := set_seg H0.out (.int .i64 0) (.int .i64 0) (.int .u32 0) (.int .u32 0) (.int .i64 0) (.int .i64 0) (.int .i64 0) (.slice none 0 0) (.slice none 0 0)
  have e1 := ext_set_seg hx0 (Nat.le_refl _) (.int .i64 0) (.int .i64 0) (.int .u32 0) (.int .u32 0) (.int .i64 0) (.int .i64 0) (.int .i64 0) (.slice none 0 0) (.slice none 0 0)
  obtain ⟨q0, q1, q2, q3, q4, q5, q6, q7, q8⟩ := box_seg (x := w.heap.size + 1) e0 (by omega) _ (ExtX.refl _ _)
  exact bodyPost_ret (v := .tuple #[.agg #[.int .i64 0, .int .i64 0, .int .u32 0, .int .u32 0, .int .i64 0, .int .i64 0, .int .i64 0, .slice none 0 0, .slice none 0 0], .int .i64 3])
    (by simp [results, Try.results46, go_sem, q0, q1, q2, q3, q4, q5, q6, q7, q8]) rfl (HP.out _ e1)

set_option maxHeartbeats 1000000 in
theorem parse_form (a : Option Addr) (len cap : Nat) (xs : List Int) (w : World) (h : Bytes w a len xs) (hcap : len ≤ cap) (hn : len ≤ 1000000) (h20 : 20 ≤ len) (hr : headV xs ≤ (len : Int)) (hh : headV xs < 20) (hv : lookV xs = 2) :
    Calls Try.prog 46 #[.slice a len cap] w (ParseAns w xs) := by
  have hx0 : Ext w (w.alloc (.cells #[.int .i64 0, .int .i64 0, .int .u32 0, .int .u32 0, .int .i64 0, .int .i64 0, .int .i64 0, .slice none 0 0, .slice none 0 0] 52)) := (Ext.refl w).alloc _
  have h0 := h.below hx0
  have H0 : Hid ((w.alloc (.cells #[.int .i64 0, .int .i64 0, .int .u32 0, .int .u32 0, .int .i64 0, .int .i64 0, .int .i64 0, .slice none 0 0, .slice none 0 0] 52)).heap[w.heap.size]? = some (.cells #[.int .i64 0, .int .i64 0, .int .u32 0, .int .u32 0, .int .i64 0, .int .i64 0, .int .i64 0, .slice none 0 0, .slice none 0 0] 52 (0, 0))) := heap_new' w _
  have HP : Hid (∀ w', Ext w w' → ParseAns w xs (.returned (.tuple #[.agg #[.int .i64 0, .int .i64 0, .int .u32 0, .int .u32 0, .int .i64 0, .int .i64 0, .int .i64 0, .slice none 0 0, .slice none 0 0], .int .i64 2])) w') := fun w' hx => parse_end xs 2 w' hx hv (by omega)
  generalize ParseAns w xs = Ans at *
  clear hv
  have hl := h.length
  have ex : byteV xs 12 = xs[12]?.getD 0 := byteV_nat xs 12
  have hb := h.ok.get 12
  obtain ⟨b, off, rfl, hc⟩ := h0.cell (k := 12) (by omega)
  unfold headV at hh hr
  rw [ex] at hh hr
  generalize xs[12]?.getD 0 = x at *
  obtain ⟨k, hk⟩ : ∃ k : Nat, x / 16 * 4 = (k : Int) := ⟨(x / 16 * 4).toNat, by omega⟩
  rw [hk] at hh hr
  have hb12 : (12 : Int) < (len : Int) := by omega
  clear h h0
  go_enter Try.func46, Try.ntmps46
  iterate 6 (first | go_values | go_skip | go_guarded | go_step | go_upon | go_in | go_simp)
  generalize (w.alloc (.cells #[.int .i64 0, .int .i64 0, .int .u32 0, .int .u32 0, .int .i64 0, .int .i64 0, .int .i64 0, .slice none 0 0, .slice none 0 0] 52)) = W at *
  obtain ⟨d0, d1, d2, d3, d4, d5, d6, d7, d8⟩ := box_seg (x := w.heap.size + 1) H0.out (by omega) W (ExtX.refl _ _)
  have f0 := frozen_ip H0.out
  go_wp2
  have e0 := set_seg H0.out (.int .i64 0) (.int .i64 0) (.int .u32 0) (.int .u32 0) (.int .i64 0) (.int .i64 0) (.int .i64 0) (.slice none 0 0) (.slice none 0 0)
  have e1 := ext_set_seg hx0 (Nat.le_refl _) (.int .i64 0) (.int .i64 0) (.int .u32 0) (.int .u32 0) (.int .i64 0) (.int .i64 0) (.int .i64 0) (.slice none 0 0) (.slice none 0 0)
  obtain ⟨q0, q1, q2, q3, q4, q5, q6, q7, q8⟩ := box_seg (x := w.heap.size + 1) e0 (by omega) _ (ExtX.refl _ _)
  exact bodyPost_ret (v := .tuple #[.agg #[.int .i64 0, .int .i64 0, .int .u32 0, .int .u32 0, .int .i64 0, .int .i64 0, .int .i64 0, .slice none 0 0, .slice none 0 0], .int .i64 2])
    (by simp [results, Try.results46, go_sem, q0, q1, q2, q3, q4, q5, q6, q7, q8]) rfl (HP.out _ e1)

set_option maxHeartbeats 2000000 in
theorem parse_good (a : Option Addr) (len cap : Nat) (xs : List Int) (w : World) (h : Bytes w a len xs) (hcap : len ≤ cap) (hn : len ≤ 1000000) (hv : lookV xs = 0) :
    Calls Try.prog 46 #[.slice a len cap] w (ParseAns w xs) := by
  have hx0 : Ext w (w.alloc (.cells #[.int .i64 0, .int .i64 0, .int .u32 0, .int .u32 0, .int .i64 0, .int .i64 0, .int .i64 0, .slice none 0 0, .slice none 0 0] 52)) := (Ext.refl w).alloc _
  have h0 := h.below hx0
  have HH : Hid ((w.alloc (.cells #[.int .i64 0, .int .i64 0, .int .u32 0, .int .u32 0, .int .i64 0, .int .i64 0, .int .i64 0, .slice none 0 0, .slice none 0 0] 52)).heap[w.heap.size]? = some (.cells #[.int .i64 0, .int .i64 0, .int .u32 0, .int .u32 0, .int .i64 0, .int .i64 0, .int .i64 0, .slice none 0 0, .slice none 0 0] 52 (0, 0))) := heap_new' w _
  have L := (looks_iff xs).1 hv
  have hl := h.length
  have l1 := L.len; have l2 := L.head; have l3 := L.room
  have hpk : packV xs = parseV xs := by unfold packV; rw [if_pos hv]
  have HP : Hid (∀ e w', ParseAns w xs e w' ↔ ∃ v, e = .returned (.tuple #[v, .int .i64 (lookV xs)]) ∧ IsSeg w' v (packV xs) ∧ Ext w w') := fun e w' => Iff.rfl
  generalize ParseAns w xs = Ans at *
  rw [hpk, hv] at HP
  obtain ⟨k, hk⟩ : ∃ k : Nat, headV xs = k := ⟨(headV xs).toNat, by have := (headV_bd h.ok).1; omega⟩
  have hpv : parseV xs = ⟨get16V xs 0, get16V xs 2, accV xs 4 4, accV xs 8 4, byteV xs 13 % 64, get16V xs 14, get16V xs 18, (xs.take k).drop 20, (xs.take len).drop k⟩ := by
    unfold parseV; rw [hk, Int.toNat_natCast, List.take_of_length_le (show xs.length ≤ len by omega)]
  rw [hpv] at HP
  rw [hk] at l2 l3
  rw [hl] at l1 l3
  obtain ⟨b, off, rfl, hc12⟩ := h0.cell (k := 12) (by omega)
  obtain ⟨p1, hp1, hq1⟩ := h.part 20 k cap (by omega) (by omega) hcap
  obtain ⟨p2, hp2, hq2⟩ := h.part k len cap (by omega) (by omega) hcap
  have cg := fun (p : Int) (w : World) h (p0 : 0 ≤ p) (p1 : p ≤ 60) => get16_any (some ⟨b, off, none⟩) len cap xs p w h (by omega) (by omega)
  have cG := fun (p : Int) (w : World) h (p0 : 0 ≤ p) (p1 : p ≤ 60) => get32_any (some ⟨b, off, none⟩) len cap xs p w h (by omega) (by omega)
  have hok := h.ok
  have g0 := fun w h => cg 0 w h (by omega) (by omega)
  have g2 := fun w h => cg 2 w h (by omega) (by omega)
  have g4 := fun w h => cG 4 w h (by omega) (by omega)
  have g8 := fun w h => cG 8 w h (by omega) (by omega)
  have g14 := fun w h => cg 14 w h (by omega) (by omega)
  have g18 := fun w h => cg 18 w h (by omega) (by omega)
  have x12 : byteV xs 12 = xs[12]?.getD 0 := byteV_nat xs 12
  have x13 : byteV xs 13 = xs[13]?.getD 0 := byteV_nat xs 13
  rw [x13] at HP
  unfold headV at hk
  rw [x12] at hk
  have y12 := hok.get 12
  have y13 := hok.get 13
  have i13 := i64_and6 _ y13.1 y13.2
  have v13 := wraps_i64 _ y13.1 (by omega)
  clear cg cG L hpk hpv hv x12 x13
  generalize get16V xs 0 = s0 at *
  generalize get16V xs 2 = s1 at *
  generalize accV xs 4 4 = s2 at *
  generalize accV xs 8 4 = s3 at *
  generalize get16V xs 14 = s5 at *
  generalize get16V xs 18 = s6 at *
  have hrd : ∀ w1, Ext w w1 → ∀ j, j < len → ∀ w', ExtX w.heap.size w1 w' → w'.cell? ⟨b, off + j, none⟩ = some (.int .u8 (xs[j]?.getD 0)) := fun w1 hX j hj w' hx => by
    obtain ⟨b', off', hab, hc⟩ := (h.below (ExtX.ext hX hx (Nat.le_refl _))).cell hj
    obtain ⟨rfl, rfl⟩ : b = b' ∧ off = off' := by simpa using hab
    exact hc
  generalize xs[12]?.getD 0 = x12 at *
  have b12 : (12 : Int) < (len : Int) := by omega
  have b13 : (13 : Int) < (len : Int) := by omega
  have kc : (k : Int) ≤ (cap : Int) := by omega
  have lc : (len : Int) ≤ (cap : Int) := by omega
  have kl : (k : Int) ≤ (len : Int) := by omega
  go_enter Try.func46, Try.ntmps46
  go_wp2
  have hX : Ext w (w.alloc (.cells #[.int .i64 0, .int .i64 0, .int .u32 0, .int .u32 0, .int .i64 0, .int .i64 0, .int .i64 0, .slice none 0 0, .slice none 0 0] 52)).drew := hx0.drew
  have r13 := hrd _ hX 13 (by omega)
  have K3 : Hid ((w.alloc (.cells #[.int .i64 0, .int .i64 0, .int .u32 0, .int .u32 0, .int .i64 0, .int .i64 0, .int .i64 0, .slice none 0 0, .slice none 0 0] 52)).drew.heap[w.heap.size]? = some (.cells #[.int .i64 0, .int .i64 0, .int .u32 0, .int .u32 0, .int .i64 0, .int .i64 0, .int .i64 0, .slice none 0 0, .slice none 0 0] 52 (0, 0))) := HH.out
  have hsz : w.heap.size + 1 ≤ (w.alloc (.cells #[.int .i64 0, .int .i64 0, .int .u32 0, .int .u32 0, .int .i64 0, .int .i64 0, .int .i64 0, .slice none 0 0, .slice none 0 0] 52)).heap.size := by simp
  refine wp_region_makeX w.heap.size (w.heap.size + 1) hsz [(0, 0), (2, 0), (4, 0), (6, 0), (8, 0), (9, 0), (10, 0), (11, 0), (12, 0), (13, 0), (15, 0), (17, 0), (18, 0), (19, 0), (22, 0), (23, 0), (24, 0), (20, 3), (25, 3), (1, 1), (3, 1), (5, 1), (7, 1), (14, 1), (16, 1), (20, 2), (21, 1), (25, 2), (26, 1), (27, 0), (28, 4), (29, 0)] (by kernel_rfl) (by kernel_rfl) rfl (by kernel_rfl) (fun _ _ _ _ _ => Iff.rfl) ?_
  have hszW : w.heap.size + 1 ≤ (w.alloc (.cells #[.int .i64 0, .int .i64 0, .int .u32 0, .int .u32 0, .int .i64 0, .int .i64 0, .int .i64 0, .slice none 0 0, .slice none 0 0] 52)).drew.heap.size := hsz
  clear hrd HH h0 hx0 hsz hc12 hk
  generalize (w.alloc (.cells #[.int .i64 0, .int .i64 0, .int .u32 0, .int .u32 0, .int .i64 0, .int .i64 0, .int .i64 0, .slice none 0 0, .slice none 0 0] 52)).drew = W at *
  generalize xs[13]?.getD 0 = x13 at *
  repeat (first
    | (refine wpW_read (v := ?_) rfl (by rfl) ?_ ?_; rotate_left; (focus (intro w' hx; go_simp; first | done | with_reducible rfl)); simp only [Act.put, List.setIfInBounds_toArray, List.set_cons_zero, List.set_cons_succ]))
  (refine wpW_say _ (fun g => .slice (some ⟨g, 0, none⟩) 1 1) rfl (by rfl) (fun w' => by go_simp; first | done | with_reducible rfl) ?_)
  (refine wpW_say _ (fun g => .slice (some ⟨g, 0, none⟩) 1 1) rfl (by rfl) (fun w' => by go_simp; first | done | with_reducible rfl) ?_)
  refine wpW_call rfl (by rfl) (fun W1 hx1 K hK => ?_); go_simp; (go_at_call 43; have hX1 := hX.trans hx1; refine (g0 _ (h.below hX1)).mono ?_; rintro e w' ⟨rfl, rfl⟩; refine hK _ _ (Ext.refl _) ?_; clear hK K)
  refine wpW_call rfl (by rfl) (fun W2 hx2 K hK => ?_); go_simp; (go_at_call 43; have hX2 := hX1.trans hx2; refine (g2 _ (h.below hX2)).mono ?_; rintro e w' ⟨rfl, rfl⟩; refine hK _ _ (Ext.refl _) ?_; clear hK K)
  refine wpW_call rfl (by rfl) (fun W3 hx3 K hK => ?_); go_simp; (go_at_call 44; have hX3 := hX2.trans hx3; refine (g4 _ (h.below hX3)).mono ?_; rintro e w' ⟨rfl, rfl⟩; refine hK _ _ (Ext.refl _) ?_; clear hK K)
  refine wpW_call rfl (by rfl) (fun W4 hx4 K hK => ?_); go_simp; (go_at_call 44; have hX4 := hX3.trans hx4; refine (g8 _ (h.below hX4)).mono ?_; rintro e w' ⟨rfl, rfl⟩; refine hK _ _ (Ext.refl _) ?_; clear hK K)
  refine wpW_call rfl (by rfl) (fun W5 hx5 K hK => ?_); go_simp; (go_at_call 43; have hX5 := hX4.trans hx5; refine (g14 _ (h.below hX5)).mono ?_; rintro e w' ⟨rfl, rfl⟩; refine hK _ _ (Ext.refl _) ?_; clear hK K)
  refine wpW_call rfl (by rfl) (fun W6 hx6 K hK => ?_); go_simp; (go_at_call 43; have hX6 := hX5.trans hx6; refine (g18 _ (h.below hX6)).mono ?_; rintro e w' ⟨rfl, rfl⟩; refine hK _ _ (Ext.refl _) ?_; clear hK K)
  refine wpW_make _ (fun g => .slice (some ⟨g, 0, none⟩) 1 1) rfl (by rfl) (fun w' => by go_simp; first | done | with_reducible rfl) ?_; simp only [Act.put, List.setIfInBounds_toArray, List.set_cons_zero, List.set_cons_succ]; intro W7 ga hx7 hBa hga
  refine wpW_call rfl (by rfl) (fun W8 hx8 K hK => ?_); go_simp; (go_at_call 45; have hX8 := (hX6.trans hx7).trans hx8; refine (join1_own ga (some p1) (k - 20) (cap - 20) _ W8 (hx8.heap hga) (hq1 _ hX8) (by simp) (by omega)).mono ?_; rintro e w9 ⟨q1, d1, rfl, ho1, hx9⟩; refine hK _ _ hx9 ?_; clear hK K)
  refine wpW_make _ (fun g => .slice (some ⟨g, 0, none⟩) 1 1) rfl (by rfl) (fun w' => by go_simp; first | done | with_reducible rfl) ?_; simp only [Act.put, List.setIfInBounds_toArray, List.set_cons_zero, List.set_cons_succ]; intro W10 gb hx10 hBb hgb
  refine wpW_call rfl (by rfl) (fun W11 hx11 K hK => ?_); go_simp; (go_at_call 45; have hX11 := ((hX8.trans hx9).trans hx10).trans hx11; refine (join1_own gb (some p2) (len - k) (cap - k) _ W11 (hx11.heap hgb) (hq2 _ hX11) (by simp) (by omega)).mono ?_; rintro e w12 ⟨q2, d2, rfl, ho2, hx12⟩; refine hK _ _ hx12 ?_; clear hK K)
  (refine wpW_read (v := ?_) rfl (by rfl) ?_ ?_; rotate_left; (focus (intro w' hx; go_simp; first | done | with_reducible rfl)); simp only [Act.put, List.setIfInBounds_toArray, List.set_cons_zero, List.set_cons_succ])
  have hW8 : Ext W W8 := hx1.trans (hx2.trans (hx3.trans (hx4.trans (hx5.trans (hx6.trans (hx7.trans hx8))))))
  have hW11 : Ext W W11 := hW8.trans (hx9.trans (hx10.trans hx11))
  have hW12 : Ext W w12 := hW11.trans hx12
  have k9 := hW12.heap K3.out
  have s5' : w.heap.size < W8.heap.size := by have := hW8.size; omega
  have s8' : w.heap.size < W11.heap.size := by have := hW11.size; omega
  have o1 := owns_later ho1 ((hx10.trans hx11).trans hx12)
  have K9 : Hid _ := k9
  obtain ⟨d0, d1', d2', d3, d4, d5, d6, d7, d8⟩ := box_seg (x := w.heap.size + 1) k9 (by omega) w12 (ExtX.refl _ _)
  have f0 := frozen_ip k9
  clear k9 hga hgb hx1 hx2 hx3 hx4 hx5 hx6 hx7 hx8 hx9 hx10 hx11 hx12 hX1 hX2 hX3 hX4 hX5 hX6 hX8 hX11 g0 g2 g4 g8 g14 g18 hq1 hq2 r13 hW8 hW11 i13 v13
  refine wpW_last rfl (by rfl) (fun K hK => ?_)
  go_simp
  refine hK _ _ (extX_set_seg w12 w.heap.size (.int .i64 s0) (.int .i64 s1) (.int .u32 s2) (.int .u32 s3) (.int .i64 (x13 % 64)) (.int .i64 s5) (.int .i64 s6) (.slice q1 (k - 20) d1) (.slice q2 (len - k) d2)) ?_
  clear hK K
  have e0 := set_seg K9.out (.int .i64 s0) (.int .i64 s1) (.int .u32 s2) (.int .u32 s3) (.int .i64 (x13 % 64)) (.int .i64 s5) (.int .i64 s6) (.slice q1 (k - 20) d1) (.slice q2 (len - k) d2)
  have e1 := ext_set_seg (hX.trans hW12) (Nat.le_refl _) (.int .i64 s0) (.int .i64 s1) (.int .u32 s2) (.int .u32 s3) (.int .i64 (x13 % 64)) (.int .i64 s5) (.int .i64 s6) (.slice q1 (k - 20) d1) (.slice q2 (len - k) d2)
  have e2 := extX_set_seg w12 w.heap.size (.int .i64 s0) (.int .i64 s1) (.int .u32 s2) (.int .u32 s3) (.int .i64 (x13 % 64)) (.int .i64 s5) (.int .i64 s6) (.slice q1 (k - 20) d1) (.slice q2 (len - k) d2)
  have o1' := owns_laterX o1 e2 s5'
  have o2' := owns_laterX ho2 e2 s8'
  obtain ⟨u0, u1, u2, u3, u4, u5, u6, u7, u8⟩ := box_seg (x := w.heap.size + 1) e0 (by omega) _ (ExtX.refl _ _)
  obtain ⟨hba, hza, _⟩ := owns_slice o1' (fun x hx => hok x (List.mem_of_mem_take (List.mem_of_mem_drop hx)))
  obtain ⟨hbb, hzb, _⟩ := owns_slice o2' (fun x hx => hok x (List.mem_of_mem_take (List.mem_of_mem_drop hx)))
  (refine wpW_read (v := ?_) rfl (by rfl) ?_ ?_; rotate_left; (focus (intro w' hx; go_simp; first | done | with_reducible rfl)); simp only [Act.put, List.setIfInBounds_toArray, List.set_cons_zero, List.set_cons_succ])
  refine wpW_done ?_
  go_wp2
  exact bodyPost_ret (v := .tuple #[.agg #[.int .i64 s0, .int .i64 s1, .int .u32 s2, .int .u32 s3, .int .i64 (x13 % 64), .int .i64 s5, .int .i64 s6, .slice q1 (k - 20) d1, .slice q2 (len - k) d2], .int .i64 0])
    (by simp [results, Try.results46, go_sem, u0, u1, u2, u3, u4, u5, u6, u7, u8]) rfl
    ((HP.out _ _).2 ⟨_, rfl, ⟨⟨q1, k - 20, d1, q2, len - k, d2, rfl, hba, hza, hbb, hzb⟩⟩, e1⟩)

theorem parse_any (a : Option Addr) (len cap : Nat) (xs : List Int) (w : World) (h : Bytes w a len xs) (hcap : len ≤ cap) (hn : len ≤ 1000000) :
    Calls Try.prog 46 #[.slice a len cap] w (ParseAns w xs) := by
  have hl := h.length
  rcases look_cases xs with ⟨h1, hv⟩ | ⟨h1, h2, hv⟩ | ⟨h1, h2, h3, hv⟩ | ⟨h1, h2, h3, hv⟩
  · exact parse_short a len cap xs w h hcap hn (by omega) hv
  · exact parse_over a len cap xs w h hcap hn (by omega) (by omega) hv
  · exact parse_form a len cap xs w h hcap hn (by omega) (by omega) h3 hv
  · exact parse_good a len cap xs w h hcap hn hv

/-- Parse of bytes that are a segment. -/
theorem parse_is (a : Option Addr) (len cap : Nat) (xs : List Int) (p : SEGv) (w : World) (h : Bytes w a len xs) (hcap : len ≤ cap) (hn : len ≤ 1000000) (hv : lookV xs = 0) (hp : parseV xs = p) :
    Calls Try.prog 46 #[.slice a len cap] w fun e w' => ∃ a1 n1 c1 a2 n2 c2, e = .returned (.tuple #[.agg #[.int .i64 p.src, .int .i64 p.dst, .int .u32 p.seq, .int .u32 p.ack, .int .i64 p.flags, .int .i64 p.win, .int .i64 p.urg, .slice a1 n1 c1, .slice a2 n2 c2], .int .i64 0]) ∧ Bytes w' a1 n1 p.opts ∧ (a1 = none → c1 = 0) ∧ Bytes w' a2 n2 p.data ∧ (a2 = none → c2 = 0) ∧ Ext w w' := by
  refine (parse_any a len cap xs w h hcap hn).mono ?_
  rintro e w' ⟨v, rfl, ⟨⟨a1, n1, c1, a2, n2, c2, hval, h1, z1, h2, z2⟩⟩, hx⟩
  have hpk : packV xs = p := by unfold packV; rw [if_pos hv, hp]
  rw [hpk] at hval h1 h2
  exact ⟨a1, n1, c1, a2, n2, c2, by rw [hval, hv], h1, z1, h2, z2, hx⟩

/-- Parse of bytes that are none. -/
theorem parse_not (a : Option Addr) (len cap : Nat) (xs : List Int) (er : Int) (w : World) (h : Bytes w a len xs) (hcap : len ≤ cap) (hn : len ≤ 1000000) (hv : lookV xs = er) (h0 : er ≠ 0) :
    Calls Try.prog 46 #[.slice a len cap] w fun e w' => ∃ a1 n1 c1 a2 n2 c2, e = .returned (.tuple #[.agg #[.int .i64 zeroSeg.src, .int .i64 zeroSeg.dst, .int .u32 zeroSeg.seq, .int .u32 zeroSeg.ack, .int .i64 zeroSeg.flags, .int .i64 zeroSeg.win, .int .i64 zeroSeg.urg, .slice a1 n1 c1, .slice a2 n2 c2], .int .i64 er]) ∧ Bytes w' a1 n1 zeroSeg.opts ∧ (a1 = none → c1 = 0) ∧ Bytes w' a2 n2 zeroSeg.data ∧ (a2 = none → c2 = 0) ∧ Ext w w' := by
  refine (parse_any a len cap xs w h hcap hn).mono ?_
  rintro e w' ⟨v, rfl, ⟨⟨a1, n1, c1, a2, n2, c2, hval, h1, z1, h2, z2⟩⟩, hx⟩
  have hpk : packV xs = zeroSeg := by unfold packV; rw [if_neg (by omega)]
  rw [hpk] at hval h1 h2
  exact ⟨a1, n1, c1, a2, n2, c2, by rw [hval, hv], h1, z1, h2, z2, hx⟩

end Go.Proofs.Ytkagkfbdpiblkaa.Tcp
