/- What the document's own Read and Parse answer at any bytes (chapter 7). -/
import Derived.Test.YtkagkfbdpiblkaaIcmp1
import Derived.Test.YtkagkfbdpiblkaaRef1
import Derived.Test.YtkagkfbdpiblkaaRef2
namespace Go.Proofs.Ytkagkfbdpiblkaa.Icmp
open Go.RowKit
set_option linter.unusedVariables false

theorem no_byte {w : World} {g : Nat} (h : w.heap[g]? = some (.cells #[.int .i64 0, .int .i64 0, .int .u32 0, .slice none 0 0] 49 (0, 0))) : ∀ k v, w.cell? ⟨g, k, none⟩ ≠ some (.int .u8 v) := fun k v => by
  rw [heap_cell h]
  match k with
  | 0 => simp
  | 1 => simp
  | 2 => simp
  | 3 => simp
  | n + 4 => simp

/-- What Read answers. -/
def ReadAns (w : World) (xs : List Int) (e : Ending) (w' : World) : Prop := ∃ v, e = .returned v ∧ IsMsg w' v (parseV xs) ∧ Ext w w'

set_option maxHeartbeats 2000000 in
theorem refRead_any (a : Option Addr) (len cap : Nat) (xs : List Int) (w : World) (h : Bytes w a len xs) (hcap : len ≤ cap) (hn : len ≤ 1000000) (h8 : 8 ≤ len) :
    Calls Try.prog 73 #[.slice a len cap] w (ReadAns w xs) := by
  have hx0 : Ext w (w.alloc (.cells #[.int .i64 0, .int .i64 0, .int .u32 0, .slice none 0 0] 49)) := (Ext.refl w).alloc _
  have h0 := h.below hx0
  have HH : Hid ((w.alloc (.cells #[.int .i64 0, .int .i64 0, .int .u32 0, .slice none 0 0] 49)).heap[w.heap.size]? = some (.cells #[.int .i64 0, .int .i64 0, .int .u32 0, .slice none 0 0] 49 (0, 0))) := heap_new' w _
  have hl := h.length
  have HP : Hid (∀ e w', ReadAns w xs e w' ↔ ∃ v, e = .returned v ∧ IsMsg w' v (parseV xs) ∧ Ext w w') := fun e w' => Iff.rfl
  generalize ReadAns w xs = Ans at *
  have hpv : parseV xs = ⟨xs[0]?.getD 0, xs[1]?.getD 0, accV xs 4 4, (xs.take len).drop 8⟩ := by
    have ex0 : byteV xs 0 = xs[0]?.getD 0 := byteV_nat xs 0
    have ex1 : byteV xs 1 = xs[1]?.getD 0 := byteV_nat xs 1
    unfold parseV; rw [ex0, ex1, List.take_of_length_le (by omega)]
  rw [hpv] at HP
  obtain ⟨b, off, rfl, _⟩ := h0.cell (k := 0) (by omega)
  obtain ⟨p1, hp1, hq1⟩ := h.part 8 len cap (by omega) (by omega) hcap
  have g4 := fun w h => refGet32_any (some ⟨b, off, none⟩) len cap xs 4 w h (by omega) (by omega)
  have hok := h.ok
  have y0 := hok.get 0
  have y1 := hok.get 1
  have v0 := wraps_i64 _ y0.1 (by omega)
  have v1 := wraps_i64 _ y1.1 (by omega)
  clear hpv
  generalize accV xs 4 4 = s2 at *
  have lc : (len : Int) ≤ (cap : Int) := by omega
  have l8 : (8 : Int) ≤ (len : Int) := by omega
  have b0 : 0 < len := by omega
  have b1 : (1 : Int) < (len : Int) := by omega
  go_enter Try.func73, Try.ntmps73
  go_wp2
  have hX : Ext w (w.alloc (.cells #[.int .i64 0, .int .i64 0, .int .u32 0, .slice none 0 0] 49)).drew := hx0.drew
  have K2 := HH.out
  have hsz : w.heap.size + 1 ≤ (w.alloc (.cells #[.int .i64 0, .int .i64 0, .int .u32 0, .slice none 0 0] 49)).heap.size := by simp
  have hrd : ∀ j, j < len → ∀ w', ExtX w.heap.size (w.alloc (.cells #[.int .i64 0, .int .i64 0, .int .u32 0, .slice none 0 0] 49)).drew w' → w'.cell? ⟨b, off + j, none⟩ = some (.int .u8 (xs[j]?.getD 0)) := fun j hj w' hx => by
    obtain ⟨b', off', hab, hc⟩ := (h.below (ExtX.ext hX hx (Nat.le_refl _))).cell hj
    obtain ⟨rfl, rfl⟩ : b = b' ∧ off = off' := by simpa using hab
    exact hc
  have r0 := hrd 0 (by omega)
  rw [Nat.add_zero] at r0
  have r1 := hrd 1 (by omega)
  have K3 : Hid ((w.alloc (.cells #[.int .i64 0, .int .i64 0, .int .u32 0, .slice none 0 0] 49)).drew.heap[w.heap.size]? = some (.cells #[.int .i64 0, .int .i64 0, .int .u32 0, .slice none 0 0] 49 (0, 0))) := K2
  refine wp_region_makeX w.heap.size (w.heap.size + 1) hsz [(0, 0), (1, 0), (2, 0), (3, 0), (4, 0), (5, 0), (6, 0), (7, 0), (8, 0), (11, 0), (12, 0), (10, 3), (9, 1), (10, 2), (13, 1), (14, 0), (15, 4)] (by kernel_rfl) (by kernel_rfl) rfl (by kernel_rfl) (fun _ _ _ _ _ => Iff.rfl) ?_
  have hsz' : w.heap.size + 1 ≤ (w.alloc (.cells #[.int .i64 0, .int .i64 0, .int .u32 0, .slice none 0 0] 49)).drew.heap.size := hsz
  obtain ⟨i0, hi, hz0, hz1, hz2⟩ := info_parts Try.infoByte
  clear hrd K2 HH h0 hx0 hsz
  generalize (w.alloc (.cells #[.int .i64 0, .int .i64 0, .int .u32 0, .slice none 0 0] 49)).drew = W at *
  generalize xs[0]?.getD 0 = s0 at *
  generalize xs[1]?.getD 0 = s1 at *
  iterate 11 (refine wpW_read (v := ?_) rfl (by rfl) ?_ ?_; rotate_left; (focus (intro w' hx; go_simp; first | done | with_reducible rfl)); simp only [Act.put, List.setIfInBounds_toArray, List.set_cons_zero, List.set_cons_succ])
  (refine wpW_say _ (fun g => .slice (some ⟨g, 0, none⟩) 0 0) rfl (by rfl) (fun w' => by go_simp; first | done | with_reducible rfl) ?_)
  refine wpW_call rfl (by rfl) (fun W1 hx1 K hK => ?_); go_simp; (go_at_call 70; have hX1 := hX.trans hx1; refine (g4 _ (h.below hX1)).mono ?_; rintro e w' ⟨rfl, rfl⟩; refine hK _ _ (Ext.refl _) ?_; clear hK K)
  refine wpW_make _ (fun g => .slice (some ⟨g, 0, none⟩) 0 0) rfl (by rfl) (fun w' => by go_simp; first | done | with_reducible rfl) ?_; simp only [Act.put, List.setIfInBounds_toArray, List.set_cons_zero, List.set_cons_succ]; intro W3 ga hx3 hBa hga
  refine wpW_call rfl (by rfl) (fun W4 hx4 K hK => ?_)
  have hX4 := (hX1.trans hx3).trans hx4
  refine wp_append_full (.tmp 13) (.tmp 15) 22 rfl 5 i0 (.int .u8 0) Try.underlying22 hi hz0 hz1 hz2 rfl ga 0 [] rfl (hx4.heap hga) rfl (some p1) (len - 8) (cap - 8) _ rfl (hq1 _ hX4) (by simp) (by omega) (w.heap.size + 1) hBa ?_
  intro v5 w5 ho1 hx5
  rw [Nat.zero_add, List.nil_append] at ho1
  obtain ⟨q1, d1, rfl⟩ := owns_shape ho1
  refine hK _ _ hx5 ?_
  clear hK K
  simp only [Act.put, List.setIfInBounds_toArray, List.set_cons_zero, List.set_cons_succ]
  (refine wpW_read (v := ?_) rfl (by rfl) ?_ ?_; rotate_left; (focus (intro w' hx; go_simp; first | done | with_reducible rfl)); simp only [Act.put, List.setIfInBounds_toArray, List.set_cons_zero, List.set_cons_succ])
  have hW4 : Ext W W4 := hx1.trans (hx3.trans hx4)
  have hW5 : Ext W w5 := hW4.trans hx5
  have k9 := hW5.heap K3.out
  have s5' : w.heap.size < w.heap.size + 1 := by have := hW4.size; omega
  have K9 : Hid _ := k9
  obtain ⟨c0, c1, c2, c3⟩ := box_msg (x := w.heap.size + 1) k9 (by omega) w5 (ExtX.refl _ _)
  have f0 := frozen_ip k9
  clear k9 hga hx1 hx3 hx4 hx5 hX1 hX4 g4 hq1 hW4 r0 r1
  refine wpW_last rfl (by rfl) (fun K hK => ?_)
  go_simp
  refine hK _ _ (extX_set_msg w5 w.heap.size (.int .i64 s0) (.int .i64 s1) (.int .u32 s2) (.slice q1 (len - 8) d1)) ?_
  clear hK K
  have e0 := set_msg K9.out (.int .i64 s0) (.int .i64 s1) (.int .u32 s2) (.slice q1 (len - 8) d1)
  have e1 := ext_set_msg (hX.trans hW5) (Nat.le_refl _) (.int .i64 s0) (.int .i64 s1) (.int .u32 s2) (.slice q1 (len - 8) d1)
  have e2 := extX_set_msg w5 w.heap.size (.int .i64 s0) (.int .i64 s1) (.int .u32 s2) (.slice q1 (len - 8) d1)
  have o1' := owns_laterX ho1 e2 s5'
  obtain ⟨u0, u1, u2, u3⟩ := box_msg (x := w.heap.size + 1) e0 (by omega) _ (ExtX.refl _ _)
  obtain ⟨hba, hza, hca⟩ := owns_slice o1' (fun x hx => hok x (List.mem_of_mem_take (List.mem_of_mem_drop hx)))
  refine wpW_done ?_
  go_wp2
  exact bodyPost_ret (v := .agg #[.int .i64 s0, .int .i64 s1, .int .u32 s2, .slice q1 (len - 8) d1])
    (by simp [results, Try.results73, go_sem, u0, u1, u2, u3]) rfl
    ((HP.out _ _).2 ⟨_, rfl, ⟨⟨q1, len - 8, d1, rfl, hba, hza, hca⟩⟩, e1⟩)

set_option maxHeartbeats 1000000 in
theorem refParse_short (a : Option Addr) (len cap : Nat) (xs : List Int) (w : World) (h : Bytes w a len xs) (hcap : len ≤ cap) (hn : len ≤ 1000000) (hh : len < 8) (hv : lookV xs = 3) :
    Calls Try.prog 72 #[.slice a len cap] w (ParseAns w xs) := by
  have hx0 : Ext w (w.alloc (.cells #[.int .i64 0, .int .i64 0, .int .u32 0, .slice none 0 0] 49)) := (Ext.refl w).alloc _
  have h0 := h.below hx0
  have H0 : Hid ((w.alloc (.cells #[.int .i64 0, .int .i64 0, .int .u32 0, .slice none 0 0] 49)).heap[w.heap.size]? = some (.cells #[.int .i64 0, .int .i64 0, .int .u32 0, .slice none 0 0] 49 (0, 0))) := heap_new' w _
  have HP : Hid (∀ w', Ext w w' → ParseAns w xs (.returned (.tuple #[.agg #[.int .i64 0, .int .i64 0, .int .u32 0, .slice none 0 0], .int .i64 3])) w') := fun w' hx => parse_end xs 3 w' hx hv (by omega)
  generalize ParseAns w xs = Ans at *
  clear hv
  clear h
  go_enter Try.func72, Try.ntmps72
  iterate 6 (first | go_values | go_skip | go_guarded | go_step | go_upon | go_in | go_simp)
  generalize (w.alloc (.cells #[.int .i64 0, .int .i64 0, .int .u32 0, .slice none 0 0] 49)) = W at *
  obtain ⟨d0, d1, d2, d3⟩ := box_msg (x := w.heap.size + 1) H0.out (by omega) W (ExtX.refl _ _)
  have f0 := frozen_ip H0.out
  go_wp2
  have e0 := set_msg H0.out (.int .i64 0) (.int .i64 0) (.int .u32 0) (.slice none 0 0)
  have e1 := ext_set_msg hx0 (Nat.le_refl _) (.int .i64 0) (.int .i64 0) (.int .u32 0) (.slice none 0 0)
  obtain ⟨q0, q1, q2, q3⟩ := box_msg (x := w.heap.size + 1) e0 (by omega) _ (ExtX.refl _ _)
  exact bodyPost_ret (v := .tuple #[.agg #[.int .i64 0, .int .i64 0, .int .u32 0, .slice none 0 0], .int .i64 3])
    (by simp [results, Try.results72, go_sem, q0, q1, q2, q3]) rfl (HP.out _ e1)

set_option maxHeartbeats 1000000 in
theorem refParse_sum (a : Option Addr) (len cap : Nat) (xs : List Int) (w : World) (h : Bytes w a len xs) (hcap : len ≤ cap) (hn : len ≤ 1000000) (h8 : 8 ≤ len) (hh : ofV xs ≠ 0) (hv : lookV xs = 4) :
    Calls Try.prog 72 #[.slice a len cap] w (ParseAns w xs) := by
  have hx0 : Ext w (w.alloc (.cells #[.int .i64 0, .int .i64 0, .int .u32 0, .slice none 0 0] 49)) := (Ext.refl w).alloc _
  have h0 := h.below hx0
  have H0 : Hid ((w.alloc (.cells #[.int .i64 0, .int .i64 0, .int .u32 0, .slice none 0 0] 49)).heap[w.heap.size]? = some (.cells #[.int .i64 0, .int .i64 0, .int .u32 0, .slice none 0 0] 49 (0, 0))) := heap_new' w _
  have HP : Hid (∀ w', Ext w w' → ParseAns w xs (.returned (.tuple #[.agg #[.int .i64 0, .int .i64 0, .int .u32 0, .slice none 0 0], .int .i64 4])) w') := fun w' hx => parse_end xs 4 w' hx hv (by omega)
  generalize ParseAns w xs = Ans at *
  clear hv
  obtain ⟨b, off, rfl, _⟩ := h.cell (k := 0) (by omega)
  have cr := fun w h => refRight_any (some ⟨b, off, none⟩) len cap xs w h (by omega)
  rw [show decide (ofV xs = 0) = false by simpa using hh] at cr
  have lc : (8 : Int) ≤ (len : Int) := by omega
  clear hh
  clear h
  go_enter Try.func72, Try.ntmps72
  iterate 6 (first | go_values | go_skip | go_guarded | go_step | go_upon | go_in | go_simp)
  generalize (w.alloc (.cells #[.int .i64 0, .int .i64 0, .int .u32 0, .slice none 0 0] 49)) = W at *
  go_wp2_with (go_at_call 69; refine (cr _ h0).mono ?_; rintro e w1 ⟨rfl, rfl⟩; have k1 := H0.out; have hx1 := Ext.refl w1; have K1 : Hid _ := k1; obtain ⟨d0, d1, d2, d3⟩ := box_msg (x := w.heap.size + 1) k1 (by omega) w1 (ExtX.refl _ _); have f0 := frozen_ip k1; clear k1)
  have e0 := set_msg K1.out (.int .i64 0) (.int .i64 0) (.int .u32 0) (.slice none 0 0)
  have e1 := ext_set_msg (hx0.trans hx1) (Nat.le_refl _) (.int .i64 0) (.int .i64 0) (.int .u32 0) (.slice none 0 0)
  obtain ⟨q0, q1, q2, q3⟩ := box_msg (x := w.heap.size + 1) e0 (by omega) _ (ExtX.refl _ _)
  exact bodyPost_ret (v := .tuple #[.agg #[.int .i64 0, .int .i64 0, .int .u32 0, .slice none 0 0], .int .i64 4])
    (by simp [results, Try.results72, go_sem, q0, q1, q2, q3]) rfl (HP.out _ e1)

set_option maxHeartbeats 1000000 in
theorem refParse_good (a : Option Addr) (len cap : Nat) (xs : List Int) (w : World) (h : Bytes w a len xs) (hcap : len ≤ cap) (hn : len ≤ 1000000) (hv : lookV xs = 0) :
    Calls Try.prog 72 #[.slice a len cap] w (ParseAns w xs) := by
  have hx0 : Ext w (w.alloc (.cells #[.int .i64 0, .int .i64 0, .int .u32 0, .slice none 0 0] 49)) := (Ext.refl w).alloc _
  have h0 := h.below hx0
  have H0 : Hid ((w.alloc (.cells #[.int .i64 0, .int .i64 0, .int .u32 0, .slice none 0 0] 49)).heap[w.heap.size]? = some (.cells #[.int .i64 0, .int .i64 0, .int .u32 0, .slice none 0 0] 49 (0, 0))) := heap_new' w _
  have L := (looks_iff xs).1 hv
  have h8 := L.len
  rw [h.length] at h8
  have hpk : packV xs = parseV xs := by unfold packV; rw [if_pos hv]
  have HP : Hid (∀ e w', ParseAns w xs e w' ↔ ∃ v, e = .returned (.tuple #[v, .int .i64 (lookV xs)]) ∧ IsMsg w' v (packV xs) ∧ Ext w w') := fun e w' => Iff.rfl
  generalize ParseAns w xs = Ans at *
  rw [hpk, hv] at HP
  have cr := fun w h => refRight_any a len cap xs w h (by omega)
  rw [show decide (ofV xs = 0) = true by simpa using L.right] at cr
  have cd := fun w h => (refRead_any a len cap xs w h hcap hn h8).mono (fun e w' (h : ReadAns w xs e w') => (show ∃ v, e = .returned v ∧ IsMsg w' v (parseV xs) ∧ Ext w w' from h))
  clear L hv hpk
  generalize parseV xs = p at *
  obtain ⟨s0, s1, s2, s3⟩ := p
  have lc : (8 : Int) ≤ (len : Int) := by omega
  clear h
  go_enter Try.func72, Try.ntmps72
  iterate 6 (first | go_values | go_skip | go_guarded | go_step | go_upon | go_in | go_simp)
  have hsz : w.heap.size < (w.alloc (.cells #[.int .i64 0, .int .i64 0, .int .u32 0, .slice none 0 0] 49)).heap.size := by simp
  generalize (w.alloc (.cells #[.int .i64 0, .int .i64 0, .int .u32 0, .slice none 0 0] 49)) = W at *
  go_wp2_with (first
    | (go_at_call 69; refine (cr _ h0).mono ?_; rintro e w1 ⟨rfl, rfl⟩)
    | (go_at_call 73; refine (cd _ h0).mono ?_; rintro e w2 ⟨v, rfl, ⟨⟨q1, m1, d1, rfl, hb, hz, hd⟩⟩, hx2⟩; dsimp only at hb ⊢; have k1 := hx2.heap H0.out; have K1 : Hid _ := k1; obtain ⟨d0', d1', d2', d3'⟩ := box_msg (x := w.heap.size + 1) k1 (by omega) w2 (ExtX.refl _ _); have f0 := frozen_ip k1; clear k1))
  have e0 := set_msg K1.out (.int .i64 s0) (.int .i64 s1) (.int .u32 s2) (.slice q1 m1 d1)
  have e1 := ext_set_msg (hx0.trans hx2) (Nat.le_refl _) (.int .i64 s0) (.int .i64 s1) (.int .u32 s2) (.slice q1 m1 d1)
  have e2 := extX_set_msg w2 w.heap.size (.int .i64 s0) (.int .i64 s1) (.int .u32 s2) (.slice q1 m1 d1)
  obtain ⟨u0, u1, u2, u3⟩ := box_msg (x := w.heap.size + 1) e0 (by omega) _ (ExtX.refl _ _)
  have hb' := hb.laterX e2 (no_byte K1.out)
  exact bodyPost_ret (v := .tuple #[.agg #[.int .i64 s0, .int .i64 s1, .int .u32 s2, .slice q1 m1 d1], .int .i64 0])
    (by simp [results, Try.results72, go_sem, u0, u1, u2, u3]) rfl
    ((HP.out _ _).2 ⟨_, rfl, ⟨⟨q1, m1, d1, rfl, hb', hz, hd⟩⟩, e1⟩)

theorem refParse_any (a : Option Addr) (len cap : Nat) (xs : List Int) (w : World) (h : Bytes w a len xs) (hcap : len ≤ cap) (hn : len ≤ 1000000) :
    Calls Try.prog 72 #[.slice a len cap] w (ParseAns w xs) := by
  have hl := h.length
  rcases look_cases xs with ⟨h1, hv⟩ | ⟨h1, h2, hv⟩ | ⟨h1, h2, hv⟩
  · exact refParse_short a len cap xs w h hcap hn (by omega) hv
  · exact refParse_sum a len cap xs w h hcap hn (by omega) h2 hv
  · exact refParse_good a len cap xs w h hcap hn hv

end Go.Proofs.Ytkagkfbdpiblkaa.Icmp
