/- What icmp.Parse answers at any bytes (chapter 7). -/
import Derived.Test.YtkagkfbdpiblkaaIcmpP
import Derived.Test.YtkagkfbdpiblkaaBoxMsg
namespace Go.Proofs.Ytkagkfbdpiblkaa.Icmp
open Go.RowKit
set_option linter.unusedVariables false

/-- What a message's value is, in a world. -/
structure IsMsg (w : World) (v : Value) (p : MSGv) : Prop where
  val : ∃ a n c, v = .agg #[.int .i64 p.type, .int .i64 p.code, .int .u32 p.rest, .slice a n c] ∧ Bytes w a n p.data ∧ (a = none → c = 0) ∧ n ≤ c

/-- What Parse answers: the message, in new memory, and the error. -/
def ParseAns (w : World) (xs : List Int) (e : Ending) (w' : World) : Prop := ∃ v, e = .returned (.tuple #[v, .int .i64 (lookV xs)]) ∧ IsMsg w' v (packV xs) ∧ Ext w w'

theorem parse_end {w : World} (xs : List Int) (er : Int) (w' : World) (hx : Ext w w') (hv : lookV xs = er) (h0 : er ≠ 0) :
    ParseAns w xs (.returned (.tuple #[.agg #[.int .i64 0, .int .i64 0, .int .u32 0, .slice none 0 0], .int .i64 er])) w' := by
  have hpk : packV xs = zeroMsg := by unfold packV; rw [if_neg (by omega)]
  unfold ParseAns
  rw [hpk, hv]
  exact ⟨_, rfl, ⟨none, 0, 0, rfl, bytes_nil w', fun _ => rfl, by omega⟩, hx⟩

set_option maxHeartbeats 1000000 in
theorem parse_short (a : Option Addr) (len cap : Nat) (xs : List Int) (w : World) (h : Bytes w a len xs) (hcap : len ≤ cap) (hn : len ≤ 1000000) (hh : len < 8) (hv : lookV xs = 3) :
    Calls Try.prog 66 #[.slice a len cap] w (ParseAns w xs) := by
  have hx0 : Ext w (w.alloc (.cells #[.int .i64 0, .int .i64 0, .int .u32 0, .slice none 0 0] 49)) := (Ext.refl w).alloc _
  have h0 := h.below hx0
  have H0 : Hid ((w.alloc (.cells #[.int .i64 0, .int .i64 0, .int .u32 0, .slice none 0 0] 49)).heap[w.heap.size]? = some (.cells #[.int .i64 0, .int .i64 0, .int .u32 0, .slice none 0 0] 49 (0, 0))) := heap_new' w _
  have HP : Hid (∀ w', Ext w w' → ParseAns w xs (.returned (.tuple #[.agg #[.int .i64 0, .int .i64 0, .int .u32 0, .slice none 0 0], .int .i64 3])) w') := fun w' hx => parse_end xs 3 w' hx hv (by omega)
  generalize ParseAns w xs = Ans at *
  clear hv
  clear h
  go_enter Try.func66, Try.ntmps66
  iterate 6 (first | go_values | go_skip | go_guarded | go_step | go_upon | go_in | go_simp)
  generalize (w.alloc (.cells #[.int .i64 0, .int .i64 0, .int .u32 0, .slice none 0 0] 49)) = W at *
  obtain ⟨d0, d1, d2, d3⟩ := box_msg (x := w.heap.size + 1) H0.out (by omega) W (ExtX.refl _ _)
  have f0 := frozen_ip H0.out
  go_wp2
  have e0 := set_msg H0.out (.int .i64 0) (.int .i64 0) (.int .u32 0) (.slice none 0 0)
  have e1 := ext_set_msg hx0 (Nat.le_refl _) (.int .i64 0) (.int .i64 0) (.int .u32 0) (.slice none 0 0)
  obtain ⟨q0, q1, q2, q3⟩ := box_msg (x := w.heap.size + 1) e0 (by omega) _ (ExtX.refl _ _)
  exact bodyPost_ret (v := .tuple #[.agg #[.int .i64 0, .int .i64 0, .int .u32 0, .slice none 0 0], .int .i64 3])
    (by simp [results, Try.results66, go_sem, q0, q1, q2, q3]) rfl (HP.out _ e1)

set_option maxHeartbeats 1000000 in
theorem parse_sum (a : Option Addr) (len cap : Nat) (xs : List Int) (w : World) (h : Bytes w a len xs) (hcap : len ≤ cap) (hn : len ≤ 1000000) (h8 : 8 ≤ len) (hh : ofV xs ≠ 0) (hv : lookV xs = 4) :
    Calls Try.prog 66 #[.slice a len cap] w (ParseAns w xs) := by
  have hx0 : Ext w (w.alloc (.cells #[.int .i64 0, .int .i64 0, .int .u32 0, .slice none 0 0] 49)) := (Ext.refl w).alloc _
  have h0 := h.below hx0
  have H0 : Hid ((w.alloc (.cells #[.int .i64 0, .int .i64 0, .int .u32 0, .slice none 0 0] 49)).heap[w.heap.size]? = some (.cells #[.int .i64 0, .int .i64 0, .int .u32 0, .slice none 0 0] 49 (0, 0))) := heap_new' w _
  have HP : Hid (∀ w', Ext w w' → ParseAns w xs (.returned (.tuple #[.agg #[.int .i64 0, .int .i64 0, .int .u32 0, .slice none 0 0], .int .i64 4])) w') := fun w' hx => parse_end xs 4 w' hx hv (by omega)
  generalize ParseAns w xs = Ans at *
  clear hv
  obtain ⟨b, off, rfl, _⟩ := h.cell (k := 0) (by omega)
  have cr := fun w h => right_any (some ⟨b, off, none⟩) len cap xs w h (by simp) (by omega)
  rw [show decide (ofV xs = 0) = false by simpa using hh] at cr
  have lc : (8 : Int) ≤ (len : Int) := by omega
  clear hh
  clear h
  go_enter Try.func66, Try.ntmps66
  iterate 6 (first | go_values | go_skip | go_guarded | go_step | go_upon | go_in | go_simp)
  generalize (w.alloc (.cells #[.int .i64 0, .int .i64 0, .int .u32 0, .slice none 0 0] 49)) = W at *
  go_wp2_with (go_at_call 62; refine (cr _ h0).mono ?_; rintro e w1 ⟨rfl, hx1⟩; have k1 := hx1.heap H0.out; have K1 : Hid _ := k1; obtain ⟨d0, d1, d2, d3⟩ := box_msg (x := w.heap.size + 1) k1 (by omega) w1 (ExtX.refl _ _); have f0 := frozen_ip k1; clear k1)
  have e0 := set_msg K1.out (.int .i64 0) (.int .i64 0) (.int .u32 0) (.slice none 0 0)
  have e1 := ext_set_msg (hx0.trans hx1) (Nat.le_refl _) (.int .i64 0) (.int .i64 0) (.int .u32 0) (.slice none 0 0)
  obtain ⟨q0, q1, q2, q3⟩ := box_msg (x := w.heap.size + 1) e0 (by omega) _ (ExtX.refl _ _)
  exact bodyPost_ret (v := .tuple #[.agg #[.int .i64 0, .int .i64 0, .int .u32 0, .slice none 0 0], .int .i64 4])
    (by simp [results, Try.results66, go_sem, q0, q1, q2, q3]) rfl (HP.out _ e1)

set_option maxHeartbeats 2000000 in
theorem parse_good (a : Option Addr) (len cap : Nat) (xs : List Int) (w : World) (h : Bytes w a len xs) (hcap : len ≤ cap) (hn : len ≤ 1000000) (hv : lookV xs = 0) :
    Calls Try.prog 66 #[.slice a len cap] w (ParseAns w xs) := by
  have hx0 : Ext w (w.alloc (.cells #[.int .i64 0, .int .i64 0, .int .u32 0, .slice none 0 0] 49)) := (Ext.refl w).alloc _
  have h0 := h.below hx0
  have HH : Hid ((w.alloc (.cells #[.int .i64 0, .int .i64 0, .int .u32 0, .slice none 0 0] 49)).heap[w.heap.size]? = some (.cells #[.int .i64 0, .int .i64 0, .int .u32 0, .slice none 0 0] 49 (0, 0))) := heap_new' w _
  have hl := h.length
  have L := (looks_iff xs).1 hv
  have h8 := L.len
  rw [hl] at h8
  have hpk : packV xs = parseV xs := by unfold packV; rw [if_pos hv]
  have HP : Hid (∀ e w', ParseAns w xs e w' ↔ ∃ v, e = .returned (.tuple #[v, .int .i64 (lookV xs)]) ∧ IsMsg w' v (packV xs) ∧ Ext w w') := fun e w' => Iff.rfl
  generalize ParseAns w xs = Ans at *
  rw [hpk, hv] at HP
  have hpv : parseV xs = ⟨xs[0]?.getD 0, xs[1]?.getD 0, accV xs 4 4, (xs.take len).drop 8⟩ := by
    have ex0 : byteV xs 0 = xs[0]?.getD 0 := byteV_nat xs 0
    have ex1 : byteV xs 1 = xs[1]?.getD 0 := byteV_nat xs 1
    unfold parseV; rw [ex0, ex1, List.take_of_length_le (by omega)]
  rw [hpv] at HP
  obtain ⟨b, off, rfl, _⟩ := h0.cell (k := 0) (by omega)
  obtain ⟨p1, hp1, hq1⟩ := h.part 8 len cap (by omega) (by omega) hcap
  have cr := fun w h => right_any (some ⟨b, off, none⟩) len cap xs w h (by simp) (by omega)
  rw [show decide (ofV xs = 0) = true by simpa using L.right] at cr
  have g4 := fun w h => get32_any (some ⟨b, off, none⟩) len cap xs 4 w h (by omega) (by omega)
  have hok := h.ok
  have y0 := hok.get 0
  have y1 := hok.get 1
  have v0 := wraps_i64 _ y0.1 (by omega)
  have v1 := wraps_i64 _ y1.1 (by omega)
  clear L hpk hv hpv
  generalize accV xs 4 4 = s2 at *
  have lc : (len : Int) ≤ (cap : Int) := by omega
  have l8 : (8 : Int) ≤ (len : Int) := by omega
  have b0 : 0 < len := by omega
  have b1 : (1 : Int) < (len : Int) := by omega
  go_enter Try.func66, Try.ntmps66
  go_wp2_with (go_at_call 62; refine (cr _ h0).mono ?_; rintro e w1 ⟨rfl, hx1⟩)
  have K2 := Ext.heap hx1 HH.out
  have hX : Ext w w1.drew := (hx0.trans hx1).drew
  have hsz : w.heap.size + 1 ≤ w1.heap.size := by have := hx1.size; simpa using this
  have hrd : ∀ j, j < len → ∀ w', ExtX w.heap.size w1.drew w' → w'.cell? ⟨b, off + j, none⟩ = some (.int .u8 (xs[j]?.getD 0)) := fun j hj w' hx => by
    obtain ⟨b', off', hab, hc⟩ := (h.below (ExtX.ext hX hx (Nat.le_refl _))).cell hj
    obtain ⟨rfl, rfl⟩ : b = b' ∧ off = off' := by simpa using hab
    exact hc
  have r0 := hrd 0 (by omega)
  rw [Nat.add_zero] at r0
  have r1 := hrd 1 (by omega)
  have K3 : Hid (w1.drew.heap[w.heap.size]? = some (.cells #[.int .i64 0, .int .i64 0, .int .u32 0, .slice none 0 0] 49 (0, 0))) := K2
  refine wp_region_makeX w.heap.size (w.heap.size + 1) hsz [(0, 0), (1, 0), (2, 0), (3, 0), (4, 0), (5, 0), (6, 0), (7, 0), (8, 0), (10, 0), (11, 0), (12, 3), (9, 1), (12, 2), (13, 1), (14, 0), (15, 4), (16, 0)] (by kernel_rfl) (by kernel_rfl) rfl (by kernel_rfl) (fun _ _ _ _ _ => Iff.rfl) ?_
  have hsz' : w.heap.size + 1 ≤ w1.drew.heap.size := hsz
  clear hrd K2 HH h0 hx0 hsz hx1 cr
  generalize w1.drew = W at *
  generalize xs[0]?.getD 0 = s0 at *
  generalize xs[1]?.getD 0 = s1 at *
  iterate 11 (refine wpW_read (v := ?_) rfl (by rfl) ?_ ?_; rotate_left; (focus (intro w' hx; go_simp; first | done | with_reducible rfl)); simp only [Act.put, List.setIfInBounds_toArray, List.set_cons_zero, List.set_cons_succ])
  (refine wpW_say _ (fun g => .slice (some ⟨g, 0, none⟩) 1 1) rfl (by rfl) (fun w' => by go_simp; first | done | with_reducible rfl) ?_)
  refine wpW_call rfl (by rfl) (fun W1 hx1 K hK => ?_); go_simp; (go_at_call 44; have hX1 := hX.trans hx1; refine (g4 _ (h.below hX1)).mono ?_; rintro e w' ⟨rfl, rfl⟩; refine hK _ _ (Ext.refl _) ?_; clear hK K)
  refine wpW_make _ (fun g => .slice (some ⟨g, 0, none⟩) 1 1) rfl (by rfl) (fun w' => by go_simp; first | done | with_reducible rfl) ?_; simp only [Act.put, List.setIfInBounds_toArray, List.set_cons_zero, List.set_cons_succ]; intro W3 ga hx3 hBa hga
  refine wpW_call rfl (by rfl) (fun W4 hx4 K hK => ?_); go_simp; (go_at_call 45; have hX4 := (hX1.trans hx3).trans hx4; refine (join1_own ga (some p1) (len - 8) (cap - 8) _ W4 (hx4.heap hga) (hq1 _ hX4) (by simp) (by omega)).mono ?_; rintro e w5 ⟨q1, d1, rfl, ho1, hx5⟩; refine hK _ _ hx5 ?_; clear hK K)
  (refine wpW_read (v := ?_) rfl (by rfl) ?_ ?_; rotate_left; (focus (intro w' hx; go_simp; first | done | with_reducible rfl)); simp only [Act.put, List.setIfInBounds_toArray, List.set_cons_zero, List.set_cons_succ])
  have hW4 : Ext W W4 := hx1.trans (hx3.trans hx4)
  have hW5 : Ext W w5 := hW4.trans hx5
  have k9 := hW5.heap K3.out
  have s5' : w.heap.size < W4.heap.size := by have := hW4.size; omega
  have K9 : Hid _ := k9
  obtain ⟨c0, c1, c2, c3⟩ := box_msg (x := w.heap.size + 1) k9 (by omega) w5 (ExtX.refl _ _)
  have f0 := frozen_ip k9
  clear k9 hga hx1 hx3 hx4 hx5 hX1 hX4 g4 hq1 hW4 r0 r1
  refine wpW_last rfl (by rfl) (fun K hK => ?_)
  go_simp
  refine hK _ _ (extX_set_msg w5 w.heap.size (.int .i64 s0) (.int .i64 s1) (.int .u32 s2) (.slice q1 (len - 8) d1)) ?_
  clear hK K
  have e0 := set_msg K9.out (.int .i64 s0) (.int .i64 s1) (.int .u32 s2) (.slice q1 (len - 8) d1)
  have e1 := ext_set_msg (hX.trans hW5) (Nat.le_refl _) (.int .i64 s0) (.int .i64 s1) (.int .u32 s2) (.slice q1 (len - 8) d1)
  have e2 := extX_set_msg w5 w.heap.size (.int .i64 s0) (.int .i64 s1) (.int .u32 s2) (.slice q1 (len - 8) d1)
  have o1' := owns_laterX ho1 e2 s5'
  obtain ⟨u0, u1, u2, u3⟩ := box_msg (x := w.heap.size + 1) e0 (by omega) _ (ExtX.refl _ _)
  obtain ⟨hba, hza, hca⟩ := owns_slice o1' (fun x hx => hok x (List.mem_of_mem_take (List.mem_of_mem_drop hx)))
  (refine wpW_read (v := ?_) rfl (by rfl) ?_ ?_; rotate_left; (focus (intro w' hx; go_simp; first | done | with_reducible rfl)); simp only [Act.put, List.setIfInBounds_toArray, List.set_cons_zero, List.set_cons_succ])
  refine wpW_done ?_
  go_wp2
  exact bodyPost_ret (v := .tuple #[.agg #[.int .i64 s0, .int .i64 s1, .int .u32 s2, .slice q1 (len - 8) d1], .int .i64 0])
    (by simp [results, Try.results66, go_sem, u0, u1, u2, u3]) rfl
    ((HP.out _ _).2 ⟨_, rfl, ⟨⟨q1, len - 8, d1, rfl, hba, hza, hca⟩⟩, e1⟩)

theorem parse_any (a : Option Addr) (len cap : Nat) (xs : List Int) (w : World) (h : Bytes w a len xs) (hcap : len ≤ cap) (hn : len ≤ 1000000) :
    Calls Try.prog 66 #[.slice a len cap] w (ParseAns w xs) := by
  have hl := h.length
  rcases look_cases xs with ⟨h1, hv⟩ | ⟨h1, h2, hv⟩ | ⟨h1, h2, hv⟩
  · exact parse_short a len cap xs w h hcap hn (by omega) hv
  · exact parse_sum a len cap xs w h hcap hn (by omega) h2 hv
  · exact parse_good a len cap xs w h hcap hn hv

/-- Parse of bytes that are a message. -/
theorem parse_is (a : Option Addr) (len cap : Nat) (xs : List Int) (p : MSGv) (w : World) (h : Bytes w a len xs) (hcap : len ≤ cap) (hn : len ≤ 1000000) (hv : lookV xs = 0) (hp : parseV xs = p) :
    Calls Try.prog 66 #[.slice a len cap] w fun e w' => ∃ a1 n1 c1, e = .returned (.tuple #[.agg #[.int .i64 p.type, .int .i64 p.code, .int .u32 p.rest, .slice a1 n1 c1], .int .i64 0]) ∧ Bytes w' a1 n1 p.data ∧ (a1 = none → c1 = 0) ∧ Ext w w' := by
  refine (parse_any a len cap xs w h hcap hn).mono ?_
  rintro e w' ⟨v, rfl, ⟨⟨a1, n1, c1, hval, h1, z1, _⟩⟩, hx⟩
  have hpk : packV xs = p := by unfold packV; rw [if_pos hv, hp]
  rw [hpk] at hval h1
  exact ⟨a1, n1, c1, by rw [hval, hv], h1, z1, hx⟩

/-- Parse of bytes that are none. -/
theorem parse_not (a : Option Addr) (len cap : Nat) (xs : List Int) (er : Int) (w : World) (h : Bytes w a len xs) (hcap : len ≤ cap) (hn : len ≤ 1000000) (hv : lookV xs = er) (h0 : er ≠ 0) :
    Calls Try.prog 66 #[.slice a len cap] w fun e w' => ∃ a1 n1 c1, e = .returned (.tuple #[.agg #[.int .i64 zeroMsg.type, .int .i64 zeroMsg.code, .int .u32 zeroMsg.rest, .slice a1 n1 c1], .int .i64 er]) ∧ Bytes w' a1 n1 zeroMsg.data ∧ (a1 = none → c1 = 0) ∧ Ext w w' := by
  refine (parse_any a len cap xs w h hcap hn).mono ?_
  rintro e w' ⟨v, rfl, ⟨⟨a1, n1, c1, hval, h1, z1, _⟩⟩, hx⟩
  have hpk : packV xs = zeroMsg := by unfold packV; rw [if_neg (by omega)]
  rw [hpk] at hval h1
  exact ⟨a1, n1, c1, by rw [hval, hv], h1, z1, hx⟩

end Go.Proofs.Ytkagkfbdpiblkaa.Icmp
