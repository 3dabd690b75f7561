/- What udp.Parse answers at any bytes (chapter 6). -/
import Derived.Test.YtkagkfbdpiblkaaUdpP
import Derived.Test.YtkagkfbdpiblkaaBoxDat
namespace Go.Proofs.Ytkagkfbdpiblkaa.Udp
open Go.RowKit
set_option linter.unusedVariables false

/-- What a datagram's value is, in a world. -/
structure IsDat (w : World) (v : Value) (p : DATv) : Prop where
  val : ∃ a n c, v = .agg #[.int .i64 p.src, .int .i64 p.dst, .slice a n c] ∧ Bytes w a n p.data ∧ (a = none → c = 0) ∧ n ≤ c

/-- What Parse answers: the datagram, in new memory, and the error. -/
def ParseAns (w : World) (xs : List Int) (e : Ending) (w' : World) : Prop := ∃ v, e = .returned (.tuple #[v, .int .i64 (lookV xs)]) ∧ IsDat w' v (packV xs) ∧ Ext w w'

theorem parse_end {w : World} (xs : List Int) (er : Int) (w' : World) (hx : Ext w w') (hv : lookV xs = er) (h0 : er ≠ 0) :
    ParseAns w xs (.returned (.tuple #[.agg #[.int .i64 0, .int .i64 0, .slice none 0 0], .int .i64 er])) w' := by
  have hpk : packV xs = zeroDat := by unfold packV; rw [if_neg (by omega)]
  unfold ParseAns
  rw [hpk, hv]
  exact ⟨_, rfl, ⟨none, 0, 0, rfl, bytes_nil w', fun _ => rfl, by omega⟩, hx⟩

set_option maxHeartbeats 1000000 in
theorem parse_short (a : Option Addr) (len cap : Nat) (xs : List Int) (w : World) (h : Bytes w a len xs) (hcap : len ≤ cap) (hn : len ≤ 1000000) (hh : len < 8) (hv : lookV xs = 3) :
    Calls Try.prog 65 #[.slice a len cap] w (ParseAns w xs) := by
  have hx0 : Ext w (w.alloc (.cells #[.int .i64 0, .int .i64 0, .slice none 0 0] 59)) := (Ext.refl w).alloc _
  have h0 := h.below hx0
  have H0 : Hid ((w.alloc (.cells #[.int .i64 0, .int .i64 0, .slice none 0 0] 59)).heap[w.heap.size]? = some (.cells #[.int .i64 0, .int .i64 0, .slice none 0 0] 59 (0, 0))) := heap_new' w _
  have HP : Hid (∀ w', Ext w w' → ParseAns w xs (.returned (.tuple #[.agg #[.int .i64 0, .int .i64 0, .slice none 0 0], .int .i64 3])) w') := fun w' hx => parse_end xs 3 w' hx hv (by omega)
  generalize ParseAns w xs = Ans at *
  clear hv
  clear h
  go_enter Try.func65, Try.ntmps65
  iterate 6 (first | go_values | go_skip | go_guarded | go_step | go_upon | go_in | go_simp)
  generalize (w.alloc (.cells #[.int .i64 0, .int .i64 0, .slice none 0 0] 59)) = W at *
  obtain ⟨d0, d1, d2⟩ := box_dat (x := w.heap.size + 1) H0.out (by omega) W (ExtX.refl _ _)
  have f0 := frozen_ip H0.out
  go_wp2
  have e0 := set_dat H0.out (.int .i64 0) (.int .i64 0) (.slice none 0 0)
  have e1 := ext_set_dat hx0 (Nat.le_refl _) (.int .i64 0) (.int .i64 0) (.slice none 0 0)
  obtain ⟨q0, q1, q2⟩ := box_dat (x := w.heap.size + 1) e0 (by omega) _ (ExtX.refl _ _)
  exact bodyPost_ret (v := .tuple #[.agg #[.int .i64 0, .int .i64 0, .slice none 0 0], .int .i64 3])
    (by simp [results, Try.results65, go_sem, q0, q1, q2]) rfl (HP.out _ e1)

set_option maxHeartbeats 1000000 in
theorem parse_form (a : Option Addr) (len cap : Nat) (xs : List Int) (w : World) (h : Bytes w a len xs) (hcap : len ≤ cap) (hn : len ≤ 1000000) (h8 : 8 ≤ len) (hh : get16V xs 4 < 8) (hv : lookV xs = 2) :
    Calls Try.prog 65 #[.slice a len cap] w (ParseAns w xs) := by
  have hx0 : Ext w (w.alloc (.cells #[.int .i64 0, .int .i64 0, .slice none 0 0] 59)) := (Ext.refl w).alloc _
  have h0 := h.below hx0
  have H0 : Hid ((w.alloc (.cells #[.int .i64 0, .int .i64 0, .slice none 0 0] 59)).heap[w.heap.size]? = some (.cells #[.int .i64 0, .int .i64 0, .slice none 0 0] 59 (0, 0))) := heap_new' w _
  have HP : Hid (∀ w', Ext w w' → ParseAns w xs (.returned (.tuple #[.agg #[.int .i64 0, .int .i64 0, .slice none 0 0], .int .i64 2])) w') := fun w' hx => parse_end xs 2 w' hx hv (by omega)
  generalize ParseAns w xs = Ans at *
  clear hv
  have cg := fun w h => get16_any a len cap xs 4 w h (by omega) (by omega)
  generalize get16V xs 4 = s4 at *
  clear h
  go_enter Try.func65, Try.ntmps65
  iterate 6 (first | go_values | go_skip | go_guarded | go_step | go_upon | go_in | go_simp)
  generalize (w.alloc (.cells #[.int .i64 0, .int .i64 0, .slice none 0 0] 59)) = W at *
  obtain ⟨d0, d1, d2⟩ := box_dat (x := w.heap.size + 1) H0.out (by omega) W (ExtX.refl _ _)
  have f0 := frozen_ip H0.out
  go_wp2_with (go_at_call 43; refine (cg _ h0).mono ?_; rintro e w1 ⟨rfl, rfl⟩)
  have e0 := set_dat H0.out (.int .i64 0) (.int .i64 0) (.slice none 0 0)
  have e1 := ext_set_dat hx0 (Nat.le_refl _) (.int .i64 0) (.int .i64 0) (.slice none 0 0)
  obtain ⟨q0, q1, q2⟩ := box_dat (x := w.heap.size + 1) e0 (by omega) _ (ExtX.refl _ _)
  exact bodyPost_ret (v := .tuple #[.agg #[.int .i64 0, .int .i64 0, .slice none 0 0], .int .i64 2])
    (by simp [results, Try.results65, go_sem, q0, q1, q2]) rfl (HP.out _ e1)

set_option maxHeartbeats 1000000 in
theorem parse_over (a : Option Addr) (len cap : Nat) (xs : List Int) (w : World) (h : Bytes w a len xs) (hcap : len ≤ cap) (hn : len ≤ 1000000) (h8 : 8 ≤ len) (hr : 8 ≤ get16V xs 4) (hh : (len : Int) < get16V xs 4) (hv : lookV xs = 3) :
    Calls Try.prog 65 #[.slice a len cap] w (ParseAns w xs) := by
  have hx0 : Ext w (w.alloc (.cells #[.int .i64 0, .int .i64 0, .slice none 0 0] 59)) := (Ext.refl w).alloc _
  have h0 := h.below hx0
  have H0 : Hid ((w.alloc (.cells #[.int .i64 0, .int .i64 0, .slice none 0 0] 59)).heap[w.heap.size]? = some (.cells #[.int .i64 0, .int .i64 0, .slice none 0 0] 59 (0, 0))) := heap_new' w _
  have HP : Hid (∀ w', Ext w w' → ParseAns w xs (.returned (.tuple #[.agg #[.int .i64 0, .int .i64 0, .slice none 0 0], .int .i64 3])) w') := fun w' hx => parse_end xs 3 w' hx hv (by omega)
  generalize ParseAns w xs = Ans at *
  clear hv
  have cg := fun w h => get16_any a len cap xs 4 w h (by omega) (by omega)
  generalize get16V xs 4 = s4 at *
  clear h
  go_enter Try.func65, Try.ntmps65
  iterate 6 (first | go_values | go_skip | go_guarded | go_step | go_upon | go_in | go_simp)
  generalize (w.alloc (.cells #[.int .i64 0, .int .i64 0, .slice none 0 0] 59)) = W at *
  obtain ⟨d0, d1, d2⟩ := box_dat (x := w.heap.size + 1) H0.out (by omega) W (ExtX.refl _ _)
  have f0 := frozen_ip H0.out
  go_wp2_with (go_at_call 43; refine (cg _ h0).mono ?_; rintro e w1 ⟨rfl, rfl⟩)
  have e0 := set_dat H0.out (.int .i64 0) (.int .i64 0) (.slice none 0 0)
  have e1 := ext_set_dat hx0 (Nat.le_refl _) (.int .i64 0) (.int .i64 0) (.slice none 0 0)
  obtain ⟨q0, q1, q2⟩ := box_dat (x := w.heap.size + 1) e0 (by omega) _ (ExtX.refl _ _)
  exact bodyPost_ret (v := .tuple #[.agg #[.int .i64 0, .int .i64 0, .slice none 0 0], .int .i64 3])
    (by simp [results, Try.results65, go_sem, q0, q1, q2]) rfl (HP.out _ e1)

set_option maxHeartbeats 2000000 in
theorem parse_good (a : Option Addr) (len cap : Nat) (xs : List Int) (w : World) (h : Bytes w a len xs) (hcap : len ≤ cap) (hn : len ≤ 1000000) (hv : lookV xs = 0) :
    Calls Try.prog 65 #[.slice a len cap] w (ParseAns w xs) := by
  have hx0 : Ext w (w.alloc (.cells #[.int .i64 0, .int .i64 0, .slice none 0 0] 59)) := (Ext.refl w).alloc _
  have h0 := h.below hx0
  have HH : Hid ((w.alloc (.cells #[.int .i64 0, .int .i64 0, .slice none 0 0] 59)).heap[w.heap.size]? = some (.cells #[.int .i64 0, .int .i64 0, .slice none 0 0] 59 (0, 0))) := heap_new' w _
  have L := (looks_iff xs).1 hv
  have hl := h.length
  have l1 := L.len; have l2 := L.head; have l3 := L.room
  have hpk : packV xs = parseV xs := by unfold packV; rw [if_pos hv]
  have HP : Hid (∀ e w', ParseAns w xs e w' ↔ ∃ v, e = .returned (.tuple #[v, .int .i64 (lookV xs)]) ∧ IsDat w' v (packV xs) ∧ Ext w w') := fun e w' => Iff.rfl
  generalize ParseAns w xs = Ans at *
  rw [hpk, hv] at HP
  obtain ⟨k, hk⟩ : ∃ k : Nat, get16V xs 4 = k := ⟨(get16V xs 4).toNat, by omega⟩
  have hpv : parseV xs = ⟨get16V xs 0, get16V xs 2, (xs.take k).drop 8⟩ := by
    unfold parseV; rw [hk, Int.toNat_natCast]
  rw [hpv] at HP
  rw [hk] at l2 l3
  rw [hl] at l1 l3
  obtain ⟨b, off, rfl, _⟩ := h0.cell (k := 0) (by omega)
  obtain ⟨p1, hp1, hq1⟩ := h.part 8 k cap (by omega) (by omega) hcap
  have cg := fun (p : Int) (w : World) h (p0 : 0 ≤ p) (p1 : p ≤ 60) => get16_any (some ⟨b, off, none⟩) len cap xs p w h (by omega) (by omega)
  have hok := h.ok
  have g0 := fun w h => cg 0 w h (by omega) (by omega)
  have g2 := fun w h => cg 2 w h (by omega) (by omega)
  have g4 := fun w h => cg 4 w h (by omega) (by omega)
  rw [hk] at g4
  clear cg L hpk hpv hv hk
  generalize get16V xs 0 = s0 at *
  generalize get16V xs 2 = s1 at *
  have kc : (k : Int) ≤ (cap : Int) := by omega
  have lc : (len : Int) ≤ (cap : Int) := by omega
  have kl : (k : Int) ≤ (len : Int) := by omega
  go_enter Try.func65, Try.ntmps65
  go_wp2_with (go_at_call 43; refine (g4 _ h0).mono ?_; rintro e w1 ⟨rfl, rfl⟩)
  have hX : Ext w (w.alloc (.cells #[.int .i64 0, .int .i64 0, .slice none 0 0] 59)).drew := hx0.drew
  have K3 : Hid ((w.alloc (.cells #[.int .i64 0, .int .i64 0, .slice none 0 0] 59)).drew.heap[w.heap.size]? = some (.cells #[.int .i64 0, .int .i64 0, .slice none 0 0] 59 (0, 0))) := HH.out
  have hsz : w.heap.size + 1 ≤ (w.alloc (.cells #[.int .i64 0, .int .i64 0, .slice none 0 0] 59)).heap.size := by simp
  refine wp_region_makeX w.heap.size (w.heap.size + 1) hsz [(0, 0), (2, 0), (4, 0), (5, 0), (6, 0), (7, 3), (1, 1), (3, 1), (7, 2), (8, 1), (9, 0), (10, 4), (11, 0)] (by kernel_rfl) (by kernel_rfl) rfl (by kernel_rfl) (fun _ _ _ _ _ => Iff.rfl) ?_
  have hszW : w.heap.size + 1 ≤ (w.alloc (.cells #[.int .i64 0, .int .i64 0, .slice none 0 0] 59)).drew.heap.size := hsz
  clear HH h0 hx0 hsz g4
  generalize (w.alloc (.cells #[.int .i64 0, .int .i64 0, .slice none 0 0] 59)).drew = W at *
  repeat (first
    | (refine wpW_read (v := ?_) rfl (by rfl) ?_ ?_; rotate_left; (focus (intro w' hx; go_simp; first | done | with_reducible rfl)); simp only [Act.put, List.setIfInBounds_toArray, List.set_cons_zero, List.set_cons_succ]))
  (refine wpW_say _ (fun g => .slice (some ⟨g, 0, none⟩) 1 1) rfl (by rfl) (fun w' => by go_simp; first | done | with_reducible rfl) ?_)
  refine wpW_call rfl (by rfl) (fun W1 hx1 K hK => ?_); go_simp; (go_at_call 43; have hX1 := hX.trans hx1; refine (g0 _ (h.below hX1)).mono ?_; rintro e w' ⟨rfl, rfl⟩; refine hK _ _ (Ext.refl _) ?_; clear hK K)
  refine wpW_call rfl (by rfl) (fun W2 hx2 K hK => ?_); go_simp; (go_at_call 43; have hX2 := hX1.trans hx2; refine (g2 _ (h.below hX2)).mono ?_; rintro e w' ⟨rfl, rfl⟩; refine hK _ _ (Ext.refl _) ?_; clear hK K)
  refine wpW_make _ (fun g => .slice (some ⟨g, 0, none⟩) 1 1) rfl (by rfl) (fun w' => by go_simp; first | done | with_reducible rfl) ?_; simp only [Act.put, List.setIfInBounds_toArray, List.set_cons_zero, List.set_cons_succ]; intro W3 ga hx3 hBa hga
  refine wpW_call rfl (by rfl) (fun W4 hx4 K hK => ?_); go_simp; (go_at_call 45; have hX4 := (hX2.trans hx3).trans hx4; refine (join1_own ga (some p1) (k - 8) (cap - 8) _ W4 (hx4.heap hga) (hq1 _ hX4) (by simp) (by omega)).mono ?_; rintro e w5 ⟨q1, d1, rfl, ho1, hx5⟩; refine hK _ _ hx5 ?_; clear hK K)
  (refine wpW_read (v := ?_) rfl (by rfl) ?_ ?_; rotate_left; (focus (intro w' hx; go_simp; first | done | with_reducible rfl)); simp only [Act.put, List.setIfInBounds_toArray, List.set_cons_zero, List.set_cons_succ])
  have hW4 : Ext W W4 := hx1.trans (hx2.trans (hx3.trans hx4))
  have hW5 : Ext W w5 := hW4.trans hx5
  have k9 := hW5.heap K3.out
  have s5' : w.heap.size < W4.heap.size := by have := hW4.size; omega
  have K9 : Hid _ := k9
  obtain ⟨c0, c1, c2⟩ := box_dat (x := w.heap.size + 1) k9 (by omega) w5 (ExtX.refl _ _)
  have f0 := frozen_ip k9
  clear k9 hga hx1 hx2 hx3 hx4 hx5 hX1 hX2 hX4 g0 g2 hq1 hW4
  refine wpW_last rfl (by rfl) (fun K hK => ?_)
  go_simp
  refine hK _ _ (extX_set_dat w5 w.heap.size (.int .i64 s0) (.int .i64 s1) (.slice q1 (k - 8) d1)) ?_
  clear hK K
  have e0 := set_dat K9.out (.int .i64 s0) (.int .i64 s1) (.slice q1 (k - 8) d1)
  have e1 := ext_set_dat (hX.trans hW5) (Nat.le_refl _) (.int .i64 s0) (.int .i64 s1) (.slice q1 (k - 8) d1)
  have e2 := extX_set_dat w5 w.heap.size (.int .i64 s0) (.int .i64 s1) (.slice q1 (k - 8) d1)
  have o1' := owns_laterX ho1 e2 s5'
  obtain ⟨u0, u1, u2⟩ := box_dat (x := w.heap.size + 1) e0 (by omega) _ (ExtX.refl _ _)
  obtain ⟨hba, hza, hca⟩ := owns_slice o1' (fun x hx => hok x (List.mem_of_mem_take (List.mem_of_mem_drop hx)))
  (refine wpW_read (v := ?_) rfl (by rfl) ?_ ?_; rotate_left; (focus (intro w' hx; go_simp; first | done | with_reducible rfl)); simp only [Act.put, List.setIfInBounds_toArray, List.set_cons_zero, List.set_cons_succ])
  refine wpW_done ?_
  go_wp2
  exact bodyPost_ret (v := .tuple #[.agg #[.int .i64 s0, .int .i64 s1, .slice q1 (k - 8) d1], .int .i64 0])
    (by simp [results, Try.results65, go_sem, u0, u1, u2]) rfl
    ((HP.out _ _).2 ⟨_, rfl, ⟨⟨q1, k - 8, d1, rfl, hba, hza, hca⟩⟩, e1⟩)

theorem parse_any (a : Option Addr) (len cap : Nat) (xs : List Int) (w : World) (h : Bytes w a len xs) (hcap : len ≤ cap) (hn : len ≤ 1000000) :
    Calls Try.prog 65 #[.slice a len cap] w (ParseAns w xs) := by
  have hl := h.length
  rcases look_cases xs with ⟨h1, hv⟩ | ⟨h1, h2, hv⟩ | ⟨h1, h2, h3, hv⟩ | ⟨h1, h2, h3, hv⟩
  · exact parse_short a len cap xs w h hcap hn (by omega) hv
  · exact parse_form a len cap xs w h hcap hn (by omega) (by omega) hv
  · exact parse_over a len cap xs w h hcap hn (by omega) (by omega) (by omega) hv
  · exact parse_good a len cap xs w h hcap hn hv

/-- Parse of bytes that are a datagram. -/
theorem parse_is (a : Option Addr) (len cap : Nat) (xs : List Int) (p : DATv) (w : World) (h : Bytes w a len xs) (hcap : len ≤ cap) (hn : len ≤ 1000000) (hv : lookV xs = 0) (hp : parseV xs = p) :
    Calls Try.prog 65 #[.slice a len cap] w fun e w' => ∃ a1 n1 c1, e = .returned (.tuple #[.agg #[.int .i64 p.src, .int .i64 p.dst, .slice a1 n1 c1], .int .i64 0]) ∧ Bytes w' a1 n1 p.data ∧ (a1 = none → c1 = 0) ∧ Ext w w' := by
  refine (parse_any a len cap xs w h hcap hn).mono ?_
  rintro e w' ⟨v, rfl, ⟨⟨a1, n1, c1, hval, h1, z1, _⟩⟩, hx⟩
  have hpk : packV xs = p := by unfold packV; rw [if_pos hv, hp]
  rw [hpk] at hval h1
  exact ⟨a1, n1, c1, by rw [hval, hv], h1, z1, hx⟩

/-- Parse of bytes that are none. -/
theorem parse_not (a : Option Addr) (len cap : Nat) (xs : List Int) (er : Int) (w : World) (h : Bytes w a len xs) (hcap : len ≤ cap) (hn : len ≤ 1000000) (hv : lookV xs = er) (h0 : er ≠ 0) :
    Calls Try.prog 65 #[.slice a len cap] w fun e w' => ∃ a1 n1 c1, e = .returned (.tuple #[.agg #[.int .i64 zeroDat.src, .int .i64 zeroDat.dst, .slice a1 n1 c1], .int .i64 er]) ∧ Bytes w' a1 n1 zeroDat.data ∧ (a1 = none → c1 = 0) ∧ Ext w w' := by
  refine (parse_any a len cap xs w h hcap hn).mono ?_
  rintro e w' ⟨v, rfl, ⟨⟨a1, n1, c1, hval, h1, z1, _⟩⟩, hx⟩
  have hpk : packV xs = zeroDat := by unfold packV; rw [if_neg (by omega)]
  rw [hpk] at hval h1
  exact ⟨a1, n1, c1, by rw [hval, hv], h1, z1, hx⟩

end Go.Proofs.Ytkagkfbdpiblkaa.Udp
