/- Texts joined by a program: Rib7, RibQ, Whole, Rib8, Ref3. -/
import Derived.Shelf.Abstract
import Derived.Laws.Rows
import Derived.Laws.Tables
import Derived.Test.YtkfhkhgiojpfoaaGreatJ1
import Derived.Test.YtkfhkhgiojpfoaaGreatJ2
import Derived.Test.YtkfhkhgiojpfoaaGreatJ3
import Derived.Test.YtkfhkhgiojpfoaaGreatJ4
namespace Go.Proofs.YtkfhkhgiojpfoaaGreat.Rb

set_option maxRecDepth 100000

open Go.RowKit Go.Proofs.YtkfhkhgiojpfoaaGreat

set_option linter.unusedVariables false

set_option linter.unusedSimpArgs false

set_option maxHeartbeats 1000000 in
theorem search_any (g : Nat) (cb : Array Value) (n : Nat) (L : List Rt) (f : Rt → Bool) (w : World) (eg : ∀ args w, (callFunc g args).run Tryz.prog w = .ok (.enter g args) w) (hl : L.length = n) (hn : n ≤ 1000000)
    (hf : ∀ w', Ext w w' → ∀ (i : Nat) (x : Rt), L[i]? = some x → Calls Tryz.prog g (#[.int .i64 (i : Nat)] ++ cb) w' fun e w2 => e = .returned (.bool (!f x)) ∧ Ext w' w2)
    (hm : ∀ (i j : Nat) (y z : Rt), i ≤ j → L[i]? = some y → L[j]? = some z → f z = true → f y = true) :
    Calls Tryz.prog 148 #[.int .i64 (n : Nat), .func (.func g) #[] cb] w fun e w' => e = .returned (.int .i64 (twN f L : Nat)) ∧ Ext w w' := by
  have HF : Hid _ := hf
  have HM : Hid _ := hm
  have HL : Hid _ := hl
  clear hf hm hl
  go_enter Tryz.func148, Tryz.ntmps148
  go_wp2_with fail
  go_loopg [5, 6] n (fun kx s5 s6 wr => ∃ lo hi : Nat, s5 = .int .i64 lo ∧ s6 = .int .i64 hi ∧ lo ≤ hi ∧ hi ≤ n ∧ hi - lo ≤ kx ∧ Ext w wr ∧ Hid (LoHi L f lo hi))
  case atStart => exact ⟨0, n, rfl, rfl, Nat.zero_le _, Nat.le_refl _, by omega, Ext.refl _, LoHi.start L f n HL.out⟩
  case round =>
    obtain ⟨lo, hi, rfl, rfl, hlh, hin, hkx, hx, HI⟩ := hrel
    by_cases hlt : lo < hi
    · obtain ⟨x, hxk⟩ : ∃ x, L[(lo + hi) / 2]? = some x := ⟨_, List.getElem?_eq_getElem (by rw [HL.out]; omega)⟩
      have hc := HF.out wr hx _ x hxk
      rw [show (((lo + hi) / 2 : Nat) : Int) = ((lo : Int) + (hi : Int)) / 2 by omega] at hc
      have HX : Hid _ := hxk
      have hii : (lo : Int) < (hi : Int) := by omega
      have hhn : (hi : Int) ≤ (n : Int) := by omega
      clear hxk
      cases hz : f x with
      | true =>
        rw [hz] at hc
        have HZ : Hid _ := hz
        clear hz
        go_wp2_with (go_at_fn g; refine hc.mono ?_; rintro e w1 ⟨rfl, hx1⟩)
        go_roundg (hi - ((lo + hi) / 2 + 1))
        case measure => omega
        case rel => exact ⟨(lo + hi) / 2 + 1, hi, by rw [show ((lo : Int) + (hi : Int)) / 2 + 1 = (((lo + hi) / 2 + 1 : Nat) : Int) by omega], rfl, by omega, hin, Nat.le_refl _, hx.trans hx1, HI.out.up HM.out HX.out HZ.out⟩
      | false =>
        rw [hz] at hc
        have HZ : Hid _ := hz
        clear hz
        go_wp2_with (go_at_fn g; refine hc.mono ?_; rintro e w1 ⟨rfl, hx1⟩)
        go_roundg ((lo + hi) / 2 - lo)
        case measure => omega
        case rel => exact ⟨lo, (lo + hi) / 2, rfl, by rw [show ((lo : Int) + (hi : Int)) / 2 = (((lo + hi) / 2 : Nat) : Int) by omega], by omega, by omega, Nat.le_refl _, hx.trans hx1, HI.out.down HX.out HZ.out⟩
    · obtain rfl : hi = lo := by omega
      have HP : Hid (twN f L = hi) := HI.out.stop (by rw [HL.out]; exact hin)
      go_wp2_with fail
      go_ret
      rw [HP.out]
      exact ⟨rfl, hx⟩

/-- Sides that rise. -/
def MonoP (sd : Rt → Int) (L : List Rt) : Prop := L.Pairwise fun x y => (sd y < 0 → sd x < 0) ∧ (sd y ≤ 0 → sd x ≤ 0)

theorem MonoP.at {sd : Rt → Int} {L : List Rt} (h : MonoP sd L) {i j : Nat} {y z : Rt} (hij : i ≤ j) (hy : L[i]? = some y) (hz : L[j]? = some z) : (sd z < 0 → sd y < 0) ∧ (sd z ≤ 0 → sd y ≤ 0) := by
  rcases Nat.lt_or_ge i j with hlt | hge
  · obtain ⟨hi, rfl⟩ := List.getElem?_eq_some_iff.1 hy
    obtain ⟨hj, rfl⟩ := List.getElem?_eq_some_iff.1 hz
    exact List.pairwise_iff_getElem.1 h i j hi hj hlt
  · obtain rfl : i = j := by omega
    rw [hy] at hz; cases hz; exact ⟨id, id⟩

theorem seg_zero (sd : Rt → Int) : ∀ L : List Rt, MonoP sd L → (∀ x ∈ L, 0 ≤ sd x) → L.take (twN (fun x => decide (sd x ≤ 0)) L) = L.filter (fun x => decide (sd x = 0))
  | [], _, _ => rfl
  | x :: L, h, h0 => by
    obtain ⟨h1, h2⟩ := List.pairwise_cons.1 h
    have hx := h0 x (by simp)
    unfold twN
    by_cases e : sd x ≤ 0
    · have e0 : sd x = 0 := by omega
      simp only [e, decide_true, if_true, List.take_succ_cons]
      rw [List.filter_cons_of_pos (by simpa using e0), seg_zero sd L h2 fun y hy => h0 y (by simp [hy])]
    · have e1 : decide (sd x ≤ 0) = false := by simpa using e
      simp only [e1, Bool.false_eq_true, if_false, List.take_zero]
      symm
      rw [List.filter_eq_nil_iff]
      intro y hy hd
      have hd : sd y = 0 := by simpa using hd
      rcases List.mem_cons.1 hy with rfl | hy
      · omega
      · have := (h1 y hy).2 (by omega)
        omega

theorem seg_filter (sd : Rt → Int) : ∀ L : List Rt, MonoP sd L → twN (fun x => decide (sd x < 0)) L ≤ twN (fun x => decide (sd x ≤ 0)) L ∧
    (L.drop (twN (fun x => decide (sd x < 0)) L)).take (twN (fun x => decide (sd x ≤ 0)) L - twN (fun x => decide (sd x < 0)) L) = L.filter (fun x => decide (sd x = 0))
  | [], _ => ⟨Nat.le_refl _, rfl⟩
  | x :: L, h => by
    obtain ⟨h1, h2⟩ := List.pairwise_cons.1 h
    by_cases e : sd x < 0
    · obtain ⟨ih1, ih2⟩ := seg_filter sd L h2
      have a1 : twN (fun x => decide (sd x < 0)) (x :: L) = twN (fun x => decide (sd x < 0)) L + 1 := by
        conv => lhs; unfold twN
        simp [e]
      have a2 : twN (fun x => decide (sd x ≤ 0)) (x :: L) = twN (fun x => decide (sd x ≤ 0)) L + 1 := by
        conv => lhs; unfold twN
        simp [show sd x ≤ 0 by omega]
      rw [a1, a2]
      refine ⟨by omega, ?_⟩
      rw [List.drop_succ_cons, Nat.add_sub_add_right, ih2, List.filter_cons_of_neg (by simp; omega)]
    · have a1 : twN (fun x => decide (sd x < 0)) (x :: L) = 0 := by
        unfold twN
        simp [e]
      rw [a1]
      refine ⟨Nat.zero_le _, ?_⟩
      rw [List.drop_zero, Nat.sub_zero]
      refine seg_zero sd (x :: L) h fun y hy => ?_
      rcases List.mem_cons.1 hy with rfl | hy
      · omega
      · have := (h1 y hy).1
        omega

theorem enters_1 (args : Array Value) (w : World) : (callFunc 149 args).run Tryz.prog w = .ok (.enter 149 args) w := enters_of Tryz.func149 (by kernel_rfl) rfl args w

theorem enters_2 (args : Array Value) (w : World) : (callFunc 150 args).run Tryz.prog w = .ok (.enter 150 args) w := enters_of Tryz.func150 (by kernel_rfl) rfl args w

theorem enters_t (args : Array Value) (w : World) : (callFunc 135 args).run Tryz.prog w = .ok (.enter 135 args) w := enters_of Tryz.func135 (by kernel_rfl) rfl args w

theorem enters_p (args : Array Value) (w : World) : (callFunc 136 args).run Tryz.prog w = .ok (.enter 136 args) w := enters_of Tryz.func136 (by kernel_rfl) rfl args w

set_option maxHeartbeats 1000000 in
theorem side_ge (g : Nat) (cb : Array Value) (p : Option Addr) (n c : Nat) (L : List Rt) (sb wb i : Nat) (x : Rt) (z : Int) (w : World) (eg : ∀ args w, (callFunc g args).run Tryz.prog w = .ok (.enter g args) w)
    (hs : ∀ w', Ext w w' → w'.cell? ⟨sb, 0, none⟩ = some (.func (.func g) #[] cb)) (hw : ∀ w', Ext w w' → w'.cell? ⟨wb, 0, none⟩ = some (.slice p n c)) (hR : Rd w p n c L) (hx : L[i]? = some x)
    (hf : ∀ w', Ext w w' → Calls Tryz.prog g (#[(.agg #[.int .i64 x.t, .int .u32 x.a, .int .i64 x.l, .int .i64 x.i, .int .u32 x.g, .int .i64 x.m])] ++ cb) w' fun e w2 => e = .returned (.int .i64 z) ∧ Ext w' w2) :
    Calls Tryz.prog 149 (#[.int .i64 (i : Nat)] ++ #[.pointer (some ⟨sb, 0, none⟩), .pointer (some ⟨wb, 0, none⟩)]) w fun e w' => e = .returned (.bool (decide (0 ≤ z))) ∧ Ext w w' := by
  obtain ⟨b, off, rfl, hb, g0, g1, g2, g3, g4, g5⟩ := hR.cell hx
  have hlt : i < n := by
    have := hR.len
    have := (List.getElem?_eq_some_iff.1 hx).1
    omega
  have hd : Ext w w.drew := (Ext.refl w).drew
  have s0 := fun w' h => hs w' (hd.trans h)
  have s1 := fun w' h => hw w' (hd.trans h)
  have x0 : ∀ w', Ext w.drew w' → w'.cell? ⟨b, off + i * 6, none⟩ = some (.int .i64 x.t) := fun w' h => by rw [(hd.trans h).below.cell (p := ⟨b, off + i * 6, none⟩) hb]; exact g0
  have x1 : ∀ w', Ext w.drew w' → w'.cell? ⟨b, off + i * 6 + 1, none⟩ = some (.int .u32 x.a) := fun w' h => by rw [(hd.trans h).below.cell (p := ⟨b, off + i * 6 + 1, none⟩) hb]; exact g1
  have x2 : ∀ w', Ext w.drew w' → w'.cell? ⟨b, off + i * 6 + 2, none⟩ = some (.int .i64 x.l) := fun w' h => by rw [(hd.trans h).below.cell (p := ⟨b, off + i * 6 + 2, none⟩) hb]; exact g2
  have x3 : ∀ w', Ext w.drew w' → w'.cell? ⟨b, off + i * 6 + 3, none⟩ = some (.int .i64 x.i) := fun w' h => by rw [(hd.trans h).below.cell (p := ⟨b, off + i * 6 + 3, none⟩) hb]; exact g3
  have x4 : ∀ w', Ext w.drew w' → w'.cell? ⟨b, off + i * 6 + 4, none⟩ = some (.int .u32 x.g) := fun w' h => by rw [(hd.trans h).below.cell (p := ⟨b, off + i * 6 + 4, none⟩) hb]; exact g4
  have x5 : ∀ w', Ext w.drew w' → w'.cell? ⟨b, off + i * 6 + 5, none⟩ = some (.int .i64 x.m) := fun w' h => by rw [(hd.trans h).below.cell (p := ⟨b, off + i * 6 + 5, none⟩) hb]; exact g5
  clear g0 g1 g2 g3 g4 g5 hx hR hs hw
  have hki : (i : Int) < (n : Int) := by omega
  have hc := hf w.drew hd
  clear hf
  go_enter Tryz.func149, Tryz.ntmps149
  go_wp2_with fail
  refine wp_region_eager [(0, false), (1, false), (2, false), (3, false), (4, false), (5, true), (6, false), (7, false)] (by kernel_rfl) (by kernel_rfl) rfl (by kernel_rfl) (fun _ _ _ _ _ h => h) ?_
  generalize w.drew = W at *
  iterate 5 (refine wpE_read (v := ?_) rfl (by rfl) ?_ ?_; rotate_left; (focus (intro w' hx; go_simp; first | done | with_reducible rfl)); simp only [Act.put, List.setIfInBounds_toArray, List.set_cons_zero, List.set_cons_succ])
  refine wpE_call rfl (by rfl) (fun K hK => ?_)
  go_simp
  go_at_fn g
  refine hc.mono ?_
  rintro e w1 ⟨rfl, hx1⟩
  refine hK _ _ hx1 ?_
  clear hK K
  iterate 2 (refine wpE_read (v := ?_) rfl (by rfl) ?_ ?_; rotate_left; (focus (intro w' hx; go_simp; first | done | with_reducible rfl)); simp only [Act.put, List.setIfInBounds_toArray, List.set_cons_zero, List.set_cons_succ])
  refine wpE_done ?_
  go_wp2_with fail
  go_ret
  exact ⟨rfl, hd.trans hx1⟩

set_option maxHeartbeats 1000000 in
theorem side_gt (g : Nat) (cb : Array Value) (p : Option Addr) (n c : Nat) (L : List Rt) (sb wb i : Nat) (x : Rt) (z : Int) (w : World) (eg : ∀ args w, (callFunc g args).run Tryz.prog w = .ok (.enter g args) w)
    (hs : ∀ w', Ext w w' → w'.cell? ⟨sb, 0, none⟩ = some (.func (.func g) #[] cb)) (hw : ∀ w', Ext w w' → w'.cell? ⟨wb, 0, none⟩ = some (.slice p n c)) (hR : Rd w p n c L) (hx : L[i]? = some x)
    (hf : ∀ w', Ext w w' → Calls Tryz.prog g (#[(.agg #[.int .i64 x.t, .int .u32 x.a, .int .i64 x.l, .int .i64 x.i, .int .u32 x.g, .int .i64 x.m])] ++ cb) w' fun e w2 => e = .returned (.int .i64 z) ∧ Ext w' w2) :
    Calls Tryz.prog 150 (#[.int .i64 (i : Nat)] ++ #[.pointer (some ⟨sb, 0, none⟩), .pointer (some ⟨wb, 0, none⟩)]) w fun e w' => e = .returned (.bool (decide (0 < z))) ∧ Ext w w' := by
  obtain ⟨b, off, rfl, hb, g0, g1, g2, g3, g4, g5⟩ := hR.cell hx
  have hlt : i < n := by
    have := hR.len
    have := (List.getElem?_eq_some_iff.1 hx).1
    omega
  have hd : Ext w w.drew := (Ext.refl w).drew
  have s0 := fun w' h => hs w' (hd.trans h)
  have s1 := fun w' h => hw w' (hd.trans h)
  have x0 : ∀ w', Ext w.drew w' → w'.cell? ⟨b, off + i * 6, none⟩ = some (.int .i64 x.t) := fun w' h => by rw [(hd.trans h).below.cell (p := ⟨b, off + i * 6, none⟩) hb]; exact g0
  have x1 : ∀ w', Ext w.drew w' → w'.cell? ⟨b, off + i * 6 + 1, none⟩ = some (.int .u32 x.a) := fun w' h => by rw [(hd.trans h).below.cell (p := ⟨b, off + i * 6 + 1, none⟩) hb]; exact g1
  have x2 : ∀ w', Ext w.drew w' → w'.cell? ⟨b, off + i * 6 + 2, none⟩ = some (.int .i64 x.l) := fun w' h => by rw [(hd.trans h).below.cell (p := ⟨b, off + i * 6 + 2, none⟩) hb]; exact g2
  have x3 : ∀ w', Ext w.drew w' → w'.cell? ⟨b, off + i * 6 + 3, none⟩ = some (.int .i64 x.i) := fun w' h => by rw [(hd.trans h).below.cell (p := ⟨b, off + i * 6 + 3, none⟩) hb]; exact g3
  have x4 : ∀ w', Ext w.drew w' → w'.cell? ⟨b, off + i * 6 + 4, none⟩ = some (.int .u32 x.g) := fun w' h => by rw [(hd.trans h).below.cell (p := ⟨b, off + i * 6 + 4, none⟩) hb]; exact g4
  have x5 : ∀ w', Ext w.drew w' → w'.cell? ⟨b, off + i * 6 + 5, none⟩ = some (.int .i64 x.m) := fun w' h => by rw [(hd.trans h).below.cell (p := ⟨b, off + i * 6 + 5, none⟩) hb]; exact g5
  clear g0 g1 g2 g3 g4 g5 hx hR hs hw
  have hki : (i : Int) < (n : Int) := by omega
  have hc := hf w.drew hd
  clear hf
  go_enter Tryz.func150, Tryz.ntmps150
  go_wp2_with fail
  refine wp_region_eager [(0, false), (1, false), (2, false), (3, false), (4, false), (5, true), (6, false), (7, false)] (by kernel_rfl) (by kernel_rfl) rfl (by kernel_rfl) (fun _ _ _ _ _ h => h) ?_
  generalize w.drew = W at *
  iterate 5 (refine wpE_read (v := ?_) rfl (by rfl) ?_ ?_; rotate_left; (focus (intro w' hx; go_simp; first | done | with_reducible rfl)); simp only [Act.put, List.setIfInBounds_toArray, List.set_cons_zero, List.set_cons_succ])
  refine wpE_call rfl (by rfl) (fun K hK => ?_)
  go_simp
  go_at_fn g
  refine hc.mono ?_
  rintro e w1 ⟨rfl, hx1⟩
  refine hK _ _ hx1 ?_
  clear hK K
  iterate 2 (refine wpE_read (v := ?_) rfl (by rfl) ?_ ?_; rotate_left; (focus (intro w' hx; go_simp; first | done | with_reducible rfl)); simp only [Act.put, List.setIfInBounds_toArray, List.set_cons_zero, List.set_cons_succ])
  refine wpE_done ?_
  go_wp2_with fail
  go_ret
  exact ⟨rfl, hd.trans hx1⟩

/-- Part of a row. -/
def PartAns (w0 w : World) (M : List Rt) (e : Ending) (w' : World) : Prop := ∃ p n c, e = .returned (.slice p n c) ∧ n ≤ c ∧ Rd w0 p n c M ∧ Ext w w'

theorem box1E {w : World} {b : Nat} {v0 : Value} {t : TypeId} (h : w.heap[b]? = some (.cells #[v0] t (0, 0))) : ∀ w', Ext w w' → w'.cell? ⟨b, 0, none⟩ = some v0 := fun w' hx => by
  rw [heap_cell (hx.heap h)]; rfl

set_option maxHeartbeats 1000000 in
theorem part_any (g : Nat) (cb : Array Value) (p : Option Addr) (n c : Nat) (L : List Rt) (sd : Rt → Int) (w0 w : World) (eg : ∀ args w, (callFunc g args).run Tryz.prog w = .ok (.enter g args) w) (hR0 : Rd w0 p n c L) (h00 : Ext w0 w) (hc : n ≤ c) (hn : n ≤ 1000000) (hm : MonoP sd L)
    (hf : ∀ w', Ext w w' → ∀ x : Rt, Calls Tryz.prog g (#[(.agg #[.int .i64 x.t, .int .u32 x.a, .int .i64 x.l, .int .i64 x.i, .int .u32 x.g, .int .i64 x.m])] ++ cb) w' fun e w2 => e = .returned (.int .i64 (sd x)) ∧ Ext w' w2) :
    Calls Tryz.prog 134 #[.slice p n c, .func (.func g) #[] cb] w (PartAns w0 w (L.filter fun x => decide (sd x = 0))) := by
  have hR := hR0.ext h00
  have HR0 : Hid (Rd w0 p n c L) := hR0
  clear hR0 h00
  have hA : Ext w ((w.alloc (.cells #[.slice p n c] 22)).alloc (.cells #[.func (.func g) #[] cb] 60)) := ((Ext.refl w).alloc _).alloc _
  have hB1 : ((w.alloc (.cells #[.slice p n c] 22)).alloc (.cells #[.func (.func g) #[] cb] 60)).heap[w.heap.size]? = some (.cells #[.slice p n c] 22 (0, 0)) :=
    (Below.heap_alloc (w.alloc (.cells #[.slice p n c] 22)) _ w.heap.size (by simp)).trans (heap_new w _)
  have hB2 : ((w.alloc (.cells #[.slice p n c] 22)).alloc (.cells #[.func (.func g) #[] cb] 60)).heap[w.heap.size + 1]? = some (.cells #[.func (.func g) #[] cb] 60 (0, 0)) := by
    have := heap_new (w.alloc (.cells #[.slice p n c] 22)) (.cells #[.func (.func g) #[] cb] 60)
    rwa [show (w.alloc (.cells #[.slice p n c] 22)).heap.size = w.heap.size + 1 by simp] at this
  have b1 := box1E hB1
  have b2 := box1E hB2
  have hl := hR.len
  obtain ⟨f1, f2⟩ := seg_filter sd L hm
  have hto : twN (fun x => decide (sd x ≤ 0)) L ≤ n := by rw [← hl]; exact twN_le _ _
  have q1 := b1 _ (Ext.refl _)
  generalize hW0 : ((w.alloc (.cells #[.slice p n c] 22)).alloc (.cells #[.func (.func g) #[] cb] 60)) = W0 at hA hB1 hB2 b1 b2
  have k1 := fun w' (hx : Ext W0 w') => search_any 149 #[.pointer (some ⟨w.heap.size + 1, 0, none⟩), .pointer (some ⟨w.heap.size, 0, none⟩)] n L (fun x => decide (sd x < 0)) w' enters_1 hl hn
    (fun w2 hx2 i x hi => (side_ge g cb p n c L (w.heap.size + 1) w.heap.size i x (sd x) w2 eg (fun w3 h3 => b2 w3 (hx.trans (hx2.trans h3))) (fun w3 h3 => b1 w3 (hx.trans (hx2.trans h3))) (hR.ext (hA.trans (hx.trans hx2))) hi (fun w3 h3 => hf w3 (hA.trans (hx.trans (hx2.trans h3))) x)).mono fun e w3 ⟨he, h3⟩ => ⟨by
      rw [he]
      congr 2
      by_cases h : sd x < 0
      · simp [h]
      · simp [h, show 0 ≤ sd x by omega], h3⟩)
    (fun i j y z hij hy hz h => by have := (hm.at hij hy hz).1; simp only [decide_eq_true_eq] at h ⊢; exact this h)
  have k2 := fun w' (hx : Ext W0 w') => search_any 150 #[.pointer (some ⟨w.heap.size + 1, 0, none⟩), .pointer (some ⟨w.heap.size, 0, none⟩)] n L (fun x => decide (sd x ≤ 0)) w' enters_2 hl hn
    (fun w2 hx2 i x hi => (side_gt g cb p n c L (w.heap.size + 1) w.heap.size i x (sd x) w2 eg (fun w3 h3 => b2 w3 (hx.trans (hx2.trans h3))) (fun w3 h3 => b1 w3 (hx.trans (hx2.trans h3))) (hR.ext (hA.trans (hx.trans hx2))) hi (fun w3 h3 => hf w3 (hA.trans (hx.trans (hx2.trans h3))) x)).mono fun e w3 ⟨he, h3⟩ => ⟨by
      rw [he]
      congr 2
      by_cases h : sd x ≤ 0
      · simp [h]
      · simp [h, show 0 < sd x by omega], h3⟩)
    (fun i j y z hij hy hz h => by have := (hm.at hij hy hz).2; simp only [decide_eq_true_eq] at h ⊢; exact this h)
  generalize twN (fun x => decide (sd x < 0)) L = lo at *
  generalize twN (fun x => decide (sd x ≤ 0)) L = hi at *
  have HF : Hid _ := f2
  have hsl := fun w => cut_lh p n c lo hi f1 hto hc w
  generalize hp' : (if c = lo then p else p.map (·.add (lo * 6))) = p' at hsl
  have HP : Hid _ := hp'
  have hmf : ∀ (fn : Fn) (first cap : Array Value) (w : World), (Instr.makeFunc fn first cap).run Tryz.prog w = .ok (.func fn first cap) w := fun _ _ _ _ => rfl
  clear hf hm hR hB1 hB2 hl f2 hp' b2
  subst hW0
  have hll : (lo : Int) ≤ (hi : Int) := by omega
  have hhc : (hi : Int) ≤ (c : Int) := by omega
  go_enter Tryz.func134, Tryz.ntmps134
  go_wp2_with (first
    | (go_at_call 148; refine (k1 _ (Ext.refl _)).mono ?_; rintro e w1 ⟨rfl, hx1⟩; clear k1; have r1 := b1 _ hx1)
    | (go_at_call 148; refine (k2 _ hx1).mono ?_; rintro e w2 ⟨rfl, hx2⟩; clear k2; have r2 := b1 _ (hx1.trans hx2)))
  go_ret
  have hE := hA.trans (hx1.trans hx2)
  have hcut := HR0.out.cut f1 hto hc
  rw [HF.out, HP.out] at hcut
  exact ⟨_, _, _, rfl, by omega, hcut, hE⟩
end Go.Proofs.YtkfhkhgiojpfoaaGreat.Rb

namespace Go.Proofs.YtkfhkhgiojpfoaaGreat.Rb

open Go.Proofs.YtkfhkhgiojpfoaaGreat

set_option linter.unusedVariables false

set_option linter.unusedSimpArgs false

/-- Whether an interface is up. -/
def upB (U : List Bool) (i : Int) : Bool := decide (0 ≤ i) && (U[i.toNat]?.getD false)

def okB (acc : Option Rt) (r : Rt) : Bool := match acc with
  | none => true
  | some b => betB r b

def stepB (U : List Bool) (acc : Option Rt) (r : Rt) : Option Rt := if (upB U r.i && okB acc r) = true then some r else acc

def bestL (U : List Bool) (R : List Rt) : Option Rt := R.foldl (stepB U) none

/-- Of this table and prefix. -/
def selB (t a l : Int) (r : Rt) : Bool := decide (r.t = t) && (decide (r.a = a) && decide (r.l = l))

def bestO (L : List Rt) (t a l : Int) (U : List Bool) : Option Rt := bestL U (L.filter (selB t a l))

def zeroR : Rt := ⟨0, 0, 0, 0, 0, 0⟩

def theR (o : Option Rt) : Rt := o.getD zeroR

theorem bestL_snoc (U : List Bool) (R : List Rt) (x : Rt) : bestL U (R ++ [x]) = stepB U (bestL U R) x := by
  unfold bestL
  rw [List.foldl_append]
  rfl

theorem bestL_take {U : List Bool} {R : List Rt} {k : Nat} {x : Rt} (h : R[k]? = some x) : bestL U (R.take (k + 1)) = stepB U (bestL U (R.take k)) x := by
  rw [← bestL_snoc]
  congr 1
  have hk := (List.getElem?_eq_some_iff.1 h).1
  rw [List.take_succ_eq_append_getElem hk, (List.getElem?_eq_some_iff.1 h).2]

/-- The document's round: all ways are looked at. -/
theorem bestO_take {U : List Bool} {L : List Rt} {k : Nat} {x : Rt} {t a l : Int} (h : L[k]? = some x) : bestO (L.take (k + 1)) t a l U = if selB t a l x = true then stepB U (bestO (L.take k) t a l U) x else bestO (L.take k) t a l U := by
  have hk := (List.getElem?_eq_some_iff.1 h).1
  unfold bestO
  rw [List.take_succ_eq_append_getElem hk, (List.getElem?_eq_some_iff.1 h).2, List.filter_append]
  by_cases hs : selB t a l x = true
  · rw [if_pos hs, List.filter_cons_of_pos hs, List.filter_nil, bestL_snoc]
  · rw [if_neg hs, List.filter_cons_of_neg hs, List.filter_nil, List.append_nil]

/-- What the best one is. -/
theorem bestL_mem {U : List Bool} : ∀ {R : List Rt} {o : Option Rt} {b : Rt}, R.foldl (stepB U) o = some b → o = some b ∨ (b ∈ R ∧ upB U b.i = true)
  | [], o, b, h => .inl h
  | x :: R, o, b, h => by
    rcases bestL_mem (R := R) h with h | h
    · unfold stepB at h
      split at h
      · rename_i hu
        simp only [Bool.and_eq_true] at hu
        cases h
        exact .inr ⟨by simp, hu.1⟩
      · exact .inl h
    · exact .inr ⟨by simp [h.1], h.2⟩

theorem bestL_is {U : List Bool} {R : List Rt} {b : Rt} (h : bestL U R = some b) : b ∈ R ∧ upB U b.i = true := by
  rcases bestL_mem h with h | h
  · cases h
  · exact h

theorem betB_asymm {x y : Rt} (h : betB x y = true) : betB y x = false := by
  rw [betB_iff] at h
  rw [betB_not]
  unfold Lt3 at *
  omega

theorem betB_irrefl (x : Rt) : betB x x = false := by
  rw [betB_not]
  unfold Lt3
  omega

theorem betB_not_trans {x y z : Rt} (h : betB x y = false) (k : betB y z = false) : betB x z = false := by
  rw [betB_not] at *
  unfold Lt3 at *
  omega

/-- None is better. -/
theorem bestL_no (U : List Bool) : ∀ (R : List Rt) (o : Option Rt), (∀ x ∈ R, upB U x.i = true → ∃ b, R.foldl (stepB U) o = some b ∧ betB x b = false) ∧ (∀ y, o = some y → ∃ b, R.foldl (stepB U) o = some b ∧ betB y b = false)
  | [], o => ⟨by simp, fun y hy => ⟨y, hy, betB_irrefl y⟩⟩
  | x :: R, o => by
    obtain ⟨ih1, ih2⟩ := bestL_no U R (stepB U o x)
    rw [List.foldl_cons]
    have hx : upB U x.i = true → ∃ b, stepB U o x = some b ∧ betB x b = false := fun hu => by
      unfold stepB
      rw [hu, Bool.true_and]
      cases o with
      | none => exact ⟨x, rfl, betB_irrefl x⟩
      | some y =>
        by_cases hb : betB x y = true
        · exact ⟨x, by simp [okB, hb], betB_irrefl x⟩
        · exact ⟨y, by simp [okB, hb], by simpa using hb⟩
    have hy : ∀ y, o = some y → ∃ b, stepB U o x = some b ∧ betB y b = false := fun y e => by
      subst e
      unfold stepB
      by_cases hu : upB U x.i = true
      · by_cases hb : betB x y = true
        · exact ⟨x, by simp [okB, hu, hb], betB_asymm hb⟩
        · exact ⟨y, by simp [okB, hb], betB_irrefl y⟩
      · exact ⟨y, by simp [hu], betB_irrefl y⟩
    constructor
    · intro z hz hu
      rcases List.mem_cons.1 hz with rfl | hz
      · obtain ⟨b, hb, h1⟩ := hx hu
        obtain ⟨b', hb', h2⟩ := ih2 b hb
        exact ⟨b', hb', betB_not_trans h1 h2⟩
      · exact ih1 z hz hu
    · intro y e
      obtain ⟨b, hb, h1⟩ := hy y e
      obtain ⟨b', hb', h2⟩ := ih2 b hb
      exact ⟨b', hb', betB_not_trans h1 h2⟩

theorem bestL_best {U : List Bool} {R : List Rt} {x : Rt} (hx : x ∈ R) (hu : upB U x.i = true) : ∃ b, bestL U R = some b ∧ betB x b = false := (bestL_no U R none).1 x hx hu

/-- Whether the way at a place is the first of its prefix, of this table. -/
def firstB (L : List Rt) (t : Int) (k : Nat) : Bool := match L[k]? with
  | none => false
  | some r => decide (r.t = t) && !(match k with
    | 0 => false
    | j + 1 => match L[j]? with
      | none => false
      | some q => selB t r.a r.l q)

/-- What is active of the first k. -/
def actN (L : List Rt) (t : Int) (U : List Bool) : Nat → List Rt
  | 0 => []
  | k + 1 => actN L t U k ++ (if firstB L t k = true then match L[k]? with
    | none => []
    | some r => (bestO L t r.a r.l U).toList
    else [])

def actL (L : List Rt) (t : Int) (U : List Bool) : List Rt := actN L t U L.length
end Go.Proofs.YtkfhkhgiojpfoaaGreat.Rb

namespace Go.Proofs.YtkfhkhgiojpfoaaGreat

open Go.RowKit

set_option linter.unusedVariables false

theorem setRow_extX (w : World) (g : Nat) (cs : Array Value) : ExtX g w (w.setRow g cs) :=
  ⟨rfl, rfl, rfl, by simp [World.setRow], fun k hk hne => setRow_other w g k cs (fun e => hne e)⟩

/-- A store of a whole struct, as an operation. -/
theorem wp_store {P : Program} {w : World} {o : Oper} {a : Act} {K : Act → World → Prop} {Q : Exit → Act → World → Prop} (t : TypeId) (x v : Operand) (hop : o.op = .store t x v) (hd : o.dst = none) (n g : Nat) (cs cur : Array Value) (t' : TypeId)
    (hx : a.eval x = .pointer (some ⟨g, 0, none⟩)) (hv : a.eval v = .agg cs) (hg : w.heap[g]? = some (.cells cur t' (0, 0))) (hi : (P.info? t).map (·.size) = some n) (hn : cs.size = n) (hs : cur.size = n) (h1 : ∀ v ∈ cs.toList, v.oneCell' = true)
    (h : ∀ w', ExtX g w w' → w'.heap[g]? = some (.cells cs t' (0, 0)) → K a w') : o.wp P a w K Q := by
  have hr := run_storeVar_row (P := P) w g t' t cur cs hg (by rw [hi, hn]) (by omega) (by rw [Array.all_eq_true']; intro v hv; exact h1 v (by simpa using hv))
  unfold Oper.wp
  simp only [execOp, hop, hx, hv, Instr.storeAt, Instr.sureAddr, Sem.run_bind, Sem.run_pure, Result.andThen, hr]
  show K (a.put o.dst undef) _
  rw [hd]
  exact h _ (setRow_extX w g cs) (setRow_heap w g cur cs t' _ hg)

/-- The same, at the head of a region's rest. -/
theorem wpl_store {P : Program} {w : World} {ops : Array Oper} {rest : List Oper} {o : Oper} {a : Act} {Q : Exit → Act → World → Prop} (hgd : Region.wanted o (yielded ops a.tmps) = true) (t : TypeId) (x v : Operand) (hop : o.op = .store t x v) (hd : o.dst = none) (n g : Nat) (cs cur : Array Value) (t' : TypeId)
    (hx : a.eval x = .pointer (some ⟨g, 0, none⟩)) (hv : a.eval v = .agg cs) (hg : w.heap[g]? = some (.cells cur t' (0, 0))) (hi : (P.info? t).map (·.size) = some n) (hn : cs.size = n) (hs : cur.size = n) (h1 : ∀ v ∈ cs.toList, v.oneCell' = true)
    (h : ∀ w', ExtX g w w' → w'.heap[g]? = some (.cells cs t' (0, 0)) → wpList P ops Q rest a w') : wpList P ops Q (o :: rest) a w :=
  wpList_want hgd fun K hK => wp_store t x v hop hd n g cs cur t' hx hv hg hi hn hs h1 fun w' h2 h3 => hK _ _ (h w' h2 h3)

/-- A load of a whole struct, as an operation. -/
theorem wp_load {P : Program} {w : World} {o : Oper} {a : Act} {K : Act → World → Prop} {Q : Exit → Act → World → Prop} (t : TypeId) (x : Operand) (hop : o.op = .load t x) (g : Nat) (cs : Array Value) (t' : TypeId) (d : TypeDesc)
    (hx : a.eval x = .pointer (some ⟨g, 0, none⟩)) (hg : w.heap[g]? = some (.cells cs t' (0, 0))) (hu : P.underlying t = some d) (hd : (match d with | .struct _ | .array _ _ => true | _ => false) = true) (hi : (P.info? t).map (·.size) = some cs.size)
    (h : K (a.put o.dst (.agg cs)) w) : o.wp P a w K Q := by
  have hr := run_loadVar_row (P := P) w g t' t cs (0, 0) d hg hu hd hi
  unfold Oper.wp
  simp only [execOp, hop, hx, Instr.loadAt, Instr.sureAddr, Sem.run_bind, Sem.run_pure, Result.andThen, hr]
  exact h

/-- The same, at the head of a region's rest. -/
theorem wpl_load {P : Program} {w : World} {ops : Array Oper} {rest : List Oper} {o : Oper} {a : Act} {Q : Exit → Act → World → Prop} (hgd : Region.wanted o (yielded ops a.tmps) = true) (t : TypeId) (x : Operand) (hop : o.op = .load t x) (g : Nat) (cs : Array Value) (t' : TypeId) (d : TypeDesc)
    (hx : a.eval x = .pointer (some ⟨g, 0, none⟩)) (hg : w.heap[g]? = some (.cells cs t' (0, 0))) (hu : P.underlying t = some d) (hd : (match d with | .struct _ | .array _ _ => true | _ => false) = true) (hi : (P.info? t).map (·.size) = some cs.size)
    (h : wpList P ops Q rest (a.put o.dst (.agg cs)) w) : wpList P ops Q (o :: rest) a w :=
  wpList_want hgd fun K hK => wp_load t x hop g cs t' d hx hg hu hd hi (hK _ _ h)

/-- What is answered: a struct's block, and a slot. -/
theorem results_two {P : Program} {fn : Func} {t u : Tmp} {ty : TypeId} (h : fn.results = #[.cell t ty, .tmp u]) {tmps : Array Value} {w : World} {g : Nat} {cs : Array Value} {t' : TypeId} (d : TypeDesc) (hp : tmps.getD t undef = .pointer (some ⟨g, 0, none⟩))
    (hg : w.heap[g]? = some (.cells cs t' (0, 0))) (hu : P.underlying ty = some d) (hd : (match d with | .struct _ | .array _ _ => true | _ => false) = true) (hi : (P.info? ty).map (·.size) = some cs.size) :
    (results fn tmps).run P w = .ok (.tuple #[.agg cs, tmps.getD u undef]) w := by
  have hr := run_loadVar_row (P := P) w g t' ty cs (0, 0) d hg hu hd hi
  have hp' : tmps[t]?.getD undef = .pointer (some ⟨g, 0, none⟩) := by simpa using hp
  simp [results, h, hp', asAddr, hr, Result.andThen]
end Go.Proofs.YtkfhkhgiojpfoaaGreat

namespace Go.Proofs.YtkfhkhgiojpfoaaGreat.Rb

set_option maxRecDepth 100000

open Go.RowKit Go.Proofs.YtkfhkhgiojpfoaaGreat

set_option linter.unusedVariables false

set_option linter.unusedSimpArgs false

theorem side_table (tb : Nat) (t : Int) (x : Rt) (w : World) (ht : w.heap[tb]? = some (.cells #[.int .i64 t] 3 (0, 0))) :
    Calls Tryz.prog 135 (#[(.agg #[.int .i64 x.t, .int .u32 x.a, .int .i64 x.l, .int .i64 x.i, .int .u32 x.g, .int .i64 x.m])] ++ #[.pointer (some ⟨tb, 0, none⟩)]) w fun e w' => e = .returned (.int .i64 (cmpI x.t t)) ∧ Ext w w' := by
  have hA : Ext w (w.alloc (.cells #[.int .i64 x.t, .int .u32 x.a, .int .i64 x.l, .int .i64 x.i, .int .u32 x.g, .int .i64 x.m] 48)) := (Ext.refl w).alloc _
  obtain ⟨q0, q1, q2, q3, q4, q5⟩ := box_rtE (heap_new w (.cells #[.int .i64 x.t, .int .u32 x.a, .int .i64 x.l, .int .i64 x.i, .int .u32 x.g, .int .i64 x.m] 48))
  have p0 := q0 _ (Ext.refl _)
  have b0 := box1E ht _ hA
  have k1 := fun w => compare_int x.t t w
  clear q0 q1 q2 q3 q4 q5 ht
  go_enter Tryz.func135, Tryz.ntmps135
  go_wp2_with (go_at_call 108; refine (k1 _).mono ?_; rintro e w1 ⟨rfl, hx1⟩)
  go_ret
  exact ⟨rfl, hA.trans hx1⟩

theorem side_prefix (tb : Nat) (a l : Int) (x : Rt) (w : World) (ht : w.heap[tb]? = some (.cells #[.int .u32 a, .int .i64 l] 42 (0, 0))) :
    Calls Tryz.prog 136 (#[(.agg #[.int .i64 x.t, .int .u32 x.a, .int .i64 x.l, .int .i64 x.i, .int .u32 x.g, .int .i64 x.m])] ++ #[.pointer (some ⟨tb, 0, none⟩)]) w fun e w' => e = .returned (.int .i64 (ordP x.a x.l a l)) ∧ Ext w w' := by
  have hA : Ext w (w.alloc (.cells #[.int .i64 x.t, .int .u32 x.a, .int .i64 x.l, .int .i64 x.i, .int .u32 x.g, .int .i64 x.m] 48)) := (Ext.refl w).alloc _
  obtain ⟨q0, q1, q2, q3, q4, q5⟩ := box_rtE (heap_new w (.cells #[.int .i64 x.t, .int .u32 x.a, .int .i64 x.l, .int .i64 x.i, .int .u32 x.g, .int .i64 x.m] 48))
  have p1 := q1 _ (Ext.refl _)
  have p2 := q2 _ (Ext.refl _)
  obtain ⟨b0, b1⟩ := box2E ht
  have c0 := b0 _ hA
  have c1 := b1 _ hA
  have k1 := fun w => orderPrefix_any x.a x.l a l w
  clear q0 q1 q2 q3 q4 q5 ht b0 b1
  go_enter Tryz.func136, Tryz.ntmps136
  go_wp2_with (go_at_call 109; refine (k1 _).mono ?_; rintro e w1 ⟨rfl, hx1⟩)
  go_ret
  exact ⟨rfl, hA.trans hx1⟩

theorem mono_table {L : List Rt} (h : Srt L) (t : Int) : MonoP (fun x => cmpI x.t t) L := by
  refine List.Pairwise.imp (fun {x y} hxy => ?_) h
  rw [ltB_iff] at hxy
  have hle : x.t ≤ y.t := by unfold Lt5 at hxy; omega
  have e1 := cmpI_lt x.t t
  have e2 := cmpI_lt y.t t
  have e3 := cmpI_eq x.t t
  have e4 := cmpI_eq y.t t
  dsimp only
  omega

theorem mono_prefix {L : List Rt} (h : Srt L) (t : Int) (ht : ∀ x ∈ L, x.t = t) (a l : Int) : MonoP (fun x => ordP x.a x.l a l) L := by
  unfold MonoP
  refine List.Pairwise.imp_of_mem (fun {x y} hx hy hxy => ?_) h
  rw [ltB_iff] at hxy
  have hle : x.a < y.a ∨ (x.a = y.a ∧ x.l ≤ y.l) := by
    have := ht x hx
    have := ht y hy
    unfold Lt5 at hxy; omega
  have e1 := ordP_lt x.a x.l a l
  have e2 := ordP_lt y.a y.l a l
  have e3 := ordP_eq x.a x.l a l
  have e4 := ordP_eq y.a y.l a l
  dsimp only
  omega

theorem ofTable_any (p : Option Addr) (n c : Nat) (L : List Rt) (t : Int) (w0 w : World) (hR : Rd w0 p n c L) (h00 : Ext w0 w) (hc : n ≤ c) (hn : n ≤ 1000000) (hs : Srt L) :
    Calls Tryz.prog 112 #[.slice p n c, .int .i64 t] w (PartAns w0 w (L.filter fun x => decide (x.t = t))) := by
  have hA : Ext w (w.alloc (.cells #[.int .i64 t] 3)) := (Ext.refl w).alloc _
  have hB := heap_new w (.cells #[.int .i64 t] 3)
  have k1 := part_any 135 #[.pointer (some ⟨w.heap.size, 0, none⟩)] p n c L (fun x => cmpI x.t t) w0 (w.alloc (.cells #[.int .i64 t] 3)) enters_t hR (h00.trans hA) hc hn (mono_table hs t) (fun w' hx x => side_table w.heap.size t x w' (hx.heap hB))
  have hf : (fun x : Rt => decide (cmpI x.t t = 0)) = fun x => decide (x.t = t) := by
    funext x
    exact decide_eq_decide.2 (cmpI_eq x.t t)
  rw [hf] at k1
  have hmf : ∀ (fn : Fn) (first cap : Array Value) (w : World), (Instr.makeFunc fn first cap).run Tryz.prog w = .ok (.func fn first cap) w := fun _ _ _ _ => rfl
  clear hR hs hB hf h00
  go_enter Tryz.func112, Tryz.ntmps112
  go_wp2_with (go_at_call 134; refine k1.mono ?_; rintro e w1 ⟨p', n', c', rfl, h1, h2, h3⟩)
  go_ret
  exact ⟨p', n', c', rfl, h1, h2, hA.trans h3⟩

theorem ofPrefix_any (p : Option Addr) (n c : Nat) (L : List Rt) (t a l : Int) (w0 w : World) (hR : Rd w0 p n c L) (h00 : Ext w0 w) (hc : n ≤ c) (hn : n ≤ 1000000) (hs : Srt L) (ht : ∀ x ∈ L, x.t = t) :
    Calls Tryz.prog 113 #[.slice p n c, .agg #[.int .u32 a, .int .i64 l]] w (PartAns w0 w (L.filter (selB t a l))) := by
  have hA : Ext w (w.alloc (.cells #[.int .u32 a, .int .i64 l] 42)) := (Ext.refl w).alloc _
  have hB := heap_new w (.cells #[.int .u32 a, .int .i64 l] 42)
  have k1 := part_any 136 #[.pointer (some ⟨w.heap.size, 0, none⟩)] p n c L (fun x => ordP x.a x.l a l) w0 (w.alloc (.cells #[.int .u32 a, .int .i64 l] 42)) enters_p hR (h00.trans hA) hc hn (mono_prefix hs t ht a l) (fun w' hx x => side_prefix w.heap.size a l x w' (hx.heap hB))
  have hf : L.filter (fun x : Rt => decide (ordP x.a x.l a l = 0)) = L.filter (selB t a l) := by
    refine List.filter_congr fun x hx => ?_
    have h1 := ordP_eq x.a x.l a l
    have h2 := ht x hx
    unfold selB
    by_cases h : x.a = a ∧ x.l = l
    · simp [h2, h.1, h.2, ordP_eq]
    · have : ¬ ordP x.a x.l a l = 0 := fun e => h (h1.1 e)
      simp only [this, decide_false, h2, decide_true, Bool.true_and]
      symm
      rw [Bool.and_eq_false_iff]
      by_cases h3 : x.a = a
      · exact .inr (by simpa using fun e => h ⟨h3, e⟩)
      · exact .inl (by simpa using h3)
  rw [hf] at k1
  have hmf : ∀ (fn : Fn) (first cap : Array Value) (w : World), (Instr.makeFunc fn first cap).run Tryz.prog w = .ok (.func fn first cap) w := fun _ _ _ _ => rfl
  clear hR hs hB hf ht h00
  go_enter Tryz.func113, Tryz.ntmps113
  go_wp2_with (go_at_call 134; refine k1.mono ?_; rintro e w1 ⟨p', n', c', rfl, h1, h2, h3⟩)
  go_ret
  exact ⟨p', n', c', rfl, h1, h2, hA.trans h3⟩

/-- The slice (q, m) tells which interfaces are up. -/
structure Ups (w : World) (q : Option Addr) (m : Nat) (U : List Bool) : Prop where
  len : U.length = m
  small : m ≤ 1000000
  cells : m = 0 ∨ ∃ b off, q = some ⟨b, off, none⟩ ∧ ∀ (j : Nat) (u : Bool), U[j]? = some u → w.cell? ⟨b, off + j, none⟩ = some (.bool u)

theorem Ups.ext {w w' : World} {q : Option Addr} {m : Nat} {U : List Bool} (h : Ups w q m U) (hx : Ext w w') : Ups w' q m U := by
  refine ⟨h.len, h.small, ?_⟩
  rcases h.cells with h0 | ⟨b, off, rfl, hc⟩
  · exact .inl h0
  · exact .inr ⟨b, off, rfl, fun j u hj => by rw [hx.below.cell (p := ⟨b, off + j, none⟩) (block_lt (hc j u hj))]; exact hc j u hj⟩

theorem isUp_any (x : Rt) (q : Option Addr) (m d : Nat) (U : List Bool) (w : World) (hU : Ups w q m U) (h0 : 0 ≤ x.i) :
    Calls Tryz.prog 137 #[(.agg #[.int .i64 x.t, .int .u32 x.a, .int .i64 x.l, .int .i64 x.i, .int .u32 x.g, .int .i64 x.m]), .slice q m d] w fun e w' => e = .returned (.bool (upB U x.i)) ∧ Ext w w' := by
  have hA : Ext w (w.alloc (.cells #[.int .i64 x.t, .int .u32 x.a, .int .i64 x.l, .int .i64 x.i, .int .u32 x.g, .int .i64 x.m] 48)) := (Ext.refl w).alloc _
  obtain ⟨q0, q1, q2, q3, q4, q5⟩ := box_rtE (heap_new w (.cells #[.int .i64 x.t, .int .u32 x.a, .int .i64 x.l, .int .i64 x.i, .int .u32 x.g, .int .i64 x.m] 48))
  have p3 := q3 _ (Ext.refl _)
  have hl := hU.len
  clear q0 q1 q2 q3 q4 q5
  by_cases hlt : x.i < (m : Int)
  · have hn : x.i.toNat < U.length := by omega
    obtain ⟨u, hu⟩ : ∃ u, U[x.i.toNat]? = some u := ⟨_, List.getElem?_eq_getElem hn⟩
    have he : upB U x.i = u := by unfold upB; simp [h0, hu]
    rcases hU.cells with e | ⟨b, off, rfl, hc⟩
    · omega
    · have hcu : (w.alloc (.cells #[.int .i64 x.t, .int .u32 x.a, .int .i64 x.l, .int .i64 x.i, .int .u32 x.g, .int .i64 x.m] 48)).cell? ⟨b, off + x.i.toNat, none⟩ = some (.bool u) := by rw [hA.below.cell (p := ⟨b, off + x.i.toNat, none⟩) (block_lt (hc _ u hu))]; exact hc _ u hu
      rw [he]
      clear hc hu he hU hl hn
      go_enter Tryz.func137, Tryz.ntmps137
      go_wp2_with fail
      go_ret
      exact ⟨rfl, hA⟩
  · have he : upB U x.i = false := by
      unfold upB
      rw [List.getElem?_eq_none (by omega)]
      simp
    rw [he]
    clear hU hl he
    go_enter Tryz.func137, Tryz.ntmps137
    go_wp2_with fail
    go_ret
    exact ⟨rfl, hA⟩
end Go.Proofs.YtkfhkhgiojpfoaaGreat.Rb

namespace Go.Proofs.YtkfhkhgiojpfoaaGreat

set_option maxRecDepth 100000

open Go.RowKit

set_option linter.unusedVariables false

theorem refHold_any (n : Int) (w : World) : Calls Tryz.prog 80 #[.int .i64 n] w fun e w' => e = .returned (.int .i64 (holdV n)) ∧ w' = w := by
  by_cases h1 : n < 0
  · rw [show holdV n = 0 by unfold holdV; rw [if_pos h1]]
    go_enter Tryz.func80, Tryz.ntmps80
    go_wp2
    go_ret
    exact ⟨rfl, rfl⟩
  by_cases h2 : 32 < n
  · rw [show holdV n = 32 by unfold holdV; rw [if_neg h1, if_pos h2]]
    go_enter Tryz.func80, Tryz.ntmps80
    go_wp2
    go_ret
    exact ⟨rfl, rfl⟩
  · rw [show holdV n = n by unfold holdV; rw [if_neg h1, if_neg h2]]
    go_enter Tryz.func80, Tryz.ntmps80
    go_wp2
    go_ret
    exact ⟨rfl, rfl⟩

theorem refMask_any (n : Int) (w : World) : Calls Tryz.prog 59 #[.int .i64 n] w fun e w' => e = .returned (.int .u32 (maskV n)) ∧ w' = w := by
  have hb := holdV_bd n
  have c1 := fun w => refHold_any n w
  have hs := u32_shl_ones n
  generalize maskV n = m at *
  generalize holdV n = h at *
  have hw : IntKind.u64.wrap (4294967295 * 2 ^ (32 - h).toNat) % 4294967296 = m := by
    rw [IntKind.wrap_u64, Int.emod_emod_of_dvd _ (by decide)]; exact hs
  have H : Hid _ := hw
  clear hs hw
  go_enter Tryz.func59, Tryz.ntmps59
  go_wp2_with (go_at_call 80; refine (c1 _).mono ?_; rintro e w' ⟨rfl, rfl⟩)
  go_ret
  exact ⟨by rw [← H.out]; rfl, rfl⟩

theorem refHas_any (a n x : Int) (w : World) (a0 : 0 ≤ a) (a1 : a ≤ 4294967295) (x0 : 0 ≤ x) (x1 : x ≤ 4294967295) :
    Calls Tryz.prog 33 #[.agg #[.int .u32 a, .int .i64 n], .int .u32 x] w fun e w' => e = .returned (.bool (hasV a n x)) ∧ Ext w w' := by
  have c1 := fun w => refMask_any n w
  have hm := maskV_bd n
  have hh := u32_has a n x a0 a1 x0 x1
  generalize hasV a n x = d at *
  generalize maskV n = m at *
  obtain ⟨hx0, hb0, hb1⟩ := boxed2 w (.int .u32 a) (.int .i64 n) 42
  go_enter Tryz.func33, Tryz.ntmps33
  go_wp2
  refine wp_region_eager [(0, false), (1, false), (2, false), (3, false), (4, false), (5, false), (6, true), (7, false), (8, false), (9, false)] (by kernel_rfl) (by kernel_rfl) rfl (by kernel_rfl) (fun _ _ _ _ _ h => h) ?_
  generalize (w.alloc (.cells #[.int .u32 a, .int .i64 n] 42)).drew = W at *
  repeat (first
    | (refine wpE_read (v := ?_) rfl (by rfl) ?_ ?_; rotate_left; (focus (intro w' hx; go_simp; first | done | with_reducible rfl)); simp only [Act.put, List.setIfInBounds_toArray, List.set_cons_zero, List.set_cons_succ])
    | (refine wpE_call rfl (by rfl) (fun K hK => ?_); go_simp; first
        | (go_at_call 59; refine (c1 _).mono ?_; rintro e w' ⟨rfl, rfl⟩; refine hK _ _ (Ext.refl _) ?_; clear hK K)))
  refine wpE_done ?_
  go_wp2
  go_ret
  exact ⟨rfl, hx0⟩

theorem refWide_any (a n : Int) (w : World) (a0 : 0 ≤ a) (a1 : a ≤ 4294967295) :
    Calls Tryz.prog 42 #[.agg #[.int .u32 a, .int .i64 n]] w fun e w' => e = .returned (.int .u32 (wideV a n)) ∧ Ext w w' := by
  have c1 := fun w => refMask_any n w
  have hm := maskV_bd n
  have hh := u32_or_norm a n a0 a1
  rw [← u32_not _ hm.1 hm.2] at hh
  have hn := u32_and_mask a n a0 a1
  generalize normV a n = q at *
  generalize wideV a n = d at *
  generalize maskV n = m at *
  obtain ⟨hx0, hb0, hb1⟩ := boxed2 w (.int .u32 a) (.int .i64 n) 42
  go_enter Tryz.func42, Tryz.ntmps42
  go_wp2
  refine wp_region_eager [(0, false), (1, false), (2, false), (3, false), (6, false), (7, false), (4, true), (5, false), (8, true), (9, false), (10, false), (11, false)] (by kernel_rfl) (by kernel_rfl) rfl (by kernel_rfl) (fun _ _ _ _ _ h => h) ?_
  generalize (w.alloc (.cells #[.int .u32 a, .int .i64 n] 42)).drew = W at *
  repeat (first
    | (refine wpE_read (v := ?_) rfl (by rfl) ?_ ?_; rotate_left; (focus (intro w' hx; go_simp; first | done | with_reducible rfl)); simp only [Act.put, List.setIfInBounds_toArray, List.set_cons_zero, List.set_cons_succ])
    | (refine wpE_call rfl (by rfl) (fun K hK => ?_); go_simp; first
        | (go_at_call 59; refine (c1 _).mono ?_; rintro e w' ⟨rfl, rfl⟩; refine hK _ _ (Ext.refl _) ?_; clear hK K)))
  refine wpE_done ?_
  go_wp2
  go_ret
  exact ⟨rfl, hx0⟩

theorem refNorm_any (a n : Int) (w : World) (a0 : 0 ≤ a) (a1 : a ≤ 4294967295) :
    Calls Tryz.prog 127 #[.agg #[.int .u32 a, .int .i64 n]] w fun e w' => e = .returned (.agg #[.int .u32 (normV a n), .int .i64 (holdV n)]) ∧ Ext w w' := by
  have c1 := fun w => refMask_any n w
  have c2 := fun w => refHold_any n w
  have hm := maskV_bd n
  have hh := u32_and_mask a n a0 a1
  generalize normV a n = d at *
  generalize maskV n = m at *
  generalize holdV n = h at *
  have hx0 : Ext w ((w.alloc (.cells #[.int .u32 a, .int .i64 n] 42)).alloc (.cells #[.int .u32 0, .int .i64 0] 42)).drew := (((Ext.refl w).alloc _).alloc _).drew
  have hh0 : ((w.alloc (.cells #[.int .u32 a, .int .i64 n] 42)).alloc (.cells #[.int .u32 0, .int .i64 0] 42)).drew.heap[w.heap.size]? = some (.cells #[.int .u32 a, .int .i64 n] 42 (0, 0)) :=
    (Below.heap_alloc (w.alloc (.cells #[.int .u32 a, .int .i64 n] 42)) _ w.heap.size (by simp)).trans (heap_new w _)
  have hh1 : ((w.alloc (.cells #[.int .u32 a, .int .i64 n] 42)).alloc (.cells #[.int .u32 0, .int .i64 0] 42)).drew.heap[w.heap.size + 1]? = some (.cells #[.int .u32 0, .int .i64 0] 42 (0, 0)) := by
    have := heap_new (w.alloc (.cells #[.int .u32 a, .int .i64 n] 42)) (.cells #[.int .u32 0, .int .i64 0] 42)
    rwa [show (w.alloc (.cells #[.int .u32 a, .int .i64 n] 42)).heap.size = w.heap.size + 1 by simp] at this
  obtain ⟨hb0, hb1⟩ := box2 hh0 (w.heap.size + 1) (by omega)
  have f0 : ((w.alloc (.cells #[.int .u32 a, .int .i64 n] 42)).alloc (.cells #[.int .u32 0, .int .i64 0] 42)).drew.frozen? ⟨w.heap.size + 1, 0, none⟩ = false := heap_frozen hh1
  have f1 : ((w.alloc (.cells #[.int .u32 a, .int .i64 n] 42)).alloc (.cells #[.int .u32 0, .int .i64 0] 42)).drew.frozen? ⟨w.heap.size + 1, 1, none⟩ = false := heap_frozen hh1
  have d0 : ((w.alloc (.cells #[.int .u32 a, .int .i64 n] 42)).alloc (.cells #[.int .u32 0, .int .i64 0] 42)).drew.cell? ⟨w.heap.size + 1, 0, none⟩ = some (.int .u32 0) := by rw [heap_cell hh1]; rfl
  have d1 : ((w.alloc (.cells #[.int .u32 a, .int .i64 n] 42)).alloc (.cells #[.int .u32 0, .int .i64 0] 42)).drew.cell? ⟨w.heap.size + 1, 1, none⟩ = some (.int .i64 0) := by rw [heap_cell hh1]; rfl
  have H1 : Hid _ := hh1
  clear hh0 hh1
  go_enter Tryz.func127, Tryz.ntmps127
  go_wp2
  refine wp_region_eagerX (w.heap.size + 1) [(0, false), (1, false), (2, false), (3, false), (6, false), (7, false), (4, true), (5, false), (8, true), (9, false), (10, true)] (by kernel_rfl) (by kernel_rfl) rfl (by kernel_rfl) (fun _ _ _ _ _ h => h) ?_
  generalize ((w.alloc (.cells #[.int .u32 a, .int .i64 n] 42)).alloc (.cells #[.int .u32 0, .int .i64 0] 42)).drew = W at *
  repeat (first
    | (refine wpE_read (v := ?_) rfl (by rfl) ?_ ?_; rotate_left; (focus (intro w' hx; go_simp; first | done | with_reducible rfl)); simp only [Act.put, List.setIfInBounds_toArray, List.set_cons_zero, List.set_cons_succ])
    | (refine wpE_call rfl (by rfl) (fun K hK => ?_); go_simp; first
        | (go_at_call 59; refine (c1 _).mono ?_; rintro e w' ⟨rfl, rfl⟩; refine hK _ _ (ExtX.refl _ _) ?_; clear hK K)
        | (go_at_call 80; refine (c2 _).mono ?_; rintro e w' ⟨rfl, rfl⟩; refine hK _ _ (ExtX.refl _ _) ?_; clear hK K)))
  refine wpE_call rfl (by rfl) (fun K hK => ?_)
  go_simp
  refine hK _ _ (((ExtX.refl _ _).setCell (p := ⟨w.heap.size + 1, 0, none⟩) rfl _).setCell (p := ⟨w.heap.size + 1, 1, none⟩) rfl _) ?_
  clear hK K
  have k1 := heap_set (heap_set H1.out (k := 0) (.int .u32 d)) (k := 1) (.int .i64 h)
  have hx1 : Ext w ((w'.setCell ⟨w.heap.size + 1, 0, none⟩ (.int .u32 d)).setCell ⟨w.heap.size + 1, 1, none⟩ (.int .i64 h)) := ExtX.ext hx0 (((ExtX.refl _ _).setCell (p := ⟨w.heap.size + 1, 0, none⟩) rfl _).setCell (p := ⟨w.heap.size + 1, 1, none⟩) rfl _) (show w.heap.size ≤ w.heap.size + 1 by omega)
  clear f0 f1 d0 d1 H1 hb0 hb1 hx0
  generalize ((w'.setCell ⟨w.heap.size + 1, 0, none⟩ (.int .u32 d)).setCell ⟨w.heap.size + 1, 1, none⟩ (.int .i64 h)) = w2 at *
  have d0 : w2.cell? ⟨w.heap.size + 1, 0, none⟩ = some (.int .u32 d) := by rw [heap_cell k1]; rfl
  have d1 : w2.cell? ⟨w.heap.size + 1, 1, none⟩ = some (.int .i64 h) := by rw [heap_cell k1]; rfl
  clear k1
  refine wpE_done ?_
  go_wp2
  exact bodyPost_ret (v := .agg #[.int .u32 d, .int .i64 h]) (by simp [results, Tryz.results127, go_sem, d0, d1]) rfl ⟨rfl, hx1⟩

theorem refIs_any (a n : Int) (w : World) (a0 : 0 ≤ a) (a1 : a ≤ 4294967295) :
    Calls Tryz.prog 100 #[.agg #[.int .u32 a, .int .i64 n]] w fun e w' => e = .returned (.bool (isV a n)) ∧ Ext w w' := by
  have c1 := fun w => refNorm_any a n w a0 a1
  have eg := eq_guard
  rw [isV_comm]
  generalize normV a n = d at *
  generalize holdV n = h at *
  obtain ⟨hx0, hb0, hb1⟩ := boxed2 w (.int .u32 a) (.int .i64 n) 42
  have eq := fun w => eql_prefix d h a n w
  go_enter Tryz.func100, Tryz.ntmps100
  go_wp2
  refine wp_region_eager [(0, false), (2, false), (1, true), (3, false), (4, false)] (by kernel_rfl) (by kernel_rfl) rfl (by kernel_rfl) (fun _ _ _ _ _ h => h) ?_
  generalize (w.alloc (.cells #[.int .u32 a, .int .i64 n] 42)).drew = W at *
  repeat (first
    | (refine wpE_read (v := ?_) rfl (by rfl) ?_ ?_; rotate_left; (focus (intro w' hx; go_simp; first | done | with_reducible rfl)); simp only [Act.put, List.setIfInBounds_toArray, List.set_cons_zero, List.set_cons_succ])
    | (refine wpE_call rfl (by rfl) (fun K hK => ?_); go_simp; first
        | (go_at_call 127; refine (c1 _).mono ?_; rintro e w' ⟨rfl, hx1⟩; refine hK _ _ hx1 ?_; clear hK K)))
  refine wpE_done ?_
  go_wp2
  go_ret
  exact ⟨rfl, hx0.trans hx1⟩

theorem refCast_any (a : Int) (w : World) (a0 : 0 ≤ a) (a1 : a ≤ 4294967295) :
    Calls Tryz.prog 37 #[.int .u32 a] w fun e w' => e = .returned (.bool (castV a)) ∧ w' = w := by
  unfold castV
  go_enter Tryz.func37, Tryz.ntmps37
  go_wp2
  all_goals go_ret
  · exact ⟨by simp [*], rfl⟩
  · exact ⟨rfl, rfl⟩
end Go.Proofs.YtkfhkhgiojpfoaaGreat
