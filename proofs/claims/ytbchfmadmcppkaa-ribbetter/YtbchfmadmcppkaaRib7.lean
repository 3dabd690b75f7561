/- Those of the ways that are of a table, of a prefix: sort.Search, part. -/
import Derived.Test.YtbchfmadmcppkaaRib2
import Derived.Shelf.Abstract
namespace Go.Proofs.Ytbchfmadmcppkaa.Rb
set_option maxRecDepth 100000
open Go.RowKit Go.Proofs.Ytbchfmadmcppkaa
set_option linter.unusedVariables false
set_option linter.unusedSimpArgs false

set_option maxHeartbeats 1000000 in
theorem search_any (g : Nat) (cb : Array Value) (n : Nat) (L : List Rt) (f : Rt → Bool) (w : World) (eg : ∀ args w, (callFunc g args).run Try.prog w = .ok (.enter g args) w) (hl : L.length = n) (hn : n ≤ 1000000)
    (hf : ∀ w', Ext w w' → ∀ (i : Nat) (x : Rt), L[i]? = some x → Calls Try.prog g (#[.int .i64 (i : Nat)] ++ cb) w' fun e w2 => e = .returned (.bool (!f x)) ∧ Ext w' w2)
    (hm : ∀ (i j : Nat) (y z : Rt), i ≤ j → L[i]? = some y → L[j]? = some z → f z = true → f y = true) :
    Calls Try.prog 62 #[.int .i64 (n : Nat), .func (.func g) #[] cb] w fun e w' => e = .returned (.int .i64 (twN f L : Nat)) ∧ Ext w w' := by
  have HF : Hid _ := hf
  have HM : Hid _ := hm
  have HL : Hid _ := hl
  clear hf hm hl
  go_enter Try.func62, Try.ntmps62
  go_wp2_with fail
  go_loopg [5, 6] n (fun kx s5 s6 wr => ∃ lo hi : Nat, s5 = .int .i64 lo ∧ s6 = .int .i64 hi ∧ lo ≤ hi ∧ hi ≤ n ∧ hi - lo ≤ kx ∧ Ext w wr ∧ Hid (LoHi L f lo hi))
  case atStart => exact ⟨0, n, rfl, rfl, Nat.zero_le _, Nat.le_refl _, by omega, Ext.refl _, LoHi.start L f n HL.out⟩
  case round =>
    obtain ⟨lo, hi, rfl, rfl, hlh, hin, hkx, hx, HI⟩ := hrel
    by_cases hlt : lo < hi
    · obtain ⟨x, hxk⟩ : ∃ x, L[(lo + hi) / 2]? = some x := ⟨_, List.getElem?_eq_getElem (by rw [HL.out]; omega)⟩
      have hc := HF.out wr hx _ x hxk
      rw [show (((lo + hi) / 2 : Nat) : Int) = ((lo : Int) + (hi : Int)) / 2 by omega] at hc
      have HX : Hid _ := hxk
      have hii : (lo : Int) < (hi : Int) := by omega
      have hhn : (hi : Int) ≤ (n : Int) := by omega
      clear hxk
      cases hz : f x with
      | true =>
        rw [hz] at hc
        have HZ : Hid _ := hz
        clear hz
        go_wp2_with (go_at_fn g; refine hc.mono ?_; rintro e w1 ⟨rfl, hx1⟩)
        go_roundg (hi - ((lo + hi) / 2 + 1))
        case measure => omega
        case rel => exact ⟨(lo + hi) / 2 + 1, hi, by rw [show ((lo : Int) + (hi : Int)) / 2 + 1 = (((lo + hi) / 2 + 1 : Nat) : Int) by omega], rfl, by omega, hin, Nat.le_refl _, hx.trans hx1, HI.out.up HM.out HX.out HZ.out⟩
      | false =>
        rw [hz] at hc
        have HZ : Hid _ := hz
        clear hz
        go_wp2_with (go_at_fn g; refine hc.mono ?_; rintro e w1 ⟨rfl, hx1⟩)
        go_roundg ((lo + hi) / 2 - lo)
        case measure => omega
        case rel => exact ⟨lo, (lo + hi) / 2, rfl, by rw [show ((lo : Int) + (hi : Int)) / 2 = (((lo + hi) / 2 : Nat) : Int) by omega], by omega, by omega, Nat.le_refl _, hx.trans hx1, HI.out.down HX.out HZ.out⟩
    · obtain rfl : hi = lo := by omega
      have HP : Hid (twN f L = hi) := HI.out.stop (by rw [HL.out]; exact hin)
      go_wp2_with fail
      go_ret
      rw [HP.out]
      exact ⟨rfl, hx⟩

/-- Sides that rise. -/
def MonoP (sd : Rt → Int) (L : List Rt) : Prop := L.Pairwise fun x y => (sd y < 0 → sd x < 0) ∧ (sd y ≤ 0 → sd x ≤ 0)

theorem MonoP.at {sd : Rt → Int} {L : List Rt} (h : MonoP sd L) {i j : Nat} {y z : Rt} (hij : i ≤ j) (hy : L[i]? = some y) (hz : L[j]? = some z) : (sd z < 0 → sd y < 0) ∧ (sd z ≤ 0 → sd y ≤ 0) := by
  rcases Nat.lt_or_ge i j with hlt | hge
  · obtain ⟨hi, rfl⟩ := List.getElem?_eq_some_iff.1 hy
    obtain ⟨hj, rfl⟩ := List.getElem?_eq_some_iff.1 hz
    exact List.pairwise_iff_getElem.1 h i j hi hj hlt
  · obtain rfl : i = j := by omega
    rw [hy] at hz; cases hz; exact ⟨id, id⟩

theorem seg_zero (sd : Rt → Int) : ∀ L : List Rt, MonoP sd L → (∀ x ∈ L, 0 ≤ sd x) → L.take (twN (fun x => decide (sd x ≤ 0)) L) = L.filter (fun x => decide (sd x = 0))
  | [], _, _ => rfl
  | x :: L, h, h0 => by
    obtain ⟨h1, h2⟩ := List.pairwise_cons.1 h
    have hx := h0 x (by simp)
    unfold twN
    by_cases e : sd x ≤ 0
    · have e0 : sd x = 0 := by omega
      simp only [e, decide_true, if_true, List.take_succ_cons]
      rw [List.filter_cons_of_pos (by simpa using e0), seg_zero sd L h2 fun y hy => h0 y (by simp [hy])]
    · have e1 : decide (sd x ≤ 0) = false := by simpa using e
      simp only [e1, Bool.false_eq_true, if_false, List.take_zero]
      symm
      rw [List.filter_eq_nil_iff]
      intro y hy hd
      have hd : sd y = 0 := by simpa using hd
      rcases List.mem_cons.1 hy with rfl | hy
      · omega
      · have := (h1 y hy).2 (by omega)
        omega

theorem seg_filter (sd : Rt → Int) : ∀ L : List Rt, MonoP sd L → twN (fun x => decide (sd x < 0)) L ≤ twN (fun x => decide (sd x ≤ 0)) L ∧
    (L.drop (twN (fun x => decide (sd x < 0)) L)).take (twN (fun x => decide (sd x ≤ 0)) L - twN (fun x => decide (sd x < 0)) L) = L.filter (fun x => decide (sd x = 0))
  | [], _ => ⟨Nat.le_refl _, rfl⟩
  | x :: L, h => by
    obtain ⟨h1, h2⟩ := List.pairwise_cons.1 h
    by_cases e : sd x < 0
    · obtain ⟨ih1, ih2⟩ := seg_filter sd L h2
      have a1 : twN (fun x => decide (sd x < 0)) (x :: L) = twN (fun x => decide (sd x < 0)) L + 1 := by
        conv => lhs; unfold twN
        simp [e]
      have a2 : twN (fun x => decide (sd x ≤ 0)) (x :: L) = twN (fun x => decide (sd x ≤ 0)) L + 1 := by
        conv => lhs; unfold twN
        simp [show sd x ≤ 0 by omega]
      rw [a1, a2]
      refine ⟨by omega, ?_⟩
      rw [List.drop_succ_cons, Nat.add_sub_add_right, ih2, List.filter_cons_of_neg (by simp; omega)]
    · have a1 : twN (fun x => decide (sd x < 0)) (x :: L) = 0 := by
        unfold twN
        simp [e]
      rw [a1]
      refine ⟨Nat.zero_le _, ?_⟩
      rw [List.drop_zero, Nat.sub_zero]
      refine seg_zero sd (x :: L) h fun y hy => ?_
      rcases List.mem_cons.1 hy with rfl | hy
      · omega
      · have := (h1 y hy).1
        omega

theorem enters_1 (args : Array Value) (w : World) : (callFunc 63 args).run Try.prog w = .ok (.enter 63 args) w := enters_of Try.func63 (by kernel_rfl) rfl args w

theorem enters_2 (args : Array Value) (w : World) : (callFunc 64 args).run Try.prog w = .ok (.enter 64 args) w := enters_of Try.func64 (by kernel_rfl) rfl args w

theorem enters_t (args : Array Value) (w : World) : (callFunc 50 args).run Try.prog w = .ok (.enter 50 args) w := enters_of Try.func50 (by kernel_rfl) rfl args w

theorem enters_p (args : Array Value) (w : World) : (callFunc 48 args).run Try.prog w = .ok (.enter 48 args) w := enters_of Try.func48 (by kernel_rfl) rfl args w

set_option maxHeartbeats 1000000 in
theorem side_ge (g : Nat) (cb : Array Value) (p : Option Addr) (n c : Nat) (L : List Rt) (sb wb i : Nat) (x : Rt) (z : Int) (w : World) (eg : ∀ args w, (callFunc g args).run Try.prog w = .ok (.enter g args) w)
    (hs : ∀ w', Ext w w' → w'.cell? ⟨sb, 0, none⟩ = some (.func (.func g) #[] cb)) (hw : ∀ w', Ext w w' → w'.cell? ⟨wb, 0, none⟩ = some (.slice p n c)) (hR : Rd w p n c L) (hx : L[i]? = some x)
    (hf : ∀ w', Ext w w' → Calls Try.prog g (#[(.agg #[.int .i64 x.t, .int .u32 x.a, .int .i64 x.l, .int .i64 x.i, .int .u32 x.g, .int .i64 x.m])] ++ cb) w' fun e w2 => e = .returned (.int .i64 z) ∧ Ext w' w2) :
    Calls Try.prog 63 (#[.int .i64 (i : Nat)] ++ #[.pointer (some ⟨sb, 0, none⟩), .pointer (some ⟨wb, 0, none⟩)]) w fun e w' => e = .returned (.bool (decide (0 ≤ z))) ∧ Ext w w' := by
  obtain ⟨b, off, rfl, hb, g0, g1, g2, g3, g4, g5⟩ := hR.cell hx
  have hlt : i < n := by
    have := hR.len
    have := (List.getElem?_eq_some_iff.1 hx).1
    omega
  have hd : Ext w w.drew := (Ext.refl w).drew
  have s0 := fun w' h => hs w' (hd.trans h)
  have s1 := fun w' h => hw w' (hd.trans h)
  have x0 : ∀ w', Ext w.drew w' → w'.cell? ⟨b, off + i * 6, none⟩ = some (.int .i64 x.t) := fun w' h => by rw [(hd.trans h).below.cell (p := ⟨b, off + i * 6, none⟩) hb]; exact g0
  have x1 : ∀ w', Ext w.drew w' → w'.cell? ⟨b, off + i * 6 + 1, none⟩ = some (.int .u32 x.a) := fun w' h => by rw [(hd.trans h).below.cell (p := ⟨b, off + i * 6 + 1, none⟩) hb]; exact g1
  have x2 : ∀ w', Ext w.drew w' → w'.cell? ⟨b, off + i * 6 + 2, none⟩ = some (.int .i64 x.l) := fun w' h => by rw [(hd.trans h).below.cell (p := ⟨b, off + i * 6 + 2, none⟩) hb]; exact g2
  have x3 : ∀ w', Ext w.drew w' → w'.cell? ⟨b, off + i * 6 + 3, none⟩ = some (.int .i64 x.i) := fun w' h => by rw [(hd.trans h).below.cell (p := ⟨b, off + i * 6 + 3, none⟩) hb]; exact g3
  have x4 : ∀ w', Ext w.drew w' → w'.cell? ⟨b, off + i * 6 + 4, none⟩ = some (.int .u32 x.g) := fun w' h => by rw [(hd.trans h).below.cell (p := ⟨b, off + i * 6 + 4, none⟩) hb]; exact g4
  have x5 : ∀ w', Ext w.drew w' → w'.cell? ⟨b, off + i * 6 + 5, none⟩ = some (.int .i64 x.m) := fun w' h => by rw [(hd.trans h).below.cell (p := ⟨b, off + i * 6 + 5, none⟩) hb]; exact g5
  clear g0 g1 g2 g3 g4 g5 hx hR hs hw
  have hki : (i : Int) < (n : Int) := by omega
  have hc := hf w.drew hd
  clear hf
  go_enter Try.func63, Try.ntmps63
  go_wp2_with fail
  refine wp_region_eager [(0, false), (1, false), (2, false), (3, false), (4, false), (5, true), (6, false), (7, false)] (by kernel_rfl) (by kernel_rfl) rfl (by kernel_rfl) (fun _ _ _ _ _ h => h) ?_
  generalize w.drew = W at *
  iterate 5 (refine wpE_read (v := ?_) rfl (by rfl) ?_ ?_; rotate_left; (focus (intro w' hx; go_simp; first | done | with_reducible rfl)); simp only [Act.put, List.setIfInBounds_toArray, List.set_cons_zero, List.set_cons_succ])
  refine wpE_call rfl (by rfl) (fun K hK => ?_)
  go_simp
  go_at_fn g
  refine hc.mono ?_
  rintro e w1 ⟨rfl, hx1⟩
  refine hK _ _ hx1 ?_
  clear hK K
  iterate 2 (refine wpE_read (v := ?_) rfl (by rfl) ?_ ?_; rotate_left; (focus (intro w' hx; go_simp; first | done | with_reducible rfl)); simp only [Act.put, List.setIfInBounds_toArray, List.set_cons_zero, List.set_cons_succ])
  refine wpE_done ?_
  go_wp2_with fail
  go_ret
  exact ⟨rfl, hd.trans hx1⟩

set_option maxHeartbeats 1000000 in
theorem side_gt (g : Nat) (cb : Array Value) (p : Option Addr) (n c : Nat) (L : List Rt) (sb wb i : Nat) (x : Rt) (z : Int) (w : World) (eg : ∀ args w, (callFunc g args).run Try.prog w = .ok (.enter g args) w)
    (hs : ∀ w', Ext w w' → w'.cell? ⟨sb, 0, none⟩ = some (.func (.func g) #[] cb)) (hw : ∀ w', Ext w w' → w'.cell? ⟨wb, 0, none⟩ = some (.slice p n c)) (hR : Rd w p n c L) (hx : L[i]? = some x)
    (hf : ∀ w', Ext w w' → Calls Try.prog g (#[(.agg #[.int .i64 x.t, .int .u32 x.a, .int .i64 x.l, .int .i64 x.i, .int .u32 x.g, .int .i64 x.m])] ++ cb) w' fun e w2 => e = .returned (.int .i64 z) ∧ Ext w' w2) :
    Calls Try.prog 64 (#[.int .i64 (i : Nat)] ++ #[.pointer (some ⟨sb, 0, none⟩), .pointer (some ⟨wb, 0, none⟩)]) w fun e w' => e = .returned (.bool (decide (0 < z))) ∧ Ext w w' := by
  obtain ⟨b, off, rfl, hb, g0, g1, g2, g3, g4, g5⟩ := hR.cell hx
  have hlt : i < n := by
    have := hR.len
    have := (List.getElem?_eq_some_iff.1 hx).1
    omega
  have hd : Ext w w.drew := (Ext.refl w).drew
  have s0 := fun w' h => hs w' (hd.trans h)
  have s1 := fun w' h => hw w' (hd.trans h)
  have x0 : ∀ w', Ext w.drew w' → w'.cell? ⟨b, off + i * 6, none⟩ = some (.int .i64 x.t) := fun w' h => by rw [(hd.trans h).below.cell (p := ⟨b, off + i * 6, none⟩) hb]; exact g0
  have x1 : ∀ w', Ext w.drew w' → w'.cell? ⟨b, off + i * 6 + 1, none⟩ = some (.int .u32 x.a) := fun w' h => by rw [(hd.trans h).below.cell (p := ⟨b, off + i * 6 + 1, none⟩) hb]; exact g1
  have x2 : ∀ w', Ext w.drew w' → w'.cell? ⟨b, off + i * 6 + 2, none⟩ = some (.int .i64 x.l) := fun w' h => by rw [(hd.trans h).below.cell (p := ⟨b, off + i * 6 + 2, none⟩) hb]; exact g2
  have x3 : ∀ w', Ext w.drew w' → w'.cell? ⟨b, off + i * 6 + 3, none⟩ = some (.int .i64 x.i) := fun w' h => by rw [(hd.trans h).below.cell (p := ⟨b, off + i * 6 + 3, none⟩) hb]; exact g3
  have x4 : ∀ w', Ext w.drew w' → w'.cell? ⟨b, off + i * 6 + 4, none⟩ = some (.int .u32 x.g) := fun w' h => by rw [(hd.trans h).below.cell (p := ⟨b, off + i * 6 + 4, none⟩) hb]; exact g4
  have x5 : ∀ w', Ext w.drew w' → w'.cell? ⟨b, off + i * 6 + 5, none⟩ = some (.int .i64 x.m) := fun w' h => by rw [(hd.trans h).below.cell (p := ⟨b, off + i * 6 + 5, none⟩) hb]; exact g5
  clear g0 g1 g2 g3 g4 g5 hx hR hs hw
  have hki : (i : Int) < (n : Int) := by omega
  have hc := hf w.drew hd
  clear hf
  go_enter Try.func64, Try.ntmps64
  go_wp2_with fail
  refine wp_region_eager [(0, false), (1, false), (2, false), (3, false), (4, false), (5, true), (6, false), (7, false)] (by kernel_rfl) (by kernel_rfl) rfl (by kernel_rfl) (fun _ _ _ _ _ h => h) ?_
  generalize w.drew = W at *
  iterate 5 (refine wpE_read (v := ?_) rfl (by rfl) ?_ ?_; rotate_left; (focus (intro w' hx; go_simp; first | done | with_reducible rfl)); simp only [Act.put, List.setIfInBounds_toArray, List.set_cons_zero, List.set_cons_succ])
  refine wpE_call rfl (by rfl) (fun K hK => ?_)
  go_simp
  go_at_fn g
  refine hc.mono ?_
  rintro e w1 ⟨rfl, hx1⟩
  refine hK _ _ hx1 ?_
  clear hK K
  iterate 2 (refine wpE_read (v := ?_) rfl (by rfl) ?_ ?_; rotate_left; (focus (intro w' hx; go_simp; first | done | with_reducible rfl)); simp only [Act.put, List.setIfInBounds_toArray, List.set_cons_zero, List.set_cons_succ])
  refine wpE_done ?_
  go_wp2_with fail
  go_ret
  exact ⟨rfl, hd.trans hx1⟩

/-- Part of a row. -/
def PartAns (w0 w : World) (M : List Rt) (e : Ending) (w' : World) : Prop := ∃ p n c, e = .returned (.slice p n c) ∧ n ≤ c ∧ Rd w0 p n c M ∧ Ext w w'

theorem box1E {w : World} {b : Nat} {v0 : Value} {t : TypeId} (h : w.heap[b]? = some (.cells #[v0] t (0, 0))) : ∀ w', Ext w w' → w'.cell? ⟨b, 0, none⟩ = some v0 := fun w' hx => by
  rw [heap_cell (hx.heap h)]; rfl

set_option maxHeartbeats 1000000 in
theorem part_any (g : Nat) (cb : Array Value) (p : Option Addr) (n c : Nat) (L : List Rt) (sd : Rt → Int) (w0 w : World) (eg : ∀ args w, (callFunc g args).run Try.prog w = .ok (.enter g args) w) (hR0 : Rd w0 p n c L) (h00 : Ext w0 w) (hc : n ≤ c) (hn : n ≤ 1000000) (hm : MonoP sd L)
    (hf : ∀ w', Ext w w' → ∀ x : Rt, Calls Try.prog g (#[(.agg #[.int .i64 x.t, .int .u32 x.a, .int .i64 x.l, .int .i64 x.i, .int .u32 x.g, .int .i64 x.m])] ++ cb) w' fun e w2 => e = .returned (.int .i64 (sd x)) ∧ Ext w' w2) :
    Calls Try.prog 47 #[.slice p n c, .func (.func g) #[] cb] w (PartAns w0 w (L.filter fun x => decide (sd x = 0))) := by
  have hR := hR0.ext h00
  have HR0 : Hid (Rd w0 p n c L) := hR0
  clear hR0 h00
  have hA : Ext w ((w.alloc (.cells #[.slice p n c] 33)).alloc (.cells #[.func (.func g) #[] cb] 57)) := ((Ext.refl w).alloc _).alloc _
  have hB1 : ((w.alloc (.cells #[.slice p n c] 33)).alloc (.cells #[.func (.func g) #[] cb] 57)).heap[w.heap.size]? = some (.cells #[.slice p n c] 33 (0, 0)) :=
    (Below.heap_alloc (w.alloc (.cells #[.slice p n c] 33)) _ w.heap.size (by simp)).trans (heap_new w _)
  have hB2 : ((w.alloc (.cells #[.slice p n c] 33)).alloc (.cells #[.func (.func g) #[] cb] 57)).heap[w.heap.size + 1]? = some (.cells #[.func (.func g) #[] cb] 57 (0, 0)) := by
    have := heap_new (w.alloc (.cells #[.slice p n c] 33)) (.cells #[.func (.func g) #[] cb] 57)
    rwa [show (w.alloc (.cells #[.slice p n c] 33)).heap.size = w.heap.size + 1 by simp] at this
  have b1 := box1E hB1
  have b2 := box1E hB2
  have hl := hR.len
  obtain ⟨f1, f2⟩ := seg_filter sd L hm
  have hto : twN (fun x => decide (sd x ≤ 0)) L ≤ n := by rw [← hl]; exact twN_le _ _
  have q1 := b1 _ (Ext.refl _)
  generalize hW0 : ((w.alloc (.cells #[.slice p n c] 33)).alloc (.cells #[.func (.func g) #[] cb] 57)) = W0 at hA hB1 hB2 b1 b2
  have k1 := fun w' (hx : Ext W0 w') => search_any 63 #[.pointer (some ⟨w.heap.size + 1, 0, none⟩), .pointer (some ⟨w.heap.size, 0, none⟩)] n L (fun x => decide (sd x < 0)) w' enters_1 hl hn
    (fun w2 hx2 i x hi => (side_ge g cb p n c L (w.heap.size + 1) w.heap.size i x (sd x) w2 eg (fun w3 h3 => b2 w3 (hx.trans (hx2.trans h3))) (fun w3 h3 => b1 w3 (hx.trans (hx2.trans h3))) (hR.ext (hA.trans (hx.trans hx2))) hi (fun w3 h3 => hf w3 (hA.trans (hx.trans (hx2.trans h3))) x)).mono fun e w3 ⟨he, h3⟩ => ⟨by
      rw [he]
      congr 2
      by_cases h : sd x < 0
      · simp [h]
      · simp [h, show 0 ≤ sd x by omega], h3⟩)
    (fun i j y z hij hy hz h => by have := (hm.at hij hy hz).1; simp only [decide_eq_true_eq] at h ⊢; exact this h)
  have k2 := fun w' (hx : Ext W0 w') => search_any 64 #[.pointer (some ⟨w.heap.size + 1, 0, none⟩), .pointer (some ⟨w.heap.size, 0, none⟩)] n L (fun x => decide (sd x ≤ 0)) w' enters_2 hl hn
    (fun w2 hx2 i x hi => (side_gt g cb p n c L (w.heap.size + 1) w.heap.size i x (sd x) w2 eg (fun w3 h3 => b2 w3 (hx.trans (hx2.trans h3))) (fun w3 h3 => b1 w3 (hx.trans (hx2.trans h3))) (hR.ext (hA.trans (hx.trans hx2))) hi (fun w3 h3 => hf w3 (hA.trans (hx.trans (hx2.trans h3))) x)).mono fun e w3 ⟨he, h3⟩ => ⟨by
      rw [he]
      congr 2
      by_cases h : sd x ≤ 0
      · simp [h]
      · simp [h, show 0 < sd x by omega], h3⟩)
    (fun i j y z hij hy hz h => by have := (hm.at hij hy hz).2; simp only [decide_eq_true_eq] at h ⊢; exact this h)
  generalize twN (fun x => decide (sd x < 0)) L = lo at *
  generalize twN (fun x => decide (sd x ≤ 0)) L = hi at *
  have HF : Hid _ := f2
  have hsl := fun w => cut_lh p n c lo hi f1 hto hc w
  generalize hp' : (if c = lo then p else p.map (·.add (lo * 6))) = p' at hsl
  have HP : Hid _ := hp'
  have hmf : ∀ (fn : Fn) (first cap : Array Value) (w : World), (Instr.makeFunc fn first cap).run Try.prog w = .ok (.func fn first cap) w := fun _ _ _ _ => rfl
  clear hf hm hR hB1 hB2 hl f2 hp' b2
  subst hW0
  have hll : (lo : Int) ≤ (hi : Int) := by omega
  have hhc : (hi : Int) ≤ (c : Int) := by omega
  go_enter Try.func47, Try.ntmps47
  go_wp2_with (first
    | (go_at_call 62; refine (k1 _ (Ext.refl _)).mono ?_; rintro e w1 ⟨rfl, hx1⟩; clear k1; have r1 := b1 _ hx1)
    | (go_at_call 62; refine (k2 _ hx1).mono ?_; rintro e w2 ⟨rfl, hx2⟩; clear k2; have r2 := b1 _ (hx1.trans hx2)))
  go_ret
  have hE := hA.trans (hx1.trans hx2)
  have hcut := HR0.out.cut f1 hto hc
  rw [HF.out, HP.out] at hcut
  exact ⟨_, _, _, rfl, by omega, hcut, hE⟩
end Go.Proofs.Ytbchfmadmcppkaa.Rb
