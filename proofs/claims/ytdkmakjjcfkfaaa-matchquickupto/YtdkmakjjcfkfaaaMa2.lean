/- Package match: inTable, meant, Side, port. -/
import Derived.Test.YtdkmakjjcfkfaaaMa1
namespace Go.Proofs.Ytdkmakjjcfkfaaa.Ma
open Go.RowKit Go.Proofs.Ytdkmakjjcfkfaaa Go.Proofs.Ytdkmakjjcfkfaaa.Ru
set_option linter.unusedVariables false
set_option linter.unusedSimpArgs false
set_option maxRecDepth 100000

theorem enters_n (args : Array Value) (w : World) : (callFunc 27 args).run Try.prog w = .ok (.enter 27 args) w := enters_of Try.func27 (by kernel_rfl) rfl args w

theorem enters_h (args : Array Value) (w : World) : (callFunc 29 args).run Try.prog w = .ok (.enter 29 args) w := enters_of Try.func29 (by kernel_rfl) rfl args w

theorem heap_two (w : World) (o o' : Obj) : ((w.alloc o).alloc o').heap[w.heap.size]? = some o ∧ ((w.alloc o).alloc o').heap[w.heap.size + 1]? = some o' :=
  ⟨(Below.heap_alloc (w.alloc o) _ w.heap.size (by simp)).trans (heap_new w _), by
    have := heap_new (w.alloc o) o'
    rwa [show (w.alloc o).heap.size = w.heap.size + 1 by simp] at this⟩

theorem pxAt {L : List PX} (h : PxOk L) {x : PX} (hx : x ∈ L) : 0 ≤ x.1 ∧ x.1 ≤ 4294967295 := h x hx

set_option maxHeartbeats 1000000 in
theorem inTable_any (name : ByteArray) (p : Option Addr) (n c : Nat) (T : List NmV) (a : Int) (w : World) (hR : RdN w p n T) (a0 : 0 ≤ a) (a1 : a ≤ 4294967295) :
    Calls Try.prog 23 #[.string name, .slice p n c, .int .u32 a] w fun e w' => e = .returned (.bool (inT T name a)) ∧ Ext w w' := by
  obtain ⟨W, hW⟩ : ∃ W, (w.alloc (.cells #[.string name] 9)).alloc (.cells #[.int .u32 a] 24) = W := ⟨_, rfl⟩
  have hx0 : Ext w W := hW ▸ ((Ext.refl w).alloc _).alloc _
  have h12 := heap_two w (.cells #[.string name] 9) (.cells #[.int .u32 a] 24)
  rw [hW] at h12
  have hn : ∀ w', Ext W w' → w'.cell? ⟨w.heap.size, 0, none⟩ = some (.string name) := fun w' h => heap_cell (h.heap h12.1)
  have ha : ∀ w', Ext W w' → w'.cell? ⟨w.heap.size + 1, 0, none⟩ = some (.int .u32 a) := fun w' h => heap_cell (h.heap h12.2)
  have ci := indexN 27 #[.pointer (some ⟨w.heap.size, 0, none⟩)] p n c T (isT name) W enters_n (hR.row.ext hx0) hR.le (fun w' hx x _ => nameFn_any x _ name w' (fun w2 h2 => hn _ (hx.trans h2)))
  have HR : Hid _ := hR.ext hx0
  have HA : Hid _ := ha
  obtain ⟨y, hy⟩ : ∃ y, inT T name a = y := ⟨_, rfl⟩
  rw [hy]
  have HY : Hid _ := hy
  clear h12 hn ha hR hy
  go_enter Try.func23, Try.ntmps23
  go_wp2_with fail
  go_at_call 26
  refine ci.mono ?_
  rintro e w1 ⟨z, rfl, hz, hx1⟩
  rcases hz with ⟨k, x, rfl, hk, hf⟩ | ⟨rfl, hf⟩
  · have e1 : y = anyV x.L a := by have := HY.out; unfold inT at this; rw [hf] at this; exact this.symm
    have hkn : k < n := by rw [← HR.out.row.len]; exact (List.getElem?_eq_some_iff.1 hk).1
    obtain ⟨b, off, rfl, hb, hg⟩ := (HR.out.ext hx1).row.get hk
    have g1 := range_cell hg 1 (.slice x.a x.n x.c) rfl _ (Ext.refl w1)
    obtain ⟨hP, hP1, hP2⟩ := (HR.out.ext hx1).in_ x (List.mem_of_getElem? hk)
    have cc := containsP 29 #[.pointer (some ⟨w.heap.size + 1, 0, none⟩)] x.a x.n x.c x.L (fun q => hasV q.1 q.2 a) w1 enters_h hP hP1 (fun w' hx q hq => hasFn_any q _ a w' (fun w2 h2 => HA.out _ (hx1.trans (hx.trans h2))) (hP2 q hq).1 (hP2 q hq).2 a0 a1)
    rw [show x.L.any (fun q => hasV q.1 q.2 a) = y from e1.symm] at cc
    have hk0 : (0 : Int) ≤ (k : Int) := by omega
    have hki : (k : Int) < (n : Int) := by omega
    clear hk hf e1 hP hP1 hP2 hb hg ci
    go_wp2_with (go_at_call 28; refine cc.mono ?_; rintro e w2 ⟨rfl, hx2⟩)
    go_ret
    exact ⟨rfl, hx0.trans (hx1.trans hx2)⟩
  · have e1 : y = false := by have := HY.out; unfold inT at this; rw [hf] at this; exact this.symm
    subst e1
    clear hf ci
    go_wp2_with fail
    go_ret
    exact ⟨rfl, hx0.trans hx1⟩

set_option maxHeartbeats 1000000 in
theorem meant_any (s : SideV) (p : Option Addr) (n c : Nat) (T : List NmV) (a : Int) (w : World) (hR : RdN w p n T) (s0 : 0 ≤ s.a) (s1 : s.a ≤ 4294967295) (a0 : 0 ≤ a) (a1 : a ≤ 4294967295) :
    Calls Try.prog 20 #[.agg (sideL s).toArray, .slice p n c, .int .u32 a] w fun e w' => e = .returned (.bool (meantV s T a)) ∧ Ext w w' := by
  obtain ⟨any, tab, sa, sn, lo, hi⟩ := s
  show Calls Try.prog 20 #[.agg #[.bool any, .string tab, .int .u32 sa, .int .i64 sn, .int .i64 lo, .int .i64 hi], .slice p n c, .int .u32 a] w fun e w' => e = .returned (.bool (any || if tab.toList == [] then hasV sa sn a else inT T tab a)) ∧ Ext w w'
  dsimp only at s0 s1
  obtain ⟨W, hW⟩ : ∃ W, w.alloc (.cells #[.bool any, .string tab, .int .u32 sa, .int .i64 sn, .int .i64 lo, .int .i64 hi] 36) = W := ⟨_, rfl⟩
  have hx0 : Ext w W := hW ▸ (Ext.refl w).alloc _
  have hb : W.heap[w.heap.size]? = some (.cells #[.bool any, .string tab, .int .u32 sa, .int .i64 sn, .int .i64 lo, .int .i64 hi] 36 (0, 0)) := hW ▸ heap_new w _
  have y0 : W.cell? ⟨w.heap.size, 0, none⟩ = some (.bool any) := heap_cell hb
  have y1 : W.cell? ⟨w.heap.size, 1, none⟩ = some (.string tab) := heap_cell hb
  have y2 : W.cell? ⟨w.heap.size, 2, none⟩ = some (.int .u32 sa) := heap_cell hb
  have y3 : W.cell? ⟨w.heap.size, 3, none⟩ = some (.int .i64 sn) := heap_cell hb
  have ci := inTable_any tab p n c T a W (hR.ext hx0) a0 a1
  have ch := fun w => has_any sa sn a w s0 s1 a0 a1
  generalize inT T tab a = yi at *
  generalize hasV sa sn a = yh at *
  generalize hz : (tab.toList == []) = z at *
  clear hb hR
  cases any with
  | true =>
    rw [Bool.true_or]
    go_enter Try.func20, Try.ntmps20
    go_wp2
    go_ret
    exact ⟨rfl, hx0⟩
  | false =>
    cases z with
    | true =>
      rw [show (false || if true = true then yh else yi) = yh from rfl]
      go_enter Try.func20, Try.ntmps20
      go_wp2_with (go_at_call 24; refine (ch _).mono ?_; rintro e w1 ⟨rfl, hx1⟩)
      go_ret
      exact ⟨rfl, hx0.trans hx1⟩
    | false =>
      rw [show (false || if false = true then yh else yi) = yi from rfl]
      go_enter Try.func20, Try.ntmps20
      go_wp2_with (go_at_call 23; refine ci.mono ?_; rintro e w1 ⟨rfl, hx1⟩)
      go_ret
      exact ⟨rfl, hx0.trans hx1⟩

set_option maxHeartbeats 1000000 in
theorem side_any (s : SideV) (p : Option Addr) (n c : Nat) (T : List NmV) (a port : Int) (w : World) (hR : RdN w p n T) (s0 : 0 ≤ s.a) (s1 : s.a ≤ 4294967295) (a0 : 0 ≤ a) (a1 : a ≤ 4294967295) :
    Calls Try.prog 14 #[.agg (sideL s).toArray, .slice p n c, .int .u32 a, .int .i64 port] w fun e w' => e = .returned (.bool (sideV s T a port)) ∧ Ext w w' := by
  have cm := fun w h => meant_any s p n c T a w h s0 s1 a0 a1
  unfold sideV
  generalize meantV s T a = ym at *
  obtain ⟨any, tab, sa, sn, lo, hi⟩ := s
  dsimp only at *
  obtain ⟨W, hW⟩ : ∃ W, w.alloc (.cells (sideL ⟨any, tab, sa, sn, lo, hi⟩).toArray 36) = W := ⟨_, rfl⟩
  have hx0 : Ext w W := hW ▸ (Ext.refl w).alloc _
  have hb : W.heap[w.heap.size]? = some (.cells (sideL ⟨any, tab, sa, sn, lo, hi⟩).toArray 36 (0, 0)) := hW ▸ heap_new w _
  have y4 : W.cell? ⟨w.heap.size, 4, none⟩ = some (.int .i64 lo) := heap_cell hb
  have y5 : W.cell? ⟨w.heap.size, 5, none⟩ = some (.int .i64 hi) := heap_cell hb
  have hr := range_box hb W (Ext.refl W)
  replace cm := cm W (hR.ext hx0)
  have hl := sideL_len ⟨any, tab, sa, sn, lo, hi⟩
  generalize sideL ⟨any, tab, sa, sn, lo, hi⟩ = cs at *
  clear hb hR
  by_cases h1 : lo ≤ port
  · by_cases h2 : port ≤ hi
    · rw [decide_eq_true h1, decide_eq_true h2]
      go_enter Try.func14, Try.ntmps14
      go_wp2_with (first
        | (refine wpl_range (by rfl) 36 _ rfl w.heap.size 0 _ _ rfl hr Try.underlying36 rfl (by rw [hl]; exact side_size) ?_)
        | (go_at_call 20; refine cm.mono ?_; rintro e w1 ⟨rfl, hx1⟩))
      go_ret
      exact ⟨by simp, hx0.trans hx1⟩
    · rw [decide_eq_true h1, decide_eq_false h2]
      go_enter Try.func14, Try.ntmps14
      go_wp2
      go_ret
      exact ⟨rfl, hx0⟩
  · rw [decide_eq_false h1]
    go_enter Try.func14, Try.ntmps14
    go_wp2
    go_ret
    exact ⟨rfl, hx0⟩
end Go.Proofs.Ytdkmakjjcfkfaaa.Ma
