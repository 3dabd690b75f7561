/- Package trie's ways down: next, top, first, longest. -/
import Derived.Test.YtgcnnblngmomhaaTree1
namespace Go.Proofs.Ytgcnnblngmomhaa.Tri
open Go.RowKit Go.Proofs.Ytgcnnblngmomhaa
set_option linter.unusedVariables false

def covA (t : Sh) (p : PX) (a : Option Addr) : Option Addr := match t with
  | .nil => none
  | .node q _ _ _ _ => if cov q p = true then a else none
def covS (t : Sh) (p : PX) : Sh := match t with
  | .nil => .nil
  | .node q th u l r => if cov q p = true then .node q th u l r else .nil

theorem is_cov {w : World} {t : Sh} {a : Option Addr} (h : Is w t a) (p : PX) : Is w (covS t p) (covA t p a) := by
  cases t with
  | nil => exact rfl
  | node q th u l r =>
    simp only [covS, covA]
    split
    · exact h
    · exact rfl

theorem cov_wf {t : Sh} (h : WF t) (p : PX) : WF (covS t p) := by
  cases t with
  | nil => trivial
  | node q th u l r => simp only [covS]; split; exact h; trivial

theorem covS_covers (t : Sh) (p : PX) : coversS (covS t p) p = coversS t p := by
  cases t with
  | nil => rfl
  | node q th u l r =>
    simp only [covS]; split
    · rfl
    · rename_i h; simp [coversS, h]

theorem covS_twice (t : Sh) (p : PX) : covS (covS t p) p = covS t p := by
  cases t with
  | nil => rfl
  | node q th u l r => by_cases h : cov q p = true <;> simp [covS, h]

def szS : Sh → Nat
  | .nil => 0
  | .node _ _ _ l r => szS l + szS r + 1

theorem sz_cov (t : Sh) (p : PX) : szS (covS t p) ≤ szS t := by
  cases t with
  | nil => exact Nat.le_refl _
  | node q th u l r => simp only [covS]; split; exact Nat.le_refl _; exact Nat.zero_le _

theorem covering_any (t : Sh) (a : Option Addr) (c m : Int) (w : World) (h : Is w t a) (hw : WF t) (c0 : 0 ≤ c) (c1 : c ≤ 4294967295) :
    Calls Try.prog 54 #[.pointer a, .agg #[.int .u32 c, .int .i64 m]] w fun e w' => e = .returned (.pointer (covA t (c, m) a)) ∧ Ext w w' := by
  cases t with
  | nil =>
    obtain rfl : a = none := h
    exact covering_nil c m w
  | node q th u l r =>
    obtain ⟨b, pl, pr, rfl, hh, _, _⟩ := h
    have hb := hw.1.bd
    exact covering_node b q.1 q.2 c m _ _ _ _ w hb.1 hb.2.1 c0 c1 hh

theorem next_at (b : Nat) (a n c m i : Int) (v2 v3 : Value) (pl pr ka kb : Option Addr) (w : World) (n0 : 0 ≤ n) (n1 : n ≤ 32)
    (hi : i = 0 ∧ ka = pl ∨ i = 1 ∧ ka = pr) (hv : halfV c n = i)
    (hh : w.heap[b]? = some (.cells #[.int .u32 a, .int .i64 n, v2, v3, .pointer pl, .pointer pr] 68 (0, 0)))
    (kc : ∀ w', Ext w w' → Calls Try.prog 54 #[.pointer ka, .agg #[.int .u32 c, .int .i64 m]] w' fun e w2 => e = .returned (.pointer kb) ∧ Ext w' w2) :
    Calls Try.prog 41 #[.pointer (some ⟨b, 0, none⟩), .agg #[.int .u32 c, .int .i64 m]] w fun e w' => e = .returned (.pointer kb) ∧ Ext w w' := by
  have k1 := fun w => half_any c n w n0 n1
  rw [hv] at k1
  obtain ⟨hx0, hb0, hb1⟩ := boxed2 w (.int .u32 c) (.int .i64 m) 32
  obtain ⟨g0, g1, -, -, g4, g5⟩ := box_nodeE hh hx0
  clear hh hv
  rcases hi with ⟨rfl, rfl⟩ | ⟨rfl, rfl⟩
  all_goals (
    go_enter Try.func41, Try.ntmps41
    go_wp2
    refine wp_region_eager [(0, false), (1, false), (2, false), (3, false), (4, false), (5, false), (6, false), (7, false), (9, false), (10, false), (13, false), (8, true), (11, false), (12, false), (14, true), (15, false)] (by kernel_rfl) (by kernel_rfl) rfl (by kernel_rfl) (fun _ _ _ _ _ h => h) ?_
    generalize (w.alloc (.cells #[.int .u32 c, .int .i64 m] 32)).drew = W at *
    repeat (first
      | (refine wpE_read (v := ?_) rfl (by rfl) ?_ ?_; rotate_left; (focus (intro w' hx; go_simp; first | done | with_reducible rfl)); simp only [Act.put, List.setIfInBounds_toArray, List.set_cons_zero, List.set_cons_succ])
      | (refine wpE_call rfl (by rfl) (fun K hK => ?_); go_simp; first
          | (go_at_call 47; refine (k1 _).mono ?_; rintro e w1 ⟨rfl, rfl⟩; refine hK _ _ (Ext.refl _) ?_; clear hK K)
          | (go_at_call 54; refine (kc _ hx0).mono ?_; rintro e w2 ⟨rfl, hx2⟩; refine hK _ _ hx2 ?_; clear hK K)))
    refine wpE_done ?_
    go_wp2
    go_ret
    exact ⟨rfl, hx0.trans hx2⟩)

/-- Which kid is gone on with. -/
def kidS (p : PX) : Sh → Sh
  | .nil => .nil
  | .node q _ _ l r => if halfV p.1 q.2 = 0 then l else r

theorem next_any (b : Nat) (q : PX) (th : Bool) (u : Int) (l r : Sh) (pl pr : Option Addr) (c m : Int) (w : World) (hw : WF (.node q th u l r)) (c0 : 0 ≤ c) (c1 : c ≤ 4294967295)
    (hh : w.heap[b]? = some (ndO q th u pl pr)) (hl : Is w l pl) (hr : Is w r pr) :
    Calls Try.prog 41 #[.pointer (some ⟨b, 0, none⟩), .agg #[.int .u32 c, .int .i64 m]] w fun e w' => ∃ na, e = .returned (.pointer na) ∧ Is w' (covS (kidS (c, m) (.node q th u l r)) (c, m)) na ∧ Ext w w' := by
  have hb := hw.1.bd
  have wl := hw.2.2.2.2.1
  have wr := hw.2.2.2.2.2
  unfold kidS
  simp only
  split
  · rename_i h0
    refine (next_at b q.1 q.2 c m 0 _ _ pl pr pl _ w hb.2.2.1 hb.2.2.2 (.inl ⟨rfl, rfl⟩) h0 hh fun w' hx => covering_any l pl c m w' (hl.later hx) wl c0 c1).mono ?_
    rintro e w' ⟨rfl, hx⟩
    exact ⟨_, rfl, is_cov (hl.later hx) _, hx⟩
  · rename_i h0
    refine (next_at b q.1 q.2 c m 1 _ _ pl pr pr _ w hb.2.2.1 hb.2.2.2 (.inr ⟨rfl, rfl⟩) (not_half0 h0) hh fun w' hx => covering_any r pr c m w' (hr.later hx) wr c0 c1).mono ?_
    rintro e w' ⟨rfl, hx⟩
    exact ⟨_, rfl, is_cov (hr.later hx) _, hx⟩

theorem next_all (b : Nat) (q : PX) (th : Bool) (u : Int) (l r : Sh) (pl pr : Option Addr) (c m : Int) (w : World) (hw : WF (.node q th u l r)) (c0 : 0 ≤ c) (c1 : c ≤ 4294967295)
    (hh : w.heap[b]? = some (ndO q th u pl pr)) (hl : Is w l pl) (hr : Is w r pr) :
    Calls Try.prog 41 #[.pointer (some ⟨b, 0, none⟩), .agg #[.int .u32 c, .int .i64 m]] w fun e w' => ∃ na, e = .returned (.pointer na) ∧ (∀ w0, Is w0 l pl → Is w0 r pr → Is w0 (covS (kidS (c, m) (.node q th u l r)) (c, m)) na) ∧ Ext w w' := by
  have hb := hw.1.bd
  have wl := hw.2.2.2.2.1
  have wr := hw.2.2.2.2.2
  by_cases h0 : halfV c q.2 = 0
  · refine (next_at b q.1 q.2 c m 0 _ _ pl pr pl _ w hb.2.2.1 hb.2.2.2 (.inl ⟨rfl, rfl⟩) h0 hh fun w' hx => covering_any l pl c m w' (hl.later hx) wl c0 c1).mono ?_
    rintro e w' ⟨rfl, hx⟩
    exact ⟨_, rfl, fun w0 h1 _ => by simp only [kidS, if_pos h0]; exact is_cov h1 _, hx⟩
  · refine (next_at b q.1 q.2 c m 1 _ _ pl pr pr _ w hb.2.2.1 hb.2.2.2 (.inr ⟨rfl, rfl⟩) (not_half0 h0) hh fun w' hx => covering_any r pr c m w' (hr.later hx) wr c0 c1).mono ?_
    rintro e w' ⟨rfl, hx⟩
    exact ⟨_, rfl, fun w0 _ h1 => by simp only [kidS, if_neg h0]; exact is_cov h1 _, hx⟩

/-- A pointer to a Trie, nil or not, and its root. -/
def Top (w : World) (rv root : Option Addr) : Prop :=
  (rv = none ∧ root = none) ∨ ∃ tb, rv = some ⟨tb, 0, none⟩ ∧ w.heap[tb]? = some (.cells #[.pointer root] 62 (0, 0))

theorem Top.later {w w' : World} {rv root : Option Addr} (h : Top w rv root) (hx : Ext w w') : Top w' rv root := by
  rcases h with h | ⟨tb, h1, h2⟩
  · exact .inl h
  · exact .inr ⟨tb, h1, hx.heap h2⟩

theorem top_any (rv root : Option Addr) (w : World) (h : Top w rv root) : Calls Try.prog 43 #[.pointer rv] w fun e w' => e = .returned (.pointer root) ∧ w' = w := by
  rcases h with ⟨rfl, rfl⟩ | ⟨tb, rfl, hh⟩
  · go_enter Try.func43, Try.ntmps43
    go_wp2
    go_ret
    exact ⟨rfl, rfl⟩
  · have hc : w.cell? ⟨tb, 0, none⟩ = some (.pointer root) := by rw [heap_cell hh]; rfl
    clear hh
    go_enter Try.func43, Try.ntmps43
    go_wp2
    go_ret
    exact ⟨rfl, rfl⟩

theorem first_at (rv root na : Option Addr) (c m : Int) (w : World) (h : Top w rv root) (c0 : 0 ≤ c) (c1 : c ≤ 4294967295) (hv : isV c m = true)
    (kc : ∀ w', Ext w w' → Calls Try.prog 54 #[.pointer root, .agg #[.int .u32 c, .int .i64 m]] w' fun e w2 => e = .returned (.pointer na) ∧ Ext w' w2) :
    Calls Try.prog 40 #[.pointer rv, .agg #[.int .u32 c, .int .i64 m]] w fun e w' => e = .returned (.pointer na) ∧ Ext w w' := by
  have k1 := fun w => is_any c m w c0 c1
  rw [hv] at k1
  have k2 := fun w' (hx : Ext w w') => top_any rv root w' (h.later hx)
  have hA : Ext w (w.alloc (.cells #[.int .u32 c, .int .i64 m] 32)) := (Ext.refl w).alloc _
  obtain ⟨b0, b1⟩ := box2 (w := w.alloc (.cells #[.int .u32 c, .int .i64 m] 32)) (heap_new w _) (w.heap.size + 1) (by omega)
  have hb0 : ∀ w', Ext (w.alloc (.cells #[.int .u32 c, .int .i64 m] 32)) w' → w'.cell? ⟨w.heap.size, 0, none⟩ = some (.int .u32 c) := fun w' hx => b0 w' (hx.but _)
  have hb1 : ∀ w', Ext (w.alloc (.cells #[.int .u32 c, .int .i64 m] 32)) w' → w'.cell? ⟨w.heap.size, 1, none⟩ = some (.int .i64 m) := fun w' hx => b1 w' (hx.but _)
  clear b0 b1 hv
  go_enter Try.func40, Try.ntmps40
  go_wp2_with (go_at_call 35; refine (k1 _).mono ?_; rintro e w1 ⟨rfl, hx1⟩)
  generalize (w.alloc (.cells #[.int .u32 c, .int .i64 m] 32)) = W at *
  refine wp_region_eager [(0, false), (2, false), (1, true), (3, true), (4, false)] (by kernel_rfl) (by kernel_rfl) rfl (by kernel_rfl) (fun _ _ _ _ _ h => h) ?_
  have hx2 : Ext W w1.drew := hx1.drew
  replace hb0 := fun w' h => hb0 w' (hx2.trans h)
  replace hb1 := fun w' h => hb1 w' (hx2.trans h)
  have hx3 : Ext w w1.drew := hA.trans hx2
  generalize w1.drew = W1 at *
  repeat (first
    | (refine wpE_read (v := ?_) rfl (by rfl) ?_ ?_; rotate_left; (focus (intro w' hx; go_simp; first | done | with_reducible rfl)); simp only [Act.put, List.setIfInBounds_toArray, List.set_cons_zero, List.set_cons_succ])
    | (refine wpE_call rfl (by rfl) (fun K hK => ?_); go_simp; first
        | (go_at_call 43; refine (k2 _ hx3).mono ?_; rintro e w3 ⟨rfl, rfl⟩; refine hK _ _ (Ext.refl _) ?_; clear hK K)
        | (go_at_call 54; refine (kc _ hx3).mono ?_; rintro e w2 ⟨rfl, hx4⟩; refine hK _ _ hx4 ?_; clear hK K)))
  refine wpE_done ?_
  go_wp2
  go_ret
  exact ⟨rfl, hx3.trans hx4⟩

theorem first_not (rv : Option Addr) (c m : Int) (w : World) (c0 : 0 ≤ c) (c1 : c ≤ 4294967295) (hv : isV c m = false) :
    Calls Try.prog 40 #[.pointer rv, .agg #[.int .u32 c, .int .i64 m]] w fun e w' => e = .returned (.pointer none) ∧ Ext w w' := by
  have k1 := fun w => is_any c m w c0 c1
  rw [hv] at k1
  have hA : Ext w (w.alloc (.cells #[.int .u32 c, .int .i64 m] 32)) := (Ext.refl w).alloc _
  clear hv
  go_enter Try.func40, Try.ntmps40
  go_wp2_with (go_at_call 35; refine (k1 _).mono ?_; rintro e w1 ⟨rfl, hx1⟩)
  go_ret
  exact ⟨rfl, hA.trans hx1⟩

/-- Where the way down begins. -/
def begS (t : Sh) (p : PX) : Sh := if isV p.1 p.2 = true then covS t p else .nil

theorem beg_wf {t : Sh} (h : WF t) (p : PX) : WF (begS t p) := by unfold begS; split; exact cov_wf h p; trivial
theorem beg_twice (t : Sh) (p : PX) : covS (begS t p) p = begS t p := by unfold begS; split; exact covS_twice t p; rfl

theorem first_any (rv root : Option Addr) (t : Sh) (c m : Int) (w : World) (h : Top w rv root) (ht : Is w t root) (hw : WF t) (c0 : 0 ≤ c) (c1 : c ≤ 4294967295) :
    Calls Try.prog 40 #[.pointer rv, .agg #[.int .u32 c, .int .i64 m]] w fun e w' => ∃ na, e = .returned (.pointer na) ∧ Is w' (begS t (c, m)) na ∧ Ext w w' := by
  unfold begS
  simp only
  by_cases hv : isV c m = true
  · rw [if_pos hv]
    refine (first_at rv root _ c m w h c0 c1 hv fun w' hx => covering_any t root c m w' (ht.later hx) hw c0 c1).mono ?_
    rintro e w' ⟨rfl, hx⟩
    exact ⟨_, rfl, is_cov (ht.later hx) _, hx⟩
  · rw [if_neg hv]
    refine (first_not rv c m w c0 c1 (by simpa using hv)).mono ?_
    rintro e w' ⟨rfl, hx⟩
    exact ⟨_, rfl, rfl, hx⟩
end Go.Proofs.Ytgcnnblngmomhaa.Tri
