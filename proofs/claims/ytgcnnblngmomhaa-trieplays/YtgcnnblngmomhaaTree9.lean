/- Package trie's Set, Del; a Trie in memory. -/
import Derived.Test.YtgcnnblngmomhaaTree8
namespace Go.Proofs.Ytgcnnblngmomhaa.Tri
open Go.RowKit Go.Proofs.Ytgcnnblngmomhaa
set_option linter.unusedVariables false

/-- A Trie of the tree t, in the blocks F. -/
def TrieAt (w : World) (tb : Nat) (t : Sh) (F : List Nat) : Prop := ∃ root G, F = tb :: G ∧ w.heap[tb]? = some (.cells #[.pointer root] 62 (0, 0)) ∧ At w t root G ∧ tb ∉ G ∧ WF t

theorem TrieAt.later {w w' : World} {tb : Nat} {t : Sh} {F G : List Nat} (h : TrieAt w tb t F) (hx : ExtS G w w') (hd : ∀ x ∈ F, x ∉ G) : TrieAt w' tb t F := by
  obtain ⟨root, H, rfl, h1, h2, h3, h4⟩ := h
  exact ⟨root, H, rfl, hx.heap (hd tb (by simp)) h1, h2.later hx (fun x hx' => hd x (by simp [hx'])), h3, h4⟩

theorem TrieAt.lt {w : World} {tb : Nat} {t : Sh} {F : List Nat} (h : TrieAt w tb t F) : ∀ x ∈ F, x < w.heap.size := by
  obtain ⟨root, H, rfl, h1, h2, h3, h4⟩ := h
  intro x hx
  rcases List.mem_cons.1 hx with rfl | hx
  · exact heap_lt h1
  · exact h2.lt x hx

theorem TrieAt.wf {w : World} {tb : Nat} {t : Sh} {F : List Nat} (h : TrieAt w tb t F) : WF t := by
  obtain ⟨root, H, rfl, h1, h2, h3, h4⟩ := h
  exact h4

theorem TrieAt.top {w : World} {tb : Nat} {t : Sh} {F : List Nat} (h : TrieAt w tb t F) : ∃ root, Top w (some ⟨tb, 0, none⟩) root ∧ Is w t root := by
  obtain ⟨root, H, rfl, h1, h2, h3, h4⟩ := h
  exact ⟨root, .inr ⟨tb, rfl, h1⟩, h2.is⟩

theorem Set_nil (c m v : Int) (w : World) : Calls Try.prog 15 #[.pointer none, .agg #[.int .u32 c, .int .i64 m], .int .i64 v] w fun e w' => e = .returned (.int .i64 1) ∧ Ext w w' := by
  have hA : Ext w (w.alloc (.cells #[.int .u32 c, .int .i64 m] 32)) := (Ext.refl w).alloc _
  go_enter Try.func15, Try.ntmps15
  go_wp2_with fail
  go_ret
  exact ⟨rfl, hA⟩

theorem Set_bad (tb : Nat) (c m v : Int) (w : World) (c0 : 0 ≤ c) (c1 : c ≤ 4294967295) (hv : isV c m = false) : Calls Try.prog 15 #[.pointer (some ⟨tb, 0, none⟩), .agg #[.int .u32 c, .int .i64 m], .int .i64 v] w fun e w' => e = .returned (.int .i64 1) ∧ Ext w w' := by
  have k1 := fun w => is_any c m w c0 c1
  rw [hv] at k1
  have hA : Ext w (w.alloc (.cells #[.int .u32 c, .int .i64 m] 32)) := (Ext.refl w).alloc _
  clear hv
  go_enter Try.func15, Try.ntmps15
  go_wp2_with (go_at_call 35; refine (k1 _).mono ?_; rintro e w1 ⟨rfl, hx1⟩)
  go_ret
  exact ⟨rfl, hA.trans hx1⟩

def TrieAns (w : World) (tb : Nat) (F : List Nat) (t' : Sh) (w' : World) : Prop := ∃ F', TrieAt w' tb t' F' ∧ ExtS F w w' ∧ ∀ x ∈ F', x ∈ F ∨ w.heap.size ≤ x

set_option maxHeartbeats 1000000 in
theorem Set_good (tb : Nat) (c m v : Int) (t : Sh) (F : List Nat) (w : World) (hp : Vp (c, m)) (h : TrieAt w tb t F) :
    Calls Try.prog 15 #[.pointer (some ⟨tb, 0, none⟩), .agg #[.int .u32 c, .int .i64 m], .int .i64 v] w fun e w' => e = .returned (.int .i64 0) ∧ TrieAns w tb F (putS t (c, m) v) w' := by
  obtain ⟨c0, c1, -, -⟩ := hp.bd
  simp only at c0 c1
  have k1 := fun w => is_any c m w c0 c1
  rw [hp.is] at k1
  have hwf := put_wf (v := v) h.wf hp
  obtain ⟨root, G, rfl, hT, hA, hn, hw⟩ := h
  have k2 := fun W (hx : Ext w W) => put_any c m v hp t root G W (hA.later (hx.toS []) (by simp)) hw
  have hlt := hA.lt
  have hwG : w.heap.size ∉ G := fun h => by have := hlt _ h; omega
  have HT : Hid _ := hT
  have hxA : Ext w (w.alloc (.cells #[.int .u32 c, .int .i64 m] 32)) := (Ext.refl w).alloc _
  have HB : Hid _ := heap_new w (.cells #[.int .u32 c, .int .i64 m] 32)
  have e0 : (w.alloc (.cells #[.int .u32 c, .int .i64 m] 32)).cell? ⟨w.heap.size, 0, none⟩ = some (.int .u32 c) := by rw [heap_cell HB.out]; rfl
  have e1 : (w.alloc (.cells #[.int .u32 c, .int .i64 m] 32)).cell? ⟨w.heap.size, 1, none⟩ = some (.int .i64 m) := by rw [heap_cell HB.out]; rfl
  have HW : Hid (WF (putS t (c, m) v)) := hwf
  clear hT hA hp hwf hw
  generalize putS t (c, m) v = t' at *
  go_enter Try.func15, Try.ntmps15
  go_wp2_with (go_at_call 35; refine (k1 _).mono ?_; rintro e w1 ⟨rfl, hx1⟩)
  clear e0 e1
  have hxw : Ext w w1.drew := (hxA.trans hx1).drew
  have HT1 : Hid (w1.drew.heap[tb]? = some (.cells #[.pointer root] 62 (0, 0))) := hxw.heap HT.out
  have hB1 := hx1.drew.heap HB.out
  have p0 : ∀ w', ExtS G w1.drew w' → w'.cell? ⟨w.heap.size, 0, none⟩ = some (.int .u32 c) := fun w' h => by rw [heap_cell (h.heap hwG hB1)]; rfl
  have p1 : ∀ w', ExtS G w1.drew w' → w'.cell? ⟨w.heap.size, 1, none⟩ = some (.int .i64 m) := fun w' h => by rw [heap_cell (h.heap hwG hB1)]; rfl
  have p2 : ∀ w', ExtS G w1.drew w' → w'.cell? ⟨tb, 0, none⟩ = some (.pointer root) := fun w' h => by rw [heap_cell (h.heap hn HT1.out)]; rfl
  clear hB1 HB HT hxA hx1
  refine wp_region_tailS G [10] [[0, 8, 9, 10], [1, 2, 3, 4, 7, 8, 9, 10], [2, 3, 4, 7, 8, 9, 10], [3, 4, 7, 8, 9, 10], [4, 7, 8, 9, 10], [5, 7, 8, 9, 10], [6, 7, 8, 9, 10], [], [8, 9, 10], [9, 10]] [(0, false), (1, false), (2, false), (3, false), (4, false), (5, false), (6, false), (7, true), (8, false), (9, false)] (by kernel_rfl) (by kernel_rfl) rfl (by kernel_rfl) (fun _ _ _ _ _ h => h) ?_
  generalize w1.drew = W at *
  repeat (first
    | (refine wpE_read (v := ?_) rfl (by rfl) ?_ ?_; rotate_left; (focus (intro w' hx; go_simp; first | done | with_reducible rfl)); simp only [Act.put, List.setIfInBounds_toArray, List.set_cons_zero, List.set_cons_succ])
    | (refine wpE_call rfl (by rfl) (fun K hK => ?_); go_simp; first
        | (go_at_call 36; refine (k2 _ hxw).mono ?_; rintro e w5 ⟨a', F', rfl, hA', hx5, hn'⟩; refine hK _ _ hx5 ?_; clear hK K; have d4 := p2 w5 hx5; have f4 : w5.frozen? ⟨tb, 0, none⟩ = false := heap_frozen (hx5.heap hn HT1.out))))
  clear p0 p1 p2
  refine wpT_step rfl (by rfl) (fun K hK => ?_)
  go_simp
  refine hK _ _ ?_
  clear hK K
  refine wpT_done ?_
  go_wp2_with fail
  go_ret
  have hs := extS_set w5 tb 0 (.pointer a')
  have htl := heap_lt HT1.out
  have nt : tb ∉ F' := fun h => by rcases hn' _ h with h | h; exact hn h; omega
  refine ⟨rfl, tb :: F', ⟨a', F', rfl, ?_, hA'.later hs (fun x h e => ?_), nt, HW.out⟩, ?_, fun x hx => ?_⟩
  · rw [heap_set (hx5.heap hn HT1.out)]; rfl
  · simp only [List.mem_singleton] at e; subst e; exact nt h
  · exact ExtS.then (((hxw.toS G).trans hx5).mono (fun x h => by simp [h])) hs (fun x h => by simp only [List.mem_singleton] at h; subst h; simp)
  · rcases List.mem_cons.1 hx with rfl | hx
    · simp
    · rcases hn' x hx with h | h
      · simp [h]
      · exact .inr (Nat.le_trans hxw.size h)

/-- Set, whatever the prefix. -/
theorem Set_any (tb : Nat) (c m v : Int) (t : Sh) (F : List Nat) (w : World) (c0 : 0 ≤ c) (c1 : c ≤ 4294967295) (h : TrieAt w tb t F) :
    Calls Try.prog 15 #[.pointer (some ⟨tb, 0, none⟩), .agg #[.int .u32 c, .int .i64 m], .int .i64 v] w fun e w' => e = .returned (.int .i64 (if isV c m = true then 0 else 1)) ∧ TrieAns w tb F (if isV c m = true then putS t (c, m) v else t) w' := by
  by_cases hv : isV c m = true
  · simp only [if_pos hv]
    exact Set_good tb c m v t F w (vp_of c0 c1 hv) h
  · simp only [if_neg hv]
    refine (Set_bad tb c m v w c0 c1 (by simpa using hv)).mono ?_
    rintro e w' ⟨rfl, hx⟩
    exact ⟨rfl, F, h.later (hx.toS []) (by simp), hx.toS F, fun x hx => .inl hx⟩

set_option maxHeartbeats 1000000 in
theorem Del_no (rv root : Option Addr) (t : Sh) (c m : Int) (w : World) (h : Top w rv root) (ht : Is w t root) (hw : WF t) (c0 : 0 ≤ c) (c1 : c ≤ 4294967295) (hg : (getF (lastF none (coversS (begS t (c, m)) (c, m))) (c, m)).2 = false) :
    Calls Try.prog 13 #[.pointer rv, .agg #[.int .u32 c, .int .i64 m]] w fun e w' => e = .returned (.bool false) ∧ Ext w w' := by
  have k1 := fun w' (hx : Ext w w') => get_any rv root t c m w' (h.later hx) (ht.later hx) hw c0 c1
  rw [hg] at k1
  generalize (getF (lastF none (coversS (begS t (c, m)) (c, m))) (c, m)).1 = z at *
  have hxA : Ext w (w.alloc (.cells #[.int .u32 c, .int .i64 m] 32)) := (Ext.refl w).alloc _
  clear hg
  go_enter Try.func13, Try.ntmps13
  go_wp2_with (go_at_call 17; refine (k1 _ hxA).mono ?_; rintro e w1 ⟨rfl, hx1⟩)
  go_ret
  exact ⟨rfl, hxA.trans hx1⟩

set_option maxHeartbeats 1000000 in
theorem Del_yes (tb : Nat) (c m : Int) (t : Sh) (F : List Nat) (w : World) (c0 : 0 ≤ c) (c1 : c ≤ 4294967295) (h : TrieAt w tb t F) (hg : (getF (lastF none (coversS (begS t (c, m)) (c, m))) (c, m)).2 = true) (hpath : pathS t (c, m) = true) :
    Calls Try.prog 13 #[.pointer (some ⟨tb, 0, none⟩), .agg #[.int .u32 c, .int .i64 m]] w fun e w' => e = .returned (.bool true) ∧ TrieAns w tb F (cutS t (c, m)) w' := by
  have hwf := cut_wf (p := (c, m)) h.wf
  obtain ⟨root, G, rfl, hT, hA, hn, hw⟩ := h
  have k1 := fun w' (hx : Ext w w') => get_any (some ⟨tb, 0, none⟩) root t c m w' (.inr ⟨tb, rfl, hx.heap hT⟩) (hA.is.later hx) hw c0 c1
  rw [hg] at k1
  generalize (getF (lastF none (coversS (begS t (c, m)) (c, m))) (c, m)).1 = z at *
  have k2 := fun W (hx : Ext w W) => cut_any c m t root G W (hA.later (hx.toS []) (by simp)) hw hpath
  have hlt := hA.lt
  have hwG : w.heap.size ∉ G := fun h => by have := hlt _ h; omega
  have HT : Hid _ := hT
  have hxA : Ext w (w.alloc (.cells #[.int .u32 c, .int .i64 m] 32)) := (Ext.refl w).alloc _
  have HB : Hid _ := heap_new w (.cells #[.int .u32 c, .int .i64 m] 32)
  have e0 : (w.alloc (.cells #[.int .u32 c, .int .i64 m] 32)).cell? ⟨w.heap.size, 0, none⟩ = some (.int .u32 c) := by rw [heap_cell HB.out]; rfl
  have e1 : (w.alloc (.cells #[.int .u32 c, .int .i64 m] 32)).cell? ⟨w.heap.size, 1, none⟩ = some (.int .i64 m) := by rw [heap_cell HB.out]; rfl
  have HW : Hid (WF (cutS t (c, m))) := hwf
  clear hT hA hwf hw hg hpath
  generalize cutS t (c, m) = t' at *
  go_enter Try.func13, Try.ntmps13
  go_wp2_with (go_at_call 17; refine (k1 _ hxA).mono ?_; rintro e w1 ⟨rfl, hx1⟩)
  clear e0 e1
  have hxw : Ext w w1.drew := (hxA.trans hx1).drew
  have HT1 : Hid (w1.drew.heap[tb]? = some (.cells #[.pointer root] 62 (0, 0))) := hxw.heap HT.out
  have hB1 := hx1.drew.heap HB.out
  have p0 : ∀ w', ExtS G w1.drew w' → w'.cell? ⟨w.heap.size, 0, none⟩ = some (.int .u32 c) := fun w' h => by rw [heap_cell (h.heap hwG hB1)]; rfl
  have p1 : ∀ w', ExtS G w1.drew w' → w'.cell? ⟨w.heap.size, 1, none⟩ = some (.int .i64 m) := fun w' h => by rw [heap_cell (h.heap hwG hB1)]; rfl
  have p2 : ∀ w', ExtS G w1.drew w' → w'.cell? ⟨tb, 0, none⟩ = some (.pointer root) := fun w' h => by rw [heap_cell (h.heap hn HT1.out)]; rfl
  clear hB1 HB HT hxA hx1
  refine wp_region_tailS G [9] [[0, 7, 8, 9], [1, 2, 3, 4, 6, 7, 8, 9], [2, 3, 4, 6, 7, 8, 9], [3, 4, 6, 7, 8, 9], [4, 6, 7, 8, 9], [5, 6, 7, 8, 9], [], [7, 8, 9], [8, 9]] [(0, false), (1, false), (2, false), (3, false), (4, false), (5, false), (6, true), (7, false), (8, false)] (by kernel_rfl) (by kernel_rfl) rfl (by kernel_rfl) (fun _ _ _ _ _ h => h) ?_
  generalize w1.drew = W at *
  repeat (first
    | (refine wpE_read (v := ?_) rfl (by rfl) ?_ ?_; rotate_left; (focus (intro w' hx; go_simp; first | done | with_reducible rfl)); simp only [Act.put, List.setIfInBounds_toArray, List.set_cons_zero, List.set_cons_succ])
    | (refine wpE_call rfl (by rfl) (fun K hK => ?_); go_simp; first
        | (go_at_call 33; refine (k2 _ hxw).mono ?_; rintro e w5 ⟨a', F', rfl, hA', hx5, hn'⟩; refine hK _ _ hx5 ?_; clear hK K; have d4 := p2 w5 hx5; have f4 : w5.frozen? ⟨tb, 0, none⟩ = false := heap_frozen (hx5.heap hn HT1.out))))
  clear p0 p1 p2
  refine wpT_step rfl (by rfl) (fun K hK => ?_)
  go_simp
  refine hK _ _ ?_
  clear hK K
  refine wpT_done ?_
  go_wp2_with fail
  go_ret
  have hs := extS_set w5 tb 0 (.pointer a')
  have htl := heap_lt HT1.out
  have nt : tb ∉ F' := fun h => by rcases hn' _ h with h | h; exact hn h; omega
  refine ⟨rfl, tb :: F', ⟨a', F', rfl, ?_, hA'.later hs (fun x h e => ?_), nt, HW.out⟩, ?_, fun x hx => ?_⟩
  · rw [heap_set (hx5.heap hn HT1.out)]; rfl
  · simp only [List.mem_singleton] at e; subst e; exact nt h
  · exact ExtS.then (((hxw.toS G).trans hx5).mono (fun x h => by simp [h])) hs (fun x h => by simp only [List.mem_singleton] at h; subst h; simp)
  · rcases List.mem_cons.1 hx with rfl | hx
    · simp
    · rcases hn' x hx with h | h
      · simp [h]
      · exact .inr (Nat.le_trans hxw.size h)
end Go.Proofs.Ytgcnnblngmomhaa.Tri
