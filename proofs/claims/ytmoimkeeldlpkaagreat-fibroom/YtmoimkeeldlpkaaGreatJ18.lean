/- Texts joined by a program: Tree9, Tree5, TriF, Fib1, RefO. -/
import Derived.Maps.AppendAt
import Derived.Test.YtmoimkeeldlpkaaGreatJ3
import Derived.Test.YtmoimkeeldlpkaaGreatJ15
import Derived.Test.YtmoimkeeldlpkaaGreatJ16
import Derived.Test.YtmoimkeeldlpkaaGreatJ17
namespace Go.Proofs.YtmoimkeeldlpkaaGreat.Tri

set_option maxRecDepth 100000

open Go.RowKit Go.Proofs.YtmoimkeeldlpkaaGreat

set_option linter.unusedVariables false

/-- A Trie of the tree t, in the blocks F. -/
def TrieAt (w : World) (tb : Nat) (t : Sh) (F : List Nat) : Prop := ∃ root G, F = tb :: G ∧ w.heap[tb]? = some (.cells #[.pointer root] 96 (0, 0)) ∧ At w t root G ∧ tb ∉ G ∧ WF t

theorem TrieAt.later {w w' : World} {tb : Nat} {t : Sh} {F G : List Nat} (h : TrieAt w tb t F) (hx : ExtS G w w') (hd : ∀ x ∈ F, x ∉ G) : TrieAt w' tb t F := by
  obtain ⟨root, H, rfl, h1, h2, h3, h4⟩ := h
  exact ⟨root, H, rfl, hx.heap (hd tb (by simp)) h1, h2.later hx (fun x hx' => hd x (by simp [hx'])), h3, h4⟩

theorem TrieAt.lt {w : World} {tb : Nat} {t : Sh} {F : List Nat} (h : TrieAt w tb t F) : ∀ x ∈ F, x < w.heap.size := by
  obtain ⟨root, H, rfl, h1, h2, h3, h4⟩ := h
  intro x hx
  rcases List.mem_cons.1 hx with rfl | hx
  · exact heap_lt h1
  · exact h2.lt x hx

theorem TrieAt.wf {w : World} {tb : Nat} {t : Sh} {F : List Nat} (h : TrieAt w tb t F) : WF t := by
  obtain ⟨root, H, rfl, h1, h2, h3, h4⟩ := h
  exact h4

theorem TrieAt.top {w : World} {tb : Nat} {t : Sh} {F : List Nat} (h : TrieAt w tb t F) : ∃ root, Top w (some ⟨tb, 0, none⟩) root ∧ Is w t root := by
  obtain ⟨root, H, rfl, h1, h2, h3, h4⟩ := h
  exact ⟨root, .inr ⟨tb, rfl, h1⟩, h2.is⟩

theorem Set_bad (tb : Nat) (c m v : Int) (w : World) (c0 : 0 ≤ c) (c1 : c ≤ 4294967295) (hv : isV c m = false) : Calls Tryz.prog 83 #[.pointer (some ⟨tb, 0, none⟩), .agg #[.int .u32 c, .int .i64 m], .int .i64 v] w fun e w' => e = .returned (.int .i64 1) ∧ Ext w w' := by
  have k1 := fun w => is_any c m w c0 c1
  rw [hv] at k1
  have hA : Ext w (w.alloc (.cells #[.int .u32 c, .int .i64 m] 31)) := (Ext.refl w).alloc _
  clear hv
  go_enter Tryz.func83, Tryz.ntmps83
  go_wp2_with (go_at_call 86; refine (k1 _).mono ?_; rintro e w1 ⟨rfl, hx1⟩)
  go_ret
  exact ⟨rfl, hA.trans hx1⟩

def TrieAns (w : World) (tb : Nat) (F : List Nat) (t' : Sh) (w' : World) : Prop := ∃ F', TrieAt w' tb t' F' ∧ ExtS F w w' ∧ ∀ x ∈ F', x ∈ F ∨ w.heap.size ≤ x

set_option maxHeartbeats 1000000 in
theorem Set_good (tb : Nat) (c m v : Int) (t : Sh) (F : List Nat) (w : World) (hp : Vp (c, m)) (h : TrieAt w tb t F) :
    Calls Tryz.prog 83 #[.pointer (some ⟨tb, 0, none⟩), .agg #[.int .u32 c, .int .i64 m], .int .i64 v] w fun e w' => e = .returned (.int .i64 0) ∧ TrieAns w tb F (putS t (c, m) v) w' := by
  obtain ⟨c0, c1, -, -⟩ := hp.bd
  simp only at c0 c1
  have k1 := fun w => is_any c m w c0 c1
  rw [hp.is] at k1
  have hwf := put_wf (v := v) h.wf hp
  obtain ⟨root, G, rfl, hT, hA, hn, hw⟩ := h
  have k2 := fun W (hx : Ext w W) => put_any c m v hp t root G W (hA.later (hx.toS []) (by simp)) hw
  have hlt := hA.lt
  have hwG : w.heap.size ∉ G := fun h => by have := hlt _ h; omega
  have HT : Hid _ := hT
  have hxA : Ext w (w.alloc (.cells #[.int .u32 c, .int .i64 m] 31)) := (Ext.refl w).alloc _
  have HB : Hid _ := heap_new w (.cells #[.int .u32 c, .int .i64 m] 31)
  have e0 : (w.alloc (.cells #[.int .u32 c, .int .i64 m] 31)).cell? ⟨w.heap.size, 0, none⟩ = some (.int .u32 c) := by rw [heap_cell HB.out]; rfl
  have e1 : (w.alloc (.cells #[.int .u32 c, .int .i64 m] 31)).cell? ⟨w.heap.size, 1, none⟩ = some (.int .i64 m) := by rw [heap_cell HB.out]; rfl
  have HW : Hid (WF (putS t (c, m) v)) := hwf
  clear hT hA hp hwf hw
  generalize putS t (c, m) v = t' at *
  go_enter Tryz.func83, Tryz.ntmps83
  go_wp2_with (go_at_call 86; refine (k1 _).mono ?_; rintro e w1 ⟨rfl, hx1⟩)
  clear e0 e1
  have hxw : Ext w w1.drew := (hxA.trans hx1).drew
  have HT1 : Hid (w1.drew.heap[tb]? = some (.cells #[.pointer root] 96 (0, 0))) := hxw.heap HT.out
  have hB1 := hx1.drew.heap HB.out
  have p0 : ∀ w', ExtS G w1.drew w' → w'.cell? ⟨w.heap.size, 0, none⟩ = some (.int .u32 c) := fun w' h => by rw [heap_cell (h.heap hwG hB1)]; rfl
  have p1 : ∀ w', ExtS G w1.drew w' → w'.cell? ⟨w.heap.size, 1, none⟩ = some (.int .i64 m) := fun w' h => by rw [heap_cell (h.heap hwG hB1)]; rfl
  have p2 : ∀ w', ExtS G w1.drew w' → w'.cell? ⟨tb, 0, none⟩ = some (.pointer root) := fun w' h => by rw [heap_cell (h.heap hn HT1.out)]; rfl
  clear hB1 HB HT hxA hx1
  refine wp_region_tailS G [10] [[0, 8, 9, 10], [1, 2, 3, 4, 7, 8, 9, 10], [2, 3, 4, 7, 8, 9, 10], [3, 4, 7, 8, 9, 10], [4, 7, 8, 9, 10], [5, 7, 8, 9, 10], [6, 7, 8, 9, 10], [], [8, 9, 10], [9, 10]] [(0, false), (1, false), (2, false), (3, false), (4, false), (5, false), (6, false), (7, true), (8, false), (9, false)] (by kernel_rfl) (by kernel_rfl) rfl (by kernel_rfl) (fun _ _ _ _ _ h => h) ?_
  generalize w1.drew = W at *
  repeat (first
    | (refine wpE_read (v := ?_) rfl (by rfl) ?_ ?_; rotate_left; (focus (intro w' hx; go_simp; first | done | with_reducible rfl)); simp only [Act.put, List.setIfInBounds_toArray, List.set_cons_zero, List.set_cons_succ])
    | (refine wpE_call rfl (by rfl) (fun K hK => ?_); go_simp; first
        | (go_at_call 107; refine (k2 _ hxw).mono ?_; rintro e w5 ⟨a', F', rfl, hA', hx5, hn'⟩; refine hK _ _ hx5 ?_; clear hK K; have d4 := p2 w5 hx5; have f4 : w5.frozen? ⟨tb, 0, none⟩ = false := heap_frozen (hx5.heap hn HT1.out))))
  clear p0 p1 p2
  refine wpT_step rfl (by rfl) (fun K hK => ?_)
  go_simp
  refine hK _ _ ?_
  clear hK K
  refine wpT_done ?_
  go_wp2_with fail
  go_ret
  have hs := extS_set w5 tb 0 (.pointer a')
  have htl := heap_lt HT1.out
  have nt : tb ∉ F' := fun h => by rcases hn' _ h with h | h; exact hn h; omega
  refine ⟨rfl, tb :: F', ⟨a', F', rfl, ?_, hA'.later hs (fun x h e => ?_), nt, HW.out⟩, ?_, fun x hx => ?_⟩
  · rw [heap_set (hx5.heap hn HT1.out)]; rfl
  · simp only [List.mem_singleton] at e; subst e; exact nt h
  · exact ExtS.then (((hxw.toS G).trans hx5).mono (fun x h => by simp [h])) hs (fun x h => by simp only [List.mem_singleton] at h; subst h; simp)
  · rcases List.mem_cons.1 hx with rfl | hx
    · simp
    · rcases hn' x hx with h | h
      · simp [h]
      · exact .inr (Nat.le_trans hxw.size h)

/-- Set, whatever the prefix. -/
theorem Set_any (tb : Nat) (c m v : Int) (t : Sh) (F : List Nat) (w : World) (c0 : 0 ≤ c) (c1 : c ≤ 4294967295) (h : TrieAt w tb t F) :
    Calls Tryz.prog 83 #[.pointer (some ⟨tb, 0, none⟩), .agg #[.int .u32 c, .int .i64 m], .int .i64 v] w fun e w' => e = .returned (.int .i64 (if isV c m = true then 0 else 1)) ∧ TrieAns w tb F (if isV c m = true then putS t (c, m) v else t) w' := by
  by_cases hv : isV c m = true
  · simp only [if_pos hv]
    exact Set_good tb c m v t F w (vp_of c0 c1 hv) h
  · simp only [if_neg hv]
    refine (Set_bad tb c m v w c0 c1 (by simpa using hv)).mono ?_
    rintro e w' ⟨rfl, hx⟩
    exact ⟨rfl, F, h.later (hx.toS []) (by simp), hx.toS F, fun x hx => .inl hx⟩

set_option maxHeartbeats 1000000 in
theorem Del_no (rv root : Option Addr) (t : Sh) (c m : Int) (w : World) (h : Top w rv root) (ht : Is w t root) (hw : WF t) (c0 : 0 ≤ c) (c1 : c ≤ 4294967295) (hg : (getF (lastF none (coversS (begS t (c, m)) (c, m))) (c, m)).2 = false) :
    Calls Tryz.prog 81 #[.pointer rv, .agg #[.int .u32 c, .int .i64 m]] w fun e w' => e = .returned (.bool false) ∧ Ext w w' := by
  have k1 := fun w' (hx : Ext w w') => get_any rv root t c m w' (h.later hx) (ht.later hx) hw c0 c1
  rw [hg] at k1
  generalize (getF (lastF none (coversS (begS t (c, m)) (c, m))) (c, m)).1 = z at *
  have hxA : Ext w (w.alloc (.cells #[.int .u32 c, .int .i64 m] 31)) := (Ext.refl w).alloc _
  clear hg
  go_enter Tryz.func81, Tryz.ntmps81
  go_wp2_with (go_at_call 101; refine (k1 _ hxA).mono ?_; rintro e w1 ⟨rfl, hx1⟩)
  go_ret
  exact ⟨rfl, hxA.trans hx1⟩

set_option maxHeartbeats 1000000 in
theorem Del_yes (tb : Nat) (c m : Int) (t : Sh) (F : List Nat) (w : World) (c0 : 0 ≤ c) (c1 : c ≤ 4294967295) (h : TrieAt w tb t F) (hg : (getF (lastF none (coversS (begS t (c, m)) (c, m))) (c, m)).2 = true) (hpath : pathS t (c, m) = true) :
    Calls Tryz.prog 81 #[.pointer (some ⟨tb, 0, none⟩), .agg #[.int .u32 c, .int .i64 m]] w fun e w' => e = .returned (.bool true) ∧ TrieAns w tb F (cutS t (c, m)) w' := by
  have hwf := cut_wf (p := (c, m)) h.wf
  obtain ⟨root, G, rfl, hT, hA, hn, hw⟩ := h
  have k1 := fun w' (hx : Ext w w') => get_any (some ⟨tb, 0, none⟩) root t c m w' (.inr ⟨tb, rfl, hx.heap hT⟩) (hA.is.later hx) hw c0 c1
  rw [hg] at k1
  generalize (getF (lastF none (coversS (begS t (c, m)) (c, m))) (c, m)).1 = z at *
  have k2 := fun W (hx : Ext w W) => cut_any c m t root G W (hA.later (hx.toS []) (by simp)) hw hpath
  have hlt := hA.lt
  have hwG : w.heap.size ∉ G := fun h => by have := hlt _ h; omega
  have HT : Hid _ := hT
  have hxA : Ext w (w.alloc (.cells #[.int .u32 c, .int .i64 m] 31)) := (Ext.refl w).alloc _
  have HB : Hid _ := heap_new w (.cells #[.int .u32 c, .int .i64 m] 31)
  have e0 : (w.alloc (.cells #[.int .u32 c, .int .i64 m] 31)).cell? ⟨w.heap.size, 0, none⟩ = some (.int .u32 c) := by rw [heap_cell HB.out]; rfl
  have e1 : (w.alloc (.cells #[.int .u32 c, .int .i64 m] 31)).cell? ⟨w.heap.size, 1, none⟩ = some (.int .i64 m) := by rw [heap_cell HB.out]; rfl
  have HW : Hid (WF (cutS t (c, m))) := hwf
  clear hT hA hwf hw hg hpath
  generalize cutS t (c, m) = t' at *
  go_enter Tryz.func81, Tryz.ntmps81
  go_wp2_with (go_at_call 101; refine (k1 _ hxA).mono ?_; rintro e w1 ⟨rfl, hx1⟩)
  clear e0 e1
  have hxw : Ext w w1.drew := (hxA.trans hx1).drew
  have HT1 : Hid (w1.drew.heap[tb]? = some (.cells #[.pointer root] 96 (0, 0))) := hxw.heap HT.out
  have hB1 := hx1.drew.heap HB.out
  have p0 : ∀ w', ExtS G w1.drew w' → w'.cell? ⟨w.heap.size, 0, none⟩ = some (.int .u32 c) := fun w' h => by rw [heap_cell (h.heap hwG hB1)]; rfl
  have p1 : ∀ w', ExtS G w1.drew w' → w'.cell? ⟨w.heap.size, 1, none⟩ = some (.int .i64 m) := fun w' h => by rw [heap_cell (h.heap hwG hB1)]; rfl
  have p2 : ∀ w', ExtS G w1.drew w' → w'.cell? ⟨tb, 0, none⟩ = some (.pointer root) := fun w' h => by rw [heap_cell (h.heap hn HT1.out)]; rfl
  clear hB1 HB HT hxA hx1
  refine wp_region_tailS G [9] [[0, 7, 8, 9], [1, 2, 3, 4, 6, 7, 8, 9], [2, 3, 4, 6, 7, 8, 9], [3, 4, 6, 7, 8, 9], [4, 6, 7, 8, 9], [5, 6, 7, 8, 9], [], [7, 8, 9], [8, 9]] [(0, false), (1, false), (2, false), (3, false), (4, false), (5, false), (6, true), (7, false), (8, false)] (by kernel_rfl) (by kernel_rfl) rfl (by kernel_rfl) (fun _ _ _ _ _ h => h) ?_
  generalize w1.drew = W at *
  repeat (first
    | (refine wpE_read (v := ?_) rfl (by rfl) ?_ ?_; rotate_left; (focus (intro w' hx; go_simp; first | done | with_reducible rfl)); simp only [Act.put, List.setIfInBounds_toArray, List.set_cons_zero, List.set_cons_succ])
    | (refine wpE_call rfl (by rfl) (fun K hK => ?_); go_simp; first
        | (go_at_call 102; refine (k2 _ hxw).mono ?_; rintro e w5 ⟨a', F', rfl, hA', hx5, hn'⟩; refine hK _ _ hx5 ?_; clear hK K; have d4 := p2 w5 hx5; have f4 : w5.frozen? ⟨tb, 0, none⟩ = false := heap_frozen (hx5.heap hn HT1.out))))
  clear p0 p1 p2
  refine wpT_step rfl (by rfl) (fun K hK => ?_)
  go_simp
  refine hK _ _ ?_
  clear hK K
  refine wpT_done ?_
  go_wp2_with fail
  go_ret
  have hs := extS_set w5 tb 0 (.pointer a')
  have htl := heap_lt HT1.out
  have nt : tb ∉ F' := fun h => by rcases hn' _ h with h | h; exact hn h; omega
  refine ⟨rfl, tb :: F', ⟨a', F', rfl, ?_, hA'.later hs (fun x h e => ?_), nt, HW.out⟩, ?_, fun x hx => ?_⟩
  · rw [heap_set (hx5.heap hn HT1.out)]; rfl
  · simp only [List.mem_singleton] at e; subst e; exact nt h
  · exact ExtS.then (((hxw.toS G).trans hx5).mono (fun x h => by simp [h])) hs (fun x h => by simp only [List.mem_singleton] at h; subst h; simp)
  · rcases List.mem_cons.1 hx with rfl | hx
    · simp
    · rcases hn' x hx with h | h
      · simp [h]
      · exact .inr (Nat.le_trans hxw.size h)
end Go.Proofs.YtmoimkeeldlpkaaGreat.Tri

namespace Go.Proofs.YtmoimkeeldlpkaaGreat.Tri

set_option maxRecDepth 100000

open Go.RowKit Go.Proofs.YtmoimkeeldlpkaaGreat

set_option linter.unusedVariables false

set_option maxHeartbeats 1000000 in
theorem Longest_any (rv root : Option Addr) (t : Sh) (c : Int) (w : World) (h : Top w rv root) (ht : Is w t root) (hw : WF t) (c0 : 0 ≤ c) (c1 : c ≤ 4294967295) :
    Calls Tryz.prog 41 #[.pointer rv, .int .u32 c] w fun e w' => e = .returned (ansO (lastF none (coversS (begS t (c, 32)) (c, 32)))) ∧ Ext w w' := by
  have k1 := fun w' (hx : Ext w w') => longest_any rv root t c 32 w' (h.later hx) (ht.later hx) hw c0 c1
  have hA : Ext w (w.alloc (.cells #[.int .u32 0, .int .i64 0] 31)) := (Ext.refl w).alloc _
  have hx0 := heap_new w (.cells #[.int .u32 0, .int .i64 0] 31)
  generalize lastF none (coversS (begS t (c, 32)) (c, 32)) = o at *
  have HH : Hid _ := hx0
  clear hx0
  cases o with
  | none =>
    go_enter Tryz.func41, Tryz.ntmps41
    go_wp2_with (go_at_call 59; refine (k1 _ hA).mono ?_; rintro e w1 ⟨fa, rfl, hf, hx1⟩; obtain rfl : fa = none := hf; have hh1 := hx1.heap HH.out; have d0 : w1.cell? ⟨w.heap.size, 0, none⟩ = some (.int .u32 0) := (by rw [heap_cell hh1]; rfl); have d1 : w1.cell? ⟨w.heap.size, 1, none⟩ = some (.int .i64 0) := (by rw [heap_cell hh1]; rfl); have f0 : w1.frozen? ⟨w.heap.size, 0, none⟩ = false := heap_frozen hh1; have f1 : w1.frozen? ⟨w.heap.size, 1, none⟩ = false := heap_frozen hh1; have HH1 : Hid _ := hh1; clear hh1)
    have k2 := heap_set (heap_set HH1.out (k := 0) (.int .u32 0)) (k := 1) (.int .i64 0)
    have d0' : ((w1.setCell ⟨w.heap.size, 0, none⟩ (.int .u32 0)).setCell ⟨w.heap.size, 1, none⟩ (.int .i64 0)).cell? ⟨w.heap.size, 0, none⟩ = some (.int .u32 0) := by rw [heap_cell k2]; rfl
    have d1' : ((w1.setCell ⟨w.heap.size, 0, none⟩ (.int .u32 0)).setCell ⟨w.heap.size, 1, none⟩ (.int .i64 0)).cell? ⟨w.heap.size, 1, none⟩ = some (.int .i64 0) := by rw [heap_cell k2]; rfl
    have hx2 : Ext w ((w1.setCell ⟨w.heap.size, 0, none⟩ (.int .u32 0)).setCell ⟨w.heap.size, 1, none⟩ (.int .i64 0)) :=
      ExtX.ext (hA.trans hx1) (((ExtX.refl w.heap.size w1).setCell (p := ⟨w.heap.size, 0, none⟩) rfl _).setCell (p := ⟨w.heap.size, 1, none⟩) rfl _) (Nat.le_refl _)
    clear k2 d0 d1 f0 f1 HH1
    generalize ((w1.setCell ⟨w.heap.size, 0, none⟩ (.int .u32 0)).setCell ⟨w.heap.size, 1, none⟩ (.int .i64 0)) = w2 at *
    exact bodyPost_ret (v := ansO none) (by simp [ansO, results, Tryz.results41, go_sem, d0', d1']) rfl ⟨rfl, hx2⟩
  | some x =>
    obtain ⟨⟨a, n⟩, u⟩ := x
    go_enter Tryz.func41, Tryz.ntmps41
    go_wp2_with (go_at_call 59; refine (k1 _ hA).mono ?_; rintro e w1 ⟨fa, rfl, hf, hx1⟩; obtain ⟨b, pl, pr, rfl, hh⟩ := hf; have HB : Hid _ := hh; clear hh)
    have hh1 := hx1.heap HH.out
    have hbx : b ≠ w.heap.size := by
      intro e
      have h1 := HB.out
      rw [e, hh1] at h1
      cases h1
    refine wp_region_eagerX w.heap.size [(0, false), (1, false), (2, false), (3, false), (4, false), (5, false), (6, false), (7, false), (8, true), (9, false), (10, false)] (by kernel_rfl) (by kernel_rfl) rfl (by kernel_rfl) (fun _ _ _ _ _ h => h) ?_
    have hbl := heap_lt HB.out
    have gk : ∀ k w', ExtX w.heap.size w1.drew w' → w'.cell? ⟨b, k, none⟩ = #[Value.int .u32 a, .int .i64 n, .bool true, .int .i64 u, .pointer pl, .pointer pr][k]? := fun k w' hx => heap_cell ((hx.block b hbl hbx).trans HB.out)
    have g0 := gk 0
    have g1 := gk 1
    have g3 := gk 3
    simp only [List.getElem?_toArray, List.getElem?_cons_zero, List.getElem?_cons_succ] at g0 g1 g3
    have d0 : w1.drew.cell? ⟨w.heap.size, 0, none⟩ = some (.int .u32 0) := by rw [heap_cell (w := w1.drew) hh1]; rfl
    have d1 : w1.drew.cell? ⟨w.heap.size, 1, none⟩ = some (.int .i64 0) := by rw [heap_cell (w := w1.drew) hh1]; rfl
    have f0 : w1.drew.frozen? ⟨w.heap.size, 0, none⟩ = false := heap_frozen (w := w1.drew) hh1
    have f1 : w1.drew.frozen? ⟨w.heap.size, 1, none⟩ = false := heap_frozen (w := w1.drew) hh1
    have k2 := heap_set (heap_set (w := w1.drew) hh1 (k := 0) (.int .u32 a)) (k := 1) (.int .i64 n)
    have hx2 : Ext w ((w1.drew.setCell ⟨w.heap.size, 0, none⟩ (.int .u32 a)).setCell ⟨w.heap.size, 1, none⟩ (.int .i64 n)) :=
      ExtX.ext (hA.trans hx1).drew (((ExtX.refl w.heap.size w1.drew).setCell (p := ⟨w.heap.size, 0, none⟩) rfl _).setCell (p := ⟨w.heap.size, 1, none⟩) rfl _) (Nat.le_refl _)
    have H2 : Hid _ := k2
    clear k2 gk hh1 HB HH hx1 hbl
    generalize w1.drew = W at *
    repeat (first
      | (refine wpE_read (v := ?_) rfl (by rfl) ?_ ?_; rotate_left; (focus (intro w' hx; go_simp; first | done | with_reducible rfl)); simp only [Act.put, List.setIfInBounds_toArray, List.set_cons_zero, List.set_cons_succ]))
    refine wpE_call rfl (by rfl) (fun K hK => ?_)
    go_simp
    refine hK _ _ (((ExtX.refl _ _).setCell (p := ⟨w.heap.size, 0, none⟩) rfl _).setCell (p := ⟨w.heap.size, 1, none⟩) rfl _) ?_
    clear hK K
    have d0' : ((W.setCell ⟨w.heap.size, 0, none⟩ (.int .u32 a)).setCell ⟨w.heap.size, 1, none⟩ (.int .i64 n)).cell? ⟨w.heap.size, 0, none⟩ = some (.int .u32 a) := by rw [heap_cell H2.out]; rfl
    have d1' : ((W.setCell ⟨w.heap.size, 0, none⟩ (.int .u32 a)).setCell ⟨w.heap.size, 1, none⟩ (.int .i64 n)).cell? ⟨w.heap.size, 1, none⟩ = some (.int .i64 n) := by rw [heap_cell H2.out]; rfl
    clear g0 g1 g3 d0 d1 f0 f1 H2
    generalize ((W.setCell ⟨w.heap.size, 0, none⟩ (.int .u32 a)).setCell ⟨w.heap.size, 1, none⟩ (.int .i64 n)) = w2 at *
    repeat (first
      | (refine wpE_read (v := ?_) rfl (by rfl) ?_ ?_; rotate_left; (focus (intro w' hx; go_simp; first | done | with_reducible rfl)); simp only [Act.put, List.setIfInBounds_toArray, List.set_cons_zero, List.set_cons_succ]))
    refine wpE_done ?_
    go_wp2_with fail
    exact bodyPost_ret (v := ansO (some ((a, n), u))) (by simp [ansO, results, Tryz.results41, go_sem, d0', d1']) rfl ⟨rfl, hx2⟩
end Go.Proofs.YtmoimkeeldlpkaaGreat.Tri

namespace Go.Proofs.YtmoimkeeldlpkaaGreat.Tri

set_option maxRecDepth 100000

open Go.RowKit Go.Proofs.YtmoimkeeldlpkaaGreat

set_option linter.unusedVariables false

theorem trie_new (w : World) : TrieAt (w.alloc (.cells #[.pointer none] 96)) w.heap.size .nil [w.heap.size] :=
  ⟨none, [], rfl, heap_new w _, ⟨rfl, rfl⟩, by simp, trivial⟩

/-- A prefix taken away, if it is there. -/
def delS (t : Sh) (p : PX) : Sh := if foundB (toL t) p = true then cutS t p else t

theorem del_toL {t : Sh} (h : WF t) (p : PX) : toL (delS t p) = delL (toL t) p := by
  unfold delS
  split
  · rename_i hf; exact cut_toL h hf
  · rename_i hf; exact (del_not (srt_toL h) (by simpa using hf)).symm

theorem get_t {t : Sh} (h : WF t) {p : PX} (h0 : 0 ≤ p.1) (h1 : p.1 ≤ 4294967295) : getF (lastF none (coversS (begS t p) p)) p = getL (toL t) p := by
  rw [beg_covL h h0 h1, get_toL (srt_toL h) (fun x hx => h.vp hx) h0 h1]

/-- Del, whatever the prefix. -/
theorem Del_any (tb : Nat) (c m : Int) (t : Sh) (F : List Nat) (w : World) (c0 : 0 ≤ c) (c1 : c ≤ 4294967295) (h : TrieAt w tb t F) :
    Calls Tryz.prog 81 #[.pointer (some ⟨tb, 0, none⟩), .agg #[.int .u32 c, .int .i64 m]] w fun e w' => e = .returned (.bool (foundB (toL t) (c, m))) ∧ TrieAns w tb F (delS t (c, m)) w' := by
  have hg := get_t h.wf (p := (c, m)) c0 c1
  have h2 := getL_two (toL t) (c, m)
  unfold delS
  by_cases hf : foundB (toL t) (c, m) = true
  · rw [if_pos hf, hf]
    obtain ⟨u, hu⟩ := (found_mem (srt_toL h.wf)).1 hf
    exact Del_yes tb c m t F w c0 c1 h (by rw [hg, h2, hf]) (path_of h.wf hu)
  · have hf' : foundB (toL t) (c, m) = false := by simpa using hf
    rw [if_neg hf, hf']
    obtain ⟨root, ht, hi⟩ := h.top
    refine (Del_no _ root t c m w ht hi h.wf c0 c1 (by rw [hg, h2, hf'])).mono ?_
    rintro e w' ⟨rfl, hx⟩
    exact ⟨rfl, F, h.later (hx.toS []) (by simp), hx.toS F, fun x hx => .inl hx⟩

/-- A prefix laid, if it may be. -/
def setS (t : Sh) (p : PX) (v : Int) : Sh := if isV p.1 p.2 = true then putS t p v else t
def setR (L : Row) (p : PX) (v : Int) : Row := if isV p.1 p.2 = true then setL L p v else L
def errV (p : PX) : Int := if isV p.1 p.2 = true then 0 else 1

theorem tLongest {w : World} {tb : Nat} {t : Sh} {F : List Nat} (h : TrieAt w tb t F) (c : Int) (c0 : 0 ≤ c) (c1 : c ≤ 4294967295) :
    Calls Tryz.prog 41 #[.pointer (some ⟨tb, 0, none⟩), .int .u32 c] w fun e w' => e = .returned (ansO (lastF none (covL (toL t) (c, 32)))) ∧ Ext w w' := by
  obtain ⟨root, h1, h2⟩ := h.top
  have := Longest_any _ root t c w h1 h2 h.wf c0 c1
  rw [beg_covL h.wf (p := (c, 32)) c0 c1] at this
  exact this

theorem TrieAt.ext {w w' : World} {tb : Nat} {t : Sh} {F : List Nat} (h : TrieAt w tb t F) (hx : Ext w w') : TrieAt w' tb t F := h.later (hx.toS []) (by simp)

/-- A Trie of the row D, in the blocks F. -/
def TrieR (w : World) (tb : Nat) (D : Row) (F : List Nat) : Prop := ∃ t, TrieAt w tb t F ∧ toL t = D

def TrieRAns (w : World) (F : List Nat) (tb : Nat) (D : Row) (w' : World) : Prop := ∃ F', TrieR w' tb D F' ∧ ExtS F w w' ∧ ∀ x ∈ F', x ∈ F ∨ w.heap.size ≤ x

theorem TrieR.later {w w' : World} {tb : Nat} {D : Row} {F G : List Nat} (h : TrieR w tb D F) (hx : ExtS G w w') (hd : ∀ x ∈ F, x ∉ G) : TrieR w' tb D F := by
  obtain ⟨t, h1, h2⟩ := h
  exact ⟨t, h1.later hx hd, h2⟩

theorem TrieR.ext {w w' : World} {tb : Nat} {D : Row} {F : List Nat} (h : TrieR w tb D F) (hx : Ext w w') : TrieR w' tb D F := h.later (hx.toS []) (by simp)

theorem TrieR.lt {w : World} {tb : Nat} {D : Row} {F : List Nat} (h : TrieR w tb D F) : ∀ x ∈ F, x < w.heap.size := by
  obtain ⟨t, h1, h2⟩ := h
  exact h1.lt

theorem tset {w : World} {tb : Nat} {D : Row} {F : List Nat} (h : TrieR w tb D F) (a n v : Int) (a0 : 0 ≤ a) (a1 : a ≤ 4294967295) (hv : isV a n = true) :
    Calls Tryz.prog 83 #[.pointer (some ⟨tb, 0, none⟩), .agg #[.int .u32 a, .int .i64 n], .int .i64 v] w fun e w' => e = .returned (.int .i64 0) ∧ TrieRAns w F tb (setL D (a, n) v) w' := by
  obtain ⟨t, h1, rfl⟩ := h
  have k := Set_any tb a n v t F w a0 a1 h1
  rw [if_pos hv, if_pos hv] at k
  refine k.mono ?_
  rintro e w' ⟨rfl, F', k1, k2, k3⟩
  exact ⟨rfl, F', ⟨_, k1, put_toL h1.wf (vp_of a0 a1 hv) v⟩, k2, k3⟩

theorem tdel {w : World} {tb : Nat} {D : Row} {F : List Nat} (h : TrieR w tb D F) (a n : Int) (a0 : 0 ≤ a) (a1 : a ≤ 4294967295) :
    Calls Tryz.prog 81 #[.pointer (some ⟨tb, 0, none⟩), .agg #[.int .u32 a, .int .i64 n]] w fun e w' => e = .returned (.bool (foundB D (a, n))) ∧ TrieRAns w F tb (delL D (a, n)) w' := by
  obtain ⟨t, h1, rfl⟩ := h
  refine (Del_any tb a n t F w a0 a1 h1).mono ?_
  rintro e w' ⟨rfl, F', k1, k2, k3⟩
  exact ⟨rfl, F', ⟨_, k1, del_toL h1.wf (a, n)⟩, k2, k3⟩

theorem tlong {w : World} {tb : Nat} {D : Row} {F : List Nat} (h : TrieR w tb D F) (a : Int) (a0 : 0 ≤ a) (a1 : a ≤ 4294967295) :
    Calls Tryz.prog 41 #[.pointer (some ⟨tb, 0, none⟩), .int .u32 a] w fun e w' => e = .returned (ansO (lastF none (covL D (a, 32)))) ∧ Ext w w' := by
  obtain ⟨t, h1, rfl⟩ := h
  exact tLongest h1 a a0 a1

theorem tnew (w : World) : Calls Tryz.prog 32 #[] w fun e w' => e = .returned (.pointer (some ⟨w.heap.size, 0, none⟩)) ∧ Ext w w' ∧ TrieR w' w.heap.size [] [w.heap.size] := by
  have h := trie_new w
  have hx : Ext w (w.alloc (.cells #[.pointer none] 96)) := (Ext.refl w).alloc _
  refine (new_any w).mono ?_
  rintro e w' ⟨rfl, rfl⟩
  exact ⟨rfl, hx, .nil, h, rfl⟩
end Go.Proofs.YtmoimkeeldlpkaaGreat.Tri

namespace Go.Proofs.YtmoimkeeldlpkaaGreat.Fb

set_option maxRecDepth 100000

open Go.RowKit Go.Proofs.YtmoimkeeldlpkaaGreat Go.Proofs.YtmoimkeeldlpkaaGreat.Rb

set_option linter.unusedVariables false

set_option linter.unusedSimpArgs false

def ubk (q : Option Addr) : List Nat := match q with
  | none => []
  | some a => [a.block]

theorem Ups.later {w w' : World} {q : Option Addr} {m : Nat} {U : List Bool} {G : List Nat} (h : Ups w q m U) (hx : ExtS G w w') (hd : ∀ x ∈ ubk q, x ∉ G) : Ups w' q m U := by
  refine ⟨h.len, h.small, ?_⟩
  rcases h.cells with h0 | ⟨b, off, rfl, hc⟩
  · exact .inl h0
  · refine .inr ⟨b, off, rfl, fun j u hj => ?_⟩
    have := hc j u hj
    unfold World.cell? at *
    rw [hx.block b (block_lt (hc j u hj)) (hd b (by simp [ubk]))]
    exact this

theorem has_any (fb : Nat) (i : Int) (q : Option Addr) (m d : Nat) (w : World) (h1 : w.cell? ⟨fb, 1, none⟩ = some (.slice q m d)) :
    Calls Tryz.prog 45 #[.pointer (some ⟨fb, 0, none⟩), .int .i64 i] w fun e w' => e = .returned (.bool (decide (0 ≤ i) && decide (i < (m : Int)))) ∧ w' = w := by
  by_cases h0 : 0 ≤ i
  · have e : (decide (0 ≤ i) && decide (i < (m : Int))) = decide (i < (m : Int)) := by simp [h0]
    rw [e]
    go_enter Tryz.func45, Tryz.ntmps45
    go_wp2_with fail
    go_ret
    exact ⟨rfl, rfl⟩
  · have e : (decide (0 ≤ i) && decide (i < (m : Int))) = false := by simp [h0]
    rw [e]
    clear e
    go_enter Tryz.func45, Tryz.ntmps45
    go_wp2_with fail
    go_ret
    exact ⟨rfl, rfl⟩

theorem of_any (fb i : Nat) (w : World) (hi : i < 4) :
    Calls Tryz.prog 40 #[.pointer (some ⟨fb, 0, none⟩), .int .i64 (i : Int)] w fun e w' => e = .returned (.pointer (some ⟨fb, 2 + i * 3, none⟩)) ∧ w' = w := by
  have h0 : ¬ ((i : Int) < 0) := by omega
  have h1 : ¬ (4 ≤ (i : Int)) := by omega
  go_enter Tryz.func40, Tryz.ntmps40
  go_wp2_with fail
  go_ret
  exact ⟨rfl, rfl⟩

theorem of_none (fb : Nat) (i : Int) (w : World) (hi : i < 0 ∨ 4 ≤ i) :
    Calls Tryz.prog 40 #[.pointer (some ⟨fb, 0, none⟩), .int .i64 i] w fun e w' => e = .returned (.pointer none) ∧ w' = w := by
  rcases hi with h0 | h0
  · go_enter Tryz.func40, Tryz.ntmps40
    go_wp2_with fail
    go_ret
    exact ⟨rfl, rfl⟩
  · have h1 : ¬ (i < 0) := by omega
    go_enter Tryz.func40, Tryz.ntmps40
    go_wp2_with fail
    go_ret
    exact ⟨rfl, rfl⟩

theorem way_no (a : Option Addr) (i : Int) (w : World) : Calls Tryz.prog 42 #[.pointer a, .int .i64 i, .bool false] w (BestAns w none) := by
  have hA : Ext w (w.alloc (.cells #[.int .i64 zeroR.t, .int .u32 zeroR.a, .int .i64 zeroR.l, .int .i64 zeroR.i, .int .u32 zeroR.g, .int .i64 zeroR.m] 33)) := (Ext.refl w).alloc _
  have HB : Hid _ := heap_new w (.cells #[.int .i64 zeroR.t, .int .u32 zeroR.a, .int .i64 zeroR.l, .int .i64 zeroR.i, .int .u32 zeroR.g, .int .i64 zeroR.m] 33)
  go_enter Tryz.func42, Tryz.ntmps42
  go_wp2_with (refine wpl_store (by rfl) 33 _ _ rfl rfl 6 w.heap.size #[.int .i64 zeroR.t, .int .u32 zeroR.a, .int .i64 zeroR.l, .int .i64 zeroR.i, .int .u32 zeroR.g, .int .i64 zeroR.m] _ _ rfl rfl HB.out rt_size rfl rfl (by simp [Value.oneCell']) ?_; intro w5 hx5 k5)
  exact bodyPost_ret (results_two Tryz.results42 _ rfl k5 Tryz.underlying33 rfl rt_size) rfl ⟨rfl, ExtX.ext hA hx5 (Nat.le_refl _)⟩

theorem way_yes (fb o : Nat) (p : Option Addr) (n c : Nat) (A : List Rt) (k : Nat) (r : Rt) (w : World) (hc : w.cell? ⟨fb, o, none⟩ = some (.slice p n c)) (hR : Rd w p n c A) (hk : A[k]? = some r) :
    Calls Tryz.prog 42 #[.pointer (some ⟨fb, o, none⟩), .int .i64 (k : Int), .bool true] w (BestAns w (some r)) := by
  have hA : Ext w (w.alloc (.cells #[.int .i64 0, .int .u32 0, .int .i64 0, .int .i64 0, .int .u32 0, .int .i64 0] 33)) := (Ext.refl w).alloc _
  have HB : Hid _ := heap_new w (.cells #[.int .i64 0, .int .u32 0, .int .i64 0, .int .i64 0, .int .u32 0, .int .i64 0] 33)
  have hn := hR.len
  have hkn : k < n := by rw [← hn]; exact (List.getElem?_eq_some_iff.1 hk).1
  have hki : (k : Int) < (n : Int) := by omega
  have hc' : (w.alloc (.cells #[.int .i64 0, .int .u32 0, .int .i64 0, .int .i64 0, .int .u32 0, .int .i64 0] 33)).cell? ⟨fb, o, none⟩ = some (.slice p n c) := by rw [hA.below.cell (p := ⟨fb, o, none⟩) (block_lt hc)]; exact hc
  obtain ⟨b, off, rfl, hb, g0, g1, g2, g3, g4, g5⟩ := (hR.ext hA).cell hk
  clear hc hR hk hn hA
  go_enter Tryz.func42, Tryz.ntmps42
  go_wp2_with (refine wpl_store (by rfl) 33 _ _ rfl rfl 6 w.heap.size #[.int .i64 r.t, .int .u32 r.a, .int .i64 r.l, .int .i64 r.i, .int .u32 r.g, .int .i64 r.m] _ _ rfl rfl HB.out rt_size rfl rfl (by simp [Value.oneCell']) ?_; intro w5 hx5 k5)
  exact bodyPost_ret (results_two Tryz.results42 _ rfl k5 Tryz.underlying33 rfl rt_size) rfl ⟨rfl, ExtX.ext ((Ext.refl w).alloc _) hx5 (Nat.le_refl _)⟩
end Go.Proofs.YtmoimkeeldlpkaaGreat.Fb

namespace Go.Proofs.YtmoimkeeldlpkaaGreat.Dr

set_option maxRecDepth 100000

open Go.RowKit Go.Proofs.YtmoimkeeldlpkaaGreat Go.Proofs.YtmoimkeeldlpkaaGreat.Tri

set_option linter.unusedVariables false

/-- A row of numbers of four bytes, of the call's own. -/
def OwnU (w : World) (B : Nat) (v : Value) (xs : List Nat) : Prop := w.ownsRow B 29 1 v xs.length (xs.map fun y : Nat => Value.int .u32 (y : Int))

theorem OwnU.cell {w : World} {B : Nat} {v : Value} {L : List Nat} (h : OwnU w B v L) {i : Nat} {p : Nat} (hi : L[i]? = some p) :
    ∃ g c, v = .slice (some ⟨g, 0, none⟩) L.length c ∧ w.cell? ⟨g, i, none⟩ = some (.int .u32 p) := by
  obtain ⟨hl, h⟩ := h
  have hil := (List.getElem?_eq_some_iff.1 hi).1
  rcases h with ⟨_, h0⟩ | ⟨g, cap, cur, rfl, _, hg, _, _, _, hc⟩
  · omega
  · have h1 : (L.map fun y : Nat => Value.int .u32 (y : Int))[i]? = some (.int .u32 p) := by simp [hi]
    refine ⟨g, cap, rfl, ?_⟩
    rw [heap_cell hg, ← Array.getElem?_toList]
    rw [← hc, List.getElem?_take, if_pos (by omega)] at h1
    exact h1

theorem info_u32 : ∃ i, Tryz.prog.info? 29 = some i ∧ i.zero = some (.int .u32 0) ∧ i.size = 1 ∧ i.bytes = 4 := ⟨_, rfl, by kernel_rfl, by kernel_rfl, by kernel_rfl⟩

/-- append(row, n). -/
theorem append_u32 {w : World} {ops : Array Oper} {rest : List Oper} {o : Oper} {a : Act} {Q : Exit → Act → World → Prop} (hgd : o.guard = none) (s x : Operand)
    (ho : o.op = .call { callee := .builtin .append, args := #[s, x], argTypes := #[39, 39] })
    (B : Nat) (v : Value) (L : List Nat) (hs : a.eval s = v) (hown : OwnU w B v L)
    (g c : Nat) (y : Nat) (hx : a.eval x = .slice (some ⟨g, 0, none⟩) 1 c) (hu : w.heap[g]? = some (.cells #[.int .u32 y] 29 (0, 0)))
    (hsm : L.length ≤ 10000000) (hbase : B ≤ w.heap.size)
    (h : ∀ v' w', OwnU w' B v' (L ++ [y]) → w.grownBy w' v.ownBlock → (v'.ownBlock = v.ownBlock ∨ v'.ownBlock = some w.heap.size) → wpList Tryz.prog ops Q rest (a.put o.dst v') w') : wpList Tryz.prog ops Q (o :: rest) a w := by
  obtain ⟨i, hi, hz, hsz, hby⟩ := info_u32
  refine wpList_append_own_at w hgd s x 39 ho B 29 i _ 1 4 Tryz.underlying39 hi hz hsz hby rfl (by omega) v L.length _ hs hown ⟨g, 0, none⟩ 1 c [.int .u32 y] hx rfl ?_ ?_ (by unfold maxLen; omega) (by omega) hbase ?_
  · intro j u hj
    match j, hj with
    | 0, hj =>
      obtain rfl : Value.int .u32 y = u := by simpa using hj
      show w.cell? ((⟨g, 0, none⟩ : Addr).add 0) = _
      rw [show (⟨g, 0, none⟩ : Addr).add 0 = ⟨g, 0, none⟩ from rfl, heap_cell hu]; rfl
    | j + 1, hj => simp at hj
  · intro u hu'
    rw [List.mem_singleton.1 hu']; rfl
  · intro v' w' h2 h3 _ h5
    refine h v' w' ?_ h3 h5
    unfold OwnU
    rw [List.map_append, List.length_append]
    exact h2

set_option maxHeartbeats 1000000 in
theorem has_any (B : Nat) (v : Value) (xs : List Nat) (y : Nat) (w : World) (h : OwnU w B v xs) (hl : xs.length ≤ 1000000) :
    Calls Tryz.prog 93 #[v, .int .u32 y] w fun e w' => e = .returned (.bool (decide (y ∈ xs))) ∧ w' = w := by
  obtain ⟨a, cp, rfl, -, -, -⟩ := owns_slice h
  have H : Hid (OwnU w B (.slice a xs.length cp) xs) := h
  clear h
  obtain ⟨r, hr⟩ : ∃ r, r = decide (y ∈ xs) := ⟨_, rfl⟩
  rw [← hr]
  have HR : Hid (r = decide (y ∈ xs)) := hr
  clear hr
  go_enter Tryz.func93, Tryz.ntmps93
  go_wp2_with fail
  go_loopw [5] (fun i wr => ∃ k : Nat, k ≤ xs.length ∧ i = .int .i64 k ∧ wr = w ∧ Hid (∀ j, j < k → xs[j]? ≠ some y)) (fun i _ => xs.length - (intOf i).toNat)
  case atStart => exact ⟨0, Nat.zero_le _, rfl, rfl, fun j hj => absurd hj (Nat.not_lt_zero _)⟩
  case round =>
    obtain ⟨k, hk, rfl, rfl, HK⟩ := hrel
    by_cases hlt : k < xs.length
    · obtain ⟨x, hx⟩ : ∃ x, xs[k]? = some x := ⟨_, List.getElem?_eq_getElem hlt⟩
      obtain ⟨g, c, e, hc⟩ := H.out.cell hx
      cases e
      by_cases e : x = y
      · subst e
        go_wp2_with fail
        go_ret
        exact ⟨by rw [HR.out, decide_eq_true (List.mem_of_getElem? hx)]; rfl, rfl⟩
      · have e' : ((x : Int) == (y : Int)) = false := by rw [beq_eq_false_iff_ne]; omega
        go_wp2_with fail
        refine ⟨⟨k + 1, by omega, by simp, trivial, fun j hj => ?_⟩, by simp only [intOf]; omega⟩
        by_cases ej : j = k
        · subst ej; rw [hx]; simpa using e
        · exact HK.out j (by omega)
    · obtain rfl : k = xs.length := by omega
      go_wp2_with fail
      go_ret
      refine ⟨?_, rfl⟩
      rw [HR.out, decide_eq_false]
      · rfl
      · intro hm
        obtain ⟨j, hj, e⟩ := List.getElem_of_mem hm
        exact HK.out j hj (by rw [List.getElem?_eq_getElem hj, e])

theorem own_next {K : List PX} {k A N : Nat} (hk : K[k]? = some ((A : Int), (N : Int))) (hp : Vp ((A : Int), (N : Int))) : ownN (K.take (k + 1)) = ownN (K.take k) + moreN (K.take k) A (lvN N) := by
  have e : K.take (k + 1) = K.take k ++ [((A : Int), (N : Int))] := by
    rw [List.take_add_one, hk]; rfl
  rw [e, own_perm (List.perm_append_singleton _ _)]
  have := own_cons _ hp (K.take k)
  simpa using this

theorem dom_next {K : List PX} {k A N : Nat} (hk : K[k]? = some ((A : Int), (N : Int))) (j n : Nat) : domB (K.take (k + 1)) j n = true ↔ domB (K.take k) j n = true ∨ (loN j ≤ N ∧ A / 2 ^ beN (j - 1) = n) := by
  have e : K.take (k + 1) = K.take k ++ [((A : Int), (N : Int))] := by
    rw [List.take_add_one, hk]; rfl
  rw [e, dom_app]
  simp

/-- Where Owned stands: what its rows hold. -/
def Rows2 (K : List PX) (k : Nat) (hs bs : List Nat) : Prop := (∀ y, y ∈ hs ↔ domB (K.take k) 1 y = true) ∧ (∀ y, y ∈ bs ↔ domB (K.take k) 2 y = true) ∧ hs.length ≤ k ∧ bs.length ≤ k

/-- The two rows in memory. -/
def Mem2 (w wr : World) (vh vb : Value) (hs bs : List Nat) : Prop := OwnU wr w.heap.size vh hs ∧ OwnU wr w.heap.size vb bs ∧ (∀ g, vh.ownBlock = some g → vb.ownBlock ≠ some g)

theorem Mem2.put1 {w wr w' : World} {vh vb v' : Value} {hs bs : List Nat} {y : Nat} (h : Mem2 w wr vh vb hs bs) (h1 : OwnU w' w.heap.size v' (hs ++ [y])) (h2 : wr.grownBy w' vh.ownBlock) (h3 : v'.ownBlock = vh.ownBlock ∨ v'.ownBlock = some wr.heap.size) : Mem2 w w' v' vb (hs ++ [y]) bs := by
  obtain ⟨a, b, c⟩ := h
  have far : ∀ g, vb.ownBlock = some g → some g ≠ vh.ownBlock := fun g hg e => c g e.symm hg
  refine ⟨h1, ?_, fun g hg hb => ?_⟩
  · obtain ⟨hl, hh⟩ := b
    refine ⟨hl, ?_⟩
    rcases hh with hh | ⟨g, cap, cur, rfl, hB, hg, r⟩
    · exact .inl hh
    · exact .inr ⟨g, cap, cur, rfl, hB, (h2.block g (heap_lt hg) (far g rfl)).trans hg, r⟩
  · rcases h3 with h3 | h3
    · exact c g (h3 ▸ hg) hb
    · rw [h3] at hg
      cases hg
      have := (owns_block b hb).2.1
      omega

theorem Mem2.put2 {w wr w' : World} {vh vb v' : Value} {hs bs : List Nat} {y : Nat} (h : Mem2 w wr vh vb hs bs) (h1 : OwnU w' w.heap.size v' (bs ++ [y])) (h2 : wr.grownBy w' vb.ownBlock) (h3 : v'.ownBlock = vb.ownBlock ∨ v'.ownBlock = some wr.heap.size) : Mem2 w w' vh v' hs (bs ++ [y]) := by
  obtain ⟨a, b, c⟩ := h
  have hsw : Mem2 w wr vb vh bs hs := ⟨b, a, fun g hg hh => c g hh hg⟩
  obtain ⟨a', b', c'⟩ := hsw.put1 h1 h2 h3
  exact ⟨b', a', fun g hg hh => c' g hh hg⟩

theorem Mem2.ext {w wr w' : World} {vh vb : Value} {hs bs : List Nat} (h : Mem2 w wr vh vb hs bs) (hx : Ext wr w') : Mem2 w w' vh vb hs bs := ⟨owns_later h.1 hx, owns_later h.2.1 hx, h.2.2⟩

theorem cellK {w w' : World} (hx : Ext w w') {b j : Nat} {u : Value} (hb : b < w.heap.size) (h : w.cell? ⟨b, j, none⟩ = some u) : w'.cell? ⟨b, j, none⟩ = some u := by
  rw [hx.cell (p := ⟨b, j, none⟩) hb]; exact h

set_option maxHeartbeats 4000000 in
theorem owned_any (B : Nat) (vp : Value) (K : List PX) (w : World) (h : OwnP w B vp K) (hv : ∀ p ∈ K, Vp p) (hl : K.length ≤ 100000) :
    Calls Tryz.prog 73 #[vp] w fun e w' => e = .returned (.int .i64 (ownN K : Nat)) ∧ Ext w w' := by
  obtain ⟨a, cp, rfl, -, -, -⟩ := owns_slice h
  have H : Hid (OwnP w B (.slice a K.length cp) K) := h
  have HV : Hid (∀ p ∈ K, Vp p) := hv
  have hnot : ∀ (x : Bool) (w : World), (Op.unary .not (.bool x)).run Tryz.prog w = .ok (.bool (!x)) w := fun _ _ => rfl
  clear h hv
  go_enter Tryz.func73, Tryz.ntmps73
  go_wp2_with fail
  go_loopw [3, 4, 5, 6] (fun n vh vb i wr => ∃ (k : Nat) (hs bs : List Nat), k ≤ K.length ∧ i = .int .i64 k ∧ n = .int .i64 (ownN (K.take k) : Nat) ∧ Ext w wr ∧ Hid (Mem2 w wr vh vb hs bs) ∧ Hid (Rows2 K k hs bs)) (fun _ _ _ i _ => K.length - (intOf i).toNat)
  case atStart => exact ⟨0, [], [], Nat.zero_le _, rfl, rfl, Ext.refl w, ⟨World.ownsRow_nil _ _ _ _, World.ownsRow_nil _ _ _ _, (fun g hg => by cases hg)⟩, ⟨by simp [domB], by simp [domB], Nat.le_refl _, Nat.le_refl _⟩⟩
  case round =>
    obtain ⟨k, hs, bs, hk, rfl, rfl, hx, HM, HR⟩ := hrel
    by_cases hlt : k < K.length
    · obtain ⟨p, hpk⟩ : ∃ p, K[k]? = some p := ⟨_, List.getElem?_eq_getElem hlt⟩
      have hvp := HV.out p (List.mem_of_getElem? hpk)
      have hvp' := hvp
      obtain ⟨A, N, rfl, hN, hA, hZ⟩ := hvp'
      obtain ⟨g, c', e, g0, g1⟩ := OwnP.cell H.out hpk
      cases e
      have hgl := World.block_lt_of_cell? w _ g0
      simp only at g0 g1
      have hnx := own_next hpk hvp
      have hd1 := fun n => dom_next hpk 1 n
      have hd2 := fun n => dom_next hpk 2 n
      have hok := own_le (K.take k)
      have htl : (K.take k).length ≤ 100000 := by rw [List.length_take]; omega
      obtain ⟨r1, r2, r3, r4⟩ := HR.out
      have hki : (k : Int) < (K.length : Int) := by omega
      have kh1 := has_any w.heap.size u4 hs (A / 65536) wr HM.out.1 (by omega)
      have kh2 := fun W (h : Mem2 w W u4 u5 hs bs) => has_any w.heap.size u5 bs (A / 256) W h.2.1 (by omega)
      have kh3 := fun W (v' : Value) (h : Mem2 w W v' u5 (hs ++ [A / 65536]) bs) => has_any w.heap.size u5 bs (A / 256) W h.2.1 (by omega)
      have hq1 : ((A / 65536 : Nat) : Int) = (A : Int) / 65536 := by omega
      have hq2 : ((A / 256 : Nat) : Int) = (A : Int) / 256 := by omega
      have q0 := cellK hx hgl g0
      have q1 := cellK hx hgl g1
      have HG : Hid (w.cell? ⟨g, k * 2, none⟩ = some (.int .u32 (A : Int)) ∧ w.cell? ⟨g, k * 2 + 1, none⟩ = some (.int .i64 (N : Int))) := ⟨g0, g1⟩
      rw [hq1] at kh1
      simp only [hq2] at kh2 kh3
      have hmem1 : (A / 65536 ∈ hs) ↔ domB (K.take k) 1 (plN 0 A) = true := r1 _
      have hmem2 : (A / 256 ∈ bs) ↔ domB (K.take k) 2 (plN 1 A) = true := r2 _
      generalize hoc : ownN (K.take k) = oc at *
      clear g0 g1
      have HU1 : ∀ W : World, (W.alloc (.cells #[.int .u32 ((A : Int) / 65536)] 29)).heap[W.heap.size]? = some (.cells #[.int .u32 ((A / 65536 : Nat) : Int)] 29 (0, 0)) := fun W => by rw [hq1]; exact heap_new W _
      have HU2 : ∀ W : World, (W.alloc (.cells #[.int .u32 ((A : Int) / 256)] 29)).heap[W.heap.size]? = some (.cells #[.int .u32 ((A / 256 : Nat) : Int)] 29 (0, 0)) := fun W => by rw [hq2]; exact heap_new W _
      have tok1 : Hid True := trivial
      have tok2 : Hid True := trivial
      have HD1 : Hid _ := hd1
      have HD2 : Hid _ := hd2
      have HNX : Hid _ := hnx
      have HRR : Hid (Rows2 K k hs bs) := HR.out
      clear hd1 hd2 hnx r1 r2 HR
      rcases (by omega : N ≤ 16 ∨ (16 < N ∧ N ≤ 24) ∨ 24 < N) with h | h | h
      · have i16 : (N : Int) ≤ 16 := by omega
        have i24 : (N : Int) ≤ 24 := by omega
        go_wp2_with (fail)
        refine ⟨⟨k + 1, hs, bs, by omega, by simp, ?_, hx, HM.out, ?_⟩, by simp only [intOf]; omega⟩
        · rw [HNX.out, show lvN N = 0 by unfold lvN; rw [if_pos h]]
          simp [moreN]
        · obtain ⟨r1, r2, r3, r4⟩ := HRR.out
          refine ⟨fun y => ?_, fun y => ?_, ?_, ?_⟩
          · rw [HD1.out y, ← r1 y]
            constructor
            · exact fun h => .inl h
            · rintro (h' | ⟨h', -⟩)
              · exact h'
              · simp only [loN] at h'; omega
          · rw [HD2.out y, ← r2 y]
            constructor
            · exact fun h => .inl h
            · rintro (h' | ⟨h', -⟩)
              · exact h'
              · simp only [loN] at h'; omega
          · omega
          · omega
      · have i16 : 16 < (N : Int) := by omega
        have i24 : (N : Int) ≤ 24 := by omega
        by_cases hm1 : A / 65536 ∈ hs
        · rw [decide_eq_true hm1] at kh1
          go_wp2_with ((go_at_call 93; clear tok1; refine kh1.mono ?_; rintro e w2 ⟨rfl, rfl⟩))
          refine ⟨⟨k + 1, hs, bs, by omega, by simp, ?_, hx, HM.out, ?_⟩, by simp only [intOf]; omega⟩
          · rw [HNX.out, show lvN N = 1 by unfold lvN; rw [if_neg (by omega), if_pos h.2]]
            have z1 : domB (K.take k) (0 + 1) (plN 0 A) = true := hmem1.1 hm1
            simp only [moreN, z1]
            simp <;> omega
          · obtain ⟨r1, r2, r3, r4⟩ := HRR.out
            refine ⟨fun y => ?_, fun y => ?_, ?_, ?_⟩
            · rw [HD1.out y, ← r1 y]
              constructor
              · exact fun h => .inl h
              · rintro (h' | ⟨-, h'⟩)
                · exact h'
                · rw [← h']; exact hm1
            · rw [HD2.out y, ← r2 y]
              constructor
              · exact fun h => .inl h
              · rintro (h' | ⟨h', -⟩)
                · exact h'
                · simp only [loN] at h'; omega
            · omega
            · omega
        · rw [decide_eq_false hm1] at kh1
          go_wp2_with (first | (go_at_call 93; clear tok1; refine kh1.mono ?_; rintro e w2 ⟨rfl, rfl⟩) | (at_builtin; clear tok2; refine append_u32 rfl (.tmp 30) (.tmp 37) rfl w.heap.size u4 hs rfl (owns_later HM.out.1 ((Ext.refl _).alloc _)) _ 1 (A / 65536) rfl (HU1 _) (by omega) (Nat.le_trans hx.size ((Ext.refl _).alloc _).size) ?_; intro v3 w3 hown3 hgrow3 hat3; have M3 := (HM.out.ext ((Ext.refl _).alloc _)).put1 hown3 hgrow3 hat3; have hx3 : Ext w w3 := grown_ext (hx.trans ((Ext.refl _).alloc _)) (owns_later HM.out.1 ((Ext.refl _).alloc _)) hgrow3; have q2 := cellK hx3 hgl HG.out.1; have q3 := cellK hx3 hgl HG.out.2; clear hown3 hgrow3 hat3))
          refine ⟨⟨k + 1, (hs ++ [A / 65536]), bs, by omega, by simp, ?_, hx3, M3, ?_⟩, by simp only [intOf]; omega⟩
          · rw [HNX.out, show lvN N = 1 by unfold lvN; rw [if_neg (by omega), if_pos h.2]]
            have z1 : domB (K.take k) (0 + 1) (plN 0 A) = false := by
              cases hh : domB (K.take k) (0 + 1) (plN 0 A) with
              | false => rfl
              | true => exact absurd (hmem1.2 hh) hm1
            simp only [moreN, z1]
            simp <;> omega
          · obtain ⟨r1, r2, r3, r4⟩ := HRR.out
            refine ⟨fun y => ?_, fun y => ?_, ?_, ?_⟩
            · rw [HD1.out y, List.mem_append, r1 y, List.mem_singleton]
              constructor
              · rintro (h' | h')
                · exact .inl h'
                · exact .inr ⟨by simp only [loN]; omega, h'.symm⟩
              · rintro (h' | ⟨-, h'⟩)
                · exact .inl h'
                · exact .inr h'.symm
            · rw [HD2.out y, ← r2 y]
              constructor
              · exact fun h => .inl h
              · rintro (h' | ⟨h', -⟩)
                · exact h'
                · simp only [loN] at h'; omega
            · rw [List.length_append]; simp only [List.length_cons, List.length_nil]; omega
            · omega
      · have i16 : 16 < (N : Int) := by omega
        have i24 : 24 < (N : Int) := by omega
        by_cases hm1 : A / 65536 ∈ hs
        · rw [decide_eq_true hm1] at kh1
          by_cases hm2 : A / 256 ∈ bs
          · simp only [decide_eq_true hm2] at kh2 kh3
            go_wp2_with (first | (go_at_call 93; clear tok1; refine kh1.mono ?_; rintro e w2 ⟨rfl, rfl⟩) | (go_at_call 93; refine (kh2 _ HM.out).mono ?_; rintro e w4 ⟨rfl, rfl⟩))
            refine ⟨⟨k + 1, hs, bs, by omega, by simp, ?_, hx, HM.out, ?_⟩, by simp only [intOf]; omega⟩
            · rw [HNX.out, show lvN N = 2 by unfold lvN; rw [if_neg (by omega), if_neg (by omega)]]
              have z1 : domB (K.take k) (0 + 1) (plN 0 A) = true := hmem1.1 hm1
              have z2 : domB (K.take k) (1 + 1) (plN 1 A) = true := hmem2.1 hm2
              simp only [moreN, z1, z2]
              simp <;> omega
            · obtain ⟨r1, r2, r3, r4⟩ := HRR.out
              refine ⟨fun y => ?_, fun y => ?_, ?_, ?_⟩
              · rw [HD1.out y, ← r1 y]
                constructor
                · exact fun h => .inl h
                · rintro (h' | ⟨-, h'⟩)
                  · exact h'
                  · rw [← h']; exact hm1
              · rw [HD2.out y, ← r2 y]
                constructor
                · exact fun h => .inl h
                · rintro (h' | ⟨-, h'⟩)
                  · exact h'
                  · rw [← h']; exact hm2
              · omega
              · omega
          · simp only [decide_eq_false hm2] at kh2 kh3
            go_wp2_with (first | (go_at_call 93; clear tok1; refine kh1.mono ?_; rintro e w2 ⟨rfl, rfl⟩) | (go_at_call 93; refine (kh2 _ HM.out).mono ?_; rintro e w4 ⟨rfl, rfl⟩) | (at_builtin; refine append_u32 rfl (.tmp 58) (.tmp 65) rfl w.heap.size u5 bs rfl (owns_later HM.out.2.1 ((Ext.refl _).alloc _)) _ 1 (A / 256) rfl (HU2 _) (by omega) (Nat.le_trans hx.size ((Ext.refl _).alloc _).size) ?_; intro v5 w5 hown5 hgrow5 hat5; have M5 := (HM.out.ext ((Ext.refl _).alloc _)).put2 hown5 hgrow5 hat5; have hx5 : Ext w w5 := grown_ext (hx.trans ((Ext.refl _).alloc _)) (owns_later HM.out.2.1 ((Ext.refl _).alloc _)) hgrow5; clear hown5 hgrow5 hat5))
            refine ⟨⟨k + 1, hs, (bs ++ [A / 256]), by omega, by simp, ?_, hx5, M5, ?_⟩, by simp only [intOf]; omega⟩
            · rw [HNX.out, show lvN N = 2 by unfold lvN; rw [if_neg (by omega), if_neg (by omega)]]
              have z1 : domB (K.take k) (0 + 1) (plN 0 A) = true := hmem1.1 hm1
              have z2 : domB (K.take k) (1 + 1) (plN 1 A) = false := by
                cases hh : domB (K.take k) (1 + 1) (plN 1 A) with
                | false => rfl
                | true => exact absurd (hmem2.2 hh) hm2
              simp only [moreN, z1, z2]
              simp <;> omega
            · obtain ⟨r1, r2, r3, r4⟩ := HRR.out
              refine ⟨fun y => ?_, fun y => ?_, ?_, ?_⟩
              · rw [HD1.out y, ← r1 y]
                constructor
                · exact fun h => .inl h
                · rintro (h' | ⟨-, h'⟩)
                  · exact h'
                  · rw [← h']; exact hm1
              · rw [HD2.out y, List.mem_append, r2 y, List.mem_singleton]
                constructor
                · rintro (h' | h')
                  · exact .inl h'
                  · exact .inr ⟨by simp only [loN]; omega, h'.symm⟩
                · rintro (h' | ⟨-, h'⟩)
                  · exact .inl h'
                  · exact .inr h'.symm
              · omega
              · rw [List.length_append]; simp only [List.length_cons, List.length_nil]; omega
        · rw [decide_eq_false hm1] at kh1
          by_cases hm2 : A / 256 ∈ bs
          · simp only [decide_eq_true hm2] at kh2 kh3
            go_wp2_with (first | (go_at_call 93; clear tok1; refine kh1.mono ?_; rintro e w2 ⟨rfl, rfl⟩) | (at_builtin; clear tok2; refine append_u32 rfl (.tmp 30) (.tmp 37) rfl w.heap.size u4 hs rfl (owns_later HM.out.1 ((Ext.refl _).alloc _)) _ 1 (A / 65536) rfl (HU1 _) (by omega) (Nat.le_trans hx.size ((Ext.refl _).alloc _).size) ?_; intro v3 w3 hown3 hgrow3 hat3; have M3 := (HM.out.ext ((Ext.refl _).alloc _)).put1 hown3 hgrow3 hat3; have hx3 : Ext w w3 := grown_ext (hx.trans ((Ext.refl _).alloc _)) (owns_later HM.out.1 ((Ext.refl _).alloc _)) hgrow3; have q2 := cellK hx3 hgl HG.out.1; have q3 := cellK hx3 hgl HG.out.2; clear hown3 hgrow3 hat3) | (go_at_call 93; refine (kh3 _ _ M3).mono ?_; rintro e w4 ⟨rfl, rfl⟩))
            refine ⟨⟨k + 1, (hs ++ [A / 65536]), bs, by omega, by simp, ?_, hx3, M3, ?_⟩, by simp only [intOf]; omega⟩
            · rw [HNX.out, show lvN N = 2 by unfold lvN; rw [if_neg (by omega), if_neg (by omega)]]
              have z1 : domB (K.take k) (0 + 1) (plN 0 A) = false := by
                cases hh : domB (K.take k) (0 + 1) (plN 0 A) with
                | false => rfl
                | true => exact absurd (hmem1.2 hh) hm1
              have z2 : domB (K.take k) (1 + 1) (plN 1 A) = true := hmem2.1 hm2
              simp only [moreN, z1, z2]
              simp <;> omega
            · obtain ⟨r1, r2, r3, r4⟩ := HRR.out
              refine ⟨fun y => ?_, fun y => ?_, ?_, ?_⟩
              · rw [HD1.out y, List.mem_append, r1 y, List.mem_singleton]
                constructor
                · rintro (h' | h')
                  · exact .inl h'
                  · exact .inr ⟨by simp only [loN]; omega, h'.symm⟩
                · rintro (h' | ⟨-, h'⟩)
                  · exact .inl h'
                  · exact .inr h'.symm
              · rw [HD2.out y, ← r2 y]
                constructor
                · exact fun h => .inl h
                · rintro (h' | ⟨-, h'⟩)
                  · exact h'
                  · rw [← h']; exact hm2
              · rw [List.length_append]; simp only [List.length_cons, List.length_nil]; omega
              · omega
          · simp only [decide_eq_false hm2] at kh2 kh3
            go_wp2_with (first | (go_at_call 93; clear tok1; refine kh1.mono ?_; rintro e w2 ⟨rfl, rfl⟩) | (at_builtin; clear tok2; refine append_u32 rfl (.tmp 30) (.tmp 37) rfl w.heap.size u4 hs rfl (owns_later HM.out.1 ((Ext.refl _).alloc _)) _ 1 (A / 65536) rfl (HU1 _) (by omega) (Nat.le_trans hx.size ((Ext.refl _).alloc _).size) ?_; intro v3 w3 hown3 hgrow3 hat3; have M3 := (HM.out.ext ((Ext.refl _).alloc _)).put1 hown3 hgrow3 hat3; have hx3 : Ext w w3 := grown_ext (hx.trans ((Ext.refl _).alloc _)) (owns_later HM.out.1 ((Ext.refl _).alloc _)) hgrow3; have q2 := cellK hx3 hgl HG.out.1; have q3 := cellK hx3 hgl HG.out.2; clear hown3 hgrow3 hat3) | (go_at_call 93; refine (kh3 _ _ M3).mono ?_; rintro e w4 ⟨rfl, rfl⟩) | (at_builtin; refine append_u32 rfl (.tmp 58) (.tmp 65) rfl w.heap.size u5 bs rfl (owns_later M3.2.1 ((Ext.refl _).alloc _)) _ 1 (A / 256) rfl (HU2 _) (by omega) (Nat.le_trans hx3.size ((Ext.refl _).alloc _).size) ?_; intro v5 w5 hown5 hgrow5 hat5; have M5 := (M3.ext ((Ext.refl _).alloc _)).put2 hown5 hgrow5 hat5; have hx5 : Ext w w5 := grown_ext (hx3.trans ((Ext.refl _).alloc _)) (owns_later M3.2.1 ((Ext.refl _).alloc _)) hgrow5; clear hown5 hgrow5 hat5))
            refine ⟨⟨k + 1, (hs ++ [A / 65536]), (bs ++ [A / 256]), by omega, by simp, ?_, hx5, M5, ?_⟩, by simp only [intOf]; omega⟩
            · rw [HNX.out, show lvN N = 2 by unfold lvN; rw [if_neg (by omega), if_neg (by omega)]]
              have z1 : domB (K.take k) (0 + 1) (plN 0 A) = false := by
                cases hh : domB (K.take k) (0 + 1) (plN 0 A) with
                | false => rfl
                | true => exact absurd (hmem1.2 hh) hm1
              have z2 : domB (K.take k) (1 + 1) (plN 1 A) = false := by
                cases hh : domB (K.take k) (1 + 1) (plN 1 A) with
                | false => rfl
                | true => exact absurd (hmem2.2 hh) hm2
              simp only [moreN, z1, z2]
              simp <;> omega
            · obtain ⟨r1, r2, r3, r4⟩ := HRR.out
              refine ⟨fun y => ?_, fun y => ?_, ?_, ?_⟩
              · rw [HD1.out y, List.mem_append, r1 y, List.mem_singleton]
                constructor
                · rintro (h' | h')
                  · exact .inl h'
                  · exact .inr ⟨by simp only [loN]; omega, h'.symm⟩
                · rintro (h' | ⟨-, h'⟩)
                  · exact .inl h'
                  · exact .inr h'.symm
              · rw [HD2.out y, List.mem_append, r2 y, List.mem_singleton]
                constructor
                · rintro (h' | h')
                  · exact .inl h'
                  · exact .inr ⟨by simp only [loN]; omega, h'.symm⟩
                · rintro (h' | ⟨-, h'⟩)
                  · exact .inl h'
                  · exact .inr h'.symm
              · rw [List.length_append]; simp only [List.length_cons, List.length_nil]; omega
              · rw [List.length_append]; simp only [List.length_cons, List.length_nil]; omega
    · obtain rfl : k = K.length := by omega
      go_wp2_with fail
      go_ret
      exact ⟨by rw [List.take_length]; rfl, hx⟩
end Go.Proofs.YtmoimkeeldlpkaaGreat.Dr
