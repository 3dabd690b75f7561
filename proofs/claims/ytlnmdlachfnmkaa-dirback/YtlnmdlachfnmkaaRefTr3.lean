/- The document's Set of a prefix that is not there. -/
import Derived.Test.YtlnmdlachfnmkaaRefTr2
namespace Go.Proofs.Ytlnmdlachfnmkaa.Tri
set_option maxRecDepth 100000
open Go.RowKit Go.Proofs.Ytlnmdlachfnmkaa
set_option linter.unusedVariables false

/-- How a part of a slice is taken. -/
def Cuts (t : TypeId) (v : Value) (lo hi : Option Int) (p : Option Addr) (m c : Nat) : Prop :=
  ∀ w, (Instr.slice t v (lo.map (Value.int .i64)) (hi.map (Value.int .i64)) none).run Try.prog w = .ok (.slice p m c) w

/-- The document's Trie has new rows. -/
def NewRows (w : World) (xb n : Nat) (yp yi : List Value) (w' : World) : Prop :=
  ∃ up ui, w'.heap[xb]? = some (.cells #[up, ui] 38 (0, 0)) ∧ w'.ownsRow w.heap.size 30 2 up n yp ∧ w'.ownsRow w.heap.size 3 1 ui n yi ∧ up ≠ .slice none 0 0 ∧ ui ≠ .slice none 0 0 ∧ ExtS [xb] w w'

set_option maxHeartbeats 1000000 in
theorem refSet_walk (xb : Nat) (c m v : Int) (k n : Nat) (vp vi : Value) (p1 p2 p3 p4 : Option Addr) (c1 c2 c3 c4 : Nat) (y1 y2 y3 y4 : List Value) (w : World) (hkn : k ≤ n) (hn : n ≤ 1000000)
    (hX : w.heap[xb]? = some (.cells #[vp, vi] 38 (0, 0)))
    (k0 : ∀ w, Calls Try.prog 41 #[.agg #[.int .u32 c, .int .i64 m]] w fun e w' => e = .returned (.bool true) ∧ Ext w w')
    (k1 : ∀ w', Ext w w' → Calls Try.prog 42 #[.pointer (some ⟨xb, 0, none⟩), .agg #[.int .u32 c, .int .i64 m]] w' fun e w2 => e = .returned (.tuple #[.int .i64 (k : Int), .bool false]) ∧ Ext w' w2)
    (t1 : Cuts 35 vp none (some k) p1 k c1) (t2 : Cuts 35 vp (some k) none p2 (n - k) c2) (t3 : Cuts 36 vi none (some k) p3 k c3) (t4 : Cuts 36 vi (some k) none p4 (n - k) c4)
    (s1 : Src w 2 p1 k c1 y1) (s2 : Src w 2 p2 (n - k) c2 y2) (s3 : Src w 1 p3 k c3 y3) (s4 : Src w 1 p4 (n - k) c4 y4) :
    Calls Try.prog 22 #[.pointer (some ⟨xb, 0, none⟩), .agg #[.int .u32 c, .int .i64 m], .int .i64 v] w fun e w' => e = .returned (.int .i64 0) ∧
      NewRows w xb (n + 1) (y1 ++ [.int .u32 c, .int .i64 m] ++ y2) (y3 ++ [.int .i64 v] ++ y4) w' := by
  have hA : Ext w (w.alloc (.cells #[.int .u32 c, .int .i64 m] 30)) := (Ext.refl w).alloc _
  have HQ : Hid _ := heap_new w (.cells #[.int .u32 c, .int .i64 m] 30)
  have q0 : (w.alloc (.cells #[.int .u32 c, .int .i64 m] 30)).cell? ⟨w.heap.size, 0, none⟩ = some (.int .u32 c) := by rw [heap_cell HQ.out]; rfl
  have q1 : (w.alloc (.cells #[.int .u32 c, .int .i64 m] 30)).cell? ⟨w.heap.size, 1, none⟩ = some (.int .i64 m) := by rw [heap_cell HQ.out]; rfl
  have HX : Hid _ := hX
  have HS : Hid (Src w 2 p1 k c1 y1 ∧ Src w 2 p2 (n - k) c2 y2 ∧ Src w 1 p3 k c3 y3 ∧ Src w 1 p4 (n - k) c4 y4) := ⟨s1, s2, s3, s4⟩
  have u1 : ∀ w, (Instr.slice 35 vp none (some (.int .i64 k)) none).run Try.prog w = .ok (.slice p1 k c1) w := t1
  have u2 : ∀ w, (Instr.slice 35 vp (some (.int .i64 k)) none none).run Try.prog w = .ok (.slice p2 (n - k) c2) w := t2
  have u3 : ∀ w, (Instr.slice 36 vi none (some (.int .i64 k)) none).run Try.prog w = .ok (.slice p3 k c3) w := t3
  have u4 : ∀ w, (Instr.slice 36 vi (some (.int .i64 k)) none none).run Try.prog w = .ok (.slice p4 (n - k) c4) w := t4
  clear hX t1 t2 t3 t4 s1 s2 s3 s4
  go_enter Try.func22, Try.ntmps22
  go_wp2_with (first
    | (go_at_call 41; refine (k0 _).mono ?_; rintro e w0 ⟨rfl, hx0⟩; have z0 : w0.cell? ⟨w.heap.size, 0, none⟩ = some (.int .u32 c) := (by rw [heap_cell (hx0.heap HQ.out)]; rfl); have z1 : w0.cell? ⟨w.heap.size, 1, none⟩ = some (.int .i64 m) := (by rw [heap_cell (hx0.heap HQ.out)]; rfl))
    | (go_at_call 42; refine (k1 _ (hA.trans hx0)).mono ?_; rintro e w1 ⟨rfl, hx1⟩))
  have hxw : Ext w w1 := (hA.trans hx0).trans hx1
  have HQ1 : Hid (w1.heap[w.heap.size]? = some (.cells #[.int .u32 c, .int .i64 m] 30 (0, 0))) := (hx0.trans hx1).heap HQ.out
  have HX1 : Hid (w1.heap[xb]? = some (.cells #[vp, vi] 38 (0, 0))) := hxw.heap HX.out
  have hb1 : w.heap.size ≤ w1.heap.size := hxw.size
  clear q0 q1 z0 z1 k0 k1
  refine wp_region_makeN w1.heap.size w1.heap.size (Nat.le_refl _) [(1, 0), (2, 0), (3, 0), (4, 0), (5, 0), (6, 0), (8, 0), (0, 3), (9, 3), (0, 2), (7, 1), (9, 2), (10, 4), (11, 0)] (by kernel_rfl) (by kernel_rfl) rfl (by kernel_rfl) (fun _ _ _ _ _ => Iff.rfl) ?_
  have x0 : ∀ w', ExtN w1.heap.size w1.drew w' → w'.cell? ⟨xb, 0, none⟩ = some vp := fun w' h => by rw [heap_cell (h.heap (heap_lt HX1.out) HX1.out)]; rfl
  have q0 : ∀ w', ExtN w1.heap.size w1.drew w' → w'.cell? ⟨w.heap.size, 0, none⟩ = some (.int .u32 c) := fun w' h => by rw [heap_cell (h.heap (heap_lt HQ1.out) HQ1.out)]; rfl
  have q1 : ∀ w', ExtN w1.heap.size w1.drew w' → w'.cell? ⟨w.heap.size, 1, none⟩ = some (.int .i64 m) := fun w' h => by rw [heap_cell (h.heap (heap_lt HQ1.out) HQ1.out)]; rfl
  have hxd : Ext w1 w1.drew := (Ext.refl w1).drew
  generalize w1.drew = W at *
  iterate 7 (refine wpW_read (v := ?_) rfl (by rfl) ?_ ?_; rotate_left; (focus (intro w' hx; go_simp; first | done | with_reducible rfl)); simp only [Act.put, List.setIfInBounds_toArray, List.set_cons_zero, List.set_cons_succ])
  (refine wpW_say _ (fun g => .slice (some ⟨g, 0, none⟩) 0 0) rfl (by rfl) (fun w' => by go_simp; first | done | with_reducible rfl) ?_)
  (refine wpW_say _ (fun g => .slice (some ⟨g, 0, none⟩) 1 1) rfl (by rfl) (fun w' => by go_simp; first | done | with_reducible rfl) ?_)
  refine wpW_make _ (fun g => .slice (some ⟨g, 0, none⟩) 0 0) rfl (by rfl) (fun w' => by go_simp; first | done | with_reducible rfl) ?_; simp only [Act.put, List.setIfInBounds_toArray, List.set_cons_zero, List.set_cons_succ]
  intro W2 g hx2 hg2 hG
  refine wpW_call rfl (by rfl) (fun W3 hx3 K hK => ?_)
  refine wp_app_lit_px (.tmp 28) (.tmp 34) rfl g rfl (hx3.heap hG) w1.heap.size hg2 p1 k c1 y1 rfl (Src.ext HS.out.1 (by omega) (hxw.trans (hxd.trans (hx2.trans hx3)))) (by omega) ?_
  intro v4 W4 ho4 hne4 hx4
  refine hK _ _ hx4 ?_
  clear hK K
  simp only [Act.put, List.setIfInBounds_toArray, List.set_cons_zero, List.set_cons_succ]
  refine wpW_make _ (fun g => .slice (some ⟨g, 0, none⟩) 1 1) rfl (by rfl) (fun w' => by go_simp; first | done | with_reducible rfl) ?_; simp only [Act.put, List.setIfInBounds_toArray, List.set_cons_zero, List.set_cons_succ]
  intro W5 g5 hx5 hg5 hG5
  have ho5 := owns_later ho4 hx5
  have hx15 : Ext w1 W5 := hxd.trans (hx2.trans (hx3.trans (hx4.trans hx5)))
  refine wpW_last rfl (by rfl) (fun K hK => ?_)
  refine wp_app_px (.tmp 35) (.tmp 37) rfl w1.heap.size v4 k y1 rfl ho5 (some ⟨g5, 0, none⟩) 1 1 [.int .u32 c, .int .i64 m] rfl (src_lit2 hG5) (by omega) hx15.size ?_
  intro v6 W6 ho6 hg6 hne6
  have hn6 := grown_extN ho5 (Nat.le_refl _) hg6
  refine hK _ _ hn6 ?_
  clear hK K
  simp only [Act.put, List.setIfInBounds_toArray, List.set_cons_zero, List.set_cons_succ]
  (refine wpW_read (v := ?_) rfl (by rfl) ?_ ?_; rotate_left; (focus (intro w' hx; go_simp; first | done | with_reducible rfl)); simp only [Act.put, List.setIfInBounds_toArray, List.set_cons_zero, List.set_cons_succ])
  refine wpW_done ?_
  have hne6' : v6 ≠ .slice none 0 0 := fun e => hne4 (hne6.1 e).1
  have hx16 : Ext w1 W6 := ExtN.ext hx15 hn6 (Nat.le_refl _)
  clear x0 q0 q1 hG hG5 hg2 hg5 hx2 hx3 hx4 hx5 hxd ho4 ho5 hx15 hn6 hg6 hne6 hne4
  -- the numbers
  have hxL : Ext w1 (W6.alloc (.cells #[] 3)) := hx16.alloc _
  have hL0 : (W6.alloc (.cells #[] 3)).heap[W6.heap.size]? = some (.cells #[] 3 (0, 0)) := heap_new W6 _
  have HL0 : Hid _ := hL0
  have x1 : (W6.alloc (.cells #[] 3)).cell? ⟨xb, 1, none⟩ = some vi := by rw [heap_cell (hxL.heap HX1.out)]; rfl
  have s3 : Src (W6.alloc (.cells #[] 3)) 1 p3 k c3 y3 := Src.ext HS.out.2.2.1 (by omega) (hxw.trans hxL)
  have HS3 : Hid _ := s3
  have hb6 : w1.heap.size ≤ W6.heap.size := hx16.size
  have tok1 : Hid True := trivial
  clear hL0 s3
  go_wp2_with (first
    | (at_builtin; clear tok1; refine wpList_want rfl (fun K hK => wp_app_lit_int (.tmp 39) (.tmp 45) rfl W6.heap.size rfl HL0.out w1.heap.size hb6 p3 k c3 y3 rfl HS3.out (by omega) ?_); intro v8 W8 ho8 hne8 hx8; refine hK _ _ ?_; clear hK K; have ho9 := owns_later ho8 ((Ext.refl W8).alloc (.cells #[.int .i64 v] 3)); have hL9 := heap_new W8 (.cells #[.int .i64 v] 3); have HL9 : Hid _ := hL9; clear hL9; have hx19 : Ext w1 (W8.alloc (.cells #[.int .i64 v] 3)) := (hxL.trans hx8).alloc _)
    | (at_builtin; refine wpList_want rfl (fun K hK => wp_app_int (.tmp 46) (.tmp 48) rfl w1.heap.size v8 k y3 rfl ho9 (some ⟨W8.heap.size, 0, none⟩) 1 1 [.int .i64 v] rfl (src_lit1 HL9.out) (by omega) hx19.size ?_); intro v10 W10 ho10 hg10 hne10; refine hK _ _ ?_; clear hK K))
  have hn10 := grown_extN ho9 (Nat.le_refl _) hg10
  have hx110 : Ext w1 W10 := ExtN.ext hx19 hn10 (Nat.le_refl _)
  have hne10' : v10 ≠ .slice none 0 0 := fun e => hne8 (hne10.1 e).1
  have ho6' : W10.ownsRow w1.heap.size 30 2 v6 (k + 1) (y1 ++ [.int .u32 c, .int .i64 m]) :=
    owns_kept (owns_later ho6 (((Ext.refl W6).alloc (.cells #[] 3)).trans (hx8.trans ((Ext.refl W8).alloc (.cells #[.int .i64 v] 3))))) ho9 (by decide) hg10
  clear ho9 hg10 ho8 hn10 hx19 HL9 hx8 HL0 HS3 hxL ho6 hx16 hne8 hne10 hb6 x1
  refine wp_region_tailMR (ExtN w1.heap.size) (ExtN.refl _) (fun _ _ _ h k => h.trans k) [0, 1] [20, 21, 22, 23] [[2, 9, 17, 18, 19, 20, 21, 22, 23], [3, 4, 5, 6, 8, 9, 17, 18, 19, 20, 21, 22, 23], [4, 5, 6, 8, 9, 17, 18, 19, 20, 21, 22, 23], [5, 6, 8, 9, 17, 18, 19, 20, 21, 22, 23], [6, 8, 9, 17, 18, 19, 20, 21, 22, 23], [7, 8, 9, 17, 18, 19, 20, 21, 22, 23], [8, 9, 17, 18, 19, 20, 21, 22, 23], [10, 17, 18, 19, 20, 21, 22, 23], [11, 12, 13, 14, 16, 17, 18, 19, 20, 21, 22, 23], [12, 13, 14, 16, 17, 18, 19, 20, 21, 22, 23], [13, 14, 16, 17, 18, 19, 20, 21, 22, 23], [14, 16, 17, 18, 19, 20, 21, 22, 23], [15, 16, 17, 18, 19, 20, 21, 22, 23], [16, 17, 18, 19, 20, 21, 22, 23], [], [], [18, 19, 20, 21, 22, 23], [19, 20, 21, 22, 23]] [(2, false), (3, false), (4, false), (5, false), (6, false), (7, false), (8, false), (10, false), (11, false), (12, false), (13, false), (14, false), (15, false), (16, false), (9, true), (17, true), (18, false), (19, false)] (by kernel_rfl) (by kernel_rfl) rfl (by kernel_rfl) (fun _ _ _ _ _ h => h) ?_
  have hxd : Ext W10 W10.drew := (Ext.refl W10).drew
  have ho6d := owns_later ho6' hxd
  have ho10d := owns_later ho10 hxd
  have hx1W : Ext w1 W10.drew := hx110.trans hxd
  have x0 : ∀ w', ExtN w1.heap.size W10.drew w' → w'.cell? ⟨xb, 0, none⟩ = some vp := fun w' h => by rw [heap_cell (h.heap (heap_lt HX1.out) (hx1W.heap HX1.out))]; rfl
  have x1 : ∀ w', ExtN w1.heap.size W10.drew w' → w'.cell? ⟨xb, 1, none⟩ = some vi := fun w' h => by rw [heap_cell (h.heap (heap_lt HX1.out) (hx1W.heap HX1.out))]; rfl
  clear ho6' ho10 hxd
  generalize W10.drew = W at *
  iterate 2 (refine wpM_read (v := ?_) rfl (by rfl) ?_ ?_; rotate_left; (focus (intro w'; go_simp; first | done | with_reducible rfl)); simp only [Act.put, List.setIfInBounds_toArray, List.set_cons_zero, List.set_cons_succ])
  refine wpM_done ?_
  iterate 14 (refine wpE_read (v := ?_) rfl (by rfl) ?_ ?_; rotate_left; (focus (intro w' hx; go_simp; first | done | with_reducible rfl)); simp only [Act.put, List.setIfInBounds_toArray, List.set_cons_zero, List.set_cons_succ])
  clear x0 x1
  refine wpE_call rfl (by rfl) (fun K hK => ?_)
  refine wp_app_px (.tmp 52) (.tmp 58) rfl w1.heap.size v6 (k + 1) _ rfl ho6d p2 (n - k) c2 y2 rfl (Src.ext HS.out.2.1 (by omega) (hxw.trans hx1W)) (by omega) hx1W.size ?_
  intro v12 W12 ho12 hg12 hne12
  have hn12 := grown_extN ho6d (Nat.le_refl _) hg12
  have ho10e := owns_kept ho10d ho6d (by decide) hg12
  have hx112 : Ext w1 W12 := ExtN.ext hx1W hn12 (Nat.le_refl _)
  have hne12' : v12 ≠ .slice none 0 0 := fun e => hne6' (hne12.1 e).1
  clear hne12 hg12 ho6d ho10d
  refine hK _ _ hn12 ?_
  clear hK K
  simp only [Act.put, List.setIfInBounds_toArray, List.set_cons_zero, List.set_cons_succ]
  refine wpE_call rfl (by rfl) (fun K hK => ?_)
  refine wp_app_int (.tmp 60) (.tmp 66) rfl w1.heap.size v10 (k + 1) _ rfl ho10e p4 (n - k) c4 y4 rfl (Src.ext HS.out.2.2.2 (by omega) (hxw.trans hx112)) (by omega) hx112.size ?_
  intro v14 W14 ho14 hg14 hne14
  have hn14 := grown_extN ho10e (Nat.le_refl _) hg14
  have ho12e := owns_kept ho12 ho10e (by decide) hg14
  have hx114 : Ext w1 W14 := ExtN.ext hx112 hn14 (Nat.le_refl _)
  have hne14' : v14 ≠ .slice none 0 0 := fun e => hne10' (hne14.1 e).1
  clear hne14 hg14 ho12 ho10e
  obtain ⟨a12, d12, rfl, -, -, -⟩ := owns_slice ho12e
  obtain ⟨a14, d14, rfl, -, -, -⟩ := owns_slice ho14
  refine hK _ _ hn14 ?_
  clear hK K
  simp only [Act.put, List.setIfInBounds_toArray, List.set_cons_zero, List.set_cons_succ]
  iterate 2 (refine wpE_read (v := ?_) rfl (by rfl) ?_ ?_; rotate_left; (focus (intro w' hx; go_simp; first | done | with_reducible rfl)); simp only [Act.put, List.setIfInBounds_toArray, List.set_cons_zero, List.set_cons_succ])
  refine wpE_done ?_
  have HXe : Hid (W14.heap[xb]? = some (.cells #[vp, vi] 38 (0, 0))) := hx114.heap HX1.out
  have e0 : W14.cell? ⟨xb, 0, none⟩ = some vp := by rw [heap_cell HXe.out]; rfl
  have e1 : W14.cell? ⟨xb, 1, none⟩ = some vi := by rw [heap_cell HXe.out]; rfl
  have f0 : W14.frozen? ⟨xb, 0, none⟩ = false := heap_frozen HXe.out
  have f1 : W14.frozen? ⟨xb, 1, none⟩ = false := heap_frozen HXe.out
  iterate 4 (refine wpT_step rfl (by rfl) (fun K hK => ?_); go_simp; refine hK _ _ ?_; clear hK K)
  refine wpT_done ?_
  go_wp2_with fail
  go_ret
  have hs := extS_set W14 xb 0 (.slice a12 (k + 1 + (n - k)) d12)
  have hs2 := extS_set (W14.setCell ⟨xb, 0, none⟩ (.slice a12 (k + 1 + (n - k)) d12)) xb 1 (.slice a14 (k + 1 + (n - k)) d14)
  have hxl := heap_lt HX1.out
  have hkk : k + 1 + (n - k) = n + 1 := by omega
  refine ⟨rfl, _, _, ?_, ?_, ?_, hne12', hne14', (((hxw.trans hx114).toS _).trans hs).trans hs2⟩
  · rw [heap_set (heap_set HXe.out (.slice a12 (k + 1 + (n - k)) d12)) (.slice a14 (k + 1 + (n - k)) d14)]; rfl
  · have h1 := owns_laterS (owns_laterS ho12e hs fun g hg => by have := (owns_block ho12e hg).1; simp; omega) hs2 fun g hg => by have := (owns_block ho12e hg).1; simp; omega
    have h2 := owns_base h1 hb1
    rw [hkk] at h2 ⊢
    exact h2
  · have h1 := owns_laterS (owns_laterS ho14 hs fun g hg => by have := (owns_block ho14 hg).1; simp; omega) hs2 fun g hg => by have := (owns_block ho14 hg).1; simp; omega
    have h2 := owns_base h1 hb1
    rw [hkk] at h2 ⊢
    exact h2

theorem cut_hi_px (a : Option Addr) (n c k : Nat) (h1 : k ≤ n) (h2 : n ≤ c) : Cuts 35 (.slice a n c) none (some k) a k c := by
  intro w
  show (Instr.slice 35 (.slice a n c) none (some (.int .i64 k)) none).run Try.prog w = _
  have hk : (k : Int) ≤ (c : Int) := by omega
  go_simp

theorem cut_lo_px (a : Option Addr) (n c k : Nat) (h1 : k ≤ n) (h2 : n ≤ c) : Cuts 35 (.slice a n c) (some k) none (if c = k then a else a.map (·.add (k * 2))) (n - k) (c - k) := by
  intro w
  show (Instr.slice 35 (.slice a n c) (some (.int .i64 k)) none none).run Try.prog w = _
  have hk : (k : Int) ≤ (n : Int) := by omega
  go_simp

theorem cut_hi_int (a : Option Addr) (n c k : Nat) (h1 : k ≤ n) (h2 : n ≤ c) : Cuts 36 (.slice a n c) none (some k) a k c := by
  intro w
  show (Instr.slice 36 (.slice a n c) none (some (.int .i64 k)) none).run Try.prog w = _
  have hk : (k : Int) ≤ (c : Int) := by omega
  go_simp

theorem cut_lo_int (a : Option Addr) (n c k : Nat) (h1 : k ≤ n) (h2 : n ≤ c) : Cuts 36 (.slice a n c) (some k) none (if c = k then a else a.map (·.add (k * 1))) (n - k) (c - k) := by
  intro w
  show (Instr.slice 36 (.slice a n c) (some (.int .i64 k)) none none).run Try.prog w = _
  have hk : (k : Int) ≤ (n : Int) := by omega
  go_simp

theorem addr_add (g x : Nat) : (⟨g, 0, none⟩ : Addr).add x = ⟨g, x, none⟩ := by unfold Addr.add; split <;> simp_all

theorem Src.drop' {w : World} {k g : Nat} {n c : Nat} {xs : List Value} (h : Src w k (some ⟨g, 0, none⟩) n c xs) {j : Nat} (hj : j ≤ n) (hn : n ≤ c) :
    Src w k (if c = j then (some ⟨g, 0, none⟩ : Option Addr) else (some ⟨g, 0, none⟩ : Option Addr).map (·.add (j * k))) (n - j) (c - j) (xs.drop (j * k)) := by
  obtain ⟨p, hp, hs⟩ := h.drop hj hn
  rw [← hp] at hs
  rw [Option.map_some, addr_add]
  exact hs

set_option maxHeartbeats 1000000 in
theorem refDel_walk (xb : Nat) (c m : Int) (k n : Nat) (vp vi : Value) (p1 p2 p3 p4 : Option Addr) (c1 c2 c3 c4 : Nat) (y1 y2 y3 y4 : List Value) (w : World) (hkn : k < n) (hn : n ≤ 1000000)
    (hX : w.heap[xb]? = some (.cells #[vp, vi] 38 (0, 0)))
    (k1 : ∀ w', Ext w w' → Calls Try.prog 42 #[.pointer (some ⟨xb, 0, none⟩), .agg #[.int .u32 c, .int .i64 m]] w' fun e w2 => e = .returned (.tuple #[.int .i64 (k : Int), .bool true]) ∧ Ext w' w2)
    (t1 : Cuts 35 vp none (some k) p1 k c1) (t2 : Cuts 35 vp (some (k + 1 : Nat)) none p2 (n - (k + 1)) c2) (t3 : Cuts 36 vi none (some k) p3 k c3) (t4 : Cuts 36 vi (some (k + 1 : Nat)) none p4 (n - (k + 1)) c4)
    (s1 : Src w 2 p1 k c1 y1) (s2 : Src w 2 p2 (n - (k + 1)) c2 y2) (s3 : Src w 1 p3 k c3 y3) (s4 : Src w 1 p4 (n - (k + 1)) c4 y4) (hb3 : ∀ b off, p3 = some ⟨b, off, none⟩ → b ≠ xb) (hb4 : ∀ b off, p4 = some ⟨b, off, none⟩ → b ≠ xb) :
    Calls Try.prog 25 #[.pointer (some ⟨xb, 0, none⟩), .agg #[.int .u32 c, .int .i64 m]] w fun e w' => e = .returned (.bool true) ∧ NewRows w xb (n - 1) (y1 ++ y2) (y3 ++ y4) w' := by
  have hA : Ext w (w.alloc (.cells #[.int .u32 c, .int .i64 m] 30)) := (Ext.refl w).alloc _
  have HQ : Hid _ := heap_new w (.cells #[.int .u32 c, .int .i64 m] 30)
  have q0 : (w.alloc (.cells #[.int .u32 c, .int .i64 m] 30)).cell? ⟨w.heap.size, 0, none⟩ = some (.int .u32 c) := by rw [heap_cell HQ.out]; rfl
  have q1 : (w.alloc (.cells #[.int .u32 c, .int .i64 m] 30)).cell? ⟨w.heap.size, 1, none⟩ = some (.int .i64 m) := by rw [heap_cell HQ.out]; rfl
  have HX : Hid _ := hX
  have HS : Hid (Src w 2 p1 k c1 y1 ∧ Src w 2 p2 (n - (k + 1)) c2 y2 ∧ Src w 1 p3 k c3 y3 ∧ Src w 1 p4 (n - (k + 1)) c4 y4) := ⟨s1, s2, s3, s4⟩
  have u1 : ∀ w, (Instr.slice 35 vp none (some (.int .i64 k)) none).run Try.prog w = .ok (.slice p1 k c1) w := t1
  have u2 : ∀ w, (Instr.slice 35 vp (some (.int .i64 (k + 1))) none none).run Try.prog w = .ok (.slice p2 (n - (k + 1)) c2) w := t2
  have u3 : ∀ w, (Instr.slice 36 vi none (some (.int .i64 k)) none).run Try.prog w = .ok (.slice p3 k c3) w := t3
  have u4 : ∀ w, (Instr.slice 36 vi (some (.int .i64 (k + 1))) none none).run Try.prog w = .ok (.slice p4 (n - (k + 1)) c4) w := t4
  have wr1 : IntKind.i64.wrap ((k : Int) + 1) = (k : Int) + 1 := wraps_i64 _ (by omega) (by omega)
  clear hX t1 t2 t3 t4 s1 s2 s3 s4
  go_enter Try.func25, Try.ntmps25
  go_wp2_with (go_at_call 42; refine (k1 _ hA).mono ?_; rintro e w1 ⟨rfl, hx1⟩)
  have hxw : Ext w w1 := hA.trans hx1
  have HX1 : Hid (w1.heap[xb]? = some (.cells #[vp, vi] 38 (0, 0))) := hxw.heap HX.out
  have hb1 : w.heap.size ≤ w1.heap.size := hxw.size
  clear q0 q1 k1
  refine wp_region_tailMR (ExtN w1.heap.size) (ExtN.refl _) (fun _ _ _ h k => h.trans k) [] [19] [[0, 17, 18, 19], [2, 3, 4, 5, 7, 8, 16, 17, 18, 19], [3, 4, 5, 7, 8, 16, 17, 18, 19], [4, 5, 7, 8, 16, 17, 18, 19], [5, 7, 8, 16, 17, 18, 19], [6, 7, 8, 16, 17, 18, 19], [7, 8, 16, 17, 18, 19], [9, 10, 11, 12, 15, 16, 17, 18, 19], [10, 11, 12, 15, 16, 17, 18, 19], [11, 12, 15, 16, 17, 18, 19], [12, 15, 16, 17, 18, 19], [13, 14, 15, 16, 17, 18, 19], [14, 15, 16, 17, 18, 19], [15, 16, 17, 18, 19], [], [], [], [17, 18, 19], [18, 19]] [(0, false), (2, false), (3, false), (4, false), (5, false), (6, false), (7, false), (9, false), (10, false), (11, false), (12, false), (13, false), (14, false), (15, false), (1, true), (8, true), (16, true), (17, false), (18, false)] (by kernel_rfl) (by kernel_rfl) rfl (by kernel_rfl) (fun _ _ _ _ _ h => h) ?_
  refine wpM_done ?_
  have hxdp : Ext w1 w1.drew := (Ext.refl w1).drew
  have xxp : ∀ w', ExtN w1.heap.size w1.drew w' → w'.cell? ⟨xb, 0, none⟩ = some vp := fun w' h => by rw [heap_cell (h.heap (heap_lt HX1.out) HX1.out)]; rfl
  generalize w1.drew = Wp at *
  iterate 14 (refine wpE_read (v := ?_) rfl (by rfl) ?_ ?_; rotate_left; (focus (intro w' hx; go_simp; first | done | with_reducible rfl)); simp only [Act.put, List.setIfInBounds_toArray, List.set_cons_zero, List.set_cons_succ])
  clear xxp
  refine wpE_call rfl (by rfl) (fun K hK => ?_)
  go_simp
  refine hK _ _ (((Ext.refl _).alloc _).upto _) ?_
  clear hK K
  have hGp := heap_new Wp (.cells #[] 30)
  have hxGp : Ext w1 (Wp.alloc (.cells #[] 30)) := hxdp.alloc _
  refine wpE_call rfl (by rfl) (fun K hK => ?_)
  refine wp_app_lit_px (.tmp 16) (.tmp 22) rfl Wp.heap.size rfl hGp w1.heap.size hxdp.size p1 k c1 y1 rfl (Src.ext HS.out.1 (by omega) (hxw.trans hxGp)) (by omega) ?_
  intro vp4 Wp4 hop4 hnep4 hxp4
  refine hK _ _ (hxp4.upto _) ?_
  clear hK K
  simp only [Act.put, List.setIfInBounds_toArray, List.set_cons_zero, List.set_cons_succ]
  have hxp5 : Ext w1 Wp4 := hxGp.trans hxp4
  refine wpE_call rfl (by rfl) (fun K hK => ?_)
  refine wp_app_px (.tmp 23) (.tmp 30) rfl w1.heap.size vp4 k y1 rfl hop4 p2 (n - (k + 1)) c2 y2 rfl (Src.ext HS.out.2.1 (by omega) (hxw.trans hxp5)) (by omega) hxp5.size ?_
  intro vp6 Wp6 hop6 hgp6 hnp6
  have hNp6 := grown_extN hop4 (Nat.le_refl _) hgp6
  have hxp6 : Ext w1 Wp6 := ExtN.ext hxp5 hNp6 (Nat.le_refl _)
  have hnep6 : vp6 ≠ .slice none 0 0 := fun e => hnep4 (hnp6.1 e).1
  clear hnp6 hgp6 hop4 hnep4 hxp5 hxp4 hGp hxGp hxdp
  obtain ⟨ap6, dp6, rfl, -, -, -⟩ := owns_slice hop6
  refine hK _ _ hNp6 ?_
  clear hK K hNp6
  simp only [Act.put, List.setIfInBounds_toArray, List.set_cons_zero, List.set_cons_succ]
  iterate 2 (refine wpE_read (v := ?_) rfl (by rfl) ?_ ?_; rotate_left; (focus (intro w' hx; go_simp; first | done | with_reducible rfl)); simp only [Act.put, List.setIfInBounds_toArray, List.set_cons_zero, List.set_cons_succ])
  refine wpE_done ?_
  have HXe : Hid (Wp6.heap[xb]? = some (.cells #[vp, vi] 38 (0, 0))) := hxp6.heap HX1.out
  have e0 : Wp6.cell? ⟨xb, 0, none⟩ = some vp := by rw [heap_cell HXe.out]; rfl
  have f0 : Wp6.frozen? ⟨xb, 0, none⟩ = false := heap_frozen HXe.out
  iterate 1 (refine wpT_step rfl (by rfl) (fun K hK => ?_); go_simp; refine hK _ _ ?_; clear hK K)
  refine wpT_done ?_
  go_wp2_with fail
  have hs := extS_set Wp6 xb 0 (.slice ap6 (k + (n - (k + 1))) dp6)
  have hxl := heap_lt HX1.out
  have HX7 : Hid ((Wp6.setCell ⟨xb, 0, none⟩ (.slice ap6 (k + (n - (k + 1))) dp6)).heap[xb]? = some (.cells #[.slice ap6 (k + (n - (k + 1))) dp6, vi] 38 (0, 0))) := by
    show _ = _
    rw [heap_set HXe.out (.slice ap6 (k + (n - (k + 1))) dp6)]; rfl
  have hop7 := owns_laterS hop6 hs fun g hg => by have := (owns_block hop6 hg).1; simp; omega
  have hx7 : ExtS [xb] w (Wp6.setCell ⟨xb, 0, none⟩ (.slice ap6 (k + (n - (k + 1))) dp6)) := ((hxw.trans hxp6).toS _).trans hs
  have hS7 : Src (Wp6.setCell ⟨xb, 0, none⟩ (.slice ap6 (k + (n - (k + 1))) dp6)) 1 p3 k c3 y3 ∧ Src (Wp6.setCell ⟨xb, 0, none⟩ (.slice ap6 (k + (n - (k + 1))) dp6)) 1 p4 (n - (k + 1)) c4 y4 :=
    ⟨Src.extS HS.out.2.2.1 (by omega) hx7 (fun b off h => by simpa using hb3 b off h), Src.extS HS.out.2.2.2 (by omega) hx7 (fun b off h => by simpa using hb4 b off h)⟩
  have HS7 : Hid _ := hS7
  clear hS7 e0 f0 HXe hop6 hs hxp6 hb3 hb4 HX1 HX
  generalize (Wp6.setCell ⟨xb, 0, none⟩ (.slice ap6 (k + (n - (k + 1))) dp6)) = w7 at *
  refine wp_region_tailMR (ExtN w7.heap.size) (ExtN.refl _) (fun _ _ _ h k => h.trans k) [] [19] [[0, 17, 18, 19], [2, 3, 4, 5, 7, 8, 16, 17, 18, 19], [3, 4, 5, 7, 8, 16, 17, 18, 19], [4, 5, 7, 8, 16, 17, 18, 19], [5, 7, 8, 16, 17, 18, 19], [6, 7, 8, 16, 17, 18, 19], [7, 8, 16, 17, 18, 19], [9, 10, 11, 12, 15, 16, 17, 18, 19], [10, 11, 12, 15, 16, 17, 18, 19], [11, 12, 15, 16, 17, 18, 19], [12, 15, 16, 17, 18, 19], [13, 14, 15, 16, 17, 18, 19], [14, 15, 16, 17, 18, 19], [15, 16, 17, 18, 19], [], [], [], [17, 18, 19], [18, 19]] [(0, false), (2, false), (3, false), (4, false), (5, false), (6, false), (7, false), (9, false), (10, false), (11, false), (12, false), (13, false), (14, false), (15, false), (1, true), (8, true), (16, true), (17, false), (18, false)] (by kernel_rfl) (by kernel_rfl) rfl (by kernel_rfl) (fun _ _ _ _ _ h => h) ?_
  refine wpM_done ?_
  have hxdi : Ext w7 w7.drew := (Ext.refl w7).drew
  have xxi : ∀ w', ExtN w7.heap.size w7.drew w' → w'.cell? ⟨xb, 1, none⟩ = some vi := fun w' h => by rw [heap_cell (h.heap (heap_lt HX7.out) HX7.out)]; rfl
  generalize w7.drew = Wi at *
  iterate 14 (refine wpE_read (v := ?_) rfl (by rfl) ?_ ?_; rotate_left; (focus (intro w' hx; go_simp; first | done | with_reducible rfl)); simp only [Act.put, List.setIfInBounds_toArray, List.set_cons_zero, List.set_cons_succ])
  clear xxi
  refine wpE_call rfl (by rfl) (fun K hK => ?_)
  go_simp
  refine hK _ _ (((Ext.refl _).alloc _).upto _) ?_
  clear hK K
  have hGi := heap_new Wi (.cells #[] 3)
  have hxGi : Ext w7 (Wi.alloc (.cells #[] 3)) := hxdi.alloc _
  refine wpE_call rfl (by rfl) (fun K hK => ?_)
  refine wp_app_lit_int (.tmp 35) (.tmp 41) rfl Wi.heap.size rfl hGi w7.heap.size hxdi.size p3 k c3 y3 rfl (Src.ext HS7.out.1 (by omega) ((Ext.refl w7).trans hxGi)) (by omega) ?_
  intro vi4 Wi4 hoi4 hnei4 hxi4
  refine hK _ _ (hxi4.upto _) ?_
  clear hK K
  simp only [Act.put, List.setIfInBounds_toArray, List.set_cons_zero, List.set_cons_succ]
  have hxi5 : Ext w7 Wi4 := hxGi.trans hxi4
  refine wpE_call rfl (by rfl) (fun K hK => ?_)
  refine wp_app_int (.tmp 42) (.tmp 49) rfl w7.heap.size vi4 k y3 rfl hoi4 p4 (n - (k + 1)) c4 y4 rfl (Src.ext HS7.out.2 (by omega) ((Ext.refl w7).trans hxi5)) (by omega) hxi5.size ?_
  intro vi6 Wi6 hoi6 hgi6 hni6
  have hNi6 := grown_extN hoi4 (Nat.le_refl _) hgi6
  have hxi6 : Ext w7 Wi6 := ExtN.ext hxi5 hNi6 (Nat.le_refl _)
  have hnei6 : vi6 ≠ .slice none 0 0 := fun e => hnei4 (hni6.1 e).1
  clear hni6 hgi6 hoi4 hnei4 hxi5 hxi4 hGi hxGi hxdi
  obtain ⟨ai6, di6, rfl, -, -, -⟩ := owns_slice hoi6
  refine hK _ _ hNi6 ?_
  clear hK K hNi6
  simp only [Act.put, List.setIfInBounds_toArray, List.set_cons_zero, List.set_cons_succ]
  iterate 2 (refine wpE_read (v := ?_) rfl (by rfl) ?_ ?_; rotate_left; (focus (intro w' hx; go_simp; first | done | with_reducible rfl)); simp only [Act.put, List.setIfInBounds_toArray, List.set_cons_zero, List.set_cons_succ])
  refine wpE_done ?_
  have HXe : Hid (Wi6.heap[xb]? = some (.cells #[.slice ap6 (k + (n - (k + 1))) dp6, vi] 38 (0, 0))) := hxi6.heap HX7.out
  have e0 : Wi6.cell? ⟨xb, 1, none⟩ = some vi := by rw [heap_cell HXe.out]; rfl
  have f0 : Wi6.frozen? ⟨xb, 1, none⟩ = false := heap_frozen HXe.out
  iterate 1 (refine wpT_step rfl (by rfl) (fun K hK => ?_); go_simp; refine hK _ _ ?_; clear hK K)
  refine wpT_done ?_
  go_wp2_with fail
  go_ret
  have hs := extS_set Wi6 xb 1 (.slice ai6 (k + (n - (k + 1))) di6)
  have hxl7 := heap_lt HX7.out
  have hkk : k + (n - (k + 1)) = n - 1 := by omega
  have hop8 := owns_later hop7 hxi6
  refine ⟨rfl, _, _, ?_, ?_, ?_, hnep6, hnei6, (hx7.trans (hxi6.toS _)).trans hs⟩
  · rw [heap_set HXe.out (.slice ai6 (k + (n - (k + 1))) di6)]; rfl
  · have h1 := owns_laterS hop8 hs fun g hg => by have := (owns_block hop8 hg).1; simp; omega
    have h2 := owns_base h1 hb1
    rw [hkk] at h2 ⊢
    exact h2
  · have h1 := owns_laterS hoi6 hs fun g hg => by have := (owns_block hoi6 hg).1; simp; omega
    have h2 := owns_base h1 hx7.size
    rw [hkk] at h2 ⊢
    exact h2

end Go.Proofs.Ytlnmdlachfnmkaa.Tri
