/- The document's Trie in memory: two rows; Before, place. -/
import Derived.Test.YtlnmdlachfnmkaaTrieL
import Derived.Test.YtlnmdlachfnmkaaRowP
import Derived.Test.YtlnmdlachfnmkaaRef3
import Derived.Test.YtlnmdlachfnmkaaSkip
namespace Go.Proofs.Ytlnmdlachfnmkaa.Tri
set_option maxRecDepth 100000
open Go.RowKit Go.Proofs.Ytlnmdlachfnmkaa
set_option linter.unusedVariables false

def blks (v : Value) : List Nat := match v.ownBlock with
  | some g => [g]
  | none => []

theorem mem_blks {v : Value} {g : Nat} : g ∈ blks v ↔ v.ownBlock = some g := by
  unfold blks
  split
  · rename_i h; rw [h]; simp [eq_comm]
  · rename_i h; rw [h]; simp

/-- The document's Trie of the row L, in the blocks F. -/
def RefAt (w : World) (xb : Nat) (L : Row) (F : List Nat) : Prop := ∃ vp vi, F = xb :: (blks vp ++ blks vi) ∧ w.heap[xb]? = some (.cells #[vp, vi] 38 (0, 0)) ∧ OwnP w 0 vp (L.map (·.1)) ∧ OwnI w 0 vi (L.map (·.2)) ∧
  ((vp = .slice none 0 0 ∧ vi = .slice none 0 0) ∨ ((∃ g c, vp = .slice (some ⟨g, 0, none⟩) L.length c) ∧ ∃ g c, vi = .slice (some ⟨g, 0, none⟩) L.length c) ∨ (vp = .slice none 0 0 ∧ ∃ g c, vi = .slice (some ⟨g, 0, none⟩) L.length c))

theorem RefAt.later {w w' : World} {xb : Nat} {L : Row} {F G : List Nat} (h : RefAt w xb L F) (hx : ExtS G w w') (hd : ∀ x ∈ F, x ∉ G) : RefAt w' xb L F := by
  obtain ⟨vp, vi, rfl, h1, h2, h3, h4⟩ := h
  refine ⟨vp, vi, rfl, hx.heap (hd xb (by simp)) h1, owns_laterS h2 hx fun g hg => hd g ?_, owns_laterS h3 hx fun g hg => hd g ?_, h4⟩
  · simp [mem_blks.2 hg]
  · simp [mem_blks.2 hg]

theorem RefAt.lt {w : World} {xb : Nat} {L : Row} {F : List Nat} (h : RefAt w xb L F) : ∀ x ∈ F, x < w.heap.size := by
  obtain ⟨vp, vi, rfl, h1, h2, h3, -⟩ := h
  intro x hx
  rcases List.mem_cons.1 hx with rfl | hx
  · exact heap_lt h1
  · rcases List.mem_append.1 hx with hx | hx
    · exact (owns_block h2 (mem_blks.1 hx)).2.1
    · exact (owns_block h3 (mem_blks.1 hx)).2.1

theorem refBefore_any (a n b m : Int) (w : World) :
    Calls Try.prog 51 #[.agg #[.int .u32 a, .int .i64 n], .agg #[.int .u32 b, .int .i64 m]] w fun e w' => e = .returned (.bool (bef (a, n) (b, m))) ∧ Ext w w' := by
  have hx0 : Ext w ((w.alloc (.cells #[.int .u32 a, .int .i64 n] 30)).alloc (.cells #[.int .u32 b, .int .i64 m] 30)) := ((Ext.refl w).alloc _).alloc _
  unfold bef
  simp only
  by_cases e : (a == b) = true
  · rw [if_pos e]
    go_enter Try.func51, Try.ntmps51
    go_wp2_with fail
    go_ret
    exact ⟨rfl, hx0⟩
  · rw [if_neg e]
    have e' : (a == b) = false := by simpa using e
    clear e
    go_enter Try.func51, Try.ntmps51
    go_wp2_with fail
    go_ret
    exact ⟨rfl, hx0⟩

/-- What place goes through. -/
def PlAt (L : Row) (p : PX) (k : Nat) : Prop := placeN L p = k + placeN (L.drop k) p

theorem plAt_step {L : Row} {p : PX} {k : Nat} {x : PX × Int} (h : PlAt L p k) (hx : L[k]? = some x) (hb : bef x.1 p = true) : PlAt L p (k + 1) := by
  unfold PlAt at *
  have hk := (List.getElem?_eq_some_iff.1 hx).1
  rw [List.drop_eq_getElem_cons hk, (List.getElem?_eq_some_iff.1 hx).2] at h
  simp only [placeN, hb, if_true] at h
  omega

theorem plAt_stop {L : Row} {p : PX} {k : Nat} {x : PX × Int} (h : PlAt L p k) (hx : L[k]? = some x) (hb : bef x.1 p = false) : placeN L p = k := by
  unfold PlAt at h
  have hk := (List.getElem?_eq_some_iff.1 hx).1
  rw [List.drop_eq_getElem_cons hk, (List.getElem?_eq_some_iff.1 hx).2] at h
  simp only [placeN, hb, Bool.false_eq_true, if_false] at h
  omega

theorem plAt_end {L : Row} {p : PX} (h : PlAt L p L.length) : placeN L p = L.length := by
  unfold PlAt at h
  simpa [placeN] using h

set_option maxHeartbeats 1000000 in
theorem place_any (xb : Nat) (L : Row) (F : List Nat) (c m : Int) (w : World) (h : RefAt w xb L F) (hl : L.length ≤ 1000000) :
    Calls Try.prog 42 #[.pointer (some ⟨xb, 0, none⟩), .agg #[.int .u32 c, .int .i64 m]] w fun e w' => e = .returned (.tuple #[.int .i64 (placeN L (c, m) : Int), .bool (foundB L (c, m))]) ∧ Ext w w' := by
  obtain ⟨vp, vi, -, hX, hP, -⟩ := h
  obtain ⟨a, cp, hvp, -, -, -⟩ := owns_slice hP
  rw [List.length_map] at hvp
  have hA : Ext w (w.alloc (.cells #[.int .u32 c, .int .i64 m] 30)) := (Ext.refl w).alloc _
  have hn := heap_new w (.cells #[.int .u32 c, .int .i64 m] 30)
  have hq : ∀ w', Ext (w.alloc (.cells #[.int .u32 c, .int .i64 m] 30)) w' → w'.cell? ⟨w.heap.size, 0, none⟩ = some (.int .u32 c) ∧ w'.cell? ⟨w.heap.size, 1, none⟩ = some (.int .i64 m) := fun w' hx => ⟨by rw [heap_cell (hx.heap hn)]; rfl, by rw [heap_cell (hx.heap hn)]; rfl⟩
  have HQ : Hid _ := hq
  have hc : ∀ w', Ext w w' → w'.cell? ⟨xb, 0, none⟩ = some vp := fun w' hx => by rw [heap_cell (hx.heap hX)]; rfl
  have HC : Hid _ := hc
  have HP : Hid (OwnP w 0 vp (L.map (·.1))) := hP
  have HV : Hid (vp = .slice a L.length cp) := hvp
  clear hn hq hc hP hX
  subst hvp
  obtain ⟨q0, q1⟩ := HQ.out _ (Ext.refl _)
  have x0 := HC.out _ hA
  go_enter Try.func42, Try.ntmps42
  go_wp2_with fail
  clear q0 q1 x0
  generalize hW0 : (w.alloc (.cells #[.int .u32 c, .int .i64 m] 30)) = W0 at *
  clear hW0
  go_loopw [6] (fun i wr => ∃ k : Nat, k ≤ L.length ∧ i = .int .i64 k ∧ Ext W0 wr ∧ Hid (PlAt L (c, m) k)) (fun i _ => L.length - (intOf i).toNat)
  case atStart => exact ⟨0, Nat.zero_le _, rfl, Ext.refl _, by show PlAt L (c, m) 0; simp [PlAt]⟩
  case round =>
    obtain ⟨k, hk, rfl, hx, HK⟩ := hrel
    by_cases hlt : k < L.length
    · obtain ⟨x, hxk⟩ : ∃ x, L[k]? = some x := ⟨_, List.getElem?_eq_getElem hlt⟩
      obtain ⟨⟨pa, pn⟩, u⟩ := x
      have hcell := OwnP.cell (owns_later HP.out (hA.trans hx) : OwnP wr 0 (.slice a L.length cp) (L.map (·.1))) (i := k) (p := (pa, pn)) (by simp [hxk])
      obtain ⟨g, c', hs, h0, h1⟩ := hcell
      rw [List.length_map] at hs
      cases hs
      have gk : ∀ w', Ext wr.drew w' → w'.cell? ⟨g, k * 2, none⟩ = some (.int .u32 pa) := fun w' hx' => by rw [(Ext.refl wr).drew.trans hx' |>.below.cell (p := ⟨g, k * 2, none⟩) (block_lt h0)]; exact h0
      have gn : ∀ w', Ext wr.drew w' → w'.cell? ⟨g, k * 2 + 1, none⟩ = some (.int .i64 pn) := fun w' hx' => by rw [(Ext.refl wr).drew.trans hx' |>.below.cell (p := ⟨g, k * 2 + 1, none⟩) (block_lt h1)]; exact h1
      have q0 : ∀ w', Ext wr.drew w' → w'.cell? ⟨w.heap.size, 0, none⟩ = some (.int .u32 c) := fun w' hx' => (HQ.out w' (hx.drew.trans hx')).1
      have q1 : ∀ w', Ext wr.drew w' → w'.cell? ⟨w.heap.size, 1, none⟩ = some (.int .i64 m) := fun w' hx' => (HQ.out w' (hx.drew.trans hx')).2
      have x0 : ∀ w', Ext wr.drew w' → w'.cell? ⟨xb, 0, none⟩ = some (.slice (some ⟨g, 0, none⟩) L.length cp) := fun w' hx' => HC.out w' (hA.trans (hx.drew.trans hx'))
      have kb := fun w => refBefore_any pa pn c m w
      have hki : (k : Int) < (L.length : Int) := by omega
      have HX : Hid (L[k]? = some ((pa, pn), u)) := hxk
      clear hxk h0 h1
      generalize hd : bef (pa, pn) (c, m) = d at *
      have HD : Hid _ := hd
      clear hd
      cases d
      · go_wp2_with fail
        refine wp_region_eager [(0, false), (1, false), (2, false), (3, false), (4, false), (5, false), (6, false), (7, false), (8, false), (9, false), (10, false), (11, false), (12, false), (13, false), (14, false), (15, false), (16, true), (17, false)] (by kernel_rfl) (by kernel_rfl) rfl (by kernel_rfl) (fun _ _ _ _ _ h => h) ?_
        have hxd := hx.drew
        generalize wr.drew = W at *
        repeat (first
          | (refine wpE_read (v := ?_) rfl (by rfl) ?_ ?_; rotate_left; (focus (intro w' hx; go_simp; first | done | with_reducible rfl)); simp only [Act.put, List.setIfInBounds_toArray, List.set_cons_zero, List.set_cons_succ])
          | (refine wpE_call rfl (by rfl) (fun K hK => ?_); go_simp; first
              | (go_at_call 51; refine (kb _).mono ?_; rintro e w1 ⟨rfl, hx1⟩; refine hK _ _ hx1 ?_; clear hK K)))
        refine wpE_done ?_
        go_wp2_with fail
        refine wp_region_eager [(0, false), (1, false), (2, false), (3, false), (4, false), (5, false), (6, false), (7, false), (8, false), (9, false), (10, false), (11, false), (12, false), (13, false), (14, false), (15, false), (16, false), (17, false), (18, false), (19, false), (20, false)] (by kernel_rfl) (by kernel_rfl) rfl (by kernel_rfl) (fun _ _ _ _ _ h => h) ?_
        have hx2 := hx1.drew
        generalize w1.drew = W2 at *
        replace gk := fun w' h => gk w' (hx2.trans h); replace gn := fun w' h => gn w' (hx2.trans h); replace q0 := fun w' h => q0 w' (hx2.trans h); replace q1 := fun w' h => q1 w' (hx2.trans h); replace x0 := fun w' h => x0 w' (hx2.trans h)
        have eq := fun w => eql_prefix pa pn c m w
        have eg := eq_guard
        repeat (first
          | (refine wpE_read (v := ?_) rfl (by rfl) ?_ ?_; rotate_left; (focus (intro w' hx; go_simp; first | done | with_reducible rfl)); simp only [Act.put, List.setIfInBounds_toArray, List.set_cons_zero, List.set_cons_succ]))
        refine wpE_done ?_
        go_wp2_with fail
        go_ret2
        have hpl := plAt_stop HK.out HX.out HD.out
        have hfo : foundB L (c, m) = (pa == c && pn == m) := by
          unfold foundB; rw [hpl, HX.out]
        rw [hpl, hfo]
        exact ⟨rfl, hA.trans (hxd.trans hx2)⟩
      · go_wp2_with fail
        refine wp_region_eager [(0, false), (1, false), (2, false), (3, false), (4, false), (5, false), (6, false), (7, false), (8, false), (9, false), (10, false), (11, false), (12, false), (13, false), (14, false), (15, false), (16, true), (17, false)] (by kernel_rfl) (by kernel_rfl) rfl (by kernel_rfl) (fun _ _ _ _ _ h => h) ?_
        have hxd := hx.drew
        generalize wr.drew = W at *
        repeat (first
          | (refine wpE_read (v := ?_) rfl (by rfl) ?_ ?_; rotate_left; (focus (intro w' hx; go_simp; first | done | with_reducible rfl)); simp only [Act.put, List.setIfInBounds_toArray, List.set_cons_zero, List.set_cons_succ])
          | (refine wpE_call rfl (by rfl) (fun K hK => ?_); go_simp; first
              | (go_at_call 51; refine (kb _).mono ?_; rintro e w1 ⟨rfl, hx1⟩; refine hK _ _ hx1 ?_; clear hK K)))
        refine wpE_done ?_
        go_wp2_with fail
        go_roundw
        case rel => exact ⟨k + 1, by omega, by go_num, hxd.trans hx1, plAt_step HK.out HX.out HD.out⟩
        case measure => simp [intOf]; omega
    · obtain rfl : k = L.length := by omega
      have q0 : ∀ w', Ext wr.drew w' → w'.cell? ⟨w.heap.size, 0, none⟩ = some (.int .u32 c) := fun w' hx' => (HQ.out w' (hx.drew.trans hx')).1
      have q1 : ∀ w', Ext wr.drew w' → w'.cell? ⟨w.heap.size, 1, none⟩ = some (.int .i64 m) := fun w' hx' => (HQ.out w' (hx.drew.trans hx')).2
      have x0 : ∀ w', Ext wr.drew w' → w'.cell? ⟨xb, 0, none⟩ = some (.slice a L.length cp) := fun w' hx' => HC.out w' (hA.trans (hx.drew.trans hx'))
      go_wp2_with fail
      refine wp_region_eager [(0, false), (1, false), (2, false), (3, false), (4, false), (5, false), (6, false), (7, false), (8, false), (9, false), (10, false), (11, false), (12, false), (13, false), (14, false), (15, false), (16, true), (17, false)] (by kernel_rfl) (by kernel_rfl) rfl (by kernel_rfl) (fun _ _ _ _ _ h => h) ?_
      have hxd := hx.drew
      generalize wr.drew = W at *
      iterate 8 (refine wpE_read (v := ?_) rfl (by rfl) ?_ ?_; rotate_left; (focus (intro w' hx; go_simp; first | done | with_reducible rfl)); simp only [Act.put, List.setIfInBounds_toArray, List.set_cons_zero, List.set_cons_succ])
      iterate 9 (rw [wpE_skip_eq _ rfl (by rfl)]; simp only [Act.put, List.setIfInBounds_toArray, List.set_cons_zero, List.set_cons_succ])
      iterate 1 (refine wpE_read (v := ?_) rfl (by rfl) ?_ ?_; rotate_left; (focus (intro w' hx; go_simp; first | done | with_reducible rfl)); simp only [Act.put, List.setIfInBounds_toArray, List.set_cons_zero, List.set_cons_succ])
      refine wpE_done ?_
      go_wp2_with fail
      refine wp_region_eager [(0, false), (1, false), (2, false), (3, false), (4, false), (5, false), (6, false), (7, false), (8, false), (9, false), (10, false), (11, false), (12, false), (13, false), (14, false), (15, false), (16, false), (17, false), (18, false), (19, false), (20, false)] (by kernel_rfl) (by kernel_rfl) rfl (by kernel_rfl) (fun _ _ _ _ _ h => h) ?_
      have hx2 := (Ext.refl W).drew
      generalize W.drew = W2 at *
      replace q0 := fun w' h => q0 w' (hx2.trans h); replace q1 := fun w' h => q1 w' (hx2.trans h); replace x0 := fun w' h => x0 w' (hx2.trans h)
      iterate 9 (refine wpE_read (v := ?_) rfl (by rfl) ?_ ?_; rotate_left; (focus (intro w' hx; go_simp; first | done | with_reducible rfl)); simp only [Act.put, List.setIfInBounds_toArray, List.set_cons_zero, List.set_cons_succ])
      iterate 9 (rw [wpE_skip_eq _ rfl (by rfl)]; simp only [Act.put, List.setIfInBounds_toArray, List.set_cons_zero, List.set_cons_succ])
      iterate 3 (refine wpE_read (v := ?_) rfl (by rfl) ?_ ?_; rotate_left; (focus (intro w' hx; go_simp; first | done | with_reducible rfl)); simp only [Act.put, List.setIfInBounds_toArray, List.set_cons_zero, List.set_cons_succ])
      refine wpE_done ?_
      go_wp2_with fail
      go_ret2
      have hpl := plAt_end HK.out
      have hfo : foundB L (c, m) = false := by
        unfold foundB; rw [hpl]; simp
      rw [hpl, hfo]
      exact ⟨rfl, hA.trans (hxd.trans hx2)⟩
end Go.Proofs.Ytlnmdlachfnmkaa.Tri
