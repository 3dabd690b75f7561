/- The document's Trie inside of a Dir: Del (written by tools/made/refdr.py out of RefTr1 .. RefTr4). -/
import Derived.Test.YtlnmdlachfnmkaaRefTr4
import Derived.Test.YtlnmdlachfnmkaaRefTrQ
namespace Go.Proofs.Ytlnmdlachfnmkaa.TriD
set_option maxRecDepth 100000
open Go.RowKit Go.Proofs.Ytlnmdlachfnmkaa Go.Proofs.Ytlnmdlachfnmkaa.Tri
set_option linter.unusedVariables false

variable {mst : Int}

/-- The document's Trie of the row L, in the blocks F. -/
def RefAt (mst : Int) (w : World) (xb : Nat) (L : Row) (F : List Nat) : Prop := ∃ vp vi, F = xb :: (blks vp ++ blks vi) ∧ w.heap[xb]? = some (.cells #[vp, vi, .int .i64 mst] 40 (0, 0)) ∧ OwnP w 0 vp (L.map (·.1)) ∧ OwnI w 0 vi (L.map (·.2)) ∧
  ((vp = .slice none 0 0 ∧ vi = .slice none 0 0) ∨ ((∃ g c, vp = .slice (some ⟨g, 0, none⟩) L.length c) ∧ ∃ g c, vi = .slice (some ⟨g, 0, none⟩) L.length c) ∨ (vp = .slice none 0 0 ∧ ∃ g c, vi = .slice (some ⟨g, 0, none⟩) L.length c))

theorem RefAt.later {w w' : World} {xb : Nat} {L : Row} {F G : List Nat} (h : RefAt mst w xb L F) (hx : ExtS G w w') (hd : ∀ x ∈ F, x ∉ G) : RefAt mst w' xb L F := by
  obtain ⟨vp, vi, rfl, h1, h2, h3, h4⟩ := h
  refine ⟨vp, vi, rfl, hx.heap (hd xb (by simp)) h1, owns_laterS h2 hx fun g hg => hd g ?_, owns_laterS h3 hx fun g hg => hd g ?_, h4⟩
  · simp [mem_blks.2 hg]
  · simp [mem_blks.2 hg]

theorem RefAt.lt {w : World} {xb : Nat} {L : Row} {F : List Nat} (h : RefAt mst w xb L F) : ∀ x ∈ F, x < w.heap.size := by
  obtain ⟨vp, vi, rfl, h1, h2, h3, -⟩ := h
  intro x hx
  rcases List.mem_cons.1 hx with rfl | hx
  · exact heap_lt h1
  · rcases List.mem_append.1 hx with hx | hx
    · exact (owns_block h2 (mem_blks.1 hx)).2.1
    · exact (owns_block h3 (mem_blks.1 hx)).2.1

set_option maxHeartbeats 1000000 in
theorem place_any (xb : Nat) (L : Row) (F : List Nat) (c m : Int) (w : World) (h : RefAt mst w xb L F) (hl : L.length ≤ 1000000) :
    Calls Try.prog 42 #[.pointer (some ⟨xb, 0, none⟩), .agg #[.int .u32 c, .int .i64 m]] w fun e w' => e = .returned (.tuple #[.int .i64 (placeN L (c, m) : Int), .bool (foundB L (c, m))]) ∧ Ext w w' := by
  obtain ⟨vp, vi, -, hX, hP, -⟩ := h
  obtain ⟨a, cp, hvp, -, -, -⟩ := owns_slice hP
  rw [List.length_map] at hvp
  have hA : Ext w (w.alloc (.cells #[.int .u32 c, .int .i64 m] 30)) := (Ext.refl w).alloc _
  have hn := heap_new w (.cells #[.int .u32 c, .int .i64 m] 30)
  have hq : ∀ w', Ext (w.alloc (.cells #[.int .u32 c, .int .i64 m] 30)) w' → w'.cell? ⟨w.heap.size, 0, none⟩ = some (.int .u32 c) ∧ w'.cell? ⟨w.heap.size, 1, none⟩ = some (.int .i64 m) := fun w' hx => ⟨by rw [heap_cell (hx.heap hn)]; rfl, by rw [heap_cell (hx.heap hn)]; rfl⟩
  have HQ : Hid _ := hq
  have hc : ∀ w', Ext w w' → w'.cell? ⟨xb, 0, none⟩ = some vp := fun w' hx => by rw [heap_cell (hx.heap hX)]; rfl
  have HC : Hid _ := hc
  have HP : Hid (OwnP w 0 vp (L.map (·.1))) := hP
  have HV : Hid (vp = .slice a L.length cp) := hvp
  clear hn hq hc hP hX
  subst hvp
  obtain ⟨q0, q1⟩ := HQ.out _ (Ext.refl _)
  have x0 := HC.out _ hA
  go_enter Try.func42, Try.ntmps42
  go_wp2_with fail
  clear q0 q1 x0
  generalize hW0 : (w.alloc (.cells #[.int .u32 c, .int .i64 m] 30)) = W0 at *
  clear hW0
  go_loopw [6] (fun i wr => ∃ k : Nat, k ≤ L.length ∧ i = .int .i64 k ∧ Ext W0 wr ∧ Hid (PlAt L (c, m) k)) (fun i _ => L.length - (intOf i).toNat)
  case atStart => exact ⟨0, Nat.zero_le _, rfl, Ext.refl _, by show PlAt L (c, m) 0; simp [PlAt]⟩
  case round =>
    obtain ⟨k, hk, rfl, hx, HK⟩ := hrel
    by_cases hlt : k < L.length
    · obtain ⟨x, hxk⟩ : ∃ x, L[k]? = some x := ⟨_, List.getElem?_eq_getElem hlt⟩
      obtain ⟨⟨pa, pn⟩, u⟩ := x
      have hcell := OwnP.cell (owns_later HP.out (hA.trans hx) : OwnP wr 0 (.slice a L.length cp) (L.map (·.1))) (i := k) (p := (pa, pn)) (by simp [hxk])
      obtain ⟨g, c', hs, h0, h1⟩ := hcell
      rw [List.length_map] at hs
      cases hs
      have gk : ∀ w', Ext wr.drew w' → w'.cell? ⟨g, k * 2, none⟩ = some (.int .u32 pa) := fun w' hx' => by rw [(Ext.refl wr).drew.trans hx' |>.below.cell (p := ⟨g, k * 2, none⟩) (block_lt h0)]; exact h0
      have gn : ∀ w', Ext wr.drew w' → w'.cell? ⟨g, k * 2 + 1, none⟩ = some (.int .i64 pn) := fun w' hx' => by rw [(Ext.refl wr).drew.trans hx' |>.below.cell (p := ⟨g, k * 2 + 1, none⟩) (block_lt h1)]; exact h1
      have q0 : ∀ w', Ext wr.drew w' → w'.cell? ⟨w.heap.size, 0, none⟩ = some (.int .u32 c) := fun w' hx' => (HQ.out w' (hx.drew.trans hx')).1
      have q1 : ∀ w', Ext wr.drew w' → w'.cell? ⟨w.heap.size, 1, none⟩ = some (.int .i64 m) := fun w' hx' => (HQ.out w' (hx.drew.trans hx')).2
      have x0 : ∀ w', Ext wr.drew w' → w'.cell? ⟨xb, 0, none⟩ = some (.slice (some ⟨g, 0, none⟩) L.length cp) := fun w' hx' => HC.out w' (hA.trans (hx.drew.trans hx'))
      have kb := fun w => refBefore_any pa pn c m w
      have hki : (k : Int) < (L.length : Int) := by omega
      have HX : Hid (L[k]? = some ((pa, pn), u)) := hxk
      clear hxk h0 h1
      generalize hd : bef (pa, pn) (c, m) = d at *
      have HD : Hid _ := hd
      clear hd
      cases d
      · go_wp2_with fail
        refine wp_region_eager [(0, false), (1, false), (2, false), (3, false), (4, false), (5, false), (6, false), (7, false), (8, false), (9, false), (10, false), (11, false), (12, false), (13, false), (14, false), (15, false), (16, true), (17, false)] (by kernel_rfl) (by kernel_rfl) rfl (by kernel_rfl) (fun _ _ _ _ _ h => h) ?_
        have hxd := hx.drew
        generalize wr.drew = W at *
        repeat (first
          | (refine wpE_read (v := ?_) rfl (by rfl) ?_ ?_; rotate_left; (focus (intro w' hx; go_simp; first | done | with_reducible rfl)); simp only [Act.put, List.setIfInBounds_toArray, List.set_cons_zero, List.set_cons_succ])
          | (refine wpE_call rfl (by rfl) (fun K hK => ?_); go_simp; first
              | (go_at_call 51; refine (kb _).mono ?_; rintro e w1 ⟨rfl, hx1⟩; refine hK _ _ hx1 ?_; clear hK K)))
        refine wpE_done ?_
        go_wp2_with fail
        refine wp_region_eager [(0, false), (1, false), (2, false), (3, false), (4, false), (5, false), (6, false), (7, false), (8, false), (9, false), (10, false), (11, false), (12, false), (13, false), (14, false), (15, false), (16, false), (17, false), (18, false), (19, false), (20, false)] (by kernel_rfl) (by kernel_rfl) rfl (by kernel_rfl) (fun _ _ _ _ _ h => h) ?_
        have hx2 := hx1.drew
        generalize w1.drew = W2 at *
        replace gk := fun w' h => gk w' (hx2.trans h); replace gn := fun w' h => gn w' (hx2.trans h); replace q0 := fun w' h => q0 w' (hx2.trans h); replace q1 := fun w' h => q1 w' (hx2.trans h); replace x0 := fun w' h => x0 w' (hx2.trans h)
        have eq := fun w => eql_prefix pa pn c m w
        have eg := eq_guard
        repeat (first
          | (refine wpE_read (v := ?_) rfl (by rfl) ?_ ?_; rotate_left; (focus (intro w' hx; go_simp; first | done | with_reducible rfl)); simp only [Act.put, List.setIfInBounds_toArray, List.set_cons_zero, List.set_cons_succ]))
        refine wpE_done ?_
        go_wp2_with fail
        go_ret2
        have hpl := plAt_stop HK.out HX.out HD.out
        have hfo : foundB L (c, m) = (pa == c && pn == m) := by
          unfold foundB; rw [hpl, HX.out]
        rw [hpl, hfo]
        exact ⟨rfl, hA.trans (hxd.trans hx2)⟩
      · go_wp2_with fail
        refine wp_region_eager [(0, false), (1, false), (2, false), (3, false), (4, false), (5, false), (6, false), (7, false), (8, false), (9, false), (10, false), (11, false), (12, false), (13, false), (14, false), (15, false), (16, true), (17, false)] (by kernel_rfl) (by kernel_rfl) rfl (by kernel_rfl) (fun _ _ _ _ _ h => h) ?_
        have hxd := hx.drew
        generalize wr.drew = W at *
        repeat (first
          | (refine wpE_read (v := ?_) rfl (by rfl) ?_ ?_; rotate_left; (focus (intro w' hx; go_simp; first | done | with_reducible rfl)); simp only [Act.put, List.setIfInBounds_toArray, List.set_cons_zero, List.set_cons_succ])
          | (refine wpE_call rfl (by rfl) (fun K hK => ?_); go_simp; first
              | (go_at_call 51; refine (kb _).mono ?_; rintro e w1 ⟨rfl, hx1⟩; refine hK _ _ hx1 ?_; clear hK K)))
        refine wpE_done ?_
        go_wp2_with fail
        go_roundw
        case rel => exact ⟨k + 1, by omega, by go_num, hxd.trans hx1, plAt_step HK.out HX.out HD.out⟩
        case measure => simp [intOf]; omega
    · obtain rfl : k = L.length := by omega
      have q0 : ∀ w', Ext wr.drew w' → w'.cell? ⟨w.heap.size, 0, none⟩ = some (.int .u32 c) := fun w' hx' => (HQ.out w' (hx.drew.trans hx')).1
      have q1 : ∀ w', Ext wr.drew w' → w'.cell? ⟨w.heap.size, 1, none⟩ = some (.int .i64 m) := fun w' hx' => (HQ.out w' (hx.drew.trans hx')).2
      have x0 : ∀ w', Ext wr.drew w' → w'.cell? ⟨xb, 0, none⟩ = some (.slice a L.length cp) := fun w' hx' => HC.out w' (hA.trans (hx.drew.trans hx'))
      go_wp2_with fail
      refine wp_region_eager [(0, false), (1, false), (2, false), (3, false), (4, false), (5, false), (6, false), (7, false), (8, false), (9, false), (10, false), (11, false), (12, false), (13, false), (14, false), (15, false), (16, true), (17, false)] (by kernel_rfl) (by kernel_rfl) rfl (by kernel_rfl) (fun _ _ _ _ _ h => h) ?_
      have hxd := hx.drew
      generalize wr.drew = W at *
      iterate 8 (refine wpE_read (v := ?_) rfl (by rfl) ?_ ?_; rotate_left; (focus (intro w' hx; go_simp; first | done | with_reducible rfl)); simp only [Act.put, List.setIfInBounds_toArray, List.set_cons_zero, List.set_cons_succ])
      iterate 9 (rw [wpE_skip_eq _ rfl (by rfl)]; simp only [Act.put, List.setIfInBounds_toArray, List.set_cons_zero, List.set_cons_succ])
      iterate 1 (refine wpE_read (v := ?_) rfl (by rfl) ?_ ?_; rotate_left; (focus (intro w' hx; go_simp; first | done | with_reducible rfl)); simp only [Act.put, List.setIfInBounds_toArray, List.set_cons_zero, List.set_cons_succ])
      refine wpE_done ?_
      go_wp2_with fail
      refine wp_region_eager [(0, false), (1, false), (2, false), (3, false), (4, false), (5, false), (6, false), (7, false), (8, false), (9, false), (10, false), (11, false), (12, false), (13, false), (14, false), (15, false), (16, false), (17, false), (18, false), (19, false), (20, false)] (by kernel_rfl) (by kernel_rfl) rfl (by kernel_rfl) (fun _ _ _ _ _ h => h) ?_
      have hx2 := (Ext.refl W).drew
      generalize W.drew = W2 at *
      replace q0 := fun w' h => q0 w' (hx2.trans h); replace q1 := fun w' h => q1 w' (hx2.trans h); replace x0 := fun w' h => x0 w' (hx2.trans h)
      iterate 9 (refine wpE_read (v := ?_) rfl (by rfl) ?_ ?_; rotate_left; (focus (intro w' hx; go_simp; first | done | with_reducible rfl)); simp only [Act.put, List.setIfInBounds_toArray, List.set_cons_zero, List.set_cons_succ])
      iterate 9 (rw [wpE_skip_eq _ rfl (by rfl)]; simp only [Act.put, List.setIfInBounds_toArray, List.set_cons_zero, List.set_cons_succ])
      iterate 3 (refine wpE_read (v := ?_) rfl (by rfl) ?_ ?_; rotate_left; (focus (intro w' hx; go_simp; first | done | with_reducible rfl)); simp only [Act.put, List.setIfInBounds_toArray, List.set_cons_zero, List.set_cons_succ])
      refine wpE_done ?_
      go_wp2_with fail
      go_ret2
      have hpl := plAt_end HK.out
      have hfo : foundB L (c, m) = false := by
        unfold foundB; rw [hpl]; simp
      rw [hpl, hfo]
      exact ⟨rfl, hA.trans (hxd.trans hx2)⟩

theorem RefAt.ext {w w' : World} {xb : Nat} {L : Row} {F : List Nat} (h : RefAt mst w xb L F) (hx : Ext w w') : RefAt mst w' xb L F := h.later (hx.toS []) (by simp)

/-- The document's rows, cell by cell. -/
theorem RefAt.open {w : World} {xb : Nat} {L : Row} {F : List Nat} (h : RefAt mst w xb L F) : ∃ ap cp ai ci, w.heap[xb]? = some (.cells #[.slice ap L.length cp, .slice ai L.length ci, .int .i64 mst] 40 (0, 0)) ∧
    ∀ (k : Nat) (x : PX × Int), L[k]? = some x → ∃ gp gi, ap = some ⟨gp, 0, none⟩ ∧ ai = some ⟨gi, 0, none⟩ ∧ w.cell? ⟨gp, k * 2, none⟩ = some (.int .u32 x.1.1) ∧ w.cell? ⟨gp, k * 2 + 1, none⟩ = some (.int .i64 x.1.2) ∧ w.cell? ⟨gi, k, none⟩ = some (.int .i64 x.2) := by
  obtain ⟨vp, vi, rfl, hX, hP, hI, -⟩ := h
  obtain ⟨ap, cp, e1, -, -, -⟩ := owns_slice hP
  obtain ⟨ai, ci, e2, -, -, -⟩ := owns_slice hI
  subst e1 e2
  simp only [List.length_map] at hX
  refine ⟨ap, cp, ai, ci, hX, fun k x hk => ?_⟩
  obtain ⟨gp, c, h1, h2, h3⟩ := OwnP.cell hP (i := k) (p := x.1) (by simp [hk])
  obtain ⟨gi, c', h4, h5⟩ := OwnI.cell hI (i := k) (p := x.2) (by simp [hk])
  cases h1
  cases h4
  exact ⟨gp, gi, rfl, rfl, h2, h3, h5⟩

def RefAns (mst : Int) (w : World) (xb : Nat) (F : List Nat) (L' : Row) (w' : World) : Prop := ∃ F', RefAt mst w' xb L' F' ∧ ExtS F w w' ∧ ∀ x ∈ F', x ∈ F ∨ w.heap.size ≤ x

/-- The document's Trie has new rows. -/
def NewRows (mst : Int) (w : World) (xb n : Nat) (yp yi : List Value) (w' : World) : Prop :=
  ∃ up ui, w'.heap[xb]? = some (.cells #[up, ui, .int .i64 mst] 40 (0, 0)) ∧ w'.ownsRow w.heap.size 30 2 up n yp ∧ w'.ownsRow w.heap.size 3 1 ui n yi ∧ up ≠ .slice none 0 0 ∧ ui ≠ .slice none 0 0 ∧ ExtS [xb] w w'

set_option maxHeartbeats 1000000 in
theorem refDel_walk (xb : Nat) (c m : Int) (k n : Nat) (vp vi : Value) (p1 p2 p3 p4 : Option Addr) (c1 c2 c3 c4 : Nat) (y1 y2 y3 y4 : List Value) (w : World) (hkn : k < n) (hn : n ≤ 1000000)
    (hX : w.heap[xb]? = some (.cells #[vp, vi, .int .i64 mst] 40 (0, 0)))
    (k1 : ∀ w', Ext w w' → Calls Try.prog 42 #[.pointer (some ⟨xb, 0, none⟩), .agg #[.int .u32 c, .int .i64 m]] w' fun e w2 => e = .returned (.tuple #[.int .i64 (k : Int), .bool true]) ∧ Ext w' w2)
    (t1 : Cuts 35 vp none (some k) p1 k c1) (t2 : Cuts 35 vp (some (k + 1 : Nat)) none p2 (n - (k + 1)) c2) (t3 : Cuts 36 vi none (some k) p3 k c3) (t4 : Cuts 36 vi (some (k + 1 : Nat)) none p4 (n - (k + 1)) c4)
    (s1 : Tri.Src w 2 p1 k c1 y1) (s2 : Tri.Src w 2 p2 (n - (k + 1)) c2 y2) (s3 : Tri.Src w 1 p3 k c3 y3) (s4 : Tri.Src w 1 p4 (n - (k + 1)) c4 y4) (hb3 : ∀ b off, p3 = some ⟨b, off, none⟩ → b ≠ xb) (hb4 : ∀ b off, p4 = some ⟨b, off, none⟩ → b ≠ xb) :
    Calls Try.prog 25 #[.pointer (some ⟨xb, 0, none⟩), .agg #[.int .u32 c, .int .i64 m]] w fun e w' => e = .returned (.bool true) ∧ NewRows mst w xb (n - 1) (y1 ++ y2) (y3 ++ y4) w' := by
  have hA : Ext w (w.alloc (.cells #[.int .u32 c, .int .i64 m] 30)) := (Ext.refl w).alloc _
  have HQ : Hid _ := heap_new w (.cells #[.int .u32 c, .int .i64 m] 30)
  have q0 : (w.alloc (.cells #[.int .u32 c, .int .i64 m] 30)).cell? ⟨w.heap.size, 0, none⟩ = some (.int .u32 c) := by rw [heap_cell HQ.out]; rfl
  have q1 : (w.alloc (.cells #[.int .u32 c, .int .i64 m] 30)).cell? ⟨w.heap.size, 1, none⟩ = some (.int .i64 m) := by rw [heap_cell HQ.out]; rfl
  have HX : Hid _ := hX
  have HS : Hid (Tri.Src w 2 p1 k c1 y1 ∧ Tri.Src w 2 p2 (n - (k + 1)) c2 y2 ∧ Tri.Src w 1 p3 k c3 y3 ∧ Tri.Src w 1 p4 (n - (k + 1)) c4 y4) := ⟨s1, s2, s3, s4⟩
  have u1 : ∀ w, (Instr.slice 35 vp none (some (.int .i64 k)) none).run Try.prog w = .ok (.slice p1 k c1) w := t1
  have u2 : ∀ w, (Instr.slice 35 vp (some (.int .i64 (k + 1))) none none).run Try.prog w = .ok (.slice p2 (n - (k + 1)) c2) w := t2
  have u3 : ∀ w, (Instr.slice 36 vi none (some (.int .i64 k)) none).run Try.prog w = .ok (.slice p3 k c3) w := t3
  have u4 : ∀ w, (Instr.slice 36 vi (some (.int .i64 (k + 1))) none none).run Try.prog w = .ok (.slice p4 (n - (k + 1)) c4) w := t4
  have wr1 : IntKind.i64.wrap ((k : Int) + 1) = (k : Int) + 1 := wraps_i64 _ (by omega) (by omega)
  clear hX t1 t2 t3 t4 s1 s2 s3 s4
  go_enter Try.func25, Try.ntmps25
  go_wp2_with (go_at_call 42; refine (k1 _ hA).mono ?_; rintro e w1 ⟨rfl, hx1⟩)
  have hxw : Ext w w1 := hA.trans hx1
  have HX1 : Hid (w1.heap[xb]? = some (.cells #[vp, vi, .int .i64 mst] 40 (0, 0))) := hxw.heap HX.out
  have hb1 : w.heap.size ≤ w1.heap.size := hxw.size
  clear q0 q1 k1
  refine wp_region_tailMR (ExtN w1.heap.size) (ExtN.refl _) (fun _ _ _ h k => h.trans k) [] [19] [[0, 17, 18, 19], [2, 3, 4, 5, 7, 8, 16, 17, 18, 19], [3, 4, 5, 7, 8, 16, 17, 18, 19], [4, 5, 7, 8, 16, 17, 18, 19], [5, 7, 8, 16, 17, 18, 19], [6, 7, 8, 16, 17, 18, 19], [7, 8, 16, 17, 18, 19], [9, 10, 11, 12, 15, 16, 17, 18, 19], [10, 11, 12, 15, 16, 17, 18, 19], [11, 12, 15, 16, 17, 18, 19], [12, 15, 16, 17, 18, 19], [13, 14, 15, 16, 17, 18, 19], [14, 15, 16, 17, 18, 19], [15, 16, 17, 18, 19], [], [], [], [17, 18, 19], [18, 19]] [(0, false), (2, false), (3, false), (4, false), (5, false), (6, false), (7, false), (9, false), (10, false), (11, false), (12, false), (13, false), (14, false), (15, false), (1, true), (8, true), (16, true), (17, false), (18, false)] (by kernel_rfl) (by kernel_rfl) rfl (by kernel_rfl) (fun _ _ _ _ _ h => h) ?_
  refine wpM_done ?_
  have hxdp : Ext w1 w1.drew := (Ext.refl w1).drew
  have xxp : ∀ w', ExtN w1.heap.size w1.drew w' → w'.cell? ⟨xb, 0, none⟩ = some vp := fun w' h => by rw [heap_cell (h.heap (heap_lt HX1.out) HX1.out)]; rfl
  generalize w1.drew = Wp at *
  iterate 14 (refine wpE_read (v := ?_) rfl (by rfl) ?_ ?_; rotate_left; (focus (intro w' hx; go_simp; first | done | with_reducible rfl)); simp only [Act.put, List.setIfInBounds_toArray, List.set_cons_zero, List.set_cons_succ])
  clear xxp
  refine wpE_call rfl (by rfl) (fun K hK => ?_)
  go_simp
  refine hK _ _ (((Ext.refl _).alloc _).upto _) ?_
  clear hK K
  have hGp := heap_new Wp (.cells #[] 30)
  have hxGp : Ext w1 (Wp.alloc (.cells #[] 30)) := hxdp.alloc _
  refine wpE_call rfl (by rfl) (fun K hK => ?_)
  refine wp_app_lit_px (.tmp 16) (.tmp 22) rfl Wp.heap.size rfl hGp w1.heap.size hxdp.size p1 k c1 y1 rfl (Tri.Src.ext HS.out.1 (by omega) (hxw.trans hxGp)) (by omega) ?_
  intro vp4 Wp4 hop4 hnep4 hxp4
  refine hK _ _ (hxp4.upto _) ?_
  clear hK K
  simp only [Act.put, List.setIfInBounds_toArray, List.set_cons_zero, List.set_cons_succ]
  have hxp5 : Ext w1 Wp4 := hxGp.trans hxp4
  refine wpE_call rfl (by rfl) (fun K hK => ?_)
  refine wp_app_px (.tmp 23) (.tmp 30) rfl w1.heap.size vp4 k y1 rfl hop4 p2 (n - (k + 1)) c2 y2 rfl (Tri.Src.ext HS.out.2.1 (by omega) (hxw.trans hxp5)) (by omega) hxp5.size ?_
  intro vp6 Wp6 hop6 hgp6 hnp6
  have hNp6 := grown_extN hop4 (Nat.le_refl _) hgp6
  have hxp6 : Ext w1 Wp6 := ExtN.ext hxp5 hNp6 (Nat.le_refl _)
  have hnep6 : vp6 ≠ .slice none 0 0 := fun e => hnep4 (hnp6.1 e).1
  clear hnp6 hgp6 hop4 hnep4 hxp5 hxp4 hGp hxGp hxdp
  obtain ⟨ap6, dp6, rfl, -, -, -⟩ := owns_slice hop6
  refine hK _ _ hNp6 ?_
  clear hK K hNp6
  simp only [Act.put, List.setIfInBounds_toArray, List.set_cons_zero, List.set_cons_succ]
  iterate 2 (refine wpE_read (v := ?_) rfl (by rfl) ?_ ?_; rotate_left; (focus (intro w' hx; go_simp; first | done | with_reducible rfl)); simp only [Act.put, List.setIfInBounds_toArray, List.set_cons_zero, List.set_cons_succ])
  refine wpE_done ?_
  have HXe : Hid (Wp6.heap[xb]? = some (.cells #[vp, vi, .int .i64 mst] 40 (0, 0))) := hxp6.heap HX1.out
  have e0 : Wp6.cell? ⟨xb, 0, none⟩ = some vp := by rw [heap_cell HXe.out]; rfl
  have f0 : Wp6.frozen? ⟨xb, 0, none⟩ = false := heap_frozen HXe.out
  iterate 1 (refine wpT_step rfl (by rfl) (fun K hK => ?_); go_simp; refine hK _ _ ?_; clear hK K)
  refine wpT_done ?_
  go_wp2_with fail
  have hs := extS_set Wp6 xb 0 (.slice ap6 (k + (n - (k + 1))) dp6)
  have hxl := heap_lt HX1.out
  have HX7 : Hid ((Wp6.setCell ⟨xb, 0, none⟩ (.slice ap6 (k + (n - (k + 1))) dp6)).heap[xb]? = some (.cells #[.slice ap6 (k + (n - (k + 1))) dp6, vi, .int .i64 mst] 40 (0, 0))) := by
    show _ = _
    rw [heap_set HXe.out (.slice ap6 (k + (n - (k + 1))) dp6)]; rfl
  have hop7 := owns_laterS hop6 hs fun g hg => by have := (owns_block hop6 hg).1; simp; omega
  have hx7 : ExtS [xb] w (Wp6.setCell ⟨xb, 0, none⟩ (.slice ap6 (k + (n - (k + 1))) dp6)) := ((hxw.trans hxp6).toS _).trans hs
  have hS7 : Tri.Src (Wp6.setCell ⟨xb, 0, none⟩ (.slice ap6 (k + (n - (k + 1))) dp6)) 1 p3 k c3 y3 ∧ Tri.Src (Wp6.setCell ⟨xb, 0, none⟩ (.slice ap6 (k + (n - (k + 1))) dp6)) 1 p4 (n - (k + 1)) c4 y4 :=
    ⟨Tri.Src.extS HS.out.2.2.1 (by omega) hx7 (fun b off h => by simpa using hb3 b off h), Tri.Src.extS HS.out.2.2.2 (by omega) hx7 (fun b off h => by simpa using hb4 b off h)⟩
  have HS7 : Hid _ := hS7
  clear hS7 e0 f0 HXe hop6 hs hxp6 hb3 hb4 HX1 HX
  generalize (Wp6.setCell ⟨xb, 0, none⟩ (.slice ap6 (k + (n - (k + 1))) dp6)) = w7 at *
  refine wp_region_tailMR (ExtN w7.heap.size) (ExtN.refl _) (fun _ _ _ h k => h.trans k) [] [19] [[0, 17, 18, 19], [2, 3, 4, 5, 7, 8, 16, 17, 18, 19], [3, 4, 5, 7, 8, 16, 17, 18, 19], [4, 5, 7, 8, 16, 17, 18, 19], [5, 7, 8, 16, 17, 18, 19], [6, 7, 8, 16, 17, 18, 19], [7, 8, 16, 17, 18, 19], [9, 10, 11, 12, 15, 16, 17, 18, 19], [10, 11, 12, 15, 16, 17, 18, 19], [11, 12, 15, 16, 17, 18, 19], [12, 15, 16, 17, 18, 19], [13, 14, 15, 16, 17, 18, 19], [14, 15, 16, 17, 18, 19], [15, 16, 17, 18, 19], [], [], [], [17, 18, 19], [18, 19]] [(0, false), (2, false), (3, false), (4, false), (5, false), (6, false), (7, false), (9, false), (10, false), (11, false), (12, false), (13, false), (14, false), (15, false), (1, true), (8, true), (16, true), (17, false), (18, false)] (by kernel_rfl) (by kernel_rfl) rfl (by kernel_rfl) (fun _ _ _ _ _ h => h) ?_
  refine wpM_done ?_
  have hxdi : Ext w7 w7.drew := (Ext.refl w7).drew
  have xxi : ∀ w', ExtN w7.heap.size w7.drew w' → w'.cell? ⟨xb, 1, none⟩ = some vi := fun w' h => by rw [heap_cell (h.heap (heap_lt HX7.out) HX7.out)]; rfl
  generalize w7.drew = Wi at *
  iterate 14 (refine wpE_read (v := ?_) rfl (by rfl) ?_ ?_; rotate_left; (focus (intro w' hx; go_simp; first | done | with_reducible rfl)); simp only [Act.put, List.setIfInBounds_toArray, List.set_cons_zero, List.set_cons_succ])
  clear xxi
  refine wpE_call rfl (by rfl) (fun K hK => ?_)
  go_simp
  refine hK _ _ (((Ext.refl _).alloc _).upto _) ?_
  clear hK K
  have hGi := heap_new Wi (.cells #[] 3)
  have hxGi : Ext w7 (Wi.alloc (.cells #[] 3)) := hxdi.alloc _
  refine wpE_call rfl (by rfl) (fun K hK => ?_)
  refine wp_app_lit_int (.tmp 35) (.tmp 41) rfl Wi.heap.size rfl hGi w7.heap.size hxdi.size p3 k c3 y3 rfl (Tri.Src.ext HS7.out.1 (by omega) ((Ext.refl w7).trans hxGi)) (by omega) ?_
  intro vi4 Wi4 hoi4 hnei4 hxi4
  refine hK _ _ (hxi4.upto _) ?_
  clear hK K
  simp only [Act.put, List.setIfInBounds_toArray, List.set_cons_zero, List.set_cons_succ]
  have hxi5 : Ext w7 Wi4 := hxGi.trans hxi4
  refine wpE_call rfl (by rfl) (fun K hK => ?_)
  refine wp_app_int (.tmp 42) (.tmp 49) rfl w7.heap.size vi4 k y3 rfl hoi4 p4 (n - (k + 1)) c4 y4 rfl (Tri.Src.ext HS7.out.2 (by omega) ((Ext.refl w7).trans hxi5)) (by omega) hxi5.size ?_
  intro vi6 Wi6 hoi6 hgi6 hni6
  have hNi6 := grown_extN hoi4 (Nat.le_refl _) hgi6
  have hxi6 : Ext w7 Wi6 := ExtN.ext hxi5 hNi6 (Nat.le_refl _)
  have hnei6 : vi6 ≠ .slice none 0 0 := fun e => hnei4 (hni6.1 e).1
  clear hni6 hgi6 hoi4 hnei4 hxi5 hxi4 hGi hxGi hxdi
  obtain ⟨ai6, di6, rfl, -, -, -⟩ := owns_slice hoi6
  refine hK _ _ hNi6 ?_
  clear hK K hNi6
  simp only [Act.put, List.setIfInBounds_toArray, List.set_cons_zero, List.set_cons_succ]
  iterate 2 (refine wpE_read (v := ?_) rfl (by rfl) ?_ ?_; rotate_left; (focus (intro w' hx; go_simp; first | done | with_reducible rfl)); simp only [Act.put, List.setIfInBounds_toArray, List.set_cons_zero, List.set_cons_succ])
  refine wpE_done ?_
  have HXe : Hid (Wi6.heap[xb]? = some (.cells #[.slice ap6 (k + (n - (k + 1))) dp6, vi, .int .i64 mst] 40 (0, 0))) := hxi6.heap HX7.out
  have e0 : Wi6.cell? ⟨xb, 1, none⟩ = some vi := by rw [heap_cell HXe.out]; rfl
  have f0 : Wi6.frozen? ⟨xb, 1, none⟩ = false := heap_frozen HXe.out
  iterate 1 (refine wpT_step rfl (by rfl) (fun K hK => ?_); go_simp; refine hK _ _ ?_; clear hK K)
  refine wpT_done ?_
  go_wp2_with fail
  go_ret
  have hs := extS_set Wi6 xb 1 (.slice ai6 (k + (n - (k + 1))) di6)
  have hxl7 := heap_lt HX7.out
  have hkk : k + (n - (k + 1)) = n - 1 := by omega
  have hop8 := owns_later hop7 hxi6
  refine ⟨rfl, _, _, ?_, ?_, ?_, hnep6, hnei6, (hx7.trans (hxi6.toS _)).trans hs⟩
  · rw [heap_set HXe.out (.slice ai6 (k + (n - (k + 1))) di6)]; rfl
  · have h1 := owns_laterS hop8 hs fun g hg => by have := (owns_block hop8 hg).1; simp; omega
    have h2 := owns_base h1 hb1
    rw [hkk] at h2 ⊢
    exact h2
  · have h1 := owns_laterS hoi6 hs fun g hg => by have := (owns_block hoi6 hg).1; simp; omega
    have h2 := owns_base h1 hx7.size
    rw [hkk] at h2 ⊢
    exact h2

theorem new_ref {w w' : World} {xb : Nat} {L : Row} {F : List Nat} {n : Nat} {yp yi : List Value} (h : NewRows mst w xb n yp yi w') (hn : n = L.length) (hp : yp = pxC (L.map (·.1))) (hi : yi = (L.map (·.2)).map (Value.int .i64)) (hx : xb ∈ F) : RefAns mst w xb F L w' := by
  obtain ⟨up, ui, h1, h2, h3, h4, h5, h6⟩ := h
  subst hn hp hi
  refine ⟨xb :: (blks up ++ blks ui), ⟨up, ui, rfl, h1, ?_, ?_, .inr (.inl ⟨?_, ?_⟩)⟩, h6.mono (by simpa using hx), fun x hx' => ?_⟩
  · unfold OwnP; rw [List.length_map]; exact owns_base h2 (Nat.zero_le _)
  · unfold OwnI; rw [List.length_map]; exact owns_base h3 (Nat.zero_le _)
  · obtain ⟨g, c, h, _⟩ := owns_some h2 h4; exact ⟨g, c, h⟩
  · obtain ⟨g, c, h, _⟩ := owns_some h3 h5; exact ⟨g, c, h⟩
  · rcases List.mem_cons.1 hx' with rfl | hx'
    · exact .inl hx
    · rcases List.mem_append.1 hx' with hx' | hx'
      · exact .inr (owns_block h2 (mem_blks.1 hx')).1
      · exact .inr (owns_block h3 (mem_blks.1 hx')).1

/-- The rows' slices, to be cut. -/
theorem RefAt.rows {w : World} {xb : Nat} {L : Row} {F : List Nat} (h : RefAt mst w xb L F) :
    ∃ vp vi, xb ∈ F ∧ w.heap[xb]? = some (.cells #[vp, vi, .int .i64 mst] 40 (0, 0)) ∧ ∀ k, k ≤ L.length →
      (∃ p1 c1, Cuts 35 vp none (some k) p1 k c1 ∧ Tri.Src w 2 p1 k c1 (pxC ((L.map (·.1)).take k))) ∧ (∃ p2 c2, Cuts 35 vp (some k) none p2 (L.length - k) c2 ∧ Tri.Src w 2 p2 (L.length - k) c2 (pxC ((L.map (·.1)).drop k))) ∧
      (∃ p3 c3, Cuts 36 vi none (some k) p3 k c3 ∧ Tri.Src w 1 p3 k c3 (((L.map (·.2)).take k).map (Value.int .i64)) ∧ ∀ b off, p3 = some ⟨b, off, none⟩ → b ≠ xb) ∧
      (∃ p4 c4, Cuts 36 vi (some k) none p4 (L.length - k) c4 ∧ Tri.Src w 1 p4 (L.length - k) c4 (((L.map (·.2)).drop k).map (Value.int .i64)) ∧ ∀ b off, p4 = some ⟨b, off, none⟩ → b ≠ xb) := by
  obtain ⟨vp, vi, rfl, hX, hP, hI, hnil⟩ := h
  refine ⟨vp, vi, by simp, hX, fun k hk => ?_⟩
  unfold OwnP at hP
  unfold OwnI at hI
  rw [List.length_map] at hP hI
  rcases hnil with ⟨rfl, rfl⟩ | ⟨⟨gp, cp, rfl⟩, gi, ci, rfl⟩ | ⟨rfl, gi, ci, rfl⟩
  · have hL : L.length = 0 := by
      obtain ⟨_, h⟩ := hP
      rcases h with ⟨_, h⟩ | ⟨_, _, _, h, _⟩
      · exact h
      · cases h
    obtain rfl : L = [] := List.length_eq_zero_iff.1 hL
    obtain rfl : k = 0 := by simpa using hk
    refine ⟨⟨none, 0, cut_hi_px none 0 0 0 (Nat.le_refl _) (Nat.le_refl _), ⟨rfl, fun _ => rfl, by simp [pxC], .inl rfl⟩⟩, ⟨none, 0, cut_lo_px none 0 0 0 (Nat.le_refl _) (Nat.le_refl _), ⟨rfl, fun _ => rfl, by simp [pxC], .inl rfl⟩⟩,
      ⟨none, 0, cut_hi_int none 0 0 0 (Nat.le_refl _) (Nat.le_refl _), ⟨rfl, fun _ => rfl, by simp, .inl rfl⟩, by simp⟩, ⟨none, 0, cut_lo_int none 0 0 0 (Nat.le_refl _) (Nat.le_refl _), ⟨rfl, fun _ => rfl, by simp, .inl rfl⟩, by simp⟩⟩
  · obtain ⟨_, _, e1, hcp, _, _⟩ := owns_slice hP
    cases e1
    obtain ⟨_, _, e2, hci, _, _⟩ := owns_slice hI
    cases e2
    have sP := src_own hP (fun u hu => pxC_one hu)
    have sI := src_own hI (fun u hu => int_one hu)
    have hne : gi ≠ xb := by
      intro e
      obtain ⟨_, _, cur, hc⟩ := owns_block hI (g := gi) rfl
      rw [e, hX] at hc; cases hc
    refine ⟨⟨_, _, cut_hi_px _ _ _ k hk hcp, ?_⟩, ⟨_, _, cut_lo_px _ _ _ k hk hcp, ?_⟩, ⟨_, _, cut_hi_int _ _ _ k hk hci, ?_, ?_⟩, ⟨_, _, cut_lo_int _ _ _ k hk hci, ?_, ?_⟩⟩
    · rw [← pxC_take]; exact sP.take hk
    · rw [← pxC_drop]; exact sP.drop' hk hcp
    · have := sI.take hk
      rw [Nat.mul_one, ← List.map_take] at this
      exact this
    · rintro b off h; cases h; exact hne
    · have := sI.drop' hk hci
      rw [Nat.mul_one, ← List.map_drop] at this
      rw [Nat.mul_one]
      exact this
    · intro b off h
      split at h
      · cases h; exact hne
      · rw [Option.map_some, addr_add] at h; cases h; exact hne
  · have hL : L.length = 0 := by
      obtain ⟨_, h⟩ := hP
      rcases h with ⟨_, h⟩ | ⟨_, _, _, h, _⟩
      · exact h
      · cases h
    obtain rfl : L = [] := List.length_eq_zero_iff.1 hL
    obtain rfl : k = 0 := by simpa using hk
    have hne : gi ≠ xb := by
      intro e
      obtain ⟨_, _, cur, hc⟩ := owns_block hI (g := gi) rfl
      rw [e, hX] at hc; cases hc
    refine ⟨⟨none, 0, cut_hi_px none 0 0 0 (Nat.le_refl _) (Nat.le_refl _), ⟨rfl, fun _ => rfl, by simp [pxC], .inl rfl⟩⟩, ⟨none, 0, cut_lo_px none 0 0 0 (Nat.le_refl _) (Nat.le_refl _), ⟨rfl, fun _ => rfl, by simp [pxC], .inl rfl⟩⟩,
      ⟨_, _, cut_hi_int _ 0 ci 0 (Nat.le_refl _) (Nat.zero_le _), ⟨rfl, (fun h => by cases h), by simp, .inl rfl⟩, ?_⟩, ⟨_, _, cut_lo_int _ 0 ci 0 (Nat.le_refl _) (Nat.zero_le _), ⟨rfl, (fun h => by split at h <;> cases h), by simp, .inl rfl⟩, ?_⟩⟩
    · rintro b off h; cases h; exact hne
    · intro b off h
      split at h
      · cases h; exact hne
      · rw [Option.map_some, addr_add] at h; cases h; exact hne

theorem refDel_no (xb : Nat) (L : Row) (F : List Nat) (c m : Int) (w : World) (h : RefAt mst w xb L F) (hl : L.length ≤ 1000000) (hf : foundB L (c, m) = false) :
    Calls Try.prog 25 #[.pointer (some ⟨xb, 0, none⟩), .agg #[.int .u32 c, .int .i64 m]] w fun e w' => e = .returned (.bool false) ∧ Ext w w' := by
  have k1 := fun w' (hx : Ext w w') => place_any xb L F c m w' (h.later (hx.toS []) (by simp)) hl
  rw [hf] at k1
  generalize placeN L (c, m) = k at *
  have hA : Ext w (w.alloc (.cells #[.int .u32 c, .int .i64 m] 30)) := (Ext.refl w).alloc _
  clear hf
  go_enter Try.func25, Try.ntmps25
  go_wp2_with (go_at_call 42; refine (k1 _ hA).mono ?_; rintro e w1 ⟨rfl, hx1⟩)
  go_ret
  exact ⟨rfl, hA.trans hx1⟩

theorem refDel_any (xb : Nat) (L : Row) (F : List Nat) (c m : Int) (w : World) (h : RefAt mst w xb L F) (hs : Srt L) (hl : L.length ≤ 1000000) :
    Calls Try.prog 25 #[.pointer (some ⟨xb, 0, none⟩), .agg #[.int .u32 c, .int .i64 m]] w fun e w' => e = .returned (.bool (foundB L (c, m))) ∧ RefAns mst w xb F (delL L (c, m)) w' := by
  by_cases hf : foundB L (c, m) = true
  · rw [hf]
    have k1 := fun w' (hx : Ext w w') => place_any xb L F c m w' (h.later (hx.toS []) (by simp)) hl
    rw [hf] at k1
    have hdel := del_found hs hf
    obtain ⟨u, hu⟩ := foundB_iff.1 hf
    have hk := (List.getElem?_eq_some_iff.1 hu).1
    obtain ⟨vp, vi, hxF, hX, hr⟩ := h.rows
    generalize placeN L (c, m) = k at *
    obtain ⟨⟨p1, c1', t1, s1⟩, _, ⟨p3, c3, t3, s3, b3⟩, _⟩ := hr k (by omega)
    obtain ⟨_, ⟨p2, c2, t2, s2⟩, _, ⟨p4, c4, t4, s4, b4⟩⟩ := hr (k + 1) (by omega)
    refine (refDel_walk xb c m k L.length vp vi p1 p2 p3 p4 c1' c2 c3 c4 _ _ _ _ w hk hl hX k1 t1 t2 t3 t4 s1 s2 s3 s4 b3 b4).mono ?_
    rintro e w' ⟨rfl, hN⟩
    refine ⟨rfl, new_ref hN ?_ ?_ ?_ hxF⟩
    · rw [hdel]; simp; omega
    · rw [hdel]; simp only [List.map_append, List.map_take, List.map_drop, pxC_append]
    · rw [hdel]; simp
  · have hf' : foundB L (c, m) = false := by simpa using hf
    rw [hf', del_not hs hf']
    refine (refDel_no xb L F c m w h hl hf').mono ?_
    rintro e w' ⟨rfl, hx⟩
    exact ⟨rfl, F, h.later (hx.toS []) (by simp), hx.toS F, fun x hx => .inl hx⟩
end Go.Proofs.Ytlnmdlachfnmkaa.TriD
