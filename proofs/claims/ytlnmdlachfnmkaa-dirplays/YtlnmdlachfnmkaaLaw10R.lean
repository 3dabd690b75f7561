/- A Dir and the document's Dir side by side. -/
import Derived.Test.YtlnmdlachfnmkaaLaw10T
import Derived.Test.YtlnmdlachfnmkaaRefE
namespace Go.Proofs.Ytlnmdlachfnmkaa.Dr
set_option maxRecDepth 100000
open Go.RowKit Go.Proofs.Ytlnmdlachfnmkaa Go.Proofs.Ytlnmdlachfnmkaa.Tri
set_option linter.unusedVariables false

/-- A Dir and the document's, each in blocks of its own, all new. -/
def Both10 (w0 w : World) (db xb : Nat) (mst : Int) (L : Row) : Prop := ∃ F G, DirAt w db mst L F ∧ TriD.RefAt mst w xb L G ∧ (∀ x ∈ F, x ∉ G) ∧ (∀ x ∈ F, w0.heap.size ≤ x) ∧ (∀ x ∈ G, w0.heap.size ≤ x) ∧ Ext w0 w

theorem Both10.ext {w0 w w' : World} {db xb : Nat} {mst : Int} {L : Row} (h : Both10 w0 w db xb mst L) (hx' : Ext w w') : Both10 w0 w' db xb mst L := by
  obtain ⟨F, G, d, x, s, n1, n2, hx⟩ := h
  exact ⟨F, G, d.ext hx', x.ext hx', s, n1, n2, hx.trans hx'⟩

theorem Both10.toExt {w0 w : World} {db xb : Nat} {mst : Int} {L : Row} (h : Both10 w0 w db xb mst L) : Ext w0 w := by
  obtain ⟨F, G, d, x, s, n1, n2, hx⟩ := h
  exact hx

/-- What is there behind an act. -/
def actR (mst : Int) (L : Row) (d : Bool) (p : PX) (v : Int) : Row := if d = true then delL L p else (setR mst L p v).2

theorem actR_len (mst : Int) (L : Row) (d : Bool) (p : PX) (v : Int) : (actR mst L d p v).length ≤ L.length + 1 := by
  unfold actR
  split
  · have := delL_len L p; omega
  · exact setR_len mst L p v

theorem both_step {w0 w W w1 w2 : World} {db xb : Nat} {mst : Int} {L' : Row} {F G : List Nat} (hw : Ext w W) (hx : Ext w0 w) (s : ∀ x ∈ F, x ∉ G) (n1 : ∀ x ∈ F, w0.heap.size ≤ x) (n2 : ∀ x ∈ G, w0.heap.size ≤ x) (hG : ∀ x ∈ G, x < W.heap.size)
    (h1 : DirAns W F db mst L' w1) (h2 : TriD.RefAns mst w1 xb G L' w2) : Both10 w0 w2 db xb mst L' ∧ ExtN w0.heap.size w w2 ∧ W.heap.size ≤ w2.heap.size := by
  obtain ⟨F', d', x1, a1⟩ := h1
  obtain ⟨G', r', x2, a2⟩ := h2
  have s1 : ∀ x ∈ F', x ∉ G := apart_step s a1 hG
  have n1' := new_ge (hx.trans hw) n1 a1
  have hx1 := ext_new (hx.trans hw) n1 x1
  refine ⟨⟨F', G', d'.later x2 s1, r', apart_symm (apart_step (apart_symm s1) a2 d'.lt), n1', new_ge hx1 n2 a2, ext_new hx1 n2 x2⟩, ?_⟩
  exact ⟨((extS_N (hw.toS []) (by simp)).trans (extS_N x1 n1)).trans (extS_N x2 n2), Nat.le_trans x1.size x2.size⟩

/-- The worlds of a region in which one act comes ahead of what only reads. -/
def RA (N M : Nat) (A B : World) : Prop := ExtN N A B ∧ (M < A.heap.size → Ext A B)

theorem RA.refl (N M : Nat) (A : World) : RA N M A A := ⟨ExtN.refl N A, fun _ => Ext.refl A⟩

theorem RA.trans {N M : Nat} {A B C : World} (h : RA N M A B) (k : RA N M B C) : RA N M A C := ⟨h.1.trans k.1, fun hm => (h.2 hm).trans (k.2 (Nat.lt_of_lt_of_le hm h.1.size))⟩

theorem RA.of {N M : Nat} {A B : World} (h : Ext A B) : RA N M A B := ⟨extS_N (h.toS []) (by simp), fun _ => h⟩

set_option maxHeartbeats 1000000 in
theorem act_any {w0 w : World} {db xb : Nat} {mst : Int} {L : Row} (h : Both10 w0 w db xb mst L) (hl : L.length ≤ 10000) (d : Bool) (c m v : Int) (c0 : 0 ≤ c) (c1 : c ≤ 4294967295) :
    Calls Try.prog 12 #[.pointer (some ⟨db, 0, none⟩), .pointer (some ⟨xb, 0, none⟩), .agg #[.bool d, .int .u32 c, .int .i64 m, .int .i64 v]] w fun e w' => e = .returned (.bool true) ∧ Both10 w0 w' db xb mst (actR mst L d (c, m) v) ∧ ExtN w0.heap.size w w' ∧ w.heap.size < w'.heap.size := by
  obtain ⟨F, G, hd, hr, hs, n1, n2, hx⟩ := h
  have hA : Ext w (w.alloc (.cells #[.bool d, .int .u32 c, .int .i64 m, .int .i64 v] 32)).drew := ((Ext.refl w).alloc _).drew
  have hQ : (w.alloc (.cells #[.bool d, .int .u32 c, .int .i64 m, .int .i64 v] 32)).drew.heap[w.heap.size]? = some (.cells #[.bool d, .int .u32 c, .int .i64 m, .int .i64 v] 32 (0, 0)) := heap_new w _
  have hnF : w.heap.size ∉ F ++ G := fun hy => by
    rcases List.mem_append.1 hy with hy | hy
    · have := hd.lt _ hy; omega
    · have := hr.lt _ hy; omega
  have iF : ∀ A B : World, ExtS F A B → ExtS (F ++ G) A B := fun A B h => (ExtS.refl (F ++ G) A).then h (fun b hb => .inl (by simp [hb]))
  have iG : ∀ A B : World, ExtS G A B → ExtS (F ++ G) A B := fun A B h => (ExtS.refl (F ++ G) A).then h (fun b hb => .inl (by simp [hb]))
  have hGlt : ∀ x ∈ G, x < (w.alloc (.cells #[.bool d, .int .u32 c, .int .i64 m, .int .i64 v] 32)).drew.heap.size := fun x hx' => Nat.lt_of_lt_of_le (hr.lt x hx') hA.size
  have hdA := hd.ext hA
  have hrA := hr.ext hA
  have hsrt := hd.srt
  have hval := hd.valid
  have hroom := hd.room
  cases d with
  | true =>
    go_enter Try.func12, Try.ntmps12
    go_wp2_with fail
    refine wp_region_eagerS (F ++ G) [(0, false), (1, false), (2, false), (4, false), (5, false), (6, false), (7, false), (8, false), (3, true), (9, true), (10, false), (11, false)] (by kernel_rfl) (by kernel_rfl) rfl (by kernel_rfl) (fun _ _ _ _ _ h => h) ?_
    generalize (w.alloc (.cells #[.bool true, .int .u32 c, .int .i64 m, .int .i64 v] 32)).drew = W at *
    have r1 : ∀ w', ExtS (F ++ G) W w' → w'.cell? ⟨w.heap.size, 1, none⟩ = some (.int .u32 c) := fun w' h => by rw [heap_cell (h.heap hnF hQ)]; rfl
    have r2 : ∀ w', ExtS (F ++ G) W w' → w'.cell? ⟨w.heap.size, 2, none⟩ = some (.int .i64 m) := fun w' h => by rw [heap_cell (h.heap hnF hQ)]; rfl
    have k1 := del_at hdA (by omega) c m c0 c1
    have k2 := fun w' (h : DirAns W F db mst (delL L (c, m)) w') => TriD.refDel_any xb L G c m w' (by obtain ⟨_, _, x1, _⟩ := h; exact hrA.later x1 (apart_symm hs)) hsrt (by omega)
    have hst : ∀ w1 w2, DirAns W F db mst (delL L (c, m)) w1 → TriD.RefAns mst w1 xb G (delL L (c, m)) w2 → Both10 w0 w2 db xb mst (delL L (c, m)) ∧ ExtN w0.heap.size w w2 ∧ w.heap.size < w2.heap.size := fun w1 w2 h1 h2 => by
      obtain ⟨q1, q2, q3⟩ := both_step hA hx hs n1 n2 hGlt h1 h2
      exact ⟨q1, q2, Nat.lt_of_lt_of_le (heap_lt hQ) q3⟩
    have HST : Hid (∀ w1 w2, DirAns W F db mst (delL L (c, m)) w1 → TriD.RefAns mst w1 xb G (delL L (c, m)) w2 → Both10 w0 w2 db xb mst (delL L (c, m)) ∧ ExtN w0.heap.size w w2 ∧ w.heap.size < w2.heap.size) := hst
    clear hst
    have hSx : ∀ w1, DirAns W F db mst (delL L (c, m)) w1 → ExtS (F ++ G) W w1 := fun w1 h => by obtain ⟨_, _, x1, _⟩ := h; exact iF _ _ x1
    have hSy : ∀ w1 w2, TriD.RefAns mst w1 xb G (delL L (c, m)) w2 → ExtS (F ++ G) w1 w2 := fun w1 w2 h => by obtain ⟨_, _, x1, _⟩ := h; exact iG _ _ x1
    generalize foundB L (c, m) = fb at *
    iterate 8 (refine wpE_read (v := ?_) rfl (by rfl) ?_ ?_; rotate_left; (focus (intro w' hx; go_simp; first | done | with_reducible rfl)); simp only [Act.put, List.setIfInBounds_toArray, List.set_cons_zero, List.set_cons_succ])
    refine wpE_call rfl (by rfl) (fun K hK => ?_); go_simp; first | (go_at_call 21; refine k1.mono ?_; rintro e w4 ⟨rfl, a4⟩; refine hK _ _ (hSx _ a4) ?_; clear hK K)
    refine wpE_call rfl (by rfl) (fun K hK => ?_); go_simp; first | (go_at_call 25; refine (k2 _ a4).mono ?_; rintro e w5 ⟨rfl, a5⟩; refine hK _ _ (hSy _ _ a5) ?_; clear hK K)
    iterate 2 (refine wpE_read (v := ?_) rfl (by rfl) ?_ ?_; rotate_left; (focus (intro w' hx; go_simp; first | done | with_reducible rfl)); simp only [Act.put, List.setIfInBounds_toArray, List.set_cons_zero, List.set_cons_succ])
    refine wpE_done ?_
    go_wp2_with fail
    go_ret
    exact ⟨by simp, HST.out _ _ a4 a5⟩
  | false =>
    go_enter Try.func12, Try.ntmps12
    go_wp2_with fail
    refine wp_region_eagerS (F ++ G) [(0, false), (1, false), (2, false), (3, false), (4, false), (6, false), (7, false), (8, false), (9, false), (10, false), (5, true), (11, true), (12, false), (13, false)] (by kernel_rfl) (by kernel_rfl) rfl (by kernel_rfl) (fun _ _ _ _ _ h => h) ?_
    generalize (w.alloc (.cells #[.bool false, .int .u32 c, .int .i64 m, .int .i64 v] 32)).drew = W at *
    have r1 : ∀ w', ExtS (F ++ G) W w' → w'.cell? ⟨w.heap.size, 1, none⟩ = some (.int .u32 c) := fun w' h => by rw [heap_cell (h.heap hnF hQ)]; rfl
    have r2 : ∀ w', ExtS (F ++ G) W w' → w'.cell? ⟨w.heap.size, 2, none⟩ = some (.int .i64 m) := fun w' h => by rw [heap_cell (h.heap hnF hQ)]; rfl
    have r3 : ∀ w', ExtS (F ++ G) W w' → w'.cell? ⟨w.heap.size, 3, none⟩ = some (.int .i64 v) := fun w' h => by rw [heap_cell (h.heap hnF hQ)]; rfl
    have k1 := set_at hdA (by omega) c m v c0 c1
    have k2 := fun w' (h : DirAns W F db mst (setR mst L (c, m) v).2 w') => dset_any xb L G c m v w' (by obtain ⟨_, _, x1, _⟩ := h; exact hrA.later x1 (apart_symm hs)) hsrt hval (by omega) hroom c0 c1
    have hst : ∀ w1 w2, DirAns W F db mst (setR mst L (c, m) v).2 w1 → TriD.RefAns mst w1 xb G (setR mst L (c, m) v).2 w2 → Both10 w0 w2 db xb mst (setR mst L (c, m) v).2 ∧ ExtN w0.heap.size w w2 ∧ w.heap.size < w2.heap.size := fun w1 w2 h1 h2 => by
      obtain ⟨q1, q2, q3⟩ := both_step hA hx hs n1 n2 hGlt h1 h2
      exact ⟨q1, q2, Nat.lt_of_lt_of_le (heap_lt hQ) q3⟩
    have HST : Hid (∀ w1 w2, DirAns W F db mst (setR mst L (c, m) v).2 w1 → TriD.RefAns mst w1 xb G (setR mst L (c, m) v).2 w2 → Both10 w0 w2 db xb mst (setR mst L (c, m) v).2 ∧ ExtN w0.heap.size w w2 ∧ w.heap.size < w2.heap.size) := hst
    clear hst
    have hSx : ∀ w1, DirAns W F db mst (setR mst L (c, m) v).2 w1 → ExtS (F ++ G) W w1 := fun w1 h => by obtain ⟨_, _, x1, _⟩ := h; exact iF _ _ x1
    have hSy : ∀ w1 w2, TriD.RefAns mst w1 xb G (setR mst L (c, m) v).2 w2 → ExtS (F ++ G) w1 w2 := fun w1 w2 h => by obtain ⟨_, _, x1, _⟩ := h; exact iG _ _ x1
    generalize (setR mst L (c, m) v).1 = er at *
    iterate 10 (refine wpE_read (v := ?_) rfl (by rfl) ?_ ?_; rotate_left; (focus (intro w' hx; go_simp; first | done | with_reducible rfl)); simp only [Act.put, List.setIfInBounds_toArray, List.set_cons_zero, List.set_cons_succ])
    refine wpE_call rfl (by rfl) (fun K hK => ?_); go_simp; first | (go_at_call 20; refine k1.mono ?_; rintro e w4 ⟨rfl, a4⟩; refine hK _ _ (hSx _ a4) ?_; clear hK K)
    refine wpE_call rfl (by rfl) (fun K hK => ?_); go_simp; first | (go_at_call 26; refine (k2 _ a4).mono ?_; rintro e w5 ⟨rfl, a5⟩; refine hK _ _ (hSy _ _ a5) ?_; clear hK K)
    iterate 2 (refine wpE_read (v := ?_) rfl (by rfl) ?_ ?_; rotate_left; (focus (intro w' hx; go_simp; first | done | with_reducible rfl)); simp only [Act.put, List.setIfInBounds_toArray, List.set_cons_zero, List.set_cons_succ])
    refine wpE_done ?_
    go_wp2_with fail
    go_ret
    exact ⟨by simp, HST.out _ _ a4 a5⟩
end Go.Proofs.Ytlnmdlachfnmkaa.Dr
