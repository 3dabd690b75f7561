/- A Dir and the document's Dir side by side. -/
import Derived.Test.YtlnmdlachfnmkaaLaw10T
import Derived.Test.YtlnmdlachfnmkaaRefE
namespace Go.Proofs.Ytlnmdlachfnmkaa.Dr
set_option maxRecDepth 100000
open Go.RowKit Go.Proofs.Ytlnmdlachfnmkaa Go.Proofs.Ytlnmdlachfnmkaa.Tri
set_option linter.unusedVariables false

/-- A Dir and the document's, each in blocks of its own, all new. -/
def Both10 (w0 w : World) (db xb : Nat) (mst : Int) (L : Row) : Prop := ∃ F G, DirAt w db mst L F ∧ TriD.RefAt mst w xb L G ∧ (∀ x ∈ F, x ∉ G) ∧ (∀ x ∈ F, w0.heap.size ≤ x) ∧ (∀ x ∈ G, w0.heap.size ≤ x) ∧ Ext w0 w

theorem Both10.ext {w0 w w' : World} {db xb : Nat} {mst : Int} {L : Row} (h : Both10 w0 w db xb mst L) (hx' : Ext w w') : Both10 w0 w' db xb mst L := by
  obtain ⟨F, G, d, x, s, n1, n2, hx⟩ := h
  exact ⟨F, G, d.ext hx', x.ext hx', s, n1, n2, hx.trans hx'⟩

theorem Both10.toExt {w0 w : World} {db xb : Nat} {mst : Int} {L : Row} (h : Both10 w0 w db xb mst L) : Ext w0 w := by
  obtain ⟨F, G, d, x, s, n1, n2, hx⟩ := h
  exact hx

/-- What is there behind an act. -/
def actR (mst : Int) (L : Row) (d : Bool) (p : PX) (v : Int) : Row := if d = true then delL L p else (setR mst L p v).2

theorem actR_len (mst : Int) (L : Row) (d : Bool) (p : PX) (v : Int) : (actR mst L d p v).length ≤ L.length + 1 := by
  unfold actR
  split
  · have := delL_len L p; omega
  · exact setR_len mst L p v

/-- The same, with the list of all its blocks. -/
def BothH (w0 w : World) (db xb : Nat) (mst : Int) (L : Row) (H : List Nat) : Prop := ∃ F G, H = F ++ G ∧ DirAt w db mst L F ∧ TriD.RefAt mst w xb L G ∧ (∀ x ∈ F, x ∉ G) ∧ (∀ x ∈ F, w0.heap.size ≤ x) ∧ (∀ x ∈ G, w0.heap.size ≤ x) ∧ Ext w0 w

theorem BothH.both {w0 w : World} {db xb : Nat} {mst : Int} {L : Row} {H : List Nat} (h : BothH w0 w db xb mst L H) : Both10 w0 w db xb mst L := by
  obtain ⟨F, G, -, h⟩ := h
  exact ⟨F, G, h⟩

theorem Both10.toH {w0 w : World} {db xb : Nat} {mst : Int} {L : Row} (h : Both10 w0 w db xb mst L) : ∃ H, BothH w0 w db xb mst L H := by
  obtain ⟨F, G, h⟩ := h
  exact ⟨_, F, G, rfl, h⟩

theorem BothH.later {w0 w w' : World} {db xb : Nat} {mst : Int} {L : Row} {H K : List Nat} (h : BothH w0 w db xb mst L H) (hx : ExtS K w w') (hd : ∀ x ∈ H, x ∉ K) (h0 : Ext w0 w') : BothH w0 w' db xb mst L H := by
  obtain ⟨F, G, rfl, d, x, s, n1, n2, -⟩ := h
  exact ⟨F, G, rfl, d.later hx (fun y hy => hd y (by simp [hy])), x.later hx (fun y hy => hd y (by simp [hy])), s, n1, n2, h0⟩

theorem BothH.toExt {w0 w : World} {db xb : Nat} {mst : Int} {L : Row} {H : List Nat} (h : BothH w0 w db xb mst L H) : Ext w0 w := h.both.toExt

theorem BothH.ge {w0 w : World} {db xb : Nat} {mst : Int} {L : Row} {H : List Nat} (h : BothH w0 w db xb mst L H) : ∀ x ∈ H, w0.heap.size ≤ x := by
  obtain ⟨F, G, rfl, d, x, s, n1, n2, -⟩ := h
  intro y hy
  rcases List.mem_append.1 hy with h | h
  · exact n1 y h
  · exact n2 y h

theorem BothH.lt {w0 w : World} {db xb : Nat} {mst : Int} {L : Row} {H : List Nat} (h : BothH w0 w db xb mst L H) : ∀ x ∈ H, x < w.heap.size := by
  obtain ⟨F, G, rfl, d, x, s, n1, n2, -⟩ := h
  intro y hy
  rcases List.mem_append.1 hy with h | h
  · exact d.lt y h
  · exact x.lt y h

theorem BothH.ext {w0 w w' : World} {db xb : Nat} {mst : Int} {L : Row} {H : List Nat} (h : BothH w0 w db xb mst L H) (hx : Ext w w') : BothH w0 w' db xb mst L H := h.later (hx.toS []) (by simp) (h.toExt.trans hx)

/-- What an act leaves. -/
def BothAns (w0 w : World) (db xb : Nat) (mst : Int) (H : List Nat) (L : Row) (w' : World) : Prop := ∃ H', BothH w0 w' db xb mst L H' ∧ ExtS H w w' ∧ (∀ x ∈ H', x ∈ H ∨ w.heap.size ≤ x) ∧ w.heap.size < w'.heap.size

theorem both_step {w0 w W w1 w2 : World} {db xb : Nat} {mst : Int} {L' : Row} {F G : List Nat} (hw : Ext w W) (hx : Ext w0 w) (s : ∀ x ∈ F, x ∉ G) (n1 : ∀ x ∈ F, w0.heap.size ≤ x) (n2 : ∀ x ∈ G, w0.heap.size ≤ x) (hG : ∀ x ∈ G, x < W.heap.size) (hW : w.heap.size < W.heap.size)
    (h1 : DirAns W F db mst L' w1) (h2 : TriD.RefAns mst w1 xb G L' w2) : BothAns w0 w db xb mst (F ++ G) L' w2 := by
  obtain ⟨F', d', x1, a1⟩ := h1
  obtain ⟨G', r', x2, a2⟩ := h2
  have s1 : ∀ x ∈ F', x ∉ G := apart_step s a1 hG
  have n1' := new_ge (hx.trans hw) n1 a1
  have hx1 := ext_new (hx.trans hw) n1 x1
  refine ⟨F' ++ G', ⟨F', G', rfl, d'.later x2 s1, r', apart_symm (apart_step (apart_symm s1) a2 d'.lt), n1', new_ge hx1 n2 a2, ext_new hx1 n2 x2⟩, ?_, ?_, ?_⟩
  · exact ((hw.toS (F ++ G)).then x1 (fun b hb => .inl (by simp [hb]))).then x2 (fun b hb => .inl (by simp [hb]))
  · intro y hy
    rcases List.mem_append.1 hy with h | h
    · rcases a1 y h with h | h
      · exact .inl (by simp [h])
      · exact .inr (Nat.le_trans hw.size h)
    · rcases a2 y h with h | h
      · exact .inl (by simp [h])
      · exact .inr (Nat.le_trans hw.size (Nat.le_trans x1.size h))
  · exact Nat.lt_of_lt_of_le hW (Nat.le_trans x1.size x2.size)

/-- The worlds of a region in which one act comes ahead of what only reads. -/
def RA (N M : Nat) (A B : World) : Prop := ExtN N A B ∧ (M < A.heap.size → Ext A B)

theorem RA.refl (N M : Nat) (A : World) : RA N M A A := ⟨ExtN.refl N A, fun _ => Ext.refl A⟩

theorem RA.trans {N M : Nat} {A B C : World} (h : RA N M A B) (k : RA N M B C) : RA N M A C := ⟨h.1.trans k.1, fun hm => (h.2 hm).trans (k.2 (Nat.lt_of_lt_of_le hm h.1.size))⟩

theorem RA.of {N M : Nat} {A B : World} (h : Ext A B) : RA N M A B := ⟨extS_N (h.toS []) (by simp), fun _ => h⟩

set_option maxHeartbeats 1000000 in
theorem act_at {w0 w : World} {db xb : Nat} {mst : Int} {L : Row} {H : List Nat} (h : BothH w0 w db xb mst L H) (hl : L.length ≤ 10000) (d : Bool) (c m v : Int) (c0 : 0 ≤ c) (c1 : c ≤ 4294967295) :
    Calls Try.prog 12 #[.pointer (some ⟨db, 0, none⟩), .pointer (some ⟨xb, 0, none⟩), .agg #[.bool d, .int .u32 c, .int .i64 m, .int .i64 v]] w fun e w' => e = .returned (.bool true) ∧ BothAns w0 w db xb mst H (actR mst L d (c, m) v) w' := by
  obtain ⟨F, G, rfl, hd, hr, hs, n1, n2, hx⟩ := h
  have hA : Ext w (w.alloc (.cells #[.bool d, .int .u32 c, .int .i64 m, .int .i64 v] 32)).drew := ((Ext.refl w).alloc _).drew
  have hQ : (w.alloc (.cells #[.bool d, .int .u32 c, .int .i64 m, .int .i64 v] 32)).drew.heap[w.heap.size]? = some (.cells #[.bool d, .int .u32 c, .int .i64 m, .int .i64 v] 32 (0, 0)) := heap_new w _
  have hnF : w.heap.size ∉ F ++ G := fun hy => by
    rcases List.mem_append.1 hy with hy | hy
    · have := hd.lt _ hy; omega
    · have := hr.lt _ hy; omega
  have iF : ∀ A B : World, ExtS F A B → ExtS (F ++ G) A B := fun A B h => (ExtS.refl (F ++ G) A).then h (fun b hb => .inl (by simp [hb]))
  have iG : ∀ A B : World, ExtS G A B → ExtS (F ++ G) A B := fun A B h => (ExtS.refl (F ++ G) A).then h (fun b hb => .inl (by simp [hb]))
  have hGlt : ∀ x ∈ G, x < (w.alloc (.cells #[.bool d, .int .u32 c, .int .i64 m, .int .i64 v] 32)).drew.heap.size := fun x hx' => Nat.lt_of_lt_of_le (hr.lt x hx') hA.size
  have hdA := hd.ext hA
  have hrA := hr.ext hA
  have hsrt := hd.srt
  have hval := hd.valid
  have hroom := hd.room
  cases d with
  | true =>
    go_enter Try.func12, Try.ntmps12
    go_wp2_with fail
    refine wp_region_eagerS (F ++ G) [(0, false), (1, false), (2, false), (4, false), (5, false), (6, false), (7, false), (8, false), (3, true), (9, true), (10, false), (11, false)] (by kernel_rfl) (by kernel_rfl) rfl (by kernel_rfl) (fun _ _ _ _ _ h => h) ?_
    generalize (w.alloc (.cells #[.bool true, .int .u32 c, .int .i64 m, .int .i64 v] 32)).drew = W at *
    have r1 : ∀ w', ExtS (F ++ G) W w' → w'.cell? ⟨w.heap.size, 1, none⟩ = some (.int .u32 c) := fun w' h => by rw [heap_cell (h.heap hnF hQ)]; rfl
    have r2 : ∀ w', ExtS (F ++ G) W w' → w'.cell? ⟨w.heap.size, 2, none⟩ = some (.int .i64 m) := fun w' h => by rw [heap_cell (h.heap hnF hQ)]; rfl
    have k1 := del_at hdA (by omega) c m c0 c1
    have k2 := fun w' (h : DirAns W F db mst (delL L (c, m)) w') => TriD.refDel_any xb L G c m w' (by obtain ⟨_, _, x1, _⟩ := h; exact hrA.later x1 (apart_symm hs)) hsrt (by omega)
    have hst : ∀ w1 w2, DirAns W F db mst (delL L (c, m)) w1 → TriD.RefAns mst w1 xb G (delL L (c, m)) w2 → BothAns w0 w db xb mst (F ++ G) (delL L (c, m)) w2 := fun w1 w2 h1 h2 => both_step hA hx hs n1 n2 hGlt (heap_lt hQ) h1 h2
    have HST : Hid (∀ w1 w2, DirAns W F db mst (delL L (c, m)) w1 → TriD.RefAns mst w1 xb G (delL L (c, m)) w2 → BothAns w0 w db xb mst (F ++ G) (delL L (c, m)) w2) := hst
    clear hst
    have hSx : ∀ w1, DirAns W F db mst (delL L (c, m)) w1 → ExtS (F ++ G) W w1 := fun w1 h => by obtain ⟨_, _, x1, _⟩ := h; exact iF _ _ x1
    have hSy : ∀ w1 w2, TriD.RefAns mst w1 xb G (delL L (c, m)) w2 → ExtS (F ++ G) w1 w2 := fun w1 w2 h => by obtain ⟨_, _, x1, _⟩ := h; exact iG _ _ x1
    generalize foundB L (c, m) = fb at *
    iterate 8 (refine wpE_read (v := ?_) rfl (by rfl) ?_ ?_; rotate_left; (focus (intro w' hx; go_simp; first | done | with_reducible rfl)); simp only [Act.put, List.setIfInBounds_toArray, List.set_cons_zero, List.set_cons_succ])
    refine wpE_call rfl (by rfl) (fun K hK => ?_); go_simp; first | (go_at_call 21; refine k1.mono ?_; rintro e w4 ⟨rfl, a4⟩; refine hK _ _ (hSx _ a4) ?_; clear hK K)
    refine wpE_call rfl (by rfl) (fun K hK => ?_); go_simp; first | (go_at_call 25; refine (k2 _ a4).mono ?_; rintro e w5 ⟨rfl, a5⟩; refine hK _ _ (hSy _ _ a5) ?_; clear hK K)
    iterate 2 (refine wpE_read (v := ?_) rfl (by rfl) ?_ ?_; rotate_left; (focus (intro w' hx; go_simp; first | done | with_reducible rfl)); simp only [Act.put, List.setIfInBounds_toArray, List.set_cons_zero, List.set_cons_succ])
    refine wpE_done ?_
    go_wp2_with fail
    go_ret
    exact ⟨by simp, HST.out _ _ a4 a5⟩
  | false =>
    go_enter Try.func12, Try.ntmps12
    go_wp2_with fail
    refine wp_region_eagerS (F ++ G) [(0, false), (1, false), (2, false), (3, false), (4, false), (6, false), (7, false), (8, false), (9, false), (10, false), (5, true), (11, true), (12, false), (13, false)] (by kernel_rfl) (by kernel_rfl) rfl (by kernel_rfl) (fun _ _ _ _ _ h => h) ?_
    generalize (w.alloc (.cells #[.bool false, .int .u32 c, .int .i64 m, .int .i64 v] 32)).drew = W at *
    have r1 : ∀ w', ExtS (F ++ G) W w' → w'.cell? ⟨w.heap.size, 1, none⟩ = some (.int .u32 c) := fun w' h => by rw [heap_cell (h.heap hnF hQ)]; rfl
    have r2 : ∀ w', ExtS (F ++ G) W w' → w'.cell? ⟨w.heap.size, 2, none⟩ = some (.int .i64 m) := fun w' h => by rw [heap_cell (h.heap hnF hQ)]; rfl
    have r3 : ∀ w', ExtS (F ++ G) W w' → w'.cell? ⟨w.heap.size, 3, none⟩ = some (.int .i64 v) := fun w' h => by rw [heap_cell (h.heap hnF hQ)]; rfl
    have k1 := set_at hdA (by omega) c m v c0 c1
    have k2 := fun w' (h : DirAns W F db mst (setR mst L (c, m) v).2 w') => dset_any xb L G c m v w' (by obtain ⟨_, _, x1, _⟩ := h; exact hrA.later x1 (apart_symm hs)) hsrt hval (by omega) hroom c0 c1
    have hst : ∀ w1 w2, DirAns W F db mst (setR mst L (c, m) v).2 w1 → TriD.RefAns mst w1 xb G (setR mst L (c, m) v).2 w2 → BothAns w0 w db xb mst (F ++ G) (setR mst L (c, m) v).2 w2 := fun w1 w2 h1 h2 => both_step hA hx hs n1 n2 hGlt (heap_lt hQ) h1 h2
    have HST : Hid (∀ w1 w2, DirAns W F db mst (setR mst L (c, m) v).2 w1 → TriD.RefAns mst w1 xb G (setR mst L (c, m) v).2 w2 → BothAns w0 w db xb mst (F ++ G) (setR mst L (c, m) v).2 w2) := hst
    clear hst
    have hSx : ∀ w1, DirAns W F db mst (setR mst L (c, m) v).2 w1 → ExtS (F ++ G) W w1 := fun w1 h => by obtain ⟨_, _, x1, _⟩ := h; exact iF _ _ x1
    have hSy : ∀ w1 w2, TriD.RefAns mst w1 xb G (setR mst L (c, m) v).2 w2 → ExtS (F ++ G) w1 w2 := fun w1 w2 h => by obtain ⟨_, _, x1, _⟩ := h; exact iG _ _ x1
    generalize (setR mst L (c, m) v).1 = er at *
    iterate 10 (refine wpE_read (v := ?_) rfl (by rfl) ?_ ?_; rotate_left; (focus (intro w' hx; go_simp; first | done | with_reducible rfl)); simp only [Act.put, List.setIfInBounds_toArray, List.set_cons_zero, List.set_cons_succ])
    refine wpE_call rfl (by rfl) (fun K hK => ?_); go_simp; first | (go_at_call 20; refine k1.mono ?_; rintro e w4 ⟨rfl, a4⟩; refine hK _ _ (hSx _ a4) ?_; clear hK K)
    refine wpE_call rfl (by rfl) (fun K hK => ?_); go_simp; first | (go_at_call 26; refine (k2 _ a4).mono ?_; rintro e w5 ⟨rfl, a5⟩; refine hK _ _ (hSy _ _ a5) ?_; clear hK K)
    iterate 2 (refine wpE_read (v := ?_) rfl (by rfl) ?_ ?_; rotate_left; (focus (intro w' hx; go_simp; first | done | with_reducible rfl)); simp only [Act.put, List.setIfInBounds_toArray, List.set_cons_zero, List.set_cons_succ])
    refine wpE_done ?_
    go_wp2_with fail
    go_ret
    exact ⟨by simp, HST.out _ _ a4 a5⟩

theorem act_any {w0 w : World} {db xb : Nat} {mst : Int} {L : Row} (h : Both10 w0 w db xb mst L) (hl : L.length ≤ 10000) (d : Bool) (c m v : Int) (c0 : 0 ≤ c) (c1 : c ≤ 4294967295) :
    Calls Try.prog 12 #[.pointer (some ⟨db, 0, none⟩), .pointer (some ⟨xb, 0, none⟩), .agg #[.bool d, .int .u32 c, .int .i64 m, .int .i64 v]] w fun e w' => e = .returned (.bool true) ∧ Both10 w0 w' db xb mst (actR mst L d (c, m) v) ∧ ExtN w0.heap.size w w' ∧ w.heap.size < w'.heap.size := by
  obtain ⟨H, h⟩ := h.toH
  refine (act_at h hl d c m v c0 c1).mono ?_
  rintro e w' ⟨rfl, H', h', x, -, hlt⟩
  exact ⟨rfl, h'.both, extS_N x h.ge, hlt⟩

/-- A row of numbers of four bytes, of the call's own. -/
def OwnZ (w : World) (B : Nat) (v : Value) (xs : List Int) : Prop := w.ownsRow B 28 1 v xs.length (xs.map (Value.int .u32))

theorem OwnZ.cell {w : World} {B : Nat} {v : Value} {L : List Int} (h : OwnZ w B v L) {i : Nat} {p : Int} (hi : L[i]? = some p) :
    ∃ g c, v = .slice (some ⟨g, 0, none⟩) L.length c ∧ g < w.heap.size ∧ w.cell? ⟨g, i, none⟩ = some (.int .u32 p) := by
  obtain ⟨hl, h⟩ := h
  have hil := (List.getElem?_eq_some_iff.1 hi).1
  rcases h with ⟨_, h0⟩ | ⟨g, cap, cur, rfl, _, hg, _, _, _, hc⟩
  · omega
  · have h1 : (L.map (Value.int .u32))[i]? = some (.int .u32 p) := by simp [hi]
    refine ⟨g, cap, rfl, heap_lt hg, ?_⟩
    rw [heap_cell hg, ← Array.getElem?_toList]
    rw [← hc, List.getElem?_take, if_pos (by omega)] at h1
    exact h1

/-- A literal row is of the call's own. -/
theorem ownZ_new {w w' : World} {B : Nat} (xs : List Int) (g : Nat) (hB : B ≤ g) (hg : w'.heap[g]? = some (.cells (xs.map (Value.int .u32)).toArray 28 (0, 0))) (hl : xs.length ≤ maxLen) : OwnZ w' B (.slice (some ⟨g, 0, none⟩) xs.length xs.length) xs := by
  refine ⟨by simp, .inr ⟨g, xs.length, _, rfl, hB, hg, Nat.le_refl _, hl, by simp, ?_⟩⟩
  simp
  exact List.take_of_length_le (by simp)

/-- append(row, several), as an operation of a region. -/
theorem wp_append_z {w : World} {o : Oper} {a : Act} {K : Act → World → Prop} {Q : Exit → Act → World → Prop} (s x : Operand)
    (ho : o.op = .call { callee := .builtin .append, args := #[s, x], argTypes := #[43, 43] })
    (B : Nat) (v : Value) (L : List Int) (hs : a.eval s = v) (hown : OwnZ w B v L)
    (g c : Nat) (ys : List Int) (hx : a.eval x = .slice (some ⟨g, 0, none⟩) ys.length c) (hu : w.heap[g]? = some (.cells (ys.map (Value.int .u32)).toArray 28 (0, 0)))
    (hsm : L.length + ys.length ≤ 10000000) (hbase : B ≤ w.heap.size)
    (h : ∀ v' w', OwnZ w' B v' (L ++ ys) → w.grownBy w' v.ownBlock → (v'.ownBlock = v.ownBlock ∨ v'.ownBlock = some w.heap.size) → K (a.put o.dst v') w') : o.wp Try.prog a w K Q := by
  obtain ⟨i, hi, hz, hsz, hby⟩ := info_u32
  obtain ⟨v', w', hr, h2, h3, h4, h5⟩ := run_append_own_at (P := Try.prog) w B 43 o.type 28 i (.int .u32 0) 1 4 Try.underlying43 hi hz hsz hby rfl (by omega) v L.length _ hown ⟨g, 0, none⟩ ys.length c (ys.map (Value.int .u32)) (by simp)
    (fun j u hj => by
      show w.cell? ((⟨g, 0, none⟩ : Addr).add j) = _
      rw [show (⟨g, 0, none⟩ : Addr).add j = ⟨g, j, none⟩ by simp [Addr.add]; intro h; exact h.symm, heap_cell hu, List.getElem?_toArray]; exact hj)
    (fun u hu' => by obtain ⟨y, -, rfl⟩ := List.mem_map.1 hu'; rfl) (by unfold maxLen; omega) (by omega) hbase
  unfold Oper.wp execOp
  simp only [ho, resolve, invoke, builtin, Sem.run_bind, Sem.run_pure, Result.andThen_ok, List.map_toArray, List.map_cons, List.map_nil, hs, hx, hr]
  refine h v' w' ?_ h3 h5
  unfold OwnZ
  rw [List.map_append, List.length_append]
  exact h2
end Go.Proofs.Ytlnmdlachfnmkaa.Dr
