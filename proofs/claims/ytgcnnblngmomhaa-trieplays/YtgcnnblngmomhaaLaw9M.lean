/- Package trie's methods, by the row of what is there. -/
import Derived.Test.YtgcnnblngmomhaaLaw9L
import Derived.Test.YtgcnnblngmomhaaTrieN
namespace Go.Proofs.Ytgcnnblngmomhaa.Tri
open Go.RowKit Go.Proofs.Ytgcnnblngmomhaa
set_option linter.unusedVariables false

section
variable {w : World} {tb : Nat} {t : Sh} {F : List Nat}

theorem tGet (h : TrieAt w tb t F) (c m : Int) (c0 : 0 ≤ c) (c1 : c ≤ 4294967295) :
    Calls Try.prog 17 #[.pointer (some ⟨tb, 0, none⟩), .agg #[.int .u32 c, .int .i64 m]] w fun e w' => e = .returned (.tuple #[.int .i64 (getL (toL t) (c, m)).1, .bool (getL (toL t) (c, m)).2]) ∧ Ext w w' := by
  obtain ⟨root, h1, h2⟩ := h.top
  have := get_any _ root t c m w h1 h2 h.wf c0 c1
  rw [get_t h.wf (p := (c, m)) c0 c1] at this
  exact this

theorem tLongest (h : TrieAt w tb t F) (c : Int) (c0 : 0 ≤ c) (c1 : c ≤ 4294967295) :
    Calls Try.prog 22 #[.pointer (some ⟨tb, 0, none⟩), .int .u32 c] w fun e w' => e = .returned (ansO (lastF none (covL (toL t) (c, 32)))) ∧ Ext w w' := by
  obtain ⟨root, h1, h2⟩ := h.top
  have := Longest_any _ root t c w h1 h2 h.wf c0 c1
  rw [beg_covL h.wf (p := (c, 32)) c0 c1] at this
  exact this

theorem tCovers (h : TrieAt w tb t F) (hs : szS t ≤ 1000000) (c m : Int) (c0 : 0 ≤ c) (c1 : c ≤ 4294967295) :
    Calls Try.prog 25 #[.pointer (some ⟨tb, 0, none⟩), .agg #[.int .u32 c, .int .i64 m]] w fun e w' => ∃ v, e = .returned v ∧ OwnP w' w.heap.size v ((covL (toL t) (c, m)).map (·.1)) ∧ Ext w w' := by
  obtain ⟨root, h1, h2⟩ := h.top
  have := Covers_any _ root t c m w h1 h2 h.wf hs c0 c1
  rw [beg_covL h.wf (p := (c, m)) c0 c1] at this
  exact this

theorem tWalk (h : TrieAt w tb t F) (hs : szS t ≤ 1000000) :
    Calls Try.prog 27 #[.pointer (some ⟨tb, 0, none⟩)] w fun e w' => ∃ v, e = .returned v ∧ OwnP w' w.heap.size v ((toL t).map (·.1)) ∧ Ext w w' := by
  obtain ⟨root, h1, h2⟩ := h.top
  exact Walk_any _ root t w h1 h2 hs

theorem tLen (h : TrieAt w tb t F) (hs : szS t ≤ 1000000) :
    Calls Try.prog 31 #[.pointer (some ⟨tb, 0, none⟩)] w fun e w' => e = .returned (.int .i64 ((toL t).length : Int)) ∧ w' = w := by
  obtain ⟨root, h1, h2⟩ := h.top
  exact Len_any _ root t w h1 h2 hs

theorem tNodes (h : TrieAt w tb t F) (hs : szS t ≤ 1000000) :
    Calls Try.prog 28 #[.pointer (some ⟨tb, 0, none⟩)] w fun e w' => e = .returned (.int .i64 (nodesL (toL t) : Int)) ∧ w' = w := by
  obtain ⟨root, h1, h2⟩ := h.top
  have := Nodes_any _ root t w h1 h2 hs
  rw [nodes_toL h.wf] at this
  exact this
end

theorem TrieAt.ext {w w' : World} {tb : Nat} {t : Sh} {F : List Nat} (h : TrieAt w tb t F) (hx : Ext w w') : TrieAt w' tb t F := h.later (hx.toS []) (by simp)
theorem RefAt.ext {w w' : World} {xb : Nat} {L : Row} {F : List Nat} (h : RefAt w xb L F) (hx : Ext w w') : RefAt w' xb L F := h.later (hx.toS []) (by simp)

theorem covL_len (L : Row) (p : PX) : (covL L p).length ≤ L.length := by
  unfold covL; split
  · exact List.length_filter_le _ _
  · exact Nat.zero_le _

/-- The document's rows, cell by cell. -/
theorem RefAt.open {w : World} {xb : Nat} {L : Row} {F : List Nat} (h : RefAt w xb L F) : ∃ ap cp ai ci, w.heap[xb]? = some (.cells #[.slice ap L.length cp, .slice ai L.length ci] 29 (0, 0)) ∧
    ∀ (k : Nat) (x : PX × Int), L[k]? = some x → ∃ gp gi, ap = some ⟨gp, 0, none⟩ ∧ ai = some ⟨gi, 0, none⟩ ∧ w.cell? ⟨gp, k * 2, none⟩ = some (.int .u32 x.1.1) ∧ w.cell? ⟨gp, k * 2 + 1, none⟩ = some (.int .i64 x.1.2) ∧ w.cell? ⟨gi, k, none⟩ = some (.int .i64 x.2) := by
  obtain ⟨vp, vi, rfl, hX, hP, hI, -⟩ := h
  obtain ⟨ap, cp, e1, -, -, -⟩ := owns_slice hP
  obtain ⟨ai, ci, e2, -, -, -⟩ := owns_slice hI
  subst e1 e2
  simp only [List.length_map] at hX
  refine ⟨ap, cp, ai, ci, hX, fun k x hk => ?_⟩
  obtain ⟨gp, c, h1, h2, h3⟩ := OwnP.cell hP (i := k) (p := x.1) (by simp [hk])
  obtain ⟨gi, c', h4, h5⟩ := OwnI.cell hI (i := k) (p := x.2) (by simp [hk])
  cases h1
  cases h4
  exact ⟨gp, gi, rfl, rfl, h2, h3, h5⟩

theorem ansO_shape (o : Option (PX × Int)) : ∃ p0 p1 v ok, ansO o = .tuple #[.agg #[.int .u32 p0, .int .i64 p1], .int .i64 v, .bool ok] := by
  cases o with
  | none => exact ⟨0, 0, 0, false, rfl⟩
  | some x => exact ⟨_, _, _, _, rfl⟩

/-- What stands ahead of all is laid ahead. -/
theorem set_ahead {x : PX × Int} {L : Row} (hs : Srt (x :: L)) : setL L x.1 x.2 = x :: L := by
  obtain ⟨hx, hL⟩ := List.pairwise_cons.1 hs
  cases L with
  | nil => rfl
  | cons y M =>
    have hy := hx y (by simp)
    have h1 : bef y.1 x.1 = false := by
      cases h : bef y.1 x.1 with
      | false => rfl
      | true => have := bef_trans hy h; rw [bef_irr] at this; cases this
    have h2 : y.1 ≠ x.1 := fun e => by rw [e, bef_irr] at hy; cases hy
    simp [setL, h1, h2]
end Go.Proofs.Ytgcnnblngmomhaa.Tri
