/- The document's Trie in memory, opened (these lay in Law9M). -/
import Derived.Test.YtlnmdlachfnmkaaRefTr1
namespace Go.Proofs.Ytlnmdlachfnmkaa.Tri
open Go.RowKit Go.Proofs.Ytlnmdlachfnmkaa
set_option linter.unusedVariables false

/-- What is answered of what was found. -/
def ansO (o : Option (PX × Int)) : Value := match o with
  | none => .tuple #[.agg #[.int .u32 0, .int .i64 0], .int .i64 0, .bool false]
  | some x => .tuple #[.agg #[.int .u32 x.1.1, .int .i64 x.1.2], .int .i64 x.2, .bool true]

theorem vp32 {a : Int} (h0 : 0 ≤ a) (h1 : a ≤ 4294967295) : Vp (a, 32) := by
  obtain ⟨A, rfl⟩ := Int.eq_ofNat_of_zero_le h0
  exact ⟨A, 32, rfl, by omega, by omega, by simp [Nat.mod_one]⟩

theorem has_cov (p : PX) (a : Int) : cov p (a, 32) = hasV p.1 p.2 a := by
  unfold cov coversV
  have h1 := holdV_bd p.2
  have h2 : holdV 32 = 32 := by decide
  simp only [h2]
  rw [decide_eq_true h1.2, Bool.true_and]

theorem RefAt.ext {w w' : World} {xb : Nat} {L : Row} {F : List Nat} (h : RefAt w xb L F) (hx : Ext w w') : RefAt w' xb L F := h.later (hx.toS []) (by simp)

theorem covL_len (L : Row) (p : PX) : (covL L p).length ≤ L.length := by
  unfold covL; split
  · exact List.length_filter_le _ _
  · exact Nat.zero_le _

/-- The document's rows, cell by cell. -/
theorem RefAt.open {w : World} {xb : Nat} {L : Row} {F : List Nat} (h : RefAt w xb L F) : ∃ ap cp ai ci, w.heap[xb]? = some (.cells #[.slice ap L.length cp, .slice ai L.length ci] 38 (0, 0)) ∧
    ∀ (k : Nat) (x : PX × Int), L[k]? = some x → ∃ gp gi, ap = some ⟨gp, 0, none⟩ ∧ ai = some ⟨gi, 0, none⟩ ∧ w.cell? ⟨gp, k * 2, none⟩ = some (.int .u32 x.1.1) ∧ w.cell? ⟨gp, k * 2 + 1, none⟩ = some (.int .i64 x.1.2) ∧ w.cell? ⟨gi, k, none⟩ = some (.int .i64 x.2) := by
  obtain ⟨vp, vi, rfl, hX, hP, hI, -⟩ := h
  obtain ⟨ap, cp, e1, -, -, -⟩ := owns_slice hP
  obtain ⟨ai, ci, e2, -, -, -⟩ := owns_slice hI
  subst e1 e2
  simp only [List.length_map] at hX
  refine ⟨ap, cp, ai, ci, hX, fun k x hk => ?_⟩
  obtain ⟨gp, c, h1, h2, h3⟩ := OwnP.cell hP (i := k) (p := x.1) (by simp [hk])
  obtain ⟨gi, c', h4, h5⟩ := OwnI.cell hI (i := k) (p := x.2) (by simp [hk])
  cases h1
  cases h4
  exact ⟨gp, gi, rfl, rfl, h2, h3, h5⟩

theorem ansO_shape (o : Option (PX × Int)) : ∃ p0 p1 v ok, ansO o = .tuple #[.agg #[.int .u32 p0, .int .i64 p1], .int .i64 v, .bool ok] := by
  cases o with
  | none => exact ⟨0, 0, 0, false, rfl⟩
  | some x => exact ⟨_, _, _, _, rfl⟩

/-- What stands ahead of all is laid ahead. -/
theorem set_ahead {x : PX × Int} {L : Row} (hs : Srt (x :: L)) : setL L x.1 x.2 = x :: L := by
  obtain ⟨hx, hL⟩ := List.pairwise_cons.1 hs
  cases L with
  | nil => rfl
  | cons y M =>
    have hy := hx y (by simp)
    have h1 : bef y.1 x.1 = false := by
      cases h : bef y.1 x.1 with
      | false => rfl
      | true => have := bef_trans hy h; rw [bef_irr] at this; cases this
    have h2 : y.1 ≠ x.1 := fun e => by rw [e, bef_irr] at hy; cases hy
    simp [setL, h1, h2]
end Go.Proofs.Ytlnmdlachfnmkaa.Tri
