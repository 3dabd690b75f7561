/- Chapter 10's known: two blocks. -/
import Derived.Test.YtlnmdlachfnmkaaDirL
namespace Go.Proofs.Ytlnmdlachfnmkaa.Dr
set_option maxRecDepth 100000
open Go.RowKit Go.Proofs.Ytlnmdlachfnmkaa Go.Proofs.Ytlnmdlachfnmkaa.Tri
set_option linter.unusedVariables false

def kL1 : Row := [((167772160, 25), 1)]
def kL2 : Row := [((167772160, 25), 1), ((167772416, 24), 2)]

theorem k_set1 : setR 4 [] (167772160, 25) 1 = (0, kL1) := by decide
theorem k_set2 : setR 4 kL1 (167772416, 24) 2 = (0, kL2) := by decide
theorem k_look : lastF none (covL kL2 (167772425, 32)) = some ((167772416, 24), 2) := by decide
theorem k_own : ownN (keysL kL2) = 2 := by decide

/-- A Dir whose blocks are all new. -/
def Own10 (w0 w : World) (db : Nat) (most : Int) (L : Row) : Prop := ∃ F, DirAt w db most L F ∧ ExtS [] w0 w ∧ ∀ x ∈ F, w0.heap.size ≤ x

theorem Own10.step {w0 w w' : World} {db : Nat} {most : Int} {L L' : Row} {F : List Nat} (hx : ExtS [] w0 w) (hF : ∀ x ∈ F, w0.heap.size ≤ x) (h : DirAns w F db most L' w') : Own10 w0 w' db most L' := by
  obtain ⟨F', h1, h2, h3⟩ := h
  refine ⟨F', h1, hx.then h2 (fun b hb => .inr (hF b hb)), fun x hx' => ?_⟩
  rcases h3 x hx' with h | h
  · exact hF x h
  · exact Nat.le_trans hx.size h

theorem new_own (n : Int) (w : World) : Calls Try.prog 10 #[.int .i64 n] w fun e w' => e = .returned (.pointer (some ⟨w.heap.size, 0, none⟩)) ∧ Own10 w w' w.heap.size (maxV n) [] := by
  refine (new_at n w).mono ?_
  rintro e w' ⟨rfl, hx, d⟩
  exact ⟨rfl, _, d, hx.toS [], by simp⟩

theorem set_own {w0 w : World} {db : Nat} {most : Int} {L : Row} (h : Own10 w0 w db most L) (hlen : L.length ≤ 100000) (a n v : Int) (a0 : 0 ≤ a) (a1 : a ≤ 4294967295) :
    Calls Try.prog 20 #[.pointer (some ⟨db, 0, none⟩), .agg #[.int .u32 a, .int .i64 n], .int .i64 v] w fun e w' => e = .returned (.int .i64 (setR most L (a, n) v).1) ∧ Own10 w0 w' db most (setR most L (a, n) v).2 := by
  obtain ⟨F, h1, h2, h3⟩ := h
  refine (set_at h1 hlen a n v a0 a1).mono ?_
  rintro e w' ⟨rfl, ha⟩
  exact ⟨rfl, Own10.step (L := L) h2 h3 ha⟩

theorem del_own {w0 w : World} {db : Nat} {most : Int} {L : Row} (h : Own10 w0 w db most L) (hlen : L.length ≤ 100000) (a n : Int) (a0 : 0 ≤ a) (a1 : a ≤ 4294967295) :
    Calls Try.prog 21 #[.pointer (some ⟨db, 0, none⟩), .agg #[.int .u32 a, .int .i64 n]] w fun e w' => e = .returned (.bool (foundB L (a, n))) ∧ Own10 w0 w' db most (delL L (a, n)) := by
  obtain ⟨F, h1, h2, h3⟩ := h
  refine (del_at h1 hlen a n a0 a1).mono ?_
  rintro e w' ⟨rfl, ha⟩
  exact ⟨rfl, Own10.step (L := L) h2 h3 ha⟩

theorem look_own {w0 w : World} {db : Nat} {most : Int} {L : Row} (h : Own10 w0 w db most L) (a : Int) (a0 : 0 ≤ a) (a1 : a ≤ 4294967295) :
    Calls Try.prog 18 #[.pointer (some ⟨db, 0, none⟩), .int .u32 a] w fun e w' => e = .returned (numO (lastF none (covL L (a, 32)))) ∧ w' = w := by
  obtain ⟨F, h1, h2, h3⟩ := h
  exact look_at h1 a a0 a1

theorem blocks_own {w0 w : World} {db : Nat} {most : Int} {L : Row} (h : Own10 w0 w db most L) : Calls Try.prog 13 #[.pointer (some ⟨db, 0, none⟩)] w fun e w' => e = .returned (.int .i64 (ownN (keysL L) : Nat)) ∧ w' = w := by
  obtain ⟨F, h1, h2, h3⟩ := h
  exact blocks_at h1

theorem len_own {w0 w : World} {db : Nat} {most : Int} {L : Row} (h : Own10 w0 w db most L) : Calls Try.prog 15 #[.pointer (some ⟨db, 0, none⟩)] w fun e w' => e = .returned (.int .i64 (L.length : Nat)) ∧ w' = w := by
  obtain ⟨F, h1, h2, h3⟩ := h
  exact len_at h1

theorem Own10.toExt {w0 w : World} {db : Nat} {most : Int} {L : Row} (h : Own10 w0 w db most L) : Ext w0 w := by
  obtain ⟨F, h1, h2, h3⟩ := h
  exact h2.ext (by simp)

/-- Of later worlds that write none of its blocks. -/
theorem Own10.ext {w0 w w' : World} {db : Nat} {most : Int} {L : Row} (h : Own10 w0 w db most L) (hx : Ext w w') : Own10 w0 w' db most L := by
  obtain ⟨F, h1, h2, h3⟩ := h
  exact ⟨F, h1.ext hx, h2.trans (hx.toS []), h3⟩

set_option maxHeartbeats 1000000 in
theorem known_any (w : World) : Calls Try.prog 16 #[] w fun e w' => e = .returned (.bool true) ∧ Ext w w' := by
  have tok1 : Hid True := trivial
  have tok2 : Hid True := trivial
  go_enter Try.func16, Try.ntmps16
  go_wp2_with (first
    | (go_at_call 10; refine (new_own 4 _).mono ?_; rintro e w1 ⟨rfl, o1⟩)
    | (go_at_call 20; clear tok1; refine (set_own o1 (by decide) 167772160 25 1 (by decide) (by decide)).mono ?_; rintro e w2 ⟨rfl, o2⟩; rw [show setR (maxV 4) [] (167772160, 25) 1 = (0, kL1) from k_set1] at o2)
    | (go_at_call 20; clear tok2; refine (set_own o2 (by decide) 167772416 24 2 (by decide) (by decide)).mono ?_; rintro e w3 ⟨rfl, o3⟩; rw [show setR (maxV 4) kL1 (167772416, 24) 2 = (0, kL2) from k_set2] at o3)
    | (go_at_call 18; refine (look_own o3 167772425 (by decide) (by decide)).mono ?_; rintro e w4 ⟨rfl, rfl⟩; rw [k_look]; simp only [numO])
    | (go_at_call 13; refine (blocks_own o3).mono ?_; rintro e w5 ⟨rfl, rfl⟩; rw [k_own]))
  go_ret
  exact ⟨by simp, o3.toExt⟩
end Go.Proofs.Ytlnmdlachfnmkaa.Dr
