/- As Grow4's tail; what yields its value in every world is taken first of all. -/
import Derived.Test.YtbchfmadmcppkaaGrow4
namespace Go.Proofs.Ytbchfmadmcppkaa
open Go.RowKit
section
variable {P : Program} {ops : Array Oper} {Q : Exit → Act → World → Prop} {E : Act → Prop}

def wpM (P : Program) (ops : Array Oper) (E : Act → Prop) : List Nat → Act → Prop
  | [], a => E a
  | i :: rest, a =>
    match ops[i]? with
    | none => False
    | some o => Region.wanted o (yielded ops a.tmps) = true ∧ ∃ v, (∀ w', (execOp a.eval o).run P w' = .ok (.value v) w') ∧ wpM P ops E rest (a.put o.dst v)

def setN : List Nat → Array Bool → Array Bool
  | [], l => l
  | i :: r, l => setN r (l.setIfInBounds i true)

def freeB (ops : Array Oper) : List Nat → Array Bool → Bool
  | [], _ => true
  | i :: r, l => Region.free .any ops l i && (Region.ready .any ops l).contains i && freeB ops r (l.setIfInBounds i true)

theorem wpAny_of_M (hs : Region.noSelect ops = true) (hQ : ∀ c a d v w, Q (.panic c) (Act.put a (some d) v) w → Q (.panic c) a w) (fuel : Nat) (w : World) :
    ∀ (ms : List Nat) (listed : Array Bool) (a : Act), freeB ops ms listed = true → wpM P ops (fun a' => wpAny P .any ops Q fuel (setN ms listed) a' w) ms a → wpAny P .any ops Q (ms.length + fuel) listed a w
  | [], listed, a, _, h => by simpa [wpM, setN] using h
  | i :: r, listed, a, he, h => by
    simp only [freeB, Bool.and_eq_true] at he
    unfold wpM at h
    split at h
    · exact h.elim
    · rename_i o ho
      obtain ⟨hw, v, hv, hn⟩ := h
      rw [show (i :: r).length + fuel = (r.length + fuel) + 1 by simp; omega]
      exact wpAny_take ho hs he.1.1 he.1.2 (fun c a w h => by cases hd : o.dst with | none => rw [hd] at h; exact h | some d => rw [hd] at h; exact hQ c a d _ w h) (.inl ⟨hw, hv⟩) (wpAny_of_M hs hQ fuel w r _ _ he.2 hn)

/-- **The region: first those of ms, then as wp_region_tailS.** -/
theorem wp_region_tailM (ms : List Nat) (F : List Nat) (T : List Nat) (Ds : List (List Nat)) {id : Nat} {a : Act} {w : World} {l : List Oper} (sched : List (Nat × Bool)) (hm : P.follows .mixedOrders = true)
    (hs : Region.noSelect l.toArray = true) (hl : ms.length + (sched.length + T.length) = l.toArray.size)
    (he : (freeB l.toArray ms (Array.replicate l.toArray.size false) && eagerD l.toArray T sched Ds (setN ms (Array.replicate l.toArray.size false))) = true)
    (hQ : ∀ c a d v w, Q (.panic c) (Act.put a (some d) v) w → Q (.panic c) a w) (h : wpM P l.toArray (fun a' => wpE (ExtS F) P l.toArray Q (wpT P l.toArray Q T) sched a' w.drew) ms a) : (Code.region id l.toArray true).wp P Q a w := by
  simp only [Bool.and_eq_true] at he
  have key : ∀ a', wpE (ExtS F) P l.toArray Q (wpT P l.toArray Q T) sched a' w.drew → wpAny P .any l.toArray Q (sched.length + T.length) (setN ms (Array.replicate l.toArray.size false)) a' w.drew :=
    fun a' h => wpAny_of_L _ _ _ _ (wpAnyL_of_D (ExtS.refl F) (fun _ _ _ h k => h.trans k) hs hQ sched Ds _ a' w.drew he.2 h)
  have mono : ∀ (ms : List Nat) (a : Act) {E E' : Act → Prop}, (∀ a, E a → E' a) → wpM P l.toArray E ms a → wpM P l.toArray E' ms a := by
    intro ms
    induction ms with
    | nil => intro a E E' hE h; exact hE _ h
    | cons i r ih =>
      intro a E E' hE h
      unfold wpM at h ⊢
      split
      · rename_i ho; rw [ho] at h; exact h
      · rename_i o ho
        rw [ho] at h
        obtain ⟨hw, v, hv, hn⟩ := h
        exact ⟨hw, v, hv, ih _ hE hn⟩
  have := wpAny_of_M hs hQ (sched.length + T.length) w.drew ms _ a he.1 (mono ms a key h)
  rw [hl] at this
  exact wp_region_any hm this

/-- **The region: first those of ms, then as wp_region_tailS, whatever relation holds what is read.** -/
theorem wp_region_tailMR (R : World → World → Prop) (rr : ∀ w, R w w) (rt : ∀ a b c, R a b → R b c → R a c) (ms : List Nat) (T : List Nat) (Ds : List (List Nat)) {id : Nat} {a : Act} {w : World} {l : List Oper} (sched : List (Nat × Bool)) (hm : P.follows .mixedOrders = true)
    (hs : Region.noSelect l.toArray = true) (hl : ms.length + (sched.length + T.length) = l.toArray.size)
    (he : (freeB l.toArray ms (Array.replicate l.toArray.size false) && eagerD l.toArray T sched Ds (setN ms (Array.replicate l.toArray.size false))) = true)
    (hQ : ∀ c a d v w, Q (.panic c) (Act.put a (some d) v) w → Q (.panic c) a w) (h : wpM P l.toArray (fun a' => wpE (R) P l.toArray Q (wpT P l.toArray Q T) sched a' w.drew) ms a) : (Code.region id l.toArray true).wp P Q a w := by
  simp only [Bool.and_eq_true] at he
  have key : ∀ a', wpE (R) P l.toArray Q (wpT P l.toArray Q T) sched a' w.drew → wpAny P .any l.toArray Q (sched.length + T.length) (setN ms (Array.replicate l.toArray.size false)) a' w.drew :=
    fun a' h => wpAny_of_L _ _ _ _ (wpAnyL_of_D rr rt hs hQ sched Ds _ a' w.drew he.2 h)
  have mono : ∀ (ms : List Nat) (a : Act) {E E' : Act → Prop}, (∀ a, E a → E' a) → wpM P l.toArray E ms a → wpM P l.toArray E' ms a := by
    intro ms
    induction ms with
    | nil => intro a E E' hE h; exact hE _ h
    | cons i r ih =>
      intro a E E' hE h
      unfold wpM at h ⊢
      split
      · rename_i ho; rw [ho] at h; exact h
      · rename_i o ho
        rw [ho] at h
        obtain ⟨hw, v, hv, hn⟩ := h
        exact ⟨hw, v, hv, ih _ hE hn⟩
  have := wpAny_of_M hs hQ (sched.length + T.length) w.drew ms _ a he.1 (mono ms a key h)
  rw [hl] at this
  exact wp_region_any hm this

theorem wpM_read {l : List Oper} {i : Nat} {rest : List Nat} {a : Act} {o : Oper} {v : Value} (ho : l[i]? = some o) (hw : Region.wanted o (yielded l.toArray a.tmps) = true)
    (hv : ∀ w', (execOp a.eval o).run P w' = .ok (.value v) w') (h : wpM P l.toArray E rest (a.put o.dst v)) : wpM P l.toArray E (i :: rest) a := by
  unfold wpM; simp only [List.getElem?_toArray, ho]; exact ⟨hw, v, hv, h⟩

theorem wpM_done {a : Act} (h : E a) : wpM P ops E [] a := h
end
end Go.Proofs.Ytbchfmadmcppkaa
