/- Plain facts on rows of prefixes in order: a prefix's place, put in, taken out, looked up; what a tree holds, as such a row. -/
import Derived.Test.YtlnmdlachfnmkaaTreeQ
namespace Go.Proofs.Ytlnmdlachfnmkaa.Tri
open Go.RowKit Go.Proofs.Ytlnmdlachfnmkaa
set_option linter.unusedVariables false

def placeN : Row → PX → Nat
  | [], _ => 0
  | x :: L, p => if bef x.1 p = true then placeN L p + 1 else 0

theorem placeN_le (L : Row) (p : PX) : placeN L p ≤ L.length := by
  induction L with
  | nil => exact Nat.le_refl _
  | cons x L ih => simp only [placeN, List.length_cons]; split <;> omega

def foundB (L : Row) (p : PX) : Bool := match L[placeN L p]? with
  | none => false
  | some x => x.1.1 == p.1 && x.1.2 == p.2

theorem foundB_iff {L : Row} {p : PX} : foundB L p = true ↔ ∃ u, L[placeN L p]? = some (p, u) := by
  unfold foundB
  constructor
  · intro h
    split at h
    · cases h
    · rename_i x hx
      obtain ⟨⟨a, n⟩, u⟩ := x
      obtain ⟨c, m⟩ := p
      simp only [Bool.and_eq_true, beq_iff_eq] at h
      obtain ⟨rfl, rfl⟩ := h
      exact ⟨u, hx⟩
  · rintro ⟨u, h⟩
    rw [h]; simp

def setL : Row → PX → Int → Row
  | [], p, v => [(p, v)]
  | x :: L, p, v => if bef x.1 p = true then x :: setL L p v else if x.1 = p then (p, v) :: L else (p, v) :: x :: L

theorem setL_found {L : Row} {p : PX} (v : Int) (h : foundB L p = true) : setL L p v = L.set (placeN L p) (p, v) := by
  induction L with
  | nil => simp [foundB, placeN] at h
  | cons x L ih =>
    simp only [setL, placeN]
    split
    · rename_i hb
      simp only [List.set_cons_succ]
      congr 1
      apply ih
      simpa [foundB, placeN, hb] using h
    · rename_i hb
      simp only [List.set_cons_zero]
      obtain ⟨u, hu⟩ := foundB_iff.1 h
      simp only [placeN, if_neg hb, List.getElem?_cons_zero, Option.some.injEq] at hu
      rw [if_pos (by rw [hu])]

theorem setL_new {L : Row} {p : PX} (v : Int) (h : foundB L p = false) : setL L p v = L.take (placeN L p) ++ (p, v) :: L.drop (placeN L p) := by
  induction L with
  | nil => rfl
  | cons x L ih =>
    simp only [setL, placeN]
    split
    · rename_i hb
      simp only [List.take_succ_cons, List.drop_succ_cons, List.cons_append]
      congr 1
      apply ih
      simpa [foundB, placeN, hb] using h
    · rename_i hb
      rw [if_neg ?_]
      · rfl
      · intro e
        have : foundB (x :: L) p = true := foundB_iff.2 ⟨x.2, by subst e; simp [placeN, bef_irr]⟩
        rw [h] at this; cases this

theorem set_mem {L : Row} (hs : Srt L) (p : PX) (v : Int) (x : PX × Int) : x ∈ setL L p v ↔ x = (p, v) ∨ (x ∈ L ∧ x.1 ≠ p) := by
  induction L with
  | nil => simp [setL]
  | cons y L ih =>
    obtain ⟨hy, hL⟩ := List.pairwise_cons.1 hs
    simp only [setL]
    split
    · rename_i hb
      have hn : y.1 ≠ p := fun e => by rw [e, bef_irr] at hb; cases hb
      simp only [List.mem_cons, ih hL]
      constructor
      · rintro (rfl | rfl | ⟨h1, h2⟩)
        · exact .inr ⟨.inl rfl, hn⟩
        · exact .inl rfl
        · exact .inr ⟨.inr h1, h2⟩
      · rintro (rfl | ⟨rfl | h1, h2⟩)
        · exact .inr (.inl rfl)
        · exact .inl rfl
        · exact .inr (.inr ⟨h1, h2⟩)
    · rename_i hb
      have hL2 : x ∈ L → x.1 ≠ p → True := fun _ _ => trivial
      split
      · rename_i e
        have hn : ∀ x ∈ L, x.1 ≠ p := fun x hx e2 => by have := hy x hx; rw [e, e2, bef_irr] at this; cases this
        simp only [List.mem_cons]
        constructor
        · rintro (rfl | h1)
          · exact .inl rfl
          · exact .inr ⟨.inr h1, hn x h1⟩
        · rintro (rfl | ⟨rfl | h1, h2⟩)
          · exact .inl rfl
          · exact absurd e h2
          · exact .inr h1
      · rename_i hne
        have hyp : bef p y.1 = true := by
          rcases bef_tri y.1 p with h | h | h
          · exact absurd h hb
          · exact absurd h hne
          · exact h
        have hn : ∀ x ∈ L, x.1 ≠ p := fun x hx e2 => by have := bef_trans hyp (hy x hx); rw [e2, bef_irr] at this; cases this
        simp only [List.mem_cons]
        constructor
        · rintro (rfl | rfl | h1)
          · exact .inl rfl
          · exact .inr ⟨.inl rfl, hne⟩
          · exact .inr ⟨.inr h1, hn x h1⟩
        · rintro (rfl | ⟨rfl | h1, h2⟩)
          · exact .inl rfl
          · exact .inr (.inl rfl)
          · exact .inr (.inr h1)

theorem set_srt {L : Row} (hs : Srt L) (p : PX) (v : Int) : Srt (setL L p v) := by
  induction L with
  | nil => exact List.pairwise_singleton _ _
  | cons y L ih =>
    have hs' := hs
    obtain ⟨hy, hL⟩ := List.pairwise_cons.1 hs
    simp only [setL]
    split
    · rename_i hb
      refine List.pairwise_cons.2 ⟨fun x hx => ?_, ih hL⟩
      rcases (set_mem hL p v x).1 hx with rfl | ⟨h1, _⟩
      · exact hb
      · exact hy x h1
    · rename_i hb
      split
      · rename_i e
        refine List.pairwise_cons.2 ⟨fun x hx => ?_, hL⟩
        rw [← e]; exact hy x hx
      · rename_i hne
        have hyp : bef p y.1 = true := by
          rcases bef_tri y.1 p with h | h | h
          · exact absurd h hb
          · exact absurd h hne
          · exact h
        refine List.pairwise_cons.2 ⟨fun x hx => ?_, hs'⟩
        rcases List.mem_cons.1 hx with rfl | hx
        · exact hyp
        · exact bef_trans hyp (hy x hx)

def delL (L : Row) (p : PX) : Row := L.filter fun x => !(x.1.1 == p.1 && x.1.2 == p.2)

theorem del_mem {L : Row} {p : PX} {x : PX × Int} : x ∈ delL L p ↔ x ∈ L ∧ x.1 ≠ p := by
  obtain ⟨⟨a, n⟩, u⟩ := x
  obtain ⟨c, m⟩ := p
  simp only [delL, List.mem_filter, Bool.not_eq_true', Bool.and_eq_false_iff, beq_eq_false_iff_ne, ne_eq, Prod.mk.injEq]
  constructor
  · rintro ⟨h1, h2⟩; exact ⟨h1, fun ⟨e1, e2⟩ => by rcases h2 with h | h <;> contradiction⟩
  · rintro ⟨h1, h2⟩
    refine ⟨h1, ?_⟩
    by_cases e : a = c
    · exact .inr fun e2 => h2 ⟨e, e2⟩
    · exact .inl e

theorem del_srt {L : Row} (hs : Srt L) (p : PX) : Srt (delL L p) := List.Pairwise.filter _ hs

/-- In order, what is found is what is there. -/
theorem found_mem {L : Row} (hs : Srt L) {p : PX} : foundB L p = true ↔ ∃ u, (p, u) ∈ L := by
  rw [foundB_iff]
  constructor
  · rintro ⟨u, h⟩; exact ⟨u, List.mem_of_getElem? h⟩
  · rintro ⟨u, h⟩
    refine ⟨u, ?_⟩
    induction L with
    | nil => simp at h
    | cons y L ih =>
      obtain ⟨hy, hL⟩ := List.pairwise_cons.1 hs
      rcases List.mem_cons.1 h with rfl | h
      · simp [placeN, bef_irr]
      · have := hy _ h
        simp only at this
        simp only [placeN, this, if_true, List.getElem?_cons_succ]
        exact ih hL h

theorem del_found {L : Row} (hs : Srt L) {p : PX} (h : foundB L p = true) : delL L p = L.take (placeN L p) ++ L.drop (placeN L p + 1) := by
  obtain ⟨u, hu⟩ := foundB_iff.1 h
  have hi := (List.getElem?_eq_some_iff.1 hu).1
  have hg := (List.getElem?_eq_some_iff.1 hu).2
  have e : L = L.take (placeN L p) ++ (p, u) :: L.drop (placeN L p + 1) := by
    rw [← hg, List.getElem_cons_drop]; exact (List.take_append_drop _ L).symm
  generalize placeN L p = k at *
  generalize L.take k = A at *
  generalize L.drop (k + 1) = C at *
  subst e
  have hp := List.pairwise_append.1 hs
  obtain ⟨hc, _⟩ := List.pairwise_cons.1 hp.2.1
  have keep : ∀ x : PX × Int, x.1 ≠ p → (!(x.1.1 == p.1 && x.1.2 == p.2)) = true := fun x hx => by
    cases hh : (x.1.1 == p.1 && x.1.2 == p.2) with
    | false => rfl
    | true =>
      simp only [Bool.and_eq_true, beq_iff_eq] at hh
      exact absurd (Prod.ext hh.1 hh.2) hx
  simp only [delL, List.filter_append, List.filter_cons]
  rw [List.filter_eq_self.2 fun x hx => keep x fun e => ?_, List.filter_eq_self.2 fun x hx => keep x fun e => ?_]
  · simp
  · have := hc x hx; rw [e, bef_irr] at this; cases this
  · have := hp.2.2 x hx _ (List.mem_cons_self); rw [e, bef_irr] at this; cases this

theorem del_not {L : Row} (hs : Srt L) {p : PX} (h : foundB L p = false) : delL L p = L := by
  refine srt_ext (del_srt hs p) hs fun x => ?_
  rw [del_mem]
  refine ⟨fun h => h.1, fun hx => ⟨hx, fun e => ?_⟩⟩
  have : foundB L p = true := (found_mem hs).2 ⟨x.2, by rw [← e]; exact hx⟩
  rw [h] at this; cases this

/-! A tree as such a row. -/

theorem put_toL {t : Sh} (h : WF t) {p : PX} (hp : Vp p) (v : Int) : toL (putS t p v) = setL (toL t) p v :=
  srt_ext (srt_toL (put_wf h hp)) (set_srt (srt_toL h) p v) fun x => by rw [put_mem h hp, set_mem (srt_toL h)]

theorem cut_toL {t : Sh} (h : WF t) {p : PX} (hp : foundB (toL t) p = true) : toL (cutS t p) = delL (toL t) p := by
  obtain ⟨u, hu⟩ := (found_mem (srt_toL h)).1 hp
  exact srt_ext (srt_toL (cut_wf h)) (del_srt (srt_toL h) p) fun x => by rw [cut_mem h (path_of h hu), del_mem]

/-- Those of a row that cover a prefix; none, if it may not be. -/
def covL (L : Row) (p : PX) : Row := if isV p.1 p.2 = true then L.filter fun x => cov x.1 p else []

theorem beg_covL {t : Sh} (h : WF t) {p : PX} (h0 : 0 ≤ p.1) (h1 : p.1 ≤ 4294967295) : coversS (begS t p) p = covL (toL t) p := by
  unfold begS covL
  split
  · rename_i hv
    rw [covS_covers, covers_toL h (vp_of h0 h1 hv)]
  · rfl

theorem lastF_append (acc : Option (PX × Int)) (L : Row) (x : PX × Int) : lastF acc (L ++ [x]) = some x := by
  induction L generalizing acc with
  | nil => rfl
  | cons y L ih => exact ih _

theorem lastF_mem {L : Row} {acc : Option (PX × Int)} {x : PX × Int} (h : lastF acc L = some x) : x ∈ L ∨ acc = some x := by
  induction L generalizing acc with
  | nil => exact .inr h
  | cons y L ih =>
    rcases ih h with h | h
    · exact .inl (List.mem_cons_of_mem _ h)
    · exact .inl (by cases h; exact List.mem_cons_self)

theorem lastF_none {L : Row} (h : lastF none L = none) : L = [] := by
  cases L with
  | nil => rfl
  | cons y L =>
    exfalso
    have : ∀ (L : Row) (a : PX × Int), lastF (some a) L ≠ none := by
      intro L; induction L with
      | nil => intro a e; cases e
      | cons z L ih => intro a; exact ih z
    exact this L y h

/-- The last one of a row in order is behind all others. -/
theorem lastF_split {L : Row} {acc : Option (PX × Int)} {x : PX × Int} (h : lastF acc L = some x) (hn : L ≠ []) : ∃ A, L = A ++ [x] := by
  induction L generalizing acc with
  | nil => exact absurd rfl hn
  | cons y L ih =>
    by_cases hL : L = []
    · subst hL
      have : y = x := by simpa [lastF] using h
      exact ⟨[], by rw [this]; rfl⟩
    · obtain ⟨A, hA⟩ := ih h hL
      exact ⟨y :: A, by rw [hA]; rfl⟩

/-- A prefix's number, by a row. -/
def getL (L : Row) (p : PX) : Int × Bool := match L[placeN L p]? with
  | none => (0, false)
  | some x => if (x.1.1 == p.1 && x.1.2 == p.2) = true then (x.2, true) else (0, false)

theorem getL_two (L : Row) (p : PX) : (getL L p).2 = foundB L p := by
  unfold getL foundB
  split
  · rfl
  · rename_i x hx
    cases (x.1.1 == p.1 && x.1.2 == p.2) <;> rfl

theorem getL_mem {L : Row} (hs : Srt L) {p : PX} {u : Int} (h : (p, u) ∈ L) : getL L p = (u, true) := by
  have h1 := (found_mem hs).2 ⟨u, h⟩
  obtain ⟨u', h2⟩ := foundB_iff.1 h1
  have := srt_key hs h (List.mem_of_getElem? h2) rfl
  obtain rfl : u = u' := congrArg Prod.snd this
  unfold getL
  rw [h2]; simp

theorem getL_not {L : Row} {p : PX} (h : foundB L p = false) : getL L p = (0, false) := by
  have h2 : (getL L p).2 = false := by rw [getL_two]; exact h
  unfold getL at h2 ⊢
  split
  · rfl
  · rename_i x hx
    rw [hx] at h2
    simp only at h2
    split
    · rename_i he; rw [if_pos he] at h2; cases h2
    · rfl

/-- What the tree's Get tells. -/
theorem get_toL {L : Row} (hs : Srt L) (hv : ∀ x ∈ L, Vp x.1) {p : PX} (h0 : 0 ≤ p.1) (h1 : p.1 ≤ 4294967295) : getF (lastF none (covL L p)) p = getL L p := by
  by_cases hf : foundB L p = true
  · obtain ⟨u, hu⟩ := (found_mem hs).1 hf
    have hpv := hv _ hu
    simp only at hpv
    rw [getL_mem hs hu]
    have hc : (p, u) ∈ covL L p := by
      unfold covL
      rw [if_pos (Vp.is hpv)]
      exact List.mem_filter.2 ⟨hu, cov_refl _⟩
    cases hl : lastF none (covL L p) with
    | none => rw [lastF_none hl] at hc; simp at hc
    | some x =>
      obtain ⟨A, hA⟩ := lastF_split hl (fun e => by rw [e] at hc; simp at hc)
      have hxc : x ∈ covL L p := by rw [hA]; simp
      have hsc : Srt (covL L p) := by unfold covL; split; exact List.Pairwise.filter _ hs; exact List.Pairwise.nil
      have hx : x = (p, u) := by
        rw [hA] at hc
        rcases List.mem_append.1 hc with hc | hc
        · exfalso
          rw [hA] at hsc
          have hb := (List.pairwise_append.1 hsc).2.2 _ hc x (by simp)
          simp only at hb
          unfold covL at hxc
          rw [if_pos (Vp.is hpv)] at hxc
          obtain ⟨hxL, hxp⟩ := List.mem_filter.1 hxc
          by_cases e : x.1 = p
          · rw [e, bef_irr] at hb; cases hb
          · have := cov_bef (hv x hxL) hpv hxp e
            have := bef_trans hb this
            rw [bef_irr] at this; cases this
        · exact (by simpa using hc : (p, u) = x).symm
      subst hx
      simp [getF]
  · rw [getL_not (by simpa using hf)]
    cases hl : lastF none (covL L p) with
    | none => rfl
    | some x =>
      simp only [getF]
      rw [if_neg]
      intro e
      apply hf
      rcases lastF_mem hl with h | h
      · unfold covL at h
        split at h
        · exact (found_mem hs).2 ⟨x.2, by rw [← e]; exact (List.mem_filter.1 h).1⟩
        · simp at h
      · cases h
end Go.Proofs.Ytlnmdlachfnmkaa.Tri
