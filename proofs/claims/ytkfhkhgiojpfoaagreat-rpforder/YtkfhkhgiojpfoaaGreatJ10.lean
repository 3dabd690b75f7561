/- Texts joined by a program: TrieS, TreeQ, DirM, DirT, Dir1. -/
import Derived.Deep.LoopGhost
import Derived.Maps.Keyed
import Derived.ChangeKeysEq
import Derived.Carry
import Derived.LaidEqlPtr
import Derived.Test.YtkfhkhgiojpfoaaGreatJ2
import Derived.Test.YtkfhkhgiojpfoaaGreatJ3
import Derived.Test.YtkfhkhgiojpfoaaGreatJ4
namespace Go.Proofs.YtkfhkhgiojpfoaaGreat.Tri

open Go.RowKit Go.Proofs.YtkfhkhgiojpfoaaGreat

/-- A tree: a prefix, whether it is there, its number, both halves. -/
inductive Sh where
  | nil : Sh
  | node (q : PX) (th : Bool) (u : Int) (l r : Sh) : Sh

def Sh.isNil : Sh → Bool
  | .nil => true
  | .node .. => false

theorem Sh.isNil_iff {t : Sh} : t.isNil = true ↔ t = .nil := by cases t <;> simp [Sh.isNil]

abbrev Row := List (PX × Int)

def own (q : PX) (th : Bool) (u : Int) : Row := if th then [(q, u)] else []

def toL : Sh → Row
  | .nil => []
  | .node q th u l r => own q th u ++ (toL l ++ toL r)

def prefs : Sh → List PX
  | .nil => []
  | .node q _ _ l r => q :: (prefs l ++ prefs r)

def rootU (Q : PX) (i : Int) : Sh → Prop
  | .nil => True
  | .node q _ _ _ _ => Und Q i q

def WF : Sh → Prop
  | .nil => True
  | .node q th u l r => Vp q ∧ (th = false → u = 0 ∧ l ≠ .nil ∧ r ≠ .nil) ∧ rootU q 0 l ∧ rootU q 1 r ∧ WF l ∧ WF r

theorem mem_own {q : PX} {th : Bool} {u : Int} {x : PX × Int} : x ∈ own q th u ↔ th = true ∧ x = (q, u) := by
  unfold own; cases th <;> simp

theorem mem_prefs {t : Sh} {x : PX × Int} (h : x ∈ toL t) : x.1 ∈ prefs t := by
  induction t with
  | nil => simp [toL] at h
  | node q th u l r ihl ihr =>
    simp only [toL, List.mem_append, mem_own] at h
    simp only [prefs, List.mem_cons, List.mem_append]
    rcases h with ⟨_, rfl⟩ | h | h
    · exact .inl rfl
    · exact .inr (.inl (ihl h))
    · exact .inr (.inr (ihr h))

theorem all_wf {t : Sh} (h : WF t) : (∀ x ∈ prefs t, Vp x) ∧ (∀ Q i, Vp Q → rootU Q i t → ∀ x ∈ prefs t, Und Q i x) := by
  induction t with
  | nil => exact ⟨fun x hx => by simp [prefs] at hx, fun Q i _ _ x hx => by simp [prefs] at hx⟩
  | node q th u l r ihl ihr =>
    obtain ⟨hq, _, rl, rr, wl, wr⟩ := h
    obtain ⟨vl, ul⟩ := ihl wl
    obtain ⟨vr, ur⟩ := ihr wr
    have hv : ∀ x ∈ prefs (.node q th u l r), Vp x := by
      intro x hx
      simp only [prefs, List.mem_cons, List.mem_append] at hx
      rcases hx with rfl | hx | hx
      · exact hq
      · exact vl x hx
      · exact vr x hx
    refine ⟨hv, fun Q i hQ hr x hx => ?_⟩
    have hx' := hv x hx
    simp only [prefs, List.mem_cons, List.mem_append] at hx
    rcases hx with rfl | hx | hx
    · exact hr
    · exact und_trans hQ hq hx' hr (ul q 0 hq rl x hx).2.1
    · exact und_trans hQ hq hx' hr (ur q 1 hq rr x hx).2.1

theorem WF.vp {t : Sh} (h : WF t) {x : PX × Int} (hx : x ∈ toL t) : Vp x.1 := (all_wf h).1 _ (mem_prefs hx)

theorem rootU_of {Q : PX} {i : Int} {t : Sh} (h : ∀ x ∈ prefs t, Und Q i x) : rootU Q i t := by
  cases t with
  | nil => trivial
  | node q th u l r => exact h q (by simp [prefs])

/-- In order, each once. -/
def Srt (L : Row) : Prop := L.Pairwise fun x y => bef x.1 y.1 = true

theorem srt_toL {t : Sh} (h : WF t) : Srt (toL t) := by
  induction t with
  | nil => exact List.Pairwise.nil
  | node q th u l r ihl ihr =>
    have hw := h
    obtain ⟨hq, _, rl, rr, wl, wr⟩ := h
    unfold toL Srt
    have hl : ∀ x ∈ toL l, Und q 0 x.1 ∧ Vp x.1 := fun x hx => ⟨(all_wf wl).2 q 0 hq rl _ (mem_prefs hx), wl.vp hx⟩
    have hr : ∀ x ∈ toL r, Und q 1 x.1 ∧ Vp x.1 := fun x hx => ⟨(all_wf wr).2 q 1 hq rr _ (mem_prefs hx), wr.vp hx⟩
    have strict : ∀ {i : Int} {x : PX}, Und q i x → Vp x → bef q x = true := fun hu hv => cov_bef hq hv hu.2.1 (by intro e; have := hu.1; rw [← e] at this; omega)
    rw [List.pairwise_append, List.pairwise_append]
    refine ⟨?_, ⟨ihl wl, ihr wr, ?_⟩, ?_⟩
    · unfold own; split
      · exact List.pairwise_singleton _ _
      · exact List.Pairwise.nil
    · intro x hx y hy
      rw [bef_iff]
      exact .inl (und_ord hq (hl x hx).2 (hr y hy).2 (hl x hx).1 (hr y hy).1)
    · intro x hx y hy
      obtain ⟨_, rfl⟩ := mem_own.1 hx
      rcases List.mem_append.1 hy with hy | hy
      · exact strict (hl y hy).1 (hl y hy).2
      · exact strict (hr y hy).1 (hr y hy).2

theorem srt_ext : ∀ {L M : Row}, Srt L → Srt M → (∀ x, x ∈ L ↔ x ∈ M) → L = M
  | [], [], _, _, _ => rfl
  | [], y :: M, _, _, h => by have := (h y).2 (by simp); simp at this
  | x :: L, [], _, _, h => by have := (h x).1 (by simp); simp at this
  | x :: L, y :: M, hL, hM, h => by
    obtain ⟨hx, hL'⟩ := List.pairwise_cons.1 hL
    obtain ⟨hy, hM'⟩ := List.pairwise_cons.1 hM
    have exy : x = y := by
      have h1 := (h x).1 (by simp)
      have h2 := (h y).2 (by simp)
      rcases List.mem_cons.1 h1 with e | h1
      · exact e
      · rcases List.mem_cons.1 h2 with e | h2
        · exact e.symm
        · have a := hy x h1
          have b := hx y h2
          have := bef_trans a b
          rw [bef_irr] at this; cases this
    subst exy
    congr 1
    refine srt_ext hL' hM' fun z => ?_
    have hz := h z
    simp only [List.mem_cons] at hz
    constructor
    · intro h1
      rcases hz.1 (.inr h1) with e | h2
      · subst e; have := hx z h1; rw [bef_irr] at this; cases this
      · exact h2
    · intro h1
      rcases hz.2 (.inr h1) with e | h2
      · subst e; have := hy z h1; rw [bef_irr] at this; cases this
      · exact h2

/-- One key, one number. -/
theorem srt_key {L : Row} (h : Srt L) {x y : PX × Int} (hx : x ∈ L) (hy : y ∈ L) (e : x.1 = y.1) : x = y := by
  induction L with
  | nil => simp at hx
  | cons z L ih =>
    obtain ⟨hz, hL⟩ := List.pairwise_cons.1 h
    rcases List.mem_cons.1 hx with e1 | hx' <;> rcases List.mem_cons.1 hy with e2 | hy'
    · rw [e1, e2]
    · have := hz y hy'; rw [← e1, e, bef_irr] at this; cases this
    · have := hz x hx'; rw [← e2, e, bef_irr] at this; cases this
    · exact ih hL hx' hy'

/-! A prefix put in. -/

def leaf (p : PX) (v : Int) : Sh := .node p true v .nil .nil

def overS (t : Sh) (q m p : PX) (v : Int) : Sh :=
  if m = p then (if halfV q.1 m.2 = 0 then .node m true v t .nil else .node m true v .nil t)
  else if halfV q.1 m.2 = 0 then .node m false 0 t (leaf p v) else .node m false 0 (leaf p v) t

def putS : Sh → PX → Int → Sh
  | .nil, p, v => leaf p v
  | .node q th u l r, p, v =>
    if cov q p = true then
      if q = p then .node q true v l r
      else if halfV p.1 q.2 = 0 then .node q th u (putS l p v) r else .node q th u l (putS r p v)
    else overS (.node q th u l r) q (com q p) p v

theorem putS_ne (t : Sh) (p : PX) (v : Int) : putS t p v ≠ .nil := by
  cases t with
  | nil => simp [putS, leaf]
  | node q th u l r =>
    simp only [putS, overS]
    repeat' split
    all_goals (intro h; cases h)

theorem not_half0 {a n : Int} (h : ¬ halfV a n = 0) : halfV a n = 1 := by rcases half_01 a n with h1 | h1 <;> simp_all

theorem com_ne {q p : PX} (hq : Vp q) (hp : Vp p) (h : ¬ cov q p = true) : com q p ≠ q := fun e => h (by have := (com_spec hq hp).2.2.1; rwa [e] at this)

theorem put_root {t : Sh} {p : PX} {v : Int} (h : WF t) (hp : Vp p) {Q : PX} {i : Int} (hQ : Vp Q) (hr : rootU Q i t) (hu : Und Q i p) : rootU Q i (putS t p v) := by
  cases t with
  | nil => exact hu
  | node q th u l r =>
    have hq : Vp q := h.1
    have hc : Und Q i (com q p) := und_com hQ hq hp hr hu
    simp only [putS, overS]
    repeat' split
    all_goals first | exact hr | exact hc

theorem put_wf {t : Sh} {p : PX} {v : Int} (h : WF t) (hp : Vp p) : WF (putS t p v) := by
  induction t with
  | nil => exact ⟨hp, by simp, trivial, trivial, trivial, trivial⟩
  | node q th u l r ihl ihr =>
    have hw := h
    obtain ⟨hq, hf, rl, rr, wl, wr⟩ := h
    simp only [putS]
    split
    · rename_i hc
      split
      · exact ⟨hq, by simp, rl, rr, wl, wr⟩
      · rename_i hne
        have hu := und_half hq hp hc hne
        split
        · rename_i h0
          rw [h0] at hu
          exact ⟨hq, fun e => ⟨(hf e).1, putS_ne _ _ _, (hf e).2.2⟩, put_root wl hp hq rl hu, rr, ihl wl, wr⟩
        · rename_i h0
          rw [not_half0 h0] at hu
          exact ⟨hq, fun e => ⟨(hf e).1, (hf e).2.1, putS_ne _ _ _⟩, rl, put_root wr hp hq rr hu, wl, ihr wr⟩
    · rename_i hc
      obtain ⟨cv, cq, cp, _, ch, _⟩ := com_spec hq hp
      have hne := com_ne hq hp hc
      have huq := und_half cv hq cq hne
      unfold overS
      split
      · rename_i e
        split
        · rename_i h0; rw [h0] at huq
          exact ⟨cv, by simp, huq, trivial, hw, trivial⟩
        · rename_i h0; rw [not_half0 h0] at huq
          exact ⟨cv, by simp, trivial, huq, trivial, hw⟩
      · rename_i hnp
        have hup := und_half cv hp cp hnp
        have hd := ch hne hnp
        have hlf : WF (leaf p v) := ⟨hp, by simp, trivial, trivial, trivial, trivial⟩
        split
        · rename_i h0; rw [h0] at huq
          have h1 : halfV p.1 (com q p).2 = 1 := not_half0 (fun e => hd (by rw [h0, e]))
          rw [h1] at hup
          exact ⟨cv, fun _ => ⟨rfl, by simp, by simp [leaf]⟩, huq, hup, hw, hlf⟩
        · rename_i h0; rw [not_half0 h0] at huq
          have h1 : halfV p.1 (com q p).2 = 0 := by
            rcases half_01 p.1 (com q p).2 with h | h
            · exact h
            · exact absurd (by rw [not_half0 h0, h]) hd
          rw [h1] at hup
          exact ⟨cv, fun _ => ⟨rfl, by simp [leaf], by simp⟩, hup, huq, hlf, hw⟩

theorem put_mem {t : Sh} {p : PX} {v : Int} (h : WF t) (hp : Vp p) (x : PX × Int) : x ∈ toL (putS t p v) ↔ x = (p, v) ∨ (x ∈ toL t ∧ x.1 ≠ p) := by
  induction t with
  | nil => simp [putS, leaf, toL, own]
  | node q th u l r ihl ihr =>
    have hw := h
    obtain ⟨hq, hf, rl, rr, wl, wr⟩ := h
    have hl : x ∈ toL l → Und q 0 x.1 := fun hx => (all_wf wl).2 q 0 hq rl _ (mem_prefs hx)
    have hr : x ∈ toL r → Und q 1 x.1 := fun hx => (all_wf wr).2 q 1 hq rr _ (mem_prefs hx)
    simp only [putS]
    split
    · rename_i hc
      split
      · rename_i e
        subst e
        simp only [toL, List.mem_append, mem_own]
        have n1 : x ∈ toL l → x.1 ≠ q := fun hx e => by have := (hl hx).1; rw [e] at this; omega
        have n2 : x ∈ toL r → x.1 ≠ q := fun hx e => by have := (hr hx).1; rw [e] at this; omega
        constructor
        · rintro (⟨_, rfl⟩ | hx | hx)
          · exact .inl rfl
          · exact .inr ⟨.inr (.inl hx), n1 hx⟩
          · exact .inr ⟨.inr (.inr hx), n2 hx⟩
        · rintro (rfl | ⟨⟨_, rfl⟩ | hx | hx, hn⟩)
          · exact .inl (by simp)
          · exact absurd rfl hn
          · exact .inr (.inl hx)
          · exact .inr (.inr hx)
      · rename_i hne
        have hu := und_half hq hp hc hne
        have nq : (th = true ∧ x = (q, u)) → x.1 ≠ p := by rintro ⟨_, rfl⟩; exact hne
        split
        · rename_i h0
          rw [h0] at hu
          have n2 : x ∈ toL r → x.1 ≠ p := fun hx e => by have := und_one (hr hx) (by rw [e]; exact hu); omega
          simp only [toL, List.mem_append, mem_own, ihl wl]
          constructor
          · rintro (hx | (rfl | ⟨hx, hn⟩) | hx)
            · exact .inr ⟨.inl hx, nq hx⟩
            · exact .inl rfl
            · exact .inr ⟨.inr (.inl hx), hn⟩
            · exact .inr ⟨.inr (.inr hx), n2 hx⟩
          · rintro (rfl | ⟨hx | hx | hx, hn⟩)
            · exact .inr (.inl (.inl rfl))
            · exact .inl hx
            · exact .inr (.inl (.inr ⟨hx, hn⟩))
            · exact .inr (.inr hx)
        · rename_i h0
          rw [not_half0 h0] at hu
          have n1 : x ∈ toL l → x.1 ≠ p := fun hx e => by have := und_one (hl hx) (by rw [e]; exact hu); omega
          simp only [toL, List.mem_append, mem_own, ihr wr]
          constructor
          · rintro (hx | hx | (rfl | ⟨hx, hn⟩))
            · exact .inr ⟨.inl hx, nq hx⟩
            · exact .inr ⟨.inr (.inl hx), n1 hx⟩
            · exact .inl rfl
            · exact .inr ⟨.inr (.inr hx), hn⟩
          · rintro (rfl | ⟨hx | hx | hx, hn⟩)
            · exact .inr (.inr (.inl rfl))
            · exact .inl hx
            · exact .inr (.inl hx)
            · exact .inr (.inr (.inr ⟨hx, hn⟩))
    · rename_i hc
      have hn : x ∈ toL (.node q th u l r) → x.1 ≠ p := by
        intro hx e
        simp only [toL, List.mem_append, mem_own] at hx
        apply hc
        rw [← e]
        rcases hx with ⟨_, rfl⟩ | hx | hx
        · exact cov_refl _
        · exact (hl hx).2.1
        · exact (hr hx).2.1
      generalize Sh.node q th u l r = t at *
      have key : x ∈ toL (overS t q (com q p) p v) ↔ x = (p, v) ∨ x ∈ toL t := by
        unfold overS
        split
        · rename_i e
          split <;> simp [toL, mem_own, e]
        · split
          · simp [toL, leaf, mem_own, or_comm]
          · simp [toL, leaf, mem_own]
      rw [key]
      constructor
      · rintro (h | h)
        · exact .inl h
        · exact .inr ⟨h, hn h⟩
      · rintro (h | h)
        · exact .inl h
        · exact .inr h.1

/-! A prefix taken out. -/

def needS : Sh → Sh
  | .nil => .nil
  | .node q th u l r => if th then .node q th u l r else if l.isNil then r else if r.isNil then l else .node q th u l r

def cutS : Sh → PX → Sh
  | .nil, _ => .nil
  | .node q th u l r, p => if q = p then needS (.node q false 0 l r) else if halfV p.1 q.2 = 0 then needS (.node q th u (cutS l p) r) else needS (.node q th u l (cutS r p))

/-- The way down ends at the prefix. -/
def pathS : Sh → PX → Bool
  | .nil, _ => false
  | .node q _ _ l r, p => if q = p then true else if halfV p.1 q.2 = 0 then pathS l p else pathS r p

theorem path_of {t : Sh} {x : PX × Int} (h : WF t) (hx : x ∈ toL t) : pathS t x.1 = true := by
  induction t with
  | nil => simp [toL] at hx
  | node q th u l r ihl ihr =>
    obtain ⟨hq, hf, rl, rr, wl, wr⟩ := h
    simp only [toL, List.mem_append, mem_own] at hx
    simp only [pathS]
    split
    · rfl
    · rename_i hne
      rcases hx with ⟨_, rfl⟩ | hx | hx
      · exact absurd rfl hne
      · have := (all_wf wl).2 q 0 hq rl _ (mem_prefs hx)
        rw [if_pos this.2.2]; exact ihl wl hx
      · have := (all_wf wr).2 q 1 hq rr _ (mem_prefs hx)
        rw [if_neg (by rw [this.2.2]; omega)]; exact ihr wr hx

theorem need_toL (q : PX) (th : Bool) (u : Int) (l r : Sh) : toL (needS (.node q th u l r)) = toL (.node q th u l r) := by
  simp only [needS]
  split
  · rfl
  · rename_i ht
    have ht : th = false := by simpa using ht
    subst ht
    split
    · rename_i hl
      rw [Sh.isNil_iff.1 hl]; simp [toL, own]
    · split
      · rename_i hr
        rw [Sh.isNil_iff.1 hr]; simp [toL, own]
      · rfl

theorem need_prefs (q : PX) (th : Bool) (u : Int) (l r : Sh) : ∀ x ∈ prefs (needS (.node q th u l r)), x ∈ prefs (.node q th u l r) := by
  intro x
  simp only [needS]
  split
  · exact id
  · split
    · simp only [prefs, List.mem_cons, List.mem_append]; exact fun h => .inr (.inr h)
    · split
      · simp only [prefs, List.mem_cons, List.mem_append]; exact fun h => .inr (.inl h)
      · exact id

theorem need_wf {q : PX} {th : Bool} {u : Int} {l r : Sh} (hq : Vp q) (hf : th = false → u = 0) (rl : rootU q 0 l) (rr : rootU q 1 r) (wl : WF l) (wr : WF r) : WF (needS (.node q th u l r)) := by
  simp only [needS]
  split
  · rename_i ht
    exact ⟨hq, by simp [ht], rl, rr, wl, wr⟩
  · rename_i ht
    split
    · exact wr
    · rename_i hl
      split
      · exact wl
      · rename_i hr
        refine ⟨hq, fun e => ⟨hf e, ?_, ?_⟩, rl, rr, wl, wr⟩
        · intro e2; exact hl (Sh.isNil_iff.2 e2)
        · intro e2; exact hr (Sh.isNil_iff.2 e2)

theorem cut_prefs {t : Sh} {p : PX} : ∀ x ∈ prefs (cutS t p), x ∈ prefs t := by
  induction t with
  | nil => exact fun x h => h
  | node q th u l r ihl ihr =>
    intro x hx
    simp only [cutS] at hx
    split at hx
    · have := need_prefs _ _ _ _ _ _ hx
      exact this
    · split at hx
      · have := need_prefs _ _ _ _ _ _ hx
        simp only [prefs, List.mem_cons, List.mem_append] at this ⊢
        rcases this with h | h | h
        · exact .inl h
        · exact .inr (.inl (ihl x h))
        · exact .inr (.inr h)
      · have := need_prefs _ _ _ _ _ _ hx
        simp only [prefs, List.mem_cons, List.mem_append] at this ⊢
        rcases this with h | h | h
        · exact .inl h
        · exact .inr (.inl h)
        · exact .inr (.inr (ihr x h))

theorem cut_wf {t : Sh} {p : PX} (h : WF t) : WF (cutS t p) := by
  induction t with
  | nil => trivial
  | node q th u l r ihl ihr =>
    obtain ⟨hq, hf, rl, rr, wl, wr⟩ := h
    simp only [cutS]
    split
    · exact need_wf hq (fun _ => rfl) rl rr wl wr
    · split
      · exact need_wf hq (fun e => (hf e).1) (rootU_of fun x hx => (all_wf wl).2 q 0 hq rl x (cut_prefs x hx)) rr (ihl wl) wr
      · exact need_wf hq (fun e => (hf e).1) rl (rootU_of fun x hx => (all_wf wr).2 q 1 hq rr x (cut_prefs x hx)) wl (ihr wr)

theorem cut_mem {t : Sh} {p : PX} (h : WF t) (hp : pathS t p = true) (x : PX × Int) : x ∈ toL (cutS t p) ↔ x ∈ toL t ∧ x.1 ≠ p := by
  induction t with
  | nil => simp [cutS, toL]
  | node q th u l r ihl ihr =>
    obtain ⟨hq, hf, rl, rr, wl, wr⟩ := h
    have hl : x ∈ toL l → Und q 0 x.1 := fun hx => (all_wf wl).2 q 0 hq rl _ (mem_prefs hx)
    have hr : x ∈ toL r → Und q 1 x.1 := fun hx => (all_wf wr).2 q 1 hq rr _ (mem_prefs hx)
    simp only [cutS]
    simp only [pathS] at hp
    split
    · rename_i e
      subst e
      rw [need_toL]
      have n1 : x ∈ toL l → x.1 ≠ q := fun hx e => by have := (hl hx).1; rw [e] at this; omega
      have n2 : x ∈ toL r → x.1 ≠ q := fun hx e => by have := (hr hx).1; rw [e] at this; omega
      simp only [toL, List.mem_append, mem_own]
      constructor
      · rintro (⟨h, _⟩ | hx | hx)
        · cases h
        · exact ⟨.inr (.inl hx), n1 hx⟩
        · exact ⟨.inr (.inr hx), n2 hx⟩
      · rintro ⟨⟨_, rfl⟩ | hx | hx, hn⟩
        · exact absurd rfl hn
        · exact .inr (.inl hx)
        · exact .inr (.inr hx)
    · rename_i hne
      rw [if_neg hne] at hp
      have nq : (th = true ∧ x = (q, u)) → x.1 ≠ p := by rintro ⟨_, rfl⟩; exact hne
      split
      · rename_i h0
        rw [if_pos h0] at hp
        have n2 : x ∈ toL r → x.1 ≠ p := fun hx e => by have := (hr hx).2.2; rw [e, h0] at this; omega
        rw [need_toL]
        simp only [toL, List.mem_append, mem_own, ihl wl hp]
        constructor
        · rintro (hx | ⟨hx, hn⟩ | hx)
          · exact ⟨.inl hx, nq hx⟩
          · exact ⟨.inr (.inl hx), hn⟩
          · exact ⟨.inr (.inr hx), n2 hx⟩
        · rintro ⟨hx | hx | hx, hn⟩
          · exact .inl hx
          · exact .inr (.inl ⟨hx, hn⟩)
          · exact .inr (.inr hx)
      · rename_i h0
        rw [if_neg h0] at hp
        have n1 : x ∈ toL l → x.1 ≠ p := fun hx e => by have := (hl hx).2.2; rw [e, not_half0 h0] at this; omega
        rw [need_toL]
        simp only [toL, List.mem_append, mem_own, ihr wr hp]
        constructor
        · rintro (hx | hx | ⟨hx, hn⟩)
          · exact ⟨.inl hx, nq hx⟩
          · exact ⟨.inr (.inl hx), n1 hx⟩
          · exact ⟨.inr (.inr hx), hn⟩
        · rintro ⟨hx | hx | hx, hn⟩
          · exact .inl hx
          · exact .inr (.inl hx)
          · exact .inr (.inr ⟨hx, hn⟩)

/-! Those that cover a prefix. -/

def coversS : Sh → PX → Row
  | .nil, _ => []
  | .node q th u l r, p => if cov q p = true then own q th u ++ (if halfV p.1 q.2 = 0 then coversS l p else coversS r p) else []

theorem covers_toL {t : Sh} {p : PX} (h : WF t) (hp : Vp p) : coversS t p = (toL t).filter fun x => cov x.1 p := by
  induction t with
  | nil => rfl
  | node q th u l r ihl ihr =>
    obtain ⟨hq, hf, rl, rr, wl, wr⟩ := h
    have hl : ∀ x ∈ toL l, Und q 0 x.1 ∧ Vp x.1 := fun x hx => ⟨(all_wf wl).2 q 0 hq rl _ (mem_prefs hx), wl.vp hx⟩
    have hr : ∀ x ∈ toL r, Und q 1 x.1 ∧ Vp x.1 := fun x hx => ⟨(all_wf wr).2 q 1 hq rr _ (mem_prefs hx), wr.vp hx⟩
    simp only [coversS, toL, List.filter_append]
    split
    · rename_i hc
      have e0 : (own q th u).filter (fun x => cov x.1 p) = own q th u := by
        refine List.filter_eq_self.2 fun x hx => ?_
        obtain ⟨_, rfl⟩ := mem_own.1 hx
        exact hc
      rw [e0]
      congr 1
      split
      · rename_i h0
        rw [ihl wl]
        have e : (toL r).filter (fun x => cov x.1 p) = [] := by
          refine List.filter_eq_nil_iff.2 fun x hx hcx => ?_
          have := (und_trans hq (hr x hx).2 hp (hr x hx).1 hcx).2.2
          rw [h0] at this; omega
        rw [e, List.append_nil]
      · rename_i h0
        rw [ihr wr]
        have e : (toL l).filter (fun x => cov x.1 p) = [] := by
          refine List.filter_eq_nil_iff.2 fun x hx hcx => ?_
          have := (und_trans hq (hl x hx).2 hp (hl x hx).1 hcx).2.2
          rw [not_half0 h0] at this; omega
        rw [e, List.nil_append]
    · rename_i hc
      have e : ∀ x ∈ own q th u ++ (toL l ++ toL r), ¬ cov x.1 p = true := by
        intro x hx hcx
        apply hc
        simp only [List.mem_append, mem_own] at hx
        rcases hx with ⟨_, rfl⟩ | hx | hx
        · exact hcx
        · exact cov_trans (hl x hx).1.2.1 hcx
        · exact cov_trans (hr x hx).1.2.1 hcx
      rw [← List.filter_append, ← List.filter_append]
      exact (List.filter_eq_nil_iff.2 e).symm
end Go.Proofs.YtkfhkhgiojpfoaaGreat.Tri

namespace Go.Proofs.YtkfhkhgiojpfoaaGreat.Tri

set_option maxRecDepth 100000

open Go.RowKit Go.Proofs.YtkfhkhgiojpfoaaGreat

set_option linter.unusedVariables false

def covA (t : Sh) (p : PX) (a : Option Addr) : Option Addr := match t with
  | .nil => none
  | .node q _ _ _ _ => if cov q p = true then a else none
def covS (t : Sh) (p : PX) : Sh := match t with
  | .nil => .nil
  | .node q th u l r => if cov q p = true then .node q th u l r else .nil

theorem cov_wf {t : Sh} (h : WF t) (p : PX) : WF (covS t p) := by
  cases t with
  | nil => trivial
  | node q th u l r => simp only [covS]; split; exact h; trivial

theorem covS_covers (t : Sh) (p : PX) : coversS (covS t p) p = coversS t p := by
  cases t with
  | nil => rfl
  | node q th u l r =>
    simp only [covS]; split
    · rfl
    · rename_i h; simp [coversS, h]

theorem covS_twice (t : Sh) (p : PX) : covS (covS t p) p = covS t p := by
  cases t with
  | nil => rfl
  | node q th u l r => by_cases h : cov q p = true <;> simp [covS, h]

def szS : Sh → Nat
  | .nil => 0
  | .node _ _ _ l r => szS l + szS r + 1

theorem sz_cov (t : Sh) (p : PX) : szS (covS t p) ≤ szS t := by
  cases t with
  | nil => exact Nat.le_refl _
  | node q th u l r => simp only [covS]; split; exact Nat.le_refl _; exact Nat.zero_le _

/-- Which kid is gone on with. -/
def kidS (p : PX) : Sh → Sh
  | .nil => .nil
  | .node q _ _ l r => if halfV p.1 q.2 = 0 then l else r

/-- Where the way down begins. -/
def begS (t : Sh) (p : PX) : Sh := if isV p.1 p.2 = true then covS t p else .nil

theorem beg_wf {t : Sh} (h : WF t) (p : PX) : WF (begS t p) := by unfold begS; split; exact cov_wf h p; trivial
theorem beg_twice (t : Sh) (p : PX) : covS (begS t p) p = begS t p := by unfold begS; split; exact covS_twice t p; rfl

def lastF : Option (PX × Int) → Row → Option (PX × Int)
  | acc, [] => acc
  | _, x :: L => lastF (some x) L

theorem sz_kid (p : PX) (q : PX) (th : Bool) (u : Int) (l r : Sh) : szS (covS (kidS p (.node q th u l r)) p) < szS (.node q th u l r) := by
  have h := sz_cov (kidS p (.node q th u l r)) p
  refine Nat.lt_of_le_of_lt h ?_
  simp only [kidS, szS]; split <;> omega

theorem kid_wf {p q : PX} {th : Bool} {u : Int} {l r : Sh} (h : WF (.node q th u l r)) : WF (covS (kidS p (.node q th u l r)) p) := by
  refine cov_wf ?_ p
  simp only [kidS]; split
  · exact h.2.2.2.2.1
  · exact h.2.2.2.2.2

/-- A step of the way down. -/
theorem covers_step {p q : PX} {th : Bool} {u : Int} {l r : Sh} (h : covS (.node q th u l r) p = .node q th u l r) :
    coversS (.node q th u l r) p = own q th u ++ coversS (covS (kidS p (.node q th u l r)) p) p := by
  have hc : cov q p = true := by
    simp only [covS] at h
    split at h
    · assumption
    · cases h
  rw [covS_covers]
  simp only [coversS, if_pos hc, kidS]
  split <;> rfl

theorem neq_prefix (a n b m : Int) (w : World) : (binOp .neq 42 (.agg #[.int .u32 a, .int .i64 n]) (.agg #[.int .u32 b, .int .i64 m])).run Tryz.prog w = .ok (.bool (!(a == b && n == m))) w := by
  have h := eql_prefix a n b m w
  rw [run_eql_struct] at h
  rw [run_neq_struct]
  cases hr : (Op.equalIn 10000 42 (.agg #[.int .u32 a, .int .i64 n]) (.agg #[.int .u32 b, .int .i64 m])).run Tryz.prog w with
  | ok x w' =>
    rw [hr] at h
    simp only [Result.andThen_ok, Result.ok.injEq, Value.bool.injEq] at h ⊢
    exact ⟨by rw [h.1], h.2⟩
  | _ => rw [hr] at h; simp [Result.andThen] at h

/-- A prefix's number, by what was found. -/
def getF (o : Option (PX × Int)) (p : PX) : Int × Bool := match o with
  | none => (0, false)
  | some x => if x.1 = p then (x.2, true) else (0, false)

theorem extS_set (w : World) (b k : Nat) (u : Value) : ExtS [b] w (w.setCell ⟨b, k, none⟩ u) := (ExtS.refl [b] w).setCell (.inl (by simp)) u
end Go.Proofs.YtkfhkhgiojpfoaaGreat.Tri

namespace Go.Proofs.YtkfhkhgiojpfoaaGreat.Dr

set_option maxRecDepth 100000

open Go.RowKit Go.Proofs.YtkfhkhgiojpfoaaGreat Go.Proofs.YtkfhkhgiojpfoaaGreat.Tri

set_option linter.unusedVariables false

def keyV (p : PX) : Value := .agg #[.int .u32 p.1, .int .i64 p.2]
def ptV (o : Option Nat) : Value := .pointer (o.map fun b => ⟨b, 0, none⟩)

/-- The block of a prefix, in a row of both. -/
def lk : List (PX × Nat) → PX → Option Nat
  | [], _ => none
  | x :: E, p => if x.1 = p then some x.2 else lk E p

def delE : List (PX × Nat) → PX → List (PX × Nat)
  | [], _ => []
  | x :: E, p => if x.1 = p then E else x :: delE E p

def fa : List (PX × Nat) → PX → Nat → Option (Nat × Value)
  | [], _, _ => none
  | x :: E, p, i => if x.1 = p then some (i, ptV (some x.2)) else fa E p (i + 1)

def MapAt (w : World) (mb : Nat) (E : List (PX × Nat)) : Prop := ∃ es clock, w.heap[mb]? = some (.map es clock) ∧ es.toList.map (fun e => (e.key, e.val)) = E.map fun x => (keyV x.1, ptV (some x.2))

theorem eq_px (a n b m : Int) : (a == b && n == m) = decide (((b, m) : PX) = (a, n)) := by
  rw [Bool.eq_iff_iff]
  simp only [Bool.and_eq_true, beq_iff_eq, decide_eq_true_eq, Prod.mk.injEq]
  constructor
  · rintro ⟨rfl, rfl⟩; exact ⟨rfl, rfl⟩
  · rintro ⟨rfl, rfl⟩; exact ⟨rfl, rfl⟩

theorem equal_px (p q : PX) (w : World) : (Op.equal 42 (keyV p) (keyV q)).run Tryz.prog w = .ok (decide (q = p)) w := by
  obtain ⟨a, n⟩ := p
  obtain ⟨b, m⟩ := q
  have h := eql_prefix a n b m w
  rw [run_eql_struct] at h
  show (Op.equalIn 10000 42 (.agg #[.int .u32 a, .int .i64 n]) (.agg #[.int .u32 b, .int .i64 m])).run Tryz.prog w = _
  cases hr : (Op.equalIn 10000 42 (.agg #[.int .u32 a, .int .i64 n]) (.agg #[.int .u32 b, .int .i64 m])).run Tryz.prog w with
  | ok r w1 =>
    rw [hr] at h
    simp only [Result.andThen_ok, Result.ok.injEq, Value.bool.injEq] at h
    obtain ⟨rfl, rfl⟩ := h
    rw [eq_px]
  | halt x w1 => rw [hr] at h; simp [Result.andThen] at h

theorem check_px (em : Bool) (p : PX) (w : World) : (Instr.checkKey em 10000 42 (keyV p)).run Tryz.prog w = .ok () w := by
  obtain ⟨a, n⟩ := p
  kernel_rfl

theorem asking_px (p : PX) (w : World) : ∀ (l : List MapEntry) (E : List (PX × Nat)) (i : Nat), l.map (fun e => (e.key, e.val)) = E.map (fun x => (keyV x.1, ptV (some x.2))) →
    (Instr.findAsking 42 (keyV p) l i).run Tryz.prog w = .ok (fa E p i) w
  | [], [], i, _ => rfl
  | [], y :: E, i, h => by simp at h
  | e :: l, [], i, h => by simp at h
  | e :: l, y :: E, i, h => by
    simp only [List.map_cons, List.cons.injEq, Prod.mk.injEq] at h
    obtain ⟨⟨h1, h2⟩, h3⟩ := h
    have ih := asking_px p w l E (i + 1) h3
    simp only [Instr.findAsking, Sem.run_bind, h1, equal_px, Result.andThen_ok, fa]
    by_cases e1 : y.1 = p
    · simp [e1, h2]
    · simp only [e1, decide_false, Bool.false_eq_true, if_false]; exact ih

theorem find_px (p : PX) (w : World) (l : List MapEntry) (E : List (PX × Nat)) (h : l.map (fun e => (e.key, e.val)) = E.map (fun x => (keyV x.1, ptV (some x.2)))) :
    (Instr.findKey 42 (keyV p) l).run Tryz.prog w = .ok (fa E p 0) w := by
  have ha := asking_px p w l E 0 h
  unfold Instr.findKey
  simp only [Sem.run_bind, run_underlying Tryz.underlying42, Result.andThen_ok]
  cases l with
  | nil =>
    cases E with
    | nil => rfl
    | cons y E => simp at h
  | cons e l =>
    have : ∀ fs, Instr.findNow (.struct fs) (keyV p) (e :: l) 0 = none := fun fs => by simp [Instr.findNow, Instr.sameNow]
    rw [this]
    exact ha

theorem fa_lk (E : List (PX × Nat)) (p : PX) : ∀ i, (fa E p i).map (·.2) = (lk E p).map fun b => ptV (some b) := by
  induction E with
  | nil => intro i; rfl
  | cons x E ih => intro i; simp only [fa, lk]; split; rfl; exact ih _

theorem zero_ptr (w : World) : (zeroValue 151).run Tryz.prog w = .ok (.pointer none) w := by kernel_rfl

/-- What a prefix leads to. -/
theorem look_px {w : World} {mb : Nat} {E : List (PX × Nat)} (h : MapAt w mb E) (p : PX) : (Instr.lookup 104 (.map (some mb)) (keyV p) false).run Tryz.prog w = .ok (ptV (lk E p)) w := by
  obtain ⟨es, clock, hb, he⟩ := h
  have hf := fa_lk E p 0
  simp only [Instr.lookup, Sem.run_bind, run_underlying Tryz.underlying104, Result.andThen_ok, MapKept.run_getObj_map hb, check_px, Sem.run_pure, find_px p w _ E he]
  cases hfa : fa E p 0 with
  | none =>
    rw [hfa] at hf
    have : lk E p = none := by
      cases hl : lk E p with
      | none => rfl
      | some b => rw [hl] at hf; cases hf
    rw [this]
    simp only [Sem.run_bind, zero_ptr, Result.andThen_ok, Sem.run_pure]
    rfl
  | some x =>
    obtain ⟨i, v⟩ := x
    rw [hfa] at hf
    simp only [Option.map_some] at hf
    cases hl : lk E p with
    | none => rw [hl] at hf; simp at hf
    | some b =>
      rw [hl] at hf
      simp only [Option.map_some, Option.some.injEq] at hf
      simp only [Sem.run_bind, Sem.run_pure, Result.andThen_ok, hf]
      rfl

theorem look_nil (w : World) (p : PX) : (Instr.lookup 104 (.map none) (keyV p) false).run Tryz.prog w = .ok (.pointer none) w := by
  simp only [Instr.lookup, Sem.run_bind, run_underlying Tryz.underlying104, Result.andThen_ok, check_px, Sem.run_pure, find_px p w [] [] rfl, fa, zero_ptr]
  rfl

def setB (w : World) (b : Nat) (o : Obj) : World := { w with heap := w.heap.setIfInBounds b o }

theorem setB_ext (w : World) (b : Nat) (o : Obj) : ExtS [b] w (setB w b o) := ⟨rfl, rfl, rfl, by simp [setB], fun k hk hx => by
  have : k ≠ b := by simpa using hx
  simp [setB, this.symm]⟩

theorem setB_same {w : World} {b : Nat} {o o' : Obj} (h : w.heap[b]? = some o') : (setB w b o).heap[b]? = some o := by
  simp [setB, heap_lt h]

theorem fa_none {E : List (PX × Nat)} {p : PX} (h : lk E p = none) (i : Nat) : fa E p i = none := by
  have := fa_lk E p i
  rw [h] at this
  simpa using this

/-- A new prefix is stored. -/
theorem store_px {w : World} {mb : Nat} {E : List (PX × Nat)} (h : MapAt w mb E) (p : PX) (b : Nat) (hn : lk E p = none) :
    ∃ w', (Instr.mapUpdate 104 (.map (some mb)) (keyV p) (ptV (some b))).run Tryz.prog w = .ok () w' ∧ MapAt w' mb (E ++ [(p, b)]) ∧ ExtS [mb] w w' ∧ w'.heap.size = w.heap.size := by
  obtain ⟨es, clock, hb, he⟩ := h
  refine ⟨setB w mb (.map (es.push ⟨keyV p, ptV (some b), clock⟩) (clock + 1)), ?_, ⟨_, _, setB_same hb, ?_⟩, setB_ext _ _ _, by simp [setB]⟩
  · simp only [Instr.mapUpdate, Sem.run_bind, run_underlying Tryz.underlying104, Result.andThen_ok, MapKept.run_getObj_map hb, check_px, find_px p w _ E he, fa_none hn, MapKept.run_setObj_map _ hb, setB]
  · simp [he]

theorem fa_some {E : List (PX × Nat)} {p : PX} {b : Nat} (h : lk E p = some b) : ∀ i, ∃ j, j < E.length ∧ fa E p i = some (i + j, ptV (some b)) ∧ E.eraseIdx j = delE E p := by
  induction E with
  | nil => simp [lk] at h
  | cons x E ih =>
    intro i
    simp only [lk] at h
    split at h
    · rename_i e
      simp only [Option.some.injEq] at h
      exact ⟨0, by simp, by simp [fa, e, h], by simp [delE, e]⟩
    · rename_i e
      obtain ⟨j, h1, h2, h3⟩ := ih h (i + 1)
      refine ⟨j + 1, by simp; omega, ?_, by simp [delE, e, h3]⟩
      simp only [fa, e, if_false, h2]
      congr 2
      omega

theorem map_erase {α β : Type} (f : α → β) : ∀ (l : List α) (j : Nat), (l.eraseIdx j).map f = (l.map f).eraseIdx j
  | [], _ => by simp
  | x :: l, 0 => by simp
  | x :: l, j + 1 => by simp [map_erase f l j]

theorem MapAt.later {w w' : World} {mb : Nat} {E : List (PX × Nat)} {G : List Nat} (h : MapAt w mb E) (hx : ExtS G w w') (hd : mb ∉ G) : MapAt w' mb E := by
  obtain ⟨es, clock, hb, he⟩ := h
  exact ⟨es, clock, hx.heap hd hb, he⟩
end Go.Proofs.YtkfhkhgiojpfoaaGreat.Dr

namespace Go.Proofs.YtkfhkhgiojpfoaaGreat.Dr

set_option maxRecDepth 100000

open Go.RowKit Go.Proofs.YtkfhkhgiojpfoaaGreat Go.Proofs.YtkfhkhgiojpfoaaGreat.Tri

set_option linter.unusedVariables false

/-- A table of n places in block tb: what each is painted with, where each leads. -/
def TabAt (w : World) (tb n : Nat) (t : TypeId) (f g : Nat → Option Nat) : Prop := ∃ cs, w.heap[tb]? = some (.cells cs t (0, 0)) ∧ cs.size = n * 2 ∧ ∀ i, i < n → cs[i * 2]? = some (ptV (f i)) ∧ cs[i * 2 + 1]? = some (ptV (g i))

theorem TabAt.by_cell {w : World} {tb n : Nat} {t : TypeId} {f g : Nat → Option Nat} (h : TabAt w tb n t f g) {i : Nat} (hi : i < n) : w.cell? ⟨tb, i * 2, none⟩ = some (ptV (f i)) := by
  obtain ⟨cs, h1, h2, h3⟩ := h
  rw [heap_cell h1]; exact (h3 i hi).1

theorem TabAt.to_cell {w : World} {tb n : Nat} {t : TypeId} {f g : Nat → Option Nat} (h : TabAt w tb n t f g) {i : Nat} (hi : i < n) : w.cell? ⟨tb, i * 2 + 1, none⟩ = some (ptV (g i)) := by
  obtain ⟨cs, h1, h2, h3⟩ := h
  rw [heap_cell h1]; exact (h3 i hi).2

theorem TabAt.frozen {w : World} {tb n : Nat} {t : TypeId} {f g : Nat → Option Nat} (h : TabAt w tb n t f g) (k : Nat) : w.frozen? ⟨tb, k, none⟩ = false := by
  obtain ⟨cs, h1, -, -⟩ := h
  exact heap_frozen h1

theorem TabAt.lt {w : World} {tb n : Nat} {t : TypeId} {f g : Nat → Option Nat} (h : TabAt w tb n t f g) : tb < w.heap.size := by
  obtain ⟨cs, h1, -, -⟩ := h
  exact heap_lt h1

theorem TabAt.later {w w' : World} {tb n : Nat} {t : TypeId} {f g : Nat → Option Nat} {G : List Nat} (h : TabAt w tb n t f g) (hx : ExtS G w w') (hd : tb ∉ G) : TabAt w' tb n t f g := by
  obtain ⟨cs, h1, h2⟩ := h
  exact ⟨cs, hx.heap hd h1, h2⟩

theorem TabAt.congr {w : World} {tb n : Nat} {t : TypeId} {f g f' g' : Nat → Option Nat} (h : TabAt w tb n t f g) (hf : ∀ i, i < n → f' i = f i) (hg : ∀ i, i < n → g' i = g i) : TabAt w tb n t f' g' := by
  obtain ⟨cs, h1, h2, h3⟩ := h
  exact ⟨cs, h1, h2, fun i hi => by rw [hf i hi, hg i hi]; exact h3 i hi⟩

theorem TabAt.set_by {w : World} {tb n : Nat} {t : TypeId} {f g : Nat → Option Nat} (h : TabAt w tb n t f g) {i : Nat} (hi : i < n) (o : Option Nat) : TabAt (w.setCell ⟨tb, i * 2, none⟩ (ptV o)) tb n t (fun j => if j = i then o else f j) g := by
  obtain ⟨cs, h1, h2, h3⟩ := h
  refine ⟨_, heap_set h1 _, by simpa using h2, fun j hj => ⟨?_, ?_⟩⟩
  · rw [Array.getElem?_setIfInBounds]
    by_cases e : j = i
    · subst e; simp; omega
    · rw [if_neg (by omega)]; simp only [if_neg e]; exact (h3 j hj).1
  · rw [Array.getElem?_setIfInBounds, if_neg (by omega)]; exact (h3 j hj).2

theorem TabAt.set_to {w : World} {tb n : Nat} {t : TypeId} {f g : Nat → Option Nat} (h : TabAt w tb n t f g) {i : Nat} (hi : i < n) (o : Option Nat) : TabAt (w.setCell ⟨tb, i * 2 + 1, none⟩ (ptV o)) tb n t f (fun j => if j = i then o else g j) := by
  obtain ⟨cs, h1, h2, h3⟩ := h
  refine ⟨_, heap_set h1 _, by simpa using h2, fun j hj => ⟨?_, ?_⟩⟩
  · rw [Array.getElem?_setIfInBounds, if_neg (by omega)]; exact (h3 j hj).1
  · rw [Array.getElem?_setIfInBounds]
    by_cases e : j = i
    · subst e; simp; omega
    · rw [if_neg (by omega)]; simp only [if_neg e]; exact (h3 j hj).2

theorem cellS {G : List Nat} {w w' : World} (hx : ExtS G w w') {b k : Nat} (hb : b ∉ G) (hl : b < w.heap.size) : w'.cell? ⟨b, k, none⟩ = w.cell? ⟨b, k, none⟩ := by
  simp [World.cell?, hx.block b hl hb]

/-- What cover leaves, behind its first k places. -/
def covB (f : Nat → Option Nat) (bt : Nat → Int) (o k l i : Nat) : Option Nat := if o ≤ i ∧ i < o + k ∧ (∀ b, f i = some b → bt b < bt l) then some l else f i

/-- What uncover leaves. -/
def uncB (f : Nat → Option Nat) (o k l : Nat) (u : Option Nat) (i : Nat) : Option Nat := if o ≤ i ∧ i < o + k ∧ f i = some l then u else f i

set_option maxHeartbeats 1000000 in
theorem cover_any (tb n o cnt cp l : Nat) (t : TypeId) (f g : Nat → Option Nat) (bt : Nat → Int) (w : World) (hT : TabAt w tb n t f g) (ho : o + cnt ≤ n) (hn : n ≤ 65536) (hl : w.cell? ⟨l, 0, none⟩ = some (.int .i64 (bt l))) (ltb : l ≠ tb)
    (hb : ∀ i b, i < n → f i = some b → b ≠ tb ∧ w.cell? ⟨b, 0, none⟩ = some (.int .i64 (bt b))) :
    Calls Tryz.prog 126 #[.slice (some ⟨tb, o * 2, none⟩) cnt cp, .pointer (some ⟨l, 0, none⟩)] w fun e w' => e = .returned (.tuple #[]) ∧ TabAt w' tb n t (covB f bt o cnt l) g ∧ ExtS [tb] w w' := by
  have HT : Hid (TabAt w tb n t f g) := hT
  have HB : Hid _ := hb
  clear hT hb
  go_enter Tryz.func126, Tryz.ntmps126
  go_wp2_with fail
  go_loopw [8] (fun i wr => ∃ k : Nat, k ≤ cnt ∧ i = .int .i64 k ∧ Hid (TabAt wr tb n t (covB f bt o k l) g) ∧ ExtS [tb] w wr) (fun i _ => cnt - (intOf i).toNat)
  case atStart => exact ⟨0, Nat.zero_le _, rfl, HT.out.congr (fun i _ => by unfold covB; rw [if_neg (by omega)]) (fun _ _ => rfl), ExtS.refl _ _⟩
  case round =>
    obtain ⟨k, hk, rfl, HK, hx⟩ := hrel
    by_cases hlt : k < cnt
    · have e1 : covB f bt o k l (o + k) = f (o + k) := by unfold covB; rw [if_neg (by omega)]
      have hc : wr.cell? ⟨tb, o * 2 + k * 2, none⟩ = some (ptV (f (o + k))) := by rw [← e1, ← Nat.add_mul]; exact HK.out.by_cell (by omega)
      have hfz := HK.out.frozen (o * 2 + k * 2)
      have hstep : ∀ u, (∀ b, f (o + k) = some b → bt b < bt l) → u = ptV (some l) → TabAt (wr.setCell ⟨tb, o * 2 + k * 2, none⟩ u) tb n t (covB f bt o (k + 1) l) g := fun u hu e => by
        subst e
        rw [← Nat.add_mul]
        refine (HK.out.set_by (i := o + k) (by omega) (some l)).congr (fun i hi => ?_) (fun _ _ => rfl)
        simp only [covB]
        by_cases ei : i = o + k
        · subst ei; rw [if_pos rfl, if_pos ⟨by omega, by omega, hu⟩]
        · rw [if_neg ei]
          by_cases e2 : o ≤ i ∧ i < o + k ∧ ∀ b, f i = some b → bt b < bt l
          · rw [if_pos e2, if_pos ⟨e2.1, by omega, e2.2.2⟩]
          · rw [if_neg e2, if_neg (fun h => e2 ⟨h.1, by omega, h.2.2⟩)]
      have HS : Hid _ := hstep
      have hll : wr.cell? ⟨l, 0, none⟩ = some (.int .i64 (bt l)) := by
        have := World.block_lt_of_cell? w _ hl
        rw [cellS hx (by simpa using ltb) this]; exact hl
      clear hstep
      cases hf : f (o + k) with
      | none =>
        rw [hf] at hc
        simp only [ptV, Option.map_none] at hc
        go_wp2_with fail
        go_region
        go_wp2_with fail
        refine ⟨⟨k + 1, by omega, by simp, HS.out _ (fun b hb => by rw [hf] at hb; cases hb) rfl, (hx.setCell (.inl (by simp)) _).drew⟩, ?_⟩
        simp only [intOf]; omega
      | some b =>
        rw [hf] at hc
        simp only [ptV, Option.map_some] at hc
        obtain ⟨hb1, hb2⟩ := HB.out (o + k) b (by omega) hf
        have hbc : wr.cell? ⟨b, 0, none⟩ = some (.int .i64 (bt b)) := by
          rw [cellS hx (by simpa using hb1) (World.block_lt_of_cell? w _ hb2)]; exact hb2
        clear hb2
        by_cases hlt2 : bt b < bt l
        · go_wp2_with fail
          go_region
          go_wp2_with fail
          refine ⟨⟨k + 1, by omega, by simp, HS.out _ (fun b' hb' => by rw [hf] at hb'; cases hb'; exact hlt2) rfl, (hx.setCell (.inl (by simp)) _).drew⟩, ?_⟩
          simp only [intOf]; omega
        · go_wp2_with fail
          go_region
          go_wp2_with fail
          refine ⟨⟨k + 1, by omega, by simp, ?_, hx.drew⟩, by simp only [intOf]; omega⟩
          refine HK.out.congr (fun i hi => ?_) (fun _ _ => rfl)
          simp only [covB]
          by_cases ei : i = o + k
          · subst ei
            rw [if_neg (fun h => by have := h.2.2 b hf; omega), if_neg (fun h => by have := h.2.2 b hf; omega)]
          · by_cases e2 : o ≤ i ∧ i < o + k ∧ ∀ b, f i = some b → bt b < bt l
            · rw [if_pos e2, if_pos ⟨e2.1, by omega, e2.2.2⟩]
            · rw [if_neg e2, if_neg (fun h => e2 ⟨h.1, by omega, h.2.2⟩)]
    · obtain rfl : k = cnt := by omega
      go_wp2_with fail
      go_end0
      exact ⟨rfl, HK.out, hx⟩

set_option maxHeartbeats 1000000 in
theorem uncover_any (tb n o cnt cp l : Nat) (u : Option Nat) (t : TypeId) (f g : Nat → Option Nat) (w : World) (hT : TabAt w tb n t f g) (ho : o + cnt ≤ n) (hn : n ≤ 65536) (ltb : l ≠ tb) {cl : Array Value} {tl : TypeId} (hl : w.heap[l]? = some (.cells cl tl (0, 0)))
    (hb : ∀ i b, i < n → f i = some b → b ≠ tb ∧ ∃ c u, w.heap[b]? = some (.cells c u (0, 0))) :
    Calls Tryz.prog 117 #[.slice (some ⟨tb, o * 2, none⟩) cnt cp, .pointer (some ⟨l, 0, none⟩), ptV u] w fun e w' => e = .returned (.tuple #[]) ∧ TabAt w' tb n t (uncB f o cnt l u) g ∧ ExtS [tb] w w' := by
  have HT : Hid (TabAt w tb n t f g) := hT
  have HB : Hid _ := hb
  clear hT hb
  obtain ⟨pu, hvu⟩ : ∃ pu, ptV u = .pointer pu := ⟨_, rfl⟩
  have HU : Hid (ptV u = .pointer pu) := hvu
  rw [hvu]
  clear hvu
  go_enter Tryz.func117, Tryz.ntmps117
  go_wp2_with fail
  go_loopw [9] (fun i wr => ∃ k : Nat, k ≤ cnt ∧ i = .int .i64 k ∧ Hid (TabAt wr tb n t (uncB f o k l u) g) ∧ ExtS [tb] w wr) (fun i _ => cnt - (intOf i).toNat)
  case atStart => exact ⟨0, Nat.zero_le _, rfl, HT.out.congr (fun i _ => by unfold uncB; rw [if_neg (by omega)]) (fun _ _ => rfl), ExtS.refl _ _⟩
  case round =>
    obtain ⟨k, hk, rfl, HK, hx⟩ := hrel
    by_cases hlt : k < cnt
    · have e1 : uncB f o k l u (o + k) = f (o + k) := by unfold uncB; rw [if_neg (by omega)]
      have hc : wr.cell? ⟨tb, o * 2 + k * 2, none⟩ = some (ptV (f (o + k))) := by rw [← e1, ← Nat.add_mul]; exact HK.out.by_cell (by omega)
      have hfz := HK.out.frozen (o * 2 + k * 2)
      have hstep : f (o + k) = some l → TabAt (wr.setCell ⟨tb, o * 2 + k * 2, none⟩ (.pointer pu)) tb n t (uncB f o (k + 1) l u) g := fun hu => by
        rw [← HU.out, ← Nat.add_mul]
        refine (HK.out.set_by (i := o + k) (by omega) u).congr (fun i hi => ?_) (fun _ _ => rfl)
        simp only [uncB]
        by_cases ei : i = o + k
        · subst ei; rw [if_pos rfl, if_pos ⟨by omega, by omega, hu⟩]
        · rw [if_neg ei]
          by_cases e2 : o ≤ i ∧ i < o + k ∧ f i = some l
          · rw [if_pos e2, if_pos ⟨e2.1, by omega, e2.2.2⟩]
          · rw [if_neg e2, if_neg (fun h => e2 ⟨h.1, by omega, h.2.2⟩)]
      have HS : Hid _ := hstep
      have hno : f (o + k) ≠ some l → TabAt wr tb n t (uncB f o (k + 1) l u) g := fun hne => by
        refine HK.out.congr (fun i hi => ?_) (fun _ _ => rfl)
        simp only [uncB]
        by_cases ei : i = o + k
        · subst ei
          rw [if_neg (fun h => hne h.2.2), if_neg (fun h => hne h.2.2)]
        · by_cases e2 : o ≤ i ∧ i < o + k ∧ f i = some l
          · rw [if_pos e2, if_pos ⟨e2.1, by omega, e2.2.2⟩]
          · rw [if_neg e2, if_neg (fun h => e2 ⟨h.1, by omega, h.2.2⟩)]
      have HN : Hid _ := hno
      clear hstep hno
      have hq : ∃ c, (binOp .eql 151 (ptV (f (o + k))) (.pointer (some ⟨l, 0, none⟩))).run Tryz.prog wr = .ok (.bool c) wr ∧ (c = true ↔ f (o + k) = some l) := by
        cases hf : f (o + k) with
        | none => exact ⟨false, by kernel_rfl, by simp⟩
        | some b =>
          by_cases e : b = l
          · subst e
            exact ⟨true, run_eql_ptr_same (P := Tryz.prog) wr (⟨b, 0, none⟩ : Addr) Tryz.underlying151 (by rfl), by simp⟩
          · obtain ⟨hb1, c, u', hb2⟩ := HB.out (o + k) b (by omega) hf
            exact ⟨false, run_eql_ptr_other (P := Tryz.prog) wr (a := ⟨b, 0, none⟩) (b := ⟨l, 0, none⟩) Tryz.underlying151 (by rfl) (by decide) (fun h => e (congrArg Addr.block h)) (hx.heap (by simpa using hb1) hb2) (hx.heap (by simpa using ltb) hl), by simp [e]⟩
      obtain ⟨c, hq, hcl⟩ := hq
      obtain ⟨pb, hvb⟩ : ∃ pb, ptV (f (o + k)) = .pointer pb := ⟨_, rfl⟩
      rw [hvb] at hq hc
      have HC : Hid (c = true ↔ f (o + k) = some l) := hcl
      clear hvb hcl
      cases c with
      | false =>
        go_wp2_with fail
        refine ⟨⟨k + 1, by omega, by simp, HN.out (fun h => by have := HC.out.2 h; cases this), hx⟩, by simp only [intOf]; omega⟩
      | true =>
        go_wp2_with fail
        refine ⟨⟨k + 1, by omega, by simp, HS.out (HC.out.1 rfl), hx.setCell (.inl (by simp)) _⟩, by simp only [intOf]; omega⟩
    · obtain rfl : k = cnt := by omega
      go_wp2_with fail
      go_end0
      exact ⟨rfl, HK.out, hx⟩
end Go.Proofs.YtkfhkhgiojpfoaaGreat.Dr

namespace Go.Proofs.YtkfhkhgiojpfoaaGreat.Dr

set_option maxRecDepth 100000

open Go.RowKit Go.Proofs.YtkfhkhgiojpfoaaGreat Go.Proofs.YtkfhkhgiojpfoaaGreat.Tri

set_option linter.unusedVariables false

def szN : Nat → Nat
  | 0 => 65536
  | _ => 256
def beN (k : Nat) : Nat := 16 - 8 * k
/-- An address's place, among all of the tables' of a level. -/
def plN (k A : Nat) : Nat := A / 2 ^ beN k

theorem szN_pos (k : Nat) : 0 < szN k := by unfold szN; split <;> omega

theorem and_16 (x : Nat) (hx : x < 4294967296) : bits .and .i64 (x : Int) 65535 = ((x % 65536 : Nat) : Int) := by
  have h1 : (BitVec.ofInt 64 65535).toNat = 2 ^ 16 - 1 := by decide
  have key : (BitVec.ofInt 64 (x : Int) &&& BitVec.ofInt 64 65535).toNat = ((x : Int) % ((2 ^ 64 : Nat) : Int)).toNat % 2 ^ 16 := by
    rw [BitVec.toNat_and, BitVec.toNat_ofInt, h1, Nat.and_two_pow_sub_one_eq_mod]
  show IntKind.i64.wrap ((BitVec.ofInt 64 (x : Int) &&& BitVec.ofInt 64 65535).toNat : Nat) = _
  rw [key, IntKind.wrap_i64]
  omega

theorem and_8 (x : Nat) (hx : x < 4294967296) : bits .and .i64 (x : Int) 255 = ((x % 256 : Nat) : Int) := by
  have h1 : (BitVec.ofInt 64 255).toNat = 2 ^ 8 - 1 := by decide
  have key : (BitVec.ofInt 64 (x : Int) &&& BitVec.ofInt 64 255).toNat = ((x : Int) % ((2 ^ 64 : Nat) : Int)).toNat % 2 ^ 8 := by
    rw [BitVec.toNat_and, BitVec.toNat_ofInt, h1, Nat.and_two_pow_sub_one_eq_mod]
  show IntKind.i64.wrap ((BitVec.ofInt 64 (x : Int) &&& BitVec.ofInt 64 255).toNat : Nat) = _
  rw [key, IntKind.wrap_i64]
  omega

theorem index_any (k A cp : Nat) (hk : k ≤ 2) (hA : A < 4294967296) (v : Option Addr) (w : World) :
    Calls Tryz.prog 130 #[.slice v (szN k) cp, .int .u32 A, .int .i64 (beN k)] w fun e w' => e = .returned (.int .i64 ((plN k A % szN k : Nat) : Int)) ∧ w' = w := by
  match k, hk with
  | 0, _ =>
    have hb := and_16 (A / 65536) (by omega)
    simp only [szN, beN, plN]
    go_enter Tryz.func130, Tryz.ntmps130
    go_wp2_with fail
    go_ret
    exact ⟨by simpa using hb, rfl⟩
  | 1, _ =>
    have hb := and_8 (A / 256) (by omega)
    simp only [szN, beN, plN]
    go_enter Tryz.func130, Tryz.ntmps130
    go_wp2_with fail
    go_ret
    exact ⟨by simpa using hb, rfl⟩
  | 2, _ =>
    have hb := and_8 A (by omega)
    simp only [szN, beN, plN]
    go_enter Tryz.func130, Tryz.ntmps130
    go_wp2_with fail
    go_ret
    exact ⟨by simp, rfl⟩

theorem spot_any (k A tb cp : Nat) (hk : k ≤ 2) (hA : A < 4294967296) (w : World) :
    Calls Tryz.prog 103 #[.slice (some ⟨tb, 0, none⟩) (szN k) cp, .int .u32 A, .int .i64 (beN k)] w fun e w' => e = .returned (.pointer (some ⟨tb, plN k A % szN k * 2, none⟩)) ∧ w' = w := by
  have c := fun w => index_any k A cp hk hA (some ⟨tb, 0, none⟩) w
  have hi := Nat.mod_lt (plN k A) (szN_pos k)
  generalize plN k A % szN k = i at *
  generalize hn : szN k = n at *
  generalize (beN k : Int) = be at *
  clear hn
  have hi0 : (0 : Int) ≤ (i : Int) := Int.natCast_nonneg _
  have hi1 : (i : Int) < (n : Int) := by omega
  go_enter Tryz.func103, Tryz.ntmps103
  go_wp2_with (go_at_call 130; refine (c _).mono ?_; rintro e w' ⟨rfl, rfl⟩)
  go_ret
  exact ⟨rfl, rfl⟩

def tabV (o : Option Nat) : Value := match o with
  | none => .slice none 0 0
  | some b => .slice (some ⟨b, 0, none⟩) 256 256

theorem below_any (tb off : Nat) (o : Option Nat) (w : World) (h : w.cell? ⟨tb, off + 1, none⟩ = some (ptV o)) :
    Calls Tryz.prog 104 #[.pointer (some ⟨tb, off, none⟩)] w fun e w' => e = .returned (tabV o) ∧ w' = w := by
  cases o with
  | none =>
    simp only [ptV, tabV, Option.map_none] at *
    go_enter Tryz.func104, Tryz.ntmps104
    go_wp2_with fail
    go_ret
    exact ⟨rfl, rfl⟩
  | some b =>
    simp only [ptV, tabV, Option.map_some] at *
    go_enter Tryz.func104, Tryz.ntmps104
    go_wp2_with fail
    go_ret
    exact ⟨rfl, rfl⟩

theorem ends_any (a n be : Int) (w : World) (h0 : 0 ≤ be) (h1 : be ≤ 32) :
    Calls Tryz.prog 142 #[.agg #[.int .u32 a, .int .i64 n], .int .i64 be] w fun e w' => e = .returned (.bool (decide (n > 32 - be))) ∧ Ext w w' := by
  have hx0 : Ext w (w.alloc (.cells #[.int .u32 a, .int .i64 n] 42)) := (Ext.refl w).alloc _
  go_enter Tryz.func142, Tryz.ntmps142
  go_wp2_with fail
  go_ret
  exact ⟨rfl, hx0⟩
end Go.Proofs.YtkfhkhgiojpfoaaGreat.Dr
