/- Plain facts on trees of prefixes: what lies in them, in order; a prefix put in, taken out; those that cover one. -/
import Derived.Test.YtlnmdlachfnmkaaTrieP
namespace Go.Proofs.Ytlnmdlachfnmkaa.Tri
open Go.RowKit Go.Proofs.Ytlnmdlachfnmkaa

/-- A tree: a prefix, whether it is there, its number, both halves. -/
inductive Sh where
  | nil : Sh
  | node (q : PX) (th : Bool) (u : Int) (l r : Sh) : Sh

def Sh.isNil : Sh → Bool
  | .nil => true
  | .node .. => false

theorem Sh.isNil_iff {t : Sh} : t.isNil = true ↔ t = .nil := by cases t <;> simp [Sh.isNil]

abbrev Row := List (PX × Int)

def own (q : PX) (th : Bool) (u : Int) : Row := if th then [(q, u)] else []

def toL : Sh → Row
  | .nil => []
  | .node q th u l r => own q th u ++ (toL l ++ toL r)

def prefs : Sh → List PX
  | .nil => []
  | .node q _ _ l r => q :: (prefs l ++ prefs r)

def rootU (Q : PX) (i : Int) : Sh → Prop
  | .nil => True
  | .node q _ _ _ _ => Und Q i q

def WF : Sh → Prop
  | .nil => True
  | .node q th u l r => Vp q ∧ (th = false → u = 0 ∧ l ≠ .nil ∧ r ≠ .nil) ∧ rootU q 0 l ∧ rootU q 1 r ∧ WF l ∧ WF r

theorem mem_own {q : PX} {th : Bool} {u : Int} {x : PX × Int} : x ∈ own q th u ↔ th = true ∧ x = (q, u) := by
  unfold own; cases th <;> simp

theorem mem_prefs {t : Sh} {x : PX × Int} (h : x ∈ toL t) : x.1 ∈ prefs t := by
  induction t with
  | nil => simp [toL] at h
  | node q th u l r ihl ihr =>
    simp only [toL, List.mem_append, mem_own] at h
    simp only [prefs, List.mem_cons, List.mem_append]
    rcases h with ⟨_, rfl⟩ | h | h
    · exact .inl rfl
    · exact .inr (.inl (ihl h))
    · exact .inr (.inr (ihr h))

theorem all_wf {t : Sh} (h : WF t) : (∀ x ∈ prefs t, Vp x) ∧ (∀ Q i, Vp Q → rootU Q i t → ∀ x ∈ prefs t, Und Q i x) := by
  induction t with
  | nil => exact ⟨fun x hx => by simp [prefs] at hx, fun Q i _ _ x hx => by simp [prefs] at hx⟩
  | node q th u l r ihl ihr =>
    obtain ⟨hq, _, rl, rr, wl, wr⟩ := h
    obtain ⟨vl, ul⟩ := ihl wl
    obtain ⟨vr, ur⟩ := ihr wr
    have hv : ∀ x ∈ prefs (.node q th u l r), Vp x := by
      intro x hx
      simp only [prefs, List.mem_cons, List.mem_append] at hx
      rcases hx with rfl | hx | hx
      · exact hq
      · exact vl x hx
      · exact vr x hx
    refine ⟨hv, fun Q i hQ hr x hx => ?_⟩
    have hx' := hv x hx
    simp only [prefs, List.mem_cons, List.mem_append] at hx
    rcases hx with rfl | hx | hx
    · exact hr
    · exact und_trans hQ hq hx' hr (ul q 0 hq rl x hx).2.1
    · exact und_trans hQ hq hx' hr (ur q 1 hq rr x hx).2.1

theorem WF.vp {t : Sh} (h : WF t) {x : PX × Int} (hx : x ∈ toL t) : Vp x.1 := (all_wf h).1 _ (mem_prefs hx)

theorem rootU_of {Q : PX} {i : Int} {t : Sh} (h : ∀ x ∈ prefs t, Und Q i x) : rootU Q i t := by
  cases t with
  | nil => trivial
  | node q th u l r => exact h q (by simp [prefs])

/-- In order, each once. -/
def Srt (L : Row) : Prop := L.Pairwise fun x y => bef x.1 y.1 = true

theorem srt_toL {t : Sh} (h : WF t) : Srt (toL t) := by
  induction t with
  | nil => exact List.Pairwise.nil
  | node q th u l r ihl ihr =>
    have hw := h
    obtain ⟨hq, _, rl, rr, wl, wr⟩ := h
    unfold toL Srt
    have hl : ∀ x ∈ toL l, Und q 0 x.1 ∧ Vp x.1 := fun x hx => ⟨(all_wf wl).2 q 0 hq rl _ (mem_prefs hx), wl.vp hx⟩
    have hr : ∀ x ∈ toL r, Und q 1 x.1 ∧ Vp x.1 := fun x hx => ⟨(all_wf wr).2 q 1 hq rr _ (mem_prefs hx), wr.vp hx⟩
    have strict : ∀ {i : Int} {x : PX}, Und q i x → Vp x → bef q x = true := fun hu hv => cov_bef hq hv hu.2.1 (by intro e; have := hu.1; rw [← e] at this; omega)
    rw [List.pairwise_append, List.pairwise_append]
    refine ⟨?_, ⟨ihl wl, ihr wr, ?_⟩, ?_⟩
    · unfold own; split
      · exact List.pairwise_singleton _ _
      · exact List.Pairwise.nil
    · intro x hx y hy
      rw [bef_iff]
      exact .inl (und_ord hq (hl x hx).2 (hr y hy).2 (hl x hx).1 (hr y hy).1)
    · intro x hx y hy
      obtain ⟨_, rfl⟩ := mem_own.1 hx
      rcases List.mem_append.1 hy with hy | hy
      · exact strict (hl y hy).1 (hl y hy).2
      · exact strict (hr y hy).1 (hr y hy).2

theorem srt_ext : ∀ {L M : Row}, Srt L → Srt M → (∀ x, x ∈ L ↔ x ∈ M) → L = M
  | [], [], _, _, _ => rfl
  | [], y :: M, _, _, h => by have := (h y).2 (by simp); simp at this
  | x :: L, [], _, _, h => by have := (h x).1 (by simp); simp at this
  | x :: L, y :: M, hL, hM, h => by
    obtain ⟨hx, hL'⟩ := List.pairwise_cons.1 hL
    obtain ⟨hy, hM'⟩ := List.pairwise_cons.1 hM
    have exy : x = y := by
      have h1 := (h x).1 (by simp)
      have h2 := (h y).2 (by simp)
      rcases List.mem_cons.1 h1 with e | h1
      · exact e
      · rcases List.mem_cons.1 h2 with e | h2
        · exact e.symm
        · have a := hy x h1
          have b := hx y h2
          have := bef_trans a b
          rw [bef_irr] at this; cases this
    subst exy
    congr 1
    refine srt_ext hL' hM' fun z => ?_
    have hz := h z
    simp only [List.mem_cons] at hz
    constructor
    · intro h1
      rcases hz.1 (.inr h1) with e | h2
      · subst e; have := hx z h1; rw [bef_irr] at this; cases this
      · exact h2
    · intro h1
      rcases hz.2 (.inr h1) with e | h2
      · subst e; have := hy z h1; rw [bef_irr] at this; cases this
      · exact h2

/-- One key, one number. -/
theorem srt_key {L : Row} (h : Srt L) {x y : PX × Int} (hx : x ∈ L) (hy : y ∈ L) (e : x.1 = y.1) : x = y := by
  induction L with
  | nil => simp at hx
  | cons z L ih =>
    obtain ⟨hz, hL⟩ := List.pairwise_cons.1 h
    rcases List.mem_cons.1 hx with e1 | hx' <;> rcases List.mem_cons.1 hy with e2 | hy'
    · rw [e1, e2]
    · have := hz y hy'; rw [← e1, e, bef_irr] at this; cases this
    · have := hz x hx'; rw [← e2, e, bef_irr] at this; cases this
    · exact ih hL hx' hy'

/-! A prefix put in. -/

def leaf (p : PX) (v : Int) : Sh := .node p true v .nil .nil

def overS (t : Sh) (q m p : PX) (v : Int) : Sh :=
  if m = p then (if halfV q.1 m.2 = 0 then .node m true v t .nil else .node m true v .nil t)
  else if halfV q.1 m.2 = 0 then .node m false 0 t (leaf p v) else .node m false 0 (leaf p v) t

def putS : Sh → PX → Int → Sh
  | .nil, p, v => leaf p v
  | .node q th u l r, p, v =>
    if cov q p = true then
      if q = p then .node q true v l r
      else if halfV p.1 q.2 = 0 then .node q th u (putS l p v) r else .node q th u l (putS r p v)
    else overS (.node q th u l r) q (com q p) p v

theorem putS_ne (t : Sh) (p : PX) (v : Int) : putS t p v ≠ .nil := by
  cases t with
  | nil => simp [putS, leaf]
  | node q th u l r =>
    simp only [putS, overS]
    repeat' split
    all_goals (intro h; cases h)

theorem not_half0 {a n : Int} (h : ¬ halfV a n = 0) : halfV a n = 1 := by rcases half_01 a n with h1 | h1 <;> simp_all

theorem com_ne {q p : PX} (hq : Vp q) (hp : Vp p) (h : ¬ cov q p = true) : com q p ≠ q := fun e => h (by have := (com_spec hq hp).2.2.1; rwa [e] at this)

theorem put_root {t : Sh} {p : PX} {v : Int} (h : WF t) (hp : Vp p) {Q : PX} {i : Int} (hQ : Vp Q) (hr : rootU Q i t) (hu : Und Q i p) : rootU Q i (putS t p v) := by
  cases t with
  | nil => exact hu
  | node q th u l r =>
    have hq : Vp q := h.1
    have hc : Und Q i (com q p) := und_com hQ hq hp hr hu
    simp only [putS, overS]
    repeat' split
    all_goals first | exact hr | exact hc

theorem put_wf {t : Sh} {p : PX} {v : Int} (h : WF t) (hp : Vp p) : WF (putS t p v) := by
  induction t with
  | nil => exact ⟨hp, by simp, trivial, trivial, trivial, trivial⟩
  | node q th u l r ihl ihr =>
    have hw := h
    obtain ⟨hq, hf, rl, rr, wl, wr⟩ := h
    simp only [putS]
    split
    · rename_i hc
      split
      · exact ⟨hq, by simp, rl, rr, wl, wr⟩
      · rename_i hne
        have hu := und_half hq hp hc hne
        split
        · rename_i h0
          rw [h0] at hu
          exact ⟨hq, fun e => ⟨(hf e).1, putS_ne _ _ _, (hf e).2.2⟩, put_root wl hp hq rl hu, rr, ihl wl, wr⟩
        · rename_i h0
          rw [not_half0 h0] at hu
          exact ⟨hq, fun e => ⟨(hf e).1, (hf e).2.1, putS_ne _ _ _⟩, rl, put_root wr hp hq rr hu, wl, ihr wr⟩
    · rename_i hc
      obtain ⟨cv, cq, cp, _, ch, _⟩ := com_spec hq hp
      have hne := com_ne hq hp hc
      have huq := und_half cv hq cq hne
      unfold overS
      split
      · rename_i e
        split
        · rename_i h0; rw [h0] at huq
          exact ⟨cv, by simp, huq, trivial, hw, trivial⟩
        · rename_i h0; rw [not_half0 h0] at huq
          exact ⟨cv, by simp, trivial, huq, trivial, hw⟩
      · rename_i hnp
        have hup := und_half cv hp cp hnp
        have hd := ch hne hnp
        have hlf : WF (leaf p v) := ⟨hp, by simp, trivial, trivial, trivial, trivial⟩
        split
        · rename_i h0; rw [h0] at huq
          have h1 : halfV p.1 (com q p).2 = 1 := not_half0 (fun e => hd (by rw [h0, e]))
          rw [h1] at hup
          exact ⟨cv, fun _ => ⟨rfl, by simp, by simp [leaf]⟩, huq, hup, hw, hlf⟩
        · rename_i h0; rw [not_half0 h0] at huq
          have h1 : halfV p.1 (com q p).2 = 0 := by
            rcases half_01 p.1 (com q p).2 with h | h
            · exact h
            · exact absurd (by rw [not_half0 h0, h]) hd
          rw [h1] at hup
          exact ⟨cv, fun _ => ⟨rfl, by simp [leaf], by simp⟩, hup, huq, hlf, hw⟩

theorem put_mem {t : Sh} {p : PX} {v : Int} (h : WF t) (hp : Vp p) (x : PX × Int) : x ∈ toL (putS t p v) ↔ x = (p, v) ∨ (x ∈ toL t ∧ x.1 ≠ p) := by
  induction t with
  | nil => simp [putS, leaf, toL, own]
  | node q th u l r ihl ihr =>
    have hw := h
    obtain ⟨hq, hf, rl, rr, wl, wr⟩ := h
    have hl : x ∈ toL l → Und q 0 x.1 := fun hx => (all_wf wl).2 q 0 hq rl _ (mem_prefs hx)
    have hr : x ∈ toL r → Und q 1 x.1 := fun hx => (all_wf wr).2 q 1 hq rr _ (mem_prefs hx)
    simp only [putS]
    split
    · rename_i hc
      split
      · rename_i e
        subst e
        simp only [toL, List.mem_append, mem_own]
        have n1 : x ∈ toL l → x.1 ≠ q := fun hx e => by have := (hl hx).1; rw [e] at this; omega
        have n2 : x ∈ toL r → x.1 ≠ q := fun hx e => by have := (hr hx).1; rw [e] at this; omega
        constructor
        · rintro (⟨_, rfl⟩ | hx | hx)
          · exact .inl rfl
          · exact .inr ⟨.inr (.inl hx), n1 hx⟩
          · exact .inr ⟨.inr (.inr hx), n2 hx⟩
        · rintro (rfl | ⟨⟨_, rfl⟩ | hx | hx, hn⟩)
          · exact .inl (by simp)
          · exact absurd rfl hn
          · exact .inr (.inl hx)
          · exact .inr (.inr hx)
      · rename_i hne
        have hu := und_half hq hp hc hne
        have nq : (th = true ∧ x = (q, u)) → x.1 ≠ p := by rintro ⟨_, rfl⟩; exact hne
        split
        · rename_i h0
          rw [h0] at hu
          have n2 : x ∈ toL r → x.1 ≠ p := fun hx e => by have := und_one (hr hx) (by rw [e]; exact hu); omega
          simp only [toL, List.mem_append, mem_own, ihl wl]
          constructor
          · rintro (hx | (rfl | ⟨hx, hn⟩) | hx)
            · exact .inr ⟨.inl hx, nq hx⟩
            · exact .inl rfl
            · exact .inr ⟨.inr (.inl hx), hn⟩
            · exact .inr ⟨.inr (.inr hx), n2 hx⟩
          · rintro (rfl | ⟨hx | hx | hx, hn⟩)
            · exact .inr (.inl (.inl rfl))
            · exact .inl hx
            · exact .inr (.inl (.inr ⟨hx, hn⟩))
            · exact .inr (.inr hx)
        · rename_i h0
          rw [not_half0 h0] at hu
          have n1 : x ∈ toL l → x.1 ≠ p := fun hx e => by have := und_one (hl hx) (by rw [e]; exact hu); omega
          simp only [toL, List.mem_append, mem_own, ihr wr]
          constructor
          · rintro (hx | hx | (rfl | ⟨hx, hn⟩))
            · exact .inr ⟨.inl hx, nq hx⟩
            · exact .inr ⟨.inr (.inl hx), n1 hx⟩
            · exact .inl rfl
            · exact .inr ⟨.inr (.inr hx), hn⟩
          · rintro (rfl | ⟨hx | hx | hx, hn⟩)
            · exact .inr (.inr (.inl rfl))
            · exact .inl hx
            · exact .inr (.inl hx)
            · exact .inr (.inr (.inr ⟨hx, hn⟩))
    · rename_i hc
      have hn : x ∈ toL (.node q th u l r) → x.1 ≠ p := by
        intro hx e
        simp only [toL, List.mem_append, mem_own] at hx
        apply hc
        rw [← e]
        rcases hx with ⟨_, rfl⟩ | hx | hx
        · exact cov_refl _
        · exact (hl hx).2.1
        · exact (hr hx).2.1
      generalize Sh.node q th u l r = t at *
      have key : x ∈ toL (overS t q (com q p) p v) ↔ x = (p, v) ∨ x ∈ toL t := by
        unfold overS
        split
        · rename_i e
          split <;> simp [toL, mem_own, e]
        · split
          · simp [toL, leaf, mem_own, or_comm]
          · simp [toL, leaf, mem_own]
      rw [key]
      constructor
      · rintro (h | h)
        · exact .inl h
        · exact .inr ⟨h, hn h⟩
      · rintro (h | h)
        · exact .inl h
        · exact .inr h.1

/-! A prefix taken out. -/

def needS : Sh → Sh
  | .nil => .nil
  | .node q th u l r => if th then .node q th u l r else if l.isNil then r else if r.isNil then l else .node q th u l r

def cutS : Sh → PX → Sh
  | .nil, _ => .nil
  | .node q th u l r, p => if q = p then needS (.node q false 0 l r) else if halfV p.1 q.2 = 0 then needS (.node q th u (cutS l p) r) else needS (.node q th u l (cutS r p))

/-- The way down ends at the prefix. -/
def pathS : Sh → PX → Bool
  | .nil, _ => false
  | .node q _ _ l r, p => if q = p then true else if halfV p.1 q.2 = 0 then pathS l p else pathS r p

theorem path_of {t : Sh} {x : PX × Int} (h : WF t) (hx : x ∈ toL t) : pathS t x.1 = true := by
  induction t with
  | nil => simp [toL] at hx
  | node q th u l r ihl ihr =>
    obtain ⟨hq, hf, rl, rr, wl, wr⟩ := h
    simp only [toL, List.mem_append, mem_own] at hx
    simp only [pathS]
    split
    · rfl
    · rename_i hne
      rcases hx with ⟨_, rfl⟩ | hx | hx
      · exact absurd rfl hne
      · have := (all_wf wl).2 q 0 hq rl _ (mem_prefs hx)
        rw [if_pos this.2.2]; exact ihl wl hx
      · have := (all_wf wr).2 q 1 hq rr _ (mem_prefs hx)
        rw [if_neg (by rw [this.2.2]; omega)]; exact ihr wr hx

theorem need_toL (q : PX) (th : Bool) (u : Int) (l r : Sh) : toL (needS (.node q th u l r)) = toL (.node q th u l r) := by
  simp only [needS]
  split
  · rfl
  · rename_i ht
    have ht : th = false := by simpa using ht
    subst ht
    split
    · rename_i hl
      rw [Sh.isNil_iff.1 hl]; simp [toL, own]
    · split
      · rename_i hr
        rw [Sh.isNil_iff.1 hr]; simp [toL, own]
      · rfl

theorem need_prefs (q : PX) (th : Bool) (u : Int) (l r : Sh) : ∀ x ∈ prefs (needS (.node q th u l r)), x ∈ prefs (.node q th u l r) := by
  intro x
  simp only [needS]
  split
  · exact id
  · split
    · simp only [prefs, List.mem_cons, List.mem_append]; exact fun h => .inr (.inr h)
    · split
      · simp only [prefs, List.mem_cons, List.mem_append]; exact fun h => .inr (.inl h)
      · exact id

theorem need_wf {q : PX} {th : Bool} {u : Int} {l r : Sh} (hq : Vp q) (hf : th = false → u = 0) (rl : rootU q 0 l) (rr : rootU q 1 r) (wl : WF l) (wr : WF r) : WF (needS (.node q th u l r)) := by
  simp only [needS]
  split
  · rename_i ht
    exact ⟨hq, by simp [ht], rl, rr, wl, wr⟩
  · rename_i ht
    split
    · exact wr
    · rename_i hl
      split
      · exact wl
      · rename_i hr
        refine ⟨hq, fun e => ⟨hf e, ?_, ?_⟩, rl, rr, wl, wr⟩
        · intro e2; exact hl (Sh.isNil_iff.2 e2)
        · intro e2; exact hr (Sh.isNil_iff.2 e2)

theorem cut_prefs {t : Sh} {p : PX} : ∀ x ∈ prefs (cutS t p), x ∈ prefs t := by
  induction t with
  | nil => exact fun x h => h
  | node q th u l r ihl ihr =>
    intro x hx
    simp only [cutS] at hx
    split at hx
    · have := need_prefs _ _ _ _ _ _ hx
      exact this
    · split at hx
      · have := need_prefs _ _ _ _ _ _ hx
        simp only [prefs, List.mem_cons, List.mem_append] at this ⊢
        rcases this with h | h | h
        · exact .inl h
        · exact .inr (.inl (ihl x h))
        · exact .inr (.inr h)
      · have := need_prefs _ _ _ _ _ _ hx
        simp only [prefs, List.mem_cons, List.mem_append] at this ⊢
        rcases this with h | h | h
        · exact .inl h
        · exact .inr (.inl h)
        · exact .inr (.inr (ihr x h))

theorem cut_wf {t : Sh} {p : PX} (h : WF t) : WF (cutS t p) := by
  induction t with
  | nil => trivial
  | node q th u l r ihl ihr =>
    obtain ⟨hq, hf, rl, rr, wl, wr⟩ := h
    simp only [cutS]
    split
    · exact need_wf hq (fun _ => rfl) rl rr wl wr
    · split
      · exact need_wf hq (fun e => (hf e).1) (rootU_of fun x hx => (all_wf wl).2 q 0 hq rl x (cut_prefs x hx)) rr (ihl wl) wr
      · exact need_wf hq (fun e => (hf e).1) rl (rootU_of fun x hx => (all_wf wr).2 q 1 hq rr x (cut_prefs x hx)) wl (ihr wr)

theorem cut_mem {t : Sh} {p : PX} (h : WF t) (hp : pathS t p = true) (x : PX × Int) : x ∈ toL (cutS t p) ↔ x ∈ toL t ∧ x.1 ≠ p := by
  induction t with
  | nil => simp [cutS, toL]
  | node q th u l r ihl ihr =>
    obtain ⟨hq, hf, rl, rr, wl, wr⟩ := h
    have hl : x ∈ toL l → Und q 0 x.1 := fun hx => (all_wf wl).2 q 0 hq rl _ (mem_prefs hx)
    have hr : x ∈ toL r → Und q 1 x.1 := fun hx => (all_wf wr).2 q 1 hq rr _ (mem_prefs hx)
    simp only [cutS]
    simp only [pathS] at hp
    split
    · rename_i e
      subst e
      rw [need_toL]
      have n1 : x ∈ toL l → x.1 ≠ q := fun hx e => by have := (hl hx).1; rw [e] at this; omega
      have n2 : x ∈ toL r → x.1 ≠ q := fun hx e => by have := (hr hx).1; rw [e] at this; omega
      simp only [toL, List.mem_append, mem_own]
      constructor
      · rintro (⟨h, _⟩ | hx | hx)
        · cases h
        · exact ⟨.inr (.inl hx), n1 hx⟩
        · exact ⟨.inr (.inr hx), n2 hx⟩
      · rintro ⟨⟨_, rfl⟩ | hx | hx, hn⟩
        · exact absurd rfl hn
        · exact .inr (.inl hx)
        · exact .inr (.inr hx)
    · rename_i hne
      rw [if_neg hne] at hp
      have nq : (th = true ∧ x = (q, u)) → x.1 ≠ p := by rintro ⟨_, rfl⟩; exact hne
      split
      · rename_i h0
        rw [if_pos h0] at hp
        have n2 : x ∈ toL r → x.1 ≠ p := fun hx e => by have := (hr hx).2.2; rw [e, h0] at this; omega
        rw [need_toL]
        simp only [toL, List.mem_append, mem_own, ihl wl hp]
        constructor
        · rintro (hx | ⟨hx, hn⟩ | hx)
          · exact ⟨.inl hx, nq hx⟩
          · exact ⟨.inr (.inl hx), hn⟩
          · exact ⟨.inr (.inr hx), n2 hx⟩
        · rintro ⟨hx | hx | hx, hn⟩
          · exact .inl hx
          · exact .inr (.inl ⟨hx, hn⟩)
          · exact .inr (.inr hx)
      · rename_i h0
        rw [if_neg h0] at hp
        have n1 : x ∈ toL l → x.1 ≠ p := fun hx e => by have := (hl hx).2.2; rw [e, not_half0 h0] at this; omega
        rw [need_toL]
        simp only [toL, List.mem_append, mem_own, ihr wr hp]
        constructor
        · rintro (hx | hx | ⟨hx, hn⟩)
          · exact ⟨.inl hx, nq hx⟩
          · exact ⟨.inr (.inl hx), n1 hx⟩
          · exact ⟨.inr (.inr hx), hn⟩
        · rintro ⟨hx | hx | hx, hn⟩
          · exact .inl hx
          · exact .inr (.inl hx)
          · exact .inr (.inr ⟨hx, hn⟩)

/-! Those that cover a prefix. -/

def coversS : Sh → PX → Row
  | .nil, _ => []
  | .node q th u l r, p => if cov q p = true then own q th u ++ (if halfV p.1 q.2 = 0 then coversS l p else coversS r p) else []

theorem covers_toL {t : Sh} {p : PX} (h : WF t) (hp : Vp p) : coversS t p = (toL t).filter fun x => cov x.1 p := by
  induction t with
  | nil => rfl
  | node q th u l r ihl ihr =>
    obtain ⟨hq, hf, rl, rr, wl, wr⟩ := h
    have hl : ∀ x ∈ toL l, Und q 0 x.1 ∧ Vp x.1 := fun x hx => ⟨(all_wf wl).2 q 0 hq rl _ (mem_prefs hx), wl.vp hx⟩
    have hr : ∀ x ∈ toL r, Und q 1 x.1 ∧ Vp x.1 := fun x hx => ⟨(all_wf wr).2 q 1 hq rr _ (mem_prefs hx), wr.vp hx⟩
    simp only [coversS, toL, List.filter_append]
    split
    · rename_i hc
      have e0 : (own q th u).filter (fun x => cov x.1 p) = own q th u := by
        refine List.filter_eq_self.2 fun x hx => ?_
        obtain ⟨_, rfl⟩ := mem_own.1 hx
        exact hc
      rw [e0]
      congr 1
      split
      · rename_i h0
        rw [ihl wl]
        have e : (toL r).filter (fun x => cov x.1 p) = [] := by
          refine List.filter_eq_nil_iff.2 fun x hx hcx => ?_
          have := (und_trans hq (hr x hx).2 hp (hr x hx).1 hcx).2.2
          rw [h0] at this; omega
        rw [e, List.append_nil]
      · rename_i h0
        rw [ihr wr]
        have e : (toL l).filter (fun x => cov x.1 p) = [] := by
          refine List.filter_eq_nil_iff.2 fun x hx hcx => ?_
          have := (und_trans hq (hl x hx).2 hp (hl x hx).1 hcx).2.2
          rw [not_half0 h0] at this; omega
        rw [e, List.nil_append]
    · rename_i hc
      have e : ∀ x ∈ own q th u ++ (toL l ++ toL r), ¬ cov x.1 p = true := by
        intro x hx hcx
        apply hc
        simp only [List.mem_append, mem_own] at hx
        rcases hx with ⟨_, rfl⟩ | hx | hx
        · exact hcx
        · exact cov_trans (hl x hx).1.2.1 hcx
        · exact cov_trans (hr x hx).1.2.1 hcx
      rw [← List.filter_append, ← List.filter_append]
      exact (List.filter_eq_nil_iff.2 e).symm

theorem toL_ne {t : Sh} (h : WF t) (hn : t ≠ .nil) : toL t ≠ [] := by
  induction t with
  | nil => exact absurd rfl hn
  | node q th u l r ihl ihr =>
    obtain ⟨hq, hf, rl, rr, wl, wr⟩ := h
    cases th with
    | true => simp [toL, own]
    | false =>
      have := ihl wl (hf rfl).2.1
      simp [toL, own, this]
end Go.Proofs.Ytlnmdlachfnmkaa.Tri
