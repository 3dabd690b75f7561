/- A statement that leaves its order open, in which literals are made ([]T{..}, new blocks) between calls: one walk serves every order. What is made is told when it may come up ('say') and is there ('make') when all that may come up else has come up; each call is walked from every later world, so that it does not matter which blocks were made ahead of it. -/
import Derived.Test.YtdkmakjjcfkfaaaGrow2
namespace Go.Proofs.Ytdkmakjjcfkfaaa
open Go.RowKit
set_option linter.unusedVariables false

section
variable {P : Program} {ops : Array Oper} {Q : Exit → Act → World → Prop}

/-- Neither looks at the other's slot, and the slots are two. -/
def Ap (ops : Array Oper) (x y : Oper) : Prop := (∀ d, x.dst = some d → d ∉ y.looksAt ops) ∧ (∀ d, x.dst = some d → y.dst ≠ some d) ∧ (∀ d, y.dst = some d → d ∉ x.looksAt ops)
theorem Ap.symm {x y : Oper} (h : Ap ops x y) : Ap ops y x := ⟨h.2.2, fun d hd hx => h.2.1 d hx hd, h.1⟩

/-- In this state, whatever the world is, the operation makes a new block and yields what f says of its number. -/
structure Makes (P : Program) (ops : Array Oper) (o : Oper) (obj : Obj) (f : Nat → Value) (a : Act) : Prop where
  wanted : Region.wanted o (yielded ops a.tmps) = true
  run : ∀ w, (execOp a.eval o).run P w = .ok (.value (f w.heap.size)) (w.alloc obj)

theorem Makes.put {o : Oper} {obj : Obj} {f : Nat → Value} {a : Act} (h : Makes P ops o obj f a) (hs : ∀ cs b, o.op ≠ .select cs b) {dst : Option Tmp} {v : Value} (hd : ∀ d, dst = some d → d ∉ o.looksAt ops) : Makes P ops o obj f (a.put dst v) :=
  ⟨by rw [wanted_put o a dst v hd]; exact h.wanted, fun w => by rw [execOp_put o hs a dst v hd]; exact h.run w⟩

theorem Makes.one {o : Oper} {obj obj' : Obj} {f f' : Nat → Value} {a : Act} (h : Makes P ops o obj f a) (k : Makes P ops o obj' f' a) (w0 : World) : obj = obj' ∧ ∀ g, f g = f' g := by
  have e : ∀ w : World, f w.heap.size = f' w.heap.size ∧ w.alloc obj = w.alloc obj' := fun w => by
    have h1 := (h.run w).symm.trans (k.run w)
    injection h1 with h2 h3
    injection h2 with h4
    exact ⟨h4, h3⟩
  refine ⟨?_, fun g => ?_⟩
  · have h1 := congrArg World.heap (e w0).2
    have h2 : w0.heap.push obj = w0.heap.push obj' := h1
    have h3 := congrArg (fun x : Array Obj => x[w0.heap.size]?) h2
    simpa using h3
  · have h1 := (e { w0 with heap := Array.replicate g obj }).1
    simpa using h1

/-- The walk. (i, 0): a read; (i, 1): a call, from every later world; (i, 3): what will be made is told; (i, 2): it is there; (i, 4): what changes the world while nothing is told. -/
def wpW (R : World → World → Prop) (B : Nat) (P : Program) (ops : Array Oper) (Q : Exit → Act → World → Prop) : List (Nat × Nat) → Act → World → Prop
  | [], a, W => Q .normal a W
  | (i, k) :: rest, a, W =>
    match ops[i]? with
    | none => False
    | some o =>
      match k with
      | 0 => (Region.wanted o (yielded ops a.tmps) = true ∧ ∃ v, (∀ w', R W w' → (execOp a.eval o).run P w' = .ok (.value v) w') ∧ wpW R B P ops Q rest (a.put o.dst v) W) ∨
        (Region.wanted o (yielded ops a.tmps) = false ∧ wpW R B P ops Q rest (a.put o.dst undef) W)
      | 1 => Region.wanted o (yielded ops a.tmps) = true ∧ ∀ W', Ext W W' → o.wp P a W' (fun a' w' => Ext W' w' ∧ wpW R B P ops Q rest a' w') Q
      | 2 => ∃ obj f, Makes P ops o obj f a ∧ ∀ W' g, Ext W W' → B ≤ g → W'.heap[g]? = some obj → wpW R B P ops Q rest (a.put o.dst (f g)) W'
      | 3 => (∃ obj f, Makes P ops o obj f a) ∧ wpW R B P ops Q rest a W
      | _ => Region.wanted o (yielded ops a.tmps) = true ∧ o.wp P a W (fun a' w' => R W w' ∧ wpW R B P ops Q rest a' w') Q

def markL (l : List Nat) (s : Array Bool) : Array Bool := l.foldr (fun i s => s.setIfInBounds i true) s

theorem markL_size (l : List Nat) (s : Array Bool) : (markL l s).size = s.size := by
  induction l with
  | nil => rfl
  | cons i l ih => simp [markL] at ih ⊢; exact ih

theorem markL_get (l : List Nat) (s : Array Bool) (k : Nat) : (markL l s)[k]? = if k ∈ l ∧ k < s.size then some true else s[k]? := by
  induction l with
  | nil => simp [markL]
  | cons i l ih =>
    show ((markL l s).setIfInBounds i true)[k]? = _
    rw [Array.getElem?_setIfInBounds, markL_size, ih]
    by_cases hik : i = k
    · subst hik
      by_cases hs : i < s.size <;> simp [hs]
    · have : k ≠ i := fun h => hik h.symm
      simp [hik, this]

theorem markL_ext {l l' : List Nat} (h : ∀ k, k ∈ l ↔ k ∈ l') (s : Array Bool) : markL l s = markL l' s := by
  apply Array.ext_getElem?
  intro k
  rw [markL_get, markL_get]
  simp only [h k]

theorem markL_set (l : List Nat) (s : Array Bool) (i : Nat) : markL l (s.setIfInBounds i true) = (markL l s).setIfInBounds i true := by
  have e : s.setIfInBounds i true = markL [i] s := rfl
  have e2 : markL l (markL [i] s) = markL (l ++ [i]) s := by simp [markL]
  have e3 : (markL l s).setIfInBounds i true = markL (i :: l) s := rfl
  rw [e, e2, e3]
  exact markL_ext (fun k => by simp [or_comm]) s

theorem getD_of {s : Array Bool} (k : Nat) (d : Bool) : s.getD k d = s[k]?.getD d := by
  simp [Array.getD_eq_getD_getElem?]

theorem markL_out {l : List Nat} {s : Array Bool} {j : Nat} (hj : j ∉ l) (d : Bool) : (markL l s).getD j d = s.getD j d := by
  rw [getD_of, getD_of, markL_get, if_neg (fun h => hj h.1)]

theorem markL_mono {l l' : List Nat} {s : Array Bool} (h : ∀ k, k ∈ l → k ∈ l') {k : Nat} (hk : (markL l s).getD k false = true) : (markL l' s).getD k false = true := by
  rw [getD_of, markL_get] at *
  by_cases h1 : k ∈ l ∧ k < s.size
  · rw [if_pos ⟨h k h1.1, h1.2⟩]; rfl
  · rw [if_neg h1] at hk
    by_cases h2 : k ∈ l' ∧ k < s.size
    · rw [if_pos h2]; rfl
    · rw [if_neg h2]; exact hk

theorem ready_setL {l l' : List Nat} {s : Array Bool} {j : Nat} (h : ∀ k, k ∈ l → k ∈ l') (hj : j ∈ Region.ready .any ops (markL l s)) (hn : j ∉ l') : j ∈ Region.ready .any ops (markL l' s) := by
  rw [mem_ready] at *
  obtain ⟨h0, o, ho, hall⟩ := hj
  refine ⟨?_, o, ho, fun e he hb => markL_mono h (hall e he hb)⟩
  rw [markL_out hn]
  rw [markL_out (fun hl => hn (h _ hl))] at h0
  exact h0

/-- What is told and not yet there by the walk: made already (g), or not. -/
structure Ann where
  m : Nat
  o : Oper
  obj : Obj
  f : Nat → Value
  g : Option Nat

def Ann.upon (n : Ann) (a : Act) : Act := match n.g with | none => a | some g => a.put n.o.dst (n.f g)
def putN (N : List Ann) (a : Act) : Act := N.foldr Ann.upon a
def ex (N : List Ann) : List Nat := (N.filter (·.g.isSome)).map (·.m)

theorem mem_ex {N : List Ann} {k : Nat} : k ∈ ex N ↔ ∃ n ∈ N, n.g.isSome = true ∧ n.m = k := by
  simp [ex, and_assoc]

theorem Ann.upon_put {n : Ann} {o : Oper} (h : Ap ops n.o o) (a : Act) (v : Value) : n.upon (a.put o.dst v) = (n.upon a).put o.dst v := by
  unfold Ann.upon
  cases n.g with
  | none => rfl
  | some g => exact (Act.put_comm a _ _ h.2.1).symm

theorem putN_put {N : List Ann} {o : Oper} (h : ∀ n ∈ N, Ap ops n.o o) (a : Act) (v : Value) : putN N (a.put o.dst v) = (putN N a).put o.dst v := by
  induction N with
  | nil => rfl
  | cons n N ih =>
    show n.upon (putN N (a.put o.dst v)) = (n.upon (putN N a)).put o.dst v
    rw [ih fun x hx => h x (by simp [hx]), Ann.upon_put (h n (by simp))]

theorem putN_defers (N : List Ann) (a : Act) (d : Deferred) : putN N { a with defers := d :: a.defers } = { putN N a with defers := d :: (putN N a).defers } := by
  induction N with
  | nil => rfl
  | cons n N ih =>
    show n.upon (putN N _) = { n.upon (putN N a) with defers := d :: (n.upon (putN N a)).defers }
    rw [ih]
    unfold Ann.upon
    cases n.g with
    | none => rfl
    | some g => exact (Act.put_defers _ _ _ _).symm

theorem execOp_putN {N : List Ann} {o : Oper} (hs : ∀ cs b, o.op ≠ .select cs b) (h : ∀ n ∈ N, Ap ops n.o o) (a : Act) : execOp (putN N a).eval o = execOp a.eval o ∧ Region.wanted o (yielded ops (putN N a).tmps) = Region.wanted o (yielded ops a.tmps) := by
  induction N with
  | nil => exact ⟨rfl, rfl⟩
  | cons n N ih =>
    obtain ⟨h1, h2⟩ := ih fun x hx => h x (by simp [hx])
    show execOp (n.upon (putN N a)).eval o = _ ∧ Region.wanted o (yielded ops (n.upon (putN N a)).tmps) = _
    unfold Ann.upon
    cases n.g with
    | none => exact ⟨h1, h2⟩
    | some g => exact ⟨by rw [← h1]; exact execOp_put o hs _ _ _ (h n (by simp)).1, by rw [← h2]; exact wanted_put o _ _ _ (h n (by simp)).1⟩

theorem Makes.putN {N : List Ann} {o : Oper} {obj : Obj} {f : Nat → Value} {a : Act} (hs : ∀ cs b, o.op ≠ .select cs b) (h : ∀ n ∈ N, Ap ops n.o o) (k : Makes P ops o obj f a) : Makes P ops o obj f (putN N a) :=
  ⟨by rw [(execOp_putN hs h a).2]; exact k.wanted, fun w => by rw [(execOp_putN hs h a).1]; exact k.run w⟩

theorem panic_putN (hQ : ∀ c a d v w, Q (.panic c) (Act.put a (some d) v) w ↔ Q (.panic c) a w) (N : List Ann) : ∀ c a w, Q (.panic c) (putN N a) w ↔ Q (.panic c) a w := by
  intro c a w
  induction N with
  | nil => exact Iff.rfl
  | cons n N ih =>
    show Q (.panic c) (n.upon (putN N a)) w ↔ _
    unfold Ann.upon
    cases n.g with
    | none => exact ih
    | some g =>
      cases hd : n.o.dst with
      | none => simpa [Act.put, hd] using ih
      | some d => simpa [hd] using (hQ c (putN N a) d (n.f g) w).trans ih

/-- An operation that is walked without what was made ahead goes as well with it. -/
theorem wp_putN {N : List Ann} {o : Oper} (hQ : ∀ c a d v w, Q (.panic c) (Act.put a (some d) v) w ↔ Q (.panic c) a w) (hs : ∀ cs b, o.op ≠ .select cs b) (hap : ∀ n ∈ N, Ap ops n.o o)
    {a : Act} {w : World} {K : Act → World → Prop} (Pr : Act → Prop) (p1 : ∀ v, Pr (a.put o.dst v)) (p2 : ∀ d v, Pr (({ a with defers := d :: a.defers } : Act).put o.dst v)) (h : o.wp P a w K Q) :
    o.wp P (putN N a) w (fun a' w' => ∃ ac, a' = putN N ac ∧ Pr ac ∧ K ac w') Q := by
  unfold Oper.wp at *
  rw [(execOp_putN hs hap a).1]
  generalize (execOp a.eval o).run P w = r at *
  cases r with
  | ok n w' =>
    cases n <;> simp only [Oper.upon] at h ⊢
    case value u => exact ⟨_, (putN_put hap a u).symm, p1 u, h⟩
    case skip => exact ⟨_, (putN_put hap a _).symm, p1 _, h⟩
    case defer d => exact ⟨_, by rw [putN_put hap, putN_defers], p2 d _, h⟩
    case enter f args =>
      refine Calls.mono h fun e w'' he => ?_
      cases e with
      | returned u => exact ⟨_, (putN_put hap a u).symm, p1 u, he⟩
      | panicked c => exact (panic_putN hQ N c a _).2 he
      | outgrown => exact he
    case row row args => exact Rows.mono h fun u w'' he => ⟨_, (putN_put hap a u).symm, p1 u, he⟩
  | halt x w' =>
    cases x <;> simp only [Oper.upon] at h ⊢
    case panic u => exact (panic_putN hQ N _ a _).2 h

def apartB (ops : Array Oper) (m i : Nat) : Bool := match ops[m]?, ops[i]? with | some x, some y => x.apart ops y | _, _ => false
theorem apartB_spec {m i : Nat} {x y : Oper} (h : apartB ops m i = true) (hx : ops[m]? = some x) (hy : ops[i]? = some y) : Ap ops x y := by
  unfold apartB at h; rw [hx, hy] at h; exact Oper.apart_spec h

/-- The list is a way through the region. -/
def makeB (ops : Array Oper) : List (Nat × Nat) → List Nat → Array Bool → Bool
  | [], ann, listed => ann.isEmpty && (Region.ready .any ops listed).isEmpty
  | (i, k) :: rest, ann, listed =>
    (Region.ready .any ops listed).contains i &&
    match k with
    | 0 => Region.free .any ops listed i && ann.all (fun m => m != i && apartB ops m i) && makeB ops rest ann (listed.setIfInBounds i true)
    | 1 => Region.ready .any ops (markL ann listed) == [i] && ann.all (fun m => m != i && apartB ops m i) && makeB ops rest ann (listed.setIfInBounds i true)
    | 2 => ann.contains i && Region.ready .any ops (markL (ann.erase i) listed) == [i] && makeB ops rest (ann.erase i) (listed.setIfInBounds i true)
    | 3 => ann.all (fun m => m != i && apartB ops m i) && makeB ops rest (i :: ann) listed
    | _ => ann.isEmpty && Region.ready .any ops listed == [i] && makeB ops rest ann (listed.setIfInBounds i true)

/-- How many come up. -/
def cntB : List (Nat × Nat) → Nat
  | [] => 0
  | (_, 0) :: r => cntB r + 1
  | (_, 1) :: r => cntB r + 1
  | (_, 2) :: r => cntB r + 1
  | (_, 3) :: r => cntB r
  | (_, _ + 4) :: r => cntB r + 1

theorem makeB_cnt : ∀ (sched : List (Nat × Nat)) (ann : List Nat) (listed : Array Bool), makeB ops sched ann listed = true → ann.length ≤ cntB sched
  | [], ann, listed, h => by simp [makeB] at h; simp [h.1, cntB]
  | (i, 0) :: r, ann, listed, h => by simp [makeB] at h; have := makeB_cnt r _ _ h.2.2; simp [cntB]; omega
  | (i, 1) :: r, ann, listed, h => by simp [makeB] at h; have := makeB_cnt r _ _ h.2.2; simp [cntB]; omega
  | (i, 2) :: r, ann, listed, h => by
    simp [makeB] at h
    have h1 := makeB_cnt r _ _ h.2.2
    have h2 : (ann.erase i).length = ann.length - 1 := List.length_erase_of_mem h.2.1.1
    simp [cntB]; omega
  | (i, 3) :: r, ann, listed, h => by simp [makeB] at h; have := makeB_cnt r _ _ h.2.2; simp [cntB] at this ⊢; omega
  | (i, k + 4) :: r, ann, listed, h => by simp [makeB] at h; have := makeB_cnt r _ _ h.2.2; simp [cntB] at this ⊢; omega

/-- What holds of one that is told. -/
structure Good (B : Nat) (P : Program) (ops : Array Oper) (listed : Array Bool) (a : Act) (w : World) (n : Ann) : Prop where
  op : ops[n.m]? = some n.o
  makes : Makes P ops n.o n.obj n.f a
  ready : n.m ∈ Region.ready .any ops listed
  there : ∀ g, n.g = some g → B ≤ g ∧ w.heap[g]? = some n.obj

/-- All that are told, two by two apart. -/
structure Told (B : Nat) (P : Program) (ops : Array Oper) (listed : Array Bool) (a : Act) (w : World) (N : List Ann) : Prop where
  base : B ≤ w.heap.size
  each : ∀ n ∈ N, Good B P ops listed a w n
  pairs : N.Pairwise fun x y => x.m ≠ y.m ∧ Ap ops x.o y.o

theorem Told.later {B : Nat} {listed : Array Bool} {a : Act} {w w' : World} {N : List Ann} (h : Told B P ops listed a w N) (hx : Ext w w') : Told B P ops listed a w' N :=
  ⟨Nat.le_trans h.base hx.size, fun n hn => ⟨(h.each n hn).op, (h.each n hn).makes, (h.each n hn).ready, fun g hg => ⟨((h.each n hn).there g hg).1, hx.heap ((h.each n hn).there g hg).2⟩⟩, h.pairs⟩

theorem heap_new' (w : World) (o : Obj) : (w.alloc o).heap[w.heap.size]? = some o := by
  show (w.heap.push o)[w.heap.size]? = _
  simp

theorem wpAnyH_more {S S' : World → Prop} {fuel : Nat} {listed : Array Bool} {a : Act} {w : World} (h : ∀ w, S w → S' w) (H : wpAnyH P .any ops Q S fuel listed a w) : wpAnyH P .any ops Q S' fuel listed a w :=
  wpAnyH_mono h _ _ _ _ H

/-- One of those that are told is made now. -/
theorem Told.make {B : Nat} {listed : Array Bool} {a : Act} {w : World} {N1 N2 : List Ann} {n : Ann} (hs : ∀ (j : Nat) (o : Oper) cs b, ops[j]? = some o → o.op ≠ .select cs b) (h : Told B P ops listed a w (N1 ++ n :: N2)) (hn : n.g = none) :
    Told B P ops listed a (w.alloc n.obj) (N1 ++ { n with g := some w.heap.size } :: N2) ∧
    putN (N1 ++ { n with g := some w.heap.size } :: N2) a = (putN (N1 ++ n :: N2) a).put n.o.dst (n.f w.heap.size) := by
  have hx : Ext w (w.alloc n.obj) := (Ext.refl w).alloc _
  have h' := h.later hx
  have hp := h.pairs
  rw [List.pairwise_append, List.pairwise_cons] at hp
  obtain ⟨hp1, ⟨hp2, hp3⟩, hp4⟩ := hp
  refine ⟨⟨h'.base, ?_, ?_⟩, ?_⟩
  · intro x hxm
    rw [List.mem_append, List.mem_cons] at hxm
    rcases hxm with hm | rfl | hm
    · exact h'.each x (by simp [hm])
    · have hg := h'.each n (by simp)
      exact ⟨hg.op, hg.makes, hg.ready, fun g hg => by
        have : w.heap.size = g := by simpa using hg
        subst this
        exact ⟨h.base, heap_new' w n.obj⟩⟩
    · exact h'.each x (by simp [hm])
  · rw [List.pairwise_append, List.pairwise_cons]
    refine ⟨hp1, ⟨hp2, hp3⟩, fun x hx y hy => ?_⟩
    rw [List.mem_cons] at hy
    rcases hy with rfl | hy
    · exact hp4 x hx n (by simp)
    · exact hp4 x hx y (by simp [hy])
  · have e1 : putN (n :: N2) a = putN N2 a := by show n.upon (putN N2 a) = _; unfold Ann.upon; rw [hn]
    have e2 : putN ({ n with g := some w.heap.size } :: N2) a = (putN N2 a).put n.o.dst (n.f w.heap.size) := rfl
    have e3 : ∀ (M : List Ann) (b : Act), putN (N1 ++ M) a = putN N1 (putN M a) := fun M b => by simp [putN]
    rw [e3 _ a, e3 _ a, e1, e2, putN_put (o := n.o)]
    exact fun x hx => (hp4 x hx n (by simp)).2

theorem not_of_ready {l : List Nat} {s : Array Bool} {j : Nat} (h : j ∈ Region.ready .any ops (markL l s)) : j ∉ l := fun hj => by
  have h0 := (mem_ready.1 h).1
  rw [getD_of, markL_get] at h0
  by_cases h1 : j < s.size
  · rw [if_pos ⟨hj, h1⟩] at h0; cases h0
  · rw [if_neg (fun h => h1 h.2), Array.getElem?_eq_none (by omega)] at h0; cases h0

theorem out_of {l : List Nat} {s : Array Bool} {j : Nat} (h : (markL l s).getD j true = false) : s.getD j true = false := by
  rw [getD_of, markL_get] at h
  rw [getD_of]
  by_cases h1 : j ∈ l ∧ j < s.size
  · rw [if_pos h1] at h; cases h
  · rw [if_neg h1] at h; exact h

theorem ex_le (N : List Ann) : (ex N).length ≤ N.length := by
  simp [ex]; exact List.length_filter_le _ _

theorem ex_lt {N : List Ann} {n : Ann} (hn : n ∈ N) (hg : n.g = none) : (ex N).length < N.length := by
  simp only [ex, List.length_map]
  exact List.length_filter_lt_length_iff_exists.2 ⟨n, hn, by simp [hg]⟩

theorem putN_none {N1 N2 : List Ann} {n : Ann} (hn : n.g = none) (a : Act) : putN (N1 ++ n :: N2) a = putN (N1 ++ N2) a := by
  have e1 : putN (n :: N2) a = putN N2 a := by show n.upon (putN N2 a) = _; unfold Ann.upon; rw [hn]
  have e3 : ∀ M : List Ann, putN (N1 ++ M) a = putN N1 (putN M a) := fun M => by simp [putN]
  rw [e3, e3, e1]

theorem ex_append (N M : List Ann) : ex (N ++ M) = ex N ++ ex M := by simp [ex]
theorem ex_none {n : Ann} (hn : n.g = none) (N : List Ann) : ex (n :: N) = ex N := by simp [ex, hn]
theorem ex_some {n : Ann} {g : Nat} (hn : n.g = some g) (N : List Ann) : ex (n :: N) = n.m :: ex N := by simp [ex, hn]

theorem wpOp_makes {i : Nat} {o : Oper} {obj : Obj} {f : Nat → Value} {a : Act} {w : World} {K : Act → World → Prop} (hi : ops[i]? = some o) (h : Makes P ops o obj f a) (hK : K (a.put o.dst (f w.heap.size)) (w.alloc obj)) : wpOp P ops Q i K a w := by
  unfold wpOp
  simp only [hi, h.wanted, if_true]
  refine .inl ?_
  unfold Oper.wp
  rw [h.run w]
  exact hK

theorem Told.apart {B : Nat} {listed : Array Bool} {a : Act} {w : World} {N1 N2 : List Ann} {n : Ann} (h : Told B P ops listed a w (N1 ++ n :: N2)) : ∀ x ∈ N1 ++ N2, x.m ≠ n.m ∧ Ap ops x.o n.o := by
  have hp := h.pairs
  rw [List.pairwise_append, List.pairwise_cons] at hp
  intro x hx
  rcases List.mem_append.1 hx with hx | hx
  · exact hp.2.2 x hx n (by simp)
  · exact ⟨fun e => (hp.2.1.1 x hx).1 e.symm, (hp.2.1.1 x hx).2.symm⟩

/-- One that is told is there by the walk. -/
theorem Told.settle {B : Nat} {listed : Array Bool} {a : Act} {w : World} {N1 N2 : List Ann} {n : Ann} (hs : ∀ (j : Nat) (o : Oper) cs b, ops[j]? = some o → o.op ≠ .select cs b) (h : Told B P ops listed a w (N1 ++ n :: N2)) (v : Value) :
    Told B P ops (listed.setIfInBounds n.m true) (a.put n.o.dst v) w (N1 ++ N2) := by
  have hap := h.apart
  refine ⟨h.base, fun x hx => ?_, ?_⟩
  · have hg := h.each x (by rcases List.mem_append.1 hx with hx | hx <;> simp [hx])
    exact ⟨hg.op, hg.makes.put (fun cs b => hs _ _ cs b hg.op) (hap x hx).2.2.2, ready_mono hg.ready (hap x hx).1, hg.there⟩
  · exact h.pairs.sublist (by simp)

/-- What is made ahead of its time, until t comes up. -/
theorem early {B t : Nat} {R : World → World → Prop} (rt : ∀ a b c, R a b → R b c → R a c) (rs : ∀ a b, Ext a b → R a b) {W0 : World} (hs : ∀ (j : Nat) (o : Oper) cs b, ops[j]? = some o → o.op ≠ .select cs b) (listed : Array Bool) (ac : Act) (ann : List Nat) (F : Nat)
    (hr : Region.ready .any ops (markL (ann.erase t) listed) = [t]) (ht : t ∈ Region.ready .any ops listed) (hF : ann.length + (if t ∈ ann then 0 else 1) ≤ F)
    (step : ∀ (N : List Ann) (w : World) (fuel : Nat), N.map (·.m) = ann → Told B P ops listed ac w N → (∀ n ∈ N, n.m = t → n.g = none) → fuel + 1 + (ex N).length = F →
      Ext W0 w → wpOp P ops Q t (fun a' w' => Ext w w' ∧ wpAnyH P .any ops Q (R w') fuel ((markL (ex N) listed).setIfInBounds t true) a' w') (putN N ac) w) :
    ∀ (fuel : Nat) (N : List Ann) (w : World), N.map (·.m) = ann → Told B P ops listed ac w N → (∀ n ∈ N, n.m = t → n.g = none) → fuel + (ex N).length = F → Ext W0 w →
      wpAnyH P .any ops Q (R w) fuel (markL (ex N) listed) (putN N ac) w := by
  intro fuel
  induction fuel with
  | zero =>
    intro N w hN hT hg hf hx
    exfalso
    have h1 := ex_le N
    have h2 : N.length = ann.length := by rw [← hN]; simp
    by_cases hta : t ∈ ann
    · rw [if_pos hta] at hF
      rw [← hN] at hta
      obtain ⟨n, hn, hnt⟩ := List.mem_map.1 hta
      have := ex_lt hn (hg n hn hnt)
      omega
    · rw [if_neg hta] at hF; omega
  | succ fuel ih =>
    intro N w hN hT hg hf hx
    have htN : t ∉ ex N := fun h => by
      obtain ⟨n, hn, h1, h2⟩ := mem_ex.1 h
      rw [hg n hn h2] at h1; cases h1
    have htr : t ∈ Region.ready .any ops (markL (ex N) listed) := ready_setL (l := []) (by simp) ht htN
    refine ⟨fun h0 => (by rw [h0] at htr; cases htr), fun j hj => ?_⟩
    have hjN := not_of_ready hj
    by_cases hc : j ≠ t ∧ ∃ n ∈ N, n.m = j
    · obtain ⟨hjt, n, hn, rfl⟩ := hc
      have hng : n.g = none := by
        cases h : n.g with
        | none => rfl
        | some g => exact absurd (mem_ex.2 ⟨n, hn, by simp [h], rfl⟩) hjN
      obtain ⟨N1, N2, rfl⟩ := List.append_of_mem hn
      have hgd := hT.each n hn
      obtain ⟨hT', hput⟩ := hT.make hs hng
      have hmk : Makes P ops n.o n.obj n.f (putN (N1 ++ n :: N2) ac) := by
        rw [putN_none hng]
        exact hgd.makes.putN (fun cs b => hs _ _ cs b hgd.op) fun x hx => (hT.apart x hx).2
      refine wpOp_makes hgd.op hmk ⟨rs _ _ ((Ext.refl w).alloc _), ?_⟩
      have hxw : Ext w (w.alloc n.obj) := (Ext.refl w).alloc _
      have e1 : ex (N1 ++ { n with g := some w.heap.size } :: N2) = ex N1 ++ n.m :: ex N2 := by rw [ex_append, ex_some (g := w.heap.size) rfl]
      have e2 : ex (N1 ++ n :: N2) = ex N1 ++ ex N2 := by rw [ex_append, ex_none hng]
      have key := ih (N1 ++ { n with g := some w.heap.size } :: N2) (w.alloc n.obj) (by rw [← hN]; simp) hT' (by
        intro x hx hxt
        rw [List.mem_append, List.mem_cons] at hx
        rcases hx with h | rfl | h
        · exact hg x (by simp [h]) hxt
        · exact absurd hxt hjt
        · exact hg x (by simp [h]) hxt) (by rw [e1]; rw [e2] at hf; simp at hf ⊢; omega) (hx.trans hxw)
      rw [hput] at key
      have e3 : markL (ex (N1 ++ { n with g := some w.heap.size } :: N2)) listed = (markL (ex (N1 ++ n :: N2)) listed).setIfInBounds n.m true := by
        show _ = markL (n.m :: ex (N1 ++ n :: N2)) listed
        rw [e1, e2]
        exact markL_ext (fun k => by simp; constructor <;> (rintro (h | h | h) <;> simp [h])) listed
      rw [e3] at key
      exact wpAnyH_more (fun x h => rt _ _ _ (rs _ _ hxw) h) key
    · have hjt : j = t := by
        have h1 : ∀ k, k ∈ ex N → k ∈ ann.erase t := fun k hk => by
          obtain ⟨n, hn, h2, h3⟩ := mem_ex.1 hk
          have hkt : k ≠ t := fun h => by rw [hg n hn (h3.trans h)] at h2; cases h2
          rw [List.mem_erase_of_ne hkt, ← hN]
          exact List.mem_map.2 ⟨n, hn, h3⟩
        by_cases hjt : j = t
        · exact hjt
        · have h2 : j ∉ ann.erase t := fun h => hc ⟨hjt, by
            rw [List.mem_erase_of_ne hjt, ← hN] at h
            obtain ⟨n, hn, h3⟩ := List.mem_map.1 h
            exact ⟨n, hn, h3⟩⟩
          have h3 := ready_setL h1 hj h2
          rw [hr] at h3
          simpa using h3
      subst hjt
      refine wpOp_mono (fun a' w' h => ⟨rs _ _ h.1, wpAnyH_more (fun x hx' => rt _ _ _ (rs _ _ h.1) hx') h.2⟩) (step N w fuel hN hT hg hf hx)

theorem wpAnyH_of_W {B : Nat} {R : World → World → Prop} (rt : ∀ a b c, R a b → R b c → R a c) (rs : ∀ a b, Ext a b → R a b) (rz : ∀ a b, R a b → a.heap.size ≤ b.heap.size) (hs : Region.noSelect ops = true) (hQ : ∀ c a d v w, Q (.panic c) (Act.put a (some d) v) w ↔ Q (.panic c) a w) :
    ∀ (sched : List (Nat × Nat)) (ann : List Nat) (listed : Array Bool) (ac : Act) (W : World), makeB ops sched ann listed = true → wpW R B P ops Q sched ac W →
      ∀ (N : List Ann) (w : World) (fuel : Nat), N.map (·.m) = ann → Told B P ops listed ac w N → Ext W w → (ex N = [] → w = W) → fuel + (ex N).length = cntB sched →
        wpAnyH P .any ops Q (R w) fuel (markL (ex N) listed) (putN N ac) w
  | [], ann, listed, ac, W, hm, h, N, w, fuel, hN, hT, hx, hy, hf => by
    simp [makeB] at hm
    obtain ⟨rfl, hr⟩ := hm
    obtain rfl : N = [] := by simpa using hN
    obtain rfl := hy rfl
    exact wpAnyH_done hr h fuel
  | (i, 0) :: r, ann, listed, ac, W, hm, h, N, w, fuel, hN, hT, hx, hy, hf => by
    simp [makeB] at hm
    obtain ⟨hr, ⟨hfree, hall⟩, hrest⟩ := hm
    unfold wpW at h
    split at h
    · exact h.elim
    · rename_i o ho
      have sel := fun (j : Nat) (o : Oper) cs b h => Region.noSelect_spec hs j o cs b h
      have hall' : ∀ n ∈ N, n.m ≠ i ∧ Ap ops n.o o := fun n hn => by
        have := hall n.m (by rw [← hN]; exact List.mem_map.2 ⟨n, hn, rfl⟩)
        exact ⟨this.1, apartB_spec this.2 (hT.each n hn).op ho⟩
      have hc := makeB_cnt r ann _ hrest
      have hel := ex_le N
      have hnl : N.length = ann.length := by rw [← hN]; simp
      obtain ⟨fuel, rfl⟩ : ∃ f, fuel = f + 1 := ⟨fuel - 1, by simp [cntB] at hf; omega⟩
      have hi : i ∉ ex N := fun h => by
        obtain ⟨n, hn, _, h2⟩ := mem_ex.1 h
        exact (hall' n hn).1 h2
      have hex := execOp_putN (fun cs b => sel i o cs b ho) (fun n hn => (hall' n hn).2) ac
      have hT' : ∀ v, Told B P ops (listed.setIfInBounds i true) (ac.put o.dst v) w N := fun v => ⟨hT.base, fun n hn => by
        have hg := hT.each n hn
        exact ⟨hg.op, hg.makes.put (fun cs b => sel _ _ cs b hg.op) (hall' n hn).2.2.2, ready_mono hg.ready (hall' n hn).1, hg.there⟩, hT.pairs⟩
      have fin : ∀ v, YieldsIf P ops (R w) o v (putN N ac) → wpW R B P ops Q r (ac.put o.dst v) W → wpAnyH P .any ops Q (R w) (fuel + 1) (markL (ex N) listed) (putN N ac) w := fun v hyy hn => by
        refine wpAnyH_first ho (fun j o cs b h => sel j o cs b h) (fun c a w h => ?_) fuel _ _ _ (fun j oj hoj hji hun hno => Region.free_spec ho hfree j oj hoj hji (out_of hun) hno) (ready_setL (l := []) (by simp) hr hi) hyy (rs _ _ (Ext.refl w)) ?_
        · cases hd : o.dst with
          | none => rw [hd] at h; exact h
          | some d => rw [hd] at h; exact (hQ c a d _ w).1 h
        · have key := wpAnyH_of_W rt rs rz hs hQ r ann (listed.setIfInBounds i true) (ac.put o.dst v) W hrest hn N w fuel hN (hT' v) hx hy (by simp [cntB] at hf; omega)
          rw [markL_set, putN_put (fun n hn => (hall' n hn).2)] at key
          exact key
      rcases h with ⟨hw, v, hv, hn⟩ | ⟨hw, hn⟩
      · exact fin v (.inl ⟨by rw [hex.2]; exact hw, fun w' hx' => by rw [hex.1]; exact hv w' (rt _ _ _ (rs _ _ hx) hx')⟩) hn
      · exact fin undef (.inr ⟨by rw [hex.2]; exact hw, rfl⟩) hn
  | (i, 1) :: r, ann, listed, ac, W, hm, h, N, w, fuel, hN, hT, hx, hy, hf => by
    have hm0 := hm
    simp [makeB] at hm
    obtain ⟨hr, ⟨hone, hall⟩, hrest⟩ := hm
    unfold wpW at h
    split at h
    · exact h.elim
    · rename_i o ho
      obtain ⟨hw, h⟩ := h
      have sel := fun (j : Nat) (o : Oper) cs b h => Region.noSelect_spec hs j o cs b h
      have hia : i ∉ ann := fun h => (hall i h).1 rfl
      have hc := makeB_cnt r ann _ hrest
      refine early rt rs (W0 := W) (t := i) sel listed ac ann (cntB ((i, 1) :: r)) (by rw [List.erase_of_not_mem hia]; exact hone) hr (by rw [if_neg hia]; simp [cntB]; omega) ?_ fuel N w hN hT
        (fun n hn hni => absurd (by rw [← hN]; exact List.mem_map.2 ⟨n, hn, hni⟩) hia) hf hx
      intro N w fuel hN hT _ hf hx
      have hall' : ∀ n ∈ N, n.m ≠ i ∧ Ap ops n.o o := fun n hn => by
        have := hall n.m (by rw [← hN]; exact List.mem_map.2 ⟨n, hn, rfl⟩)
        exact ⟨this.1, apartB_spec this.2 (hT.each n hn).op ho⟩
      have hex := execOp_putN (fun cs b => sel i o cs b ho) (fun n hn => (hall' n hn).2) ac
      unfold wpOp
      simp only [ho, hex.2, hw, if_true]
      refine .inl (Oper.wp_mono ?_ (wp_putN hQ (fun cs b => sel i o cs b ho) (fun n hn => (hall' n hn).2) (fun a' => ∀ n ∈ N, Makes P ops n.o n.obj n.f a')
        (fun v n hn => (hT.each n hn).makes.put (fun cs b => sel _ _ cs b (hT.each n hn).op) (hall' n hn).2.2.2)
        (fun d v n hn => Makes.put (a := { ac with defers := d :: ac.defers }) ⟨(hT.each n hn).makes.wanted, (hT.each n hn).makes.run⟩ (fun cs b => sel _ _ cs b (hT.each n hn).op) (hall' n hn).2.2.2) (h w hx)))
      rintro a' w' ⟨ac', rfl, hpr, hx', hn'⟩
      refine ⟨hx', ?_⟩
      have hl := hT.later hx'
      have key := wpAnyH_of_W rt rs rz hs hQ r ann (listed.setIfInBounds i true) ac' w' hrest hn' N w' fuel hN ⟨hl.base, fun n hn => ⟨(hl.each n hn).op, hpr n hn, ready_mono (hl.each n hn).ready (hall' n hn).1, (hl.each n hn).there⟩, hl.pairs⟩ (Ext.refl _) (fun _ => rfl) (by simp [cntB] at hf; omega)
      rw [markL_set] at key
      exact key
  | (i, 2) :: r, ann, listed, ac, W, hm, h, N, w, fuel, hN, hT, hx, hy, hf => by
    have hc0 := makeB_cnt _ ann _ hm
    simp [makeB] at hm
    obtain ⟨hr, ⟨hia, hone⟩, hrest⟩ := hm
    unfold wpW at h
    split at h
    · exact h.elim
    · rename_i o ho
      obtain ⟨obj, f, hmk, h⟩ := h
      have sel := fun (j : Nat) (o : Oper) cs b h => Region.noSelect_spec hs j o cs b h
      have settle : ∀ (N1 N2 : List Ann) (n : Ann) (w w1 : World) (g fuel : Nat), (N1 ++ n :: N2).map (·.m) = ann → n.m = i → Told B P ops listed ac w (N1 ++ n :: N2) → Ext W w → Ext w w1 → B ≤ g → w1.heap[g]? = some n.obj →
          fuel + (ex (N1 ++ N2)).length = cntB r → wpAnyH P .any ops Q (R w1) fuel ((markL (ex (N1 ++ N2)) listed).setIfInBounds i true) ((putN (N1 ++ N2) ac).put n.o.dst (n.f g)) w1 := by
        intro N1 N2 n w w1 g fuel hN hni hT hx hx1 hB hg hf
        have hgd := hT.each n (by simp)
        have eo : n.o = o := by have := hgd.op; rw [hni, ho] at this; exact (Option.some.inj this).symm
        obtain ⟨e1, e2⟩ := Makes.one (eo ▸ hgd.makes) hmk w
        have hW := h w1 g (hx.trans hx1) hB (by rw [← e1]; exact hg)
        have hT2 := (hT.later hx1).settle sel (n.f g)
        rw [hni] at hT2
        have hno : i ∉ N1.map (·.m) := fun hi => by
          obtain ⟨x, hx, hxi⟩ := List.mem_map.1 hi
          exact (hT.apart x (by simp [hx])).1 (hxi.trans hni.symm)
        have hN' : (N1 ++ N2).map (·.m) = ann.erase i := by
          rw [← hN, List.map_append, List.map_append, List.map_cons, List.erase_append_right _ hno, hni, List.erase_cons_head]
        have key := wpAnyH_of_W rt rs rz hs hQ r (ann.erase i) (listed.setIfInBounds i true) (ac.put n.o.dst (n.f g)) w1 hrest (by rw [e2 g, eo]; exact hW) (N1 ++ N2) w1 fuel hN' hT2 (Ext.refl _) (fun _ => rfl) hf
        rw [markL_set, putN_put (fun x hx => (hT.apart x hx).2)] at key
        exact key
      by_cases hg : ∀ n ∈ N, n.m = i → n.g = none
      · refine early rt rs (W0 := W) (t := i) sel listed ac ann (cntB ((i, 2) :: r)) hone hr (by rw [if_pos hia]; exact hc0) ?_ fuel N w hN hT hg hf hx
        intro N w fuel hN hT hg hf hx
        have hin := hia
        rw [← hN] at hin
        obtain ⟨n, hn, hni⟩ := List.mem_map.1 hin
        have hng := hg n hn hni
        obtain ⟨N1, N2, rfl⟩ := List.append_of_mem hn
        have hgd := hT.each n hn
        have e2 : ex (N1 ++ n :: N2) = ex (N1 ++ N2) := by rw [ex_append, ex_none hng, ex_append]
        rw [putN_none hng, e2]
        have hmk' := hgd.makes.putN (fun cs b => sel _ _ cs b hgd.op) fun x hx => (hT.apart x hx).2
        have hop := hgd.op
        rw [hni] at hop
        exact wpOp_makes hop hmk' ⟨(Ext.refl w).alloc _, settle N1 N2 n w _ w.heap.size fuel hN hni hT hx ((Ext.refl w).alloc _) hT.base (heap_new' w n.obj) (by rw [e2] at hf; simp [cntB] at hf; omega)⟩
      · obtain ⟨n, hn, hni, hng⟩ : ∃ n ∈ N, n.m = i ∧ n.g ≠ none := Classical.byContradiction fun hno => hg fun n hn hni => Classical.byContradiction fun h1 => hno ⟨n, hn, hni, h1⟩
        cases hgv : n.g with
        | none => exact absurd hgv hng
        | some g =>
          obtain ⟨N1, N2, rfl⟩ := List.append_of_mem hn
          have hth := (hT.each n hn).there g hgv
          have e1 : ex (N1 ++ n :: N2) = ex N1 ++ n.m :: ex N2 := by rw [ex_append, ex_some hgv]
          have key := settle N1 N2 n w w g fuel hN hni hT hx (Ext.refl _) hth.1 hth.2 (by rw [e1] at hf; rw [ex_append]; simp [cntB] at hf ⊢; omega)
          have e3 : markL (ex (N1 ++ n :: N2)) listed = (markL (ex (N1 ++ N2)) listed).setIfInBounds i true := by
            show _ = markL (i :: ex (N1 ++ N2)) listed
            rw [e1, ex_append, hni]
            exact markL_ext (fun k => by simp; constructor <;> (rintro (h | h | h) <;> simp [h])) listed
          have e4 : putN (N1 ++ n :: N2) ac = (putN (N1 ++ N2) ac).put n.o.dst (n.f g) := by
            have e5 : putN (n :: N2) ac = (putN N2 ac).put n.o.dst (n.f g) := by show n.upon (putN N2 ac) = _; unfold Ann.upon; rw [hgv]
            have e6 : ∀ M : List Ann, putN (N1 ++ M) ac = putN N1 (putN M ac) := fun M => by simp [putN]
            rw [e6, e6, e5, putN_put (o := n.o)]
            exact fun x hx => (hT.apart x (by simp [hx])).2
          rw [e3, e4]
          exact key
  | (i, 3) :: r, ann, listed, ac, W, hm, h, N, w, fuel, hN, hT, hx, hy, hf => by
    simp [makeB] at hm
    obtain ⟨hr, hall, hrest⟩ := hm
    unfold wpW at h
    split at h
    · exact h.elim
    · rename_i o ho
      obtain ⟨⟨obj, f, hmk⟩, hn⟩ := h
      have key := wpAnyH_of_W rt rs rz hs hQ r (i :: ann) listed ac W hrest hn (⟨i, o, obj, f, none⟩ :: N) w fuel (by simp [hN]) ⟨hT.base, fun n hn => by
        rw [List.mem_cons] at hn
        rcases hn with rfl | hn
        · exact ⟨ho, hmk, hr, fun g hg => by cases hg⟩
        · exact hT.each n hn, List.pairwise_cons.2 ⟨fun n hn => by
            have := hall n.m (by rw [← hN]; exact List.mem_map.2 ⟨n, hn, rfl⟩)
            exact ⟨fun e => this.1 e.symm, (apartB_spec this.2 (hT.each n hn).op ho).symm⟩, hT.pairs⟩⟩ hx (by rw [ex_none rfl]; exact hy) (by rw [ex_none rfl]; simpa [cntB] using hf)
      rw [ex_none rfl] at key
      exact key
  | (i, k + 4) :: r, ann, listed, ac, W, hm, h, N, w, fuel, hN, hT, hx, hy, hf => by
    simp [makeB] at hm
    obtain ⟨hr, ⟨rfl, hone⟩, hrest⟩ := hm
    obtain rfl : N = [] := by simpa using hN
    obtain rfl := hy rfl
    unfold wpW at h
    split at h
    · exact h.elim
    · rename_i o ho
      obtain ⟨hw, h⟩ := h
      obtain ⟨fuel, rfl⟩ : ∃ f, fuel = f + 1 := ⟨fuel - 1, by simp [cntB, ex] at hf; omega⟩
      refine wpAnyH_all hone (by simp) fun j hj => ?_
      obtain rfl : j = i := by simpa using hj
      unfold wpOp
      simp only [ho]
      rw [show putN [] ac = ac from rfl, if_pos hw]
      refine .inl (Oper.wp_mono (fun a' w' ⟨hx', hn⟩ => ⟨hx', wpAnyH_more (fun x hx'' => rt _ _ _ hx' hx'') ?_⟩) h)
      exact wpAnyH_of_W rt rs rz hs hQ r [] (listed.setIfInBounds j true) a' w' hrest hn [] w' fuel rfl ⟨Nat.le_trans hT.base (rz _ _ hx'), by simp, List.Pairwise.nil⟩ (Ext.refl _) (fun _ => rfl) (by simp [cntB, ex] at hf ⊢; omega)

/-- **The region, by that walk.** -/
theorem wp_region_makeR {R : World → World → Prop} {id : Nat} {a : Act} {w : World} {l : List Oper} (B : Nat) (rt : ∀ a b c, R a b → R b c → R a c) (rs : ∀ a b, Ext a b → R a b) (rz : ∀ a b, R a b → a.heap.size ≤ b.heap.size) (hB : B ≤ w.heap.size) (sched : List (Nat × Nat)) (hm : P.follows .mixedOrders = true)
    (hs : Region.noSelect l.toArray = true) (hl : cntB sched = l.toArray.size) (he : makeB l.toArray sched [] (Array.replicate l.toArray.size false) = true)
    (hQ : ∀ c a d v w, Q (.panic c) (Act.put a (some d) v) w ↔ Q (.panic c) a w) (h : wpW R B P l.toArray Q sched a w.drew) : (Code.region id l.toArray true).wp P Q a w := by
  have := wpAnyH_of_W rt rs rz hs hQ sched [] _ a w.drew he h [] w.drew l.toArray.size rfl ⟨hB, by simp, List.Pairwise.nil⟩ (Ext.refl _) (fun _ => rfl) (by simp [ex, hl])
  exact wp_region_held (S := R w.drew) hm this

/-- All memory held. -/
theorem wp_region_make {id : Nat} {a : Act} {w : World} {l : List Oper} (B : Nat) (hB : B ≤ w.heap.size) (sched : List (Nat × Nat)) (hm : P.follows .mixedOrders = true)
    (hs : Region.noSelect l.toArray = true) (hl : cntB sched = l.toArray.size) (he : makeB l.toArray sched [] (Array.replicate l.toArray.size false) = true)
    (hQ : ∀ c a d v w, Q (.panic c) (Act.put a (some d) v) w ↔ Q (.panic c) a w) (h : wpW Ext B P l.toArray Q sched a w.drew) : (Code.region id l.toArray true).wp P Q a w :=
  wp_region_makeR B (fun _ _ _ h k => h.trans k) (fun _ _ h => h) (fun _ _ h => h.size) hB sched hm hs hl he hQ h

/-- But for block x, which may be written. -/
theorem wp_region_makeX {id : Nat} {a : Act} {w : World} {l : List Oper} (x B : Nat) (hB : B ≤ w.heap.size) (sched : List (Nat × Nat)) (hm : P.follows .mixedOrders = true)
    (hs : Region.noSelect l.toArray = true) (hl : cntB sched = l.toArray.size) (he : makeB l.toArray sched [] (Array.replicate l.toArray.size false) = true)
    (hQ : ∀ c a d v w, Q (.panic c) (Act.put a (some d) v) w ↔ Q (.panic c) a w) (h : wpW (ExtX x) B P l.toArray Q sched a w.drew) : (Code.region id l.toArray true).wp P Q a w :=
  wp_region_makeR B (fun _ _ _ h k => h.trans k) (fun _ _ h => h.but x) (fun _ _ h => h.size) hB sched hm hs hl he hQ h

section
variable {B : Nat} {R : World → World → Prop}
theorem wpW_read {l : List Oper} {i : Nat} {rest : List (Nat × Nat)} {a : Act} {W : World} {o : Oper} {v : Value} (ho : l[i]? = some o) (hw : Region.wanted o (yielded l.toArray a.tmps) = true)
    (hv : ∀ w', R W w' → (execOp a.eval o).run P w' = .ok (.value v) w') (h : wpW R B P l.toArray Q rest (a.put o.dst v) W) : wpW R B P l.toArray Q ((i, 0) :: rest) a W := by
  unfold wpW; simp only [List.getElem?_toArray, ho]; exact .inl ⟨hw, v, hv, h⟩
theorem wpW_skip {l : List Oper} {i : Nat} {rest : List (Nat × Nat)} {a : Act} {W : World} {o : Oper} (ho : l[i]? = some o) (hw : Region.wanted o (yielded l.toArray a.tmps) = false)
    (h : wpW R B P l.toArray Q rest (a.put o.dst undef) W) : wpW R B P l.toArray Q ((i, 0) :: rest) a W := by
  unfold wpW; simp only [List.getElem?_toArray, ho]; exact .inr ⟨hw, h⟩
theorem wpW_call {l : List Oper} {i : Nat} {rest : List (Nat × Nat)} {a : Act} {W : World} {o : Oper} (ho : l[i]? = some o) (hw : Region.wanted o (yielded l.toArray a.tmps) = true)
    (h : ∀ W', Ext W W' → ∀ K : Act → World → Prop, (∀ a' w', Ext W' w' → wpW R B P l.toArray Q rest a' w' → K a' w') → o.wp P a W' K Q) : wpW R B P l.toArray Q ((i, 1) :: rest) a W := by
  unfold wpW; simp only [List.getElem?_toArray, ho]; exact ⟨hw, fun W' hx => h W' hx _ fun _ _ hx hn => ⟨hx, hn⟩⟩
theorem wpW_last {l : List Oper} {i : Nat} {rest : List (Nat × Nat)} {a : Act} {W : World} {o : Oper} (ho : l[i]? = some o) (hw : Region.wanted o (yielded l.toArray a.tmps) = true)
    (h : ∀ K : Act → World → Prop, (∀ a' w', R W w' → wpW R B P l.toArray Q rest a' w' → K a' w') → o.wp P a W K Q) : wpW R B P l.toArray Q ((i, 4) :: rest) a W := by
  unfold wpW; simp only [List.getElem?_toArray, ho]; exact ⟨hw, h _ fun _ _ hx hn => ⟨hx, hn⟩⟩
theorem wpW_say {l : List Oper} {i : Nat} {rest : List (Nat × Nat)} {a : Act} {W : World} {o : Oper} (obj : Obj) (f : Nat → Value) (ho : l[i]? = some o) (hw : Region.wanted o (yielded l.toArray a.tmps) = true)
    (hv : ∀ w, (execOp a.eval o).run P w = .ok (.value (f w.heap.size)) (w.alloc obj)) (h : wpW R B P l.toArray Q rest a W) : wpW R B P l.toArray Q ((i, 3) :: rest) a W := by
  unfold wpW; simp only [List.getElem?_toArray, ho]; exact ⟨⟨obj, f, hw, hv⟩, h⟩
theorem wpW_make {l : List Oper} {i : Nat} {rest : List (Nat × Nat)} {a : Act} {W : World} {o : Oper} (obj : Obj) (f : Nat → Value) (ho : l[i]? = some o) (hw : Region.wanted o (yielded l.toArray a.tmps) = true)
    (hv : ∀ w, (execOp a.eval o).run P w = .ok (.value (f w.heap.size)) (w.alloc obj)) (h : ∀ W' g, Ext W W' → B ≤ g → W'.heap[g]? = some obj → wpW R B P l.toArray Q rest (a.put o.dst (f g)) W') : wpW R B P l.toArray Q ((i, 2) :: rest) a W := by
  unfold wpW; simp only [List.getElem?_toArray, ho]; exact ⟨obj, f, ⟨hw, hv⟩, h⟩
theorem wpW_done {l : List Oper} {a : Act} {W : World} (h : Q .normal a W) : wpW R B P l.toArray Q [] a W := h
end
end
end Go.Proofs.Ytdkmakjjcfkfaaa
