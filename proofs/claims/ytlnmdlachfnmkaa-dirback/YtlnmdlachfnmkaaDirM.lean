/- A map of prefixes to blocks, as Dir keeps it: looked up, stored into, deleted from, counted; a block of places held against an empty one. -/
import Derived.Test.YtlnmdlachfnmkaaTreeQ
import Derived.Maps.Keyed
import Derived.ChangeKeysEq
import Derived.Carry
namespace Go.Proofs.Ytlnmdlachfnmkaa.Dr
set_option maxRecDepth 100000
open Go.RowKit Go.Proofs.Ytlnmdlachfnmkaa Go.Proofs.Ytlnmdlachfnmkaa.Tri
set_option linter.unusedVariables false

def keyV (p : PX) : Value := .agg #[.int .u32 p.1, .int .i64 p.2]
def ptV (o : Option Nat) : Value := .pointer (o.map fun b => ⟨b, 0, none⟩)

/-- The block of a prefix, in a row of both. -/
def lk : List (PX × Nat) → PX → Option Nat
  | [], _ => none
  | x :: E, p => if x.1 = p then some x.2 else lk E p

def delE : List (PX × Nat) → PX → List (PX × Nat)
  | [], _ => []
  | x :: E, p => if x.1 = p then E else x :: delE E p

def fa : List (PX × Nat) → PX → Nat → Option (Nat × Value)
  | [], _, _ => none
  | x :: E, p, i => if x.1 = p then some (i, ptV (some x.2)) else fa E p (i + 1)

def MapAt (w : World) (mb : Nat) (E : List (PX × Nat)) : Prop := ∃ es clock, w.heap[mb]? = some (.map es clock) ∧ es.toList.map (fun e => (e.key, e.val)) = E.map fun x => (keyV x.1, ptV (some x.2))

theorem eq_px (a n b m : Int) : (a == b && n == m) = decide (((b, m) : PX) = (a, n)) := by
  rw [Bool.eq_iff_iff]
  simp only [Bool.and_eq_true, beq_iff_eq, decide_eq_true_eq, Prod.mk.injEq]
  constructor
  · rintro ⟨rfl, rfl⟩; exact ⟨rfl, rfl⟩
  · rintro ⟨rfl, rfl⟩; exact ⟨rfl, rfl⟩

theorem equal_px (p q : PX) (w : World) : (Op.equal 30 (keyV p) (keyV q)).run Try.prog w = .ok (decide (q = p)) w := by
  obtain ⟨a, n⟩ := p
  obtain ⟨b, m⟩ := q
  have h := eql_prefix a n b m w
  rw [run_eql_struct] at h
  show (Op.equalIn 10000 30 (.agg #[.int .u32 a, .int .i64 n]) (.agg #[.int .u32 b, .int .i64 m])).run Try.prog w = _
  cases hr : (Op.equalIn 10000 30 (.agg #[.int .u32 a, .int .i64 n]) (.agg #[.int .u32 b, .int .i64 m])).run Try.prog w with
  | ok r w1 =>
    rw [hr] at h
    simp only [Result.andThen_ok, Result.ok.injEq, Value.bool.injEq] at h
    obtain ⟨rfl, rfl⟩ := h
    rw [eq_px]
  | halt x w1 => rw [hr] at h; simp [Result.andThen] at h

theorem check_px (em : Bool) (p : PX) (w : World) : (Instr.checkKey em 10000 30 (keyV p)).run Try.prog w = .ok () w := by
  obtain ⟨a, n⟩ := p
  kernel_rfl

theorem asking_px (p : PX) (w : World) : ∀ (l : List MapEntry) (E : List (PX × Nat)) (i : Nat), l.map (fun e => (e.key, e.val)) = E.map (fun x => (keyV x.1, ptV (some x.2))) →
    (Instr.findAsking 30 (keyV p) l i).run Try.prog w = .ok (fa E p i) w
  | [], [], i, _ => rfl
  | [], y :: E, i, h => by simp at h
  | e :: l, [], i, h => by simp at h
  | e :: l, y :: E, i, h => by
    simp only [List.map_cons, List.cons.injEq, Prod.mk.injEq] at h
    obtain ⟨⟨h1, h2⟩, h3⟩ := h
    have ih := asking_px p w l E (i + 1) h3
    simp only [Instr.findAsking, Sem.run_bind, h1, equal_px, Result.andThen_ok, fa]
    by_cases e1 : y.1 = p
    · simp [e1, h2]
    · simp only [e1, decide_false, Bool.false_eq_true, if_false]; exact ih

theorem find_px (p : PX) (w : World) (l : List MapEntry) (E : List (PX × Nat)) (h : l.map (fun e => (e.key, e.val)) = E.map (fun x => (keyV x.1, ptV (some x.2)))) :
    (Instr.findKey 30 (keyV p) l).run Try.prog w = .ok (fa E p 0) w := by
  have ha := asking_px p w l E 0 h
  unfold Instr.findKey
  simp only [Sem.run_bind, run_underlying Try.underlying30, Result.andThen_ok]
  cases l with
  | nil =>
    cases E with
    | nil => rfl
    | cons y E => simp at h
  | cons e l =>
    have : ∀ fs, Instr.findNow (.struct fs) (keyV p) (e :: l) 0 = none := fun fs => by simp [Instr.findNow, Instr.sameNow]
    rw [this]
    exact ha

theorem fa_lk (E : List (PX × Nat)) (p : PX) : ∀ i, (fa E p i).map (·.2) = (lk E p).map fun b => ptV (some b) := by
  induction E with
  | nil => intro i; rfl
  | cons x E ih => intro i; simp only [fa, lk]; split; rfl; exact ih _

theorem zero_ptr (w : World) : (zeroValue 77).run Try.prog w = .ok (.pointer none) w := by kernel_rfl

/-- What a prefix leads to. -/
theorem look_px {w : World} {mb : Nat} {E : List (PX × Nat)} (h : MapAt w mb E) (p : PX) : (Instr.lookup 59 (.map (some mb)) (keyV p) false).run Try.prog w = .ok (ptV (lk E p)) w := by
  obtain ⟨es, clock, hb, he⟩ := h
  have hf := fa_lk E p 0
  simp only [Instr.lookup, Sem.run_bind, run_underlying Try.underlying59, Result.andThen_ok, MapKept.run_getObj_map hb, check_px, Sem.run_pure, find_px p w _ E he]
  cases hfa : fa E p 0 with
  | none =>
    rw [hfa] at hf
    have : lk E p = none := by
      cases hl : lk E p with
      | none => rfl
      | some b => rw [hl] at hf; cases hf
    rw [this]
    simp only [Sem.run_bind, zero_ptr, Result.andThen_ok, Sem.run_pure]
    rfl
  | some x =>
    obtain ⟨i, v⟩ := x
    rw [hfa] at hf
    simp only [Option.map_some] at hf
    cases hl : lk E p with
    | none => rw [hl] at hf; simp at hf
    | some b =>
      rw [hl] at hf
      simp only [Option.map_some, Option.some.injEq] at hf
      simp only [Sem.run_bind, Sem.run_pure, Result.andThen_ok, hf]
      rfl

theorem look_nil (w : World) (p : PX) : (Instr.lookup 59 (.map none) (keyV p) false).run Try.prog w = .ok (.pointer none) w := by
  simp only [Instr.lookup, Sem.run_bind, run_underlying Try.underlying59, Result.andThen_ok, check_px, Sem.run_pure, find_px p w [] [] rfl, fa, zero_ptr]
  rfl

def setB (w : World) (b : Nat) (o : Obj) : World := { w with heap := w.heap.setIfInBounds b o }

theorem setB_ext (w : World) (b : Nat) (o : Obj) : ExtS [b] w (setB w b o) := ⟨rfl, rfl, rfl, by simp [setB], fun k hk hx => by
  have : k ≠ b := by simpa using hx
  simp [setB, this.symm]⟩

theorem setB_same {w : World} {b : Nat} {o o' : Obj} (h : w.heap[b]? = some o') : (setB w b o).heap[b]? = some o := by
  simp [setB, heap_lt h]

theorem fa_none {E : List (PX × Nat)} {p : PX} (h : lk E p = none) (i : Nat) : fa E p i = none := by
  have := fa_lk E p i
  rw [h] at this
  simpa using this

/-- A new prefix is stored. -/
theorem store_px {w : World} {mb : Nat} {E : List (PX × Nat)} (h : MapAt w mb E) (p : PX) (b : Nat) (hn : lk E p = none) :
    ∃ w', (Instr.mapUpdate 59 (.map (some mb)) (keyV p) (ptV (some b))).run Try.prog w = .ok () w' ∧ MapAt w' mb (E ++ [(p, b)]) ∧ ExtS [mb] w w' ∧ w'.heap.size = w.heap.size := by
  obtain ⟨es, clock, hb, he⟩ := h
  refine ⟨setB w mb (.map (es.push ⟨keyV p, ptV (some b), clock⟩) (clock + 1)), ?_, ⟨_, _, setB_same hb, ?_⟩, setB_ext _ _ _, by simp [setB]⟩
  · simp only [Instr.mapUpdate, Sem.run_bind, run_underlying Try.underlying59, Result.andThen_ok, MapKept.run_getObj_map hb, check_px, find_px p w _ E he, fa_none hn, MapKept.run_setObj_map _ hb, setB]
  · simp [he]

theorem fa_some {E : List (PX × Nat)} {p : PX} {b : Nat} (h : lk E p = some b) : ∀ i, ∃ j, j < E.length ∧ fa E p i = some (i + j, ptV (some b)) ∧ E.eraseIdx j = delE E p := by
  induction E with
  | nil => simp [lk] at h
  | cons x E ih =>
    intro i
    simp only [lk] at h
    split at h
    · rename_i e
      simp only [Option.some.injEq] at h
      exact ⟨0, by simp, by simp [fa, e, h], by simp [delE, e]⟩
    · rename_i e
      obtain ⟨j, h1, h2, h3⟩ := ih h (i + 1)
      refine ⟨j + 1, by simp; omega, ?_, by simp [delE, e, h3]⟩
      simp only [fa, e, if_false, h2]
      congr 2
      omega

theorem map_erase {α β : Type} (f : α → β) : ∀ (l : List α) (j : Nat), (l.eraseIdx j).map f = (l.map f).eraseIdx j
  | [], _ => by simp
  | x :: l, 0 => by simp
  | x :: l, j + 1 => by simp [map_erase f l j]

/-- A prefix that is there is deleted. -/
theorem drop_px {w : World} {mb : Nat} {E : List (PX × Nat)} (h : MapAt w mb E) (p : PX) (b : Nat) (hn : lk E p = some b) (ty : TypeId) :
    ∃ w', (Builtin.delete_ #[59, 30] ty #[.map (some mb), keyV p]).run Try.prog w = .ok (.tuple #[]) w' ∧ MapAt w' mb (delE E p) ∧ ExtS [mb] w w' ∧ w'.heap.size = w.heap.size := by
  obtain ⟨es, clock, hb, he⟩ := h
  obtain ⟨j, h1, h2, h3⟩ := fa_some hn 0
  have hl : es.size = E.length := by have := congrArg List.length he; simpa using this
  have hjs : j < es.size := by omega
  have hsub : (es.eraseIdxIfInBounds j).toList = es.toList.eraseIdx j := by
    unfold Array.eraseIdxIfInBounds
    rw [dif_pos hjs]
    simp
  refine ⟨setB w mb (.map (es.eraseIdxIfInBounds j) clock), ?_, ⟨_, _, setB_same hb, ?_⟩, setB_ext _ _ _, by simp [setB]⟩
  · rw [Nat.zero_add] at h2
    simp [Builtin.delete_, run_underlying Try.underlying59, MapKept.run_getObj_map hb, check_px, find_px p w _ E he, h2, MapKept.run_setObj_map _ hb, Result.andThen, setB]
  · rw [hsub, ← h3, map_erase, map_erase, he]

theorem len_px {w : World} {mb : Nat} {E : List (PX × Nat)} (h : MapAt w mb E) (ty : TypeId) : (Builtin.len_ #[59] ty #[.map (some mb)]).run Try.prog w = .ok (.int .i64 (E.length : Int)) w := by
  obtain ⟨es, clock, hb, he⟩ := h
  have hl : es.size = E.length := by have := congrArg List.length he; simpa using this
  simp [Builtin.len_, run_underlying Try.underlying59, MapKept.run_getObj_map hb, Result.andThen, hl]
  rfl

theorem MapAt.later {w w' : World} {mb : Nat} {E : List (PX × Nat)} {G : List Nat} (h : MapAt w mb E) (hx : ExtS G w w') (hd : mb ∉ G) : MapAt w' mb E := by
  obtain ⟨es, clock, hb, he⟩ := h
  exact ⟨es, clock, hx.heap hd hb, he⟩
end Go.Proofs.Ytlnmdlachfnmkaa.Dr
