/- A prefix that comes and goes; a row of what was answered. -/
import Derived.Test.YtlnmdlachfnmkaaLaw10R
namespace Go.Proofs.Ytlnmdlachfnmkaa.Dr
set_option maxRecDepth 100000
open Go.RowKit Go.Proofs.Ytlnmdlachfnmkaa Go.Proofs.Ytlnmdlachfnmkaa.Tri
set_option linter.unusedVariables false

/-- A prefix is not there. -/
def NoP (p : PX) (L : Row) : Prop := ∀ x ∈ L, x.1 ≠ p

theorem NoP.found {p : PX} {L : Row} (h : NoP p L) (hs : Srt L) : foundB L p = false := by
  cases hf : foundB L p with
  | false => rfl
  | true =>
    obtain ⟨u, hu⟩ := (found_mem hs).1 hf
    exact absurd rfl (h _ hu)

theorem NoP.del {p : PX} {L : Row} (h : NoP p L) : delL L p = L := by
  unfold delL
  refine List.filter_eq_self.2 fun x hx => ?_
  obtain ⟨⟨a, n⟩, u⟩ := x
  obtain ⟨c, m⟩ := p
  have := h _ hx
  simp only [ne_eq, Prod.mk.injEq, not_and] at this
  simp only [Bool.not_eq_true', Bool.and_eq_false_iff, beq_eq_false_iff_ne]
  by_cases e : a = c
  · exact .inr (this e)
  · exact .inl e

theorem NoP.set {p : PX} {L : Row} (h : NoP p L) (hs : Srt L) (most : Int) {q : PX} (hq : q ≠ p) (v : Int) : NoP p (setR most L q v).2 := by
  rcases setR_two most L q v with ⟨-, e⟩ | ⟨-, e⟩
  · rw [e]
    intro x hx
    rcases (set_mem hs q v x).1 hx with rfl | ⟨h1, -⟩
    · exact hq
    · exact h x h1
  · rw [e]; exact h

theorem del_set_new {p : PX} {L : Row} (h : NoP p L) (hs : Srt L) (v : Int) : delL (Tri.setL L p v) p = L := by
  rw [setL_new v (h.found hs)]
  have h1 : NoP p (L.take (placeN L p)) := fun x hx => h x (List.mem_of_mem_take hx)
  have h2 : NoP p (L.drop (placeN L p)) := fun x hx => h x (List.mem_of_mem_drop hx)
  have e1 := h1.del
  have e2 := h2.del
  unfold delL at e1 e2 ⊢
  rw [List.filter_append, List.filter_cons, e1, e2]
  simp

/-- What comes and goes leaves all as it was. -/
theorem back_row {p : PX} {L : Row} (h : NoP p L) (hs : Srt L) (most v : Int) : foundB (setR most L p v).2 p = decide ((setR most L p v).1 = 0) ∧ delL (setR most L p v).2 p = L ∧ (setR most L p v).2.length ≤ L.length + 1 := by
  refine ⟨?_, ?_, setR_len most L p v⟩
  · rcases setR_two most L p v with ⟨e0, e⟩ | ⟨e0, e⟩
    · rw [e, e0]
      simp only [decide_true]
      exact (found_mem (set_srt hs p v)).2 ⟨v, (set_mem hs p v _).2 (.inl rfl)⟩
    · rw [e, h.found hs]
      rcases e0 with e0 | e0 <;> rw [e0] <;> rfl
  · rcases setR_two most L p v with ⟨-, e⟩ | ⟨-, e⟩
    · rw [e]; exact del_set_new h hs v
    · rw [e]; exact h.del

/-- What is written down of an answer: -1 if there is none. -/
def wasO (o : Option (PX × Int)) : Int := match o with
  | none => -1
  | some x => x.2

def wasL (L : Row) (ys : List Int) : List Int := ys.map fun y => wasO (lastF none (covL L (y, 32)))

theorem wasL_next {L : Row} {ys : List Int} {k : Nat} {y : Int} (h : ys[k]? = some y) : wasL L (ys.take (k + 1)) = wasL L (ys.take k) ++ [wasO (lastF none (covL L (y, 32)))] := by
  unfold wasL
  rw [List.take_add_one, h, List.map_append]
  rfl

theorem info_int : ∃ i, Try.prog.info? 3 = some i ∧ i.zero = some (.int .i64 0) ∧ i.size = 1 ∧ i.bytes = 8 := ⟨_, rfl, by kernel_rfl, by kernel_rfl, by kernel_rfl⟩

/-- append(row, n), of ints. -/
theorem append_int1 {w : World} {ops : Array Oper} {rest : List Oper} {o : Oper} {a : Act} {Q : Exit → Act → World → Prop} (hgd : o.guard = none) (s x : Operand)
    (ho : o.op = .call { callee := .builtin .append, args := #[s, x], argTypes := #[36, 36] })
    (B : Nat) (v : Value) (L : List Int) (hs : a.eval s = v) (hown : OwnI w B v L)
    (g c : Nat) (y : Int) (hx : a.eval x = .slice (some ⟨g, 0, none⟩) 1 c) (hu : w.heap[g]? = some (.cells #[.int .i64 y] 3 (0, 0)))
    (hsm : L.length ≤ 10000000) (hbase : B ≤ w.heap.size)
    (h : ∀ v' w', OwnI w' B v' (L ++ [y]) → w.grownBy w' v.ownBlock → wpList Try.prog ops Q rest (a.put o.dst v') w') : wpList Try.prog ops Q (o :: rest) a w := by
  obtain ⟨i, hi, hz, hsz, hby⟩ := info_int
  refine wpList_append_own w hgd s x 36 ho B 3 i _ 1 8 Try.underlying36 hi hz hsz hby rfl (by omega) v L.length _ hs hown ⟨g, 0, none⟩ 1 c [.int .i64 y] hx rfl ?_ ?_ (by unfold maxLen; omega) (by omega) hbase ?_
  · intro j u hj
    match j, hj with
    | 0, hj =>
      obtain rfl : Value.int .i64 y = u := by simpa using hj
      show w.cell? ((⟨g, 0, none⟩ : Addr).add 0) = _
      rw [show (⟨g, 0, none⟩ : Addr).add 0 = ⟨g, 0, none⟩ from rfl, heap_cell hu]; rfl
    | j + 1, hj => simp at hj
  · intro u hu'
    rw [List.mem_singleton.1 hu']; rfl
  · intro v' w' h2 h3 _
    refine h v' w' ?_ h3
    unfold OwnI
    rw [List.map_append, List.length_append]
    exact h2

theorem cellSF {F : List Nat} {w w' : World} (hx : ExtS F w w') {b j : Nat} {u : Value} (hb : b < w.heap.size) (hF : b ∉ F) (h : w.cell? ⟨b, j, none⟩ = some u) : w'.cell? ⟨b, j, none⟩ = some u := by
  have := hx.block b hb hF
  unfold World.cell? at h ⊢
  rw [this]; exact h
end Go.Proofs.Ytlnmdlachfnmkaa.Dr
