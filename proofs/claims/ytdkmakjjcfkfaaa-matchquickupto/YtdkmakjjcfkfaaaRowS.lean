/- Rows of rules of the call's own: literals, appends, one cell written. -/
import Derived.Test.YtdkmakjjcfkfaaaMaE
import Derived.Test.YtdkmakjjcfkfaaaPut
import Derived.ArgAppend
import Derived.Deep.Upon
import Derived.Laws.AppendOwnNone
namespace Go.Proofs.Ytdkmakjjcfkfaaa.Ma
open Go.RowKit Go.Proofs.Ytdkmakjjcfkfaaa Go.Proofs.Ytdkmakjjcfkfaaa.Ru
set_option linter.unusedVariables false
set_option linter.unusedSimpArgs false
set_option maxRecDepth 100000

/-- The rules' cells, one behind the other. -/
def flatR (L : List RuleV) : List Value := L.flatMap ruleL

theorem flatR_len (L : List RuleV) : (flatR L).length = L.length * 28 := by
  unfold flatR
  induction L with
  | nil => rfl
  | cons r L ih => rw [List.flatMap_cons, List.length_append, ih, ruleL_len, List.length_cons, Nat.add_mul]; omega

theorem flatR_app (L M : List RuleV) : flatR (L ++ M) = flatR L ++ flatR M := List.flatMap_append

theorem flatR_get (L : List RuleV) (j : Nat) : (flatR L)[j]? = (L[j / 28]?).bind fun r => (ruleL r)[j % 28]? := by
  have h := Great.flat_get (s := 28) (by omega) (L.map ruleVl) (fun v hv => by obtain ⟨r, _, rfl⟩ := List.mem_map.1 hv; rfl) j
  rw [List.flatMap_map, List.getElem?_map] at h
  refine (show (flatR L)[j]? = _ from h).trans ?_
  cases L[j / 28]? with
  | none => rfl
  | some r => simp [ruleVl, Value.cells]

theorem flatR_one (L : List RuleV) : ∀ u ∈ flatR L, u.oneCell' = true := fun u hu => by
  obtain ⟨r, _, hr⟩ := List.mem_flatMap.1 hu
  exact rule_one r u hr

/-- A row of rules of the call's own: its block lies from B on. -/
def OwnR (B : Nat) (w : World) (v : Value) (L : List RuleV) : Prop := w.ownsRow B 43 28 v L.length (flatR L)

/-- A row of rules that is read. -/
structure SrcR (w : World) (p : Option Addr) (n c : Nat) (L : List RuleV) : Prop where
  row : RdK 28 ruleL w p n L
  nil : p = none → c = 0

theorem SrcR.ext {w w' : World} {p : Option Addr} {n c : Nat} {L : List RuleV} (h : SrcR w p n c L) (hx : Ext w w') : SrcR w' p n c L := ⟨h.row.ext hx, h.nil⟩

theorem add_at (b off j : Nat) : (⟨b, off, none⟩ : Addr).add j = ⟨b, off + j, none⟩ := by unfold Addr.add; split <;> simp_all

theorem SrcR.cells {w : World} {a : Addr} {n c : Nat} {L : List RuleV} (h : SrcR w (some a) n c L) : ∀ j u, (flatR L)[j]? = some u → w.cell? (a.add j) = some u := fun j u hj => by
  have hlt := (List.getElem?_eq_some_iff.1 hj).1
  rw [flatR_len, h.row.len] at hlt
  rcases h.row.2 with h0 | ⟨b, off, h0, _, hc⟩
  · omega
  · cases h0
    rw [flatR_get] at hj
    obtain ⟨r, hr, hv⟩ := Option.bind_eq_some_iff.1 hj
    have := hc _ r hr _ u hv
    rw [add_at, show off + j = off + j / 28 * 28 + j % 28 by omega]
    exact this

theorem OwnR.later {B : Nat} {w w' : World} {v : Value} {L : List RuleV} (h : OwnR B w v L) (hx : Ext w w') : OwnR B w' v L := by
  obtain ⟨hl, h⟩ := h
  refine ⟨hl, ?_⟩
  rcases h with h | ⟨g, cap, cur, rfl, hb, hg, hr⟩
  · exact .inl h
  · exact .inr ⟨g, cap, cur, rfl, hb, by rw [hx.block g (blk_lt hg)]; exact hg, hr⟩

theorem OwnR.base {B B' : Nat} {w : World} {v : Value} {L : List RuleV} (h : OwnR B w v L) (hB : B' ≤ B) : OwnR B' w v L := by
  obtain ⟨hl, h⟩ := h
  refine ⟨hl, ?_⟩
  rcases h with h | ⟨g, cap, cur, rfl, hb, hr⟩
  · exact .inl h
  · exact .inr ⟨g, cap, cur, rfl, Nat.le_trans hB hb, hr⟩

/-- It reads as its rules. -/
theorem OwnR.src {B : Nat} {w : World} {v : Value} {L : List RuleV} (h : OwnR B w v L) : ∃ q c, v = .slice q L.length c ∧ SrcR w q L.length c L := by
  obtain ⟨hl, h⟩ := h
  rcases h with ⟨rfl, h0⟩ | ⟨g, cap, cur, rfl, hb, hg, hn, _, hs, hc⟩
  · have e : L = [] := List.length_eq_zero_iff.1 h0
    subst e
    exact ⟨none, 0, rfl, rdK_nil _ _ _ _, fun _ => rfl⟩
  · refine ⟨_, cap, rfl, ⟨rfl, .inr ⟨g, 0, rfl, blk_lt hg, fun i r hi j u hj => ?_⟩⟩, fun h => by cases h⟩
    have h1 := flat_at ruleL_len L i j r u hi hj
    have h2 : (flatR L)[i * 28 + j]? = some u := h1
    have hlt := (List.getElem?_eq_some_iff.1 h2).1
    rw [flatR_len] at hlt
    rw [← hc, List.getElem?_take, if_pos hlt, Array.getElem?_toList] at h2
    rw [heap_cell hg, Nat.zero_add]
    exact h2

theorem grown_ext {w w' : World} (h : w.grownBy w' none) : Ext w w' := ⟨h.os, h.tape, h.output, h.size, fun k hk => h.block k hk (by simp)⟩

/-- What grew lies from B on: all that lies below stands. -/
theorem grown_own {B : Nat} {W w w' : World} {v : Value} {L : List RuleV} (h : OwnR B w v L) (hg : w.grownBy w' v.ownBlock) (hx : Ext W w) (hB : W.heap.size ≤ B) : Ext W w' :=
  ⟨hg.os.trans hx.os, hg.tape.trans hx.tape, hg.output.trans hx.output, Nat.le_trans hx.size hg.size, fun k hk => by
    rw [hg.block k (Nat.lt_of_lt_of_le hk hx.size) (fun e => by have := (World.ownsRow.lt h k e.symm).1; omega)]
    exact hx.block k hk⟩

section
variable {w : World} {o : Oper} {a : Act} {K : Act → World → Prop} {Q : Exit → Act → World → Prop}

/-- append(own row, row...). -/
theorem wp_app (s x : Operand) (ho : o.op = .call { callee := .builtin .append, args := #[s, x], argTypes := #[22, 22] })
    (B : Nat) (v : Value) (L : List RuleV) (hs : a.eval s = v) (hown : OwnR B w v L) (p : Option Addr) (m c : Nat) (M : List RuleV) (hx : a.eval x = .slice p m c) (hsrc : SrcR w p m c M)
    (hsm : (L.length + m) * 248 ≤ 140737488355328) (hbase : B ≤ w.heap.size)
    (h : ∀ v' w', OwnR B w' v' (L ++ M) → w.grownBy w' v.ownBlock → K (a.put o.dst v') w') : o.wp Try.prog a w K Q := by
  obtain ⟨i, z, hi, hz, hzs, hsz, hby⟩ := info_rule
  cases p with
  | none =>
    obtain rfl : c = 0 := hsrc.nil rfl
    have hm : m = 0 := by
      rcases hsrc.row.2 with h0 | ⟨b, off, h0, _⟩
      · exact h0
      · cases h0
    subst hm
    obtain rfl : M = [] := List.length_eq_zero_iff.1 hsrc.row.len
    have hrun := run_append_owned_none (P := Try.prog) (w := w) B 22 o.type 43 i 28 Try.underlying22 hi v _ _ hown
    unfold Oper.wp
    simp [execOp, ho, resolve, invoke, builtin, hs, hx, hrun, Result.andThen]
    exact h v w (by simpa using hown) ⟨rfl, rfl, rfl, Nat.le_refl _, fun _ _ _ => rfl⟩
  | some ad =>
    refine wp_append_own w s x 22 ho B 43 i z 28 248 Try.underlying22 hi hz hsz hby hzs (by omega) v L.length (flatR L) hs hown ad m c (flatR M) hx (by rw [flatR_len, hsrc.row.len]) hsrc.cells (flatR_one M) (by unfold maxLen; omega) hsm hbase ?_
    intro v' w' h1 h2 _
    refine h v' w' ?_ h2
    unfold OwnR
    rw [flatR_app, List.length_append, hsrc.row.len]
    exact h1

/-- append([]api.Rule{}, row...): nothing that is there is written. -/
theorem wp_app0 (s x : Operand) (ho : o.op = .call { callee := .builtin .append, args := #[s, x], argTypes := #[22, 22] })
    (B g : Nat) (hs : a.eval s = .slice (some ⟨g, 0, none⟩) 0 0) (hg : w.heap[g]? = some (.cells #[] 43 (0, 0))) (hB : B ≤ g) (p : Option Addr) (m c : Nat) (M : List RuleV) (hx : a.eval x = .slice p m c) (hsrc : SrcR w p m c M)
    (hsm : m * 248 ≤ 140737488355328)
    (h : ∀ v' w', OwnR B w' v' M → Ext w w' → K (a.put o.dst v') w') : o.wp Try.prog a w K Q := by
  obtain ⟨i, z, hi, hz, hzs, hsz, hby⟩ := info_rule
  have hlt := blk_lt hg
  rcases Nat.eq_zero_or_pos m with rfl | hm
  · obtain rfl : M = [] := List.length_eq_zero_iff.1 hsrc.row.len
    have hrun := run_append_nothing w 22 22 o.type 43 i Try.underlying22 hi (some ⟨g, 0, none⟩) 0 0 (Nat.le_refl _) (.slice p 0 c) (by
      cases p with
      | none => exact Src.ofNil w Try.underlying22 c
      | some ad => exact Src.ofSlice w Try.underlying22 ad 0 c [] (by simp) (by simp) (by simp))
    unfold Oper.wp
    simp only [execOp, ho, resolve, invoke, builtin, hs, hx, Sem.run_bind, Sem.run_pure, Result.andThen_ok, List.map_toArray, List.map_cons, List.map_nil, hrun]
    exact h _ w ⟨rfl, .inr ⟨g, 0, #[], rfl, hB, hg, Nat.le_refl _, by unfold maxLen; omega, rfl, rfl⟩⟩ (Ext.refl _)
  · cases p with
    | none =>
      rcases hsrc.row.2 with h0 | ⟨b, off, h0, _⟩
      · omega
      · cases h0
    | some ad =>
      obtain ⟨v', w', hr, h1, h2⟩ := run_append_arg_grows (P := Try.prog) w 22 o.type 43 i z 28 248 Try.underlying22 hi hz hsz hby hzs (by omega) ⟨g, 0, none⟩ 0 0 [] rfl (by simp) ad m c (flatR M) (by rw [flatR_len, hsrc.row.len]) hsrc.cells (by omega) (by unfold maxLen; omega) (by omega)
      unfold Oper.wp
      simp only [execOp, ho, resolve, invoke, builtin, hs, hx, Sem.run_bind, Sem.run_pure, Result.andThen_ok, List.map_toArray, List.map_cons, List.map_nil, hr]
      refine h v' w' ?_ (grown_ext h2)
      rw [Nat.zero_add, List.nil_append] at h1
      have h3 : OwnR w.heap.size w' v' M := by unfold OwnR; rw [hsrc.row.len]; exact h1
      exact h3.base (Nat.le_trans hB (Nat.le_of_lt hlt))
end

theorem OwnR.block {B : Nat} {w : World} {q : Option Addr} {n c : Nat} {M : List RuleV} (h : OwnR B w (.slice q n c) M) (h0 : 0 < n) : M.length = n ∧ ∃ (g : Nat) (cur : Array Value), q = some ⟨g, 0, none⟩ ∧ B ≤ g ∧ w.heap[g]? = some (.cells cur 43 (0, 0)) ∧ n * 28 ≤ cur.size := by
  obtain ⟨hl, h⟩ := h
  rcases h with ⟨h1, _⟩ | ⟨g, cap, cur, h1, hb, hg, hn, _, hs, _⟩
  · cases h1; omega
  · simp only [Value.slice.injEq] at h1
    obtain ⟨rfl, h2, rfl⟩ := h1
    exact ⟨h2.symm, g, cur, rfl, hb, hg, by rw [hs]; have := Nat.mul_le_mul_right 28 hn; rw [← h2] at this; exact this⟩

theorem OwnR.rd {B : Nat} {w : World} {q : Option Addr} {n c : Nat} {M : List RuleV} (h : OwnR B w (.slice q n c) M) : M.length = n ∧ SrcR w q n c M := by
  obtain ⟨q', c', h1, h2⟩ := h.src
  simp only [Value.slice.injEq] at h1
  obtain ⟨rfl, rfl, rfl⟩ := h1
  exact ⟨rfl, h2⟩

theorem text_size : (Try.prog.info? 9).map (·.size) = some ([Value.string ⟨#[]⟩] : List Value).length := by kernel_rfl

theorem bool_size : (Try.prog.info? 4).map (·.size) = some ([Value.bool false] : List Value).length := by kernel_rfl

/-- A rule that is not quick. -/
def offQ (r : RuleV) : RuleV := { r with quick := false }

theorem flatR_set : ∀ (L : List RuleV) (j : Nat) (r : RuleV), L[j]? = some r → flatR (L.set j (offQ r)) = (flatR L).set (j * 28 + 2) (.bool false)
  | [], j, r, h => by simp at h
  | y :: L, 0, r, h => by
    simp only [List.getElem?_cons_zero, Option.some.injEq] at h
    subst h
    rfl
  | y :: L, j + 1, r, h => by
    rw [List.getElem?_cons_succ] at h
    have ih := flatR_set L j r h
    unfold flatR at ih ⊢
    rw [List.set_cons_succ, List.flatMap_cons, List.flatMap_cons, ih, List.set_append_right _ _ (by rw [ruleL_len]; omega), ruleL_len, show (j + 1) * 28 + 2 - 28 = j * 28 + 2 by omega]

/-- One cell of an own row written: a rule is quick no more. -/
theorem own_set {B g c : Nat} {w w' : World} {L : List RuleV} {cur : Array Value} {j : Nat} {r : RuleV} (h : OwnR B w (.slice (some ⟨g, 0, none⟩) L.length c) L) (hg : w.heap[g]? = some (.cells cur 43 (0, 0))) (hj : L[j]? = some r)
    (hw : w'.heap[g]? = some (.cells (cur.toList.take (j * 28 + 2) ++ [Value.bool false] ++ cur.toList.drop (j * 28 + 2 + 1)).toArray 43 (0, 0))) : OwnR B w' (.slice (some ⟨g, 0, none⟩) L.length c) (L.set j (offQ r)) := by
  obtain ⟨hl, h⟩ := h
  have hjl := (List.getElem?_eq_some_iff.1 hj).1
  rcases h with ⟨h0, _⟩ | ⟨g', cap, cur', he, hb, hcur, hn, hm, hs, hc⟩
  · cases h0
  · cases he
    rw [hg] at hcur
    cases hcur
    have hk : j * 28 + 2 < cur.toList.length := by rw [Array.length_toList, hs]; omega
    have e : cur.toList.take (j * 28 + 2) ++ [Value.bool false] ++ cur.toList.drop (j * 28 + 2 + 1) = cur.toList.set (j * 28 + 2) (.bool false) := by
      rw [List.set_eq_take_append_cons_drop, if_pos hk, List.append_assoc]; rfl
    rw [e] at hw
    refine ⟨by rw [flatR_len], .inr ⟨g, c, (cur.toList.set (j * 28 + 2) (Value.bool false)).toArray, by rw [List.length_set], hb, hw, by rw [List.length_set]; exact hn, hm, by simp [hs], ?_⟩⟩
    rw [List.length_set, flatR_set L j r hj, ← hc]
    show ((cur.toList.set (j * 28 + 2) (Value.bool false)).take (L.length * 28)) = _
    rw [List.take_set]

/-- A name and one letter more. -/
theorem more_list (s : ByteArray) : (s ++ ⟨#[120]⟩).toList = s.toList ++ [120] := by
  rw [ByteArray.toList_eq, ByteArray.toList_eq]; simp

theorem more_ne (s : ByteArray) : (s ++ ⟨#[120]⟩).toList ≠ [] ∧ (s ++ ⟨#[120]⟩).toList ≠ s.toList := by
  rw [more_list]
  exact ⟨by simp, by simp⟩

/-- What a machine reaches. -/
theorem rule_bytes : Try.prog.bytesOf 43 = 248 := by kernel_rfl

theorem reach_rules {n : Nat} (h : n * Try.prog.bytesOf 43 ≤ reachBytes) : n * 248 ≤ 140737488351232 := by
  rw [rule_bytes] at h
  exact Nat.le_trans h (by decide)

/-- Without quick rules: the last one that means the packet, or none. -/
theorem last_none {f : RuleV → Bool} : ∀ (L : List RuleV) (last : Int) (i : Nat), (∀ r ∈ L, r.quick = false) → (lastK f L last i = last ∧ ∀ r ∈ L, f r = false) ∨ ∃ (j : Nat) (r : RuleV), lastK f L last i = ((i + j : Nat) : Int) ∧ L[j]? = some r ∧ f r = true ∧ ∀ r' ∈ L.drop (j + 1), f r' = false
  | [], last, i, _ => .inl ⟨rfl, by simp⟩
  | x :: L, last, i, h => by
    have hx : x.quick = false := h x (by simp)
    cases hf : f x with
    | false =>
      have e : lastK f (x :: L) last i = lastK f L last (i + 1) := by
        show (if f x = true then if x.quick = true then (i : Int) else lastK f L (i : Int) (i + 1) else lastK f L last (i + 1)) = _
        rw [hf, if_neg (by decide)]
      rcases last_none L last (i + 1) (fun r hr => h r (by simp [hr])) with ⟨h1, h2⟩ | ⟨j, r, h1, h2, h3, h4⟩
      · exact .inl ⟨e.trans h1, fun r hr => by rcases List.mem_cons.1 hr with rfl | hr; exact hf; exact h2 r hr⟩
      · exact .inr ⟨j + 1, r, by rw [e, h1]; congr 1; omega, by simpa using h2, h3, by simpa using h4⟩
    | true =>
      have e : lastK f (x :: L) last i = lastK f L (i : Int) (i + 1) := by
        show (if f x = true then if x.quick = true then (i : Int) else lastK f L (i : Int) (i + 1) else lastK f L last (i + 1)) = _
        rw [hf, if_pos rfl, hx, if_neg (by decide)]
      rcases last_none L (i : Int) (i + 1) (fun r hr => h r (by simp [hr])) with ⟨h1, h2⟩ | ⟨j, r, h1, h2, h3, h4⟩
      · exact .inr ⟨0, x, by rw [e, h1]; rfl, rfl, hf, by simpa using h2⟩
      · exact .inr ⟨j + 1, r, by rw [e, h1]; congr 1; omega, by simpa using h2, h3, by simpa using h4⟩

theorem offQ_map (L : List RuleV) (j : Nat) (r : RuleV) (h : L[j]? = some r) : ((L.take j).map offQ ++ L.drop j).set j (offQ r) = (L.take (j + 1)).map offQ ++ L.drop (j + 1) := by
  obtain ⟨hj, rfl⟩ := List.getElem?_eq_some_iff.1 h
  have hl : ((L.take j).map offQ).length = j := by rw [List.length_map, List.length_take]; omega
  rw [List.set_append_right _ _ (by rw [hl]; exact Nat.le_refl _), hl, Nat.sub_self, List.drop_eq_getElem_cons hj, List.set_cons_zero, List.take_add_one, List.getElem?_eq_getElem hj, List.map_append]
  simp

theorem offQ_at (L : List RuleV) (j : Nat) (r : RuleV) (h : L[j]? = some r) : ((L.take j).map offQ ++ L.drop j)[j]? = some r := by
  have hj := (List.getElem?_eq_some_iff.1 h).1
  have hl : ((L.take j).map offQ).length = j := by rw [List.length_map, List.length_take]; omega
  rw [List.getElem?_append_right (by rw [hl]; exact Nat.le_refl _), hl, Nat.sub_self, List.getElem?_drop, Nat.add_zero]
  exact h

theorem offQ_len (L : List RuleV) (j : Nat) : ((L.take j).map offQ ++ L.drop j).length = L.length := by
  rw [List.length_append, List.length_map, List.length_take, List.length_drop]; omega

theorem rdL_src {w : World} {p : Option Addr} {n c : Nat} {L : List RuleV} (h : SrcR w p n c L) (hn : n ≤ 9223372036854775807) (ho : ∀ r ∈ L, RuOk r) : RdL w p n L := ⟨h.row, hn, ho⟩
end Go.Proofs.Ytdkmakjjcfkfaaa.Ma
