/- A statement that leaves its order open and ends in stores that wait for all that is read: one walk serves every order. -/
import Derived.Test.YtdkmakjjcfkfaaaGrow
namespace Go.Proofs.Ytdkmakjjcfkfaaa
open Go.RowKit

theorem Ext.heap {A B : World} (hx : Ext A B) {b : Nat} {o : Obj} (h : A.heap[b]? = some o) : B.heap[b]? = some o := by
  have hlt : b < A.heap.size := by
    rcases Nat.lt_or_ge b A.heap.size with hl | hl
    · exact hl
    · simp [Array.getElem?_eq_none hl] at h
  exact (hx.block b hlt).trans h

section
variable {P : Program} {ops : Array Oper} {Q : Exit → Act → World → Prop} {R : World → World → Prop} {md : Region.Mode} {S : World → Prop} {T : List Nat}

/-- Whatever order is picked: S holds behind every operation but those of T. -/
def wpAnyL (P : Program) (md : Region.Mode) (ops : Array Oper) (Q : Exit → Act → World → Prop) (S : World → Prop) (T : List Nat) : Nat → Array Bool → Act → World → Prop
  | 0, listed, a, w => Region.ready md ops listed = [] ∧ Q .normal a w
  | fuel + 1, listed, a, w =>
    (Region.ready md ops listed = [] → Q .normal a w) ∧
    ∀ i ∈ Region.ready md ops listed, wpOp P ops Q i (fun a' w' => (T.contains i = false → S w') ∧ wpAnyL P md ops Q S T fuel (listed.setIfInBounds i true) a' w') a w

theorem wpAny_of_L : ∀ (fuel : Nat) (listed : Array Bool) (a : Act) (w : World), wpAnyL P md ops Q S T fuel listed a w → wpAny P md ops Q fuel listed a w
  | 0, _, _, _, h => h
  | fuel + 1, _, _, _, h => ⟨h.1, fun i hi => wpOp_mono (fun a' w' h' => wpAny_of_L fuel _ a' w' h'.2) (h.2 i hi)⟩

theorem wpAnyL_mono {S S' : World → Prop} (h : ∀ w, S w → S' w) : ∀ (fuel : Nat) (listed : Array Bool) (a : Act) (w : World),
    wpAnyL P md ops Q S T fuel listed a w → wpAnyL P md ops Q S' T fuel listed a w
  | 0, _, _, _, H => H
  | fuel + 1, _, _, _, H => ⟨H.1, fun i hi => wpOp_mono (fun a' w' h' => ⟨fun ht => h _ (h'.1 ht), wpAnyL_mono h fuel _ a' w' h'.2⟩) (H.2 i hi)⟩

theorem wpAnyL_done {listed : Array Bool} {a : Act} {w : World} (hr : Region.ready md ops listed = []) (h : Q .normal a w) :
    ∀ fuel, wpAnyL P md ops Q S T fuel listed a w
  | 0 => ⟨hr, h⟩
  | _ + 1 => ⟨fun _ => h, by rw [hr]; simp⟩

/-- A read for which all of T wait, maybe by way of others (D), may be taken first. -/
theorem wpAnyL_first {i : Nat} {oi : Oper} {v : Value} (hi : ops[i]? = some oi) (hsel : ∀ (j : Nat) (o : Oper) cs b, ops[j]? = some o → o.op ≠ .select cs b)
    (hQ : ∀ c a w, Q (.panic c) (a.put oi.dst v) w → Q (.panic c) a w) (D : List Nat) (hTD : ∀ j, T.contains j = true → D.contains j = true)
    (hD : ∀ j oj, ops[j]? = some oj → D.contains j = true → j = i ∨ ∃ e ∈ oj.after, Region.binds md e = true ∧ D.contains e.on = true) :
    ∀ (fuel : Nat) (listed : Array Bool) (a : Act) (w : World), (∀ j, D.contains j = true → listed.getD j true = false) →
      (∀ j oj, ops[j]? = some oj → j ≠ i → listed.getD j true = false → (∀ e ∈ oj.after, Region.binds md e = true → e.on ≠ i) → oi.apart ops oj = true) →
      i ∈ Region.ready md ops listed → YieldsIf P ops S oi v a → S w →
      wpAnyL P md ops Q S T fuel (listed.setIfInBounds i true) (a.put oi.dst v) w → wpAnyL P md ops Q S T (fuel + 1) listed a w := by
  intro fuel
  induction fuel with
  | zero =>
    intro listed a w _ _ hr hy hS H
    refine ⟨fun h => (by rw [h] at hr; cases hr), fun j hj => ?_⟩
    by_cases hji : j = i
    · subst hji; exact hy.wpOp hi hS ⟨fun _ => hS, H⟩
    · have := ready_mono hj hji
      rw [H.1] at this
      cases this
  | succ fuel ih =>
    intro listed a w hU hfree hr hy hS H
    refine ⟨fun h => (by rw [h] at hr; cases hr), fun j hj => ?_⟩
    by_cases hji : j = i
    · subst hji; exact hy.wpOp hi hS ⟨fun _ => hS, H⟩
    · have h1 := H.2 j (ready_mono hj hji)
      obtain ⟨hjun, oj, hoj, hall⟩ := mem_ready.1 hj
      have late : ∀ e ∈ oj.after, Region.binds md e = true → listed.getD e.on true = false → False := fun e he hb h0 => by
        have h1 := hall e he hb
        rcases Nat.lt_or_ge e.on listed.size with h' | h'
        · simp [h'] at h0 h1; rw [h0] at h1; cases h1
        · simp [Array.getElem?_eq_none h'] at h1
      have hnot : ∀ e ∈ oj.after, Region.binds md e = true → e.on ≠ i := fun e he hb heq => late e he hb (by rw [heq]; exact (mem_ready.1 hr).1)
      have hjD : D.contains j = false := by
        cases hc : D.contains j with
        | false => rfl
        | true =>
          rcases hD j oj hoj hc with h | ⟨e, he, hb, ho⟩
          · exact absurd h hji
          · exact (late e he hb (hU _ ho)).elim
      have hjT : T.contains j = false := by
        cases hc : T.contains j with
        | false => rfl
        | true => rw [hTD j hc] at hjD; cases hjD
      have h2 := wpOp_putIf hoj (hfree j oj hoj hji hjun hnot) (fun cs b => hsel i oi cs b hi) (fun cs b => hsel j oj cs b hoj) hQ hy h1
      have hU' : ∀ k, D.contains k = true → (listed.setIfInBounds j true).getD k true = false := fun k hk => by
        by_cases hjk : j = k
        · subst hjk; rw [hjD] at hk; cases hk
        · rw [getD_set_ne true hjk]; exact hU k hk
      have hfree' : ∀ k ok, ops[k]? = some ok → k ≠ i → (listed.setIfInBounds j true).getD k true = false →
          (∀ e ∈ ok.after, Region.binds md e = true → e.on ≠ i) → oi.apart ops ok = true := fun k ok hk hki hun hno => by
        refine hfree k ok hk hki ?_ hno
        by_cases hjk : j = k
        · subst hjk; exact hjun
        · rw [getD_set_ne true hjk] at hun; exact hun
      refine wpOp_mono (fun a' w' h3 => ⟨h3.2.1, ih (listed.setIfInBounds j true) a' w' hU' hfree' (ready_mono hr (Ne.symm hji)) h3.1 (h3.2.1 hjT) ?_⟩) h2
      rw [Array.setIfInBounds_comm _ _ hji]
      exact h3.2.2

/-- What waits for i, maybe by way of others. -/
def lateB (ops : Array Oper) (i : Nat) : Nat → List Nat
  | 0 => [i]
  | k + 1 => (List.range ops.size).filter fun j => (lateB ops i k).contains j || match ops[j]? with
    | none => false
    | some o => o.after.any fun e => Region.binds .any e && (lateB ops i k).contains e.on

/-- All of T wait for i. -/
def waitB (ops : Array Oper) (T : List Nat) (listed : Array Bool) (i : Nat) (D : List Nat) : Bool :=
  T.all D.contains && D.all fun j => !listed.getD j true && (j == i || match ops[j]? with
    | none => true
    | some o => o.after.any fun e => Region.binds .any e && D.contains e.on)

theorem waitB_spec {i : Nat} {listed : Array Bool} {D : List Nat} (h : waitB ops T listed i D = true) :
    (∀ j, T.contains j = true → D.contains j = true) ∧ (∀ j oj, ops[j]? = some oj → D.contains j = true → j = i ∨ ∃ e ∈ oj.after, Region.binds .any e = true ∧ D.contains e.on = true) ∧
    ∀ j, D.contains j = true → listed.getD j true = false := by
  simp only [waitB, Bool.and_eq_true] at h
  refine ⟨fun j hj => List.all_eq_true.1 h.1 j (by simpa using hj), fun j oj hoj hj => ?_, fun j hj => ?_⟩
  · have h1 := List.all_eq_true.1 h.2 j (by simpa using hj)
    simp only [Bool.and_eq_true, Bool.or_eq_true, beq_iff_eq, hoj] at h1
    rcases h1.2 with h2 | h2
    · exact .inl h2
    · obtain ⟨k, hk, hb⟩ := Array.any_eq_true.1 h2
      simp only [Bool.and_eq_true] at hb
      exact .inr ⟨_, Array.getElem_mem hk, hb.1, hb.2⟩
  · have h1 := List.all_eq_true.1 h.2 j (by simpa using hj)
    simp only [Bool.and_eq_true] at h1
    simpa using h1.1

/-- The walk: kinds as in wpE; behind it the stores of T, one by one. -/
def wpT (P : Program) (ops : Array Oper) (Q : Exit → Act → World → Prop) : List Nat → Act → World → Prop
  | [], a, W => Q .normal a W
  | i :: rest, a, W =>
    match ops[i]? with
    | none => False
    | some o => Region.wanted o (yielded ops a.tmps) = true ∧ o.wp P a W (fun a' w' => wpT P ops Q rest a' w') Q

def tailB (ops : Array Oper) : List Nat → Array Bool → Bool
  | [], listed => (Region.ready .any ops listed).isEmpty
  | i :: rest, listed => Region.ready .any ops listed == [i] && tailB ops rest (listed.setIfInBounds i true)

theorem wpAnyL_of_T (S : World → Prop) : ∀ (l : List Nat) (listed : Array Bool) (a : Act) (W : World), (∀ i ∈ l, T.contains i = true) → tailB ops l listed = true → wpT P ops Q l a W →
    wpAnyL P .any ops Q S T l.length listed a W
  | [], listed, a, W, _, he, h => wpAnyL_done (by simpa [tailB] using he) h 0
  | i :: rest, listed, a, W, hT, he, h => by
    simp only [tailB, Bool.and_eq_true, beq_iff_eq] at he
    unfold wpT at h
    split at h
    · exact h.elim
    · rename_i o ho
      refine ⟨fun h0 => (by rw [he.1] at h0; cases h0), fun j hj => ?_⟩
      rw [he.1] at hj
      obtain rfl : j = i := by simpa using hj
      unfold wpOp
      simp only [ho, h.1, if_true]
      exact .inl (Oper.wp_mono (fun a' w' hn => ⟨fun hc => absurd (hT j (by simp)) (by rw [hc]; decide), wpAnyL_of_T S rest _ a' w' (fun k hk => hT k (by simp [hk])) he.2 hn⟩) h.2)

def eagerT (ops : Array Oper) (T : List Nat) : List (Nat × Bool) → Array Bool → Bool
  | [], listed => tailB ops T listed
  | (i, c) :: rest, listed =>
    (if c then Region.ready .any ops listed == [i] && !T.contains i else (Region.free .any ops listed i && (Region.ready .any ops listed).contains i && waitB ops T listed i (lateB ops i 4))) &&
      eagerT ops T rest (listed.setIfInBounds i true)

theorem wpAnyL_of_E (rr : ∀ w, R w w) (rt : ∀ a b c, R a b → R b c → R a c) (hs : Region.noSelect ops = true) (hQ : ∀ c a d v w, Q (.panic c) (Act.put a (some d) v) w → Q (.panic c) a w) :
    ∀ (sched : List (Nat × Bool)) (listed : Array Bool) (a : Act) (W : World), eagerT ops T sched listed = true → wpE R P ops Q (wpT P ops Q T) sched a W →
      wpAnyL P .any ops Q (R W) T (sched.length + T.length) listed a W
  | [], listed, a, W, he, h => by
    have := wpAnyL_of_T (Q := Q) (P := P) (T := T) (R W) T listed a W (fun i hi => by simpa using hi) (by simpa [eagerT] using he) h
    simpa using this
  | (i, c) :: rest, listed, a, W, he, h => by
    simp only [eagerT, Bool.and_eq_true] at he
    obtain ⟨h1, h2⟩ := he
    have ih := wpAnyL_of_E rr rt hs hQ rest (listed.setIfInBounds i true)
    rw [show ((i, c) :: rest).length + T.length = (rest.length + T.length) + 1 by simp; omega]
    unfold wpE at h
    split at h
    · exact h.elim
    · rename_i o ho
      cases c with
      | false =>
        simp only [Bool.false_eq_true, if_false, Bool.and_eq_true] at h1
        obtain ⟨⟨hf, hr⟩, hw⟩ := h1
        have hq : ∀ v c a w, Q (.panic c) (a.put o.dst v) w → Q (.panic c) a w := fun v c a w h => by cases hd : o.dst with | none => rw [hd] at h; exact h | some d => rw [hd] at h; exact hQ c a d _ w h
        split at h
        · rename_i hw'
          simp only [Bool.false_eq_true, if_false] at h
          obtain ⟨v, hv, hn⟩ := h
          exact wpAnyL_first ho (Region.noSelect_spec hs) (hq v) _ (waitB_spec hw).1 (waitB_spec hw).2.1 _ _ _ _ (waitB_spec hw).2.2 (Region.free_spec ho hf) (by simpa using hr) (.inl ⟨hw', hv⟩) (rr W) (ih _ _ h2 hn)
        · rename_i hw'
          exact wpAnyL_first ho (Region.noSelect_spec hs) (hq undef) _ (waitB_spec hw).1 (waitB_spec hw).2.1 _ _ _ _ (waitB_spec hw).2.2 (Region.free_spec ho hf) (by simpa using hr) (.inr ⟨by simpa using hw', rfl⟩) (rr W) (ih _ _ h2 h)
      | true =>
        simp only [if_true, Bool.and_eq_true, beq_iff_eq] at h1
        refine ⟨fun h0 => (by rw [h1.1] at h0; cases h0), fun j hj => ?_⟩
        rw [h1.1] at hj
        obtain rfl : j = i := by simpa using hj
        unfold wpOp
        simp only [ho]
        split
        · rename_i hw
          simp only [hw, if_true] at h
          exact .inl (Oper.wp_mono (fun a' w' ⟨hx, hn⟩ => ⟨fun _ => hx, wpAnyL_mono (fun x hx' => rt _ _ _ hx hx') _ _ _ _ (ih _ _ h2 hn)⟩) h)
        · rename_i hw
          simp only [hw] at h
          exact ⟨fun _ => rr W, ih _ _ h2 h⟩

/-- **The region, by that walk, the stores of T behind all else.** -/
theorem wp_region_tail (T : List Nat) {id : Nat} {a : Act} {w : World} {l : List Oper} (sched : List (Nat × Bool)) (hm : P.follows .mixedOrders = true)
    (hs : Region.noSelect l.toArray = true) (hl : sched.length + T.length = l.toArray.size) (he : eagerT l.toArray T sched (Array.replicate l.toArray.size false) = true)
    (hQ : ∀ c a d v w, Q (.panic c) (Act.put a (some d) v) w → Q (.panic c) a w) (h : wpE Ext P l.toArray Q (wpT P l.toArray Q T) sched a w.drew) : (Code.region id l.toArray true).wp P Q a w := by
  have := wpAnyL_of_E Ext.refl (fun _ _ _ h k => h.trans k) hs hQ sched _ a w.drew he h
  rw [hl] at this
  exact wp_region_any hm (wpAny_of_L _ _ _ _ this)

theorem wpT_step {l : List Oper} {i : Nat} {rest : List Nat} {a : Act} {W : World} {o : Oper} (ho : l[i]? = some o) (hw : Region.wanted o (yielded l.toArray a.tmps) = true)
    (h : ∀ K : Act → World → Prop, (∀ a' w', wpT P l.toArray Q rest a' w' → K a' w') → o.wp P a W K Q) : wpT P l.toArray Q (i :: rest) a W := by
  unfold wpT; simp only [List.getElem?_toArray, ho]; exact ⟨hw, h _ fun _ _ hn => hn⟩

theorem wpT_done {a : Act} {W : World} (h : Q .normal a W) : wpT P ops Q [] a W := h
end
end Go.Proofs.Ytdkmakjjcfkfaaa
