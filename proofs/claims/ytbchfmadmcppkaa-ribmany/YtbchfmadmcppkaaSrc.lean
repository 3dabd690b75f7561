/- Rows that are read out of (parts of slices), and appended to rows of the call's own. -/
import Derived.Test.YtbchfmadmcppkaaRowP
import Derived.ArgAppend
import Derived.Deep.Upon
namespace Go.Proofs.Ytbchfmadmcppkaa.Tri
set_option maxRecDepth 100000
open Go.RowKit Go.Proofs.Ytbchfmadmcppkaa
set_option linter.unusedVariables false

/-- The slice (p, m, c) reads as the cells xs, k to an element. -/
structure Src (w : World) (k : Nat) (p : Option Addr) (m c : Nat) (xs : List Value) : Prop where
  len : xs.length = m * k
  nil : p = none → c = 0
  one : ∀ u ∈ xs, u.oneCell' = true
  cells : m = 0 ∨ ∃ b off, p = some ⟨b, off, none⟩ ∧ ∀ (j : Nat) (u : Value), xs[j]? = some u → w.cell? ⟨b, off + j, none⟩ = some u

theorem Src.later {w w' : World} {k : Nat} {p : Option Addr} {m c : Nat} {xs : List Value} (h : Src w k p m c xs) (hc : ∀ b off, p = some ⟨b, off, none⟩ → 0 < m → w'.heap[b]? = w.heap[b]?) : Src w' k p m c xs := by
  refine ⟨h.len, h.nil, h.one, ?_⟩
  rcases h.cells with h0 | ⟨b, off, rfl, hcell⟩
  · exact .inl h0
  · rcases Nat.eq_zero_or_pos m with hm | hm
    · exact .inl hm
    · refine .inr ⟨b, off, rfl, fun j u hj => ?_⟩
      have := hcell j u hj
      unfold World.cell? at this ⊢
      rw [hc b off rfl hm]
      exact this

theorem Src.ext {w w' : World} {k : Nat} {p : Option Addr} {m c : Nat} {xs : List Value} (h : Src w k p m c xs) (hk : 0 < k) (hx : Ext w w') : Src w' k p m c xs := by
  refine h.later fun b off hp hm => ?_
  rcases h.cells with h0 | ⟨b', off', hp', hcell⟩
  · omega
  · rw [hp] at hp'
    cases hp'
    have hl := h.len
    have hpos : 0 < xs.length := by rw [hl]; exact Nat.mul_pos hm hk
    have := hcell 0 _ (List.getElem?_eq_getElem hpos)
    exact hx.block b (block_lt this)

theorem Src.extS {w w' : World} {k : Nat} {p : Option Addr} {m c : Nat} {xs : List Value} {F : List Nat} (h : Src w k p m c xs) (hk : 0 < k) (hx : ExtS F w w') (hb : ∀ b off, p = some ⟨b, off, none⟩ → b ∉ F) : Src w' k p m c xs := by
  refine h.later fun b off hp hm => ?_
  rcases h.cells with h0 | ⟨b', off', hp', hcell⟩
  · omega
  · rw [hp] at hp'
    cases hp'
    have hl := h.len
    have hpos : 0 < xs.length := by rw [hl]; exact Nat.mul_pos hm hk
    have := hcell 0 _ (List.getElem?_eq_getElem hpos)
    exact hx.block b (block_lt this) (hb b off hp)

theorem src_own {w : World} {B : Nat} {e : TypeId} {k : Nat} {a : Option Addr} {n c : Nat} {xs : List Value} (h : w.ownsRow B e k (.slice a n c) n xs) (h1 : ∀ u ∈ xs, u.oneCell' = true) : Src w k a n c xs := by
  obtain ⟨hl, h⟩ := h
  rcases h with ⟨h, h0⟩ | ⟨g, cap, cur, h, _, hg, hn, _, hs, hc⟩
  · cases h; exact ⟨hl, fun _ => rfl, h1, .inl rfl⟩
  · cases h
    refine ⟨hl, by simp, h1, .inr ⟨g, 0, rfl, fun j u hj => ?_⟩⟩
    have hjl := (List.getElem?_eq_some_iff.1 hj).1
    rw [heap_cell hg, Nat.zero_add, ← Array.getElem?_toList]
    rw [← hc, List.getElem?_take, if_pos (by omega)] at hj
    exact hj

theorem Src.take {w : World} {k : Nat} {a : Option Addr} {n c : Nat} {xs : List Value} (h : Src w k a n c xs) {j : Nat} (hj : j ≤ n) : Src w k a j c (xs.take (j * k)) := by
  refine ⟨?_, h.nil, fun u hu => h.one u (List.mem_of_mem_take hu), ?_⟩
  · rw [List.length_take, h.len]
    exact Nat.min_eq_left (Nat.mul_le_mul_right k hj)
  · rcases h.cells with h0 | ⟨b, off, rfl, hcell⟩
    · exact .inl (by omega)
    · refine .inr ⟨b, off, rfl, fun i u hi => hcell i u ?_⟩
      rw [List.getElem?_take] at hi
      split at hi
      · exact hi
      · cases hi

/-- a[j:] -/
theorem Src.drop {w : World} {k g : Nat} {n c : Nat} {xs : List Value} (h : Src w k (some ⟨g, 0, none⟩) n c xs) {j : Nat} (hj : j ≤ n) (hn : n ≤ c) :
    ∃ p, (if c = j then (some ⟨g, 0, none⟩ : Option Addr) else some ⟨g, j * k, none⟩) = some p ∧ Src w k (some p) (n - j) (c - j) (xs.drop (j * k)) := by
  have hl : (xs.drop (j * k)).length = (n - j) * k := by rw [List.length_drop, h.len, Nat.sub_mul]
  by_cases hc : c = j
  · exact ⟨_, by rw [if_pos hc], hl, by simp, fun u hu => h.one u (List.mem_of_mem_drop hu), .inl (by omega)⟩
  · refine ⟨_, by rw [if_neg hc], hl, by simp, fun u hu => h.one u (List.mem_of_mem_drop hu), .inr ⟨g, j * k, rfl, fun i u hi => ?_⟩⟩
    rcases h.cells with h0 | ⟨b, off, hp, hcell⟩
    · rw [List.getElem?_eq_none (by rw [hl]; simp [h0])] at hi; cases hi
    · cases hp
      have := hcell (j * k + i) u (by rw [List.getElem?_drop] at hi; exact hi)
      rwa [Nat.zero_add] at this

/-- A row stays where one of another type grows. -/
theorem owns_kept {w w' : World} {B B' : Nat} {e e' : TypeId} {k k' : Nat} {v v' : Value} {n n' : Nat} {xs xs' : List Value} (h : w.ownsRow B e k v n xs) (h' : w.ownsRow B' e' k' v' n' xs') (he : e ≠ e') (hg : w.grownBy w' v'.ownBlock) : w'.ownsRow B e k v n xs := by
  obtain ⟨hl, h⟩ := h
  refine ⟨hl, ?_⟩
  rcases h with h | ⟨g, cap, cur, rfl, hb, hcur, h1, h2, h3, h4⟩
  · exact .inl h
  · refine .inr ⟨g, cap, cur, rfl, hb, ?_, h1, h2, h3, h4⟩
    rw [hg.block g (heap_lt hcur) ?_]
    · exact hcur
    · intro e2
      obtain ⟨_, _, cur2, hc2⟩ := owns_block h' e2.symm
      rw [hcur] at hc2
      cases hc2
      exact he rfl

/-- An empty literal. -/
theorem own_lit0 {w : World} {B g : Nat} {e : TypeId} {k : Nat} (h : w.heap[g]? = some (.cells #[] e (0, 0))) (hb : B ≤ g) : w.ownsRow B e k (.slice (some ⟨g, 0, none⟩) 0 0) 0 [] :=
  ⟨by simp, .inr ⟨g, 0, #[], rfl, hb, h, Nat.le_refl _, by unfold maxLen; omega, by simp, by simp⟩⟩

theorem src_lit2 {w : World} {g : Nat} {c m : Int} {e : TypeId} (h : w.heap[g]? = some (.cells #[.int .u32 c, .int .i64 m] e (0, 0))) : Src w 2 (some ⟨g, 0, none⟩) 1 1 [.int .u32 c, .int .i64 m] :=
  ⟨rfl, by simp, fun u hu => by simp only [List.mem_cons, List.not_mem_nil, or_false] at hu; rcases hu with rfl | rfl <;> rfl, .inr ⟨g, 0, rfl, fun j u hj => by
    rw [heap_cell h, Nat.zero_add]
    match j, hj with
    | 0, hj => exact hj
    | 1, hj => exact hj
    | j + 2, hj => simp at hj⟩⟩

theorem src_lit1 {w : World} {g : Nat} {v : Int} {e : TypeId} (h : w.heap[g]? = some (.cells #[.int .i64 v] e (0, 0))) : Src w 1 (some ⟨g, 0, none⟩) 1 1 [.int .i64 v] :=
  ⟨rfl, by simp, fun u hu => by simp only [List.mem_cons, List.not_mem_nil, or_false] at hu; subst hu; rfl, .inr ⟨g, 0, rfl, fun j u hj => by
    rw [heap_cell h, Nat.zero_add]
    match j, hj with
    | 0, hj => exact hj
    | j + 1, hj => simp at hj⟩⟩

section
variable {w : World} {o : Oper} {a : Act} {K : Act → World → Prop} {Q : Exit → Act → World → Prop}

/-- .. of numbers. -/
theorem wp_app_int (s x : Operand) (ho : o.op = .call { callee := .builtin .append, args := #[s, x], argTypes := #[77, 77] })
    (B : Nat) (v : Value) (n : Nat) (xs : List Value) (hs : a.eval s = v) (hown : w.ownsRow B 3 1 v n xs) (p : Option Addr) (m c : Nat) (ys : List Value) (hx : a.eval x = .slice p m c) (hsrc : Src w 1 p m c ys)
    (hsm : n + m ≤ 10000000) (hbase : B ≤ w.heap.size)
    (h : ∀ v' w', w'.ownsRow B 3 1 v' (n + m) (xs ++ ys) → w.grownBy w' v.ownBlock → (v' = .slice none 0 0 ↔ v = .slice none 0 0 ∧ m = 0) → K (a.put o.dst v') w') : o.wp Try.prog a w K Q := by
  obtain ⟨i, hi, hz, hsz, hby⟩ := info_int
  cases p with
  | none =>
    obtain rfl : c = 0 := hsrc.nil rfl
    have hm : m = 0 := by
      rcases hsrc.cells with h0 | ⟨b, off, h0, _⟩
      · exact h0
      · cases h0
    subst hm
    obtain rfl : ys = [] := List.length_eq_zero_iff.1 (by rw [hsrc.len])
    have hrun := run_append_owned_none (P := Try.prog) (w := w) B 77 o.type 3 i 1 Try.underlying77 hi v n _ hown
    unfold Oper.wp
    simp [execOp, ho, resolve, invoke, builtin, hs, hx, hrun, Result.andThen]
    exact h v w (by simpa using hown) ⟨rfl, rfl, rfl, Nat.le_refl _, fun _ _ _ => rfl⟩ (by simp)
  | some ad =>
    refine wp_append_own w s x 77 ho B 3 i _ 1 8 Try.underlying77 hi hz hsz hby rfl (by omega) v n xs hs hown ad m c ys hx hsrc.len ?_ hsrc.one (by unfold maxLen; omega) (by omega) hbase ?_
    · intro j u hj
      rcases hsrc.cells with h0 | ⟨b, off, h0, hcell⟩
      · have hy : ys = [] := List.length_eq_zero_iff.1 (by rw [hsrc.len, h0, Nat.zero_mul])
        rw [hy] at hj; simp at hj
      · cases h0
        have := hcell j u hj
        have hadd : (⟨b, off, none⟩ : Addr).add j = ⟨b, off + j, none⟩ := by unfold Addr.add; split <;> simp_all
        rw [hadd]; exact this
    · exact h
/-- append([]T{}, part...): new memory, or the literal itself. -/
theorem wp_app_lit (s x : Operand) (t e : TypeId) (i : TypeInfo) (z : Value) (size bytes : Nat) (ho : o.op = .call { callee := .builtin .append, args := #[s, x], argTypes := #[t, t] }) (ht : Try.prog.underlying t = some (.slice e)) (hi : Try.prog.info? e = some i)
    (hz : i.zero = some z) (hsize : i.size = size) (hby : i.bytes = bytes) (hzs : z.cells.size = size) (hsz : 0 < size) (hb16 : bytes ≤ 16)
    (g : Nat) (hs : a.eval s = .slice (some ⟨g, 0, none⟩) 0 0) (hg : w.heap[g]? = some (.cells #[] e (0, 0))) (B : Nat) (hB : B ≤ g)
    (p : Option Addr) (m c : Nat) (ys : List Value) (hx : a.eval x = .slice p m c) (hsrc : Src w size p m c ys) (hsm : m ≤ 10000000)
    (h : ∀ v' w', w'.ownsRow B e size v' m ys → v' ≠ .slice none 0 0 → Ext w w' → K (a.put o.dst v') w') : o.wp Try.prog a w K Q := by
  have hlt := heap_lt hg
  by_cases hm : m = 0
  · subst hm
    obtain rfl : ys = [] := List.length_eq_zero_iff.1 (by rw [hsrc.len, Nat.zero_mul])
    have hr := run_append_nothing (P := Try.prog) w t t o.type e i ht hi (some ⟨g, 0, none⟩) 0 0 (Nat.le_refl _) (.slice p 0 c) (by
      cases p with
      | none => exact Go.Src.ofNil w ht c
      | some a => exact Go.Src.ofSlice w ht a 0 c [] (by simp) (by simp) (by simp))
    unfold Oper.wp execOp
    simp only [ho, resolve, invoke, builtin, Sem.run_bind, Sem.run_pure, Result.andThen_ok, List.map_toArray, List.map_cons, List.map_nil, hs, hx, hr]
    exact h _ w (own_lit0 hg hB) (by simp) (Ext.refl w)
  · obtain ⟨b, off, rfl, hcell⟩ : ∃ b off, p = some ⟨b, off, none⟩ ∧ ∀ (j : Nat) (u : Value), ys[j]? = some u → w.cell? ⟨b, off + j, none⟩ = some u := by
      rcases hsrc.cells with h0 | ⟨b, off, h0, h1⟩
      · exact absurd h0 hm
      · exact ⟨b, off, h0, h1⟩
    have hmb : (0 + m) * bytes ≤ 140737488355328 := by
      have := Nat.mul_le_mul_left m hb16
      rw [Nat.zero_add]
      omega
    obtain ⟨v', w', hr, ho', hgr⟩ := run_append_arg_grows (P := Try.prog) w t o.type e i z size bytes ht hi hz hsize hby hzs hsz ⟨g, 0, none⟩ 0 0 [] (by simp) (by simp) ⟨b, off, none⟩ m c ys hsrc.len (fun j u hj => by
      have hadd : (⟨b, off, none⟩ : Addr).add j = ⟨b, off + j, none⟩ := by unfold Addr.add; split <;> simp_all
      rw [hadd]; exact hcell j u hj) (by omega) (by unfold maxLen; omega) hmb
    unfold Oper.wp execOp
    simp only [ho, resolve, invoke, builtin, Sem.run_bind, Sem.run_pure, Result.andThen_ok, List.map_toArray, List.map_cons, List.map_nil, hs, hx, hr]
    rw [Nat.zero_add, List.nil_append] at ho'
    refine h v' w' (owns_base ho' (by omega)) ?_ (Below.grown (Ext.refl w) hgr (Nat.le_refl _) (fun k hk => by cases hk))
    rintro rfl
    obtain ⟨_, h1⟩ := ho'
    rcases h1 with ⟨_, h1⟩ | ⟨g, cap, cur, h1, _⟩
    · exact hm h1
    · cases h1

theorem wp_app_lit_int (s x : Operand) (ho : o.op = .call { callee := .builtin .append, args := #[s, x], argTypes := #[77, 77] })
    (g : Nat) (hs : a.eval s = .slice (some ⟨g, 0, none⟩) 0 0) (hg : w.heap[g]? = some (.cells #[] 3 (0, 0))) (B : Nat) (hB : B ≤ g)
    (p : Option Addr) (m c : Nat) (ys : List Value) (hx : a.eval x = .slice p m c) (hsrc : Src w 1 p m c ys) (hsm : m ≤ 10000000)
    (h : ∀ v' w', w'.ownsRow B 3 1 v' m ys → v' ≠ .slice none 0 0 → Ext w w' → K (a.put o.dst v') w') : o.wp Try.prog a w K Q := by
  obtain ⟨i, hi, hz, hsz, hby⟩ := info_int
  exact wp_app_lit s x _ _ i _ 1 8 ho Try.underlying77 hi hz hsz hby rfl (by omega) (by omega) g hs hg B hB p m c ys hx hsrc hsm h
end
end Go.Proofs.Ytbchfmadmcppkaa.Tri
