/- Texts joined by a program: Src, RowR, Skip, Rib2. -/
import Derived.ArgAppend
import Derived.Deep.Upon
import Derived.Maps.AppendAt
import Derived.Laws.CopyRow
import Derived.Deep.AppendSrc
import Derived.Lib.AppendZerosOnto
import Derived.Deep.LoopGhost
import Derived.Test.YtkfhkhgiojpfoaaGreatJ1
import Derived.Test.YtkfhkhgiojpfoaaGreatJ2
import Derived.Test.YtkfhkhgiojpfoaaGreatJ3
namespace Go.Proofs.YtkfhkhgiojpfoaaGreat.Tri

set_option maxRecDepth 100000

open Go.RowKit Go.Proofs.YtkfhkhgiojpfoaaGreat

set_option linter.unusedVariables false

/-- The slice (p, m, c) reads as the cells xs, k to an element. -/
structure Src (w : World) (k : Nat) (p : Option Addr) (m c : Nat) (xs : List Value) : Prop where
  len : xs.length = m * k
  nil : p = none → c = 0
  one : ∀ u ∈ xs, u.oneCell' = true
  cells : m = 0 ∨ ∃ b off, p = some ⟨b, off, none⟩ ∧ ∀ (j : Nat) (u : Value), xs[j]? = some u → w.cell? ⟨b, off + j, none⟩ = some u

theorem Src.later {w w' : World} {k : Nat} {p : Option Addr} {m c : Nat} {xs : List Value} (h : Src w k p m c xs) (hc : ∀ b off, p = some ⟨b, off, none⟩ → 0 < m → w'.heap[b]? = w.heap[b]?) : Src w' k p m c xs := by
  refine ⟨h.len, h.nil, h.one, ?_⟩
  rcases h.cells with h0 | ⟨b, off, rfl, hcell⟩
  · exact .inl h0
  · rcases Nat.eq_zero_or_pos m with hm | hm
    · exact .inl hm
    · refine .inr ⟨b, off, rfl, fun j u hj => ?_⟩
      have := hcell j u hj
      unfold World.cell? at this ⊢
      rw [hc b off rfl hm]
      exact this

theorem Src.ext {w w' : World} {k : Nat} {p : Option Addr} {m c : Nat} {xs : List Value} (h : Src w k p m c xs) (hk : 0 < k) (hx : Ext w w') : Src w' k p m c xs := by
  refine h.later fun b off hp hm => ?_
  rcases h.cells with h0 | ⟨b', off', hp', hcell⟩
  · omega
  · rw [hp] at hp'
    cases hp'
    have hl := h.len
    have hpos : 0 < xs.length := by rw [hl]; exact Nat.mul_pos hm hk
    have := hcell 0 _ (List.getElem?_eq_getElem hpos)
    exact hx.block b (block_lt this)

theorem src_own {w : World} {B : Nat} {e : TypeId} {k : Nat} {a : Option Addr} {n c : Nat} {xs : List Value} (h : w.ownsRow B e k (.slice a n c) n xs) (h1 : ∀ u ∈ xs, u.oneCell' = true) : Src w k a n c xs := by
  obtain ⟨hl, h⟩ := h
  rcases h with ⟨h, h0⟩ | ⟨g, cap, cur, h, _, hg, hn, _, hs, hc⟩
  · cases h; exact ⟨hl, fun _ => rfl, h1, .inl rfl⟩
  · cases h
    refine ⟨hl, by simp, h1, .inr ⟨g, 0, rfl, fun j u hj => ?_⟩⟩
    have hjl := (List.getElem?_eq_some_iff.1 hj).1
    rw [heap_cell hg, Nat.zero_add, ← Array.getElem?_toList]
    rw [← hc, List.getElem?_take, if_pos (by omega)] at hj
    exact hj

theorem Src.take {w : World} {k : Nat} {a : Option Addr} {n c : Nat} {xs : List Value} (h : Src w k a n c xs) {j : Nat} (hj : j ≤ n) : Src w k a j c (xs.take (j * k)) := by
  refine ⟨?_, h.nil, fun u hu => h.one u (List.mem_of_mem_take hu), ?_⟩
  · rw [List.length_take, h.len]
    exact Nat.min_eq_left (Nat.mul_le_mul_right k hj)
  · rcases h.cells with h0 | ⟨b, off, rfl, hcell⟩
    · exact .inl (by omega)
    · refine .inr ⟨b, off, rfl, fun i u hi => hcell i u ?_⟩
      rw [List.getElem?_take] at hi
      split at hi
      · exact hi
      · cases hi

/-- a[j:] -/
theorem Src.drop {w : World} {k g : Nat} {n c : Nat} {xs : List Value} (h : Src w k (some ⟨g, 0, none⟩) n c xs) {j : Nat} (hj : j ≤ n) (hn : n ≤ c) :
    ∃ p, (if c = j then (some ⟨g, 0, none⟩ : Option Addr) else some ⟨g, j * k, none⟩) = some p ∧ Src w k (some p) (n - j) (c - j) (xs.drop (j * k)) := by
  have hl : (xs.drop (j * k)).length = (n - j) * k := by rw [List.length_drop, h.len, Nat.sub_mul]
  by_cases hc : c = j
  · exact ⟨_, by rw [if_pos hc], hl, by simp, fun u hu => h.one u (List.mem_of_mem_drop hu), .inl (by omega)⟩
  · refine ⟨_, by rw [if_neg hc], hl, by simp, fun u hu => h.one u (List.mem_of_mem_drop hu), .inr ⟨g, j * k, rfl, fun i u hi => ?_⟩⟩
    rcases h.cells with h0 | ⟨b, off, hp, hcell⟩
    · rw [List.getElem?_eq_none (by rw [hl]; simp [h0])] at hi; cases hi
    · cases hp
      have := hcell (j * k + i) u (by rw [List.getElem?_drop] at hi; exact hi)
      rwa [Nat.zero_add] at this

/-- An empty literal. -/
theorem own_lit0 {w : World} {B g : Nat} {e : TypeId} {k : Nat} (h : w.heap[g]? = some (.cells #[] e (0, 0))) (hb : B ≤ g) : w.ownsRow B e k (.slice (some ⟨g, 0, none⟩) 0 0) 0 [] :=
  ⟨by simp, .inr ⟨g, 0, #[], rfl, hb, h, Nat.le_refl _, by unfold maxLen; omega, by simp, by simp⟩⟩

section

variable {w : World} {o : Oper} {a : Act} {K : Act → World → Prop} {Q : Exit → Act → World → Prop}

/-- append(row, part...), of prefixes. -/
theorem wp_app_px (s x : Operand) (ho : o.op = .call { callee := .builtin .append, args := #[s, x], argTypes := #[34, 34] })
    (B : Nat) (v : Value) (n : Nat) (xs : List Value) (hs : a.eval s = v) (hown : w.ownsRow B 42 2 v n xs) (p : Option Addr) (m c : Nat) (ys : List Value) (hx : a.eval x = .slice p m c) (hsrc : Src w 2 p m c ys)
    (hsm : n + m ≤ 10000000) (hbase : B ≤ w.heap.size)
    (h : ∀ v' w', w'.ownsRow B 42 2 v' (n + m) (xs ++ ys) → w.grownBy w' v.ownBlock → (v' = .slice none 0 0 ↔ v = .slice none 0 0 ∧ m = 0) → K (a.put o.dst v') w') : o.wp Tryz.prog a w K Q := by
  obtain ⟨i, hi, hz, hsz, hby⟩ := info_px
  cases p with
  | none =>
    obtain rfl : c = 0 := hsrc.nil rfl
    have hm : m = 0 := by
      rcases hsrc.cells with h0 | ⟨b, off, h0, _⟩
      · exact h0
      · cases h0
    subst hm
    obtain rfl : ys = [] := List.length_eq_zero_iff.1 (by rw [hsrc.len])
    have hrun := run_append_owned_none (P := Tryz.prog) (w := w) B 34 o.type 42 i 2 Tryz.underlying34 hi v n _ hown
    unfold Oper.wp
    simp [execOp, ho, resolve, invoke, builtin, hs, hx, hrun, Result.andThen]
    exact h v w (by simpa using hown) ⟨rfl, rfl, rfl, Nat.le_refl _, fun _ _ _ => rfl⟩ (by simp)
  | some ad =>
    refine wp_append_own w s x 34 ho B 42 i _ 2 16 Tryz.underlying34 hi hz hsz hby rfl (by omega) v n xs hs hown ad m c ys hx hsrc.len ?_ hsrc.one (by unfold maxLen; omega) (by omega) hbase ?_
    · intro j u hj
      rcases hsrc.cells with h0 | ⟨b, off, h0, hcell⟩
      · have hy : ys = [] := List.length_eq_zero_iff.1 (by rw [hsrc.len, h0, Nat.zero_mul])
        rw [hy] at hj; simp at hj
      · cases h0
        have := hcell j u hj
        have hadd : (⟨b, off, none⟩ : Addr).add j = ⟨b, off + j, none⟩ := by unfold Addr.add; split <;> simp_all
        rw [hadd]; exact this
    · exact h

/-- .. of numbers. -/
theorem wp_app_int (s x : Operand) (ho : o.op = .call { callee := .builtin .append, args := #[s, x], argTypes := #[185, 185] })
    (B : Nat) (v : Value) (n : Nat) (xs : List Value) (hs : a.eval s = v) (hown : w.ownsRow B 3 1 v n xs) (p : Option Addr) (m c : Nat) (ys : List Value) (hx : a.eval x = .slice p m c) (hsrc : Src w 1 p m c ys)
    (hsm : n + m ≤ 10000000) (hbase : B ≤ w.heap.size)
    (h : ∀ v' w', w'.ownsRow B 3 1 v' (n + m) (xs ++ ys) → w.grownBy w' v.ownBlock → (v' = .slice none 0 0 ↔ v = .slice none 0 0 ∧ m = 0) → K (a.put o.dst v') w') : o.wp Tryz.prog a w K Q := by
  obtain ⟨i, hi, hz, hsz, hby⟩ := info_int
  cases p with
  | none =>
    obtain rfl : c = 0 := hsrc.nil rfl
    have hm : m = 0 := by
      rcases hsrc.cells with h0 | ⟨b, off, h0, _⟩
      · exact h0
      · cases h0
    subst hm
    obtain rfl : ys = [] := List.length_eq_zero_iff.1 (by rw [hsrc.len])
    have hrun := run_append_owned_none (P := Tryz.prog) (w := w) B 185 o.type 3 i 1 Tryz.underlying185 hi v n _ hown
    unfold Oper.wp
    simp [execOp, ho, resolve, invoke, builtin, hs, hx, hrun, Result.andThen]
    exact h v w (by simpa using hown) ⟨rfl, rfl, rfl, Nat.le_refl _, fun _ _ _ => rfl⟩ (by simp)
  | some ad =>
    refine wp_append_own w s x 185 ho B 3 i _ 1 8 Tryz.underlying185 hi hz hsz hby rfl (by omega) v n xs hs hown ad m c ys hx hsrc.len ?_ hsrc.one (by unfold maxLen; omega) (by omega) hbase ?_
    · intro j u hj
      rcases hsrc.cells with h0 | ⟨b, off, h0, hcell⟩
      · have hy : ys = [] := List.length_eq_zero_iff.1 (by rw [hsrc.len, h0, Nat.zero_mul])
        rw [hy] at hj; simp at hj
      · cases h0
        have := hcell j u hj
        have hadd : (⟨b, off, none⟩ : Addr).add j = ⟨b, off + j, none⟩ := by unfold Addr.add; split <;> simp_all
        rw [hadd]; exact this
    · exact h
/-- append([]T{}, part...): new memory, or the literal itself. -/
theorem wp_app_lit (s x : Operand) (t e : TypeId) (i : TypeInfo) (z : Value) (size bytes : Nat) (ho : o.op = .call { callee := .builtin .append, args := #[s, x], argTypes := #[t, t] }) (ht : Tryz.prog.underlying t = some (.slice e)) (hi : Tryz.prog.info? e = some i)
    (hz : i.zero = some z) (hsize : i.size = size) (hby : i.bytes = bytes) (hzs : z.cells.size = size) (hsz : 0 < size) (hb16 : bytes ≤ 16)
    (g : Nat) (hs : a.eval s = .slice (some ⟨g, 0, none⟩) 0 0) (hg : w.heap[g]? = some (.cells #[] e (0, 0))) (B : Nat) (hB : B ≤ g)
    (p : Option Addr) (m c : Nat) (ys : List Value) (hx : a.eval x = .slice p m c) (hsrc : Src w size p m c ys) (hsm : m ≤ 10000000)
    (h : ∀ v' w', w'.ownsRow B e size v' m ys → v' ≠ .slice none 0 0 → Ext w w' → K (a.put o.dst v') w') : o.wp Tryz.prog a w K Q := by
  have hlt := heap_lt hg
  by_cases hm : m = 0
  · subst hm
    obtain rfl : ys = [] := List.length_eq_zero_iff.1 (by rw [hsrc.len, Nat.zero_mul])
    have hr := run_append_nothing (P := Tryz.prog) w t t o.type e i ht hi (some ⟨g, 0, none⟩) 0 0 (Nat.le_refl _) (.slice p 0 c) (by
      cases p with
      | none => exact Go.Src.ofNil w ht c
      | some a => exact Go.Src.ofSlice w ht a 0 c [] (by simp) (by simp) (by simp))
    unfold Oper.wp execOp
    simp only [ho, resolve, invoke, builtin, Sem.run_bind, Sem.run_pure, Result.andThen_ok, List.map_toArray, List.map_cons, List.map_nil, hs, hx, hr]
    exact h _ w (own_lit0 hg hB) (by simp) (Ext.refl w)
  · obtain ⟨b, off, rfl, hcell⟩ : ∃ b off, p = some ⟨b, off, none⟩ ∧ ∀ (j : Nat) (u : Value), ys[j]? = some u → w.cell? ⟨b, off + j, none⟩ = some u := by
      rcases hsrc.cells with h0 | ⟨b, off, h0, h1⟩
      · exact absurd h0 hm
      · exact ⟨b, off, h0, h1⟩
    have hmb : (0 + m) * bytes ≤ 140737488355328 := by
      have := Nat.mul_le_mul_left m hb16
      rw [Nat.zero_add]
      omega
    obtain ⟨v', w', hr, ho', hgr⟩ := run_append_arg_grows (P := Tryz.prog) w t o.type e i z size bytes ht hi hz hsize hby hzs hsz ⟨g, 0, none⟩ 0 0 [] (by simp) (by simp) ⟨b, off, none⟩ m c ys hsrc.len (fun j u hj => by
      have hadd : (⟨b, off, none⟩ : Addr).add j = ⟨b, off + j, none⟩ := by unfold Addr.add; split <;> simp_all
      rw [hadd]; exact hcell j u hj) (by omega) (by unfold maxLen; omega) hmb
    unfold Oper.wp execOp
    simp only [ho, resolve, invoke, builtin, Sem.run_bind, Sem.run_pure, Result.andThen_ok, List.map_toArray, List.map_cons, List.map_nil, hs, hx, hr]
    rw [Nat.zero_add, List.nil_append] at ho'
    refine h v' w' (owns_base ho' (by omega)) ?_ (Below.grown (Ext.refl w) hgr (Nat.le_refl _) (fun k hk => by cases hk))
    rintro rfl
    obtain ⟨_, h1⟩ := ho'
    rcases h1 with ⟨_, h1⟩ | ⟨g, cap, cur, h1, _⟩
    · exact hm h1
    · cases h1

end
end Go.Proofs.YtkfhkhgiojpfoaaGreat.Tri

namespace Go.Proofs.YtkfhkhgiojpfoaaGreat.Rb

set_option maxRecDepth 100000

open Go.RowKit Go.Proofs.YtkfhkhgiojpfoaaGreat

set_option linter.unusedVariables false

set_option linter.unusedSimpArgs false

def rtC (r : Rt) : List Value := [.int .i64 r.t, .int .u32 r.a, .int .i64 r.l, .int .i64 r.i, .int .u32 r.g, .int .i64 r.m]

def rtCs (L : List Rt) : List Value := L.flatMap rtC

theorem rtCs_cons (x : Rt) (L : List Rt) : rtCs (x :: L) = rtC x ++ rtCs L := by simp [rtCs]

theorem rtCs_append (L M : List Rt) : rtCs (L ++ M) = rtCs L ++ rtCs M := by simp [rtCs, List.flatMap_append]

theorem rtCs_one (x : Rt) : rtCs [x] = rtC x := by simp [rtCs]

theorem rtC_length (x : Rt) : (rtC x).length = 6 := rfl

theorem rtCs_length (L : List Rt) : (rtCs L).length = L.length * 6 := by
  induction L with
  | nil => rfl
  | cons p L ih => rw [rtCs_cons, List.length_append, ih, rtC_length, List.length_cons]; omega

theorem rtCs_take : ∀ (L : List Rt) (k : Nat), (rtCs L).take (k * 6) = rtCs (L.take k)
  | [], k => by simp [rtCs]
  | x :: L, 0 => by simp [rtCs]
  | x :: L, k + 1 => by
    rw [rtCs_cons, List.take_succ_cons, rtCs_cons, List.take_append, rtC_length, List.take_of_length_le (by rw [rtC_length]; omega), show (k + 1) * 6 - 6 = k * 6 by omega, rtCs_take L k]

theorem rtCs_drop : ∀ (L : List Rt) (k : Nat), (rtCs L).drop (k * 6) = rtCs (L.drop k)
  | [], k => by simp [rtCs]
  | x :: L, 0 => by simp [rtCs]
  | x :: L, k + 1 => by
    rw [rtCs_cons, List.drop_succ_cons, List.drop_append, rtC_length, List.drop_eq_nil_of_le (by rw [rtC_length]; omega), show (k + 1) * 6 - 6 = k * 6 by omega, rtCs_drop L k, List.nil_append]

theorem rtCs_get {L : List Rt} {i : Nat} {x : Rt} (h : L[i]? = some x) (c : Nat) (hc : c < 6) : (rtCs L)[i * 6 + c]? = (rtC x)[c]? := by
  have hi := (List.getElem?_eq_some_iff.1 h).1
  rw [← List.getElem?_drop, rtCs_drop, List.drop_eq_getElem_cons hi, (List.getElem?_eq_some_iff.1 h).2, rtCs_cons, List.getElem?_append_left (by rw [rtC_length]; exact hc)]

theorem rtC_cell {x : Rt} {u : Value} (h : u ∈ rtC x) : u.oneCell' = true := by
  simp only [rtC, List.mem_cons, List.not_mem_nil, or_false] at h
  rcases h with rfl | rfl | rfl | rfl | rfl | rfl <;> rfl

theorem rtCs_cell {L : List Rt} {u : Value} (h : u ∈ rtCs L) : u.oneCell' = true := by
  simp only [rtCs, List.mem_flatMap] at h
  obtain ⟨p, _, h⟩ := h
  exact rtC_cell h

/-- The slice (p, n, c) reads as the ways L. -/
def Rd (w : World) (p : Option Addr) (n c : Nat) (L : List Rt) : Prop := Tri.Src w 6 p n c (rtCs L)

theorem Rd.len {w : World} {p : Option Addr} {n c : Nat} {L : List Rt} (h : Rd w p n c L) : L.length = n := by
  have := Tri.Src.len h
  rw [rtCs_length] at this
  omega

theorem Rd.ext {w w' : World} {p : Option Addr} {n c : Nat} {L : List Rt} (h : Rd w p n c L) (hx : Ext w w') : Rd w' p n c L := Tri.Src.ext h (by omega) hx

theorem Rd.cell {w : World} {p : Option Addr} {n c : Nat} {L : List Rt} (h : Rd w p n c L) {i : Nat} {x : Rt} (hi : L[i]? = some x) :
    ∃ b off, p = some ⟨b, off, none⟩ ∧ b < w.heap.size ∧ w.cell? ⟨b, off + i * 6, none⟩ = some (.int .i64 x.t) ∧ w.cell? ⟨b, off + i * 6 + 1, none⟩ = some (.int .u32 x.a) ∧ w.cell? ⟨b, off + i * 6 + 2, none⟩ = some (.int .i64 x.l) ∧
      w.cell? ⟨b, off + i * 6 + 3, none⟩ = some (.int .i64 x.i) ∧ w.cell? ⟨b, off + i * 6 + 4, none⟩ = some (.int .u32 x.g) ∧ w.cell? ⟨b, off + i * 6 + 5, none⟩ = some (.int .i64 x.m) := by
  have hil := (List.getElem?_eq_some_iff.1 hi).1
  have hn := h.len
  rcases Tri.Src.cells h with h0 | ⟨b, off, rfl, hc⟩
  · omega
  · have g0 := hc (i * 6 + 0) _ (rtCs_get hi 0 (by omega))
    have g1 := hc (i * 6 + 1) _ (rtCs_get hi 1 (by omega))
    have g2 := hc (i * 6 + 2) _ (rtCs_get hi 2 (by omega))
    have g3 := hc (i * 6 + 3) _ (rtCs_get hi 3 (by omega))
    have g4 := hc (i * 6 + 4) _ (rtCs_get hi 4 (by omega))
    have g5 := hc (i * 6 + 5) _ (rtCs_get hi 5 (by omega))
    simp only [← Nat.add_assoc, Nat.add_zero] at g0 g1 g2 g3 g4 g5
    exact ⟨b, off, rfl, block_lt g0, g0, g1, g2, g3, g4, g5⟩

theorem addr_add' (g o x : Nat) : (⟨g, o, none⟩ : Addr).add x = ⟨g, o + x, none⟩ := by unfold Addr.add; split <;> simp_all

/-- Part of what is read: s[lo:hi]. -/
theorem Rd.cut {w : World} {p : Option Addr} {n c : Nat} {L : List Rt} (h : Rd w p n c L) {lo hi : Nat} (h1 : lo ≤ hi) (h2 : hi ≤ n) (h3 : n ≤ c) :
    Rd w (if c = lo then p else p.map (·.add (lo * 6))) (hi - lo) (c - lo) ((L.drop lo).take (hi - lo)) := by
  have hn := h.len
  refine ⟨?_, ?_, fun u hu => rtCs_cell hu, ?_⟩
  · rw [rtCs_length, List.length_take, List.length_drop]
    congr 1
    omega
  · split
    · rename_i e; intro _; omega
    · intro e
      have := Tri.Src.nil h (by simpa using e)
      omega
  · rcases Tri.Src.cells h with h0 | ⟨b, off, rfl, hc⟩
    · exact .inl (by omega)
    · by_cases e : c = lo
      · exact .inl (by omega)
      · refine .inr ⟨b, off + lo * 6, ?_, fun j u hj => ?_⟩
        · rw [if_neg e, Option.map_some, addr_add']
        · rw [← rtCs_take, ← rtCs_drop, List.getElem?_take] at hj
          split at hj
          · rw [List.getElem?_drop] at hj
            have := hc _ _ hj
            rwa [← Nat.add_assoc] at this
          · cases hj

theorem cut_lh (p : Option Addr) (n c lo hi : Nat) (h1 : lo ≤ hi) (h2 : hi ≤ n) (h3 : n ≤ c) (w : World) :
    (Instr.slice 22 (.slice p n c) (some (.int .i64 lo)) (some (.int .i64 hi)) none).run Tryz.prog w = .ok (.slice (if c = lo then p else p.map (·.add (lo * 6))) (hi - lo) (c - lo)) w := by
  have hk : (hi : Int) ≤ (c : Int) := by omega
  have hl : (lo : Int) ≤ (hi : Int) := by omega
  go_simp

theorem cut_l (p : Option Addr) (n c lo : Nat) (h1 : lo ≤ n) (h3 : n ≤ c) (w : World) :
    (Instr.slice 22 (.slice p n c) (some (.int .i64 lo)) none none).run Tryz.prog w = .ok (.slice (if c = lo then p else p.map (·.add (lo * 6))) (n - lo) (c - lo)) w := by
  have hk : (lo : Int) ≤ (n : Int) := by omega
  go_simp

theorem cut_h (p : Option Addr) (n c hi : Nat) (h1 : hi ≤ c) (w : World) :
    (Instr.slice 22 (.slice p n c) none (some (.int .i64 hi)) none).run Tryz.prog w = .ok (.slice p hi c) w := by
  have hk : (hi : Int) ≤ (c : Int) := by omega
  go_simp

/-- A row of ways of the call's own. -/
def OwnR (w : World) (B : Nat) (v : Value) (L : List Rt) : Prop := w.ownsRow B 48 6 v L.length (rtCs L)

def blks (v : Value) : List Nat := match v.ownBlock with
  | some g => [g]
  | none => []

theorem mem_blks {v : Value} {g : Nat} : g ∈ blks v ↔ v.ownBlock = some g := by
  unfold blks
  split
  · rename_i h; rw [h]; simp [eq_comm]
  · rename_i h; rw [h]; simp

theorem OwnR.nil (w : World) (B : Nat) : OwnR w B (.slice none 0 0) [] := World.ownsRow_nil _ _ _ _

theorem OwnR.slice {w : World} {B : Nat} {v : Value} {L : List Rt} (h : OwnR w B v L) : ∃ p c, v = .slice p L.length c ∧ L.length ≤ c ∧ c ≤ maxLen ∧ Rd w p L.length c L := by
  obtain ⟨p, c, rfl, h1, h2, h3⟩ := Tri.owns_slice h
  exact ⟨p, c, rfl, h1, h2, Tri.src_own h fun u hu => rtCs_cell hu⟩

theorem OwnR.ext {w w' : World} {B : Nat} {v : Value} {L : List Rt} (h : OwnR w B v L) (hx : Ext w w') : OwnR w' B v L := Tri.owns_later h hx

theorem OwnR.later {w w' : World} {B : Nat} {v : Value} {L : List Rt} {F : List Nat} (h : OwnR w B v L) (hx : ExtS F w w') (hf : ∀ g ∈ blks v, g ∉ F) : OwnR w' B v L :=
  Tri.owns_laterS h hx fun g hg => hf g (mem_blks.2 hg)

theorem OwnR.lt {w : World} {B : Nat} {v : Value} {L : List Rt} (h : OwnR w B v L) : ∀ g ∈ blks v, B ≤ g ∧ g < w.heap.size := fun g hg => by
  have := Tri.owns_block h (mem_blks.1 hg)
  exact ⟨this.1, this.2.1⟩

theorem OwnR.base {w : World} {B B' : Nat} {v : Value} {L : List Rt} (h : OwnR w B v L) (hb : B' ≤ B) : OwnR w B' v L := Tri.owns_base h hb

theorem info_rt : ∃ i, Tryz.prog.info? 48 = some i ∧ i.zero = some (.agg #[.int .i64 0, .int .u32 0, .int .i64 0, .int .i64 0, .int .u32 0, .int .i64 0]) ∧ i.size = 6 ∧ i.bytes = 48 := ⟨_, rfl, by kernel_rfl, by kernel_rfl, by kernel_rfl⟩

/-- The row's block. -/
theorem OwnR.block {w : World} {B : Nat} {v : Value} {L : List Rt} (h : OwnR w B v L) (h0 : 0 < L.length) :
    ∃ g c cur, v = .slice (some ⟨g, 0, none⟩) L.length c ∧ B ≤ g ∧ w.heap[g]? = some (.cells cur 48 (0, 0)) ∧ L.length ≤ c ∧ c ≤ maxLen ∧ cur.size = c * 6 ∧ cur.toList.take (L.length * 6) = rtCs L := by
  obtain ⟨hl, h⟩ := h
  rcases h with ⟨_, h⟩ | ⟨g, cap, cur, rfl, hb, hg, h1, h2, h3, h4⟩
  · omega
  · exact ⟨g, cap, cur, rfl, hb, hg, h1, h2, h3, h4⟩

/-- A block that holds the row. -/
theorem ownR_of {w : World} {B g c : Nat} {cur : Array Value} {L : List Rt} (hB : B ≤ g) (hg : w.heap[g]? = some (.cells cur 48 (0, 0))) (h1 : L.length ≤ c) (h2 : c ≤ maxLen) (h3 : cur.size = c * 6) (h4 : cur.toList.take (L.length * 6) = rtCs L) :
    OwnR w B (.slice (some ⟨g, 0, none⟩) L.length c) L := ⟨by rw [rtCs_length], .inr ⟨g, c, cur, rfl, hB, hg, h1, h2, h3, h4⟩⟩

section

variable {w : World} {o : Oper} {a : Act} {K : Act → World → Prop} {Q : Exit → Act → World → Prop}

/-- append(row, part...), as an operation. -/
theorem wp_app_rt (s x : Operand) (ho : o.op = .call { callee := .builtin .append, args := #[s, x], argTypes := #[22, 22] })
    (B : Nat) (v : Value) (L M : List Rt) (hs : a.eval s = v) (hown : OwnR w B v L) (p : Option Addr) (m c : Nat) (hx : a.eval x = .slice p m c) (hsrc : Rd w p m c M)
    (hsm : L.length + m ≤ 10000000) (hbase : B ≤ w.heap.size)
    (h : ∀ v' w', OwnR w' B v' (L ++ M) → w.grownBy w' v.ownBlock → (v'.ownBlock = v.ownBlock ∨ v'.ownBlock = some w.heap.size) → K (a.put o.dst v') w') : o.wp Tryz.prog a w K Q := by
  obtain ⟨i, hi, hz, hsz, hby⟩ := info_rt
  have hM := hsrc.len
  have res : ∀ v' w', w'.ownsRow B 48 6 v' (L.length + m) (rtCs L ++ rtCs M) → OwnR w' B v' (L ++ M) := fun v' w' h' => by
    unfold OwnR
    rw [List.length_append, rtCs_append, hM]; exact h'
  cases p with
  | none =>
    obtain rfl : c = 0 := Tri.Src.nil hsrc rfl
    have hm : m = 0 := by
      rcases Tri.Src.cells hsrc with h0 | ⟨b, off, h0, _⟩
      · exact h0
      · cases h0
    subst hm
    obtain rfl : M = [] := List.length_eq_zero_iff.1 hM
    have hrun := run_append_owned_none (P := Tryz.prog) (w := w) B 22 o.type 48 i 6 Tryz.underlying22 hi v L.length _ hown
    unfold Oper.wp
    simp [execOp, ho, resolve, invoke, builtin, hs, hx, hrun, Result.andThen]
    exact h v w (by simpa using hown) ⟨rfl, rfl, rfl, Nat.le_refl _, fun _ _ _ => rfl⟩ (.inl rfl)
  | some ad =>
    obtain ⟨v', w', hr, h2, h3, h4, h5⟩ := run_append_own_at (P := Tryz.prog) w B 22 o.type 48 i _ 6 48 Tryz.underlying22 hi hz hsz hby rfl (by omega) v L.length _ hown ad m c (rtCs M) (by rw [rtCs_length, hM])
      (fun j u hj => by
        rcases Tri.Src.cells hsrc with h0 | ⟨b, off, h0, hcell⟩
        · obtain rfl : M = [] := List.length_eq_zero_iff.1 (by omega)
          simp [rtCs] at hj
        · cases h0
          rw [addr_add']; exact hcell j u hj)
      (fun u hu => rtCs_cell hu) (by unfold maxLen; omega) (by omega) hbase
    unfold Oper.wp execOp
    simp only [ho, resolve, invoke, builtin, Sem.run_bind, Sem.run_pure, Result.andThen_ok, List.map_toArray, List.map_cons, List.map_nil, hs, hx, hr]
    exact h v' w' (res _ _ h2) h3 h5

/-- append([]api.Route{}, part...): new memory, or the literal itself. -/
theorem wp_lit_rt (s x : Operand) (ho : o.op = .call { callee := .builtin .append, args := #[s, x], argTypes := #[22, 22] })
    (g : Nat) (hs : a.eval s = .slice (some ⟨g, 0, none⟩) 0 0) (hg : w.heap[g]? = some (.cells #[] 48 (0, 0))) (B : Nat) (hB : B ≤ g)
    (p : Option Addr) (m c : Nat) (M : List Rt) (hx : a.eval x = .slice p m c) (hsrc : Rd w p m c M) (hsm : m ≤ 10000000)
    (h : ∀ v' w', OwnR w' B v' M → Ext w w' → K (a.put o.dst v') w') : o.wp Tryz.prog a w K Q := by
  obtain ⟨i, hi, hz, hsz, hby⟩ := info_rt
  have hM := hsrc.len
  have hlt := heap_lt hg
  have res : ∀ v' w', w'.ownsRow B 48 6 v' m (rtCs M) → OwnR w' B v' M := fun v' w' h' => by
    unfold OwnR
    rw [hM]; exact h'
  by_cases hm : m = 0
  · subst hm
    obtain rfl : M = [] := List.length_eq_zero_iff.1 hM
    have hr := run_append_nothing (P := Tryz.prog) w 22 22 o.type 48 i Tryz.underlying22 hi (some ⟨g, 0, none⟩) 0 0 (Nat.le_refl _) (.slice p 0 c) (by
      cases p with
      | none => exact Go.Src.ofNil w Tryz.underlying22 c
      | some a => exact Go.Src.ofSlice w Tryz.underlying22 a 0 c [] (by simp) (by simp) (by simp))
    unfold Oper.wp execOp
    simp only [ho, resolve, invoke, builtin, Sem.run_bind, Sem.run_pure, Result.andThen_ok, List.map_toArray, List.map_cons, List.map_nil, hs, hx, hr]
    exact h _ w (res _ _ (Tri.own_lit0 hg hB)) (Ext.refl w)
  · obtain ⟨b, off, rfl, hcell⟩ : ∃ b off, p = some ⟨b, off, none⟩ ∧ ∀ (j : Nat) (u : Value), (rtCs M)[j]? = some u → w.cell? ⟨b, off + j, none⟩ = some u := by
      rcases Tri.Src.cells hsrc with h0 | ⟨b, off, h0, h1⟩
      · exact absurd h0 hm
      · exact ⟨b, off, h0, h1⟩
    obtain ⟨v', w', hr, ho', hgr⟩ := run_append_arg_grows (P := Tryz.prog) w 22 o.type 48 i _ 6 48 Tryz.underlying22 hi hz hsz hby rfl (by omega) ⟨g, 0, none⟩ 0 0 [] (by simp) (by simp) ⟨b, off, none⟩ m c (rtCs M) (by rw [rtCs_length, hM]) (fun j u hj => by
      rw [addr_add']; exact hcell j u hj) (by omega) (by unfold maxLen; omega) (by omega)
    unfold Oper.wp execOp
    simp only [ho, resolve, invoke, builtin, Sem.run_bind, Sem.run_pure, Result.andThen_ok, List.map_toArray, List.map_cons, List.map_nil, hs, hx, hr]
    rw [Nat.zero_add, List.nil_append] at ho'
    exact h v' w' (res _ _ (Tri.owns_base ho' (by omega))) (Below.grown (Ext.refl w) hgr (Nat.le_refl _) (fun k hk => by cases hk))

/-- An operation of a builtin whose run is known. -/
theorem wp_copy_is (d x : Operand) (ho : o.op = .call { callee := .builtin .copy, args := #[d, x], argTypes := #[22, 22] }) (v u : Value) (hd : a.eval d = v) (hx : a.eval x = u) {v' : Value} {w' : World}
    (hr : (Builtin.copy_ #[22, 22] o.type #[v, u]).run Tryz.prog w = .ok v' w') (h : K (a.put o.dst v') w') : o.wp Tryz.prog a w K Q := by
  unfold Oper.wp execOp
  simp only [ho, resolve, invoke, builtin, Sem.run_bind, Sem.run_pure, Result.andThen_ok, List.map_toArray, List.map_cons, List.map_nil, hd, hx, hr]
  exact h

theorem wp_app_is (d x : Operand) (t : TypeId) (ho : o.op = .call { callee := .builtin .append, args := #[d, x], argTypes := #[22, t] }) (v u : Value) (hd : a.eval d = v) (hx : a.eval x = u) {v' : Value} {w' : World}
    (hr : (Builtin.append_ #[22, t] o.type #[v, u]).run Tryz.prog w = .ok v' w') (h : K (a.put o.dst v') w') : o.wp Tryz.prog a w K Q := by
  unfold Oper.wp execOp
  simp only [ho, resolve, invoke, builtin, Sem.run_bind, Sem.run_pure, Result.andThen_ok, List.map_toArray, List.map_cons, List.map_nil, hd, hx, hr]
  exact h

end

theorem extS_row (w : World) (g : Nat) (cs : Array Value) : ExtS [g] w (w.setRow g cs) :=
  ⟨rfl, rfl, rfl, by simp [World.setRow], fun i hi hne => setRow_other w g i cs (by simpa using hne)⟩

/-- copy into a block. -/
theorem run_copy_rt (w : World) (ty : TypeId) (g o dLen dCap : Nat) (a : Addr) (sLen sCap : Nat) (cur : Array Value) (t : TypeId) (cs : List Value)
    (hg : w.heap[g]? = some (.cells cur t (0, 0))) (hn : cs.length = Nat.min sLen dLen * 6)
    (hsrc : ∀ j v, cs[j]? = some v → w.cell? (a.add j) = some v) (hfit : o + cs.length ≤ cur.size) (h1 : ∀ v ∈ cs, v.oneCell' = true) :
    (Builtin.copy_ #[22, 22] ty #[.slice (some ⟨g, o, none⟩) dLen dCap, .slice (some a) sLen sCap]).run Tryz.prog w =
      .ok (goInt (Nat.min sLen dLen)) (w.setRow g (cur.toList.take o ++ cs ++ cur.toList.drop (o + cs.length)).toArray) := by
  obtain ⟨i, hi, hz, hsz, hby⟩ := info_rt
  have hl := run_loadCells_list (P := Tryz.prog) w a cs hsrc
  have hst := run_storeCells_at Tryz.prog g o t cs 0 cur w hg (by simpa using hfit) h1
  simp [Builtin.copy_, run_underlying Tryz.underlying22, Builtin.lenOf, Builtin.firstCells, sizeOf, typeInfo, hi, hsz, ← hn, hl, hst]
end Go.Proofs.YtkfhkhgiojpfoaaGreat.Rb

namespace Go.Proofs.YtkfhkhgiojpfoaaGreat

open Go.RowKit

theorem wpE_skip_eq {R : World → World → Prop} {P : Program} {Q : Exit → Act → World → Prop} {E : Act → World → Prop} {l : List Oper} {i : Nat} {c : Bool} {rest : List (Nat × Bool)} {a : Act} {W : World} (o : Oper) (ho : l[i]? = some o)
    (hw : Region.wanted o (yielded l.toArray a.tmps) = false) : wpE R P l.toArray Q E ((i, c) :: rest) a W = wpE R P l.toArray Q E rest (a.put o.dst undef) W := by
  conv => lhs; unfold wpE
  simp only [List.getElem?_toArray, ho, hw, Bool.false_eq_true, if_false]
end Go.Proofs.YtkfhkhgiojpfoaaGreat

namespace Go.Proofs.YtkfhkhgiojpfoaaGreat.Rb

set_option maxRecDepth 100000

open Go.RowKit Go.Proofs.YtkfhkhgiojpfoaaGreat

set_option linter.unusedVariables false

set_option linter.unusedSimpArgs false

/-- What a search between lo and hi knows. -/
def LoHi (L : List Rt) (f : Rt → Bool) (lo hi : Nat) : Prop := (∀ j x, j < lo → L[j]? = some x → f x = true) ∧ ∀ x, L[hi]? = some x → f x = false

theorem LoHi.start (L : List Rt) (f : Rt → Bool) (n : Nat) (hn : L.length = n) : LoHi L f 0 n := ⟨fun j x hj => by omega, fun x hx => by rw [List.getElem?_eq_none (by omega)] at hx; cases hx⟩

theorem LoHi.stop {L : List Rt} {f : Rt → Bool} {p : Nat} (h : LoHi L f p p) (hp : p ≤ L.length) : twN f L = p := twN_unique f L p hp h.1 h.2

theorem LoHi.up {L : List Rt} {f : Rt → Bool} {lo hi k : Nat} {x : Rt} (h : LoHi L f lo hi) (hm : ∀ (i j : Nat) (y z : Rt), i ≤ j → L[i]? = some y → L[j]? = some z → f z = true → f y = true) (hx : L[k]? = some x) (hf : f x = true) : LoHi L f (k + 1) hi :=
  ⟨fun j y hj hy => hm j k y x (by omega) hy hx hf, h.2⟩

theorem LoHi.down {L : List Rt} {f : Rt → Bool} {lo hi k : Nat} {x : Rt} (h : LoHi L f lo hi) (hx : L[k]? = some x) (hf : f x = false) : LoHi L f lo k :=
  ⟨h.1, fun y hy => by rw [hx] at hy; cases hy; exact hf⟩

theorem Srt.mono {L : List Rt} (h : Srt L) (r : Rt) : ∀ (i j : Nat) (y z : Rt), i ≤ j → L[i]? = some y → L[j]? = some z → ltB z r = true → ltB y r = true := fun i j y z hij hy hz hf => by
  rcases Nat.lt_or_ge i j with hlt | hge
  · exact ltB_trans (h.get hy hz hlt) hf
  · obtain rfl : i = j := by omega
    rw [hy] at hz; cases hz; exact hf

set_option maxHeartbeats 1000000 in
theorem bsearch_any (p : Option Addr) (n c : Nat) (L : List Rt) (r : Rt) (w : World) (hR : Rd w p n c L) (hs : Srt L) (hn : n ≤ 1000000) :
    Calls Tryz.prog 88 #[.slice p n c, (.agg #[.int .i64 r.t, .int .u32 r.a, .int .i64 r.l, .int .i64 r.i, .int .u32 r.g, .int .i64 r.m]), .func (.func 89) #[] #[]] w fun e w' => e = .returned (.tuple #[.int .i64 (posR L r : Nat), .bool (hereB L r)]) ∧ Ext w w' := by
  have hA : Ext w (w.alloc (.cells #[.int .i64 r.t, .int .u32 r.a, .int .i64 r.l, .int .i64 r.i, .int .u32 r.g, .int .i64 r.m] 48)) := (Ext.refl w).alloc _
  have HQ : Hid _ := box_rtE (heap_new w (.cells #[.int .i64 r.t, .int .u32 r.a, .int .i64 r.l, .int .i64 r.i, .int .u32 r.g, .int .i64 r.m] 48))
  have HR : Hid (Rd w p n c L) := hR
  have HL : Hid (L.length = n) := hR.len
  have HM : Hid _ := hs.mono r
  have co := fun x w => order_any x r w
  clear hR hs
  go_enter Tryz.func88, Tryz.ntmps88
  go_wp2_with fail
  generalize hW0 : (w.alloc (.cells #[.int .i64 r.t, .int .u32 r.a, .int .i64 r.l, .int .i64 r.i, .int .u32 r.g, .int .i64 r.m] 48)) = W0 at *
  clear hW0
  go_loopg [9, 10] n (fun kx s9 s10 wr => ∃ lo hi : Nat, s9 = .int .i64 lo ∧ s10 = .int .i64 hi ∧ lo ≤ hi ∧ hi ≤ n ∧ hi - lo ≤ kx ∧ Ext W0 wr ∧ Hid (LoHi L (fun x => ltB x r) lo hi))
  case atStart => exact ⟨0, n, rfl, rfl, Nat.zero_le _, Nat.le_refl _, by omega, Ext.refl _, LoHi.start L _ n HL.out⟩
  case round =>
    obtain ⟨lo, hi, rfl, rfl, hlh, hin, hkx, hx, HI⟩ := hrel
    obtain ⟨a0, a1, a2, a3, a4, a5⟩ := HQ.out
    have hd := hx.drew
    have t0 := fun w' h => a0 w' (hd.trans h)
    have t1 := fun w' h => a1 w' (hd.trans h)
    have t2 := fun w' h => a2 w' (hd.trans h)
    have t3 := fun w' h => a3 w' (hd.trans h)
    have t4 := fun w' h => a4 w' (hd.trans h)
    have t5 := fun w' h => a5 w' (hd.trans h)
    clear a0 a1 a2 a3 a4 a5
    by_cases hlt : lo < hi
    · obtain ⟨x, hxk⟩ : ∃ x, L[(lo + hi) / 2]? = some x := ⟨_, List.getElem?_eq_getElem (by rw [HL.out]; omega)⟩
      obtain ⟨b, off, rfl, hb, g0, g1, g2, g3, g4, g5⟩ := (HR.out.ext (hA.trans hd)).cell hxk
      have HX : Hid _ := hxk
      have x0 : ∀ w', Ext wr.drew w' → w'.cell? ⟨b, off + (lo + hi) / 2 * 6, none⟩ = some (.int .i64 x.t) := fun w' h => by rw [h.below.cell (p := ⟨b, off + (lo + hi) / 2 * 6, none⟩) hb]; exact g0
      have x1 : ∀ w', Ext wr.drew w' → w'.cell? ⟨b, off + (lo + hi) / 2 * 6 + 1, none⟩ = some (.int .u32 x.a) := fun w' h => by rw [h.below.cell (p := ⟨b, off + (lo + hi) / 2 * 6 + 1, none⟩) hb]; exact g1
      have x2 : ∀ w', Ext wr.drew w' → w'.cell? ⟨b, off + (lo + hi) / 2 * 6 + 2, none⟩ = some (.int .i64 x.l) := fun w' h => by rw [h.below.cell (p := ⟨b, off + (lo + hi) / 2 * 6 + 2, none⟩) hb]; exact g2
      have x3 : ∀ w', Ext wr.drew w' → w'.cell? ⟨b, off + (lo + hi) / 2 * 6 + 3, none⟩ = some (.int .i64 x.i) := fun w' h => by rw [h.below.cell (p := ⟨b, off + (lo + hi) / 2 * 6 + 3, none⟩) hb]; exact g3
      have x4 : ∀ w', Ext wr.drew w' → w'.cell? ⟨b, off + (lo + hi) / 2 * 6 + 4, none⟩ = some (.int .u32 x.g) := fun w' h => by rw [h.below.cell (p := ⟨b, off + (lo + hi) / 2 * 6 + 4, none⟩) hb]; exact g4
      have x5 : ∀ w', Ext wr.drew w' → w'.cell? ⟨b, off + (lo + hi) / 2 * 6 + 5, none⟩ = some (.int .i64 x.m) := fun w' h => by rw [h.below.cell (p := ⟨b, off + (lo + hi) / 2 * 6 + 5, none⟩) hb]; exact g5
      clear hxk g0 g1 g2 g3 g4 g5
      have cx := fun w => co x w
      have ho := ordR_lt x r
      generalize ordR x r = z at cx ho
      have HO : Hid _ := ho
      clear ho co
      have hii : (lo : Int) < (hi : Int) := by omega
      have hhn : (hi : Int) ≤ (n : Int) := by omega
      have hm0 : (0 : Int) ≤ ((lo : Int) + (hi : Int)) / 2 := by omega
      have hm1 : ((lo : Int) + (hi : Int)) / 2 < (n : Int) := by omega
      have hm2 : (((lo : Int) + (hi : Int)) / 2).toNat = (lo + hi) / 2 := by omega
      by_cases hz : z < 0
      · go_wp2_with fail
        refine wp_region_eager [(0, false), (1, false), (2, false), (3, false), (4, false), (5, false), (6, true), (7, false)] (by kernel_rfl) (by kernel_rfl) rfl (by kernel_rfl) (fun _ _ _ _ _ h => h) ?_
        generalize wr.drew = W at *
        repeat (first
          | (refine wpE_read (v := ?_) rfl (by rfl) ?_ ?_; rotate_left; (focus (intro w' hx; go_simp; first | done | with_reducible rfl)); simp only [Act.put, List.setIfInBounds_toArray, List.set_cons_zero, List.set_cons_succ])
          | (refine wpE_call rfl (by rfl) (fun K hK => ?_); go_simp; first
              | (go_at_call 89; refine (cx _).mono ?_; rintro e w1 ⟨rfl, hx1⟩; refine hK _ _ hx1 ?_; clear hK K)))
        refine wpE_done ?_
        go_wp2_with fail
        go_roundg (hi - ((lo + hi) / 2 + 1))
        case measure => omega
        case rel => exact ⟨(lo + hi) / 2 + 1, hi, by rw [show ((lo : Int) + (hi : Int)) / 2 + 1 = (((lo + hi) / 2 + 1 : Nat) : Int) by omega], rfl, by omega, hin, Nat.le_refl _, hd.trans hx1, HI.out.up HM.out HX.out (HO.out.1 hz)⟩
      · go_wp2_with fail
        refine wp_region_eager [(0, false), (1, false), (2, false), (3, false), (4, false), (5, false), (6, true), (7, false)] (by kernel_rfl) (by kernel_rfl) rfl (by kernel_rfl) (fun _ _ _ _ _ h => h) ?_
        generalize wr.drew = W at *
        repeat (first
          | (refine wpE_read (v := ?_) rfl (by rfl) ?_ ?_; rotate_left; (focus (intro w' hx; go_simp; first | done | with_reducible rfl)); simp only [Act.put, List.setIfInBounds_toArray, List.set_cons_zero, List.set_cons_succ])
          | (refine wpE_call rfl (by rfl) (fun K hK => ?_); go_simp; first
              | (go_at_call 89; refine (cx _).mono ?_; rintro e w1 ⟨rfl, hx1⟩; refine hK _ _ hx1 ?_; clear hK K)))
        refine wpE_done ?_
        go_wp2_with fail
        go_roundg ((lo + hi) / 2 - lo)
        case measure => omega
        case rel => exact ⟨lo, (lo + hi) / 2, rfl, by rw [show ((lo : Int) + (hi : Int)) / 2 = (((lo + hi) / 2 : Nat) : Int) by omega], by omega, by omega, Nat.le_refl _, hd.trans hx1, HI.out.down HX.out (by
          cases h : ltB x r
          · rfl
          · exact absurd (HO.out.2 h) (by omega))⟩
    · obtain rfl : hi = lo := by omega
      have hp : posR L r = hi := HI.out.stop (by rw [HL.out]; exact hin)
      have hh := here_at L r
      rw [hp] at hh
      have HP : Hid _ := hp
      clear hp
      by_cases hlt2 : hi < n
      · obtain ⟨x, hxk⟩ : ∃ x, L[hi]? = some x := ⟨_, List.getElem?_eq_getElem (by rw [HL.out]; omega)⟩
        obtain ⟨b, off, rfl, hb, g0, g1, g2, g3, g4, g5⟩ := (HR.out.ext (hA.trans hd)).cell hxk
        rw [hxk] at hh
        dsimp only at hh
        have x0 : ∀ w', Ext wr.drew w' → w'.cell? ⟨b, off + hi * 6, none⟩ = some (.int .i64 x.t) := fun w' h => by rw [h.below.cell (p := ⟨b, off + hi * 6, none⟩) hb]; exact g0
        have x1 : ∀ w', Ext wr.drew w' → w'.cell? ⟨b, off + hi * 6 + 1, none⟩ = some (.int .u32 x.a) := fun w' h => by rw [h.below.cell (p := ⟨b, off + hi * 6 + 1, none⟩) hb]; exact g1
        have x2 : ∀ w', Ext wr.drew w' → w'.cell? ⟨b, off + hi * 6 + 2, none⟩ = some (.int .i64 x.l) := fun w' h => by rw [h.below.cell (p := ⟨b, off + hi * 6 + 2, none⟩) hb]; exact g2
        have x3 : ∀ w', Ext wr.drew w' → w'.cell? ⟨b, off + hi * 6 + 3, none⟩ = some (.int .i64 x.i) := fun w' h => by rw [h.below.cell (p := ⟨b, off + hi * 6 + 3, none⟩) hb]; exact g3
        have x4 : ∀ w', Ext wr.drew w' → w'.cell? ⟨b, off + hi * 6 + 4, none⟩ = some (.int .u32 x.g) := fun w' h => by rw [h.below.cell (p := ⟨b, off + hi * 6 + 4, none⟩) hb]; exact g4
        have x5 : ∀ w', Ext wr.drew w' → w'.cell? ⟨b, off + hi * 6 + 5, none⟩ = some (.int .i64 x.m) := fun w' h => by rw [h.below.cell (p := ⟨b, off + hi * 6 + 5, none⟩) hb]; exact g5
        clear hxk g0 g1 g2 g3 g4 g5
        have cx := fun w => co x w
        generalize ordR x r = z at cx hh
        have HH : Hid _ := hh
        clear hh co
        have hhn : (hi : Int) < (n : Int) := by omega
        go_wp2_with fail
        refine wp_region_eager [(0, false), (1, false), (2, false), (3, false), (4, false), (5, false), (6, false), (7, false), (8, false), (9, false), (10, false), (11, true), (12, false), (13, false), (14, false), (15, false)] (by kernel_rfl) (by kernel_rfl) rfl (by kernel_rfl) (fun _ _ _ _ _ h => h) ?_
        generalize wr.drew = W at *
        repeat (first
          | (refine wpE_read (v := ?_) rfl (by rfl) ?_ ?_; rotate_left; (focus (intro w' hx; go_simp; first | done | with_reducible rfl)); simp only [Act.put, List.setIfInBounds_toArray, List.set_cons_zero, List.set_cons_succ])
          | (refine wpE_call rfl (by rfl) (fun K hK => ?_); go_simp; first
              | (go_at_call 89; refine (cx _).mono ?_; rintro e w1 ⟨rfl, hx1⟩; refine hK _ _ hx1 ?_; clear hK K)))
        refine wpE_done ?_
        go_wp2_with fail
        go_ret2
        rw [HH.out, HP.out]
        exact ⟨rfl, hA.trans (hd.trans hx1)⟩
      · obtain rfl : hi = n := by omega
        rw [List.getElem?_eq_none (by rw [HL.out]; exact Nat.le_refl _)] at hh
        dsimp only at hh
        have HH : Hid _ := hh
        clear hh
        go_wp2_with fail
        refine wp_region_eager [(0, false), (1, false), (2, false), (3, false), (4, false), (5, false), (6, false), (7, false), (8, false), (9, false), (10, false), (11, true), (12, false), (13, false), (14, false), (15, false)] (by kernel_rfl) (by kernel_rfl) rfl (by kernel_rfl) (fun _ _ _ _ _ h => h) ?_
        generalize wr.drew = W at *
        iterate 5 (refine wpE_read (v := ?_) rfl (by rfl) ?_ ?_; rotate_left; (focus (intro w' hx; go_simp; first | done | with_reducible rfl)); simp only [Act.put, List.setIfInBounds_toArray, List.set_cons_zero, List.set_cons_succ])
        iterate 8 (rw [wpE_skip_eq _ rfl (by rfl)]; simp only [Act.put, List.setIfInBounds_toArray, List.set_cons_zero, List.set_cons_succ])
        iterate 3 (refine wpE_read (v := ?_) rfl (by rfl) ?_ ?_; rotate_left; (focus (intro w' hx; go_simp; first | done | with_reducible rfl)); simp only [Act.put, List.setIfInBounds_toArray, List.set_cons_zero, List.set_cons_succ])
        refine wpE_done ?_
        go_wp2_with fail
        go_ret2
        rw [HH.out, HP.out]
        exact ⟨rfl, hA.trans hd⟩

/-- A Rib (of the type ty) of the ways L, in the blocks F. -/
def RibAt (ty : TypeId) (w : World) (rb : Nat) (L : List Rt) (F : List Nat) : Prop := ∃ v, F = rb :: blks v ∧ w.heap[rb]? = some (.cells #[v] ty (0, 0)) ∧ OwnR w 0 v L

theorem RibAt.later {ty : TypeId} {w w' : World} {rb : Nat} {L : List Rt} {F G : List Nat} (h : RibAt ty w rb L F) (hx : ExtS G w w') (hd : ∀ x ∈ F, x ∉ G) : RibAt ty w' rb L F := by
  obtain ⟨v, rfl, h1, h2⟩ := h
  exact ⟨v, rfl, hx.heap (hd rb (by simp)) h1, h2.later hx fun g hg => hd g (by simp [hg])⟩

theorem RibAt.ext {ty : TypeId} {w w' : World} {rb : Nat} {L : List Rt} {F : List Nat} (h : RibAt ty w rb L F) (hx : Ext w w') : RibAt ty w' rb L F := h.later (hx.toS []) (by simp)

theorem RibAt.lt {ty : TypeId} {w : World} {rb : Nat} {L : List Rt} {F : List Nat} (h : RibAt ty w rb L F) : ∀ x ∈ F, x < w.heap.size := by
  obtain ⟨v, rfl, h1, h2⟩ := h
  intro x hx
  rcases List.mem_cons.1 hx with rfl | hx
  · exact heap_lt h1
  · exact (h2.lt x hx).2

theorem find_any (rb : Nat) (L : List Rt) (F : List Nat) (r : Rt) (w : World) (h : RibAt 98 w rb L F) (hs : Srt L) (hn : L.length ≤ 1000000) :
    Calls Tryz.prog 67 #[.pointer (some ⟨rb, 0, none⟩), (.agg #[.int .i64 r.t, .int .u32 r.a, .int .i64 r.l, .int .i64 r.i, .int .u32 r.g, .int .i64 r.m])] w fun e w' => e = .returned (.tuple #[.int .i64 (posR L r : Nat), .bool (hereB L r)]) ∧ Ext w w' := by
  obtain ⟨v, -, hX, hO⟩ := h
  obtain ⟨p, c, rfl, hc1, -, hR⟩ := hO.slice
  have hA : Ext w (w.alloc (.cells #[.int .i64 r.t, .int .u32 r.a, .int .i64 r.l, .int .i64 r.i, .int .u32 r.g, .int .i64 r.m] 48)) := (Ext.refl w).alloc _
  have hd := hA.drew
  have HQ : Hid _ := box_rtE (heap_new w (.cells #[.int .i64 r.t, .int .u32 r.a, .int .i64 r.l, .int .i64 r.i, .int .u32 r.g, .int .i64 r.m] 48))
  have v0 : ∀ w', Ext (w.alloc (.cells #[.int .i64 r.t, .int .u32 r.a, .int .i64 r.l, .int .i64 r.i, .int .u32 r.g, .int .i64 r.m] 48)).drew w' → w'.cell? ⟨rb, 0, none⟩ = some (.slice p L.length c) := fun w' h => by rw [heap_cell ((hd.trans h).heap hX)]; rfl
  have cb := fun w' (hx : Ext w w') => bsearch_any p L.length c L r w' (hR.ext hx) hs hn
  clear hO hX hR hs
  obtain ⟨a0, a1, a2, a3, a4, a5⟩ := HQ.out
  have hdd : Ext (w.alloc (.cells #[.int .i64 r.t, .int .u32 r.a, .int .i64 r.l, .int .i64 r.i, .int .u32 r.g, .int .i64 r.m] 48)) (w.alloc (.cells #[.int .i64 r.t, .int .u32 r.a, .int .i64 r.l, .int .i64 r.i, .int .u32 r.g, .int .i64 r.m] 48)).drew := (Ext.refl _).drew
  have t0 := fun w' h => a0 w' (hdd.trans h)
  have t1 := fun w' h => a1 w' (hdd.trans h)
  have t2 := fun w' h => a2 w' (hdd.trans h)
  have t3 := fun w' h => a3 w' (hdd.trans h)
  have t4 := fun w' h => a4 w' (hdd.trans h)
  have t5 := fun w' h => a5 w' (hdd.trans h)
  clear a0 a1 a2 a3 a4 a5 hdd HQ
  generalize posR L r = k at *
  generalize hereB L r = hb at *
  go_enter Tryz.func67, Tryz.ntmps67
  go_wp2_with fail
  refine wp_region_eager [(0, false), (1, false), (2, false), (3, false), (4, false), (5, true), (6, false), (7, false), (8, false), (9, false)] (by kernel_rfl) (by kernel_rfl) rfl (by kernel_rfl) (fun _ _ _ _ _ h => h) ?_
  generalize (w.alloc (.cells #[.int .i64 r.t, .int .u32 r.a, .int .i64 r.l, .int .i64 r.i, .int .u32 r.g, .int .i64 r.m] 48)).drew = W at *
  repeat (first
    | (refine wpE_read (v := ?_) rfl (by rfl) ?_ ?_; rotate_left; (focus (intro w' hx; go_simp; first | done | with_reducible rfl)); simp only [Act.put, List.setIfInBounds_toArray, List.set_cons_zero, List.set_cons_succ])
    | (refine wpE_call rfl (by rfl) (fun K hK => ?_); go_simp; first
        | (go_at_call 88; refine (cb _ hd).mono ?_; rintro e w1 ⟨rfl, hx1⟩; refine hK _ _ hx1 ?_; clear hK K)))
  refine wpE_done ?_
  go_wp2_with fail
  go_ret2
  exact ⟨rfl, hd.trans hx1⟩
end Go.Proofs.YtkfhkhgiojpfoaaGreat.Rb
