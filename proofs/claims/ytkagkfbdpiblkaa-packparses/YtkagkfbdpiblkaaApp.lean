/- append to a literal that is full: what is there is not written. -/
import Derived.Test.YtkagkfbdpiblkaaWordJ
import Derived.Test.YtkagkfbdpiblkaaOwn
import Derived.ArgAppend
import Derived.Deep.Upon
namespace Go.Proofs.Ytkagkfbdpiblkaa
open Go.RowKit
set_option linter.unusedVariables false

theorem owns_base {w : World} {B B' : Nat} {e : TypeId} {v : Value} {n : Nat} {xs : List Value} (h : w.ownsRow B e 1 v n xs) (hB : B' ≤ B) : w.ownsRow B' e 1 v n xs := by
  obtain ⟨hl, h⟩ := h
  refine ⟨hl, ?_⟩
  rcases h with h | ⟨g, cap, cur, rfl, hb, hr⟩
  · exact .inl h
  · exact .inr ⟨g, cap, cur, rfl, Nat.le_trans hB hb, hr⟩

/-- What the call owns reads as bytes; its length is not above its room. -/
theorem owns_all {w : World} {base : Nat} {e : TypeId} {v : Value} {n : Nat} {xs : List Int} (h : w.ownsRow base e 1 v n (xs.map (Value.int .u8))) (hok : BytesOk xs) :
    ∃ a c, v = .slice a n c ∧ Bytes w a n xs ∧ (a = none → c = 0) ∧ n ≤ c := by
  obtain ⟨a, c, rfl, hb, hz⟩ := owns_bytes h hok
  refine ⟨a, c, rfl, hb, hz, ?_⟩
  rcases h.2 with ⟨h1, h2⟩ | ⟨g, cap, cur, h1, _, _, hn, _⟩
  · simp only [Value.slice.injEq] at h1
    omega
  · simp only [Value.slice.injEq] at h1
    obtain ⟨_, _, rfl⟩ := h1
    exact hn

theorem owns_slice {w : World} {base : Nat} {e : TypeId} {a : Option Addr} {n c : Nat} {xs : List Int} (h : w.ownsRow base e 1 (.slice a n c) n (xs.map (Value.int .u8))) (hok : BytesOk xs) :
    Bytes w a n xs ∧ (a = none → c = 0) ∧ n ≤ c := by
  obtain ⟨a', c', hv, hb, hz, hc⟩ := owns_all h hok
  simp only [Value.slice.injEq, true_and] at hv
  obtain ⟨rfl, rfl⟩ := hv
  exact ⟨hb, hz, hc⟩

theorem bytes_cells {w : World} {b off m : Nat} {ys : List Int} {p : Option Addr} (hb : Bytes w p m ys) (hp : p = some ⟨b, off, none⟩) : ∀ j u, (ys.map (Value.int .u8))[j]? = some u → w.cell? ((⟨b, off, none⟩ : Addr).add j) = some u := by
  intro j u hj
  have hjl : j < ys.length := by
    rcases Nat.lt_or_ge j ys.length with h' | h'
    · exact h'
    · simp [List.getElem?_eq_none (show (ys.map (Value.int .u8)).length ≤ j by simpa using h')] at hj
  have hl := hb.length
  rcases hb.cells with h0 | ⟨b', off', h0, hc⟩
  · omega
  · rw [hp] at h0
    obtain ⟨rfl, rfl⟩ : b = b' ∧ off = off' := by simpa using h0
    have hadd : (⟨b, off, none⟩ : Addr).add j = ⟨b, off + j, none⟩ := by unfold Addr.add; split <;> simp_all
    rw [hadd, hc j (by omega)]
    simp [List.getElem?_eq_getElem hjl] at hj
    subst hj
    simp [List.getElem?_eq_getElem hjl]

theorem run_append_full {P : Program} {w : World} (t ty e : TypeId) (i : TypeInfo) (z : Value) (ht : P.underlying t = some (.slice e)) (hi : P.info? e = some i) (hz : i.zero = some z)
    (hsize : i.size = 1) (hby : i.bytes = 1) (hzs : z.cells.size = 1) (g n : Nat) (xs : List Int) (hg : w.heap[g]? = some (.cells (xs.map (Value.int .u8)).toArray e (0, 0))) (hn : xs.length = n)
    (p : Option Addr) (m c : Nat) (ys : List Int) (hb : Bytes w p m ys) (hnc : p = none → c = 0) (hsm : n + m ≤ 1000000) (B : Nat) (hB : B ≤ g) :
    ∃ v' w', (Builtin.append_ #[t, t] ty #[.slice (some ⟨g, 0, none⟩) n n, .slice p m c]).run P w = .ok v' w' ∧ w'.ownsRow B e 1 v' (n + m) ((xs ++ ys).map (Value.int .u8)) ∧ Ext w w' := by
  have hyl := hb.length
  have hlt : g < w.heap.size := by
    rcases Nat.lt_or_ge g w.heap.size with hl | hl
    · exact hl
    · simp [Array.getElem?_eq_none hl] at hg
  by_cases hm : m = 0
  · subst hm
    obtain rfl : ys = [] := List.length_eq_zero_iff.1 hyl
    refine ⟨_, w, run_append_nothing w t t ty e i ht hi (some ⟨g, 0, none⟩) n n (Nat.le_refl _) _ ?_, ?_, Ext.refl _⟩
    · cases p with
      | none => exact Src.ofNil w ht c
      | some a => exact Src.ofSlice w ht a 0 c [] (by simp) (by simp) (by simp)
    · simpa using own_of_heap hg hB (by simpa using hn) (by omega)
  · have hmap : (xs ++ ys).map (Value.int .u8) = xs.map (Value.int .u8) ++ ys.map (Value.int .u8) := by simp
    obtain ⟨b, off, rfl⟩ : ∃ b off, p = some ⟨b, off, none⟩ := by
      rcases hb.cells with h0 | ⟨b, off, h0, _⟩
      · exact absurd h0 hm
      · exact ⟨b, off, h0⟩
    have hx : Bytes w (some ⟨g, 0, none⟩) n xs ∨ True := .inr trivial
    have hold : ∀ j u, (xs.map (Value.int .u8))[j]? = some u → w.cell? ((⟨g, 0, none⟩ : Addr).add j) = some u := fun j u hj => by
      have hadd : (⟨g, 0, none⟩ : Addr).add j = ⟨g, j, none⟩ := by unfold Addr.add; split <;> simp_all
      rw [hadd, heap_cell hg]
      simpa using hj
    obtain ⟨v', w', hr, ho, hgr⟩ := run_append_arg_grows (P := P) w t ty e i z 1 1 ht hi hz hsize hby hzs (by omega) ⟨g, 0, none⟩ n n (xs.map (Value.int .u8)) (by simp [hn]) hold ⟨b, off, none⟩ m c (ys.map (Value.int .u8)) (by simp [hyl]) (bytes_cells hb rfl) (by omega) (by unfold maxLen; omega) (by omega)
    refine ⟨v', w', hr, ?_, Below.grown (Ext.refl w) hgr (Nat.le_refl _) (fun k hk => by cases hk)⟩
    rw [hmap]
    exact owns_base ho (by omega)

/-- append to a literal that is full, as an operation. -/
theorem wp_append_full {P : Program} {w : World} {o : Oper} {a : Act} {K : Act → World → Prop} {Q : Exit → Act → World → Prop} (s x : Operand) (t : TypeId) (ho : o.op = .call { callee := .builtin .append, args := #[s, x], argTypes := #[t, t] })
    (e : TypeId) (i : TypeInfo) (z : Value) (ht : P.underlying t = some (.slice e)) (hi : P.info? e = some i) (hz : i.zero = some z) (hsize : i.size = 1) (hby : i.bytes = 1) (hzs : z.cells.size = 1)
    (g n : Nat) (xs : List Int) (hs : a.eval s = .slice (some ⟨g, 0, none⟩) n n) (hg : w.heap[g]? = some (.cells (xs.map (Value.int .u8)).toArray e (0, 0))) (hn : xs.length = n)
    (p : Option Addr) (m c : Nat) (ys : List Int) (hx : a.eval x = .slice p m c) (hb : Bytes w p m ys) (hnc : p = none → c = 0) (hsm : n + m ≤ 1000000) (B : Nat) (hB : B ≤ g)
    (h : ∀ v' w', w'.ownsRow B e 1 v' (n + m) ((xs ++ ys).map (Value.int .u8)) → Ext w w' → K (a.put o.dst v') w') : o.wp P a w K Q := by
  obtain ⟨v', w', hr, h2, h3⟩ := run_append_full (P := P) t o.type e i z ht hi hz hsize hby hzs g n xs hg hn p m c ys hb hnc hsm B hB
  unfold Oper.wp execOp
  simp only [ho, resolve, invoke, builtin, Sem.run_bind, Sem.run_pure, Result.andThen_ok, List.map_toArray, List.map_cons, List.map_nil, hs, hx, hr]
  exact h v' w' h2 h3

end Go.Proofs.Ytkagkfbdpiblkaa
