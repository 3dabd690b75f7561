/- Package dir's tables: one more, one less, paint. -/
import Derived.Test.YtlnmdlachfnmkaaDir4
namespace Go.Proofs.Ytlnmdlachfnmkaa.Dr
set_option maxRecDepth 100000
open Go.RowKit Go.Proofs.Ytlnmdlachfnmkaa Go.Proofs.Ytlnmdlachfnmkaa.Tri
set_option linter.unusedVariables false

theorem sz_next (k : Nat) : szN (k + 1) = 256 := rfl
theorem ty_next (k : Nat) : tyN (k + 1) = 102 := rfl

/-- A table's place leads elsewhere. -/
def putT (T : Nat → Nat → Option Nat) (k m : Nat) (o : Option Nat) : Nat → Nat → Option Nat := fun k' m' => if k' = k ∧ m' = m then o else T k' m'

theorem putT_same (T : Nat → Nat → Option Nat) (k m : Nat) (o : Option Nat) : putT T k m o k m = o := by simp [putT]
theorem putT_other (T : Nat → Nat → Option Nat) {k m k' m' : Nat} (o : Option Nat) (h : ¬ (k' = k ∧ m' = m)) : putT T k m o k' m' = T k' m' := by simp only [putT, if_neg h]

theorem mul_add_div {s n i : Nat} (hi : i < s) : (n * s + i) / s = n := by
  rw [Nat.add_comm, Nat.add_mul_div_right _ _ (by omega), Nat.div_eq_of_lt hi, Nat.zero_add]

theorem Tabs.add {W W' : World} {T f : Nat → Nat → Option Nat} (h : Tabs W T f) {k m b nb : Nat} (hk : k ≤ 1) (hb : T k (m / szN k) = some b) (hm : T (k + 1) m = none) (hnew : W.heap.size ≤ nb) {G : List Nat} (hx : ExtS G W W') (hG : ∀ k n b', T k n = some b' → b' ≠ b → b' ∉ G)
    (hw : TabAt W' b (szN k) (tyN k) (fun i => f k (m / szN k * szN k + i)) (fun i => if i = m % szN k then some nb else T (k + 1) (m / szN k * szN k + i)))
    (hz : TabAt W' nb 256 102 (fun _ => none) (fun _ => none)) : Tabs W' (putT T (k + 1) m (some nb)) f := by
  have fresh : ∀ k n b', T k n = some b' → b' ≠ nb := fun k n b' e => by have := (h.tab k n b' e).lt; omega
  have none2 : ∀ i, i < 256 → T (k + 1 + 1) (m * 256 + i) = none := fun i hi => by
    cases hh : T (k + 1 + 1) (m * 256 + i) with
    | none => rfl
    | some b' =>
      have := h.par (k + 1) _ b' hh
      rw [sz_next, mul_add_div hi] at this
      exact absurd hm this
  have nonf : ∀ i, i < 256 → f (k + 1) (m * 256 + i) = none := fun i hi => h.bare (k + 1) _ (by rw [sz_next, mul_add_div hi]; exact hm)
  refine ⟨fun n b' e => ?_, fun k' n hk' => ?_, fun k' n b' e => ?_, fun k1 n1 k2 n2 b' e1 e2 => ?_, fun k' m' b' e => ?_, fun k' m' e => ?_⟩
  · rw [putT_other T _ (by omega)] at e; exact h.at0 n b' e
  · rw [putT_other T _ (by omega)]; exact h.top k' n hk'
  · by_cases e1 : k' = k + 1 ∧ n = m
    · obtain ⟨rfl, rfl⟩ := e1
      rw [putT_same] at e
      cases e
      rw [sz_next, ty_next]
      refine hz.congr (fun i hi => nonf i hi) (fun i hi => ?_)
      rw [putT_other T _ (by omega)]
      exact none2 i hi
    · rw [putT_other T _ e1] at e
      by_cases e2 : b' = b
      · subst e2
        obtain ⟨rfl, rfl⟩ := h.inj _ _ _ _ _ e hb
        refine hw.congr (fun i hi => rfl) (fun i hi => ?_)
        have hsp : m / szN k' * szN k' + m % szN k' = m := by rw [Nat.mul_comm]; exact Nat.div_add_mod m (szN k')
        by_cases e3 : i = m % szN k'
        · subst e3
          rw [if_pos rfl, hsp, putT_same]
        · rw [if_neg e3, putT_other T _ (by omega)]
      · refine ((h.tab k' n b' e).later hx (hG k' n b' e e2)).congr (fun i hi => rfl) (fun i hi => ?_)
        rw [putT_other T _ ?_]
        rintro ⟨h1, h2⟩
        have hkk : k' = k := by omega
        subst hkk
        rw [← h2, mul_add_div hi, e] at hb
        cases hb; exact e2 rfl
  · by_cases a1 : k1 = k + 1 ∧ n1 = m
    · by_cases a2 : k2 = k + 1 ∧ n2 = m
      · exact ⟨by rw [a1.1, a2.1], by rw [a1.2, a2.2]⟩
      · rw [a1.1, a1.2, putT_same] at e1
        rw [putT_other T _ a2] at e2
        cases e1
        exact absurd rfl (fresh _ _ _ e2)
    · rw [putT_other T _ a1] at e1
      by_cases a2 : k2 = k + 1 ∧ n2 = m
      · rw [a2.1, a2.2, putT_same] at e2
        cases e2
        exact absurd rfl (fresh _ _ _ e1)
      · rw [putT_other T _ a2] at e2
        exact h.inj _ _ _ _ _ e1 e2
  · by_cases a1 : k' + 1 = k + 1 ∧ m' = m
    · obtain ⟨a1, rfl⟩ := a1
      obtain rfl : k' = k := by omega
      rw [putT_other T _ (by omega), hb]; simp
    · rw [putT_other T _ a1] at e
      have hp := h.par k' m' b' e
      by_cases a2 : k' = k + 1 ∧ m' / szN k' = m
      · rw [a2.1] at hp ⊢
        rw [a2.1] at a2
        rw [a2.2, putT_same]; simp
      · rw [putT_other T _ a2]; exact hp
  · by_cases a1 : k' = k + 1 ∧ m' / szN k' = m
    · rw [a1.2, a1.1, putT_same] at e; cases e
    · rw [putT_other T _ a1] at e; exact h.bare k' m' e

theorem Tabs.cut {W W' : World} {T f : Nat → Nat → Option Nat} (h : Tabs W T f) {k m b nb : Nat} (hk : k ≤ 1) (hb : T k (m / szN k) = some b) (hm : T (k + 1) m = some nb) {G : List Nat} (hx : ExtS G W W') (hG : ∀ k n b', T k n = some b' → b' ≠ b → b' ∉ G)
    (hw : TabAt W' b (szN k) (tyN k) (fun i => f k (m / szN k * szN k + i)) (fun i => if i = m % szN k then none else T (k + 1) (m / szN k * szN k + i)))
    (he1 : ∀ i, i < 256 → f (k + 1) (m * 256 + i) = none) (he2 : ∀ i, i < 256 → T (k + 1 + 1) (m * 256 + i) = none) : Tabs W' (putT T (k + 1) m none) f := by
  refine ⟨fun n b' e => ?_, fun k' n hk' => ?_, fun k' n b' e => ?_, fun k1 n1 k2 n2 b' e1 e2 => ?_, fun k' m' b' e => ?_, fun k' m' e => ?_⟩
  · rw [putT_other T _ (by omega)] at e; exact h.at0 n b' e
  · by_cases a : k' = k + 1 ∧ n = m
    · rw [a.1, a.2, putT_same]
    · rw [putT_other T _ a]; exact h.top k' n hk'
  · by_cases e1 : k' = k + 1 ∧ n = m
    · rw [e1.1, e1.2, putT_same] at e; cases e
    · rw [putT_other T _ e1] at e
      by_cases e2 : b' = b
      · subst e2
        obtain ⟨rfl, rfl⟩ := h.inj _ _ _ _ _ e hb
        refine hw.congr (fun i hi => rfl) (fun i hi => ?_)
        have hsp : m / szN k' * szN k' + m % szN k' = m := by rw [Nat.mul_comm]; exact Nat.div_add_mod m (szN k')
        by_cases e3 : i = m % szN k'
        · subst e3
          rw [if_pos rfl, hsp, putT_same]
        · rw [if_neg e3, putT_other T _ (by omega)]
      · refine ((h.tab k' n b' e).later hx (hG k' n b' e e2)).congr (fun i hi => rfl) (fun i hi => ?_)
        rw [putT_other T _ ?_]
        rintro ⟨h1, h2⟩
        have hkk : k' = k := by omega
        subst hkk
        rw [← h2, mul_add_div hi, e] at hb
        cases hb; exact e2 rfl
  · have up : ∀ k' n' b', putT T (k + 1) m none k' n' = some b' → T k' n' = some b' := fun k' n' b' e => by
      by_cases a : k' = k + 1 ∧ n' = m
      · rw [a.1, a.2, putT_same] at e; cases e
      · rw [putT_other T _ a] at e; exact e
    exact h.inj _ _ _ _ _ (up _ _ _ e1) (up _ _ _ e2)
  · by_cases a1 : k' + 1 = k + 1 ∧ m' = m
    · rw [a1.1, a1.2, putT_same] at e; cases e
    · rw [putT_other T _ a1] at e
      by_cases a2 : k' = k + 1 ∧ m' / szN k' = m
      · exfalso
        obtain ⟨rfl, a2⟩ := a2
        have := he2 (m' % 256) (Nat.mod_lt _ (by omega))
        rw [sz_next] at a2
        have hsp : m * 256 + m' % 256 = m' := by rw [← a2, Nat.mul_comm]; exact Nat.div_add_mod m' 256
        rw [hsp, e] at this; cases this
      · rw [putT_other T _ a2]; exact h.par k' m' b' e
  · by_cases a1 : k' = k + 1 ∧ m' / szN k' = m
    · obtain ⟨rfl, a2⟩ := a1
      have := he1 (m' % 256) (Nat.mod_lt _ (by omega))
      rw [sz_next] at a2
      have hsp : m * 256 + m' % 256 = m' := by rw [← a2, Nat.mul_comm]; exact Nat.div_add_mod m' 256
      rw [hsp] at this; exact this
    · rw [putT_other T _ a1] at e; exact h.bare k' m' e

theorem Tabs.paint {W W' : World} {T f f' : Nat → Nat → Option Nat} (h : Tabs W T f) {k n b : Nat} (hb : T k n = some b) {G : List Nat} (hx : ExtS G W W') (hG : ∀ k n b', T k n = some b' → b' ≠ b → b' ∉ G)
    (hw : TabAt W' b (szN k) (tyN k) (fun i => f' k (n * szN k + i)) (fun i => T (k + 1) (n * szN k + i))) (hf : ∀ k' m', ¬ (k' = k ∧ m' / szN k' = n) → f' k' m' = f k' m') : Tabs W' T f' := by
  refine ⟨h.at0, h.top, fun k' n' b' e => ?_, h.inj, h.par, fun k' m' e => ?_⟩
  · by_cases e2 : b' = b
    · subst e2
      obtain ⟨rfl, rfl⟩ := h.inj _ _ _ _ _ e hb
      exact hw
    · refine ((h.tab k' n' b' e).later hx (hG k' n' b' e e2)).congr (fun i hi => hf k' _ ?_) (fun i hi => rfl)
      rintro ⟨rfl, a⟩
      rw [mul_add_div hi] at a
      subst a
      rw [e] at hb; cases hb; exact e2 rfl
  · rw [hf k' m' ?_]
    · exact h.bare k' m' e
    · rintro ⟨rfl, a⟩
      rw [a, hb] at e; cases e
end Go.Proofs.Ytlnmdlachfnmkaa.Dr
