/- Plain facts on tables: an address of a place; a block that nobody owns is empty. -/
import Derived.Test.YtlnmdlachfnmkaaDir6
namespace Go.Proofs.Ytlnmdlachfnmkaa.Dr
open Go.RowKit Go.Proofs.Ytlnmdlachfnmkaa Go.Proofs.Ytlnmdlachfnmkaa.Tri
set_option linter.unusedVariables false

/-- The first address of a place. -/
def adN (k m : Nat) : Nat := m * 2 ^ beN k

/-- What places are painted with: the longest of their level. -/
def Painted (E : List (PX × Nat)) (f : Nat → Nat → Option Nat) : Prop := ∀ k m, k ≤ 2 → m < 2 ^ (32 - beN k) → Bst E (loN k) (loN (k + 1)) (adN k m) (f k m)

/-- Which tables are there: those that are owned, and those on an address's way, down to a level. -/
def DisR (T : Nat → Nat → Option Nat) (K : List PX) (A lv k : Nat) : Prop := ∀ j n, 1 ≤ j → j ≤ 2 → ((T j n).isSome = true ↔ domB K j n = true ∨ (j ≤ k ∧ j ≤ lv ∧ n = plN (j - 1) A))

theorem div_be {x a b : Nat} (h : a ≤ b) : x / 2 ^ b = x / 2 ^ a / 2 ^ (b - a) := by
  rw [Nat.div_div_eq_div_mul, ← Nat.pow_add]; congr 2; omega

/-- Whether a prefix has an address hangs on the address's place in the prefix's table. -/
theorem cov_place {p : PX} (hp : Vp p) {k A : Nat} (hk : k ≤ 2) (hl : p.2 < (loN (k + 1) : Int)) : cov p ((A : Int), 32) = cov p ((adN k (plN k A) : Nat), 32) := by
  rw [Bool.eq_iff_iff, cov_add hp, cov_add hp]
  obtain ⟨B, N, rfl, hN, hB, -⟩ := hp
  have hlo := lo_be k hk
  simp only [Int.toNat_natCast] at *
  have hbe : beN k ≤ 32 - N := by omega
  have e : adN k (plN k A) / 2 ^ (32 - N) = A / 2 ^ (32 - N) := by
    rw [div_be hbe, div_be (x := A) hbe]
    unfold adN plN
    rw [Nat.mul_div_cancel _ (Nat.pow_pos (by omega))]
  rw [e]

/-- A longer one that has an address lies behind the address's place. -/
theorem cov_behind {p : PX} (hp : Vp p) {k A : Nat} (hk : k ≤ 2) (hl : (loN (k + 1) : Int) ≤ p.2) (h : cov p ((A : Int), 32) = true) : p.1.toNat / 2 ^ beN k = plN k A := by
  rw [cov_add hp] at h
  obtain ⟨B, N, rfl, hN, hB, -⟩ := hp
  have hlo := lo_be k hk
  simp only [Int.toNat_natCast] at *
  have hbe : 32 - N ≤ beN k := by omega
  unfold plN
  rw [div_be hbe, h, ← div_be hbe]

theorem pl_ad (k m : Nat) : plN k (adN k m) = m := by
  unfold plN adN
  exact Nat.mul_div_cancel _ (Nat.pow_pos (by omega))

theorem pl_lt (k A : Nat) (hA : A < 4294967296) (hk : k ≤ 2) : plN k A < 2 ^ (32 - beN k) := by
  unfold plN
  rw [Nat.div_lt_iff_lt_mul (Nat.pow_pos (by omega)), ← Nat.pow_add]
  have : 32 - beN k + beN k = 32 := by unfold beN; omega
  rw [this]; exact hA

theorem pl_up (k m i : Nat) (hk : k ≤ 1) (hi : i < 256) : plN k (adN (k + 1) (m * 256 + i)) = m := by
  unfold plN adN
  have e : beN k = beN (k + 1) + 8 := by unfold beN; omega
  rw [e, Nat.pow_add, ← Nat.div_div_eq_div_mul, Nat.mul_div_cancel _ (Nat.pow_pos (by omega))]
  exact mul_add_div hi

theorem pl_down (k B : Nat) (hk : k ≤ 1) : plN (k + 1) B / 256 = plN k B := pl_next k B hk

theorem empty_iff {T f : Nat → Nat → Option Nat} {E : List (PX × Nat)} {A lv k : Nat} (hf : Painted E f) (hE : ∀ x ∈ E, Vp x.1) (hT : DisR T (E.map (·.1)) A lv (k + 1)) (ht : ∀ j n, 2 < j → T j n = none) (hk : k ≤ 1) (m : Nat) (hm : m < 2 ^ (32 - beN k)) :
    (∀ i, i < 256 → f (k + 1) (m * 256 + i) = none ∧ T (k + 1 + 1) (m * 256 + i) = none) ↔ domB (E.map (·.1)) (k + 1) m = false := by
  have hbe : 32 - beN (k + 1) = 32 - beN k + 8 := by unfold beN; omega
  have hmi : ∀ i, i < 256 → m * 256 + i < 2 ^ (32 - beN (k + 1)) := fun i hi => by
    rw [hbe, Nat.pow_add]
    have : (m + 1) * 2 ^ 8 ≤ 2 ^ (32 - beN k) * 2 ^ 8 := Nat.mul_le_mul_right _ hm
    omega
  constructor
  · intro h
    cases hd : domB (E.map (·.1)) (k + 1) m with
    | false => rfl
    | true =>
      exfalso
      obtain ⟨p, hp, h1, h2⟩ := dom_iff.1 hd
      obtain ⟨⟨p', b⟩, hx, rfl⟩ := List.mem_map.1 hp
      simp only at h1 h2
      have hv := hE _ hx
      simp only at hv
      rw [Nat.add_sub_cancel] at h2
      have hpl : plN (k + 1) p'.1.toNat / 256 = m := by rw [pl_down k _ hk]; exact h2
      have hsp : m * 256 + plN (k + 1) p'.1.toNat % 256 = plN (k + 1) p'.1.toNat := by rw [← hpl, Nat.mul_comm]; exact Nat.div_add_mod _ 256
      obtain ⟨k1, k2⟩ := h (plN (k + 1) p'.1.toNat % 256) (Nat.mod_lt _ (by omega))
      rw [hsp] at k1 k2
      rcases Int.lt_or_le p'.2 (loN (k + 1 + 1) : Int) with hl | hl
      · have hA' : p'.1.toNat < 4294967296 := by have := hv.bd; omega
        have hb := hf (k + 1) (plN (k + 1) p'.1.toNat) (by omega) (pl_lt _ _ hA' (by omega))
        rw [k1] at hb
        have := hb _ hx h1 hl
        rw [← cov_place hv (by omega) hl] at this
        have hself : cov p' ((p'.1.toNat : Int), 32) = true := by rw [cov_add hv]
        rw [hself] at this; cases this
      · have hk0 : k + 1 + 1 ≤ 2 := by
          by_cases e : k = 1
          · subst e
            have := hv.bd
            simp only [loN] at hl; omega
          · omega
        have hdom : domB (E.map (·.1)) (k + 1 + 1) (plN (k + 1) p'.1.toNat) = true := dom_iff.2 ⟨p', hp, hl, rfl⟩
        have := (hT (k + 1 + 1) (plN (k + 1) p'.1.toNat) (by omega) hk0).2 (.inl hdom)
        rw [k2] at this; cases this
  · intro hd i hi
    constructor
    · cases hh : f (k + 1) (m * 256 + i) with
      | none => rfl
      | some b =>
        exfalso
        have hb := hf (k + 1) (m * 256 + i) (by omega) (hmi i hi)
        rw [hh] at hb
        obtain ⟨p, h1, h2, h3, h4, -⟩ := hb
        have := cov_behind (hE _ h1) (k := k) (by omega) h2 h4
        rw [pl_up k m i hk hi] at this
        have : domB (E.map (·.1)) (k + 1) m = true := dom_iff.2 ⟨p, List.mem_map.2 ⟨_, h1, rfl⟩, h2, this⟩
        rw [hd] at this; cases this
    · cases hh : T (k + 1 + 1) (m * 256 + i) with
      | none => rfl
      | some b =>
        exfalso
        have hk0 : k + 1 + 1 ≤ 2 := by
          rcases Nat.lt_or_ge 2 (k + 1 + 1) with h | h
          · rw [ht _ _ h] at hh; cases hh
          · exact h
        rcases (hT (k + 1 + 1) (m * 256 + i) (by omega) hk0).1 (by rw [hh]; rfl) with h | h
        · obtain ⟨p, h1, h2, h3⟩ := dom_iff.1 h
          have e : p.1.toNat / 2 ^ beN k = m := by
            have h3' : plN (k + 1) p.1.toNat = m * 256 + i := h3
            have := pl_down k p.1.toNat hk
            rw [h3', mul_add_div hi] at this
            exact this.symm
          have hlo : (loN (k + 1) : Int) ≤ p.2 := by
            have : loN (k + 1) ≤ loN (k + 1 + 1) := by
              have : k = 0 := by omega
              subst this; decide
            omega
          have : domB (E.map (·.1)) (k + 1) m = true := dom_iff.2 ⟨p, h1, hlo, e⟩
          rw [hd] at this; cases this
        · omega
end Go.Proofs.Ytlnmdlachfnmkaa.Dr
