/- Plain facts on tables of prefixes: levels, places, the longest prefix that has an address, how many blocks are owned. -/
import Derived.Test.YtlnmdlachfnmkaaDir1
import Derived.Test.YtlnmdlachfnmkaaTrieL
namespace Go.Proofs.Ytlnmdlachfnmkaa.Dr
open Go.RowKit Go.Proofs.Ytlnmdlachfnmkaa Go.Proofs.Ytlnmdlachfnmkaa.Tri
set_option linter.unusedVariables false

/-- The least length of what ends in a level's tables. -/
def loN : Nat → Nat
  | 0 => 0
  | 1 => 17
  | 2 => 25
  | _ => 33
/-- The level of a length. -/
def lvN (n : Nat) : Nat := if n ≤ 16 then 0 else if n ≤ 24 then 1 else 2

theorem lvN_le (n : Nat) : lvN n ≤ 2 := by unfold lvN; split; omega; split <;> omega
theorem lvN_lo (n : Nat) (h : n ≤ 32) : loN (lvN n) ≤ n ∧ n < loN (lvN n + 1) := by
  unfold lvN; split
  · simp [loN]; omega
  · split
    · simp [loN]; omega
    · simp [loN]; omega
theorem lvN_lt (n k : Nat) (h : k ≤ 1) : k < lvN n ↔ loN (k + 1) ≤ n := by
  match k, h with
  | 0, _ => unfold lvN; simp only [loN]; split; omega; split <;> omega
  | 1, _ => unfold lvN; simp only [loN]; split; omega; split <;> omega

theorem lo_be (k : Nat) (hk : k ≤ 2) : loN (k + 1) + beN k = 33 := by
  match k, hk with
  | 0, _ => rfl
  | 1, _ => rfl
  | 2, _ => rfl

theorem pl_next (k A : Nat) (hk : k ≤ 1) : plN (k + 1) A / szN (k + 1) = plN k A := by
  match k, hk with
  | 0, _ => simp only [plN, szN, beN]; omega
  | 1, _ => simp only [plN, szN, beN]; omega

theorem pl_zero (A : Nat) (hA : A < 4294967296) : plN 0 A / szN 0 = 0 := by
  simp only [plN, szN, beN]; omega

theorem pl_split (k A : Nat) : plN k A / szN k * szN k + plN k A % szN k = plN k A := by
  have := Nat.div_add_mod (plN k A) (szN k)
  rw [Nat.mul_comm]; exact this

/-- Is there a prefix behind the place n of the level before j? -/
def domB (K : List PX) (j n : Nat) : Bool := K.any fun p => decide ((loN j : Int) ≤ p.2) && decide (p.1.toNat / 2 ^ beN (j - 1) = n)

theorem dom_iff {K : List PX} {j n : Nat} : domB K j n = true ↔ ∃ p ∈ K, (loN j : Int) ≤ p.2 ∧ p.1.toNat / 2 ^ beN (j - 1) = n := by
  simp [domB]

/-! How many there are, but for what is there twice. -/
def cntD : List Nat → Nat
  | [] => 0
  | x :: l => cntD l + if x ∈ l then 0 else 1

theorem cntD_perm {l l' : List Nat} (h : l.Perm l') : cntD l = cntD l' := by
  induction h with
  | nil => rfl
  | cons x h ih => simp only [cntD, ih, h.mem_iff]
  | swap x y l =>
    simp only [cntD, List.mem_cons]
    by_cases e : x = y
    · subst e; rfl
    · have e' : ¬ y = x := fun h => e h.symm
      simp only [e, e', false_or]; omega
  | trans _ _ ih1 ih2 => exact ih1.trans ih2

def hv (j : Nat) (K : List PX) : List Nat := (K.filter fun p => decide ((loN j : Int) ≤ p.2)).map fun p => p.1.toNat / 2 ^ beN (j - 1)

theorem hv_mem {j : Nat} {K : List PX} {n : Nat} : n ∈ hv j K ↔ domB K j n = true := by
  rw [dom_iff]; simp [hv, and_assoc]

def ownN (K : List PX) : Nat := cntD (hv 1 K) + cntD (hv 2 K)

/-- How many more a prefix of that address and level owns. -/
def moreN (K : List PX) (A : Nat) : Nat → Nat
  | 0 => 0
  | j + 1 => moreN K A j + if domB K (j + 1) (plN j A) = true then 0 else 1

theorem own_cons (p : PX) (hp : Vp p) (K : List PX) : ownN (p :: K) = ownN K + moreN K p.1.toNat (lvN p.2.toNat) := by
  obtain ⟨A, N, rfl, hN, hA, -⟩ := hp
  simp only [Int.toNat_natCast]
  have step : ∀ j, cntD (hv j (((A : Int), (N : Int)) :: K)) = cntD (hv j K) + if loN j ≤ N then (if domB K j (A / 2 ^ beN (j - 1)) = true then 0 else 1) else 0 := by
    intro j
    by_cases h : loN j ≤ N
    · have e : hv j (((A : Int), (N : Int)) :: K) = A / 2 ^ beN (j - 1) :: hv j K := by simp [hv, h]
      rw [e, if_pos h]
      simp only [cntD, hv_mem]
    · have e : hv j (((A : Int), (N : Int)) :: K) = hv j K := by simp [hv, h]
      rw [e, if_neg h]; rfl
  unfold ownN
  rw [step, step]
  have l1 : loN 1 = 17 := rfl
  have l2 : loN 2 = 25 := rfl
  have e0 : (if domB K 1 (A / 2 ^ beN (1 - 1)) = true then 0 else 1) = (if domB K (0 + 1) (plN 0 A) = true then 0 else 1) := rfl
  have e1 : (if domB K 2 (A / 2 ^ beN (2 - 1)) = true then 0 else 1) = (if domB K (1 + 1) (plN 1 A) = true then 0 else 1) := rfl
  rw [l1, l2, e0, e1]
  by_cases h1 : N ≤ 16
  · rw [show lvN N = 0 by unfold lvN; rw [if_pos h1], if_neg (show ¬ 17 ≤ N by omega), if_neg (show ¬ 25 ≤ N by omega)]; rfl
  · by_cases h2 : N ≤ 24
    · rw [show lvN N = 1 by unfold lvN; rw [if_neg h1, if_pos h2], if_pos (show 17 ≤ N by omega), if_neg (show ¬ 25 ≤ N by omega)]; simp only [moreN]; omega
    · rw [show lvN N = 2 by unfold lvN; rw [if_neg h1, if_neg h2], if_pos (show 17 ≤ N by omega), if_pos (show 25 ≤ N by omega)]; simp only [moreN]; omega

theorem own_perm {K K' : List PX} (h : K.Perm K') : ownN K = ownN K' := by
  unfold ownN hv
  rw [cntD_perm ((h.filter _).map _), cntD_perm ((h.filter _).map _)]

theorem dom_perm {K K' : List PX} (h : K.Perm K') (j n : Nat) : domB K j n = domB K' j n := by
  rw [Bool.eq_iff_iff, dom_iff, dom_iff]
  simp only [h.mem_iff]

/-! The longest of the lengths from lo to below hi that has an address. -/
def Bst (E : List (PX × Nat)) (lo hi A : Nat) : Option Nat → Prop
  | none => ∀ x ∈ E, (lo : Int) ≤ x.1.2 → x.1.2 < (hi : Int) → cov x.1 ((A : Int), 32) = false
  | some b => ∃ p, (p, b) ∈ E ∧ (lo : Int) ≤ p.2 ∧ p.2 < (hi : Int) ∧ cov p ((A : Int), 32) = true ∧ ∀ x ∈ E, (lo : Int) ≤ x.1.2 → x.1.2 < (hi : Int) → cov x.1 ((A : Int), 32) = true → x.1.2 ≤ p.2

theorem bst_join {E : List (PX × Nat)} {lo mi hi A : Nat} {o o' : Option Nat} (h1 : lo ≤ mi) (h2 : mi ≤ hi) (h : Bst E lo mi A o) (h' : Bst E mi hi A o') : Bst E lo hi A (match o' with | some b => some b | none => o) := by
  cases o' with
  | some b =>
    obtain ⟨p, k1, k2, k3, k4, k5⟩ := h'
    refine ⟨p, k1, by omega, k3, k4, fun x hx a1 a2 a3 => ?_⟩
    rcases Int.lt_or_le x.1.2 mi with hl | hl
    · omega
    · exact k5 x hx hl a2 a3
  | none =>
    cases o with
    | none =>
      intro x hx a1 a2
      rcases Int.lt_or_le x.1.2 mi with hl | hl
      · exact h x hx a1 hl
      · exact h' x hx hl a2
    | some b =>
      obtain ⟨p, k1, k2, k3, k4, k5⟩ := h
      refine ⟨p, k1, k2, by omega, k4, fun x hx a1 a2 a3 => ?_⟩
      rcases Int.lt_or_le x.1.2 mi with hl | hl
      · exact k5 x hx a1 hl a3
      · rw [h' x hx hl a2] at a3; cases a3

/-- Nothing longer is there. -/
theorem bst_wide {E : List (PX × Nat)} {lo mi hi A : Nat} {o : Option Nat} (h1 : lo ≤ mi) (h2 : mi ≤ hi) (h : Bst E lo mi A o) (hn : ∀ x ∈ E, (mi : Int) ≤ x.1.2 → cov x.1 ((A : Int), 32) = false) : Bst E lo hi A o := by
  have : Bst E mi hi A none := fun x hx a1 _ => hn x hx a1
  exact bst_join h1 h2 h this

theorem cov_add {p : PX} (hp : Vp p) {A : Nat} : cov p ((A : Int), 32) = true ↔ p.1.toNat / 2 ^ (32 - p.2.toNat) = A / 2 ^ (32 - p.2.toNat) := by
  obtain ⟨B, N, rfl, hN, hB, -⟩ := hp
  have := cov_nat (A := B) (N := N) (B := A) (M := 32) hN (Nat.le_refl _)
  simp only [Int.toNat_natCast]
  rw [show (32 : Int) = ((32 : Nat) : Int) from rfl, this]
  exact ⟨fun h => h.2, fun h => ⟨hN, h⟩⟩

/-- Of two that both have an address the one of the same length is the same. -/
theorem same_len {p q : PX} (hp : Vp p) (hq : Vp q) {A : Nat} (h1 : cov p ((A : Int), 32) = true) (h2 : cov q ((A : Int), 32) = true) (hl : p.2 = q.2) : p = q := by
  rw [cov_add hp] at h1
  rw [cov_add hq] at h2
  obtain ⟨B, N, rfl, hN, hB, hBz⟩ := hp
  obtain ⟨C, M, rfl, hM, hC, hCz⟩ := hq
  simp only [Int.toNat_natCast] at h1 h2 hl
  obtain rfl : N = M := by omega
  have e : B / 2 ^ (32 - N) = C / 2 ^ (32 - N) := by rw [h1, h2]
  have e1 := Nat.div_add_mod B (2 ^ (32 - N))
  have e2 := Nat.div_add_mod C (2 ^ (32 - N))
  rw [hBz] at e1
  rw [hCz] at e2
  rw [e] at e1
  have : B = C := by omega
  rw [this]
end Go.Proofs.Ytlnmdlachfnmkaa.Dr
