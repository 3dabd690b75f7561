/- Plain facts on paint: what comes, what goes. -/
import Derived.Test.YtlnmdlachfnmkaaDirA
namespace Go.Proofs.Ytlnmdlachfnmkaa.Dr
open Go.RowKit Go.Proofs.Ytlnmdlachfnmkaa Go.Proofs.Ytlnmdlachfnmkaa.Tri
set_option linter.unusedVariables false

def lenB (E : List (PX × Nat)) (b : Nat) : Int := nvE E (fun p => p.2) b

theorem bst_keep {E : List (PX × Nat)} {x : PX × Nat} {lo hi A : Nat} {o : Option Nat} (h : Bst E lo hi A o) (hx : (lo : Int) ≤ x.1.2 → x.1.2 < (hi : Int) → cov x.1 ((A : Int), 32) = false) : Bst (E ++ [x]) lo hi A o := by
  cases o with
  | none =>
    intro y hy a1 a2
    rcases List.mem_append.1 hy with hy | hy
    · exact h y hy a1 a2
    · rw [List.mem_singleton.1 hy] at a1 a2 ⊢; exact hx a1 a2
  | some b =>
    obtain ⟨p, h1, h2, h3, h4, h5⟩ := h
    refine ⟨p, List.mem_append_left _ h1, h2, h3, h4, fun y hy a1 a2 a3 => ?_⟩
    rcases List.mem_append.1 hy with hy | hy
    · exact h5 y hy a1 a2 a3
    · rw [List.mem_singleton.1 hy] at a1 a2 a3
      rw [hx a1 a2] at a3; cases a3

theorem bst_new {E : List (PX × Nat)} {x : PX × Nat} {lo hi A : Nat} {o : Option Nat} (hn : (E.map (·.2)).Nodup) (h : Bst E lo hi A o) (h1 : (lo : Int) ≤ x.1.2) (h2 : x.1.2 < (hi : Int)) (h3 : cov x.1 ((A : Int), 32) = true) (h4 : ∀ b, o = some b → lenB E b < x.1.2) : Bst (E ++ [x]) lo hi A (some x.2) := by
  refine ⟨x.1, List.mem_append_right _ (List.mem_singleton.2 rfl), h1, h2, h3, fun y hy a1 a2 a3 => ?_⟩
  rcases List.mem_append.1 hy with hy | hy
  · cases o with
    | none => rw [h y hy a1 a2] at a3; cases a3
    | some b =>
      obtain ⟨p, k1, k2, k3, k4, k5⟩ := h
      have := k5 y hy a1 a2 a3
      have h4' := h4 b rfl
      unfold lenB at h4'
      rw [nvE_of hn k1] at h4'
      omega
  · rw [List.mem_singleton.1 hy]; exact Int.le_refl _

theorem bst_old {E : List (PX × Nat)} {x : PX × Nat} {lo hi A b : Nat} (hn : (E.map (·.2)).Nodup) (h : Bst E lo hi A (some b)) (h4 : x.1.2 ≤ lenB E b) : Bst (E ++ [x]) lo hi A (some b) := by
  obtain ⟨p, k1, k2, k3, k4, k5⟩ := h
  unfold lenB at h4
  rw [nvE_of hn k1] at h4
  refine ⟨p, List.mem_append_left _ k1, k2, k3, k4, fun y hy a1 a2 a3 => ?_⟩
  rcases List.mem_append.1 hy with hy | hy
  · exact k5 y hy a1 a2 a3
  · rw [List.mem_singleton.1 hy]; exact h4

/-- A prefix's places are those of its level that it has. -/
theorem cov_range {A N m : Nat} (hA : A < 4294967296) (hN : N ≤ 32) (hZ : A % 2 ^ (32 - N) = 0) : cov ((A : Int), (N : Int)) ((adN (lvN N) m : Nat), 32) = true ↔ plN (lvN N) A ≤ m ∧ m < plN (lvN N) A + cntN N := by
  have hv : Vp ((A : Int), (N : Int)) := ⟨A, N, rfl, hN, hA, hZ⟩
  rw [cov_add hv]
  simp only [Int.toNat_natCast]
  have hb := lv_be N hN
  have e1 : adN (lvN N) m / 2 ^ (32 - N) = m / cntN N := by
    rw [div_be (a := beN (lvN N)) (b := 32 - N) (by omega)]
    unfold adN cntN
    rw [Nat.mul_div_cancel _ (Nat.pow_pos (by omega))]
    congr 2
    omega
  have e2 : A / 2 ^ (32 - N) = plN (lvN N) A / cntN N := by
    rw [div_be (a := beN (lvN N)) (b := 32 - N) (by omega)]
    unfold plN cntN
    congr 2
    omega
  rw [e1, e2]
  obtain ⟨q, hq⟩ := cnt_dvd A N hN hZ
  have hc : 0 < cntN N := Nat.pow_pos (by omega)
  rw [hq, Nat.mul_div_cancel_left _ hc]
  constructor
  · intro h
    have h1 := Nat.div_add_mod m (cntN N)
    have h2 := Nat.mod_lt m hc
    rw [← h] at h1
    omega
  · rintro ⟨h1, h2⟩
    symm
    rw [Nat.div_eq_iff hc]
    rw [Nat.mul_comm] at h1 h2
    constructor
    · exact h1
    · omega

/-- Behind cover. -/
def covF (f : Nat → Nat → Option Nat) (bt : Nat → Int) (lv pm cnt l : Nat) : Nat → Nat → Option Nat := fun k m => if k = lv ∧ pm ≤ m ∧ m < pm + cnt ∧ (∀ b, f k m = some b → bt b < bt l) then some l else f k m

/-- Behind uncover. -/
def uncF (f : Nat → Nat → Option Nat) (lv pm cnt l : Nat) (u : Option Nat) : Nat → Nat → Option Nat := fun k m => if k = lv ∧ pm ≤ m ∧ m < pm + cnt ∧ f k m = some l then u else f k m

theorem lv_only {N k : Nat} (hN : N ≤ 32) (hk : k ≤ 2) (h1 : loN k ≤ N) (h2 : N < loN (k + 1)) : k = lvN N := by
  unfold lvN
  match k, hk with
  | 0, _ => simp only [loN] at h1 h2; rw [if_pos (by omega)]
  | 1, _ => simp only [loN] at h1 h2; rw [if_neg (by omega), if_pos (by omega)]
  | 2, _ => simp only [loN] at h1 h2; rw [if_neg (by omega), if_neg (by omega)]

theorem bst_block {E : List (PX × Nat)} {lo hi A b : Nat} (h : Bst E lo hi A (some b)) : b ∈ E.map (·.2) := by
  obtain ⟨p, h1, -⟩ := h
  exact List.mem_map.2 ⟨_, h1, rfl⟩

theorem lenB_app {E : List (PX × Nat)} {x : PX × Nat} {b : Nat} (hn : ((E ++ [x]).map (·.2)).Nodup) (hb : b ∈ E.map (·.2)) : lenB (E ++ [x]) b = lenB E b := by
  obtain ⟨y, hy, rfl⟩ := List.mem_map.1 hb
  have hn' : (E.map (·.2)).Nodup := by
    rw [List.map_append] at hn; exact (List.nodup_append.1 hn).1
  unfold lenB
  rw [nvE_of (p := y.1) (b := y.2) hn (List.mem_append_left _ hy), nvE_of (p := y.1) (b := y.2) hn' hy]

theorem paint_new {E : List (PX × Nat)} {f : Nat → Nat → Option Nat} {A N l : Nat} (hp : Painted E f) (hn : ((E ++ [(((A : Int), (N : Int)), l)]).map (·.2)).Nodup) (hA : A < 4294967296) (hN : N ≤ 32) (hZ : A % 2 ^ (32 - N) = 0) :
    Painted (E ++ [(((A : Int), (N : Int)), l)]) (covF f (lenB (E ++ [(((A : Int), (N : Int)), l)])) (lvN N) (plN (lvN N) A) (cntN N) l) := by
  have hn' : (E.map (·.2)).Nodup := by
    rw [List.map_append] at hn; exact (List.nodup_append.1 hn).1
  have hll : lenB (E ++ [(((A : Int), (N : Int)), l)]) l = N := by
    unfold lenB
    exact nvE_of (V := fun p : PX => p.2) (p := ((A : Int), (N : Int))) hn (List.mem_append_right _ (List.mem_singleton.2 rfl))
  intro k m hk hm
  have hb := hp k m hk hm
  by_cases hkl : k = lvN N
  · subst hkl
    have hlo := lvN_lo N hN
    have hcov := cov_range (m := m) hA hN hZ
    by_cases hr : plN (lvN N) A ≤ m ∧ m < plN (lvN N) A + cntN N
    · have hc := hcov.2 hr
      by_cases hlt : ∀ b, f (lvN N) m = some b → lenB (E ++ [(((A : Int), (N : Int)), l)]) b < lenB (E ++ [(((A : Int), (N : Int)), l)]) l
      · simp only [covF]
        rw [if_pos ⟨trivial, hr.1, hr.2, hlt⟩]
        refine bst_new (x := (((A : Int), (N : Int)), l)) hn' hb (show (_ : Int) ≤ (N : Int) by omega) (show (N : Int) < _ by omega) hc (fun b e => ?_)
        have h1 := hlt b e
        rw [e] at hb
        rw [hll, lenB_app hn (bst_block hb)] at h1
        exact h1
      · simp only [covF]
        rw [if_neg (fun h => hlt h.2.2.2)]
        cases hf : f (lvN N) m with
        | none => exact absurd (fun b e => by rw [hf] at e; cases e) hlt
        | some b =>
          rw [hf] at hb
          refine bst_old hn' hb ?_
          show (N : Int) ≤ _
          rcases Int.lt_or_le (lenB E b) N with h | h
          · exact absurd (fun b' e => by rw [hf] at e; cases e; rw [hll, lenB_app hn (bst_block hb)]; exact h) hlt
          · exact h
    · simp only [covF]
      rw [if_neg (fun h => hr ⟨h.2.1, h.2.2.1⟩)]
      refine bst_keep hb (fun _ _ => ?_)
      cases hc : cov ((A : Int), (N : Int)) ((adN (lvN N) m : Nat), 32) with
      | false => rfl
      | true => exact absurd (hcov.1 hc) hr
  · simp only [covF]
    rw [if_neg (fun h => hkl h.1)]
    refine bst_keep hb (fun a1 a2 => ?_)
    exact absurd (lv_only hN hk (by simpa using a1) (by simpa using a2)) hkl

theorem mem_delE {E : List (PX × Nat)} {p : PX} (hn : (E.map (·.1)).Nodup) {x : PX × Nat} : x ∈ delE E p ↔ x ∈ E ∧ x.1 ≠ p := by
  induction E with
  | nil => simp [delE]
  | cons y E ih =>
    rw [List.map_cons, List.nodup_cons] at hn
    simp only [delE]
    split
    · rename_i e
      constructor
      · intro hx
        refine ⟨List.mem_cons_of_mem _ hx, fun e2 => hn.1 ?_⟩
        rw [e, ← e2]; exact List.mem_map.2 ⟨x, hx, rfl⟩
      · rintro ⟨hx, h2⟩
        rcases List.mem_cons.1 hx with rfl | hx
        · exact absurd e h2
        · exact hx
    · rename_i e
      rw [List.mem_cons, ih hn.2, List.mem_cons]
      constructor
      · rintro (rfl | ⟨h1, h2⟩)
        · exact ⟨.inl rfl, e⟩
        · exact ⟨.inr h1, h2⟩
      · rintro ⟨rfl | h1, h2⟩
        · exact .inl rfl
        · exact .inr ⟨h1, h2⟩

theorem perm_delE {E : List (PX × Nat)} {p : PX} {b : Nat} (h : lk E p = some b) : E.Perm ((p, b) :: delE E p) := by
  induction E with
  | nil => cases h
  | cons y E ih =>
    simp only [lk] at h
    simp only [delE]
    split
    · rename_i e
      rw [if_pos e] at h
      cases h
      rw [← e]
    · rename_i e
      rw [if_neg e] at h
      exact ((ih h).cons y).trans (List.Perm.swap _ _ _)

/-- Of a shorter one: it has a prefix's address if it has any address that the prefix has. -/
theorem cov_shorter {p x : PX} (hp : Vp p) (hx : Vp x) {B : Nat} (hb : cov p ((B : Int), 32) = true) (hl : x.2 ≤ p.2) : cov x ((p.1.toNat : Nat), 32) = cov x ((B : Int), 32) := by
  rw [Bool.eq_iff_iff, cov_add hx, cov_add hx]
  rw [cov_add hp] at hb
  obtain ⟨A, N, rfl, hN, hA, -⟩ := hp
  obtain ⟨C, M, rfl, hM, hC, -⟩ := hx
  simp only [Int.toNat_natCast] at *
  have : A / 2 ^ (32 - M) = B / 2 ^ (32 - M) := by
    rw [div_be (a := 32 - N) (b := 32 - M) (by omega), hb, ← div_be (by omega)]
  rw [this]

theorem paint_del {E : List (PX × Nat)} {f : Nat → Nat → Option Nat} {A N l : Nat} {u : Option Nat} (hp : Painted E f) (hv : ∀ x ∈ E, Vp x.1) (hk : (E.map (·.1)).Nodup) (hn : (E.map (·.2)).Nodup) (hA : A < 4294967296) (hN : N ≤ 32) (hZ : A % 2 ^ (32 - N) = 0)
    (hl : (((A : Int), (N : Int)), l) ∈ E) (hu : Bst E (loN (lvN N)) N A u) :
    Painted (delE E ((A : Int), (N : Int))) (uncF f (lvN N) (plN (lvN N) A) (cntN N) l u) := by
  have hvp : Vp ((A : Int), (N : Int)) := ⟨A, N, rfl, hN, hA, hZ⟩
  have hlo := lvN_lo N hN
  have one : ∀ q, (q, l) ∈ E → q = ((A : Int), (N : Int)) := fun q hq => by
    have h1 := nvE_of (V := fun q => q.1) hn hq
    have h2 := nvE_of (V := fun q => q.1) hn hl
    have h3 := nvE_of (V := fun q => q.2) hn hq
    have h4 := nvE_of (V := fun q => q.2) hn hl
    exact Prod.ext (h1.symm.trans h2) (h3.symm.trans h4)
  intro k m hk2 hm
  have hb := hp k m hk2 hm
  by_cases hc : k = lvN N ∧ plN (lvN N) A ≤ m ∧ m < plN (lvN N) A + cntN N ∧ f k m = some l
  · simp only [uncF]
    rw [if_pos hc]
    obtain ⟨rfl, h1, h2, h3⟩ := hc
    have hcov := (cov_range (m := m) hA hN hZ).2 ⟨h1, h2⟩
    rw [h3] at hb
    obtain ⟨q, k1, k2, k3, k4, k5⟩ := hb
    obtain rfl := one q k1
    have sh : ∀ x ∈ E, x.1.2 ≤ (N : Int) → cov x.1 ((A : Int), 32) = cov x.1 ((adN (lvN N) m : Nat), 32) := fun x hx hle => cov_shorter hvp (hv x hx) hcov hle
    have less : ∀ x ∈ delE E ((A : Int), (N : Int)), (loN (lvN N) : Int) ≤ x.1.2 → x.1.2 < (loN (lvN N + 1) : Int) → cov x.1 ((adN (lvN N) m : Nat), 32) = true → x.1.2 < (N : Int) := fun x hx a1 a2 a3 => by
      obtain ⟨hxE, hne⟩ := (mem_delE hk).1 hx
      have hle := k5 x hxE a1 a2 a3
      simp only at hle
      rcases Int.lt_or_eq_of_le hle with h | h
      · exact h
      · exact absurd (same_len (hv x hxE) hvp a3 hcov h) hne
    cases u with
    | none =>
      intro x hx a1 a2
      cases hcx : cov x.1 ((adN (lvN N) m : Nat), 32) with
      | false => rfl
      | true =>
        have hl2 := less x hx a1 a2 hcx
        have hxE := ((mem_delE hk).1 hx).1
        have := hu x hxE a1 hl2
        rw [sh x hxE (by omega), hcx] at this; cases this
    | some b =>
      obtain ⟨r, r1, r2, r3, r4, r5⟩ := hu
      have hrE : (r, b) ∈ delE E ((A : Int), (N : Int)) := (mem_delE hk).2 ⟨r1, fun e => by simp only at e; rw [e] at r3; simp only at r3; omega⟩
      refine ⟨r, hrE, r2, by omega, by rw [← sh _ r1 (by simp only; omega)]; exact r4, fun x hx a1 a2 a3 => ?_⟩
      have hl2 := less x hx a1 a2 a3
      have hxE := ((mem_delE hk).1 hx).1
      exact r5 x hxE a1 hl2 (by rw [sh x hxE (by omega)]; exact a3)
  · simp only [uncF]
    rw [if_neg hc]
    cases hf : f k m with
    | none =>
      rw [hf] at hb
      intro x hx a1 a2
      exact hb x ((mem_delE hk).1 hx).1 a1 a2
    | some b =>
      rw [hf] at hb
      obtain ⟨q, k1, k2, k3, k4, k5⟩ := hb
      refine ⟨q, (mem_delE hk).2 ⟨k1, fun e => hc ?_⟩, k2, k3, k4, fun x hx a1 a2 a3 => k5 x ((mem_delE hk).1 hx).1 a1 a2 a3⟩
      simp only at e
      subst e
      have hbl : b = l := by
        have key : ∀ (E : List (PX × Nat)), (E.map (·.1)).Nodup → ∀ x ∈ E, ∀ y ∈ E, x.1 = y.1 → x = y := by
          intro E; induction E with
          | nil => intro _ x hx; cases hx
          | cons z E ih =>
            intro hn x hx y hy e
            rw [List.map_cons, List.nodup_cons] at hn
            rcases List.mem_cons.1 hx with rfl | hx1
            · rcases List.mem_cons.1 hy with rfl | hy1
              · rfl
              · exact absurd (List.mem_map.2 ⟨y, hy1, e.symm⟩) hn.1
            · rcases List.mem_cons.1 hy with rfl | hy1
              · exact absurd (List.mem_map.2 ⟨x, hx1, e⟩) hn.1
              · exact ih hn.2 x hx1 y hy1 e
        exact congrArg Prod.snd (key E hk _ k1 _ hl rfl)
      subst hbl
      have hkl : k = lvN N := lv_only hN hk2 (by simpa using k2) (by simpa using k3)
      subst hkl
      have := (cov_range (m := m) hA hN hZ).1 k4
      exact ⟨rfl, this.1, this.2, hf⟩
end Go.Proofs.Ytlnmdlachfnmkaa.Dr
