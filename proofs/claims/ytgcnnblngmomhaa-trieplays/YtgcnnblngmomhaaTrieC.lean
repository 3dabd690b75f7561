/- Plain facts on those that cover a prefix: they rise by their lengths, each covers the next. -/
import Derived.Test.YtgcnnblngmomhaaTrieN
namespace Go.Proofs.Ytgcnnblngmomhaa.Tri
open Go.RowKit Go.Proofs.Ytgcnnblngmomhaa
set_option linter.unusedVariables false

theorem covL_mem {L : Row} {p : PX} {x : PX × Int} : x ∈ covL L p ↔ isV p.1 p.2 = true ∧ x ∈ L ∧ cov x.1 p = true := by
  unfold covL
  split
  · rename_i h; rw [List.mem_filter]; exact ⟨fun h1 => ⟨h, h1⟩, fun h1 => h1.2⟩
  · rename_i h; exact ⟨fun h1 => by simp at h1, fun h1 => absurd h1.1 h⟩

theorem covL_srt {L : Row} (hs : Srt L) (p : PX) : Srt (covL L p) := by
  unfold covL; split
  · exact List.Pairwise.filter _ hs
  · exact List.Pairwise.nil

/-- They rise, each covers the next. -/
theorem covL_pair {L : Row} (hs : Srt L) (hv : ∀ x ∈ L, Vp x.1) {p : PX} (hp : Vp p) : (covL L p).Pairwise fun x y => x.1.2 < y.1.2 ∧ cov x.1 y.1 = true := by
  refine List.Pairwise.imp_of_mem ?_ (covL_srt hs p)
  intro x y hx hy hb
  obtain ⟨_, hxL, hxc⟩ := covL_mem.1 hx
  obtain ⟨_, hyL, hyc⟩ := covL_mem.1 hy
  have vx := hv x hxL
  have vy := hv y hyL
  have hne : x.1 ≠ y.1 := fun e => by rw [e, bef_irr] at hb; cases hb
  rcases Int.lt_or_le y.1.2 x.1.2 with h | h
  · exfalso
    have hc := cov_two vy vx hp hyc hxc (by omega)
    have := bef_trans hb (cov_bef vy vx hc (Ne.symm hne))
    rw [bef_irr] at this; cases this
  · have hc := cov_two vx vy hp hxc hyc h
    refine ⟨?_, hc⟩
    rcases Int.lt_or_le x.1.2 y.1.2 with h2 | h2
    · exact h2
    · exact absurd (cov_eq vx vy hc h2) hne

theorem covL_next {L : Row} (hs : Srt L) (hv : ∀ x ∈ L, Vp x.1) {p : PX} (hp : Vp p) {i : Nat} {x y : PX × Int} (hx : (covL L p)[i]? = some x) (hy : (covL L p)[i + 1]? = some y) : x.1.2 < y.1.2 ∧ cov x.1 y.1 = true := by
  obtain ⟨h1, e1⟩ := List.getElem?_eq_some_iff.1 hx
  obtain ⟨h2, e2⟩ := List.getElem?_eq_some_iff.1 hy
  have := List.pairwise_iff_getElem.1 (covL_pair hs hv hp) i (i + 1) h1 h2 (by omega)
  rw [e1, e2] at this
  exact this

/-- The last one is the longest. -/
theorem covL_last {L : Row} (hs : Srt L) (hv : ∀ x ∈ L, Vp x.1) {p : PX} (hp : Vp p) {x y : PX × Int} (hl : lastF none (covL L p) = some x) (hy : y ∈ covL L p) : y.1.2 ≤ x.1.2 := by
  obtain ⟨A, hA⟩ := lastF_split hl (fun e => by rw [e] at hy; simp at hy)
  have hpw := covL_pair hs hv hp
  rw [hA] at hpw hy
  rcases List.mem_append.1 hy with hy | hy
  · exact Int.le_of_lt ((List.pairwise_append.1 hpw).2.2 y hy x (by simp)).1
  · simp only [List.mem_singleton] at hy; rw [hy]; exact Int.le_refl _

theorem vp32 {a : Int} (h0 : 0 ≤ a) (h1 : a ≤ 4294967295) : Vp (a, 32) := by
  obtain ⟨A, rfl⟩ := Int.eq_ofNat_of_zero_le h0
  exact ⟨A, 32, rfl, by omega, by omega, by simp [Nat.mod_one]⟩

theorem has_cov (p : PX) (a : Int) : cov p (a, 32) = hasV p.1 p.2 a := by
  unfold cov coversV
  have h1 := holdV_bd p.2
  have h2 : holdV 32 = 32 := by decide
  simp only [h2]
  rw [decide_eq_true h1.2, Bool.true_and]

/-! A row of prefixes each of which covers the next. -/

def chainP (i : Nat) : PX := (normV 4294967295 i, (i : Int))

theorem chain_vp {i : Nat} (h : i ≤ 32) : Vp (chainP i) := by
  have h1 := is_norm 4294967295 (i : Int)
  rw [holdV_nat i h] at h1
  have hb := normV_bd 4294967295 (i : Int) (by omega) (by omega)
  exact vp_of hb.1 hb.2 h1

theorem chain_cov {i j : Nat} (h : i ≤ j) (hj : j ≤ 32) : cov (chainP i) (chainP j) = true := by
  unfold cov chainP
  rw [covers_spec]
  have hl : holdV (i : Int) ≤ holdV (j : Int) := by rw [holdV_nat i (by omega), holdV_nat j hj]; omega
  refine ⟨hl, ?_⟩
  simp only
  rw [normV_twice]
  exact (div_up hl (normV_twice 4294967295 (j : Int))).symm

theorem chain_put {t : Sh} {p : PX} (v : Int) (h : ∀ x ∈ prefs t, cov x p = true ∧ x ≠ p) : szS (putS t p v) = szS t + 1 ∧ ∀ x ∈ prefs (putS t p v), x ∈ prefs t ∨ x = p := by
  induction t with
  | nil => exact ⟨rfl, fun x hx => by simp [putS, leaf, prefs] at hx; exact .inr hx⟩
  | node q th u l r ihl ihr =>
    obtain ⟨h1, h2⟩ := h q (by simp [prefs])
    simp only [putS, if_pos h1, if_neg h2]
    split
    · obtain ⟨s1, s2⟩ := ihl (fun x hx => h x (by simp [prefs, hx]))
      refine ⟨by simp only [szS]; omega, fun x hx => ?_⟩
      simp only [prefs, List.mem_cons, List.mem_append] at hx ⊢
      rcases hx with rfl | hx | hx
      · exact .inl (.inl rfl)
      · rcases s2 x hx with h | h
        · exact .inl (.inr (.inl h))
        · exact .inr h
      · exact .inl (.inr (.inr hx))
    · obtain ⟨s1, s2⟩ := ihr (fun x hx => h x (by simp [prefs, hx]))
      refine ⟨by simp only [szS]; omega, fun x hx => ?_⟩
      simp only [prefs, List.mem_cons, List.mem_append] at hx ⊢
      rcases hx with rfl | hx | hx
      · exact .inl (.inl rfl)
      · exact .inl (.inr (.inl hx))
      · rcases s2 x hx with h | h
        · exact .inl (.inr (.inr h))
        · exact .inr h
end Go.Proofs.Ytgcnnblngmomhaa.Tri
