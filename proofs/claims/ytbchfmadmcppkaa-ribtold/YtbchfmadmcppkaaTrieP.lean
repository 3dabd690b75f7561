/- Plain facts on prefixes that may be, as a tree: which covers which, which half, what two have in common. -/
import Derived.Test.YtbchfmadmcppkaaAddrP
import Derived.Lib.BitFns
namespace Go.Proofs.Ytbchfmadmcppkaa.Tri
open Go.RowKit Go.Proofs.Ytbchfmadmcppkaa

abbrev PX := Int × Int

/-- A prefix that may be. -/
def Vp (p : PX) : Prop := ∃ A N : Nat, p = ((A : Int), (N : Int)) ∧ N ≤ 32 ∧ A < 4294967296 ∧ A % 2 ^ (32 - N) = 0

def cov (p q : PX) : Bool := coversV p.1 p.2 q.1 q.2

theorem holdV_nat (N : Nat) (h : N ≤ 32) : holdV (N : Int) = N := by
  unfold holdV; rw [if_neg (by omega), if_neg (by omega)]

theorem sizeN_nat (N : Nat) (h : N ≤ 32) : sizeN (N : Int) = 2 ^ (32 - N) := by
  unfold sizeN; rw [holdV_nat N h]; congr 1; omega

theorem vp_of {a n : Int} (h0 : 0 ≤ a) (h1 : a ≤ 4294967295) (h : isV a n = true) : Vp (a, n) := by
  unfold isV at h
  simp only [Bool.and_eq_true, beq_iff_eq] at h
  obtain ⟨ha, hn⟩ := h
  have hb := holdV_bd n
  obtain ⟨N, rfl⟩ := Int.eq_ofNat_of_zero_le (show 0 ≤ n by omega)
  obtain ⟨A, rfl⟩ := Int.eq_ofNat_of_zero_le h0
  refine ⟨A, N, rfl, by omega, by omega, ?_⟩
  unfold normV at ha
  rw [sizeN_nat N (by omega), Int.toNat_natCast] at ha
  have e : A = A / 2 ^ (32 - N) * 2 ^ (32 - N) := by exact_mod_cast ha
  rw [e]; exact Nat.mul_mod_left _ _

theorem Vp.is {a n : Int} (h : Vp (a, n)) : isV a n = true := by
  obtain ⟨A, N, e, hN, hA, hm⟩ := h
  obtain ⟨rfl, rfl⟩ := Prod.mk.inj e
  unfold isV normV
  rw [sizeN_nat N hN, Int.toNat_natCast, holdV_nat N hN]
  have := Nat.div_add_mod A (2 ^ (32 - N))
  rw [hm, Nat.add_zero, Nat.mul_comm] at this
  rw [this]; simp

theorem vp_iff {a n : Int} (h0 : 0 ≤ a) (h1 : a ≤ 4294967295) : isV a n = true ↔ Vp (a, n) := ⟨vp_of h0 h1, Vp.is⟩

theorem Vp.bd {p : PX} (h : Vp p) : 0 ≤ p.1 ∧ p.1 ≤ 4294967295 ∧ 0 ≤ p.2 ∧ p.2 ≤ 32 := by
  obtain ⟨A, N, rfl, hN, hA, _⟩ := h
  simp only
  omega

theorem cov_nat {A N B M : Nat} (hN : N ≤ 32) (hM : M ≤ 32) : cov ((A : Int), (N : Int)) ((B : Int), (M : Int)) = true ↔ N ≤ M ∧ A / 2 ^ (32 - N) = B / 2 ^ (32 - N) := by
  unfold cov
  rw [covers_spec, holdV_nat N hN, holdV_nat M hM, sizeN_nat N hN]
  simp only [Int.toNat_natCast]
  omega

theorem cov_refl (p : PX) : cov p p = true := covers_self _ _

theorem cov_trans {p q r : PX} (h1 : cov p q = true) (h2 : cov q r = true) : cov p r = true := by
  obtain ⟨l1, e1⟩ := covers_spec.1 h1
  obtain ⟨l2, e2⟩ := covers_spec.1 h2
  exact covers_spec.2 ⟨Int.le_trans l1 l2, e1.trans (div_up l1 e2)⟩

theorem cov_len {p q : PX} (hp : Vp p) (hq : Vp q) (h : cov p q = true) : p.2 ≤ q.2 := by
  obtain ⟨A, N, rfl, hN, _, _⟩ := hp
  obtain ⟨B, M, rfl, hM, _, _⟩ := hq
  have := ((cov_nat hN hM).1 h).1
  simp only; omega

theorem cov_eq {p q : PX} (hp : Vp p) (hq : Vp q) (h : cov p q = true) (hl : q.2 ≤ p.2) : p = q := by
  obtain ⟨A, N, rfl, hN, _, hA⟩ := hp
  obtain ⟨B, M, rfl, hM, _, hB⟩ := hq
  obtain ⟨h1, h2⟩ := (cov_nat hN hM).1 h
  obtain rfl : N = M := by simp only at hl; omega
  have e1 := Nat.div_add_mod A (2 ^ (32 - N))
  have e2 := Nat.div_add_mod B (2 ^ (32 - N))
  rw [hA] at e1; rw [hB] at e2
  rw [h2] at e1
  rw [show A = B by omega]

theorem cov_anti {p q : PX} (hp : Vp p) (hq : Vp q) (h : cov p q = true) (h2 : cov q p = true) : p = q := cov_eq hp hq h (cov_len hq hp h2)

theorem pow_split {N M : Nat} (h : N ≤ M) (hM : M ≤ 32) (x : Nat) : x / 2 ^ (32 - N) = x / 2 ^ (32 - M) / 2 ^ (M - N) := by
  rw [Nat.div_div_eq_div_mul, ← Nat.pow_add]
  congr 2; omega

theorem cov_two {p q r : PX} (hp : Vp p) (hq : Vp q) (hr : Vp r) (h1 : cov p r = true) (h2 : cov q r = true) (hl : p.2 ≤ q.2) : cov p q = true := by
  obtain ⟨A, N, rfl, hN, _, _⟩ := hp
  obtain ⟨B, M, rfl, hM, _, _⟩ := hq
  obtain ⟨C, K, rfl, hK, _, _⟩ := hr
  obtain ⟨_, e1⟩ := (cov_nat hN hK).1 h1
  obtain ⟨_, e2⟩ := (cov_nat hM hK).1 h2
  have hNM : N ≤ M := by simp only at hl; omega
  refine (cov_nat hN hM).2 ⟨hNM, ?_⟩
  rw [e1, pow_split hNM hM C, pow_split hNM hM B, e2]

theorem cov_addr {p q : PX} (hp : Vp p) (hq : Vp q) (h : cov p q = true) : p.1 ≤ q.1 := by
  obtain ⟨A, N, rfl, hN, _, hA⟩ := hp
  obtain ⟨B, M, rfl, hM, _, hB⟩ := hq
  obtain ⟨h1, h2⟩ := (cov_nat hN hM).1 h
  have e1 := Nat.div_add_mod A (2 ^ (32 - N))
  have e2 := Nat.div_add_mod B (2 ^ (32 - N))
  rw [hA] at e1
  rw [h2] at e1
  simp only; omega

/-- In which half of its first n bits' prefix an address is. -/
def halfV (a n : Int) : Int := a * 2 ^ n.toNat % 4294967296 / 2147483648

theorem half_nat {A N : Nat} (hN : N ≤ 31) : halfV (A : Int) (N : Int) = ((A / 2 ^ (31 - N) % 2 : Nat) : Int) := by
  unfold halfV
  rw [Int.toNat_natCast]
  have e : (A * 2 ^ N % 4294967296 / 2147483648 : Nat) = A / 2 ^ (31 - N) % 2 := by
    have e1 : (4294967296 : Nat) = (2 ^ (31 - N) * 2) * 2 ^ N := by
      rw [Nat.mul_assoc, Nat.mul_comm 2, ← Nat.mul_assoc, ← Nat.pow_add, show 31 - N + N = 31 by omega]
    have e2 : (2147483648 : Nat) = 2 ^ (31 - N) * 2 ^ N := by
      rw [← Nat.pow_add, show 31 - N + N = 31 by omega]
    rw [e1, e2, Nat.mul_mod_mul_right, Nat.mul_div_mul_right _ _ (Nat.two_pow_pos N), Nat.mod_mul_right_div_self]
  rw [← e]
  simp only [Int.natCast_ediv, Int.natCast_emod, Int.natCast_mul, Int.natCast_pow]
  rfl

theorem half_01 (a n : Int) : halfV a n = 0 ∨ halfV a n = 1 := by
  unfold halfV
  have : 0 ≤ a * 2 ^ n.toNat % 4294967296 := Int.emod_nonneg _ (by omega)
  have : a * 2 ^ n.toNat % 4294967296 < 4294967296 := Int.emod_lt_of_pos _ (by omega)
  omega

/-- Strictly below, in that half. -/
def Und (Q : PX) (i : Int) (x : PX) : Prop := Q.2 < x.2 ∧ cov Q x = true ∧ halfV x.1 Q.2 = i

theorem und_nat {A N B M : Nat} {i : Int} (hN : N ≤ 32) (hM : M ≤ 32) : Und ((A : Int), (N : Int)) i ((B : Int), (M : Int)) ↔ N < M ∧ A / 2 ^ (32 - N) = B / 2 ^ (32 - N) ∧ ((B / 2 ^ (31 - N) % 2 : Nat) : Int) = i := by
  unfold Und
  constructor
  · rintro ⟨h1, h2, h3⟩
    simp only at h1 h3
    have h4 : N < M := by omega
    rw [half_nat (by omega)] at h3
    exact ⟨h4, ((cov_nat hN hM).1 h2).2, h3⟩
  · rintro ⟨h1, h2, h3⟩
    refine ⟨by simp only; omega, (cov_nat hN hM).2 ⟨by omega, h2⟩, ?_⟩
    simp only
    rw [half_nat (by omega)]; exact h3

theorem pow_next {N : Nat} (hN : N ≤ 31) (x : Nat) : x / 2 ^ (32 - N) = x / 2 ^ (31 - N) / 2 := by
  rw [Nat.div_div_eq_div_mul, ← Nat.pow_succ]
  congr 2; omega

theorem und_trans {Q x y : PX} {i : Int} (hQ : Vp Q) (hx : Vp x) (hy : Vp y) (h : Und Q i x) (h2 : cov x y = true) : Und Q i y := by
  obtain ⟨A, N, rfl, hN, _, _⟩ := hQ
  obtain ⟨B, M, rfl, hM, _, _⟩ := hx
  obtain ⟨C, K, rfl, hK, _, _⟩ := hy
  obtain ⟨u1, u2, u3⟩ := (und_nat hN hM).1 h
  obtain ⟨c1, c2⟩ := (cov_nat hM hK).1 h2
  refine (und_nat hN hK).2 ⟨by omega, ?_, ?_⟩
  · rw [u2, pow_split (by omega : N ≤ M) hM B, pow_split (by omega : N ≤ M) hM C, c2]
  · have e := pow_split (by omega : N + 1 ≤ M) hM
    rw [show 32 - (N + 1) = 31 - N by omega] at e
    rw [← u3, e B, e C, c2]

theorem und_half {Q x : PX} (hQ : Vp Q) (hx : Vp x) (h : cov Q x = true) (hne : Q ≠ x) : Und Q (halfV x.1 Q.2) x := by
  refine ⟨?_, h, rfl⟩
  have h1 := cov_len hQ hx h
  rcases Int.lt_or_le Q.2 x.2 with h2 | h2
  · exact h2
  · exact absurd (cov_eq hQ hx h h2) hne

theorem und_ord {Q x y : PX} (hQ : Vp Q) (hx : Vp x) (hy : Vp y) (h : Und Q 0 x) (h2 : Und Q 1 y) : x.1 < y.1 := by
  obtain ⟨A, N, rfl, hN, _, _⟩ := hQ
  obtain ⟨B, M, rfl, hM, _, _⟩ := hx
  obtain ⟨C, K, rfl, hK, _, _⟩ := hy
  obtain ⟨u1, u2, u3⟩ := (und_nat hN hM).1 h
  obtain ⟨v1, v2, v3⟩ := (und_nat hN hK).1 h2
  rw [pow_next (by omega) B] at u2
  rw [pow_next (by omega) C] at v2
  have e : B / 2 ^ (31 - N) < C / 2 ^ (31 - N) := by omega
  simp only
  rcases Nat.lt_or_ge B C with h | h
  · omega
  · have := Nat.div_le_div_right (c := 2 ^ (31 - N)) h; omega

theorem und_one {Q x : PX} {i j : Int} (h : Und Q i x) (h2 : Und Q j x) : i = j := h.2.2.symm.trans h2.2.2

/-! What two have in common. -/

def min2 (x y : Int) : Int := if y < x then y else x
def lzV (a b : Int) : Int := 32 - (Lib.bitLen (a.toNat ^^^ b.toNat) : Int)
def comL (p q : PX) : Int := min2 (min2 (lzV p.1 q.1) p.2) q.2
def com (p q : PX) : PX := (normV p.1 (comL p q), comL p q)

theorem bitLenAux_lt : ∀ (f x : Nat), x < 2 ^ f → x < 2 ^ Lib.bitLenAux f x
  | 0, x, h => by simp at h; subst h; simp [Lib.bitLenAux]
  | f + 1, x, h => by
    unfold Lib.bitLenAux
    split
    · rename_i h0; subst h0; simp
    · have := bitLenAux_lt f (x / 2) (by rw [Nat.pow_succ] at h; omega)
      rw [Nat.add_comm, Nat.pow_succ]; omega

theorem bitLen_iff (x k : Nat) (hx : x < 2 ^ 64) (hk : k ≤ 64) : Lib.bitLen x ≤ k ↔ x < 2 ^ k := by
  constructor
  · intro h
    exact Nat.lt_of_lt_of_le (bitLenAux_lt 64 x hx) (Nat.pow_le_pow_right (by decide) h)
  · exact Lib.bitLen_le x k hk

theorem lz_spec {A B : Nat} (hA : A < 4294967296) (hB : B < 4294967296) (N : Nat) (hN : N ≤ 32) : (N : Int) ≤ lzV A B ↔ A / 2 ^ (32 - N) = B / 2 ^ (32 - N) := by
  unfold lzV
  simp only [Int.toNat_natCast]
  have hx := Nat.xor_lt_two_pow (n := 32) (x := A) (y := B) hA hB
  have h1 := bitLen_iff (A ^^^ B) (32 - N) (by omega) (by omega)
  rw [← nat_xor_div, Nat.div_eq_zero_iff_lt (Nat.two_pow_pos _), ← h1]
  omega

theorem lz_bd {A B : Nat} (hA : A < 4294967296) (hB : B < 4294967296) : 0 ≤ lzV A B ∧ lzV A B ≤ 32 := by
  have h := (lz_spec hA hB 0 (by omega)).2 (by rw [Nat.div_eq_of_lt (by omega), Nat.div_eq_of_lt (by omega)])
  unfold lzV at h ⊢
  omega

theorem min2_le (x y : Int) : min2 x y ≤ x ∧ min2 x y ≤ y ∧ (min2 x y = x ∨ min2 x y = y) := by
  unfold min2; split <;> omega

/-- All that is known of it. -/
theorem com_spec {p q : PX} (hp : Vp p) (hq : Vp q) : Vp (com p q) ∧ cov (com p q) p = true ∧ cov (com p q) q = true ∧ (∀ r, Vp r → cov r p = true → cov r q = true → cov r (com p q) = true) ∧
    (com p q ≠ p → com p q ≠ q → halfV p.1 (com p q).2 ≠ halfV q.1 (com p q).2) ∧ 0 ≤ comL p q ∧ comL p q ≤ 32 := by
  obtain ⟨A, N, rfl, hN, hA, hAm⟩ := hp
  obtain ⟨B, M, rfl, hM, hB, hBm⟩ := hq
  have hl := lz_bd hA hB
  have hs := lz_spec hA hB
  unfold com
  have hc : ∃ K : Nat, comL ((A : Int), (N : Int)) ((B : Int), (M : Int)) = K ∧ K ≤ N ∧ K ≤ M ∧ (K : Int) ≤ lzV A B ∧ (K = N ∨ K = M ∨ (K : Int) = lzV A B) := by
    unfold comL
    simp only
    have h1 := min2_le (lzV A B) N
    have h2 := min2_le (min2 (lzV A B) N) M
    have h0 : 0 ≤ min2 (min2 (lzV A B) N) M := by omega
    obtain ⟨K, hK⟩ := Int.eq_ofNat_of_zero_le h0
    exact ⟨K, hK, by omega, by omega, by omega, by omega⟩
  obtain ⟨K, hK, h1, h2, h3, h4⟩ := hc
  rw [hK]
  have hK32 : K ≤ 32 := by omega
  have hn : normV (A : Int) (K : Int) = ((A / 2 ^ (32 - K) * 2 ^ (32 - K) : Nat) : Int) := by
    unfold normV; rw [sizeN_nat K hK32, Int.toNat_natCast]
  rw [hn]
  have hd : A / 2 ^ (32 - K) * 2 ^ (32 - K) / 2 ^ (32 - K) = A / 2 ^ (32 - K) := Nat.mul_div_cancel _ (Nat.two_pow_pos _)
  have hAB := (hs K hK32).1 h3
  have hle := Nat.div_mul_le_self A (2 ^ (32 - K))
  refine ⟨⟨_, K, rfl, hK32, by omega, Nat.mul_mod_left _ _⟩, (cov_nat hK32 hN).2 ⟨h1, hd⟩, (cov_nat hK32 hM).2 ⟨h2, hd.trans hAB⟩, ?_, ?_, by omega, by omega⟩
  · rintro r ⟨C, R, rfl, hR, hC, hCm⟩ c1 c2
    obtain ⟨d1, d2⟩ := (cov_nat hR hN).1 c1
    obtain ⟨e1, e2⟩ := (cov_nat hR hM).1 c2
    have hRl := (hs R hR).2 (d2.symm.trans e2)
    have hRK : R ≤ K := by omega
    refine (cov_nat hR hK32).2 ⟨hRK, ?_⟩
    rw [d2, pow_split hRK hK32 A, pow_split hRK hK32 (A / 2 ^ (32 - K) * 2 ^ (32 - K)), hd]
  · intro n1 n2
    have hKN : K < N := by
      rcases Nat.lt_or_ge K N with h | h
      · exact h
      · obtain rfl : K = N := by omega
        exfalso; apply n1
        have := Nat.div_add_mod A (2 ^ (32 - K))
        rw [hAm, Nat.mul_comm] at this
        rw [show A / 2 ^ (32 - K) * 2 ^ (32 - K) = A by omega]
    have hKM : K < M := by
      rcases Nat.lt_or_ge K M with h | h
      · exact h
      · obtain rfl : K = M := by omega
        exfalso; apply n2
        have := Nat.div_add_mod B (2 ^ (32 - K))
        rw [hBm, Nat.mul_comm] at this
        rw [hAB, show B / 2 ^ (32 - K) * 2 ^ (32 - K) = B by omega]
    have hKl : (K : Int) = lzV A B := by omega
    simp only
    rw [half_nat (by omega), half_nat (by omega)]
    intro he
    have hno : ¬ ((K + 1 : Nat) : Int) ≤ lzV A B := by omega
    rw [hs (K + 1) (by omega), show 32 - (K + 1) = 31 - K by omega] at hno
    rw [pow_next (by omega) A, pow_next (by omega) B] at hAB
    omega

theorem und_com {Q x y : PX} {i : Int} (hQ : Vp Q) (hx : Vp x) (hy : Vp y) (h1 : Und Q i x) (h2 : Und Q i y) : Und Q i (com x y) := by
  obtain ⟨hv, cx, cy, hm, hh, _⟩ := com_spec hx hy
  have hc := hm Q hQ h1.2.1 h2.2.1
  by_cases he : Q = com x y
  · exfalso
    refine hh ?_ ?_ ?_
    · rw [← he]; intro e; have := h1.1; rw [e] at this; omega
    · rw [← he]; intro e; have := h2.1; rw [e] at this; omega
    · rw [← he, h1.2.2, h2.2.2]
  · have hu := und_half hQ hv hc he
    have hu2 := und_trans hQ hv hx hu cx
    rw [und_one hu2 h1] at hu
    exact hu

/-- By address, then by length. -/
def bef (p q : PX) : Bool := if p.1 == q.1 then decide (p.2 < q.2) else decide (p.1 < q.1)

theorem bef_iff {p q : PX} : bef p q = true ↔ p.1 < q.1 ∨ (p.1 = q.1 ∧ p.2 < q.2) := by
  unfold bef; split
  · rename_i h; rw [beq_iff_eq] at h; simp only [decide_eq_true_eq]; omega
  · rename_i h; rw [beq_iff_eq] at h; simp only [decide_eq_true_eq]; omega

theorem bef_trans {p q r : PX} (h1 : bef p q = true) (h2 : bef q r = true) : bef p r = true := by
  rw [bef_iff] at *; omega

theorem bef_irr (p : PX) : bef p p = false := by
  cases h : bef p p with
  | false => rfl
  | true => rw [bef_iff] at h; omega

theorem bef_tri (p q : PX) : bef p q = true ∨ p = q ∨ bef q p = true := by
  rw [bef_iff, bef_iff]
  rcases p with ⟨a, n⟩; rcases q with ⟨b, m⟩
  simp only [Prod.mk.injEq]; omega

theorem cov_bef {p q : PX} (hp : Vp p) (hq : Vp q) (h : cov p q = true) (hne : p ≠ q) : bef p q = true := by
  have h1 := cov_addr hp hq h
  have h2 := cov_len hp hq h
  rw [bef_iff]
  rcases Int.lt_or_le p.2 q.2 with h3 | h3
  · omega
  · exact absurd (cov_eq hp hq h h3) hne
end Go.Proofs.Ytbchfmadmcppkaa.Tri
