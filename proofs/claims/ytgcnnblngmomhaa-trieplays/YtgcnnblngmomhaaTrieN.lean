/- Plain facts on forks: how many nodes a tree has, told by the row of what is there. -/
import Derived.Test.YtgcnnblngmomhaaTrieL
namespace Go.Proofs.Ytgcnnblngmomhaa.Tri
open Go.RowKit Go.Proofs.Ytgcnnblngmomhaa
set_option linter.unusedVariables false

def belowB (L : Row) (p : PX) : Bool := L.any fun x => cov p x.1

/-- Both halves of a prefix. -/
def lowP (f : PX) : PX := (normV f.1 (f.2 + 1), f.2 + 1)
def highP (f : PX) : PX := (f.1 + 2 ^ (31 - f.2).toNat, f.2 + 1)
def forkP (a b : PX) : PX := (normV b.1 (lzV a.1 b.1), lzV a.1 b.1)

/-- Is there a fork between two neighbours? -/
def forkB (L : Row) (a b : PX) : Bool :=
  if b.2 ≤ lzV a.1 b.1 ∨ cov a b = true then false
  else !(foundB L (forkP a b)) && belowB L (lowP (forkP a b)) && belowB L (highP (forkP a b))

def pairN (f : PX → PX → Bool) : List PX → Nat
  | [] => 0
  | [_] => 0
  | a :: b :: r => (if f a b = true then 1 else 0) + pairN f (b :: r)

def nodesL (L : Row) : Nat := L.length + pairN (forkB L) (L.map (·.1))

theorem pairN_mid (f : PX → PX → Bool) (a b : PX) (C : List PX) : ∀ A : List PX, pairN f (A ++ a :: b :: C) = pairN f (A ++ [a]) + (if f a b = true then 1 else 0) + pairN f (b :: C)
  | [] => by simp [pairN]
  | [x] => by simp [pairN, Nat.add_assoc]
  | x :: y :: A => by
    have ih := pairN_mid f a b C (y :: A)
    simp only [List.cons_append, pairN] at ih ⊢
    omega

/-- A fork between the halves of a node. -/
theorem fork_mid {L : Row} {q a b : PX} (hq : Vp q) (ha : Vp a) (hb : Vp b) (h1 : Und q 0 a) (h2 : Und q 1 b) (ia : ∃ u, (a, u) ∈ L) (ib : ∃ u, (b, u) ∈ L) : forkB L a b = !foundB L q := by
  have hab : cov a b = false := by
    cases h : cov a b with
    | false => rfl
    | true => have := und_one (und_trans hq ha hb h1 h) h2; omega
  obtain ⟨u1, hu1⟩ := ia
  obtain ⟨u2, hu2⟩ := ib
  obtain ⟨Q, N, rfl, hN, hQ, hQm⟩ := hq
  obtain ⟨A, M, rfl, hM, hA, hAm⟩ := ha
  obtain ⟨B, K, rfl, hK, hB, hBm⟩ := hb
  obtain ⟨n1, e1, f1⟩ := (und_nat hN hM).1 h1
  obtain ⟨n2, e2, f2⟩ := (und_nat hN hK).1 h2
  have hN31 : N ≤ 31 := by omega
  have hlz : lzV (A : Int) (B : Int) = N := by
    have s1 := (lz_spec hA hB N hN).2 (e1.symm.trans e2)
    have s2 : ¬ ((N + 1 : Nat) : Int) ≤ lzV A B := by
      rw [lz_spec hA hB (N + 1) (by omega), show 32 - (N + 1) = 31 - N by omega]
      intro e; rw [e] at f1; omega
    omega
  have hQdiv := Nat.div_add_mod Q (2 ^ (32 - N))
  rw [hQm, Nat.add_zero] at hQdiv
  have hfork : forkP ((A : Int), (M : Int)) ((B : Int), (K : Int)) = ((Q : Int), (N : Int)) := by
    unfold forkP
    simp only [hlz]
    unfold normV
    rw [sizeN_nat N hN, Int.toNat_natCast, ← e2, Nat.mul_comm, hQdiv]
  have hp : 2 ^ (32 - N) = 2 ^ (31 - N) * 2 := by rw [← Nat.pow_succ]; congr 1; omega
  have hpos := Nat.two_pow_pos (31 - N)
  have hQ2 : Q / 2 ^ (31 - N) = 2 * (Q / 2 ^ (32 - N)) := by
    conv => lhs; rw [← hQdiv, hp, Nat.mul_assoc]
    rw [Nat.mul_div_cancel_left _ hpos, hp]
  have hQ3 : Q / 2 ^ (31 - N) * 2 ^ (31 - N) = Q := by
    rw [hQ2, Nat.mul_comm 2, Nat.mul_assoc, Nat.mul_comm 2, ← hp, Nat.mul_comm]; exact hQdiv
  have hlow : cov (lowP ((Q : Int), (N : Int))) ((A : Int), (M : Int)) = true := by
    have : lowP ((Q : Int), (N : Int)) = ((Q : Int), ((N + 1 : Nat) : Int)) := by
      unfold lowP normV
      simp only
      rw [show ((N : Int) + 1) = ((N + 1 : Nat) : Int) by omega, sizeN_nat (N + 1) (by omega), Int.toNat_natCast, show 32 - (N + 1) = 31 - N by omega, hQ3]
    rw [this]
    refine (cov_nat (by omega) hM).2 ⟨by omega, ?_⟩
    rw [show 32 - (N + 1) = 31 - N by omega, hQ2]
    have := pow_next hN31 A
    rw [e1]
    omega
  have hhigh : cov (highP ((Q : Int), (N : Int))) ((B : Int), (K : Int)) = true := by
    have : highP ((Q : Int), (N : Int)) = (((Q + 2 ^ (31 - N) : Nat) : Int), ((N + 1 : Nat) : Int)) := by
      unfold highP
      simp only
      rw [show (31 - (N : Int)).toNat = 31 - N by omega]
      push_cast; rfl
    rw [this]
    refine (cov_nat (by omega) hK).2 ⟨by omega, ?_⟩
    rw [show 32 - (N + 1) = 31 - N by omega, Nat.add_div_right _ hpos, hQ2]
    have := pow_next hN31 B
    rw [e2]
    omega
  unfold forkB
  simp only [hlz]
  rw [if_neg]
  · rw [hfork]
    have b1 : belowB L (lowP ((Q : Int), (N : Int))) = true := List.any_eq_true.2 ⟨_, hu1, hlow⟩
    have b2 : belowB L (highP ((Q : Int), (N : Int))) = true := List.any_eq_true.2 ⟨_, hu2, hhigh⟩
    rw [b1, b2]; simp
  · rintro (h | h)
    · omega
    · rw [hab] at h; cases h

theorem fork_cov {L : Row} {a b : PX} (h : cov a b = true) : forkB L a b = false := by
  unfold forkB; rw [if_pos (.inr h)]

def forksS : Sh → Nat
  | .nil => 0
  | .node _ th _ l r => (if th then 0 else 1) + forksS l + forksS r

theorem sz_forks (t : Sh) : szS t = (toL t).length + forksS t := by
  induction t with
  | nil => rfl
  | node q th u l r ihl ihr =>
    simp only [szS, toL, forksS, List.length_append, own, ihl, ihr]
    cases th <;> simp <;> omega

def nodesT : Sh → List (PX × Bool)
  | .nil => []
  | .node q th _ l r => (q, th) :: (nodesT l ++ nodesT r)

theorem nodesT_prefs {t : Sh} {x : PX × Bool} (h : x ∈ nodesT t) : x.1 ∈ prefs t := by
  induction t with
  | nil => simp [nodesT] at h
  | node q th u l r ihl ihr =>
    simp only [nodesT, List.mem_cons, List.mem_append] at h
    simp only [prefs, List.mem_cons, List.mem_append]
    rcases h with rfl | h | h
    · exact .inl rfl
    · exact .inr (.inl (ihl h))
    · exact .inr (.inr (ihr h))

theorem node_there {t : Sh} (h : WF t) {q : PX} {th : Bool} (hm : (q, th) ∈ nodesT t) : (∃ u, (q, u) ∈ toL t) ↔ th = true := by
  induction t with
  | nil => simp [nodesT] at hm
  | node Q TH U l r ihl ihr =>
    obtain ⟨hQ, hf, rl, rr, wl, wr⟩ := h
    have hl : ∀ x ∈ toL l, Und Q 0 x.1 := fun x hx => (all_wf wl).2 Q 0 hQ rl _ (mem_prefs hx)
    have hr : ∀ x ∈ toL r, Und Q 1 x.1 := fun x hx => (all_wf wr).2 Q 1 hQ rr _ (mem_prefs hx)
    simp only [nodesT, List.mem_cons, List.mem_append, Prod.mk.injEq] at hm
    simp only [toL, List.mem_append, mem_own]
    rcases hm with ⟨rfl, rfl⟩ | hm | hm
    · constructor
      · rintro ⟨u, ⟨h, _⟩ | h | h⟩
        · exact h
        · have := (hl _ h).1; simp only at this; omega
        · have := (hr _ h).1; simp only at this; omega
      · intro h; exact ⟨U, .inl ⟨h, rfl⟩⟩
    · rw [← ihl wl hm]
      have hu : Und Q 0 q := (all_wf wl).2 Q 0 hQ rl _ (nodesT_prefs hm)
      constructor
      · rintro ⟨u, ⟨_, h⟩ | h | h⟩
        · cases h; have := hu.1; omega
        · exact ⟨u, h⟩
        · have := und_one hu (hr _ h); omega
      · rintro ⟨u, h⟩; exact ⟨u, .inr (.inl h)⟩
    · rw [← ihr wr hm]
      have hu : Und Q 1 q := (all_wf wr).2 Q 1 hQ rr _ (nodesT_prefs hm)
      constructor
      · rintro ⟨u, ⟨_, h⟩ | h | h⟩
        · cases h; have := hu.1; omega
        · have := und_one (hl _ h) hu; omega
        · exact ⟨u, h⟩
      · rintro ⟨u, h⟩; exact ⟨u, .inr (.inr h)⟩

theorem forks_pair (L : Row) {t : Sh} (h : WF t) (hn : ∀ q th, (q, th) ∈ nodesT t → foundB L q = th) (hL : ∀ x ∈ toL t, x ∈ L) : pairN (forkB L) ((toL t).map (·.1)) = forksS t := by
  induction t with
  | nil => rfl
  | node q th u l r ihl ihr =>
    have hw := h
    obtain ⟨hq, hf, rl, rr, wl, wr⟩ := h
    have hl : ∀ x ∈ toL l, Und q 0 x.1 ∧ Vp x.1 := fun x hx => ⟨(all_wf wl).2 q 0 hq rl _ (mem_prefs hx), wl.vp hx⟩
    have hr : ∀ x ∈ toL r, Und q 1 x.1 ∧ Vp x.1 := fun x hx => ⟨(all_wf wr).2 q 1 hq rr _ (mem_prefs hx), wr.vp hx⟩
    have il := ihl wl (fun q' th' hm => hn q' th' (by simp [nodesT, hm])) (fun x hx => hL x (by simp [toL, hx]))
    have ir := ihr wr (fun q' th' hm => hn q' th' (by simp [nodesT, hm])) (fun x hx => hL x (by simp [toL, hx]))
    have hqf := hn q th (by simp [nodesT])
    have both : pairN (forkB L) ((toL l ++ toL r).map (·.1)) = (if th = false then 1 else 0) + forksS l + forksS r := by
      rw [List.map_append]
      rcases List.eq_nil_or_concat (toL l) with e | ⟨A, a, e⟩
      · have hth : th = true := by
          cases th with
          | true => rfl
          | false => exact absurd e (toL_ne wl (hf rfl).2.1)
        rw [e] at il ⊢
        simp only [List.map_nil, List.nil_append, pairN] at il ⊢
        rw [ir, ← il, hth]; simp
      · cases e2 : toL r with
        | nil =>
          have hth : th = true := by
            cases th with
            | true => rfl
            | false => exact absurd e2 (toL_ne wr (hf rfl).2.2)
          rw [e2] at ir
          simp only [List.map_nil, List.append_nil, pairN] at ir ⊢
          rw [il, ← ir, hth]; simp
        | cons b C =>
          have ha := hl a (by rw [e]; simp)
          have hb := hr b (by rw [e2]; simp)
          have hm := fork_mid (L := L) hq ha.2 hb.2 ha.1 hb.1 ⟨a.2, hL a (by simp [toL, e])⟩ ⟨b.2, hL b (by simp [toL, e2])⟩
          rw [e] at il ⊢
          rw [e2] at ir
          simp only [List.map_append, List.map_cons, List.map_nil, List.append_assoc, List.singleton_append, List.concat_eq_append] at il ir ⊢
          rw [pairN_mid, il, ir, hm, hqf]
          cases th <;> simp <;> omega
    simp only [toL, forksS]
    cases th with
    | false =>
      simp only [own, Bool.false_eq_true, if_false, List.nil_append]
      rw [both]; simp
    | true =>
      simp only [own, if_true, List.singleton_append, List.map_cons]
      cases e : toL l ++ toL r with
      | nil =>
        rw [e] at both
        simp only [List.map_nil, pairN] at both ⊢
        simpa using both
      | cons b C =>
        have hb : cov q b.1 = true := by
          have : b ∈ toL l ++ toL r := by rw [e]; simp
          rcases List.mem_append.1 this with h | h
          · exact (hl b h).1.2.1
          · exact (hr b h).1.2.1
        rw [e] at both
        simp only [List.map_cons, pairN] at both ⊢
        rw [fork_cov hb, both]; simp

/-- **How many nodes there are is told by what is there.** -/
theorem nodes_toL {t : Sh} (h : WF t) : szS t = nodesL (toL t) := by
  unfold nodesL
  rw [forks_pair (toL t) h ?_ (fun x hx => hx), sz_forks]
  intro q th hm
  have := (node_there h hm)
  rw [← found_mem (srt_toL h)] at this
  cases th with
  | true => exact this.2 rfl
  | false =>
    cases hf : foundB (toL t) q with
    | false => rfl
    | true => have := this.1 hf; cases this

theorem sz_two {t : Sh} (h : WF t) (hn : t ≠ .nil) : szS t + 1 ≤ 2 * (toL t).length := by
  induction t with
  | nil => exact absurd rfl hn
  | node q th u l r ihl ihr =>
    obtain ⟨hq, hf, rl, rr, wl, wr⟩ := h
    have hl : szS l ≤ 2 * (toL l).length := by
      by_cases e : l = .nil
      · subst e; simp [szS]
      · have := ihl wl e; omega
    have hr : szS r ≤ 2 * (toL r).length := by
      by_cases e : r = .nil
      · subst e; simp [szS]
      · have := ihr wr e; omega
    simp only [szS, toL, own, List.length_append]
    cases th with
    | true => simp; omega
    | false =>
      have h1 := ihl wl (hf rfl).2.1
      have h2 := ihr wr (hf rfl).2.2
      simp; omega
end Go.Proofs.Ytgcnnblngmomhaa.Tri
