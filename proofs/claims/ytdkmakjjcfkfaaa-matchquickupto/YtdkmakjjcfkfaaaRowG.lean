/- A slice of structs that comes in: its elements one by one, each cell by cell. -/
import Derived.Test.YtdkmakjjcfkfaaaFrame
namespace Go.Proofs.Ytdkmakjjcfkfaaa
open Go.ChangeShapes Go.WideShapes Go.ChangeAt Go.RowKit
set_option linter.unusedVariables false

/-- The slice (a, len, cap) reads as the elements zs, each of k cells f z. -/
structure IsRowG {α : Type} (k : Nat) (f : α → List Value) (ok : α → Prop) (w : World) (a : Option Addr) (len cap : Nat) (zs : List α) : Prop where
  length : zs.length = len
  le : len ≤ cap
  room : cap ≤ maxLen
  nil : a = none → cap = 0
  ok : ∀ z ∈ zs, ok z
  cells : len = 0 ∨ ∃ b off, a = some ⟨b, off, none⟩ ∧ ∀ (i : Nat) (z : α), zs[i]? = some z → ∀ j, j < k → w.cell? ⟨b, off + (i * k + j), none⟩ = (f z)[j]?

theorem IsRowG.later {α : Type} {k : Nat} {f : α → List Value} {ok : α → Prop} {w w' : World} {a : Option Addr} {len cap : Nat} {zs : List α} (h : IsRowG k f ok w a len cap zs) (hk : ∀ z, (f z).length = k) (hb : Below w.heap.size w w') : IsRowG k f ok w' a len cap zs := by
  refine ⟨h.length, h.le, h.room, h.nil, h.ok, ?_⟩
  rcases h.cells with h0 | ⟨b, off, rfl, hc⟩
  · exact .inl h0
  · refine .inr ⟨b, off, rfl, fun i z hz j hj => ?_⟩
    have h1 := hc i z hz j hj
    have hj' : j < (f z).length := by rw [hk z]; exact hj
    rw [List.getElem?_eq_getElem hj'] at h1 ⊢
    rw [hb.cell (p := ⟨b, off + (i * k + j), none⟩) (block_lt h1)]
    exact h1

section
variable {H : Type} {enc : TypeId × Value → H} {P : Program} {w : World} {base : Nat} {spare : Nat → Bool} {held : Bool}

theorem choose_list {α : Type} (Q : Nat → α → Prop) : ∀ n, (∀ i, i < n → ∃ z, Q i z) → ∃ zs : List α, zs.length = n ∧ ∀ i z, zs[i]? = some z → Q i z
  | 0, _ => ⟨[], rfl, fun i z h => by simp at h⟩
  | n + 1, h => by
    obtain ⟨zs, hl, hz⟩ := choose_list Q n (fun i hi => h i (by omega))
    obtain ⟨z, hq⟩ := h n (by omega)
    refine ⟨zs ++ [z], by simp [hl], fun i y hy => ?_⟩
    by_cases hi : i < n
    · rw [List.getElem?_append_left (by omega)] at hy
      exact hz i y hy
    · rw [List.getElem?_append_right (by omega)] at hy
      have hi' : i = n := by
        have := (List.getElem?_eq_some_iff.1 hy).1
        simp at this
        omega
      subst hi'
      simp [hl] at hy
      subst hy
      exact hq

/-- A slice of structs, read; e1 says how one struct reads. -/
theorem open_rowG {α : Type} {t e : TypeId} {fuel : Nat} {cs : List Value} {x : DataW H × List MemPlace} (k : Nat) (f : α → List Value) (ok : α → Prop) (hk0 : 0 < k) (hk : ∀ z, (f z).length = k) (ht : P.underlying t = some (.slice e)) (hc : P.cellsOf e = k)
    (e1 : ∀ n cs y, DataW.trod enc P w base spare held n e cs = some y → ∃ z, cs = f z ∧ ok z) (h : DataW.trod enc P w base spare held fuel t cs = some x) : ∃ a len cap zs, cs = [.slice a len cap] ∧ IsRowG k f ok w a len cap zs := by
  rcases DataW.trod_slice ht h with ⟨rfl, _⟩ | ⟨a, len, cap, elems, rest, n, _, rfl, _, hb, hl, hm, hlen, hel, _, _⟩
  · exact ⟨none, 0, 0, [], rfl, ⟨rfl, Nat.le_refl _, by unfold maxLen; omega, fun _ => rfl, (by intro z hz; simp at hz), .inl rfl⟩⟩
  · rw [hc] at hel
    have each : ∀ i, i < len → ∃ z, ok z ∧ ∀ j, j < k → w.cell? ((a.add (i * k)).add j) = (f z)[j]? := fun i hi => by
      have h1 := hel i hi
      rw [List.getElem?_eq_getElem (by omega)] at h1
      obtain ⟨cs', h2, h3⟩ := Option.bind_eq_some_iff.1 h1
      obtain ⟨z, rfl, hz⟩ := e1 _ _ _ h3
      unfold World.cells? at h2
      by_cases hbb : base ≤ (a.add (i * k)).block
      · rw [if_pos hbb] at h2
        refine ⟨z, hz, fun j hj => ?_⟩
        exact mapM_some_get h2 j j (by simp [hj])
      · rw [if_neg hbb] at h2; cases h2
    obtain ⟨zs, hzl, hz⟩ := choose_list (fun i z => ok z ∧ ∀ j, j < k → w.cell? ((a.add (i * k)).add j) = (f z)[j]?) len each
    refine ⟨some a, len, cap, zs, rfl, ⟨hzl, hl, hm, (by intro h; cases h), ?_, ?_⟩⟩
    · intro z hzm
      obtain ⟨i, hi, rfl⟩ := List.getElem_of_mem hzm
      exact (hz i _ (List.getElem?_eq_getElem hi)).1
    · by_cases h0 : len = 0
      · exact .inl h0
      · obtain ⟨b, off, spot⟩ := a
        have hz0 := (hz 0 _ (List.getElem?_eq_getElem (by omega))).2 0 hk0
        rw [List.getElem?_eq_getElem (by rw [hk]; exact hk0)] at hz0
        have hspot : spot = none := by
          have := World.cell?_spot hz0
          simpa [Addr.add] using this
        subst hspot
        refine .inr ⟨b, off, rfl, fun i z hiz j hj => ?_⟩
        have h1 := (hz i z hiz).2 j hj
        rw [← h1]
        congr 1
        by_cases hi0 : i * k = 0
        · by_cases hj0 : j = 0
          · simp [Addr.add, hi0, hj0]
          · simp [Addr.add, hi0, hj0]
        · by_cases hj0 : j = 0
          · simp [Addr.add, hi0, hj0]
          · simp [Addr.add, hi0, hj0, Nat.add_assoc]
end
end Go.Proofs.Ytdkmakjjcfkfaaa
