/- Rows of prefixes, and of numbers, of the call's own: appended to, read. -/
import Derived.Test.YtbchfmadmcppkaaTrieP
import Derived.Test.YtbchfmadmcppkaaGrow4
import Derived.Test.YtbchfmadmcppkaaGrow3
import Derived.Test.YtbchfmadmcppkaaAddr
namespace Go.Proofs.Ytbchfmadmcppkaa.Tri
set_option maxRecDepth 100000
open Go.RowKit Go.Proofs.Ytbchfmadmcppkaa
set_option linter.unusedVariables false

def pxC (L : List PX) : List Value := L.flatMap fun p => [.int .u32 p.1, .int .i64 p.2]

theorem pxC_length (L : List PX) : (pxC L).length = L.length * 2 := by
  induction L with
  | nil => rfl
  | cons p L ih => simp only [pxC, List.flatMap_cons, List.length_append, List.length_cons, List.length_nil] at *; omega

theorem pxC_append (L M : List PX) : pxC (L ++ M) = pxC L ++ pxC M := by simp [pxC, List.flatMap_append]

theorem pxC_get : ∀ (L : List PX) (i : Nat) (p : PX), L[i]? = some p → (pxC L)[i * 2]? = some (.int .u32 p.1) ∧ (pxC L)[i * 2 + 1]? = some (.int .i64 p.2)
  | [], i, p, h => by simp at h
  | q :: L, 0, p, h => by
    obtain rfl : q = p := by simpa using h
    exact ⟨rfl, rfl⟩
  | q :: L, i + 1, p, h => by
    have := pxC_get L i p (by simpa using h)
    rw [show (i + 1) * 2 = i * 2 + 1 + 1 by omega]
    exact this

theorem pxC_one {L : List PX} {u : Value} (h : u ∈ pxC L) : u.oneCell' = true := by
  simp only [pxC, List.mem_flatMap] at h
  obtain ⟨p, _, h⟩ := h
  simp only [List.mem_cons, List.not_mem_nil, or_false] at h
  rcases h with rfl | rfl <;> rfl

/-- A row of prefixes of the call's own. -/
def OwnP (w : World) (B : Nat) (v : Value) (L : List PX) : Prop := w.ownsRow B 25 2 v L.length (pxC L)

/-- A row of numbers of the call's own. -/
def OwnI (w : World) (B : Nat) (v : Value) (L : List Int) : Prop := w.ownsRow B 3 1 v L.length (L.map (Value.int .i64))

theorem OwnP.nil (w : World) (B : Nat) : OwnP w B (.slice none 0 0) [] := World.ownsRow_nil _ _ _ _

theorem owns_laterS {F : List Nat} {w w' : World} {B : Nat} {e : TypeId} {k : Nat} {v : Value} {n : Nat} {xs : List Value} (h : w.ownsRow B e k v n xs) (hx : ExtS F w w') (hf : ∀ g, v.ownBlock = some g → g ∉ F) : w'.ownsRow B e k v n xs := by
  obtain ⟨hl, h⟩ := h
  refine ⟨hl, ?_⟩
  rcases h with h | ⟨g, cap, cur, rfl, hb, hg, h1, h2, h3, h4⟩
  · exact .inl h
  · exact .inr ⟨g, cap, cur, rfl, hb, hx.heap (hf g rfl) hg, h1, h2, h3, h4⟩

theorem owns_later {w w' : World} {B : Nat} {e : TypeId} {k : Nat} {v : Value} {n : Nat} {xs : List Value} (h : w.ownsRow B e k v n xs) (hx : Ext w w') : w'.ownsRow B e k v n xs :=
  owns_laterS (F := []) h (hx.toS _) (by simp)

theorem owns_block {w : World} {B : Nat} {e : TypeId} {k : Nat} {v : Value} {n : Nat} {xs : List Value} (h : w.ownsRow B e k v n xs) {g : Nat} (hg : v.ownBlock = some g) : B ≤ g ∧ g < w.heap.size ∧ ∃ cur, w.heap[g]? = some (.cells cur e (0, 0)) := by
  obtain ⟨_, h⟩ := h
  rcases h with ⟨rfl, _⟩ | ⟨g', cap, cur, rfl, hb, hg', _⟩
  · cases hg
  · obtain rfl : g' = g := by simpa [Value.ownBlock] using hg
    exact ⟨hb, heap_lt hg', cur, hg'⟩

theorem owns_base {w : World} {B B' : Nat} {e : TypeId} {k : Nat} {v : Value} {n : Nat} {xs : List Value} (h : w.ownsRow B e k v n xs) (hb : B' ≤ B) : w.ownsRow B' e k v n xs := by
  obtain ⟨hl, h⟩ := h
  refine ⟨hl, ?_⟩
  rcases h with h | ⟨g, cap, cur, rfl, hb', r⟩
  · exact .inl h
  · exact .inr ⟨g, cap, cur, rfl, by omega, r⟩

theorem owns_slice {w : World} {B : Nat} {e : TypeId} {k : Nat} {v : Value} {n : Nat} {xs : List Value} (h : w.ownsRow B e k v n xs) : ∃ a c, v = .slice a n c ∧ n ≤ c ∧ c ≤ maxLen ∧ (a = none → c = 0) := by
  obtain ⟨_, h⟩ := h
  rcases h with ⟨rfl, rfl⟩ | ⟨g, cap, cur, rfl, _, _, h1, h2, _⟩
  · exact ⟨none, 0, rfl, Nat.le_refl _, by unfold maxLen; omega, fun _ => rfl⟩
  · exact ⟨_, cap, rfl, h1, h2, by simp⟩

/-- What grew by an append stands as before, but for the row's own block. -/
theorem grown_extN {N : Nat} {w w' : World} {B : Nat} {e : TypeId} {k : Nat} {v : Value} {n : Nat} {xs : List Value} (h : w.ownsRow B e k v n xs) (hN : N ≤ B) (hg : w.grownBy w' v.ownBlock) : ExtN N w w' :=
  ⟨hg.os, hg.tape, hg.output, hg.size, fun i hi hi2 => hg.block i hi2 (fun e => by have := (owns_block h e.symm).1; omega)⟩

theorem grown_ext {w wr w1 : World} {e : TypeId} {k : Nat} {v : Value} {n : Nat} {ys : List Value} (hx : Ext w wr) (hown : wr.ownsRow w.heap.size e k v n ys) (hg : wr.grownBy w1 v.ownBlock) : Ext w w1 :=
  Below.grown hx hg hx.size fun k hk => (owns_block hown hk).1

theorem grown_extS {w w1 : World} {B : Nat} {e : TypeId} {k : Nat} {v : Value} {n : Nat} {ys : List Value} {F : List Nat} (hown : w.ownsRow B e k v n ys) (hg : w.grownBy w1 v.ownBlock) (hf : ∀ g, v.ownBlock = some g → g ∈ F) : ExtS F w w1 :=
  ⟨hg.os, hg.tape, hg.output, hg.size, fun i hi hi2 => hg.block i hi (fun e => hi2 (hf i e.symm))⟩

theorem info_px : ∃ i, Try.prog.info? 25 = some i ∧ i.zero = some (.agg #[.int .u32 0, .int .i64 0]) ∧ i.size = 2 ∧ i.bytes = 16 := ⟨_, rfl, by kernel_rfl, by kernel_rfl, by kernel_rfl⟩

theorem info_int : ∃ i, Try.prog.info? 3 = some i ∧ i.zero = some (.int .i64 0) ∧ i.size = 1 ∧ i.bytes = 8 := ⟨_, rfl, by kernel_rfl, by kernel_rfl, by kernel_rfl⟩

/-- A cell of such a row. -/
theorem OwnP.cell {w : World} {B : Nat} {v : Value} {L : List PX} (h : OwnP w B v L) {i : Nat} {p : PX} (hi : L[i]? = some p) :
    ∃ g c, v = .slice (some ⟨g, 0, none⟩) L.length c ∧ w.cell? ⟨g, i * 2, none⟩ = some (.int .u32 p.1) ∧ w.cell? ⟨g, i * 2 + 1, none⟩ = some (.int .i64 p.2) := by
  obtain ⟨hl, h⟩ := h
  have hil := (List.getElem?_eq_some_iff.1 hi).1
  rcases h with ⟨_, h0⟩ | ⟨g, cap, cur, rfl, _, hg, _, _, _, hc⟩
  · omega
  · obtain ⟨h1, h2⟩ := pxC_get L i p hi
    refine ⟨g, cap, rfl, ?_, ?_⟩
    · rw [heap_cell hg, ← Array.getElem?_toList]
      rw [← hc, List.getElem?_take, if_pos (by omega)] at h1
      exact h1
    · rw [heap_cell hg, ← Array.getElem?_toList]
      rw [← hc, List.getElem?_take, if_pos (by omega)] at h2
      exact h2

theorem OwnI.cell {w : World} {B : Nat} {v : Value} {L : List Int} (h : OwnI w B v L) {i : Nat} {p : Int} (hi : L[i]? = some p) :
    ∃ g c, v = .slice (some ⟨g, 0, none⟩) L.length c ∧ w.cell? ⟨g, i, none⟩ = some (.int .i64 p) := by
  obtain ⟨hl, h⟩ := h
  have hil := (List.getElem?_eq_some_iff.1 hi).1
  rcases h with ⟨_, h0⟩ | ⟨g, cap, cur, rfl, _, hg, _, _, _, hc⟩
  · omega
  · have h1 : (L.map (Value.int .i64))[i]? = some (.int .i64 p) := by simp [hi]
    refine ⟨g, cap, rfl, ?_⟩
    rw [heap_cell hg, ← Array.getElem?_toList]
    rw [← hc, List.getElem?_take, if_pos (by omega)] at h1
    exact h1
end Go.Proofs.Ytbchfmadmcppkaa.Tri
