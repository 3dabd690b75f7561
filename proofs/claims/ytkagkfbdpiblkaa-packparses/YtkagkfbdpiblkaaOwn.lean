/- A row of bytes of the call's own, whose cells may be set. -/
import Derived.Test.YtkagkfbdpiblkaaWord
namespace Go.Proofs.Ytkagkfbdpiblkaa
open Go.RowKit
set_option linter.unusedVariables false

/-- Block g, not below B, holds the bytes xs at its head. -/
structure OwnB (B : Nat) (w : World) (g n : Nat) (xs : List Int) : Prop where
  base : B ≤ g
  heap : ∃ cur, w.heap[g]? = some (.cells cur 5 (0, 0)) ∧ cur.toList.take n = xs.map (Value.int .u8)
  length : xs.length = n
  small : n ≤ 9223372036854775807
  ok : BytesOk xs

theorem OwnB.of_owns {B : Nat} {w : World} {v : Value} {n : Nat} {xs : List Int} (h : w.ownsRow B 5 1 v n (xs.map (Value.int .u8))) (hn : 0 < n) (hok : BytesOk xs) :
    ∃ g c, v = .slice (some ⟨g, 0, none⟩) n c ∧ OwnB B w g n xs := by
  obtain ⟨hl, h⟩ := h
  simp only [List.length_map, Nat.mul_one] at hl
  rcases h with ⟨rfl, rfl⟩ | ⟨g, cap, cur, rfl, hb, hg, hn', hm, hcs, hc⟩
  · omega
  · unfold maxLen at hm
    exact ⟨g, cap, rfl, hb, ⟨cur, hg, by simpa using hc⟩, hl, by omega, hok⟩

theorem OwnB.lt {B : Nat} {w : World} {g n : Nat} {xs : List Int} (h : OwnB B w g n xs) : g < w.heap.size := by
  obtain ⟨cur, h1, _⟩ := h.heap
  rcases Nat.lt_or_ge g w.heap.size with hl | hl
  · exact hl
  · simp [Array.getElem?_eq_none hl] at h1

theorem OwnB.cell {B : Nat} {w : World} {g n : Nat} {xs : List Int} (h : OwnB B w g n xs) {k : Nat} (hk : k < n) : w.cell? ⟨g, k, none⟩ = some (.int .u8 (xs[k]?.getD 0)) := by
  obtain ⟨cur, h1, h2⟩ := h.heap
  have hl := h.length
  have e3 : (cur.toList.take n)[k]? = (xs.map (Value.int .u8))[k]? := by rw [h2]
  rw [List.getElem?_take, if_pos hk] at e3
  rw [heap_cell h1]
  have e4 : cur[k]? = cur.toList[k]? := by simp
  rw [e4, e3]; simp [show k < xs.length by omega]

theorem OwnB.frozen {B : Nat} {w : World} {g n : Nat} {xs : List Int} (h : OwnB B w g n xs) (k : Nat) : w.frozen? ⟨g, k, none⟩ = false := by
  obtain ⟨cur, h1, _⟩ := h.heap
  exact heap_frozen h1

theorem OwnB.bytes {B : Nat} {w : World} {g n : Nat} {xs : List Int} (h : OwnB B w g n xs) : Bytes w (some ⟨g, 0, none⟩) n xs :=
  ⟨h.length, h.small, h.ok, .inr ⟨g, 0, rfl, fun i hi => by simpa using h.cell hi⟩⟩

theorem OwnB.later {B : Nat} {w w' : World} {g n : Nat} {xs : List Int} (h : OwnB B w g n xs) (hx : Ext w w') : OwnB B w' g n xs := by
  obtain ⟨cur, h1, h2⟩ := h.heap
  exact ⟨h.base, ⟨cur, by rw [hx.block g h.lt]; exact h1, h2⟩, h.length, h.small, h.ok⟩

theorem OwnB.set {B : Nat} {w : World} {g n : Nat} {xs : List Int} (h : OwnB B w g n xs) {k : Nat} {v : Int} (v0 : 0 ≤ v) (v1 : v ≤ 255) :
    OwnB B (w.setCell ⟨g, k, none⟩ (.int .u8 v)) g n (xs.set k v) := by
  obtain ⟨cur, h1, h2⟩ := h.heap
  refine ⟨h.base, ⟨_, heap_set h1 _, ?_⟩, by simpa using h.length, h.small, ?_⟩
  · rw [Array.toList_setIfInBounds, List.take_set, h2, List.map_set]
  · intro x hx
    rcases List.mem_or_eq_of_mem_set hx with h3 | rfl
    · exact h.ok x h3
    · exact ⟨v0, v1⟩

theorem own_empty (w : World) : (w.alloc (.cells #[] 5)).ownsRow w.heap.size 5 1 (.slice (some ⟨w.heap.size, 0, none⟩) 0 0) 0 (List.map (Value.int .u8) []) :=
  own_of_heap (heap_alloc_new w _) (Nat.le_refl _) rfl (by omega)

/-- What make has made reads as noughts. -/
theorem noughts_bytes {w : World} {g n : Nat} (h : Hid (w.heap[g]? = some (.cells (List.replicate n (Value.int .u8 0)).toArray 5 (0, 0)))) (hn : n ≤ 1000000) : Bytes w (some ⟨g, 0, none⟩) n (List.replicate n 0) := by
  have ho : OwnB 0 w g n (List.replicate n 0) := ⟨Nat.zero_le _, ⟨_, h.out, by simp⟩, by simp, by omega, by intro x hx; have := List.eq_of_mem_replicate hx; omega⟩
  exact ho.bytes

theorem owns_later {B : Nat} {w w' : World} {e : TypeId} {v : Value} {n : Nat} {xs : List Value} (h : w.ownsRow B e 1 v n xs) (hx : Ext w w') : w'.ownsRow B e 1 v n xs := by
  obtain ⟨hl, h⟩ := h
  refine ⟨hl, ?_⟩
  rcases h with h | ⟨g, cap, cur, rfl, hb, hg, hr⟩
  · exact .inl h
  · have hlt : g < w.heap.size := by
      rcases Nat.lt_or_ge g w.heap.size with h1 | h1
      · exact h1
      · simp [Array.getElem?_eq_none h1] at hg
    exact .inr ⟨g, cap, cur, rfl, hb, by rw [hx.block g hlt]; exact hg, hr⟩

theorem Bytes.has {w : World} {p : Option Addr} {n : Nat} {xs : List Int} (h : Bytes w p n xs) (hn : 0 < n) (c : Nat) : p = none → c = 0 := by
  rintro rfl
  rcases h.cells with h | ⟨_, _, h, _⟩
  · omega
  · cases h

end Go.Proofs.Ytkagkfbdpiblkaa
