/- addr.ParsePrefix, for every text of at most 1000000 bytes: what the document's plain reading of the text says. -/
import Derived.Test.YtbmmgjmmooakpaaGreatDoorParse
import Derived.Test.YtbmmgjmmooakpaaGreatDoorAddr
import Derived.Test.YtbmmgjmmooakpaaGreatDoorGrow2
namespace Go.Proofs.YtbmmgjmmooakpaaGreatDoor
set_option maxRecDepth 100000
open Go.RowKit
set_option linter.unusedVariables false

/-- What ParsePrefix answers. -/
def parsePE (l : List UInt8) : Ending :=
  match parsePV l with
  | some (a, n) => .returned (.tuple #[.agg #[.int .u32 a, .int .i64 n], .int .i64 0])
  | none => .returned (.tuple #[.agg #[.int .u32 0, .int .i64 0], .int .i64 2])

theorem parsePV_one {l : List UInt8} (h : 47 ∉ l) : parsePV l = (parseV l).map fun a => (a, 32) := by
  unfold parsePV; rw [split_none h]

theorem parsePV_two {l a b : List UInt8} (hl : l = a ++ 47 :: b) (ha : 47 ∉ a) : parsePV l = if numB b 32 then (parseV a).map fun x => (x, valN b) else none := by
  unfold parsePV
  rw [hl, split_at ha]
  by_cases hb : 47 ∈ b
  · have hn : numB b 32 = false := by
      rw [Bool.eq_false_iff]; intro h
      exact digits_no (c := 47) (by decide) (numB_all h) hb
    rw [hn]
    obtain ⟨x, y, e, hx⟩ : ∃ x y, b = x ++ 47 :: y ∧ 47 ∉ x := by
      rcases index_split 47 b with ⟨x, y, e, hx, _⟩ | ⟨hx, _⟩
      · exact ⟨x, y, e, hx⟩
      · exact absurd hb hx
    rw [e, split_at hx]
    cases hy : splitL 47 y with
    | nil => exact absurd hy (split_ne_nil _ _)
    | cons => rfl
  · rw [split_none hb]

/-- A struct of two cells that is written whole. -/
theorem set_two {w : World} {b : Nat} {v0 v1 : Value} {t : TypeId} (h : w.heap[b]? = some (.cells #[v0, v1] t (0, 0))) (u0 u1 : Value) :
    ((w.setCell ⟨b, 0, none⟩ u0).setCell ⟨b, 1, none⟩ u1).cell? ⟨b, 0, none⟩ = some u0 ∧ ((w.setCell ⟨b, 0, none⟩ u0).setCell ⟨b, 1, none⟩ u1).cell? ⟨b, 1, none⟩ = some u1 := by
  have k := heap_set (heap_set h (k := 0) u0) (k := 1) u1
  exact ⟨by rw [heap_cell k]; rfl, by rw [heap_cell k]; rfl⟩

theorem cells_two {w : World} {b : Nat} {v0 v1 : Value} {t : TypeId} (h : w.heap[b]? = some (.cells #[v0, v1] t (0, 0))) :
    w.cell? ⟨b, 0, none⟩ = some v0 ∧ w.cell? ⟨b, 1, none⟩ = some v1 ∧ w.frozen? ⟨b, 0, none⟩ = false ∧ w.frozen? ⟨b, 1, none⟩ = false :=
  ⟨by rw [heap_cell h]; rfl, by rw [heap_cell h]; rfl, heap_frozen h, heap_frozen h⟩

theorem ext_set2 {w w' : World} (h : Ext w w') (u0 u1 : Value) : Ext w ((w'.setCell ⟨w.heap.size, 0, none⟩ u0).setCell ⟨w.heap.size, 1, none⟩ u1) :=
  Below.setCell (Below.setCell h (p := ⟨w.heap.size, 0, none⟩) (Nat.le_refl _) _) (p := ⟨w.heap.size, 1, none⟩) (Nat.le_refl _) _

theorem parsePrefix_any (s : ByteArray) (w : World) (hs : s.size ≤ 1000000) (hm : Max w) :
    Calls Tryz.prog 103 #[.string s] w fun e w' => e = parsePE s.data.toList ∧ Ext w w' := by
  have hx0 : Ext w (w.alloc (.cells #[.int .u32 0, .int .i64 0] 24)) := (Ext.refl w).alloc _
  have hh := heap_new w (.cells #[.int .u32 0, .int .i64 0] 24)
  have HH : Hid _ := hh
  have hM0 := hm.later hx0
  clear hh
  rcases cut_text s 47 hs with ⟨A, B, h1, h2, hA, hB, c1⟩ | ⟨h2, c1⟩
  · have hp := parsePV_two h1 h2
    cases hq : parseV A.data.toList with
    | none =>
      have c2 := fun w h => parse_any A w hA h
      rw [show parseE A.data.toList = .returned (.tuple #[.int .u32 0, .int .i64 2]) by unfold parseE; rw [hq]] at c2
      rw [show parsePE s.data.toList = .returned (.tuple #[.agg #[.int .u32 0, .int .i64 0], .int .i64 2]) by unfold parsePE; rw [hp, hq]; cases numB B.data.toList 32 <;> rfl]
      clear hp hq h1 h2
      go_enter Tryz.func103, Tryz.ntmps103
      go_wp2_with (first
        | (go_at_call 78; refine (c1 _ hM0).mono ?_; rintro e w1 ⟨rfl, hx1⟩)
        | (go_at_call 85; refine (c2 _ (hM0.later hx1)).mono ?_; rintro e w2 ⟨rfl, hx2⟩; have k2 := Ext.heap (Ext.trans hx1 hx2) HH.out; have K2 : Hid _ := k2; obtain ⟨d0, d1, f0, f1⟩ := cells_two k2; clear k2))
      obtain ⟨e0, e1⟩ := set_two K2.out (.int .u32 0) (.int .i64 0)
      exact bodyPost_ret (v := .tuple #[.agg #[.int .u32 0, .int .i64 0], .int .i64 2]) (by simp [results, Tryz.results103, go_sem, e0, e1]) rfl ⟨rfl, ext_set2 (Ext.trans hx0 (Ext.trans hx1 hx2)) _ _⟩
    | some a =>
      have c2 := fun w h => parse_any A w hA h
      rw [show parseE A.data.toList = .returned (.tuple #[.int .u32 a, .int .i64 0]) by unfold parseE; rw [hq]] at c2
      have hab := parseV_bd hq
      cases hn : numB B.data.toList 32 with
      | false =>
        have c3 := fun w => number_bad B 32 hn (by omega) hB w
        rw [show parsePE s.data.toList = .returned (.tuple #[.agg #[.int .u32 0, .int .i64 0], .int .i64 2]) by unfold parsePE; rw [hp, hn]; rfl]
        clear hp hq h1 h2 hn
        go_enter Tryz.func103, Tryz.ntmps103
        go_wp2_with (first
          | (go_at_call 78; refine (c1 _ hM0).mono ?_; rintro e w1 ⟨rfl, hx1⟩)
          | (go_at_call 85; refine (c2 _ (hM0.later hx1)).mono ?_; rintro e w2 ⟨rfl, hx2⟩; have k2 := Ext.heap (Ext.trans hx1 hx2) HH.out; have K2 : Hid _ := k2; obtain ⟨d0, d1, f0, f1⟩ := cells_two k2; clear k2)
          | (go_at_call 104; refine (c3 _).mono ?_; rintro e w3 ⟨rfl, rfl⟩))
        obtain ⟨e0, e1⟩ := set_two K2.out (.int .u32 0) (.int .i64 0)
        exact bodyPost_ret (v := .tuple #[.agg #[.int .u32 0, .int .i64 0], .int .i64 2]) (by simp [results, Tryz.results103, go_sem, e0, e1]) rfl ⟨rfl, ext_set2 (Ext.trans hx0 (Ext.trans hx1 hx2)) _ _⟩
      | true =>
        have c3 := fun w => number_good B 32 hn (by omega) hB w
        rw [show parsePE s.data.toList = .returned (.tuple #[.agg #[.int .u32 a, .int .i64 (valN B.data.toList)], .int .i64 0]) by unfold parsePE; rw [hp, hn, hq]; rfl]
        have hv := numB_le hn
        generalize valN B.data.toList = v at *
        clear hp hq h1 h2 hn
        go_enter Tryz.func103, Tryz.ntmps103
        go_wp2_with (first
          | (go_at_call 78; refine (c1 _ hM0).mono ?_; rintro e w1 ⟨rfl, hx1⟩)
          | (go_at_call 85; refine (c2 _ (hM0.later hx1)).mono ?_; rintro e w2 ⟨rfl, hx2⟩; have k2 := Ext.heap (Ext.trans hx1 hx2) HH.out; have K2 : Hid _ := k2; obtain ⟨d0, d1, f0, f1⟩ := cells_two k2; clear k2)
          | (go_at_call 104; refine (c3 _).mono ?_; rintro e w3 ⟨rfl, rfl⟩))
        obtain ⟨e0, e1⟩ := set_two K2.out (.int .u32 a) (.int .i64 v)
        exact bodyPost_ret (v := .tuple #[.agg #[.int .u32 a, .int .i64 v], .int .i64 0]) (by simp [results, Tryz.results103, go_sem, e0, e1]) rfl ⟨rfl, ext_set2 (Ext.trans hx0 (Ext.trans hx1 hx2)) _ _⟩
  · have hp := parsePV_one h2
    cases hq : parseV s.data.toList with
    | none =>
      have c2 := fun w h => parse_any s w hs h
      rw [show parseE s.data.toList = .returned (.tuple #[.int .u32 0, .int .i64 2]) by unfold parseE; rw [hq]] at c2
      rw [show parsePE s.data.toList = .returned (.tuple #[.agg #[.int .u32 0, .int .i64 0], .int .i64 2]) by unfold parsePE; rw [hp, hq]; rfl]
      clear hp hq h2
      go_enter Tryz.func103, Tryz.ntmps103
      go_wp2_with (first
        | (go_at_call 78; refine (c1 _ hM0).mono ?_; rintro e w1 ⟨rfl, hx1⟩)
        | (go_at_call 85; refine (c2 _ (hM0.later hx1)).mono ?_; rintro e w2 ⟨rfl, hx2⟩; have k2 := Ext.heap (Ext.trans hx1 hx2) HH.out; have K2 : Hid _ := k2; obtain ⟨d0, d1, f0, f1⟩ := cells_two k2; clear k2))
      obtain ⟨e0, e1⟩ := set_two K2.out (.int .u32 0) (.int .i64 0)
      exact bodyPost_ret (v := .tuple #[.agg #[.int .u32 0, .int .i64 0], .int .i64 2]) (by simp [results, Tryz.results103, go_sem, e0, e1]) rfl ⟨rfl, ext_set2 (Ext.trans hx0 (Ext.trans hx1 hx2)) _ _⟩
    | some a =>
      have c2 := fun w h => parse_any s w hs h
      rw [show parseE s.data.toList = .returned (.tuple #[.int .u32 a, .int .i64 0]) by unfold parseE; rw [hq]] at c2
      have hab := parseV_bd hq
      rw [show parsePE s.data.toList = .returned (.tuple #[.agg #[.int .u32 a, .int .i64 32], .int .i64 0]) by unfold parsePE; rw [hp, hq]; rfl]
      clear hp hq h2
      go_enter Tryz.func103, Tryz.ntmps103
      go_wp2_with (first
        | (go_at_call 78; refine (c1 _ hM0).mono ?_; rintro e w1 ⟨rfl, hx1⟩)
        | (go_at_call 85; refine (c2 _ (hM0.later hx1)).mono ?_; rintro e w2 ⟨rfl, hx2⟩; have k2 := Ext.heap (Ext.trans hx1 hx2) HH.out; have K2 : Hid _ := k2; obtain ⟨d0, d1, f0, f1⟩ := cells_two k2; clear k2))
      obtain ⟨e0, e1⟩ := set_two K2.out (.int .u32 a) (.int .i64 32)
      exact bodyPost_ret (v := .tuple #[.agg #[.int .u32 a, .int .i64 32], .int .i64 0]) (by simp [results, Tryz.results103, go_sem, e0, e1]) rfl ⟨rfl, ext_set2 (Ext.trans hx0 (Ext.trans hx1 hx2)) _ _⟩
end Go.Proofs.YtbmmgjmmooakpaaGreatDoor
