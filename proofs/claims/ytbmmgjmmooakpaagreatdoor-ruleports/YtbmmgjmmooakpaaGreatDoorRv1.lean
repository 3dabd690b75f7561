/- The document's reader of words: what is next, whether a word is next, numbers, addresses. -/
import Derived.Test.YtbmmgjmmooakpaaGreatDoorRuP4
import Derived.Test.YtbmmgjmmooakpaaGreatDoorPut
import Derived.Test.YtbmmgjmmooakpaaGreatDoorRefQ
namespace Go.Proofs.YtbmmgjmmooakpaaGreatDoor.Ru
open Go.RowKit
set_option linter.unusedVariables false
set_option maxRecDepth 100000

/-- Block q holds a reader, of whose words L are left; the words lie in a block ahead of it. -/
def RAt (w : World) (q : Nat) (L : WL) (b : Bool) : Prop := ∃ a n c, w.heap[q]? = some (.cells #[.slice a n c, .bool b] 56 (0, 0)) ∧ n = L.length ∧ n ≤ c ∧ c ≤ 9223372036854775807 ∧ (∀ x ∈ L, x.size ≤ 1000000) ∧
  (L = [] ∨ ∃ g off, a = some ⟨g, off, none⟩ ∧ g < q ∧ ∀ i, i < n → w.cell? ⟨g, off + i, none⟩ = some (.string (L[i]?.getD (txt []))))

theorem block_heap {w : World} {b k : Nat} {v : Value} (h : w.cell? ⟨b, k, none⟩ = some v) : b < w.heap.size := block_lt h

theorem RAt.laterX {w w' : World} {q x : Nat} {L : WL} {b : Bool} (h : RAt w q L b) (hx : ExtX x w w') (hq : q < x) : RAt w' q L b := by
  obtain ⟨a, n, c, h1, h2, h3, h4, h5, h6⟩ := h
  refine ⟨a, n, c, (hx.block q (by rcases Nat.lt_or_ge q w.heap.size with hl | hl; exact hl; rw [Array.getElem?_eq_none hl] at h1; cases h1) (by omega)).trans h1, h2, h3, h4, h5, ?_⟩
  rcases h6 with h6 | ⟨g, off, rfl, hg, hc⟩
  · exact .inl h6
  · refine .inr ⟨g, off, rfl, hg, fun i hi => ?_⟩
    have := hc i hi
    rw [← this]
    unfold World.cell?
    rw [hx.block g (block_heap this) (by omega)]

theorem RAt.lt {w : World} {q : Nat} {L : WL} {b : Bool} (h : RAt w q L b) : q < w.heap.size := by
  obtain ⟨a, n, c, h1, _⟩ := h
  rcases Nat.lt_or_ge q w.heap.size with hl | hl
  · exact hl
  · rw [Array.getElem?_eq_none hl] at h1; cases h1

theorem RAt.later {w w' : World} {q : Nat} {L : WL} {b : Bool} (h : RAt w q L b) (hx : Ext w w') : RAt w' q L b := h.laterX (hx.but w.heap.size) h.lt

/-- The reader's own cells are written. -/
theorem RAt.set {w w' : World} {q : Nat} {L : WL} {b : Bool} (h : RAt w q L b) (hx : ExtX q w w') {b' : Bool} (hh : ∀ a n c, w.heap[q]? = some (.cells #[.slice a n c, .bool b] 56 (0, 0)) → w'.heap[q]? = some (.cells #[.slice a n c, .bool b'] 56 (0, 0))) : RAt w' q L b' := by
  obtain ⟨a, n, c, h1, h2, h3, h4, h5, h6⟩ := h
  refine ⟨a, n, c, hh a n c h1, h2, h3, h4, h5, ?_⟩
  rcases h6 with h6 | ⟨g, off, rfl, hg, hc⟩
  · exact .inl h6
  · refine .inr ⟨g, off, rfl, hg, fun i hi => ?_⟩
    have := hc i hi
    rw [← this]
    unfold World.cell?
    rw [hx.block g (block_heap this) (by omega)]

theorem cells_two' {w : World} {b : Nat} {v0 v1 : Value} {t : TypeId} (h : w.heap[b]? = some (.cells #[v0, v1] t (0, 0))) :
    w.cell? ⟨b, 0, none⟩ = some v0 ∧ w.cell? ⟨b, 1, none⟩ = some v1 ∧ w.frozen? ⟨b, 0, none⟩ = false ∧ w.frozen? ⟨b, 1, none⟩ = false :=
  ⟨by rw [heap_cell h]; rfl, by rw [heap_cell h]; rfl, heap_frozen h, heap_frozen h⟩

/-- The words behind the first one. -/
theorem rat_tail {w w' : World} {q g off : Nat} {x : ByteArray} {M : WL} {b : Bool} (hc : ∀ i, i < M.length + 1 → w.cell? ⟨g, off + i, none⟩ = some (.string ((x :: M)[i]?.getD (txt [])))) (hg : g < q) (h5 : ∀ y ∈ M, y.size ≤ 1000000) (hx : ExtX q w w')
    {a : Option Addr} {c : Nat} (hh : w'.heap[q]? = some (.cells #[.slice a M.length c, .bool b] 56 (0, 0))) (hM : M.length ≤ c) (hcc : c ≤ 9223372036854775807) (ha : M = [] ∨ a = some ⟨g, off + 1, none⟩) : RAt w' q M b := by
  refine ⟨a, M.length, c, hh, rfl, hM, hcc, h5, ?_⟩
  rcases ha with ha | ha
  · exact .inl ha
  · refine .inr ⟨g, off + 1, ha, hg, fun i hi => ?_⟩
    have := hc (i + 1) (by omega)
    rw [show off + 1 + i = off + (i + 1) by omega]
    rw [show (x :: M)[i + 1]? = M[i]? by simp] at this
    rw [← this]
    unfold World.cell?
    rw [hx.block g (block_heap this) (by omega)]

theorem dnext_any (q : Nat) (L : WL) (b : Bool) (w : World) (h : RAt w q L b) :
    Calls Tryz.prog 25 #[.pointer (some ⟨q, 0, none⟩)] w fun e w' => e = .returned (.string (headW L)) ∧ RAt w' q L.tail (b || L.isEmpty) ∧ ExtX q w w' := by
  have H := h
  obtain ⟨a, n, c, h1, h2, h3, h4, h5, h6⟩ := h
  obtain ⟨d0, d1, f0, f1⟩ := cells_two' h1
  cases L with
  | nil =>
    obtain rfl : n = 0 := h2
    have HH : Hid (RAt w q [] b) := H
    clear H h1 h3 h4 h5 h6
    go_enter Tryz.func25, Tryz.ntmps25
    go_wp2
    go_ret
    exact ⟨rfl, by rw [show (b || ([] : WL).isEmpty) = true by simp]; exact RAt.set HH.out (putX _ _ _ _) (fun a n c h => heap_set h (k := 1) (.bool true)), putX _ _ _ _⟩
  | cons x M =>
    have h2' : n = M.length + 1 := h2
    subst h2'
    rcases h6 with h6 | ⟨g, off, rfl, hg, hc⟩
    · cases h6
    have hc0 : w.cell? ⟨g, off, none⟩ = some (.string x) := hc 0 (by omega)
    have H1 : Hid _ := h1
    have HC : Hid (∀ i, i < M.length + 1 → w.cell? ⟨g, off + i, none⟩ = some (.string ((x :: M)[i]?.getD (txt [])))) := hc
    have H5 : Hid (∀ y ∈ M, y.size ≤ 1000000) := fun y hy => h5 y (by simp [hy])
    have hM1 : M.length + 1 ≤ c := h3
    clear H h1 hc h5 h2 h3
    go_enter Tryz.func25, Tryz.ntmps25
    go_wp2
    all_goals go_ret
    all_goals (refine ⟨rfl, ?_, putX _ _ _ _⟩)
    all_goals first
      | exact rat_tail HC.out hg H5.out (putX _ _ _ _) (heap_set H1.out (k := 0) _) (by omega) (by omega) (.inr rfl)
      | exact rat_tail HC.out hg H5.out (putX _ _ _ _) (heap_set H1.out (k := 0) _) (by omega) (by omega) (.inl (List.eq_nil_of_length_eq_zero (by omega)))

set_option maxHeartbeats 1000000 in
theorem dis_any (t : ByteArray) (q : Nat) (L : WL) (b : Bool) (w : World) (h : RAt w q L b) :
    Calls Tryz.prog 26 #[.pointer (some ⟨q, 0, none⟩), .string t] w fun e w' => e = .returned (.bool (isW t L)) ∧ RAt w' q (aftW t L) b ∧ ExtX q w w' := by
  have H : Hid (RAt w q L b) := h
  obtain ⟨a, n, c, h1, h2, h3, h4, h5, h6⟩ := h
  obtain ⟨d0, d1, f0, f1⟩ := cells_two' h1
  cases L with
  | nil =>
    obtain rfl : n = 0 := h2
    have e1 : isW t [] = false := by unfold isW; simp
    have e2 : aftW t [] = [] := by unfold aftW; rw [e1]; rfl
    rw [e1, e2]
    clear h1 h3 h4 h5 h6
    go_enter Tryz.func26, Tryz.ntmps26
    go_wp2
    go_ret
    exact ⟨rfl, H.out, ExtX.refl _ _⟩
  | cons x M =>
    have h2' : n = M.length + 1 := h2
    subst h2'
    rcases h6 with h6 | ⟨g, off, rfl, hg, hc⟩
    · cases h6
    have hc0 : w.cell? ⟨g, off, none⟩ = some (.string x) := hc 0 (by omega)
    have H1 : Hid _ := h1
    have HC : Hid (∀ i, i < M.length + 1 → w.cell? ⟨g, off + i, none⟩ = some (.string ((x :: M)[i]?.getD (txt [])))) := hc
    have H5 : Hid (∀ y ∈ M, y.size ≤ 1000000) := fun y hy => h5 y (by simp [hy])
    have hM1 : M.length + 1 ≤ c := h3
    have eq := eqT x t
    have hi : isW t (x :: M) = decide (x = t) := by unfold isW; simp
    have ha : aftW t (x :: M) = if decide (x = t) = true then M else x :: M := by unfold aftW; rw [hi]; rfl
    rw [hi, ha]
    generalize decide (x = t) = d at *
    clear h1 hc h5 h2 h3 hi ha
    cases d with
    | true =>
      rw [if_pos rfl]
      go_enter Tryz.func26, Tryz.ntmps26
      go_wp2
      all_goals go_ret
      all_goals (refine ⟨rfl, ?_, putX _ _ _ _⟩)
      all_goals first
        | exact rat_tail HC.out hg H5.out (putX _ _ _ _) (heap_set H1.out (k := 0) _) (by omega) (by omega) (.inr rfl)
        | exact rat_tail HC.out hg H5.out (putX _ _ _ _) (heap_set H1.out (k := 0) _) (by omega) (by omega) (.inl (List.eq_nil_of_length_eq_zero (by omega)))
    | false =>
      rw [if_neg (by decide)]
      go_enter Tryz.func26, Tryz.ntmps26
      go_wp2
      go_ret
      exact ⟨rfl, H.out, ExtX.refl _ _⟩

theorem refNum_ans {s : ByteArray} {top : Nat} {e : Ending} {w w' : World} (h : NumAns s.data.toList (numB s.data.toList top) e ∧ w' = w) : ∃ v : Int, e = .returned (.tuple #[.int .i64 v, .bool (numB s.data.toList top)]) ∧ (numB s.data.toList top = true → v = valT s) ∧ w' = w := by
  obtain ⟨⟨v, h1, h2⟩, h3⟩ := h
  exact ⟨v, h1, h2, h3⟩

/-- What num answers. -/
def DNumAns (s : ByteArray) (top : Nat) (q : Nat) (L : WL) (b : Bool) (w : World) (e : Ending) (w' : World) : Prop :=
  ∃ v : Int, e = .returned (.int .i64 v) ∧ (numB s.data.toList top = true → v = valT s) ∧ RAt w' q L (b || !numB s.data.toList top) ∧ ExtX q w w'

theorem dnum_any (s : ByteArray) (top : Nat) (q : Nat) (L : WL) (b : Bool) (w : World) (hz : s.size ≤ 1000000) (ht : top ≤ 1000000) (h : RAt w q L b) :
    Calls Tryz.prog 31 #[.pointer (some ⟨q, 0, none⟩), .string s, .int .i64 (top : Int)] w (DNumAns s top q L b w) := by
  have c1 := fun w => refNum_any s top w (by omega) (by omega) hz
  rw [Int.toNat_natCast] at c1
  have HA : Hid (∀ v w', (numB s.data.toList top = true → v = valT s) → RAt w' q L (b || !numB s.data.toList top) → ExtX q w w' → DNumAns s top q L b w (.returned (.int .i64 v)) w') := fun v w' h1 h2 h3 => ⟨v, rfl, h1, h2, h3⟩
  have c2 := fun w => (c1 w).mono fun e w' h => refNum_ans h
  generalize DNumAns s top q L b w = An at *
  generalize numB s.data.toList top = g at *
  have H : Hid (RAt w q L b) := h
  clear c1 hz ht
  obtain ⟨a, n, c, h1, h2, h3, h4, h5, h6⟩ := h
  obtain ⟨d0, d1, f0, f1⟩ := cells_two' h1
  clear h1 h2 h3 h4 h5 h6
  cases g with
  | true =>
    go_enter Tryz.func31, Tryz.ntmps31
    go_wp2_with (go_at_call 63; refine (c2 _).mono ?_; rintro e w1 ⟨v, rfl, hv, hw⟩; obtain rfl := hw.symm; clear hw; have HV : Hid (true = true → v = valT s) := hv; clear hv)
    exact HA.out v _ HV.out (by rw [Bool.not_true, Bool.or_false]; exact H.out) (ExtX.refl _ _)
  | false =>
    go_enter Tryz.func31, Tryz.ntmps31
    go_wp2_with (go_at_call 63; refine (c2 _).mono ?_; rintro e w1 ⟨v, rfl, hv, hw⟩; obtain rfl := hw.symm; clear hw hv)
    exact HA.out v _ (fun h => by cases h) (by rw [Bool.not_false, Bool.or_true]; exact RAt.set H.out (putX _ _ _ _) (fun a n c h => heap_set h (k := 1) (.bool true))) (putX _ _ _ _)

theorem rheadW_size {w : World} {q : Nat} {L : WL} {b : Bool} (h : RAt w q L b) : (headW L).size ≤ 1000000 := by
  obtain ⟨a, n, c, h1, h2, h3, h4, h5, h6⟩ := h
  cases L with
  | nil => rw [show headW [] = txt [] from rfl, txt_size]; simp
  | cons x M => exact h5 x (by simp)

theorem rtail_size {w : World} {q : Nat} {L : WL} {b : Bool} (h : RAt w q L b) : (headW L.tail).size ≤ 1000000 := by
  obtain ⟨a, n, c, h1, h2, h3, h4, h5, h6⟩ := h
  cases L with
  | nil => rw [show headW ([] : WL).tail = txt [] from rfl, txt_size]; simp
  | cons x M =>
    cases M with
    | nil => rw [show headW [x].tail = txt [] from rfl, txt_size]; simp
    | cons y N => exact h5 y (by simp)

theorem daddr_any (q : Nat) (L : WL) (b : Bool) (w : World) (h : RAt w q L b) :
    Calls Tryz.prog 64 #[.pointer (some ⟨q, 0, none⟩)] w fun e w' => e = .returned (.int .u32 (((parseV (headW L).data.toList).getD 0 : Nat) : Int)) ∧ RAt w' q L.tail (b || !(parseV (headW L).data.toList).isSome) ∧ ExtX q w w' := by
  have hz := rheadW_size h
  have c1 := dnext_any q L b w h
  have c2 := fun w => refParse_any (headW L) w hz
  have hnil : L.isEmpty = true → (parseV (headW L).data.toList).isSome = false := by
    cases L with
    | nil => intro _; decide
    | cons => intro h; cases h
  have hpe : parseE (headW L).data.toList = .returned (.tuple #[.int .u32 (((parseV (headW L).data.toList).getD 0 : Nat) : Int), .int .i64 (if (parseV (headW L).data.toList).isSome = true then 0 else 2)]) := by
    unfold parseE; cases parseV (headW L).data.toList <;> rfl
  rw [hpe] at c2
  generalize (((parseV (headW L).data.toList).getD 0 : Nat) : Int) = v at *
  generalize (parseV (headW L).data.toList).isSome = g at *
  generalize headW L = x at *
  generalize L.isEmpty = em at *
  generalize L.tail = M at *
  have HN : Hid _ := hnil
  clear h hz hpe hnil
  cases g with
  | true =>
    obtain rfl : em = false := by cases em; rfl; exact absurd (HN.out rfl) (by decide)
    rw [if_pos rfl] at c2
    go_enter Tryz.func64, Tryz.ntmps64
    go_wp2_with (first
      | (go_at_call 25; refine c1.mono ?_; rintro e w1 ⟨rfl, hR, hx⟩)
      | (go_at_call 86; refine (c2 _).mono ?_; rintro e w2 ⟨rfl, hx2⟩))
    go_ret
    exact ⟨rfl, by rw [Bool.not_true]; exact hR.later hx2, hx.trans (hx2.but q)⟩
  | false =>
    rw [if_neg (by decide)] at c2
    go_enter Tryz.func64, Tryz.ntmps64
    go_wp2_with (first
      | (go_at_call 25; refine c1.mono ?_; rintro e w1 ⟨rfl, hR, hx⟩)
      | (go_at_call 86; refine (c2 _).mono ?_; rintro e w2 ⟨rfl, hx2⟩; have hR2 := hR.later hx2; have HR2 : Hid (RAt w2 q M (b || em)) := hR2; obtain ⟨a, n, c, h1, h2, h3, h4, h5, h6⟩ := hR2; obtain ⟨d0, d1, f0, f1⟩ := cells_two' h1; clear h1 h2 h3 h4 h5 h6))
    go_ret
    exact ⟨rfl, by rw [Bool.not_false, Bool.or_true]; exact RAt.set HR2.out (putX _ _ _ _) (fun a n c h => heap_set h (k := 1) (.bool true)), (hx.trans (hx2.but q)).trans (putX _ _ _ _)⟩
end Go.Proofs.YtbmmgjmmooakpaaGreatDoor.Ru
