/- Texts joined by a program: Fib9, FibA, ShelfM, FibB, FibC. -/
import Derived.Shelf.Bits.Mul64
import Derived.Ground.Names2Prog
import Derived.Test.YtkfhkhgiojpfoaaGreatProg
import Derived.Test.YtkfhkhgiojpfoaaGreatJ19
import Derived.Test.YtkfhkhgiojpfoaaGreatJ20
namespace Go.Proofs.YtkfhkhgiojpfoaaGreat.Fb

set_option maxRecDepth 100000

open Go.RowKit Go.Proofs.YtkfhkhgiojpfoaaGreat Go.Proofs.YtkfhkhgiojpfoaaGreat.Rb

open Go.Proofs.YtkfhkhgiojpfoaaGreat.Tri (PX Vp Row TrieR ansO lastF covL)

open Go.Proofs.YtkfhkhgiojpfoaaGreat.Dr (DirAt keysL ownN look_at numO)

set_option linter.unusedVariables false

set_option linter.unusedSimpArgs false

/-- Of no table nothing is active. -/
theorem act_table {L : List Rt} (h : Rb.Good L) {t : Int} {U : List Bool} (ht : t < 0 ∨ 4 ≤ t) : actL L t U = [] := by
  cases hl : actL L t U with
  | nil => rfl
  | cons s M =>
    have hs : s ∈ actL L t U := by rw [hl]; exact List.mem_cons_self
    obtain ⟨h1, h2, h3, h4⟩ := act_is hs
    have := (isR_iff s).1 (h.is s h2)
    omega

theorem byDir_no (fb : Nat) (t a : Int) (w : World) (ht : t < 0 ∨ 4 ≤ t) : Calls Tryz.prog 54 #[.pointer (some ⟨fb, 0, none⟩), .int .i64 t, .int .u32 a] w (BestAns w none) := by
  have hA : Ext w (w.alloc (.cells #[.int .i64 0, .int .u32 0, .int .i64 0, .int .i64 0, .int .u32 0, .int .i64 0] 48)) := (Ext.refl w).alloc _
  have HB : Hid _ := heap_new w (.cells #[.int .i64 0, .int .u32 0, .int .i64 0, .int .i64 0, .int .u32 0, .int .i64 0] 48)
  have c0 := fun W => of_none fb t W ht
  go_enter Tryz.func54, Tryz.ntmps54
  go_wp2_with (first
    | (go_at_call 75; refine (c0 _).mono ?_; rintro e w1 ⟨rfl, hw⟩; obtain rfl := hw.symm; clear hw)
    | (refine wpl_store (by rfl) 48 _ _ rfl rfl 6 w.heap.size #[.int .i64 zeroR.t, .int .u32 zeroR.a, .int .i64 zeroR.l, .int .i64 zeroR.i, .int .u32 zeroR.g, .int .i64 zeroR.m] _ _ rfl rfl HB.out rt_size rfl rfl (by simp [Value.oneCell']) ?_; intro w5 hx5 k5))
  exact bodyPost_ret (results_two Tryz.results54 _ rfl k5 Tryz.underlying48 rfl rt_size) rfl ⟨rfl, ExtX.ext hA hx5 (Nat.le_refl _)⟩

/-- What way is asked, by what was found. -/
theorem way_of {w : World} {fb i : Nat} {A : List Rt} {v : Value} (a : Int) (a0 : 0 ≤ a) (a1 : a ≤ 4294967295) (hA : Pf A) (hv : w.cell? ⟨fb, 2 + i * 3, none⟩ = some v) (hO : OwnR w 0 v A) : ∃ (n : Int) (ok : Bool), (match lastF none (covL (rowOf A) (a, 32)) with | none => (0, false) | some x => (x.2, true)) = (n, ok) ∧
    ∀ W, Ext w W → Calls Tryz.prog 77 #[.pointer (some ⟨fb, 2 + i * 3, none⟩), .int .i64 n, .bool ok] W (BestAns W (lookO A a)) := by
  obtain ⟨p, c, rfl, -, -, hR⟩ := hO.slice
  cases hl : lastF none (covL (rowOf A) (a, 32)) with
  | none =>
    refine ⟨0, false, rfl, fun W hx => ?_⟩
    have e : lookO A a = none := by unfold lookO; rw [hl]
    rw [e]
    exact way_no _ 0 W
  | some x =>
    obtain ⟨k, r, h1, h2, h3⟩ := last_row hA a0 a1 hl
    refine ⟨x.2, true, rfl, fun W hx => ?_⟩
    rw [h3, h2]
    have hc : W.cell? ⟨fb, 2 + i * 3, none⟩ = some (.slice p A.length c) := by rw [hx.below.cell (p := ⟨fb, 2 + i * 3, none⟩) (block_lt hv)]; exact hv
    exact way_yes fb (2 + i * 3) p A.length c A k r W hc (hR.ext hx) h1

set_option maxHeartbeats 1000000 in
theorem byDir_at (fb i : Nat) (a : Int) (L : List Rt) (U : List Bool) (F : List Nat) (w : World) (h : FibAt w fb L U F) (hi : i < 4) (a0 : 0 ≤ a) (a1 : a ≤ 4294967295) : Calls Tryz.prog 54 #[.pointer (some ⟨fb, 0, none⟩), .int .i64 (i : Int), .int .u32 a] w (BestAns w (lookO (actL L (i : Int) U) a)) := by
  obtain ⟨rb, q, d, C, Fr, E, h⟩ := h
  have hA : Ext w (w.alloc (.cells #[.int .i64 0, .int .u32 0, .int .i64 0, .int .i64 0, .int .u32 0, .int .i64 0] 48)) := (Ext.refl w).alloc _
  have HB : Hid _ := heap_new w (.cells #[.int .i64 0, .int .u32 0, .int .i64 0, .int .i64 0, .int .u32 0, .int .i64 0] 48)
  have h' := h.ext hA
  have hcd : (w.alloc (.cells #[.int .i64 0, .int .u32 0, .int .i64 0, .int .i64 0, .int .u32 0, .int .i64 0] 48)).cell? ⟨fb, 2 + i * 3 + 2, none⟩ = some (.pointer (some ⟨(E i).db, 0, none⟩)) := by rw [heap_cell h'.obj, h'.cd i hi]
  have hcv : (w.alloc (.cells #[.int .i64 0, .int .u32 0, .int .i64 0, .int .i64 0, .int .u32 0, .int .i64 0] 48)).cell? ⟨fb, 2 + i * 3, none⟩ = some (E i).v := by rw [heap_cell h'.obj, h'.cv i hi]
  obtain ⟨n, ok, hno, cw⟩ := way_of a a0 a1 (h'.pf i hi) hcv (h'.eng i hi).row
  have c0 := fun W => of_any fb i W hi
  have c1 := look_at (h'.eng i hi).dir a a0 a1
  have hans : numO (lastF none (covL (rowOf (actL L (i : Int) U)) (a, 32))) = .tuple #[.int .i64 n, .bool ok] := by
    cases hl : lastF none (covL (rowOf (actL L (i : Int) U)) (a, 32)) with
    | none => rw [hl] at hno; cases hno; rfl
    | some x => rw [hl] at hno; cases hno; rfl
  rw [hans] at c1
  clear hans hno h h' hcv
  generalize lookO (actL L (i : Int) U) a = oo at *
  go_enter Tryz.func54, Tryz.ntmps54
  go_wp2_with (first
    | (go_at_call 75; refine (c0 _).mono ?_; rintro e w1 ⟨rfl, hw⟩; obtain rfl := hw.symm; clear hw)
    | (go_at_call 76; refine c1.mono ?_; rintro e w2 ⟨rfl, hw⟩; obtain rfl := hw.symm; clear hw)
    | (go_at_call 77; refine (cw _ (Ext.refl _)).mono ?_; rintro e w3 ⟨rfl, hx3⟩; have HB4 : Hid _ := hx3.heap HB.out)
    | (refine wpl_store (by rfl) 48 _ _ rfl rfl 6 w.heap.size #[.int .i64 (theR oo).t, .int .u32 (theR oo).a, .int .i64 (theR oo).l, .int .i64 (theR oo).i, .int .u32 (theR oo).g, .int .i64 (theR oo).m] _ _ rfl rfl HB4.out rt_size rfl rfl (by simp [Value.oneCell']) ?_; intro w5 hx5 k5))
  exact bodyPost_ret (results_two Tryz.results54 _ rfl k5 Tryz.underlying48 rfl rt_size) rfl ⟨rfl, ExtX.ext (hA.trans hx3) hx5 (Nat.le_refl _)⟩

/-- The way to an address, in a table. -/
def wayO (L : List Rt) (U : List Bool) (t a : Int) : Option Rt := lookO (actL L t U) a

theorem way_table {L : List Rt} (h : Rb.Good L) {t : Int} {U : List Bool} (a : Int) (ht : t < 0 ∨ 4 ≤ t) : wayO L U t a = none := by
  unfold wayO
  rw [act_table h ht]
  unfold lookO rowOf rowF covL
  split <;> first | rfl | (rename_i x hx; revert hx; split <;> simp [lastF])

theorem byDir_any (fb : Nat) (t a : Int) (L : List Rt) (U : List Bool) (F : List Nat) (w : World) (h : FibAt w fb L U F) (a0 : 0 ≤ a) (a1 : a ≤ 4294967295) : Calls Tryz.prog 54 #[.pointer (some ⟨fb, 0, none⟩), .int .i64 t, .int .u32 a] w (BestAns w (wayO L U t a)) := by
  by_cases ht : t < 0 ∨ 4 ≤ t
  · rw [way_table h.good a ht]
    exact byDir_no fb t a w ht
  · obtain ⟨i, rfl⟩ : ∃ i : Nat, t = (i : Int) := ⟨t.toNat, by omega⟩
    exact byDir_at fb i a L U F w h (by omega) a0 a1

theorem look_any (fb : Nat) (t a : Int) (L : List Rt) (U : List Bool) (F : List Nat) (w : World) (h : FibAt w fb L U F) (a0 : 0 ≤ a) (a1 : a ≤ 4294967295) : Calls Tryz.prog 26 #[.pointer (some ⟨fb, 0, none⟩), .int .i64 t, .int .u32 a] w (BestAns w (wayO L U t a)) := by
  have hA : Ext w (w.alloc (.cells #[.int .i64 0, .int .u32 0, .int .i64 0, .int .i64 0, .int .u32 0, .int .i64 0] 48)) := (Ext.refl w).alloc _
  have HB : Hid _ := heap_new w (.cells #[.int .i64 0, .int .u32 0, .int .i64 0, .int .i64 0, .int .u32 0, .int .i64 0] 48)
  have c0 := byDir_any fb t a L U F _ (h.ext hA) a0 a1
  clear h
  generalize wayO L U t a = oo at *
  go_enter Tryz.func26, Tryz.ntmps26
  go_wp2_with (first
    | (go_at_call 54; refine c0.mono ?_; rintro e w3 ⟨rfl, hx3⟩; have HB4 : Hid _ := hx3.heap HB.out)
    | (refine wpl_store (by rfl) 48 _ _ rfl rfl 6 w.heap.size #[.int .i64 (theR oo).t, .int .u32 (theR oo).a, .int .i64 (theR oo).l, .int .i64 (theR oo).i, .int .u32 (theR oo).g, .int .i64 (theR oo).m] _ _ rfl rfl HB4.out rt_size rfl rfl (by simp [Value.oneCell']) ?_; intro w5 hx5 k5))
  exact bodyPost_ret (results_two Tryz.results26 _ rfl k5 Tryz.underlying48 rfl rt_size) rfl ⟨rfl, ExtX.ext (hA.trans hx3) hx5 (Nat.le_refl _)⟩

theorem fall_any (fb : Nat) (L : List Rt) (U : List Bool) (F : List Nat) (w : World) (h : FibAt w fb L U F) : Calls Tryz.prog 56 #[.pointer (some ⟨fb, 0, none⟩)] w (RowNew w L) := by
  obtain ⟨rb, q, d, C, Fr, E, h⟩ := h
  have c1 := all_any rb L Fr w h.rib (by have := h.good.len; omega)
  have h0 : w.cell? ⟨fb, 0, none⟩ = some (.pointer (some ⟨rb, 0, none⟩)) := by rw [heap_cell h.obj, h.c0]
  clear h
  go_enter Tryz.func56, Tryz.ntmps56
  go_wp2_with (go_at_call 65; refine c1.mono ?_; rintro e w1 ⟨v', rfl, ho, hx⟩)
  go_ret
  exact ⟨v', rfl, ho, hx⟩
end Go.Proofs.YtkfhkhgiojpfoaaGreat.Fb

namespace Go.Proofs.YtkfhkhgiojpfoaaGreat.Fb

set_option maxRecDepth 100000

open Go.RowKit Go.Proofs.YtkfhkhgiojpfoaaGreat Go.Proofs.YtkfhkhgiojpfoaaGreat.Rb

open Go.Proofs.YtkfhkhgiojpfoaaGreat.Tri (PX Vp Row)

set_option linter.unusedVariables false

set_option linter.unusedSimpArgs false

/-! Plainly. -/

def hasB (U : List Bool) (i : Int) : Bool := decide (0 ≤ i) && decide (i < (U.length : Int))

def addF (L : List Rt) (U : List Bool) (r : Rt) : Int × List Rt :=
  if hasB U r.i = false then (1, L) else if addE L r = 0 then (if fullB (addS L r) U = true then (6, L) else (0, addS L r)) else (addE L r, L)

def setF (L : List Rt) (U : List Bool) (i : Int) (b : Bool) : Int × List Bool :=
  if hasB U i = false then (1, U) else if fullB L (U.set i.toNat b) = true then (6, U) else (0, U.set i.toNat b)

theorem ownA_sub {A B : List Rt} (h : ∀ x ∈ A, ∃ y ∈ B, pxR y = pxR x) : ownA A ≤ ownA B := by
  unfold ownA
  refine own_sub fun p hp => ?_
  obtain ⟨x, hx, rfl⟩ := List.mem_map.1 hp
  obtain ⟨y, hy, e⟩ := h x hx
  exact List.mem_map.2 ⟨y, hy, e⟩

/-- Fewer ways, fewer up: no more blocks. -/
theorem fullB_sub {L L' : List Rt} {U U' : List Bool} (hL : ∀ x ∈ L', x ∈ L) (hU : ∀ i, upB U' i = true → upB U i = true) (h : fullB L U = false) : fullB L' U' = false := by
  refine fullB_false fun k hk => Nat.le_trans (ownA_sub fun x hx => ?_) (fullB_le h hk)
  obtain ⟨h1, h2, h3, h4⟩ := act_is hx
  have hs : selB (k : Int) x.a x.l x = true := (selB_iff _ _ _ _).2 ⟨h3, rfl, rfl⟩
  obtain ⟨b, hb, -⟩ := bestL_best (U := U) (R := L.filter (selB (k : Int) x.a x.l)) (List.mem_filter.2 ⟨hL x h2, hs⟩) (hU _ h4)
  obtain ⟨s, hs1, hs2⟩ := act_gone (L := L) (t := (k : Int)) (U := U) (r := x) (by unfold bestO; rw [hb]; rfl)
  exact ⟨s, hs1, hs2⟩

/-! In memory. -/

theorem OwnB.put {w : World} {g c i : Nat} {U : List Bool} {B : Nat} (h : OwnB w B (.slice (some ⟨g, 0, none⟩) U.length c) U) (b : Bool) : OwnB (w.setCell ⟨g, i, none⟩ (.bool b)) B (.slice (some ⟨g, 0, none⟩) U.length c) (U.set i b) := by
  have := (World.ownsRow.stored h i (.bool b)).1
  unfold OwnB
  rw [List.length_set, List.map_set]
  exact this

/-- The row's block. -/
theorem OwnB.block {w : World} {B : Nat} {v : Value} {U : List Bool} (h : OwnB w B v U) (h0 : 0 < U.length) :
    ∃ g c cur, v = .slice (some ⟨g, 0, none⟩) U.length c ∧ B ≤ g ∧ w.heap[g]? = some (.cells cur 4 (0, 0)) ∧ ∀ (i : Nat) (u : Bool), U[i]? = some u → cur[i]? = some (.bool u) := by
  obtain ⟨hl, h⟩ := h
  rcases h with ⟨_, h⟩ | ⟨g, cap, cur, rfl, hb, hg, h1, h2, h3, h4⟩
  · omega
  · refine ⟨g, cap, cur, rfl, hb, hg, fun i u hi => ?_⟩
    have hil := (List.getElem?_eq_some_iff.1 hi).1
    have h5 : (U.map Value.bool)[i]? = some (.bool u) := by rw [List.getElem?_map, hi]; rfl
    rw [← h4, List.getElem?_take, if_pos (by omega)] at h5
    rw [← Array.getElem?_toList]
    exact h5

/-- What is up, as a row of the Fib's own. -/
theorem up_any (fb : Nat) (L : List Rt) (U : List Bool) (F : List Nat) (w : World) (h : FibAt w fb L U F) :
    Calls Tryz.prog 53 #[.pointer (some ⟨fb, 0, none⟩)] w (RowB w U) := by
  obtain ⟨rb, q, d, C, Fr, E, h⟩ := h
  have c1 := cloneB_any _ U w h.own (by have := h.eight; omega)
  have h1 : w.cell? ⟨fb, 1, none⟩ = some (.slice q U.length d) := by rw [heap_cell h.obj, h.c1]
  clear h
  go_enter Tryz.func53, Tryz.ntmps53
  go_wp2_with (go_at_call 74; refine c1.mono ?_; rintro e w1 ⟨v', rfl, ho, hx⟩)
  go_ret
  exact ⟨v', rfl, ho, hx⟩

/-- What change leaves, where what is new is new. -/
theorem ans_of {w w1 w' : World} {fb : Nat} {F X : List Nat} {L : List Rt} {U : List Bool} (hx : Ext w w1) (hX : ∀ x ∈ X, x ∈ F ∨ w.heap.size ≤ x) (h : ∃ F', FibAt w' fb L U F' ∧ ExtS F w1 w' ∧ ∀ x ∈ F', x ∈ F ∨ x ∈ X ∨ w1.heap.size ≤ x) : FibAns w fb F L U w' := by
  obtain ⟨F', h1, h2, h3⟩ := h
  refine ⟨F', h1, (hx.toS F).trans h2, fun x hh => ?_⟩
  rcases h3 x hh with h | h | h
  · exact .inl h
  · exact hX x h
  · exact .inr (Nat.le_trans hx.size h)

/-- What is new is apart from all that is written; so is what is up. -/
theorem FibIn.far {w : World} {fb rb : Nat} {q : Option Addr} {m d : Nat} {C : Array Value} {L : List Rt} {U : List Bool} {A : Nat → List Rt} {Fr : List Nat} {E : Nat → Eng} {F : List Nat} (h : FibIn w fb rb q m d C L U A Fr E F) {G : List Nat} (hG : ∀ x ∈ G, w.heap.size ≤ x) : ∀ x, x ∈ G ∨ x ∈ ubk q → (∀ j, j < 4 → x ∉ (E j).F) ∧ x ≠ fb := fun x hx => by
  rcases hx with hx | hx
  · have := hG x hx
    exact ⟨fun j hj hm => by have := h.lt x (h.eF j hj x hm); omega, fun e => by have := h.lt fb h.fF; omega⟩
  · exact ⟨fun j hj => h.uE j hj x hx, fun e => h.fu (e ▸ hx)⟩

/-- The ways that are there are apart, too. -/
theorem FibIn.far2 {w : World} {fb rb : Nat} {q : Option Addr} {m d : Nat} {C : Array Value} {L : List Rt} {U : List Bool} {A : Nat → List Rt} {Fr : List Nat} {E : Nat → Eng} {F : List Nat} (h : FibIn w fb rb q m d C L U A Fr E F) {G : List Nat} (hG : ∀ x ∈ G, w.heap.size ≤ x) : ∀ x, x ∈ Fr ∨ x ∈ G → (∀ j, j < 4 → x ∉ (E j).F) ∧ x ≠ fb := fun x hx => by
  rcases hx with hx | hx
  · exact ⟨fun j hj => h.rE j hj x hx, fun e => h.fr (e ▸ hx)⟩
  · have := hG x hx
    exact ⟨fun j hj hm => by have := h.lt x (h.eF j hj x hm); omega, fun e => by have := h.lt fb h.fF; omega⟩

set_option maxHeartbeats 1000000 in
theorem add_any (fb : Nat) (L : List Rt) (U : List Bool) (F : List Nat) (r : Rt) (w : World) (h : FibAt w fb L U F) (hr : RtOk r) :
    Calls Tryz.prog 22 #[.pointer (some ⟨fb, 0, none⟩), (.agg #[.int .i64 r.t, .int .u32 r.a, .int .i64 r.l, .int .i64 r.i, .int .u32 r.g, .int .i64 r.m])] w fun e w' => e = .returned (.int .i64 (addF L U r).1) ∧ FibAns w fb F (addF L U r).2 U w' := by
  have HFA : Hid (FibAt w fb L U F) := h
  obtain ⟨rb, q, d, C, Fr, E, hI⟩ := h
  have hA : Ext w (w.alloc (.cells #[.int .i64 r.t, .int .u32 r.a, .int .i64 r.l, .int .i64 r.i, .int .u32 r.g, .int .i64 r.m] 48)) := (Ext.refl w).alloc _
  have HQ : Hid _ := box_rtE (heap_new w (.cells #[.int .i64 r.t, .int .u32 r.a, .int .i64 r.l, .int .i64 r.i, .int .u32 r.g, .int .i64 r.m] 48))
  have HI : Hid (FibIn (w.alloc (.cells #[.int .i64 r.t, .int .u32 r.a, .int .i64 r.l, .int .i64 r.i, .int .u32 r.g, .int .i64 r.m] 48)) fb rb q U.length d C L U (fun i => actL L (i : Int) U) Fr E F) := hI.ext hA
  have HLT : Hid (∀ x ∈ F, x < w.heap.size) := hI.lt
  clear hI
  obtain ⟨b0, b1, b2, b3, b4, b5⟩ := HQ.out
  have y0 := b0 _ (Ext.refl _)
  have y1 := b1 _ (Ext.refl _)
  have y2 := b2 _ (Ext.refl _)
  have y3 := b3 _ (Ext.refl _)
  have y4 := b4 _ (Ext.refl _)
  have y5 := b5 _ (Ext.refl _)
  have e0 : (w.alloc (.cells #[.int .i64 r.t, .int .u32 r.a, .int .i64 r.l, .int .i64 r.i, .int .u32 r.g, .int .i64 r.m] 48)).cell? ⟨fb, 0, none⟩ = some (.pointer (some ⟨rb, 0, none⟩)) := by rw [heap_cell HI.out.obj, HI.out.c0]
  have e1 : (w.alloc (.cells #[.int .i64 r.t, .int .u32 r.a, .int .i64 r.l, .int .i64 r.i, .int .u32 r.g, .int .i64 r.m] 48)).cell? ⟨fb, 1, none⟩ = some (.slice q U.length d) := by rw [heap_cell HI.out.obj, HI.out.c1]
  have ch := has_any fb r.i q U.length d (w.alloc (.cells #[.int .i64 r.t, .int .u32 r.a, .int .i64 r.l, .int .i64 r.i, .int .u32 r.g, .int .i64 r.m] 48)) e1
  have hh : hasB U r.i = (decide (0 ≤ r.i) && decide (r.i < (U.length : Int))) := rfl
  rw [← hh] at ch
  clear hh
  cases hb : hasB U r.i with
  | false =>
    have ha : addF L U r = (1, L) := by unfold addF; rw [if_pos hb]
    rw [hb] at ch
    rw [ha]
    clear ha hb
    go_enter Tryz.func22, Tryz.ntmps22
    go_wp2_with (go_at_call 47; refine ch.mono ?_; rintro e w1 ⟨rfl, hw⟩; obtain rfl := hw.symm; clear hw)
    go_ret
    exact ⟨rfl, FibAns.same HFA.out hA⟩
  | true =>
    rw [hb] at ch
    have cc := copy_any rb L Fr (w.alloc (.cells #[.int .i64 r.t, .int .u32 r.a, .int .i64 r.l, .int .i64 r.i, .int .u32 r.g, .int .i64 r.m] 48)) HI.out.rib (by have := HI.out.good.len; omega)
    have hgl := HI.out.good
    have HG : Hid (Rb.Good L) := hgl
    have HRK : Hid (RtOk r) := hr
    clear hgl hr
    have stepA : ∀ w3 db G, RibAt 98 w3 db L G → Calls Tryz.prog 49 #[.pointer (some ⟨db, 0, none⟩), (.agg #[.int .i64 r.t, .int .u32 r.a, .int .i64 r.l, .int .i64 r.i, .int .u32 r.g, .int .i64 r.m])] w3 fun e w' => e = .returned (.int .i64 (addE L r)) ∧ RibAns 98 w3 db G (addS L r) w' := fun w3 db G hG => Rb.add_any db L G r w3 hG HG.out HRK.out
    have facts : ∀ w3 w4 db G, Ext (w.alloc (.cells #[.int .i64 r.t, .int .u32 r.a, .int .i64 r.l, .int .i64 r.i, .int .u32 r.g, .int .i64 r.m] 48)) w3 → (∀ x ∈ G, (w.alloc (.cells #[.int .i64 r.t, .int .u32 r.a, .int .i64 r.l, .int .i64 r.i, .int .u32 r.g, .int .i64 r.m] 48)).heap.size ≤ x) → RibAns 98 w3 db G (addS L r) w4 → ∃ G', RibAt 98 w4 db (addS L r) G' ∧ Ext (w.alloc (.cells #[.int .i64 r.t, .int .u32 r.a, .int .i64 r.l, .int .i64 r.i, .int .u32 r.g, .int .i64 r.m] 48)) w4 ∧ ∀ x ∈ G', (w.alloc (.cells #[.int .i64 r.t, .int .u32 r.a, .int .i64 r.l, .int .i64 r.i, .int .u32 r.g, .int .i64 r.m] 48)).heap.size ≤ x := fun w3 w4 db G hx3 hG ⟨G', k1, k2, k3⟩ =>
      ⟨G', k1, ExtS.ext ((hx3.toS G).trans k2) hG, fun x hx => (k3 x hx).elim (hG x) fun h => Nat.le_trans hx3.size h⟩
    by_cases he : addE L r = 0
    · have hs : addE L r = 0 := he
      rw [he] at stepA
      have HE : Hid (addE L r = 0) := he
      clear he hs
      go_enter Tryz.func22, Tryz.ntmps22
      go_wp2_with (first
        | (go_at_call 47; refine ch.mono ?_; rintro e w1 ⟨rfl, hw⟩; obtain rfl := hw.symm; clear hw)
        | (go_at_call 48; refine cc.mono ?_; rintro e w3 ⟨db, G, rfl, HC, hx3, hG⟩; have cA := stepA w3 db G HC; have HG3 : Hid (Ext _ w3 ∧ ∀ x ∈ G, _ ≤ x) := ⟨hx3, hG⟩; have z0 := b0 _ hx3; have z1 := b1 _ hx3; have z2 := b2 _ hx3; have z3 := b3 _ hx3; have z4 := b4 _ hx3; have z5 := b5 _ hx3; clear HC hx3 hG)
        | (go_at_call 49; refine cA.mono ?_; rintro e w4 ⟨rfl, hA4⟩; obtain ⟨G', k1, k2, k3⟩ := facts w3 w4 db G HG3.out.1 HG3.out.2 hA4; have HK : Hid (RibAt 98 w4 db (addS L r) G' ∧ Ext _ w4 ∧ ∀ x ∈ G', _ ≤ x) := ⟨k1, k2, k3⟩; have e2 : w4.cell? ⟨fb, 1, none⟩ = some (.slice q U.length d) := (by rw [heap_cell (k2.heap HI.out.obj), HI.out.c1]); clear hA4 k1 k2 k3))
      clear z0 z1 z2 z3 z4 z5
      go_at_call 50
      refine (change_any fb rb db q q U.length d U.length d C L (addS L r) U U (fun i => actL L (i : Int) U) Fr G' E F w4 (HI.out.ext HK.out.2.1) HK.out.1 (HG.out.add HRK.out) (HI.out.ups.ext HK.out.2.1) (HI.out.own.ext HK.out.2.1) HI.out.eight (fun x hx => Nat.lt_of_lt_of_le (HI.out.lt x (HI.out.uF x hx)) HK.out.2.1.size) (HI.out.far HK.out.2.2)).mono ?_
      rintro e w5 (⟨hf, rfl, hx5⟩ | ⟨hf, rfl, hF5⟩)
      · have HF : Hid _ := hf
        clear hf
        go_wp2_with fail
        go_ret
        have ha : addF L U r = (6, L) := by unfold addF; rw [if_neg (by rw [hb]; simp), if_pos HE.out, if_pos HF.out]
        rw [ha]
        exact ⟨rfl, FibAns.same HFA.out (hA.trans (HK.out.2.1.trans hx5))⟩
      · have HF : Hid _ := hf
        have HF5 : Hid _ := hF5
        clear hf hF5
        go_wp2_with fail
        go_ret
        have ha : addF L U r = (0, addS L r) := by unfold addF; rw [if_neg (by rw [hb]; simp), if_pos HE.out, if_neg (by rw [HF.out]; simp)]
        rw [ha]
        refine ⟨rfl, ans_of (hA.trans HK.out.2.1) (fun x hx => ?_) HF5.out⟩
        rcases List.mem_append.1 hx with hx | hx
        · exact .inr (Nat.le_trans hA.size (HK.out.2.2 x hx))
        · exact .inl (HI.out.uF x hx)
    · have ha : addF L U r = (addE L r, L) := by unfold addF; rw [if_neg (by rw [hb]; simp), if_neg he]
      rw [ha]
      have hne : ¬ (addE L r = 0) := he
      clear ha
      generalize addE L r = er at *
      go_enter Tryz.func22, Tryz.ntmps22
      go_wp2_with (first
        | (go_at_call 47; refine ch.mono ?_; rintro e w1 ⟨rfl, hw⟩; obtain rfl := hw.symm; clear hw)
        | (go_at_call 48; refine cc.mono ?_; rintro e w3 ⟨db, G, rfl, HC, hx3, hG⟩; have cA := stepA w3 db G HC; have HG3 : Hid (Ext _ w3 ∧ ∀ x ∈ G, _ ≤ x) := ⟨hx3, hG⟩; have z0 := b0 _ hx3; have z1 := b1 _ hx3; have z2 := b2 _ hx3; have z3 := b3 _ hx3; have z4 := b4 _ hx3; have z5 := b5 _ hx3; clear HC hx3 hG)
        | (go_at_call 49; refine cA.mono ?_; rintro e w4 ⟨rfl, hA4⟩; obtain ⟨G', k1, k2, k3⟩ := facts w3 w4 db G HG3.out.1 HG3.out.2 hA4; have HK : Hid (Ext _ w4) := k2; clear hA4 k1 k2 k3))
      go_ret
      exact ⟨rfl, FibAns.same HFA.out (hA.trans HK.out)⟩

set_option maxHeartbeats 1000000 in
theorem setUp_any (fb : Nat) (L : List Rt) (U : List Bool) (F : List Nat) (i : Int) (b : Bool) (w : World) (h : FibAt w fb L U F) :
    Calls Tryz.prog 24 #[.pointer (some ⟨fb, 0, none⟩), .int .i64 i, .bool b] w fun e w' => e = .returned (.int .i64 (setF L U i b).1) ∧ FibAns w fb F L (setF L U i b).2 w' := by
  have HFA : Hid (FibAt w fb L U F) := h
  have cu := up_any fb L U F w h
  obtain ⟨rb, q, d, C, Fr, E, hI⟩ := h
  have HI : Hid (FibIn w fb rb q U.length d C L U (fun i => actL L (i : Int) U) Fr E F) := hI
  have e1 : w.cell? ⟨fb, 1, none⟩ = some (.slice q U.length d) := by rw [heap_cell hI.obj, hI.c1]
  have ch := has_any fb i q U.length d w e1
  have hh : hasB U i = (decide (0 ≤ i) && decide (i < (U.length : Int))) := rfl
  rw [← hh] at ch
  clear hh hI e1
  cases hb : hasB U i with
  | false =>
    have ha : setF L U i b = (1, U) := by unfold setF; rw [if_pos hb]
    rw [hb] at ch
    rw [ha]
    clear ha hb cu
    go_enter Tryz.func24, Tryz.ntmps24
    go_wp2_with (go_at_call 47; refine ch.mono ?_; rintro e w1 ⟨rfl, hw⟩; obtain rfl := hw.symm; clear hw)
    go_ret
    exact ⟨rfl, FibAns.same HFA.out (Ext.refl w)⟩
  | true =>
    rw [hb] at ch
    have hb' := hb
    unfold hasB at hb'
    simp only [Bool.and_eq_true, decide_eq_true_eq] at hb'
    obtain ⟨j, rfl⟩ : ∃ j : Nat, i = (j : Int) := ⟨i.toNat, by omega⟩
    have hj : j < U.length := by omega
    have hji : (j : Int) < (U.length : Int) := hb'.2
    obtain ⟨u, huj⟩ : ∃ u, U[j]? = some u := ⟨_, List.getElem?_eq_getElem hj⟩
    have HU : Hid (U[j]? = some u) := huj
    have HB : Hid (hasB U (j : Int) = true) := hb
    have HJ : Hid (j < U.length) := hj
    clear hb hb' huj hj
    go_enter Tryz.func24, Tryz.ntmps24
    go_wp2_with (first
      | (go_at_call 47; refine ch.mono ?_; rintro e w1 ⟨rfl, hw⟩; obtain rfl := hw.symm; clear hw)
      | (go_at_call 53; refine cu.mono ?_; rintro e w2 ⟨v2, rfl, hO2, hx2⟩; obtain ⟨g, c, cur, rfl, hgB, hg, hcu⟩ := hO2.block (by have := HJ.out; omega); have s0 : w2.cell? ⟨g, j, none⟩ = some (.bool u) := (by rw [heap_cell hg]; exact hcu j u HU.out); have f0 : w2.frozen? ⟨g, j, none⟩ = false := heap_frozen hg; have HO2 : Hid (OwnB w2 w.heap.size (.slice (some ⟨g, 0, none⟩) U.length c) U) := hO2; have HX2 : Hid (Ext w w2 ∧ w.heap.size ≤ g ∧ w2.heap[g]? = some (.cells cur 4 (0, 0))) := ⟨hx2, hgB, hg⟩; have hx3 : Ext w (w2.setCell ⟨g, j, none⟩ (.bool b)) := ExtS.ext ((hx2.toS [g]).trans (ExtS.setCell (ExtS.refl [g] w2) (p := ⟨g, j, none⟩) (.inl (by simp)) _)) (fun x hx => (by rw [List.mem_singleton.1 hx]; exact hgB)); have HX3 : Hid _ := hx3; have z0 : (w2.setCell ⟨g, j, none⟩ (.bool b)).cell? ⟨fb, 0, none⟩ = some (.pointer (some ⟨rb, 0, none⟩)) := (by rw [heap_cell (hx3.heap HI.out.obj), HI.out.c0]); clear hO2 hx2 hg hgB hcu hx3))
    clear s0 f0 z0 cu ch
    have hO3 := HO2.out.put b (i := j)
    have hl3 : (U.set j b).length = U.length := List.length_set ..
    have hO3' : OwnB (w2.setCell ⟨g, j, none⟩ (.bool b)) 0 (.slice (some ⟨g, 0, none⟩) U.length c) (U.set j b) := hO3.base (Nat.zero_le _)
    have HO3 : Hid _ := hO3'
    have hU3 : Ups (w2.setCell ⟨g, j, none⟩ (.bool b)) (some ⟨g, 0, none⟩) U.length (U.set j b) := hO3'.ups (by rw [hl3]; have := HI.out.eight; omega)
    have HU3 : Hid _ := hU3
    clear hO3 hO3' hU3
    go_at_call 50
    refine (change_any fb rb rb q (some ⟨g, 0, none⟩) U.length d U.length c C L L U (U.set j b) (fun i => actL L (i : Int) U) Fr Fr E F (w2.setCell ⟨g, j, none⟩ (.bool b)) (HI.out.ext HX3.out) (HI.out.rib.ext HX3.out) HI.out.good HU3.out HO3.out (by rw [hl3]; exact HI.out.eight) (fun x hx => by simp only [ubk, List.mem_singleton] at hx; subst hx; exact Nat.lt_of_lt_of_le (heap_lt HX2.out.2.2) (by simp [World.setCell])) (HI.out.far2 (G := ubk (some ⟨g, 0, none⟩)) fun x hx => by simp only [ubk, List.mem_singleton] at hx; subst hx; exact HX2.out.2.1)).mono ?_
    rintro e w5 (⟨hf, rfl, hx5⟩ | ⟨hf, rfl, hF5⟩)
    · have HF : Hid _ := hf
      clear hf
      go_wp2_with fail
      go_ret
      have ha : setF L U (j : Int) b = (6, U) := by unfold setF; rw [if_neg (by rw [HB.out]; simp), if_pos (by rw [Int.toNat_natCast]; exact HF.out)]
      rw [ha]
      exact ⟨rfl, FibAns.same HFA.out (Ext.trans HX3.out hx5)⟩
    · have HF : Hid _ := hf
      have HF5 : Hid _ := hF5
      clear hf hF5
      go_wp2_with fail
      go_ret
      have ha : setF L U (j : Int) b = (0, U.set j b) := by unfold setF; rw [if_neg (by rw [HB.out]; simp), if_neg (by rw [Int.toNat_natCast, HF.out]; simp), Int.toNat_natCast]
      rw [ha]
      refine ⟨rfl, ans_of HX3.out (fun x hx => ?_) HF5.out⟩
      rcases List.mem_append.1 hx with hx | hx
      · exact .inl (HI.out.rF x hx)
      · simp only [ubk, List.mem_singleton] at hx
        subst hx
        exact .inr HX2.out.2.1
end Go.Proofs.YtkfhkhgiojpfoaaGreat.Fb

namespace Go.Proofs

open Go.Shelf

def Tryz.lays212_ren : Go.Shelf.Ren := ⟨fun | 212 => 64 | 263 => 83 | 264 => 84 | n => n, fun | 46 => 45 | 51 => 23 | 146 => 137 | 53 => 134 | 148 => 139 | n => n, fun | n => n⟩
theorem Tryz.lays212 : Go.Proofs.Lays.n212 Tryz.prog Tryz.lays212_ren := {
  mixed := by kernel_rfl
  f212 := Tryz.func64.trans (congrArg some (by kernel_rfl))
  f263 := Tryz.func83.trans (congrArg some (by kernel_rfl))
  f264 := Tryz.func84.trans (congrArg some (by kernel_rfl))
  t46 := Tryz.underlying45
  a46 := Tryz.isAgg45
  z46 := Tryz.sizeOf45
  v46 := Tryz.zeroValue45
  t51 := Tryz.underlying23
  a51 := Tryz.isAgg23
  z51 := Tryz.sizeOf23
  v51 := Tryz.zeroValue23
  t53 := Tryz.underlying134
  a53 := Tryz.isAgg134
  z53 := Tryz.sizeOf134
  v53 := Tryz.zeroValue134
  t146 := Tryz.underlying137
  a146 := Tryz.isAgg137
  z146 := Tryz.sizeOf137
  v146 := Tryz.zeroValue137
  t148 := Tryz.underlying139
  a148 := Tryz.isAgg139
  z148 := Tryz.sizeOf139
  v148 := Tryz.zeroValue139 }

open Go.RowKit Go.Lib in

theorem Tryz.bits_Mul (x y : Nat) (hx : x < 18446744073709551616) (hy : y < 18446744073709551616) (w : World) :
    Calls Tryz.prog 64 #[.int .u64 x, .int .u64 y] w fun e w' => e = .returned (.tuple #[.int .u64 ((x * y / 18446744073709551616 : Nat) : Int), .int .u64 ((x * y % 18446744073709551616 : Nat) : Int)]) ∧ w' = w := Any.bits_Mul Tryz.lays212 x y hx hy w
end Go.Proofs

namespace Go.Proofs.YtkfhkhgiojpfoaaGreat.Fb

set_option maxRecDepth 100000

open Go.RowKit Go.Proofs.YtkfhkhgiojpfoaaGreat Go.Proofs.YtkfhkhgiojpfoaaGreat.Rb

set_option linter.unusedVariables false

set_option linter.unusedSimpArgs false

section

variable {w : World} {o : Oper} {a : Act} {K : Act → World → Prop} {Q : Exit → Act → World → Prop}

theorem wp_copyB (d x : Operand) (ho : o.op = .call { callee := .builtin .copy, args := #[d, x], argTypes := #[52, 52] }) (v u : Value) (hd : a.eval d = v) (hx : a.eval x = u) {v' : Value} {w' : World}
    (hr : (Builtin.copy_ #[52, 52] o.type #[v, u]).run Tryz.prog w = .ok v' w') (h : K (a.put o.dst v') w') : o.wp Tryz.prog a w K Q := by
  unfold Oper.wp execOp
  simp only [ho, resolve, invoke, builtin, Sem.run_bind, Sem.run_pure, Result.andThen_ok, List.map_toArray, List.map_cons, List.map_nil, hd, hx, hr]
  exact h

end

/-- j trues, then falses, n in all. -/
def tb (j n : Nat) : List Value := List.replicate j (Value.bool true) ++ List.replicate (n - j) (Value.bool false)

theorem tb_len {j n : Nat} (h : j ≤ n) : (tb j n).length = n := by simp [tb]; omega

theorem tb_get {j n i : Nat} (h : i < j) : (tb j n)[i]? = some (.bool true) := by
  unfold tb
  rw [List.getElem?_append_left (by simpa using h), List.getElem?_replicate, if_pos h]

theorem tb_copy {j n m : Nat} (h : j + m ≤ n) : (tb j n).take j ++ List.replicate m (Value.bool true) ++ (tb j n).drop (j + m) = tb (j + m) n := by
  have h1 : (tb j n).take j = List.replicate j (Value.bool true) := by unfold tb; rw [List.take_left' (by simp)]
  have h2 : (tb j n).drop (j + m) = List.replicate (n - (j + m)) (Value.bool false) := by
    unfold tb
    rw [List.drop_append, List.drop_replicate, List.drop_replicate, List.length_replicate, show j - (j + m) = 0 by omega, show n - j - (j + m - j) = n - (j + m) by omega]
    rfl
  rw [h1, h2, List.replicate_append_replicate]
  rfl

theorem tb_own {w : World} {g n B : Nat} (hg : w.heap[g]? = some (.cells (tb n n).toArray 4 (0, 0))) (hB : B ≤ g) (hn : n ≤ 1000) : OwnB w B (.slice (some ⟨g, 0, none⟩) n n) (List.replicate n true) := by
  have e : tb n n = (List.replicate n true).map Value.bool := by unfold tb; simp
  rw [e] at hg
  refine ⟨by simp, .inr ⟨g, n, _, by simp, hB, hg, by simp, by unfold maxLen; omega, by simp, by simp⟩⟩

theorem ext_map' {w wq w2 : World} {mb : Nat} (hx : Ext w wq) (hn : w.heap.size ≤ mb) (h : ExtS [mb] wq w2) : Ext w w2 :=
  ExtS.ext ((hx.toS [mb]).trans h) fun b hb => by rw [List.mem_singleton.1 hb]; exact hn

theorem copyB_run {W : World} {g o dn : Nat} {cur : List Value} {t : TypeId} {a : Addr} {sl sc dc m : Nat} (ty : TypeId) (hg : W.heap[g]? = some (.cells cur.toArray t (0, 0))) (hm : m = Nat.min sl dn) (hsrc : ∀ i, i < m → W.cell? (a.add i) = some (.bool true)) (hfit : o + m ≤ cur.length) :
    (Builtin.copy_ #[52, 52] ty #[.slice (some ⟨g, o, none⟩) dn dc, .slice (some a) sl sc]).run Tryz.prog W = .ok (.int .i64 (m : Int)) (W.setRow g (cur.take o ++ List.replicate m (Value.bool true) ++ cur.drop (o + m)).toArray) := by
  have := run_copy_row (P := Tryz.prog) W 52 52 ty 4 g o dn dc a sl sc cur.toArray t (List.replicate m (Value.bool true)) Tryz.underlying52 (by kernel_rfl) hg (by rw [List.length_replicate]; exact hm)
    (fun i v hi => by
      rw [List.getElem?_replicate] at hi
      split at hi
      · cases hi; exact hsrc i ‹_›
      · cases hi) (by simpa using hfit) (fun v hv => by rw [(List.mem_replicate.1 hv).2]; rfl)
  simpa [goInt] using this

set_option maxHeartbeats 4000000 in
theorem repeat_any (g n : Nat) (w : World) (hg : w.heap[g]? = some (.cells #[.bool true] 4 (0, 0))) (hn : n ≤ 8) :
    Calls Tryz.prog 44 #[.slice (some ⟨g, 0, none⟩) 1 1, .int .i64 (n : Int)] w (RowB w (List.replicate n true)) := by
  have cm : ∀ W, Calls Tryz.prog 64 #[.int .u64 1, .int .u64 (n : Int)] W fun e w' => e = .returned (.tuple #[.int .u64 0, .int .u64 (n : Int)]) ∧ w' = W := fun W => by
    have h := Tryz.bits_Mul 1 n (by omega) (by omega) W
    rw [Nat.one_mul, show n / 18446744073709551616 = 0 by omega, show n % 18446744073709551616 = n by omega] at h
    exact h
  have w1 : IntKind.u64.wrap (n : Int) = (n : Int) := by rw [IntKind.wrap_u64]; omega
  have w2 : IntKind.i64.wrap (n : Int) = (n : Int) := by rw [IntKind.wrap_i64]; omega
  have n0 : ¬ ((n : Int) < 0) := by omega
  have n1 : (n : Int) ≤ 9223372036854775807 := by omega
  have HG : Hid (w.heap[g]? = some (.cells #[.bool true] 4 (0, 0))) := hg
  have hmk : ∀ W : World, (Instr.makeSlice 52 (.int .i64 (n : Int)) (.int .i64 (n : Int))).run Tryz.prog W = .ok (.slice (some ⟨W.heap.size, 0, none⟩) n n) (W.alloc (.cells (tb 0 n).toArray 4)) := fun W => by
    obtain ⟨i, hi, hz, hsz, hby⟩ := info_bool
    have hr := run_make (P := Tryz.prog) W 52 4 i (.bool false) Tryz.underlying52 hi hz .i64 .i64 n n (by omega) (by omega) (by rw [hby]; omega) (by omega)
    rw [hr]
    have e1 : (madeCells (Value.bool false).cells ((n : Int).toNat * i.size)) = (tb 0 n).toArray := by
      rw [hsz]
      simp [tb, madeCells, Value.cells]
      apply Array.ext
      · simp
      · intro i h1 h2
        simp [Nat.mod_one]
    rw [e1]
    simp
  have hA : Ext w (w.alloc (.cells (tb 0 n).toArray 4)) := (Ext.refl w).alloc _
  have HB : Hid ((w.alloc (.cells (tb 0 n).toArray 4)).heap[w.heap.size]? = some (.cells (tb 0 n).toArray 4 (0, 0))) := heap_new w _
  obtain ⟨m0, hm0⟩ : ∃ m0 : Nat, m0 = min 1 n := ⟨_, rfl⟩
  have hc1 : ∀ ty, (Builtin.copy_ #[52, 52] ty #[.slice (some ⟨w.heap.size, 0, none⟩) n n, .slice (some ⟨g, 0, none⟩) 1 1]).run Tryz.prog (w.alloc (.cells (tb 0 n).toArray 4)) = .ok (.int .i64 (m0 : Int)) ((w.alloc (.cells (tb 0 n).toArray 4)).setRow w.heap.size (tb m0 n).toArray) := fun ty => by
    have hl0 := tb_len (j := 0) (n := n) (Nat.zero_le _)
    have hs0 : ∀ i, i < m0 → (w.alloc (.cells (tb 0 n).toArray 4)).cell? ((⟨g, 0, none⟩ : Addr).add i) = some (.bool true) := fun i hi => by
      obtain rfl : i = 0 := by omega
      show (w.alloc (.cells (tb 0 n).toArray 4)).cell? ⟨g, 0, none⟩ = _
      rw [heap_cell (hA.heap hg)]
      rfl
    have h := copyB_run (o := 0) (dn := n) (dc := n) (a := ⟨g, 0, none⟩) (sl := 1) (sc := 1) (m := m0) ty HB.out hm0 hs0 (by omega)
    have e := tb_copy (j := 0) (n := n) (m := m0) (by omega)
    rw [Nat.zero_add] at e
    rw [Nat.zero_add, e] at h
    exact h
  have HM : Hid (m0 = min 1 n) := hm0
  clear hg hm0
  go_enter Tryz.func44, Tryz.ntmps44
  go_wp2_with (go_at_call 64; refine (cm _).mono ?_; rintro e w3 ⟨rfl, hw⟩; obtain rfl := hw.symm; clear hw)
  clear hc1 hmk cm w1 w2
  obtain ⟨g2, hg2⟩ : ∃ g2 : Nat, w.heap.size = g2 := ⟨_, rfl⟩
  have HR0 : Hid (((w.alloc (.cells (tb 0 n).toArray 4)).setRow w.heap.size (tb m0 n).toArray).heap[w.heap.size]? = some (.cells (tb m0 n).toArray 4 (0, 0))) := setRow_heap _ _ _ _ _ _ HB.out
  have HX0 : Hid (Ext w ((w.alloc (.cells (tb 0 n).toArray 4)).setRow w.heap.size (tb m0 n).toArray)) := ExtS.ext ((hA.toS [w.heap.size]).trans (extS_row _ _ _)) (by simp)
  have HGB : Hid (w.heap.size ≤ g2) := Nat.le_of_eq hg2
  clear hA HB
  rw [hg2] at HR0 HX0
  simp only [hg2]
  clear hg2
  generalize ((w.alloc (.cells (tb 0 n).toArray 4)).setRow g2 (tb m0 n).toArray) = W0 at *
  go_loopg [8] n (fun kx s8 wr => ∃ j : Nat, s8 = .int .i64 j ∧ j ≤ n ∧ n - j ≤ kx ∧ Hid (Ext w wr ∧ wr.heap[g2]? = some (.cells (tb j n).toArray 4 (0, 0)) ∧ (n = 0 ∨ 0 < j)))
  case atStart => exact ⟨m0, rfl, by have := HM.out; omega, by omega, (⟨HX0.out, HR0.out, by have := HM.out; omega⟩ : Ext w W0 ∧ W0.heap[g2]? = some (.cells (tb m0 n).toArray 4 (0, 0)) ∧ (n = 0 ∨ 0 < m0))⟩
  case round =>
    obtain ⟨j, rfl, hjn, hjx, HW⟩ := hrel
    clear HX0 HR0
    by_cases hlt : j < n
    · have hji : (j : Int) < (n : Int) := by omega
      have hji2 : (j : Int) ≤ (n : Int) := by omega
      obtain ⟨m, hm⟩ : ∃ m : Nat, m = min j (n - j) := ⟨_, rfl⟩
      have hm1 : 0 < m ∧ j + m ≤ n := by have := HW.out.2.2; omega
      have wj : IntKind.i64.wrap ((j : Int) + (m : Int)) = ((j + m : Nat) : Int) := by rw [IntKind.wrap_i64]; omega
      have hs1 : ∀ W : World, (Instr.slice 52 (.slice (some ⟨g2, 0, none⟩) n n) (some (.int .i64 (j : Int))) none none).run Tryz.prog W = .ok (.slice (some ⟨g2, j, none⟩) (n - j) (n - j)) W := fun W => by
        have hne : ¬ (n = j) := by omega
        go_simp
      have hs2 : ∀ W : World, (Instr.slice 52 (.slice (some ⟨g2, 0, none⟩) n n) none (some (.int .i64 (j : Int))) none).run Tryz.prog W = .ok (.slice (some ⟨g2, 0, none⟩) j n) W := fun W => by
        go_simp
      have HM2 : Hid (m = Nat.min j (n - j)) := hm
      have HMJ : Hid (m ≤ j) := (by omega : m ≤ j)
      clear hm
      go_wp2_with fail
      refine wp_region_eagerN w.heap.size [(0, false), (1, false), (2, false), (3, false), (4, false), (5, false), (6, false), (7, true), (8, false), (9, false)] (by kernel_rfl) (by kernel_rfl) rfl (by kernel_rfl) (fun _ _ _ _ _ h => h) ?_
      have hxd : Ext w wr.drew := HW.out.1.drew
      have hgd : wr.drew.heap[g2]? = some (.cells (tb j n).toArray 4 (0, 0)) := HW.out.2.1
      have hcp : ∀ ty, (Builtin.copy_ #[52, 52] ty #[.slice (some ⟨g2, j, none⟩) (n - j) (n - j), .slice (some ⟨g2, 0, none⟩) j n]).run Tryz.prog wr.drew = .ok (.int .i64 (m : Int)) (wr.drew.setRow g2 (tb (j + m) n).toArray) := fun ty => by
        have hl0 := tb_len hjn
        have h := copyB_run (o := j) (dn := n - j) (dc := n - j) (a := ⟨g2, 0, none⟩) (sl := j) (sc := n) (m := m) ty hgd HM2.out (fun i hi => by
          show wr.drew.cell? ((⟨g2, 0, none⟩ : Addr).add i) = _
          rw [addr_add', Nat.zero_add, heap_cell hgd]
          rw [List.getElem?_toArray]
          exact tb_get (Nat.lt_of_lt_of_le hi HMJ.out)) (by omega)
        rw [tb_copy hm1.2] at h
        exact h
      have hR : wr.drew.heap[g2]? = some (.cells (tb j n).toArray 4 (0, 0)) := hgd
      have hR2 : Hid ((wr.drew.setRow g2 (tb (j + m) n).toArray).heap[g2]? = some (.cells (tb (j + m) n).toArray 4 (0, 0))) := setRow_heap _ _ _ _ _ _ hgd
      have hx2 : ExtS [g2] wr.drew (wr.drew.setRow g2 (tb (j + m) n).toArray) := extS_row _ _ _
      have HX2 : Hid (Ext w (wr.drew.setRow g2 (tb (j + m) n).toArray)) := ext_map' hxd HGB.out hx2
      have HN2 : Hid (ExtN w.heap.size wr.drew (wr.drew.setRow g2 (tb (j + m) n).toArray)) := ⟨hx2.os, hx2.tape, hx2.output, hx2.size, fun k hk hkn => hx2.block k hkn (by have := HGB.out; simp; omega)⟩
      clear hR hgd hx2 hxd
      generalize wr.drew = W at *
      iterate 7 (refine wpE_read (v := ?_) rfl (by rfl) ?_ ?_; rotate_left; (focus (intro w' hx; go_simp; first | done | with_reducible rfl)); simp only [Act.put, List.setIfInBounds_toArray, List.set_cons_zero, List.set_cons_succ])
      refine wpE_call rfl (by rfl) (fun K hK => ?_)
      refine wp_copyB _ _ rfl _ _ rfl rfl (hcp _) ?_
      refine hK _ _ HN2.out ?_
      clear hK K hcp
      simp only [Act.put, List.setIfInBounds_toArray, List.set_cons_zero, List.set_cons_succ]
      iterate 2 (refine wpE_read (v := ?_) rfl (by rfl) ?_ ?_; rotate_left; (focus (intro w' hx; go_simp; first | done | with_reducible rfl)); simp only [Act.put, List.setIfInBounds_toArray, List.set_cons_zero, List.set_cons_succ])
      refine wpE_done ?_
      go_wp2_with fail
      go_roundg (n - (j + m))
      case measure => omega
      case rel => exact ⟨j + m, by go_num, hm1.2, Nat.le_refl _, (⟨HX2.out, hR2.out, .inr (by omega)⟩ : Ext w (W.setRow g2 (tb (j + m) n).toArray) ∧ (W.setRow g2 (tb (j + m) n).toArray).heap[g2]? = some (.cells (tb (j + m) n).toArray 4 (0, 0)) ∧ (n = 0 ∨ 0 < j + m))⟩
    · obtain rfl : j = n := by omega
      go_wp2_with fail
      go_ret
      exact ⟨_, rfl, tb_own HW.out.2.1 HGB.out (by omega), HW.out.1⟩
end Go.Proofs.YtkfhkhgiojpfoaaGreat.Fb

namespace Go.Proofs.YtkfhkhgiojpfoaaGreat.Fb

set_option maxRecDepth 100000

open Go.RowKit Go.Proofs.YtkfhkhgiojpfoaaGreat Go.Proofs.YtkfhkhgiojpfoaaGreat.Rb

open Go.Proofs.YtkfhkhgiojpfoaaGreat.Tri (PX Vp Row TrieR tnew)

open Go.Proofs.YtkfhkhgiojpfoaaGreat.Dr (DirAt new_at)

set_option linter.unusedVariables false

set_option linter.unusedSimpArgs false

/-- So many interfaces. -/
def clampN (i : Int) : Nat := (min (max i 0) 8).toNat

theorem clamp_is (i : Int) : min (max i 0) 8 = ((clampN i : Nat) : Int) := by unfold clampN; omega

theorem clamp_le (i : Int) : clampN i ≤ 8 := by unfold clampN; omega

def engN (tb db : Nat) : Eng := ⟨.slice none 0 0, tb, db, [tb], [db]⟩

/-- Where New stands: the tables below k are made. -/
structure NewW (w wr : World) (fb rb : Nat) (q : Option Addr) (n c : Nat) (C : Array Value) (tb db : Nat → Nat) (k : Nat) : Prop where
  ext : Ext w wr
  obj : wr.heap[fb]? = some (.cells C 82 (0, 0))
  size : C.size = 14
  c0 : C[0]? = some (.pointer (some ⟨rb, 0, none⟩))
  c1 : C[1]? = some (.slice q n c)
  cv : ∀ i, i < 4 → C[2 + i * 3]? = some (.slice none 0 0)
  ct : ∀ i, i < k → C[2 + i * 3 + 1]? = some (.pointer (some ⟨tb i, 0, none⟩))
  cd : ∀ i, i < k → C[2 + i * 3 + 2]? = some (.pointer (some ⟨db i, 0, none⟩))
  tree : ∀ i, i < k → TrieR wr (tb i) [] [tb i]
  dir : ∀ i, i < k → DirAt wr (db i) 16 [] [db i]
  t1 : ∀ i, i < k → fb < tb i ∧ tb i < db i ∧ db i < wr.heap.size
  t2 : ∀ i j, i < j → j < k → db i < tb j
  rib : RibAt 98 wr rb [] [rb]
  own : OwnB wr w.heap.size (.slice q n c) (List.replicate n true)
  r1 : w.heap.size ≤ rb ∧ rb < fb
  q1 : ∀ x ∈ ubk q, x < fb

theorem NewW.fib {w wr : World} {fb rb : Nat} {q : Option Addr} {n c : Nat} {C : Array Value} {tb db : Nat → Nat} (h : NewW w wr fb rb q n c C tb db 4) (hn : n ≤ 8) : ∃ F, FibAt wr fb [] (List.replicate n true) F ∧ ∀ x ∈ F, w.heap.size ≤ x := by
  have hE : ∀ i, (engN (tb i) (db i)).F = [tb i, db i] := fun i => rfl
  have ha : ∀ (t : Int) (U : List Bool), actL [] t U = [] := fun t U => rfl
  have hr : rowOf [] = [] := rfl
  have h0 : w.heap.size ≤ fb := by have := h.r1; omega
  have hq : ∀ x ∈ ubk q, w.heap.size ≤ x := fun x hx => (h.own.lt x (by rw [blks_ubk]; exact hx)).1
  have hfl := heap_lt h.obj
  have hu := h.own.ups (by simp; omega)
  refine ⟨fb :: rb :: (ubk q ++ [tb 0, db 0, tb 1, db 1, tb 2, db 2, tb 3, db 3]), ⟨rb, q, c, C, [rb], fun i => engN (tb i) (db i), ?_⟩, fun x hx => ?_⟩
  · have hl : (List.replicate n true).length = n := by simp
    rw [hl]
    have hm : ∀ i, i < 4 → ∀ x ∈ (engN (tb i) (db i)).F, x = tb i ∨ x = db i := fun i hi x hx => by rw [hE] at hx; simpa using hx
    refine { obj := h.obj, size := h.size, c0 := h.c0, c1 := h.c1, cv := h.cv, ct := h.ct, cd := h.cd, rib := h.rib, ups := hu, own := h.own.base (Nat.zero_le _), good := Good.nil, eight := by simp; omega, eng := fun i hi => ?_, pf := fun i hi => ⟨List.Pairwise.nil, by rw [ha]; simp, by rw [ha]; simp⟩,
             fF := by simp, rF := by simp, uF := fun x hx => by simp [hx], eF := fun i hi x hx => ?_, vF := fun i hi x hx => (by cases hx), lt := fun x hx => ?_,
             fE := fun i hi hx => ?_, rE := fun i hi x hx hx' => ?_, uE := fun i hi x hx hx' => ?_, vE := fun i j hi hj x hx => (by cases hx), eE := fun i j hi hj hij x hx hx' => ?_, fr := fun hx => ?_, fu := fun hx => ?_, fv := fun i hi hx => (by cases hx) }
    · rw [ha]
      exact ⟨OwnR.nil _ _, by rw [hr]; exact h.tree i hi, by rw [hr]; exact h.dir i hi, fun x hx hx' => by have := h.t1 i hi; have e1 := List.mem_singleton.1 hx; have e2 := List.mem_singleton.1 hx'; omega, fun x hx => by cases hx⟩
    · have := hm i hi x hx
      rcases (by omega : i = 0 ∨ i = 1 ∨ i = 2 ∨ i = 3) with rfl | rfl | rfl | rfl <;> rcases this with rfl | rfl <;> simp
    · have t0 := h.t1 0 (by omega)
      have t1 := h.t1 1 (by omega)
      have t2 := h.t1 2 (by omega)
      have t3 := h.t1 3 (by omega)
      have := h.r1
      simp only [List.mem_cons, List.mem_append, List.not_mem_nil, or_false] at hx
      rcases hx with rfl | rfl | hx | hx
      · omega
      · omega
      · have := h.q1 x hx; omega
      · omega
    · have := h.t1 i hi
      have := hm i hi fb hx
      omega
    · have := h.t1 i hi
      have := hm i hi x hx'
      have := h.r1
      have := List.mem_singleton.1 hx
      omega
    · have := h.t1 i hi
      have := hm i hi x hx'
      have := h.q1 x hx
      omega
    · have a1 := h.t1 i hi
      have a2 := h.t1 j hj
      have b1 := hm i hi x hx
      have b2 := hm j hj x hx'
      rcases Nat.lt_or_ge i j with hlt | hge
      · have := h.t2 i j hlt hj; omega
      · have := h.t2 j i (by omega) hi; omega
    · have := List.mem_singleton.1 hx
      have := h.r1
      omega
    · have := h.q1 fb hx; omega
  · have t0 := h.t1 0 (by omega)
    have t1 := h.t1 1 (by omega)
    have t2 := h.t1 2 (by omega)
    have t3 := h.t1 3 (by omega)
    have := h.r1
    simp only [List.mem_cons, List.mem_append, List.not_mem_nil, or_false] at hx
    rcases hx with rfl | rfl | hx | hx
    · omega
    · omega
    · exact hq x hx
    · omega

theorem NewW.step {w wr w1 w2 : World} {fb rb : Nat} {q : Option Addr} {n c k : Nat} {C : Array Value} {tb db : Nat → Nat} (h : NewW w wr fb rb q n c C tb db k) (hk : k < 4) {t d : Nat} (hx1 : Ext wr w1) (ht : TrieR w1 t [] [t]) (ht1 : wr.heap.size ≤ t) (hx2 : Ext w1 w2) (hd : DirAt w2 d 16 [] [d]) (hd1 : w1.heap.size ≤ d) :
    NewW w (((w2.setCell ⟨fb, 2 + k * 3, none⟩ (.slice none 0 0)).setCell ⟨fb, 2 + k * 3 + 1, none⟩ (.pointer (some ⟨t, 0, none⟩))).setCell ⟨fb, 2 + k * 3 + 2, none⟩ (.pointer (some ⟨d, 0, none⟩))) fb rb q n c
      (((C.setIfInBounds (2 + k * 3) (.slice none 0 0)).setIfInBounds (2 + k * 3 + 1) (.pointer (some ⟨t, 0, none⟩))).setIfInBounds (2 + k * 3 + 2) (.pointer (some ⟨d, 0, none⟩))) (upd tb k t) (upd db k d) (k + 1) := by
  have hx12 := hx1.trans hx2
  have hS : ExtS [fb] w2 (((w2.setCell ⟨fb, 2 + k * 3, none⟩ (.slice none 0 0)).setCell ⟨fb, 2 + k * 3 + 1, none⟩ (.pointer (some ⟨t, 0, none⟩))).setCell ⟨fb, 2 + k * 3 + 2, none⟩ (.pointer (some ⟨d, 0, none⟩))) :=
    ((ExtS.setCell (ExtS.refl [fb] w2) (p := ⟨fb, 2 + k * 3, none⟩) (.inl (by simp)) _).setCell (p := ⟨fb, 2 + k * 3 + 1, none⟩) (.inl (by simp)) _).setCell (p := ⟨fb, 2 + k * 3 + 2, none⟩) (.inl (by simp)) _
  generalize hW : (((w2.setCell ⟨fb, 2 + k * 3, none⟩ (.slice none 0 0)).setCell ⟨fb, 2 + k * 3 + 1, none⟩ (.pointer (some ⟨t, 0, none⟩))).setCell ⟨fb, 2 + k * 3 + 2, none⟩ (.pointer (some ⟨d, 0, none⟩))) = W at *
  have hfl := heap_lt h.obj
  have htl := ht.lt t (by simp)
  have hdl := hd.lt d (by simp)
  have hs1 := hx1.size
  have hs2 := hx2.size
  have hsW := hS.size
  have h0 : w.heap.size ≤ fb := by have := h.r1; omega
  have cell : ∀ j, j ≠ 2 + k * 3 → j ≠ 2 + k * 3 + 1 → j ≠ 2 + k * 3 + 2 → (((C.setIfInBounds (2 + k * 3) (.slice none 0 0)).setIfInBounds (2 + k * 3 + 1) (.pointer (some ⟨t, 0, none⟩))).setIfInBounds (2 + k * 3 + 2) (.pointer (some ⟨d, 0, none⟩)))[j]? = C[j]? := fun j j0 j1 j2 => by
    rw [Array.getElem?_setIfInBounds, if_neg (fun e => j2 e.symm), Array.getElem?_setIfInBounds, if_neg (fun e => j1 e.symm), Array.getElem?_setIfInBounds, if_neg (fun e => j0 e.symm)]
  refine { ext := ExtS.ext (((h.ext.trans hx12).toS [fb]).trans hS) (fun b hb => by rw [List.mem_singleton.1 hb]; exact h0), obj := ?_, size := by simp [h.size], c0 := by rw [cell 0 (by omega) (by omega) (by omega)]; exact h.c0, c1 := by rw [cell 1 (by omega) (by omega) (by omega)]; exact h.c1,
           cv := fun i hi => ?_, ct := fun i hi => ?_, cd := fun i hi => ?_, tree := fun i hi => ?_, dir := fun i hi => ?_, t1 := fun i hi => ?_, t2 := fun i j hij hj => ?_, rib := (h.rib.ext hx12).later hS fun x hx e => ?_, own := (h.own.ext hx12).later hS fun x hx e => ?_, r1 := h.r1, q1 := h.q1 }
  · rw [← hW]
    exact heap_set (heap_set (heap_set (hx12.heap h.obj) _) _) _
  · by_cases e : i = k
    · subst e
      rw [Array.getElem?_setIfInBounds, if_neg (by omega), Array.getElem?_setIfInBounds, if_neg (by omega), Array.getElem?_setIfInBounds, if_pos rfl, if_pos (by rw [h.size]; omega)]
    · rw [cell _ (by omega) (by omega) (by omega)]; exact h.cv i hi
  · by_cases e : i = k
    · subst e
      rw [upd_same, Array.getElem?_setIfInBounds, if_neg (by omega), Array.getElem?_setIfInBounds, if_pos rfl, if_pos (by simp [h.size]; omega)]
    · rw [upd_other _ _ e, cell _ (by omega) (by omega) (by omega)]; exact h.ct i (by omega)
  · by_cases e : i = k
    · subst e
      rw [upd_same, Array.getElem?_setIfInBounds, if_pos rfl, if_pos (by simp [h.size]; omega)]
    · rw [upd_other _ _ e, cell _ (by omega) (by omega) (by omega)]; exact h.cd i (by omega)
  · by_cases e : i = k
    · subst e
      rw [upd_same]
      exact (ht.ext hx2).later hS fun x hx e => by have := List.mem_singleton.1 hx; have := List.mem_singleton.1 e; omega
    · rw [upd_other _ _ e]
      exact ((h.tree i (by omega)).ext hx12).later hS fun x hx e => by have := List.mem_singleton.1 hx; have := List.mem_singleton.1 e; have := h.t1 i (by omega); omega
  · by_cases e : i = k
    · subst e
      rw [upd_same]
      exact hd.later hS fun x hx e => by have := List.mem_singleton.1 hx; have := List.mem_singleton.1 e; omega
    · rw [upd_other _ _ e]
      exact ((h.dir i (by omega)).ext hx12).later hS fun x hx e => by have := List.mem_singleton.1 hx; have := List.mem_singleton.1 e; have := h.t1 i (by omega); omega
  · by_cases e : i = k
    · subst e
      rw [upd_same, upd_same]; omega
    · rw [upd_other _ _ e, upd_other _ _ e]
      have := h.t1 i (by omega); omega
  · by_cases e : j = k
    · subst e
      rw [upd_same, upd_other _ _ (by omega)]
      have := h.t1 i (by omega); omega
    · rw [upd_other _ _ e, upd_other _ _ (by omega)]
      exact h.t2 i j hij (by omega)
  · have := List.mem_singleton.1 hx; have := List.mem_singleton.1 e; have := h.r1; omega
  · have := h.q1 x (by rw [blks_ubk] at hx; exact hx); have := List.mem_singleton.1 e; omega

def NewAns (w : World) (n : Nat) (e : Ending) (w' : World) : Prop := ∃ fb F, e = .returned (.pointer (some ⟨fb, 0, none⟩)) ∧ FibAt w' fb [] (List.replicate n true) F ∧ Ext w w' ∧ ∀ x ∈ F, w.heap.size ≤ x

theorem maxV16 : Dr.maxV 16 = 16 := by decide

set_option maxHeartbeats 4000000 in
theorem fnew_any (i : Int) (w : World) : Calls Tryz.prog 20 #[.int .i64 i] w (NewAns w (clampN i)) := by
  have cr := Rb.new_any w
  have hcl := clamp_is i
  have hc8 := clamp_le i
  generalize clampN i = n at *
  have HN : Hid (n ≤ 8) := hc8
  go_enter Tryz.func20, Tryz.ntmps20
  go_wp2_with (first
    | (go_at_call 43; refine cr.mono ?_; rintro e w1 ⟨rfl, HR1, hx1⟩; have HR : Hid (RibAt 98 w1 w.heap.size [] [w.heap.size] ∧ Ext w w1) := ⟨HR1, hx1⟩; clear HR1 hx1)
    | (go_at_call 44; refine (repeat_any w1.heap.size n _ (heap_new w1 _) HN.out).mono ?_; rintro e w2 ⟨v2, rfl, hO2, hx2⟩; obtain ⟨q, c, rfl, -, -⟩ := hO2.slice; have HO2 : Hid (OwnB w2 (w1.alloc (.cells #[.bool true] 4)).heap.size (.slice q (List.replicate n true).length c) (List.replicate n true) ∧ Ext w1 w2) := ⟨hO2, ((Ext.refl w1).alloc _).trans hx2⟩; clear hO2 hx2))
  have hl : (List.replicate n true).length = n := List.length_replicate ..
  have hO2 := HO2.out.1
  rw [hl] at hO2
  have hs1 := HR.out.2.size
  have hrl := HR.out.1.lt w.heap.size (by simp)
  have hx02 : Ext w w2 := HR.out.2.trans HO2.out.2
  have hs2 := HO2.out.2.size
  have hA3 : Ext w2 (w2.alloc (.cells #[.pointer (some ⟨w.heap.size, 0, none⟩), .slice q n c, .slice none 0 0, .pointer none, .pointer none, .slice none 0 0, .pointer none, .pointer none, .slice none 0 0, .pointer none, .pointer none, .slice none 0 0, .pointer none, .pointer none] 82)) := (Ext.refl w2).alloc _
  have HW0 : Hid (NewW w (w2.alloc (.cells #[.pointer (some ⟨w.heap.size, 0, none⟩), .slice q n c, .slice none 0 0, .pointer none, .pointer none, .slice none 0 0, .pointer none, .pointer none, .slice none 0 0, .pointer none, .pointer none, .slice none 0 0, .pointer none, .pointer none] 82)) w2.heap.size w.heap.size q n c
      #[.pointer (some ⟨w.heap.size, 0, none⟩), .slice q n c, .slice none 0 0, .pointer none, .pointer none, .slice none 0 0, .pointer none, .pointer none, .slice none 0 0, .pointer none, .pointer none, .slice none 0 0, .pointer none, .pointer none] (fun _ => 0) (fun _ => 0) 0) :=
    { ext := hx02.trans hA3, obj := heap_new w2 _, size := rfl, c0 := rfl, c1 := rfl,
      cv := fun i hi => by rcases (by omega : i = 0 ∨ i = 1 ∨ i = 2 ∨ i = 3) with rfl | rfl | rfl | rfl <;> rfl,
      ct := fun i hi => by omega, cd := fun i hi => by omega, tree := fun i hi => by omega, dir := fun i hi => by omega, t1 := fun i hi => by omega, t2 := fun i j hij hj => by omega,
      rib := HR.out.1.ext (HO2.out.2.trans hA3), own := (hO2.ext hA3).base (by have := ((Ext.refl w1).alloc (.cells #[.bool true] 4)).size; omega), r1 := ⟨Nat.le_refl _, by omega⟩,
      q1 := fun x hx => (hO2.lt x (by rw [blks_ubk]; exact hx)).2 }
  clear hO2 hs1 hrl hx02 hs2 hA3 hl hcl hc8 cr
  generalize (w2.alloc (.cells #[.pointer (some ⟨w.heap.size, 0, none⟩), .slice q n c, .slice none 0 0, .pointer none, .pointer none, .slice none 0 0, .pointer none, .pointer none, .slice none 0 0, .pointer none, .pointer none, .slice none 0 0, .pointer none, .pointer none] 82)) = W0 at *
  generalize (#[.pointer (some ⟨w.heap.size, 0, none⟩), .slice q n c, .slice none 0 0, .pointer none, .pointer none, .slice none 0 0, .pointer none, .pointer none, .slice none 0 0, .pointer none, .pointer none, .slice none 0 0, .pointer none, .pointer none] : Array Value) = C0 at *
  generalize w2.heap.size = fb at *
  go_loopg [13] 4 (fun kx s13 wr => ∃ (k : Nat) (C : Array Value) (tb db : Nat → Nat), s13 = .int .i64 k ∧ k ≤ 4 ∧ 4 - k ≤ kx ∧ Hid (NewW w wr fb w.heap.size q n c C tb db k))
  case atStart => exact ⟨0, C0, fun _ => 0, fun _ => 0, rfl, by omega, by omega, HW0⟩
  case round =>
    obtain ⟨k, C, tb, db, rfl, hk4, hkx, HW⟩ := hrel
    clear HW0
    by_cases hlt : k < 4
    · have hki : (k : Int) < 4 := by omega
      have hki2 : ¬ (4 ≤ (k : Int)) := by omega
      go_wp2_with fail
      refine wp_region_eagerX fb [(0, false), (1, false), (5, false), (6, false), (2, true), (3, true), (4, false), (7, false), (8, true)] (by kernel_rfl) (by kernel_rfl) rfl (by kernel_rfl) (fun _ _ _ _ _ h => h) ?_
      have hxd : Ext wr wr.drew := (Ext.refl wr).drew
      generalize wr.drew = W at *
      iterate 4 (refine wpE_read (v := ?_) rfl (by rfl) ?_ ?_; rotate_left; (focus (intro w' hx; go_simp; first | done | with_reducible rfl)); simp only [Act.put, List.setIfInBounds_toArray, List.set_cons_zero, List.set_cons_succ])
      (refine wpE_call rfl (by rfl) (fun K hK => ?_); go_simp; first | (go_at_call 45; refine (tnew W).mono ?_; rintro e w5 ⟨rfl, hx5, ht5⟩; refine hK _ _ (hx5.but fb) ?_; clear hK K))
      have HT5 : Hid (Ext W w5 ∧ TrieR w5 W.heap.size [] [W.heap.size]) := ⟨hx5, ht5⟩
      clear ht5
      (refine wpE_call rfl (by rfl) (fun K hK => ?_); go_simp; first | (go_at_call 46; refine (new_at 16 w5).mono ?_; rintro e w6 ⟨rfl, hx6, hd6⟩; refine hK _ _ (hx6.but fb) ?_; clear hK K))
      rw [maxV16] at hd6
      have HD6 : Hid (Ext w5 w6 ∧ DirAt w6 w5.heap.size 16 [] [w5.heap.size]) := ⟨hx6, hd6⟩
      have HO6 : Hid (w6.heap[fb]? = some (.cells C 82 (0, 0))) := (hxd.trans (hx5.trans hx6)).heap HW.out.obj
      have HX5 : Hid (Ext wr w5) := hxd.trans hx5
      have HZ5 : Hid (wr.heap.size ≤ W.heap.size) := hxd.size
      clear hd6 hx5 hx6 hxd
      have cx : ∀ j, j < 14 → ∃ u, w6.cell? ⟨fb, j, none⟩ = some u := fun j hj => by
        obtain ⟨u, hu⟩ : ∃ u, C[j]? = some u := ⟨_, Array.getElem?_eq_getElem (by rw [HW.out.size]; exact hj)⟩
        exact ⟨u, by rw [heap_cell HO6.out, hu]⟩
      obtain ⟨u0, a0⟩ := cx (2 + k * 3) (by omega)
      obtain ⟨u1, a1⟩ := cx (2 + k * 3 + 1) (by omega)
      obtain ⟨u2, a2⟩ := cx (2 + k * 3 + 2) (by omega)
      have f0 : ∀ j, w6.frozen? ⟨fb, j, none⟩ = false := fun j => heap_frozen HO6.out
      clear cx
      iterate 2 (refine wpE_read (v := ?_) rfl (by rfl) ?_ ?_; rotate_left; (focus (intro w' hx; go_simp; first | done | with_reducible rfl)); simp only [Act.put, List.setIfInBounds_toArray, List.set_cons_zero, List.set_cons_succ])
      refine wpE_call rfl (by rfl) (fun K hK => ?_)
      go_simp
      have hxn : ExtX fb w6 (((w6.setCell ⟨fb, 2 + k * 3, none⟩ (.slice none 0 0)).setCell ⟨fb, 2 + k * 3 + 1, none⟩ (.pointer (some ⟨W.heap.size, 0, none⟩))).setCell ⟨fb, 2 + k * 3 + 2, none⟩ (.pointer (some ⟨w5.heap.size, 0, none⟩))) := ((ExtX.setCell (ExtX.refl fb w6) (p := ⟨fb, 2 + k * 3, none⟩) rfl _).setCell (p := ⟨fb, 2 + k * 3 + 1, none⟩) rfl _).setCell (p := ⟨fb, 2 + k * 3 + 2, none⟩) rfl _
      refine hK _ _ hxn ?_
      clear hK K
      refine wpE_done ?_
      have HW7 := HW.out.step hlt HX5.out HT5.out.2 HZ5.out HD6.out.1 HD6.out.2 (Nat.le_refl _)
      have H7 : Hid _ := HW7
      clear HW7 hxn a0 a1 a2 f0
      go_wp2_with fail
      go_roundg (4 - (k + 1))
      case measure => omega
      case rel => exact ⟨k + 1, _, _, _, by go_num, by omega, Nat.le_refl _, H7.out⟩
    · obtain rfl : k = 4 := by omega
      go_wp2_with fail
      go_ret
      obtain ⟨F, h1, h2⟩ := HW.out.fib HN.out
      exact ⟨fb, F, rfl, h1, HW.out.ext, h2⟩
end Go.Proofs.YtkfhkhgiojpfoaaGreat.Fb
