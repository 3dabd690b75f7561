/- Texts joined by a program: RefA, RefB, Rib9. -/
import Derived.Test.YtkfhkhgiojpfoaaGreatJ2
import Derived.Test.YtkfhkhgiojpfoaaGreatJ5
import Derived.Test.YtkfhkhgiojpfoaaGreatJ6
namespace Go.Proofs.YtkfhkhgiojpfoaaGreat.Rb

set_option maxRecDepth 100000

open Go.RowKit Go.Proofs.YtkfhkhgiojpfoaaGreat

set_option linter.unusedVariables false

set_option linter.unusedSimpArgs false

theorem neq_prefix (a n b m : Int) (w : World) : (binOp .neq 42 (.agg #[.int .u32 a, .int .i64 n]) (.agg #[.int .u32 b, .int .i64 m])).run Tryz.prog w = .ok (.bool (!(a == b && n == m))) w := by
  have h := eql_prefix a n b m w
  rw [run_eql_struct] at h
  rw [run_neq_struct]
  revert h
  cases (Op.equalIn 10000 42 (.agg #[.int .u32 a, .int .i64 n]) (.agg #[.int .u32 b, .int .i64 m])).run Tryz.prog w with
  | ok v w1 => intro h; simp only [Result.andThen_ok] at h ⊢; cases h; rfl
  | _ => intro h; simp [Result.andThen] at h

theorem before3_any (a n b m : Int) (w : World) :
    Calls Tryz.prog 128 #[.agg #[.int .u32 a, .int .i64 n], .agg #[.int .u32 b, .int .i64 m]] w fun e w' => e = .returned (.bool (decide (a < b) || (decide (a = b) && decide (n < m)))) ∧ Ext w w' := by
  have hx0 : Ext w ((w.alloc (.cells #[.int .u32 a, .int .i64 n] 42)).alloc (.cells #[.int .u32 b, .int .i64 m] 42)) := ((Ext.refl w).alloc _).alloc _
  by_cases e : a = b
  · have e' : (a == b) = true := by simpa using e
    have hr : (decide (a < b) || (decide (a = b) && decide (n < m))) = decide (n < m) := by simp [e]
    rw [hr]
    clear hr e
    go_enter Tryz.func128, Tryz.ntmps128
    go_wp2_with fail
    go_ret
    exact ⟨rfl, hx0⟩
  · have e' : (a == b) = false := by simpa using e
    have hr : (decide (a < b) || (decide (a = b) && decide (n < m))) = decide (a < b) := by simp [e]
    rw [hr]
    clear hr
    go_enter Tryz.func128, Tryz.ntmps128
    go_wp2_with fail
    go_ret
    exact ⟨rfl, hx0⟩

theorem ltB_t {x y : Rt} (h : ¬ x.t = y.t) : ltB x y = decide (x.t < y.t) := by
  rw [Bool.eq_iff_iff, ltB_iff, decide_eq_true_iff]
  unfold Lt5
  omega

theorem ltB_p {x y : Rt} (h : x.t = y.t) (k : ¬ (x.a = y.a ∧ x.l = y.l)) : ltB x y = (decide (x.a < y.a) || (decide (x.a = y.a) && decide (x.l < y.l))) := by
  rw [Bool.eq_iff_iff, ltB_iff]
  simp only [Bool.or_eq_true, Bool.and_eq_true, decide_eq_true_iff]
  unfold Lt5
  omega

theorem ltB_i {x y : Rt} (h : x.t = y.t) (k : x.a = y.a ∧ x.l = y.l) (m : ¬ x.i = y.i) : ltB x y = decide (x.i < y.i) := by
  rw [Bool.eq_iff_iff, ltB_iff, decide_eq_true_iff]
  unfold Lt5
  omega

theorem ltB_g {x y : Rt} (h : x.t = y.t) (k : x.a = y.a ∧ x.l = y.l) (m : x.i = y.i) : ltB x y = decide (x.g < y.g) := by
  rw [Bool.eq_iff_iff, ltB_iff, decide_eq_true_iff]
  unfold Lt5
  omega

theorem betB_m {x y : Rt} (h : ¬ x.m = y.m) : betB x y = decide (x.m < y.m) := by
  rw [Bool.eq_iff_iff, betB_iff, decide_eq_true_iff]
  unfold Lt3
  omega

theorem betB_i {x y : Rt} (h : x.m = y.m) (m : ¬ x.i = y.i) : betB x y = decide (x.i < y.i) := by
  rw [Bool.eq_iff_iff, betB_iff, decide_eq_true_iff]
  unfold Lt3
  omega

theorem betB_g {x y : Rt} (h : x.m = y.m) (m : x.i = y.i) : betB x y = decide (x.g < y.g) := by
  rw [Bool.eq_iff_iff, betB_iff, decide_eq_true_iff]
  unfold Lt3
  omega

theorem before_any (x y : Rt) (w : World) : Calls Tryz.prog 101 #[(.agg #[.int .i64 x.t, .int .u32 x.a, .int .i64 x.l, .int .i64 x.i, .int .u32 x.g, .int .i64 x.m]), (.agg #[.int .i64 y.t, .int .u32 y.a, .int .i64 y.l, .int .i64 y.i, .int .u32 y.g, .int .i64 y.m])] w fun e w' => e = .returned (.bool (ltB x y)) ∧ Ext w w' := by
  obtain ⟨hX, hA, hB⟩ := two_boxes w #[.int .i64 x.t, .int .u32 x.a, .int .i64 x.l, .int .i64 x.i, .int .u32 x.g, .int .i64 x.m] #[.int .i64 y.t, .int .u32 y.a, .int .i64 y.l, .int .i64 y.i, .int .u32 y.g, .int .i64 y.m] 48
  obtain ⟨a0, a1, a2, a3, a4, a5⟩ := box_rtE hA
  obtain ⟨b0, b1, b2, b3, b4, b5⟩ := box_rtE hB
  have p0 := a0 _ (Ext.refl _)
  have p1 := a1 _ (Ext.refl _)
  have p2 := a2 _ (Ext.refl _)
  have p3 := a3 _ (Ext.refl _)
  have p4 := a4 _ (Ext.refl _)
  have q0 := b0 _ (Ext.refl _)
  have q1 := b1 _ (Ext.refl _)
  have q2 := b2 _ (Ext.refl _)
  have q3 := b3 _ (Ext.refl _)
  have q4 := b4 _ (Ext.refl _)
  have np := fun w => neq_prefix x.a x.l y.a y.l w
  have kb := fun w => before3_any x.a x.l y.a y.l w
  clear hA hB a0 a1 a2 a3 a4 a5 b0 b1 b2 b3 b4 b5
  by_cases h1 : x.t = y.t
  · by_cases h2 : x.a = y.a ∧ x.l = y.l
    · have e2 : (!(x.a == y.a && x.l == y.l)) = false := by simp [h2.1, h2.2]
      rw [e2] at np
      by_cases h3 : x.i = y.i
      · rw [ltB_g h1 h2 h3]
        have h1a : (x.t == y.t) = true := by simpa using h1
        have h1b : (x.t != y.t) = false := by simp [h1]
        have h1c : decide (x.t = y.t) = true := by simpa using h1
        have h3a : (x.i == y.i) = true := by simpa using h3
        have h3b : (x.i != y.i) = false := by simp [h3]
        have h3c : decide (x.i = y.i) = true := by simpa using h3
        clear h2 e2 kb h1 h3
        go_enter Tryz.func101, Tryz.ntmps101
        go_wp2_with fail
        go_ret
        exact ⟨rfl, hX⟩
      · rw [ltB_i h1 h2 h3]
        have h1a : (x.t == y.t) = true := by simpa using h1
        have h1b : (x.t != y.t) = false := by simp [h1]
        have h1c : decide (x.t = y.t) = true := by simpa using h1
        clear h2 e2 kb h1
        go_enter Tryz.func101, Tryz.ntmps101
        go_wp2_with fail
        go_ret
        exact ⟨rfl, hX⟩
    · have e2 : (!(x.a == y.a && x.l == y.l)) = true := by
        by_cases h3 : x.a = y.a
        · have h4 : ¬ x.l = y.l := fun h => h2 ⟨h3, h⟩
          simp [h3, h4]
        · simp [h3]
      rw [e2] at np
      rw [ltB_p h1 h2]
      have h1a : (x.t == y.t) = true := by simpa using h1
      have h1b : (x.t != y.t) = false := by simp [h1]
      have h1c : decide (x.t = y.t) = true := by simpa using h1
      clear h2 e2 h1
      generalize (decide (x.a < y.a) || (decide (x.a = y.a) && decide (x.l < y.l))) = b at *
      go_enter Tryz.func101, Tryz.ntmps101
      go_wp2_with (go_at_call 128; refine (kb _).mono ?_; rintro e w1 ⟨rfl, hx1⟩)
      go_ret
      exact ⟨rfl, hX.trans hx1⟩
  · rw [ltB_t h1]
    clear kb np
    go_enter Tryz.func101, Tryz.ntmps101
    go_wp2_with fail
    go_ret
    exact ⟨rfl, hX⟩

theorem refBetter_any (x y : Rt) (w : World) : Calls Tryz.prog 105 #[(.agg #[.int .i64 x.t, .int .u32 x.a, .int .i64 x.l, .int .i64 x.i, .int .u32 x.g, .int .i64 x.m]), (.agg #[.int .i64 y.t, .int .u32 y.a, .int .i64 y.l, .int .i64 y.i, .int .u32 y.g, .int .i64 y.m])] w fun e w' => e = .returned (.bool (betB x y)) ∧ Ext w w' := by
  obtain ⟨hX, hA, hB⟩ := two_boxes w #[.int .i64 x.t, .int .u32 x.a, .int .i64 x.l, .int .i64 x.i, .int .u32 x.g, .int .i64 x.m] #[.int .i64 y.t, .int .u32 y.a, .int .i64 y.l, .int .i64 y.i, .int .u32 y.g, .int .i64 y.m] 48
  obtain ⟨a0, a1, a2, a3, a4, a5⟩ := box_rtE hA
  obtain ⟨b0, b1, b2, b3, b4, b5⟩ := box_rtE hB
  have p3 := a3 _ (Ext.refl _)
  have p4 := a4 _ (Ext.refl _)
  have p5 := a5 _ (Ext.refl _)
  have q3 := b3 _ (Ext.refl _)
  have q4 := b4 _ (Ext.refl _)
  have q5 := b5 _ (Ext.refl _)
  clear hA hB a0 a1 a2 a3 a4 a5 b0 b1 b2 b3 b4 b5
  by_cases h1 : x.m = y.m
  · by_cases h3 : x.i = y.i
    · rw [betB_g h1 h3]
      have h1a : (x.m == y.m) = true := by simpa using h1
      have h1b : (x.m != y.m) = false := by simp [h1]
      have h1c : decide (x.m = y.m) = true := by simpa using h1
      have h3a : (x.i == y.i) = true := by simpa using h3
      have h3b : (x.i != y.i) = false := by simp [h3]
      have h3c : decide (x.i = y.i) = true := by simpa using h3
      clear h1 h3
      go_enter Tryz.func105, Tryz.ntmps105
      go_wp2_with fail
      go_ret
      exact ⟨rfl, hX⟩
    · rw [betB_i h1 h3]
      have h1a : (x.m == y.m) = true := by simpa using h1
      have h1b : (x.m != y.m) = false := by simp [h1]
      have h1c : decide (x.m = y.m) = true := by simpa using h1
      clear h1
      go_enter Tryz.func105, Tryz.ntmps105
      go_wp2_with fail
      go_ret
      exact ⟨rfl, hX⟩
  · rw [betB_m h1]
    go_enter Tryz.func105, Tryz.ntmps105
    go_wp2_with fail
    go_ret
    exact ⟨rfl, hX⟩

theorem on_any (i : Int) (q : Option Addr) (m d : Nat) (U : List Bool) (w : World) (hU : Ups w q m U) :
    Calls Tryz.prog 32 #[.slice q m d, .int .i64 i] w fun e w' => e = .returned (.bool (upB U i)) ∧ Ext w w' := by
  have hl := hU.len
  by_cases h0 : 0 ≤ i
  · by_cases hlt : i < (m : Int)
    · have hn : i.toNat < U.length := by omega
      obtain ⟨u, hu⟩ : ∃ u, U[i.toNat]? = some u := ⟨_, List.getElem?_eq_getElem hn⟩
      have he : upB U i = u := by unfold upB; simp [h0, hu]
      rcases hU.cells with e | ⟨b, off, rfl, hc⟩
      · omega
      · have hcu := hc _ u hu
        rw [he]
        clear hc hu he hU hl hn
        go_enter Tryz.func32, Tryz.ntmps32
        go_wp2_with fail
        go_ret
        exact ⟨rfl, Ext.refl w⟩
    · have he : upB U i = false := by
        unfold upB
        rw [List.getElem?_eq_none (by omega)]
        simp
      rw [he]
      clear hU hl he
      go_enter Tryz.func32, Tryz.ntmps32
      go_wp2_with fail
      go_ret
      exact ⟨rfl, Ext.refl w⟩
  · have he : upB U i = false := by unfold upB; simp [h0]
    rw [he]
    clear hU hl he
    go_enter Tryz.func32, Tryz.ntmps32
    go_wp2_with fail
    go_ret
    exact ⟨rfl, Ext.refl w⟩

theorem refIs_any' (r : Rt) (w : World) (a0 : 0 ≤ r.a) (a1 : r.a ≤ 4294967295) : Calls Tryz.prog 71 #[(.agg #[.int .i64 r.t, .int .u32 r.a, .int .i64 r.l, .int .i64 r.i, .int .u32 r.g, .int .i64 r.m])] w fun e w' => e = .returned (.bool (isR r)) ∧ Ext w w' := by
  have k2 := fun w => refIs_any r.a r.l w a0 a1
  have hA : Ext w (w.alloc (.cells #[.int .i64 r.t, .int .u32 r.a, .int .i64 r.l, .int .i64 r.i, .int .u32 r.g, .int .i64 r.m] 48)) := (Ext.refl w).alloc _
  obtain ⟨q0, q1, q2, q3, q4, q5⟩ := box_rtE (heap_new w (.cells #[.int .i64 r.t, .int .u32 r.a, .int .i64 r.l, .int .i64 r.i, .int .u32 r.g, .int .i64 r.m] 48))
  have p0 := q0 _ (Ext.refl _)
  have p1 := q1 _ (Ext.refl _)
  have p2 := q2 _ (Ext.refl _)
  by_cases c1 : 0 ≤ r.t
  rotate_left
  · have he : isR r = false := by
      have hn : ¬ (0 ≤ r.t) := by omega
      unfold isR; simp [hn]
    go_enter Tryz.func71, Tryz.ntmps71
    go_wp2_with fail
    go_ret
    exact ⟨by first | rfl | (rw [he]; rfl) | (show Ending.returned (Value.bool (decide (r.m ≤ 255))) = Ending.returned (Value.bool _); rw [he, decide_eq_false (show ¬ r.m ≤ 255 by omega)]), hA⟩
  by_cases c2 : r.t < 4
  rotate_left
  · have he : isR r = false := by
      have hn : ¬ (r.t ≤ 3) := by omega
      unfold isR; simp [hn]
    go_enter Tryz.func71, Tryz.ntmps71
    go_wp2_with fail
    go_ret
    exact ⟨by first | rfl | (rw [he]; rfl) | (show Ending.returned (Value.bool (decide (r.m ≤ 255))) = Ending.returned (Value.bool _); rw [he, decide_eq_false (show ¬ r.m ≤ 255 by omega)]), hA⟩
  cases c3 : isV r.a r.l with
  | false =>
    rw [c3] at k2
    have he : isR r = false := by unfold isR; rw [c3]; simp
    clear c3
    go_enter Tryz.func71, Tryz.ntmps71
    go_wp2_with (go_at_call 100; refine (k2 _).mono ?_; rintro e w1 ⟨rfl, hx1⟩; have u3 := q3 _ hx1; have u5 := q5 _ hx1)
    go_ret
    exact ⟨by first | rfl | (rw [he]; rfl) | (show Ending.returned (Value.bool (decide (r.m ≤ 255))) = Ending.returned (Value.bool _); rw [he, decide_eq_false (show ¬ r.m ≤ 255 by omega)]), hA.trans hx1⟩
  | true =>
    rw [c3] at k2
    by_cases c4 : 0 ≤ r.i
    rotate_left
    · have he : isR r = false := by
        have hn : ¬ (0 ≤ r.i) := by omega
        unfold isR; simp [hn]
      clear c3
      go_enter Tryz.func71, Tryz.ntmps71
      go_wp2_with (go_at_call 100; refine (k2 _).mono ?_; rintro e w1 ⟨rfl, hx1⟩; have u3 := q3 _ hx1; have u5 := q5 _ hx1)
      go_ret
      exact ⟨by first | rfl | (rw [he]; rfl) | (show Ending.returned (Value.bool (decide (r.m ≤ 255))) = Ending.returned (Value.bool _); rw [he, decide_eq_false (show ¬ r.m ≤ 255 by omega)]), hA.trans hx1⟩
    by_cases c5 : r.i < 8
    rotate_left
    · have he : isR r = false := by
        have hn : ¬ (r.i ≤ 7) := by omega
        unfold isR; simp [hn]
      clear c3
      go_enter Tryz.func71, Tryz.ntmps71
      go_wp2_with (go_at_call 100; refine (k2 _).mono ?_; rintro e w1 ⟨rfl, hx1⟩; have u3 := q3 _ hx1; have u5 := q5 _ hx1)
      go_ret
      exact ⟨by first | rfl | (rw [he]; rfl) | (show Ending.returned (Value.bool (decide (r.m ≤ 255))) = Ending.returned (Value.bool _); rw [he, decide_eq_false (show ¬ r.m ≤ 255 by omega)]), hA.trans hx1⟩
    by_cases c6 : 0 ≤ r.m
    rotate_left
    · have he : isR r = false := by
        have hn : ¬ (0 ≤ r.m) := by omega
        unfold isR; simp [hn]
      clear c3
      go_enter Tryz.func71, Tryz.ntmps71
      go_wp2_with (go_at_call 100; refine (k2 _).mono ?_; rintro e w1 ⟨rfl, hx1⟩; have u3 := q3 _ hx1; have u5 := q5 _ hx1)
      go_ret
      exact ⟨by first | rfl | (rw [he]; rfl) | (show Ending.returned (Value.bool (decide (r.m ≤ 255))) = Ending.returned (Value.bool _); rw [he, decide_eq_false (show ¬ r.m ≤ 255 by omega)]), hA.trans hx1⟩
    by_cases c7 : r.m ≤ 255
    rotate_left
    · have he : isR r = false := by
        have hn : ¬ (r.m ≤ 255) := by omega
        unfold isR; simp [hn]
      clear c3
      go_enter Tryz.func71, Tryz.ntmps71
      go_wp2_with (go_at_call 100; refine (k2 _).mono ?_; rintro e w1 ⟨rfl, hx1⟩; have u3 := q3 _ hx1; have u5 := q5 _ hx1)
      go_ret
      exact ⟨by first | rfl | (rw [he]; rfl) | (show Ending.returned (Value.bool (decide (r.m ≤ 255))) = Ending.returned (Value.bool _); rw [he, decide_eq_false (show ¬ r.m ≤ 255 by omega)]), hA.trans hx1⟩
    have he : isR r = true := (isR_iff r).2 ⟨c1, by omega, c3, c4, by omega, c6, c7⟩
    clear c3
    go_enter Tryz.func71, Tryz.ntmps71
    go_wp2_with (go_at_call 100; refine (k2 _).mono ?_; rintro e w1 ⟨rfl, hx1⟩; have u3 := q3 _ hx1; have u5 := q5 _ hx1)
    go_ret
    exact ⟨by first | rfl | (rw [he]; rfl) | (show Ending.returned (Value.bool (decide (r.m ≤ 255))) = Ending.returned (Value.bool _); rw [he, decide_eq_false (show ¬ r.m ≤ 255 by omega)]), hA.trans hx1⟩

theorem here_stop {L : List Rt} {r x : Rt} {k : Nat} (hp : posR L r = k) (hx : L[k]? = some x) : hereB L r = !ltB r x := by
  rw [here_at, hp, hx]
  dsimp only
  have hf : ltB x r = false := twN_at (fun x => ltB x r) L x (by have : twN (fun x => ltB x r) L = k := hp; rw [this]; exact hx)
  have h1 := ordR_eq x r
  rw [same_iff, hf] at h1
  cases e : ltB r x
  · rw [e] at h1; simp [h1]
  · rw [e] at h1; simp [h1]

set_option maxHeartbeats 1000000 in
theorem place_any (xb : Nat) (L : List Rt) (F : List Nat) (r : Rt) (w : World) (h : RibAt 51 w xb L F) (hn : L.length ≤ 1000000) :
    Calls Tryz.prog 72 #[.pointer (some ⟨xb, 0, none⟩), (.agg #[.int .i64 r.t, .int .u32 r.a, .int .i64 r.l, .int .i64 r.i, .int .u32 r.g, .int .i64 r.m])] w fun e w' => e = .returned (.tuple #[.int .i64 (posR L r : Nat), .bool (hereB L r)]) ∧ Ext w w' := by
  obtain ⟨v, -, hX, hO⟩ := h
  obtain ⟨p, c, rfl, hc1, -, hR⟩ := hO.slice
  have hA : Ext w (w.alloc (.cells #[.int .i64 r.t, .int .u32 r.a, .int .i64 r.l, .int .i64 r.i, .int .u32 r.g, .int .i64 r.m] 48)) := (Ext.refl w).alloc _
  have HQ : Hid _ := box_rtE (heap_new w (.cells #[.int .i64 r.t, .int .u32 r.a, .int .i64 r.l, .int .i64 r.i, .int .u32 r.g, .int .i64 r.m] 48))
  have HV : Hid (∀ w', Ext w w' → w'.cell? ⟨xb, 0, none⟩ = some (.slice p L.length c)) := fun w' hx => by rw [heap_cell (hx.heap hX)]; rfl
  have HR : Hid (Rd w p L.length c L) := hR
  have kb := fun x w => before_any x r w
  have kc := fun x w => before_any r x w
  clear hX hO hR
  go_enter Tryz.func72, Tryz.ntmps72
  go_wp2_with fail
  generalize hW0 : (w.alloc (.cells #[.int .i64 r.t, .int .u32 r.a, .int .i64 r.l, .int .i64 r.i, .int .u32 r.g, .int .i64 r.m] 48)) = W0 at *
  clear hW0
  go_loopw [6] (fun i wr => ∃ k : Nat, k ≤ L.length ∧ i = .int .i64 k ∧ Ext W0 wr ∧ Hid (∀ (j : Nat) (x : Rt), j < k → L[j]? = some x → ltB x r = true)) (fun i _ => L.length - (intOf i).toNat)
  case atStart => exact ⟨0, Nat.zero_le _, rfl, Ext.refl _, (fun j x hj => by omega : ∀ (j : Nat) (x : Rt), j < 0 → L[j]? = some x → ltB x r = true)⟩
  case round =>
    obtain ⟨k, hk, rfl, hx, HK⟩ := hrel
    obtain ⟨a0, a1, a2, a3, a4, a5⟩ := HQ.out
    have hd := hx.drew
    have t0 := fun w' h => a0 w' (hd.trans h)
    have t1 := fun w' h => a1 w' (hd.trans h)
    have t2 := fun w' h => a2 w' (hd.trans h)
    have t3 := fun w' h => a3 w' (hd.trans h)
    have t4 := fun w' h => a4 w' (hd.trans h)
    have t5 := fun w' h => a5 w' (hd.trans h)
    have v0 : ∀ w', Ext wr.drew w' → w'.cell? ⟨xb, 0, none⟩ = some (.slice p L.length c) := fun w' h => HV.out w' (hA.trans (hd.trans h))
    clear a0 a1 a2 a3 a4 a5
    by_cases hlt : k < L.length
    · obtain ⟨x, hxk⟩ : ∃ x, L[k]? = some x := ⟨_, List.getElem?_eq_getElem hlt⟩
      obtain ⟨b, off, rfl, hb, g0, g1, g2, g3, g4, g5⟩ := (HR.out.ext (hA.trans hd)).cell hxk
      have x0 : ∀ w', Ext wr.drew w' → w'.cell? ⟨b, off + k * 6, none⟩ = some (.int .i64 x.t) := fun w' h => by rw [h.below.cell (p := ⟨b, off + k * 6, none⟩) hb]; exact g0
      have x1 : ∀ w', Ext wr.drew w' → w'.cell? ⟨b, off + k * 6 + 1, none⟩ = some (.int .u32 x.a) := fun w' h => by rw [h.below.cell (p := ⟨b, off + k * 6 + 1, none⟩) hb]; exact g1
      have x2 : ∀ w', Ext wr.drew w' → w'.cell? ⟨b, off + k * 6 + 2, none⟩ = some (.int .i64 x.l) := fun w' h => by rw [h.below.cell (p := ⟨b, off + k * 6 + 2, none⟩) hb]; exact g2
      have x3 : ∀ w', Ext wr.drew w' → w'.cell? ⟨b, off + k * 6 + 3, none⟩ = some (.int .i64 x.i) := fun w' h => by rw [h.below.cell (p := ⟨b, off + k * 6 + 3, none⟩) hb]; exact g3
      have x4 : ∀ w', Ext wr.drew w' → w'.cell? ⟨b, off + k * 6 + 4, none⟩ = some (.int .u32 x.g) := fun w' h => by rw [h.below.cell (p := ⟨b, off + k * 6 + 4, none⟩) hb]; exact g4
      have x5 : ∀ w', Ext wr.drew w' → w'.cell? ⟨b, off + k * 6 + 5, none⟩ = some (.int .i64 x.m) := fun w' h => by rw [h.below.cell (p := ⟨b, off + k * 6 + 5, none⟩) hb]; exact g5
      have k1 := fun w => kb x w
      have k2 := fun w => kc x w
      have HX : Hid _ := hxk
      have hki : (k : Int) < (L.length : Int) := by omega
      clear hxk g0 g1 g2 g3 g4 g5 kb kc
      generalize hz : ltB x r = z at k1
      have HZ : Hid _ := hz
      clear hz
      cases z
      · go_wp2_with fail
        refine wp_region_eager [(0, false), (1, false), (2, false), (3, false), (4, false), (5, false), (6, false), (7, false), (8, false), (9, false), (10, false), (11, false), (12, false), (13, false), (14, false), (15, false), (16, true), (17, false)] (by kernel_rfl) (by kernel_rfl) rfl (by kernel_rfl) (fun _ _ _ _ _ h => h) ?_
        generalize wr.drew = W at *
        iterate 16 (refine wpE_read (v := ?_) rfl (by rfl) ?_ ?_; rotate_left; (focus (intro w' hx; go_simp; first | done | with_reducible rfl)); simp only [Act.put, List.setIfInBounds_toArray, List.set_cons_zero, List.set_cons_succ])
        (refine wpE_call rfl (by rfl) (fun K hK => ?_); go_simp; first
              | (go_at_call 101; refine (k1 _).mono ?_; rintro e w1 ⟨rfl, hx1⟩; refine hK _ _ hx1 ?_; clear hK K))
        iterate 1 (refine wpE_read (v := ?_) rfl (by rfl) ?_ ?_; rotate_left; (focus (intro w' hx; go_simp; first | done | with_reducible rfl)); simp only [Act.put, List.setIfInBounds_toArray, List.set_cons_zero, List.set_cons_succ])
        refine wpE_done ?_
        go_wp2_with fail
        refine wp_region_eager [(0, false), (1, false), (2, false), (3, false), (4, false), (5, false), (6, false), (7, false), (8, false), (9, false), (10, false), (11, false), (12, false), (13, false), (14, false), (15, false), (16, false), (17, true), (18, false), (19, false), (20, false), (21, false)] (by kernel_rfl) (by kernel_rfl) rfl (by kernel_rfl) (fun _ _ _ _ _ h => h) ?_
        have hx2 := hx1.drew
        generalize w1.drew = W2 at *
        replace t0 := fun w' h => t0 w' (hx2.trans h); replace t1 := fun w' h => t1 w' (hx2.trans h); replace t2 := fun w' h => t2 w' (hx2.trans h); replace t3 := fun w' h => t3 w' (hx2.trans h); replace t4 := fun w' h => t4 w' (hx2.trans h); replace t5 := fun w' h => t5 w' (hx2.trans h); replace v0 := fun w' h => v0 w' (hx2.trans h); replace x0 := fun w' h => x0 w' (hx2.trans h); replace x1 := fun w' h => x1 w' (hx2.trans h); replace x2 := fun w' h => x2 w' (hx2.trans h); replace x3 := fun w' h => x3 w' (hx2.trans h); replace x4 := fun w' h => x4 w' (hx2.trans h); replace x5 := fun w' h => x5 w' (hx2.trans h)
        iterate 17 (refine wpE_read (v := ?_) rfl (by rfl) ?_ ?_; rotate_left; (focus (intro w' hx; go_simp; first | done | with_reducible rfl)); simp only [Act.put, List.setIfInBounds_toArray, List.set_cons_zero, List.set_cons_succ])
        (refine wpE_call rfl (by rfl) (fun K hK => ?_); go_simp; first
              | (go_at_call 101; refine (k2 _).mono ?_; rintro e w3 ⟨rfl, hx3⟩; refine hK _ _ hx3 ?_; clear hK K))
        iterate 4 (refine wpE_read (v := ?_) rfl (by rfl) ?_ ?_; rotate_left; (focus (intro w' hx; go_simp; first | done | with_reducible rfl)); simp only [Act.put, List.setIfInBounds_toArray, List.set_cons_zero, List.set_cons_succ])
        refine wpE_done ?_
        go_wp2_with fail
        go_ret2
        have hpos : posR L r = k := twN_unique _ L k hk HK.out (fun y hy => by rw [HX.out] at hy; cases hy; exact HZ.out)
        rw [hpos, here_stop hpos HX.out]
        exact ⟨rfl, hA.trans (hd.trans (hx2.trans hx3))⟩
      · go_wp2_with fail
        refine wp_region_eager [(0, false), (1, false), (2, false), (3, false), (4, false), (5, false), (6, false), (7, false), (8, false), (9, false), (10, false), (11, false), (12, false), (13, false), (14, false), (15, false), (16, true), (17, false)] (by kernel_rfl) (by kernel_rfl) rfl (by kernel_rfl) (fun _ _ _ _ _ h => h) ?_
        generalize wr.drew = W at *
        iterate 16 (refine wpE_read (v := ?_) rfl (by rfl) ?_ ?_; rotate_left; (focus (intro w' hx; go_simp; first | done | with_reducible rfl)); simp only [Act.put, List.setIfInBounds_toArray, List.set_cons_zero, List.set_cons_succ])
        (refine wpE_call rfl (by rfl) (fun K hK => ?_); go_simp; first
              | (go_at_call 101; refine (k1 _).mono ?_; rintro e w1 ⟨rfl, hx1⟩; refine hK _ _ hx1 ?_; clear hK K))
        iterate 1 (refine wpE_read (v := ?_) rfl (by rfl) ?_ ?_; rotate_left; (focus (intro w' hx; go_simp; first | done | with_reducible rfl)); simp only [Act.put, List.setIfInBounds_toArray, List.set_cons_zero, List.set_cons_succ])
        refine wpE_done ?_
        go_wp2_with fail
        go_roundw
        case rel => exact ⟨k + 1, by omega, by go_num, hd.trans hx1, (fun j y hj hy => by
          rcases Nat.lt_or_ge j k with h | h
          · exact HK.out j y h hy
          · obtain rfl : j = k := by omega
            rw [HX.out] at hy; cases hy; exact HZ.out : ∀ (j : Nat) (x : Rt), j < k + 1 → L[j]? = some x → ltB x r = true)⟩
        case measure => simp [intOf]; omega
    · obtain rfl : k = L.length := by omega
      clear kb kc
      go_wp2_with fail
      refine wp_region_eager [(0, false), (1, false), (2, false), (3, false), (4, false), (5, false), (6, false), (7, false), (8, false), (9, false), (10, false), (11, false), (12, false), (13, false), (14, false), (15, false), (16, true), (17, false)] (by kernel_rfl) (by kernel_rfl) rfl (by kernel_rfl) (fun _ _ _ _ _ h => h) ?_
      generalize wr.drew = W at *
      iterate 8 (refine wpE_read (v := ?_) rfl (by rfl) ?_ ?_; rotate_left; (focus (intro w' hx; go_simp; first | done | with_reducible rfl)); simp only [Act.put, List.setIfInBounds_toArray, List.set_cons_zero, List.set_cons_succ])
      iterate 9 (rw [wpE_skip_eq _ rfl (by rfl)]; simp only [Act.put, List.setIfInBounds_toArray, List.set_cons_zero, List.set_cons_succ])
      iterate 1 (refine wpE_read (v := ?_) rfl (by rfl) ?_ ?_; rotate_left; (focus (intro w' hx; go_simp; first | done | with_reducible rfl)); simp only [Act.put, List.setIfInBounds_toArray, List.set_cons_zero, List.set_cons_succ])
      refine wpE_done ?_
      go_wp2_with fail
      refine wp_region_eager [(0, false), (1, false), (2, false), (3, false), (4, false), (5, false), (6, false), (7, false), (8, false), (9, false), (10, false), (11, false), (12, false), (13, false), (14, false), (15, false), (16, false), (17, true), (18, false), (19, false), (20, false), (21, false)] (by kernel_rfl) (by kernel_rfl) rfl (by kernel_rfl) (fun _ _ _ _ _ h => h) ?_
      have hx2 := (Ext.refl W).drew
      generalize W.drew = W2 at *
      replace t0 := fun w' h => t0 w' (hx2.trans h); replace t1 := fun w' h => t1 w' (hx2.trans h); replace t2 := fun w' h => t2 w' (hx2.trans h); replace t3 := fun w' h => t3 w' (hx2.trans h); replace t4 := fun w' h => t4 w' (hx2.trans h); replace t5 := fun w' h => t5 w' (hx2.trans h); replace v0 := fun w' h => v0 w' (hx2.trans h)
      iterate 9 (refine wpE_read (v := ?_) rfl (by rfl) ?_ ?_; rotate_left; (focus (intro w' hx; go_simp; first | done | with_reducible rfl)); simp only [Act.put, List.setIfInBounds_toArray, List.set_cons_zero, List.set_cons_succ])
      iterate 10 (rw [wpE_skip_eq _ rfl (by rfl)]; simp only [Act.put, List.setIfInBounds_toArray, List.set_cons_zero, List.set_cons_succ])
      iterate 3 (refine wpE_read (v := ?_) rfl (by rfl) ?_ ?_; rotate_left; (focus (intro w' hx; go_simp; first | done | with_reducible rfl)); simp only [Act.put, List.setIfInBounds_toArray, List.set_cons_zero, List.set_cons_succ])
      refine wpE_done ?_
      go_wp2_with fail
      go_ret2
      have hpos : posR L r = L.length := twN_unique _ L L.length (Nat.le_refl _) HK.out (fun y hy => by rw [List.getElem?_eq_none (Nat.le_refl _)] at hy; cases hy)
      have hh : hereB L r = false := by rw [here_at, hpos, List.getElem?_eq_none (Nat.le_refl _)]
      rw [hpos, hh]
      exact ⟨rfl, hA.trans (hd.trans hx2)⟩
end Go.Proofs.YtkfhkhgiojpfoaaGreat.Rb

namespace Go.Proofs.YtkfhkhgiojpfoaaGreat.Rb

set_option maxRecDepth 100000

open Go.RowKit Go.Proofs.YtkfhkhgiojpfoaaGreat

set_option linter.unusedVariables false

set_option linter.unusedSimpArgs false

theorem Rd.h {w : World} {p : Option Addr} {n c : Nat} {L : List Rt} (h : Rd w p n c L) {k : Nat} (hk : k ≤ n) (hc : n ≤ c) : Rd w p k c (L.take k) := by
  unfold Rd
  rw [← rtCs_take]
  exact Tri.Src.take h hk

theorem Rd.l {w : World} {p : Option Addr} {n c : Nat} {L : List Rt} (h : Rd w p n c L) {k : Nat} (hk : k ≤ n) (hc : n ≤ c) : Rd w (if c = k then p else p.map (·.add (k * 6))) (n - k) (c - k) (L.drop k) := by
  have := h.cut hk (Nat.le_refl n) hc
  rwa [List.take_of_length_le (by rw [List.length_drop, h.len]; omega)] at this

set_option maxHeartbeats 1000000 in
theorem refAdd_here (xb : Nat) (L : List Rt) (F : List Nat) (r : Rt) (w : World) (h : RibAt 51 w xb L F) (hl : L.length ≤ 256) (k : Nat) (hk : k < L.length)
    (k0 : ∀ w, Calls Tryz.prog 71 #[(.agg #[.int .i64 r.t, .int .u32 r.a, .int .i64 r.l, .int .i64 r.i, .int .u32 r.g, .int .i64 r.m])] w fun e w' => e = .returned (.bool true) ∧ Ext w w')
    (k1 : ∀ w', Ext w w' → Calls Tryz.prog 72 #[.pointer (some ⟨xb, 0, none⟩), (.agg #[.int .i64 r.t, .int .u32 r.a, .int .i64 r.l, .int .i64 r.i, .int .u32 r.g, .int .i64 r.m])] w' fun e w2 => e = .returned (.tuple #[.int .i64 (k : Nat), .bool true]) ∧ Ext w' w2) :
    Calls Tryz.prog 51 #[.pointer (some ⟨xb, 0, none⟩), (.agg #[.int .i64 r.t, .int .u32 r.a, .int .i64 r.l, .int .i64 r.i, .int .u32 r.g, .int .i64 r.m])] w fun e w' => e = .returned (.int .i64 0) ∧ RibAns 51 w xb F ((L.take k ++ [r]) ++ L.drop (k + 1)) w' := by
  obtain ⟨v, rfl, hX, hO⟩ := h
  obtain ⟨p, c, hv, hc1, -, hR⟩ := hO.slice
  subst hv
  have hA : Ext w (w.alloc (.cells #[.int .i64 r.t, .int .u32 r.a, .int .i64 r.l, .int .i64 r.i, .int .u32 r.g, .int .i64 r.m] 48)) := (Ext.refl w).alloc _
  have HB : Hid _ := heap_new w (.cells #[.int .i64 r.t, .int .u32 r.a, .int .i64 r.l, .int .i64 r.i, .int .u32 r.g, .int .i64 r.m] 48)
  obtain ⟨q0, q1, q2, q3, q4, q5⟩ := box_rtE HB.out
  have p0 := q0 _ (Ext.refl _)
  have p1 := q1 _ (Ext.refl _)
  have p2 := q2 _ (Ext.refl _)
  have p3 := q3 _ (Ext.refl _)
  have p4 := q4 _ (Ext.refl _)
  have p5 := q5 _ (Ext.refl _)
  have HX : Hid _ := hX
  have HO : Hid (OwnR w 0 (.slice p L.length c) L) := hO
  have u1 : ∀ w, (Instr.slice 22 (.slice p L.length c) none (some (.int .i64 k)) none).run Tryz.prog w = .ok (.slice p k c) w := cut_h p L.length c k (by omega)
  have u2 : ∀ w, (Instr.slice 22 (.slice p L.length c) (some (.int .i64 ((k : Int) + 1))) none none).run Tryz.prog w = .ok (.slice (if c = (k + 1) then p else p.map (·.add ((k + 1) * 6))) (L.length - (k + 1)) (c - (k + 1))) w := cut_l p L.length c (k + 1) (by omega) hc1
  have S1 : Hid (Rd w p k c (L.take k)) := hR.h (by omega) hc1
  have S2 : Hid (Rd w (if c = (k + 1) then p else p.map (·.add ((k + 1) * 6))) (L.length - (k + 1)) (c - (k + 1)) (L.drop (k + 1))) := hR.l (by omega) hc1
  generalize (if c = (k + 1) then p else p.map (·.add ((k + 1) * 6))) = p2' at *
  have wr1 : IntKind.i64.wrap ((k : Int) + 1) = (k : Int) + 1 := wraps_i64 _ (by omega) (by omega)
  clear hX hO hR
  go_enter Tryz.func51, Tryz.ntmps51
  go_wp2_with (first
    | (go_at_call 71; refine (k0 _).mono ?_; rintro e w0 ⟨rfl, hx0⟩; have r0 := q0 _ hx0; have r1 := q1 _ hx0; have r2 := q2 _ hx0; have r3 := q3 _ hx0; have r4 := q4 _ hx0; have r5 := q5 _ hx0)
    | (go_at_call 72; refine (k1 _ (hA.trans hx0)).mono ?_; rintro e w1 ⟨rfl, hx1⟩; have hxw := hA.trans (hx0.trans hx1); have v1 : w1.cell? ⟨xb, 0, none⟩ = some (.slice p L.length c) := (by rw [heap_cell (hxw.heap HX.out)]; rfl)))
  have HX1 : Hid (w1.heap[xb]? = some (.cells #[.slice p L.length c] 51 (0, 0))) := hxw.heap HX.out
  have HB1 : Hid (w1.heap[w.heap.size]? = some (.cells #[.int .i64 r.t, .int .u32 r.a, .int .i64 r.l, .int .i64 r.i, .int .u32 r.g, .int .i64 r.m] 48 (0, 0))) := (hx0.trans hx1).heap HB.out
  clear p0 p1 p2 p3 p4 p5 k0 k1 r0 r1 r2 r3 r4 r5 v1 q0 q1 q2 q3 q4 q5
  refine wp_region_makeN w1.heap.size w1.heap.size (Nat.le_refl _) [(1, 0), (2, 0), (3, 0), (4, 0), (5, 0), (6, 0), (8, 0), (0, 3), (9, 3), (0, 2), (7, 1), (9, 2), (10, 4), (11, 0)] (by kernel_rfl) (by kernel_rfl) rfl (by kernel_rfl) (fun _ _ _ _ _ => Iff.rfl) ?_
  have x0 : ∀ w', ExtN w1.heap.size w1.drew w' → w'.cell? ⟨xb, 0, none⟩ = some (.slice p L.length c) := fun w' h => by rw [heap_cell (h.heap (heap_lt HX1.out) HX1.out)]; rfl
  have hb : ∀ j w', ExtN w1.heap.size w1.drew w' → w'.cell? ⟨w.heap.size, j, none⟩ = #[.int .i64 r.t, .int .u32 r.a, .int .i64 r.l, .int .i64 r.i, .int .u32 r.g, .int .i64 r.m][j]? := fun j w' h => heap_cell (h.heap (heap_lt HB1.out) HB1.out)
  have t0 : ∀ w', ExtN w1.heap.size w1.drew w' → w'.cell? ⟨w.heap.size, 0, none⟩ = some (.int .i64 r.t) := hb 0
  have t1 : ∀ w', ExtN w1.heap.size w1.drew w' → w'.cell? ⟨w.heap.size, 1, none⟩ = some (.int .u32 r.a) := hb 1
  have t2 : ∀ w', ExtN w1.heap.size w1.drew w' → w'.cell? ⟨w.heap.size, 2, none⟩ = some (.int .i64 r.l) := hb 2
  have t3 : ∀ w', ExtN w1.heap.size w1.drew w' → w'.cell? ⟨w.heap.size, 3, none⟩ = some (.int .i64 r.i) := hb 3
  have t4 : ∀ w', ExtN w1.heap.size w1.drew w' → w'.cell? ⟨w.heap.size, 4, none⟩ = some (.int .u32 r.g) := hb 4
  have t5 : ∀ w', ExtN w1.heap.size w1.drew w' → w'.cell? ⟨w.heap.size, 5, none⟩ = some (.int .i64 r.m) := hb 5
  have hxd : Ext w1 w1.drew := (Ext.refl w1).drew
  clear hb
  generalize w1.drew = W at *
  iterate 7 (refine wpW_read (v := ?_) rfl (by rfl) ?_ ?_; rotate_left; (focus (intro w' hx; go_simp; first | done | with_reducible rfl)); simp only [Act.put, List.setIfInBounds_toArray, List.set_cons_zero, List.set_cons_succ])
  (refine wpW_say _ (fun g => .slice (some ⟨g, 0, none⟩) 0 0) rfl (by rfl) (fun w' => by go_simp; first | done | with_reducible rfl) ?_)
  (refine wpW_say _ (fun g => .slice (some ⟨g, 0, none⟩) 1 1) rfl (by rfl) (fun w' => by go_simp; first | done | with_reducible rfl) ?_)
  refine wpW_make _ (fun g => .slice (some ⟨g, 0, none⟩) 0 0) rfl (by rfl) (fun w' => by go_simp; first | done | with_reducible rfl) ?_; simp only [Act.put, List.setIfInBounds_toArray, List.set_cons_zero, List.set_cons_succ]
  intro W2 g hx2 hg2 hG
  refine wpW_call rfl (by rfl) (fun W3 hx3 K hK => ?_)
  refine wp_lit_rt (.tmp 27) (.tmp 33) rfl g rfl (hx3.heap hG) w1.heap.size hg2 p k c (L.take k) rfl (S1.out.ext (hxw.trans (hxd.trans (hx2.trans hx3)))) (by omega) ?_
  intro v4 W4 ho4 hx4
  refine hK _ _ hx4 ?_
  clear hK K
  simp only [Act.put, List.setIfInBounds_toArray, List.set_cons_zero, List.set_cons_succ]
  refine wpW_make _ (fun g => .slice (some ⟨g, 0, none⟩) 1 1) rfl (by rfl) (fun w' => by go_simp; first | done | with_reducible rfl) ?_; simp only [Act.put, List.setIfInBounds_toArray, List.set_cons_zero, List.set_cons_succ]
  intro W5 g5 hx5 hg5 hG5
  have ho5 := ho4.ext hx5
  have hx15 : Ext w1 W5 := hxd.trans (hx2.trans (hx3.trans (hx4.trans hx5)))
  refine wpW_last rfl (by rfl) (fun K hK => ?_)
  refine wp_app_rt (.tmp 34) (.tmp 36) rfl w1.heap.size v4 (L.take k) [r] rfl ho5 (some ⟨g5, 0, none⟩) 1 1 rfl (rd_lit hG5) (by rw [List.length_take]; omega) hx15.size ?_
  intro v6 W6 ho6 hg6 hat6
  have hn6 := Tri.grown_extN ho5 (Nat.le_refl _) hg6
  refine hK _ _ hn6 ?_
  clear hK K
  simp only [Act.put, List.setIfInBounds_toArray, List.set_cons_zero, List.set_cons_succ]
  (refine wpW_read (v := ?_) rfl (by rfl) ?_ ?_; rotate_left; (focus (intro w' hx; go_simp; first | done | with_reducible rfl)); simp only [Act.put, List.setIfInBounds_toArray, List.set_cons_zero, List.set_cons_succ])
  refine wpW_done ?_
  have hx16 : Ext w1 W6 := ExtN.ext hx15 hn6 (Nat.le_refl _)
  have HO6 : Hid (OwnR W6 w1.heap.size v6 (L.take k ++ [r])) := ho6
  clear x0 t0 t1 t2 t3 t4 t5 hG hG5 hg2 hg5 hx2 hx3 hx4 hx5 hxd ho4 ho5 hx15 hn6 hg6 ho6 hat6
  have v16 : W6.cell? ⟨xb, 0, none⟩ = some (.slice p L.length c) := by rw [heap_cell (hx16.heap HX1.out)]; rfl
  go_wp2_with (at_builtin; refine wpList_want rfl (fun K hK => wp_app_rt (.tmp 42) (.tmp 48) rfl w1.heap.size v6 (L.take k ++ [r]) (L.drop (k + 1)) rfl HO6.out p2' (L.length - (k + 1)) (c - (k + 1)) rfl (S2.out.ext (hxw.trans hx16)) (by rw [List.length_append, List.length_take, List.length_cons, List.length_nil]; omega) hx16.size ?_); intro v8 W8 ho8 hg8 hat8; have hN8 := Tri.grown_extN HO6.out (Nat.le_refl _) hg8; have hx18 : Ext w1 W8 := ExtN.ext hx16 hN8 (Nat.le_refl _); obtain ⟨p8, c8, hv8, -, -, -⟩ := ho8.slice; subst hv8; have HO8 : Hid (OwnR W8 w1.heap.size (.slice p8 ((L.take k ++ [r]) ++ L.drop (k + 1)).length c8) ((L.take k ++ [r]) ++ L.drop (k + 1))) := ho8; have e0 : W8.cell? ⟨xb, 0, none⟩ = some (.slice p L.length c) := (by rw [heap_cell (hx18.heap HX1.out)]; rfl); have f0 : W8.frozen? ⟨xb, 0, none⟩ = false := heap_frozen (hx18.heap HX1.out); clear ho8 hg8 hat8 hN8; generalize ((L.take k ++ [r]) ++ L.drop (k + 1)).length = n' at *; refine hK _ _ ?_; clear hK K)
  go_ret
  refine ⟨rfl, RibAns.from hxw ?_⟩
  exact RibAns.put HX1.out (by decide) (HO.out.ext hxw) (hx18.toS _) (HO8.out.base (Nat.zero_le _)) (fun x hx => .inr (HO8.out.lt x hx).1)

set_option maxHeartbeats 1000000 in
theorem refAdd_new (xb : Nat) (L : List Rt) (F : List Nat) (r : Rt) (w : World) (h : RibAt 51 w xb L F) (hl : L.length ≤ 256) (k : Nat) (hk : k ≤ L.length) (hroom : L.length < 256)
    (k0 : ∀ w, Calls Tryz.prog 71 #[(.agg #[.int .i64 r.t, .int .u32 r.a, .int .i64 r.l, .int .i64 r.i, .int .u32 r.g, .int .i64 r.m])] w fun e w' => e = .returned (.bool true) ∧ Ext w w')
    (k1 : ∀ w', Ext w w' → Calls Tryz.prog 72 #[.pointer (some ⟨xb, 0, none⟩), (.agg #[.int .i64 r.t, .int .u32 r.a, .int .i64 r.l, .int .i64 r.i, .int .u32 r.g, .int .i64 r.m])] w' fun e w2 => e = .returned (.tuple #[.int .i64 (k : Nat), .bool false]) ∧ Ext w' w2) :
    Calls Tryz.prog 51 #[.pointer (some ⟨xb, 0, none⟩), (.agg #[.int .i64 r.t, .int .u32 r.a, .int .i64 r.l, .int .i64 r.i, .int .u32 r.g, .int .i64 r.m])] w fun e w' => e = .returned (.int .i64 0) ∧ RibAns 51 w xb F ((L.take k ++ [r]) ++ L.drop k) w' := by
  obtain ⟨v, rfl, hX, hO⟩ := h
  obtain ⟨p, c, hv, hc1, -, hR⟩ := hO.slice
  subst hv
  have hA : Ext w (w.alloc (.cells #[.int .i64 r.t, .int .u32 r.a, .int .i64 r.l, .int .i64 r.i, .int .u32 r.g, .int .i64 r.m] 48)) := (Ext.refl w).alloc _
  have HB : Hid _ := heap_new w (.cells #[.int .i64 r.t, .int .u32 r.a, .int .i64 r.l, .int .i64 r.i, .int .u32 r.g, .int .i64 r.m] 48)
  obtain ⟨q0, q1, q2, q3, q4, q5⟩ := box_rtE HB.out
  have p0 := q0 _ (Ext.refl _)
  have p1 := q1 _ (Ext.refl _)
  have p2 := q2 _ (Ext.refl _)
  have p3 := q3 _ (Ext.refl _)
  have p4 := q4 _ (Ext.refl _)
  have p5 := q5 _ (Ext.refl _)
  have HX : Hid _ := hX
  have HO : Hid (OwnR w 0 (.slice p L.length c) L) := hO
  have u1 : ∀ w, (Instr.slice 22 (.slice p L.length c) none (some (.int .i64 k)) none).run Tryz.prog w = .ok (.slice p k c) w := cut_h p L.length c k (by omega)
  have u2 : ∀ w, (Instr.slice 22 (.slice p L.length c) (some (.int .i64 ((k : Int)))) none none).run Tryz.prog w = .ok (.slice (if c = k then p else p.map (·.add (k * 6))) (L.length - k) (c - k)) w := cut_l p L.length c k (by omega) hc1
  have S1 : Hid (Rd w p k c (L.take k)) := hR.h (by omega) hc1
  have S2 : Hid (Rd w (if c = k then p else p.map (·.add (k * 6))) (L.length - k) (c - k) (L.drop k)) := hR.l (by omega) hc1
  generalize (if c = k then p else p.map (·.add (k * 6))) = p2' at *
  have wr1 : IntKind.i64.wrap ((k : Int) + 1) = (k : Int) + 1 := wraps_i64 _ (by omega) (by omega)
  have hcap : (L.length : Int) < 256 := by omega
  clear hX hO hR
  go_enter Tryz.func51, Tryz.ntmps51
  go_wp2_with (first
    | (go_at_call 71; refine (k0 _).mono ?_; rintro e w0 ⟨rfl, hx0⟩; have r0 := q0 _ hx0; have r1 := q1 _ hx0; have r2 := q2 _ hx0; have r3 := q3 _ hx0; have r4 := q4 _ hx0; have r5 := q5 _ hx0)
    | (go_at_call 72; refine (k1 _ (hA.trans hx0)).mono ?_; rintro e w1 ⟨rfl, hx1⟩; have hxw := hA.trans (hx0.trans hx1); have v1 : w1.cell? ⟨xb, 0, none⟩ = some (.slice p L.length c) := (by rw [heap_cell (hxw.heap HX.out)]; rfl)))
  have HX1 : Hid (w1.heap[xb]? = some (.cells #[.slice p L.length c] 51 (0, 0))) := hxw.heap HX.out
  have HB1 : Hid (w1.heap[w.heap.size]? = some (.cells #[.int .i64 r.t, .int .u32 r.a, .int .i64 r.l, .int .i64 r.i, .int .u32 r.g, .int .i64 r.m] 48 (0, 0))) := (hx0.trans hx1).heap HB.out
  clear p0 p1 p2 p3 p4 p5 k0 k1 r0 r1 r2 r3 r4 r5 v1 q0 q1 q2 q3 q4 q5
  refine wp_region_makeN w1.heap.size w1.heap.size (Nat.le_refl _) [(1, 0), (2, 0), (3, 0), (4, 0), (5, 0), (6, 0), (8, 0), (0, 3), (9, 3), (0, 2), (7, 1), (9, 2), (10, 4), (11, 0)] (by kernel_rfl) (by kernel_rfl) rfl (by kernel_rfl) (fun _ _ _ _ _ => Iff.rfl) ?_
  have x0 : ∀ w', ExtN w1.heap.size w1.drew w' → w'.cell? ⟨xb, 0, none⟩ = some (.slice p L.length c) := fun w' h => by rw [heap_cell (h.heap (heap_lt HX1.out) HX1.out)]; rfl
  have hb : ∀ j w', ExtN w1.heap.size w1.drew w' → w'.cell? ⟨w.heap.size, j, none⟩ = #[.int .i64 r.t, .int .u32 r.a, .int .i64 r.l, .int .i64 r.i, .int .u32 r.g, .int .i64 r.m][j]? := fun j w' h => heap_cell (h.heap (heap_lt HB1.out) HB1.out)
  have t0 : ∀ w', ExtN w1.heap.size w1.drew w' → w'.cell? ⟨w.heap.size, 0, none⟩ = some (.int .i64 r.t) := hb 0
  have t1 : ∀ w', ExtN w1.heap.size w1.drew w' → w'.cell? ⟨w.heap.size, 1, none⟩ = some (.int .u32 r.a) := hb 1
  have t2 : ∀ w', ExtN w1.heap.size w1.drew w' → w'.cell? ⟨w.heap.size, 2, none⟩ = some (.int .i64 r.l) := hb 2
  have t3 : ∀ w', ExtN w1.heap.size w1.drew w' → w'.cell? ⟨w.heap.size, 3, none⟩ = some (.int .i64 r.i) := hb 3
  have t4 : ∀ w', ExtN w1.heap.size w1.drew w' → w'.cell? ⟨w.heap.size, 4, none⟩ = some (.int .u32 r.g) := hb 4
  have t5 : ∀ w', ExtN w1.heap.size w1.drew w' → w'.cell? ⟨w.heap.size, 5, none⟩ = some (.int .i64 r.m) := hb 5
  have hxd : Ext w1 w1.drew := (Ext.refl w1).drew
  clear hb
  generalize w1.drew = W at *
  iterate 7 (refine wpW_read (v := ?_) rfl (by rfl) ?_ ?_; rotate_left; (focus (intro w' hx; go_simp; first | done | with_reducible rfl)); simp only [Act.put, List.setIfInBounds_toArray, List.set_cons_zero, List.set_cons_succ])
  (refine wpW_say _ (fun g => .slice (some ⟨g, 0, none⟩) 0 0) rfl (by rfl) (fun w' => by go_simp; first | done | with_reducible rfl) ?_)
  (refine wpW_say _ (fun g => .slice (some ⟨g, 0, none⟩) 1 1) rfl (by rfl) (fun w' => by go_simp; first | done | with_reducible rfl) ?_)
  refine wpW_make _ (fun g => .slice (some ⟨g, 0, none⟩) 0 0) rfl (by rfl) (fun w' => by go_simp; first | done | with_reducible rfl) ?_; simp only [Act.put, List.setIfInBounds_toArray, List.set_cons_zero, List.set_cons_succ]
  intro W2 g hx2 hg2 hG
  refine wpW_call rfl (by rfl) (fun W3 hx3 K hK => ?_)
  refine wp_lit_rt (.tmp 27) (.tmp 33) rfl g rfl (hx3.heap hG) w1.heap.size hg2 p k c (L.take k) rfl (S1.out.ext (hxw.trans (hxd.trans (hx2.trans hx3)))) (by omega) ?_
  intro v4 W4 ho4 hx4
  refine hK _ _ hx4 ?_
  clear hK K
  simp only [Act.put, List.setIfInBounds_toArray, List.set_cons_zero, List.set_cons_succ]
  refine wpW_make _ (fun g => .slice (some ⟨g, 0, none⟩) 1 1) rfl (by rfl) (fun w' => by go_simp; first | done | with_reducible rfl) ?_; simp only [Act.put, List.setIfInBounds_toArray, List.set_cons_zero, List.set_cons_succ]
  intro W5 g5 hx5 hg5 hG5
  have ho5 := ho4.ext hx5
  have hx15 : Ext w1 W5 := hxd.trans (hx2.trans (hx3.trans (hx4.trans hx5)))
  refine wpW_last rfl (by rfl) (fun K hK => ?_)
  refine wp_app_rt (.tmp 34) (.tmp 36) rfl w1.heap.size v4 (L.take k) [r] rfl ho5 (some ⟨g5, 0, none⟩) 1 1 rfl (rd_lit hG5) (by rw [List.length_take]; omega) hx15.size ?_
  intro v6 W6 ho6 hg6 hat6
  have hn6 := Tri.grown_extN ho5 (Nat.le_refl _) hg6
  refine hK _ _ hn6 ?_
  clear hK K
  simp only [Act.put, List.setIfInBounds_toArray, List.set_cons_zero, List.set_cons_succ]
  (refine wpW_read (v := ?_) rfl (by rfl) ?_ ?_; rotate_left; (focus (intro w' hx; go_simp; first | done | with_reducible rfl)); simp only [Act.put, List.setIfInBounds_toArray, List.set_cons_zero, List.set_cons_succ])
  refine wpW_done ?_
  have hx16 : Ext w1 W6 := ExtN.ext hx15 hn6 (Nat.le_refl _)
  have HO6 : Hid (OwnR W6 w1.heap.size v6 (L.take k ++ [r])) := ho6
  clear x0 t0 t1 t2 t3 t4 t5 hG hG5 hg2 hg5 hx2 hx3 hx4 hx5 hxd ho4 ho5 hx15 hn6 hg6 ho6 hat6
  have v16 : W6.cell? ⟨xb, 0, none⟩ = some (.slice p L.length c) := by rw [heap_cell (hx16.heap HX1.out)]; rfl
  go_wp2_with (at_builtin; refine wpList_want rfl (fun K hK => wp_app_rt (.tmp 42) (.tmp 48) rfl w1.heap.size v6 (L.take k ++ [r]) (L.drop k) rfl HO6.out p2' (L.length - k) (c - k) rfl (S2.out.ext (hxw.trans hx16)) (by rw [List.length_append, List.length_take, List.length_cons, List.length_nil]; omega) hx16.size ?_); intro v8 W8 ho8 hg8 hat8; have hN8 := Tri.grown_extN HO6.out (Nat.le_refl _) hg8; have hx18 : Ext w1 W8 := ExtN.ext hx16 hN8 (Nat.le_refl _); obtain ⟨p8, c8, hv8, -, -, -⟩ := ho8.slice; subst hv8; have HO8 : Hid (OwnR W8 w1.heap.size (.slice p8 ((L.take k ++ [r]) ++ L.drop k).length c8) ((L.take k ++ [r]) ++ L.drop k)) := ho8; have e0 : W8.cell? ⟨xb, 0, none⟩ = some (.slice p L.length c) := (by rw [heap_cell (hx18.heap HX1.out)]; rfl); have f0 : W8.frozen? ⟨xb, 0, none⟩ = false := heap_frozen (hx18.heap HX1.out); clear ho8 hg8 hat8 hN8; generalize ((L.take k ++ [r]) ++ L.drop k).length = n' at *; refine hK _ _ ?_; clear hK K)
  go_ret
  refine ⟨rfl, RibAns.from hxw ?_⟩
  exact RibAns.put HX1.out (by decide) (HO.out.ext hxw) (hx18.toS _) (HO8.out.base (Nat.zero_le _)) (fun x hx => .inr (HO8.out.lt x hx).1)
end Go.Proofs.YtkfhkhgiojpfoaaGreat.Rb

namespace Go.Proofs.YtkfhkhgiojpfoaaGreat.Rb

set_option maxRecDepth 100000

open Go.RowKit Go.Proofs.YtkfhkhgiojpfoaaGreat

set_option linter.unusedVariables false

set_option linter.unusedSimpArgs false

theorem rt_size : (Tryz.prog.info? 48).map (·.size) = some 6 := by kernel_rfl

/-- What best's blocks hold: the result, and what was found. -/
def BestW (w wr : World) (o : Option Rt) : Prop := Ext w wr ∧ wr.heap[w.heap.size]? = some (.cells #[.int .i64 zeroR.t, .int .u32 zeroR.a, .int .i64 zeroR.l, .int .i64 zeroR.i, .int .u32 zeroR.g, .int .i64 zeroR.m] 48 (0, 0)) ∧ wr.heap[w.heap.size + 1]? = some (.cells #[.int .i64 (theR o).t, .int .u32 (theR o).a, .int .i64 (theR o).l, .int .i64 (theR o).i, .int .u32 (theR o).g, .int .i64 (theR o).m] 48 (0, 0))

theorem BestW.ext {w wr w' : World} {o : Option Rt} (h : BestW w wr o) (hx : Ext wr w') : BestW w w' o := ⟨h.1.trans hx, hx.heap h.2.1, hx.heap h.2.2⟩

theorem BestW.put {w wr w' : World} {o : Option Rt} {x : Rt} (h : BestW w wr o) (hx : ExtX (w.heap.size + 1) wr w') (hc : w'.heap[w.heap.size + 1]? = some (.cells #[.int .i64 x.t, .int .u32 x.a, .int .i64 x.l, .int .i64 x.i, .int .u32 x.g, .int .i64 x.m] 48 (0, 0))) : BestW w w' (some x) :=
  ⟨ExtX.ext h.1 hx (by omega), (hx.block _ (heap_lt h.2.1) (by omega)).trans h.2.1, hc⟩

theorem BestW.new (w : World) : BestW w ((w.alloc (.cells #[.int .i64 zeroR.t, .int .u32 zeroR.a, .int .i64 zeroR.l, .int .i64 zeroR.i, .int .u32 zeroR.g, .int .i64 zeroR.m] 48)).alloc (.cells #[.int .i64 zeroR.t, .int .u32 zeroR.a, .int .i64 zeroR.l, .int .i64 zeroR.i, .int .u32 zeroR.g, .int .i64 zeroR.m] 48)) none := by
  obtain ⟨h1, h2, h3⟩ := two_boxes w #[.int .i64 zeroR.t, .int .u32 zeroR.a, .int .i64 zeroR.l, .int .i64 zeroR.i, .int .u32 zeroR.g, .int .i64 zeroR.m] #[.int .i64 zeroR.t, .int .u32 zeroR.a, .int .i64 zeroR.l, .int .i64 zeroR.i, .int .u32 zeroR.g, .int .i64 zeroR.m] 48
  exact ⟨h1, h2, h3⟩

def BestAns (w : World) (o : Option Rt) (e : Ending) (w' : World) : Prop := e = .returned (.tuple #[(.agg #[.int .i64 (theR o).t, .int .u32 (theR o).a, .int .i64 (theR o).l, .int .i64 (theR o).i, .int .u32 (theR o).g, .int .i64 (theR o).m]), .bool o.isSome]) ∧ Ext w w'

set_option maxHeartbeats 2000000 in
theorem best_any (p : Option Addr) (n c : Nat) (L : List Rt) (q : Option Addr) (m d : Nat) (U : List Bool) (w : World) (hR : Rd w p n c L) (hn : n ≤ 1000000) (hU : Ups w q m U) (h0 : ∀ x ∈ L, 0 ≤ x.i) :
    Calls Tryz.prog 114 #[.slice p n c, .slice q m d] w (BestAns w (bestL U L)) := by
  have HR : Hid (Rd w p n c L) := hR
  have HL : Hid (L.length = n) := hR.len
  have HU : Hid (Ups w q m U) := hU
  have H0 : Hid _ := h0
  have HB : Hid _ := BestW.new w
  clear hR hU h0
  go_enter Tryz.func114, Tryz.ntmps114
  go_wp2_with fail
  go_loopg [7, 12] n (fun kx s7 s12 wr => ∃ k : Nat, s12 = .int .i64 k ∧ s7 = .bool (bestL U (L.take k)).isSome ∧ k ≤ n ∧ n - k ≤ kx ∧ Hid (BestW w wr (bestL U (L.take k))))
  case atStart => exact ⟨0, rfl, rfl, Nat.zero_le _, by omega, HB⟩
  case round =>
    obtain ⟨k, rfl, rfl, hkn, hkx, HW⟩ := hrel
    clear HB
    by_cases hlt : k < n
    · obtain ⟨x, hxk⟩ : ∃ x, L[k]? = some x := ⟨_, List.getElem?_eq_getElem (by rw [HL.out]; omega)⟩
      have hx0 : 0 ≤ x.i := H0.out x (List.mem_of_getElem? hxk)
      have hst := bestL_take (U := U) hxk
      obtain ⟨b, off, rfl, hb, g0, g1, g2, g3, g4, g5⟩ := (HR.out.ext HW.out.1).cell hxk
      generalize bestL U (L.take k) = o at *
      generalize hO' : bestL U (L.take (k + 1)) = o' at hst
      have HO' : Hid _ := hO'
      clear hO'
      have hA : Ext wr (wr.alloc (.cells #[.int .i64 x.t, .int .u32 x.a, .int .i64 x.l, .int .i64 x.i, .int .u32 x.g, .int .i64 x.m] 48)) := (Ext.refl wr).alloc _
      have HX : Hid _ := box_rtE (heap_new wr (.cells #[.int .i64 x.t, .int .u32 x.a, .int .i64 x.l, .int .i64 x.i, .int .u32 x.g, .int .i64 x.m] 48))
      have ku := fun w' (hx : Ext w w') => isUp_any x q m d U w' (HU.out.ext hx) hx0
      have hki : (k : Int) < (n : Int) := by omega
      have HE : Hid (Ext w wr) := HW.out.1
      have W1 : Hid (BestW w (wr.alloc (.cells #[.int .i64 x.t, .int .u32 x.a, .int .i64 x.l, .int .i64 x.i, .int .u32 x.g, .int .i64 x.m] 48)) o) := HW.out.ext hA
      obtain ⟨a0, a1, a2, a3, a4, a5⟩ := HX.out
      have y0 := a0 _ (Ext.refl _)
      have y1 := a1 _ (Ext.refl _)
      have y2 := a2 _ (Ext.refl _)
      have y3 := a3 _ (Ext.refl _)
      have y4 := a4 _ (Ext.refl _)
      have y5 := a5 _ (Ext.refl _)
      cases hu : upB U x.i with
      | false =>
        have ho : o' = o := by rw [hst]; unfold stepB; rw [hu]; simp
        rw [hu] at ku
        clear hst hu hxk
        go_wp2_with (go_at_call 137; refine (ku _ (HE.out.trans hA)).mono ?_; rintro e w2 ⟨rfl, hx2⟩)
        go_roundg (n - (k + 1))
        case measure => omega
        case rel => exact ⟨k + 1, by go_num, by rw [HO'.out, ho], by omega, Nat.le_refl _, (by rw [HO'.out, ho]; exact W1.out.ext hx2 : BestW w w2 (bestL U (L.take (k + 1))))⟩
      | true =>
        rw [hu] at ku
        cases o with
        | none =>
          have ho : o' = some x := by rw [hst]; unfold stepB okB; rw [hu]; simp
          clear hst hu hxk
          go_wp2_with (first
            | (go_at_call 137; refine (ku _ (HE.out.trans hA)).mono ?_; rintro e w2 ⟨rfl, hx2⟩; have W2 : Hid (BestW w w2 none) := W1.out.ext hx2; have u0 := a0 _ hx2; have u1 := a1 _ hx2; have u2 := a2 _ hx2; have u3 := a3 _ hx2; have u4 := a4 _ hx2; have u5 := a5 _ hx2)
            | (refine wpl_store (by rfl) 48 _ _ rfl rfl 6 (w.heap.size + 1) #[.int .i64 x.t, .int .u32 x.a, .int .i64 x.l, .int .i64 x.i, .int .u32 x.g, .int .i64 x.m] _ _ rfl rfl W2.out.2.2 rt_size rfl rfl (by simp [Value.oneCell']) ?_; intro w5 hx5 k5))
          go_roundg (n - (k + 1))
          case measure => omega
          case rel => exact ⟨k + 1, by go_num, by rw [HO'.out, ho]; rfl, by omega, Nat.le_refl _, (by rw [HO'.out, ho]; exact W2.out.put hx5 k5 : BestW w w5 (bestL U (L.take (k + 1))))⟩
        | some z =>
          have kb := fun w => better_any x z w
          cases hbt : betB x z with
          | true =>
            rw [hbt] at kb
            have ho : o' = some x := by rw [hst]; unfold stepB okB; rw [hu]; simp [hbt]
            clear hst hu hbt hxk
            go_wp2_with (first
              | (go_at_call 137; refine (ku _ (HE.out.trans hA)).mono ?_; rintro e w2 ⟨rfl, hx2⟩; have W2 : Hid (BestW w w2 (some z)) := W1.out.ext hx2; have u0 := a0 _ hx2; have u1 := a1 _ hx2; have u2 := a2 _ hx2; have u3 := a3 _ hx2; have u4 := a4 _ hx2; have u5 := a5 _ hx2; obtain ⟨z0, z1, z2, z3, z4, z5⟩ := box_rtE W2.out.2.2; have f0 := z0 _ (Ext.refl _); have f1 := z1 _ (Ext.refl _); have f2 := z2 _ (Ext.refl _); have f3 := z3 _ (Ext.refl _); have f4 := z4 _ (Ext.refl _); have f5 := z5 _ (Ext.refl _); clear z0 z1 z2 z3 z4 z5)
              | (go_at_call 138; refine (kb _).mono ?_; rintro e w3 ⟨rfl, hx3⟩; have W3 : Hid (BestW w w3 (some z)) := W2.out.ext hx3; replace hx2 := hx2.trans hx3; clear u0 u1 u2 u3 u4 u5; have u0 := a0 _ hx2; have u1 := a1 _ hx2; have u2 := a2 _ hx2; have u3 := a3 _ hx2; have u4 := a4 _ hx2; have u5 := a5 _ hx2)
              | (refine wpl_store (by rfl) 48 _ _ rfl rfl 6 (w.heap.size + 1) #[.int .i64 x.t, .int .u32 x.a, .int .i64 x.l, .int .i64 x.i, .int .u32 x.g, .int .i64 x.m] _ _ rfl rfl W3.out.2.2 rt_size rfl rfl (by simp [Value.oneCell']) ?_; intro w5 hx5 k5))
            go_roundg (n - (k + 1))
            case measure => omega
            case rel => exact ⟨k + 1, by go_num, by rw [HO'.out, ho]; rfl, by omega, Nat.le_refl _, (by rw [HO'.out, ho]; exact W3.out.put hx5 k5 : BestW w w5 (bestL U (L.take (k + 1))))⟩
          | false =>
            rw [hbt] at kb
            have ho : o' = some z := by rw [hst]; unfold stepB okB; rw [hu]; simp [hbt]
            clear hst hu hbt hxk
            go_wp2_with (first
              | (go_at_call 137; refine (ku _ (HE.out.trans hA)).mono ?_; rintro e w2 ⟨rfl, hx2⟩; have W2 : Hid (BestW w w2 (some z)) := W1.out.ext hx2; have u0 := a0 _ hx2; have u1 := a1 _ hx2; have u2 := a2 _ hx2; have u3 := a3 _ hx2; have u4 := a4 _ hx2; have u5 := a5 _ hx2; obtain ⟨z0, z1, z2, z3, z4, z5⟩ := box_rtE W2.out.2.2; have f0 := z0 _ (Ext.refl _); have f1 := z1 _ (Ext.refl _); have f2 := z2 _ (Ext.refl _); have f3 := z3 _ (Ext.refl _); have f4 := z4 _ (Ext.refl _); have f5 := z5 _ (Ext.refl _); clear z0 z1 z2 z3 z4 z5)
              | (go_at_call 138; refine (kb _).mono ?_; rintro e w3 ⟨rfl, hx3⟩; have W3 : Hid (BestW w w3 (some z)) := W2.out.ext hx3))
            go_roundg (n - (k + 1))
            case measure => omega
            case rel => exact ⟨k + 1, by go_num, by rw [HO'.out, ho]; rfl, by omega, Nat.le_refl _, (by rw [HO'.out, ho]; exact W3.out : BestW w w3 (bestL U (L.take (k + 1))))⟩
    · obtain rfl : k = n := by omega
      rw [List.take_of_length_le (by rw [HL.out]; exact Nat.le_refl _)] at *
      generalize bestL U L = o at *
      obtain ⟨z0, z1, z2, z3, z4, z5⟩ := box_rtE HW.out.2.2
      have f0 := z0 _ (Ext.refl _)
      have f1 := z1 _ (Ext.refl _)
      have f2 := z2 _ (Ext.refl _)
      have f3 := z3 _ (Ext.refl _)
      have f4 := z4 _ (Ext.refl _)
      have f5 := z5 _ (Ext.refl _)
      clear z0 z1 z2 z3 z4 z5
      go_wp2_with (refine wpl_store (by rfl) 48 _ _ rfl rfl 6 w.heap.size #[.int .i64 (theR o).t, .int .u32 (theR o).a, .int .i64 (theR o).l, .int .i64 (theR o).i, .int .u32 (theR o).g, .int .i64 (theR o).m] _ _ rfl rfl HW.out.2.1 rt_size rfl rfl (by simp [Value.oneCell']) ?_; intro w5 hx5 k5)
      exact bodyPost_ret (results_two Tryz.results114 _ rfl k5 Tryz.underlying48 rfl rt_size) rfl ⟨rfl, ExtX.ext HW.out.1 hx5 (Nat.le_refl _)⟩
end Go.Proofs.YtkfhkhgiojpfoaaGreat.Rb
