/- The document's side: Is, before, place, Better, On. -/
import Derived.Test.YtbchfmadmcppkaaRib6
import Derived.Test.YtbchfmadmcppkaaRib8
import Derived.Test.YtbchfmadmcppkaaRef3
namespace Go.Proofs.Ytbchfmadmcppkaa.Rb
set_option maxRecDepth 100000
open Go.RowKit Go.Proofs.Ytbchfmadmcppkaa
set_option linter.unusedVariables false
set_option linter.unusedSimpArgs false

theorem neq_prefix (a n b m : Int) (w : World) : (binOp .neq 25 (.agg #[.int .u32 a, .int .i64 n]) (.agg #[.int .u32 b, .int .i64 m])).run Try.prog w = .ok (.bool (!(a == b && n == m))) w := by
  have h := eql_prefix a n b m w
  rw [run_eql_struct] at h
  rw [run_neq_struct]
  revert h
  cases (Op.equalIn 10000 25 (.agg #[.int .u32 a, .int .i64 n]) (.agg #[.int .u32 b, .int .i64 m])).run Try.prog w with
  | ok v w1 => intro h; simp only [Result.andThen_ok] at h ⊢; cases h; rfl
  | _ => intro h; simp [Result.andThen] at h

theorem before3_any (a n b m : Int) (w : World) :
    Calls Try.prog 66 #[.agg #[.int .u32 a, .int .i64 n], .agg #[.int .u32 b, .int .i64 m]] w fun e w' => e = .returned (.bool (decide (a < b) || (decide (a = b) && decide (n < m)))) ∧ Ext w w' := by
  have hx0 : Ext w ((w.alloc (.cells #[.int .u32 a, .int .i64 n] 25)).alloc (.cells #[.int .u32 b, .int .i64 m] 25)) := ((Ext.refl w).alloc _).alloc _
  by_cases e : a = b
  · have e' : (a == b) = true := by simpa using e
    have hr : (decide (a < b) || (decide (a = b) && decide (n < m))) = decide (n < m) := by simp [e]
    rw [hr]
    clear hr e
    go_enter Try.func66, Try.ntmps66
    go_wp2_with fail
    go_ret
    exact ⟨rfl, hx0⟩
  · have e' : (a == b) = false := by simpa using e
    have hr : (decide (a < b) || (decide (a = b) && decide (n < m))) = decide (a < b) := by simp [e]
    rw [hr]
    clear hr
    go_enter Try.func66, Try.ntmps66
    go_wp2_with fail
    go_ret
    exact ⟨rfl, hx0⟩

theorem ltB_t {x y : Rt} (h : ¬ x.t = y.t) : ltB x y = decide (x.t < y.t) := by
  rw [Bool.eq_iff_iff, ltB_iff, decide_eq_true_iff]
  unfold Lt5
  omega

theorem ltB_p {x y : Rt} (h : x.t = y.t) (k : ¬ (x.a = y.a ∧ x.l = y.l)) : ltB x y = (decide (x.a < y.a) || (decide (x.a = y.a) && decide (x.l < y.l))) := by
  rw [Bool.eq_iff_iff, ltB_iff]
  simp only [Bool.or_eq_true, Bool.and_eq_true, decide_eq_true_iff]
  unfold Lt5
  omega

theorem ltB_i {x y : Rt} (h : x.t = y.t) (k : x.a = y.a ∧ x.l = y.l) (m : ¬ x.i = y.i) : ltB x y = decide (x.i < y.i) := by
  rw [Bool.eq_iff_iff, ltB_iff, decide_eq_true_iff]
  unfold Lt5
  omega

theorem ltB_g {x y : Rt} (h : x.t = y.t) (k : x.a = y.a ∧ x.l = y.l) (m : x.i = y.i) : ltB x y = decide (x.g < y.g) := by
  rw [Bool.eq_iff_iff, ltB_iff, decide_eq_true_iff]
  unfold Lt5
  omega

theorem betB_m {x y : Rt} (h : ¬ x.m = y.m) : betB x y = decide (x.m < y.m) := by
  rw [Bool.eq_iff_iff, betB_iff, decide_eq_true_iff]
  unfold Lt3
  omega

theorem betB_i {x y : Rt} (h : x.m = y.m) (m : ¬ x.i = y.i) : betB x y = decide (x.i < y.i) := by
  rw [Bool.eq_iff_iff, betB_iff, decide_eq_true_iff]
  unfold Lt3
  omega

theorem betB_g {x y : Rt} (h : x.m = y.m) (m : x.i = y.i) : betB x y = decide (x.g < y.g) := by
  rw [Bool.eq_iff_iff, betB_iff, decide_eq_true_iff]
  unfold Lt3
  omega

theorem before_any (x y : Rt) (w : World) : Calls Try.prog 57 #[(.agg #[.int .i64 x.t, .int .u32 x.a, .int .i64 x.l, .int .i64 x.i, .int .u32 x.g, .int .i64 x.m]), (.agg #[.int .i64 y.t, .int .u32 y.a, .int .i64 y.l, .int .i64 y.i, .int .u32 y.g, .int .i64 y.m])] w fun e w' => e = .returned (.bool (ltB x y)) ∧ Ext w w' := by
  obtain ⟨hX, hA, hB⟩ := two_boxes w #[.int .i64 x.t, .int .u32 x.a, .int .i64 x.l, .int .i64 x.i, .int .u32 x.g, .int .i64 x.m] #[.int .i64 y.t, .int .u32 y.a, .int .i64 y.l, .int .i64 y.i, .int .u32 y.g, .int .i64 y.m] 27
  obtain ⟨a0, a1, a2, a3, a4, a5⟩ := box_rtE hA
  obtain ⟨b0, b1, b2, b3, b4, b5⟩ := box_rtE hB
  have p0 := a0 _ (Ext.refl _)
  have p1 := a1 _ (Ext.refl _)
  have p2 := a2 _ (Ext.refl _)
  have p3 := a3 _ (Ext.refl _)
  have p4 := a4 _ (Ext.refl _)
  have q0 := b0 _ (Ext.refl _)
  have q1 := b1 _ (Ext.refl _)
  have q2 := b2 _ (Ext.refl _)
  have q3 := b3 _ (Ext.refl _)
  have q4 := b4 _ (Ext.refl _)
  have np := fun w => neq_prefix x.a x.l y.a y.l w
  have kb := fun w => before3_any x.a x.l y.a y.l w
  clear hA hB a0 a1 a2 a3 a4 a5 b0 b1 b2 b3 b4 b5
  by_cases h1 : x.t = y.t
  · by_cases h2 : x.a = y.a ∧ x.l = y.l
    · have e2 : (!(x.a == y.a && x.l == y.l)) = false := by simp [h2.1, h2.2]
      rw [e2] at np
      by_cases h3 : x.i = y.i
      · rw [ltB_g h1 h2 h3]
        have h1a : (x.t == y.t) = true := by simpa using h1
        have h1b : (x.t != y.t) = false := by simp [h1]
        have h1c : decide (x.t = y.t) = true := by simpa using h1
        have h3a : (x.i == y.i) = true := by simpa using h3
        have h3b : (x.i != y.i) = false := by simp [h3]
        have h3c : decide (x.i = y.i) = true := by simpa using h3
        clear h2 e2 kb h1 h3
        go_enter Try.func57, Try.ntmps57
        go_wp2_with fail
        go_ret
        exact ⟨rfl, hX⟩
      · rw [ltB_i h1 h2 h3]
        have h1a : (x.t == y.t) = true := by simpa using h1
        have h1b : (x.t != y.t) = false := by simp [h1]
        have h1c : decide (x.t = y.t) = true := by simpa using h1
        clear h2 e2 kb h1
        go_enter Try.func57, Try.ntmps57
        go_wp2_with fail
        go_ret
        exact ⟨rfl, hX⟩
    · have e2 : (!(x.a == y.a && x.l == y.l)) = true := by
        by_cases h3 : x.a = y.a
        · have h4 : ¬ x.l = y.l := fun h => h2 ⟨h3, h⟩
          simp [h3, h4]
        · simp [h3]
      rw [e2] at np
      rw [ltB_p h1 h2]
      have h1a : (x.t == y.t) = true := by simpa using h1
      have h1b : (x.t != y.t) = false := by simp [h1]
      have h1c : decide (x.t = y.t) = true := by simpa using h1
      clear h2 e2 h1
      generalize (decide (x.a < y.a) || (decide (x.a = y.a) && decide (x.l < y.l))) = b at *
      go_enter Try.func57, Try.ntmps57
      go_wp2_with (go_at_call 66; refine (kb _).mono ?_; rintro e w1 ⟨rfl, hx1⟩)
      go_ret
      exact ⟨rfl, hX.trans hx1⟩
  · rw [ltB_t h1]
    clear kb np
    go_enter Try.func57, Try.ntmps57
    go_wp2_with fail
    go_ret
    exact ⟨rfl, hX⟩

theorem refBetter_any (x y : Rt) (w : World) : Calls Try.prog 22 #[(.agg #[.int .i64 x.t, .int .u32 x.a, .int .i64 x.l, .int .i64 x.i, .int .u32 x.g, .int .i64 x.m]), (.agg #[.int .i64 y.t, .int .u32 y.a, .int .i64 y.l, .int .i64 y.i, .int .u32 y.g, .int .i64 y.m])] w fun e w' => e = .returned (.bool (betB x y)) ∧ Ext w w' := by
  obtain ⟨hX, hA, hB⟩ := two_boxes w #[.int .i64 x.t, .int .u32 x.a, .int .i64 x.l, .int .i64 x.i, .int .u32 x.g, .int .i64 x.m] #[.int .i64 y.t, .int .u32 y.a, .int .i64 y.l, .int .i64 y.i, .int .u32 y.g, .int .i64 y.m] 27
  obtain ⟨a0, a1, a2, a3, a4, a5⟩ := box_rtE hA
  obtain ⟨b0, b1, b2, b3, b4, b5⟩ := box_rtE hB
  have p3 := a3 _ (Ext.refl _)
  have p4 := a4 _ (Ext.refl _)
  have p5 := a5 _ (Ext.refl _)
  have q3 := b3 _ (Ext.refl _)
  have q4 := b4 _ (Ext.refl _)
  have q5 := b5 _ (Ext.refl _)
  clear hA hB a0 a1 a2 a3 a4 a5 b0 b1 b2 b3 b4 b5
  by_cases h1 : x.m = y.m
  · by_cases h3 : x.i = y.i
    · rw [betB_g h1 h3]
      have h1a : (x.m == y.m) = true := by simpa using h1
      have h1b : (x.m != y.m) = false := by simp [h1]
      have h1c : decide (x.m = y.m) = true := by simpa using h1
      have h3a : (x.i == y.i) = true := by simpa using h3
      have h3b : (x.i != y.i) = false := by simp [h3]
      have h3c : decide (x.i = y.i) = true := by simpa using h3
      clear h1 h3
      go_enter Try.func22, Try.ntmps22
      go_wp2_with fail
      go_ret
      exact ⟨rfl, hX⟩
    · rw [betB_i h1 h3]
      have h1a : (x.m == y.m) = true := by simpa using h1
      have h1b : (x.m != y.m) = false := by simp [h1]
      have h1c : decide (x.m = y.m) = true := by simpa using h1
      clear h1
      go_enter Try.func22, Try.ntmps22
      go_wp2_with fail
      go_ret
      exact ⟨rfl, hX⟩
  · rw [betB_m h1]
    go_enter Try.func22, Try.ntmps22
    go_wp2_with fail
    go_ret
    exact ⟨rfl, hX⟩

theorem on_any (i : Int) (q : Option Addr) (m d : Nat) (U : List Bool) (w : World) (hU : Ups w q m U) :
    Calls Try.prog 27 #[.slice q m d, .int .i64 i] w fun e w' => e = .returned (.bool (upB U i)) ∧ Ext w w' := by
  have hl := hU.len
  by_cases h0 : 0 ≤ i
  · by_cases hlt : i < (m : Int)
    · have hn : i.toNat < U.length := by omega
      obtain ⟨u, hu⟩ : ∃ u, U[i.toNat]? = some u := ⟨_, List.getElem?_eq_getElem hn⟩
      have he : upB U i = u := by unfold upB; simp [h0, hu]
      rcases hU.cells with e | ⟨b, off, rfl, hc⟩
      · omega
      · have hcu := hc _ u hu
        rw [he]
        clear hc hu he hU hl hn
        go_enter Try.func27, Try.ntmps27
        go_wp2_with fail
        go_ret
        exact ⟨rfl, Ext.refl w⟩
    · have he : upB U i = false := by
        unfold upB
        rw [List.getElem?_eq_none (by omega)]
        simp
      rw [he]
      clear hU hl he
      go_enter Try.func27, Try.ntmps27
      go_wp2_with fail
      go_ret
      exact ⟨rfl, Ext.refl w⟩
  · have he : upB U i = false := by unfold upB; simp [h0]
    rw [he]
    clear hU hl he
    go_enter Try.func27, Try.ntmps27
    go_wp2_with fail
    go_ret
    exact ⟨rfl, Ext.refl w⟩

theorem refIs_any' (r : Rt) (w : World) (a0 : 0 ≤ r.a) (a1 : r.a ≤ 4294967295) : Calls Try.prog 15 #[(.agg #[.int .i64 r.t, .int .u32 r.a, .int .i64 r.l, .int .i64 r.i, .int .u32 r.g, .int .i64 r.m])] w fun e w' => e = .returned (.bool (isR r)) ∧ Ext w w' := by
  have k2 := fun w => refIs_any r.a r.l w a0 a1
  have hA : Ext w (w.alloc (.cells #[.int .i64 r.t, .int .u32 r.a, .int .i64 r.l, .int .i64 r.i, .int .u32 r.g, .int .i64 r.m] 27)) := (Ext.refl w).alloc _
  obtain ⟨q0, q1, q2, q3, q4, q5⟩ := box_rtE (heap_new w (.cells #[.int .i64 r.t, .int .u32 r.a, .int .i64 r.l, .int .i64 r.i, .int .u32 r.g, .int .i64 r.m] 27))
  have p0 := q0 _ (Ext.refl _)
  have p1 := q1 _ (Ext.refl _)
  have p2 := q2 _ (Ext.refl _)
  by_cases c1 : 0 ≤ r.t
  rotate_left
  · have he : isR r = false := by
      have hn : ¬ (0 ≤ r.t) := by omega
      unfold isR; simp [hn]
    go_enter Try.func15, Try.ntmps15
    go_wp2_with fail
    go_ret
    exact ⟨by first | rfl | (rw [he]; rfl) | (show Ending.returned (Value.bool (decide (r.m ≤ 255))) = Ending.returned (Value.bool _); rw [he, decide_eq_false (show ¬ r.m ≤ 255 by omega)]), hA⟩
  by_cases c2 : r.t < 4
  rotate_left
  · have he : isR r = false := by
      have hn : ¬ (r.t ≤ 3) := by omega
      unfold isR; simp [hn]
    go_enter Try.func15, Try.ntmps15
    go_wp2_with fail
    go_ret
    exact ⟨by first | rfl | (rw [he]; rfl) | (show Ending.returned (Value.bool (decide (r.m ≤ 255))) = Ending.returned (Value.bool _); rw [he, decide_eq_false (show ¬ r.m ≤ 255 by omega)]), hA⟩
  cases c3 : isV r.a r.l with
  | false =>
    rw [c3] at k2
    have he : isR r = false := by unfold isR; rw [c3]; simp
    clear c3
    go_enter Try.func15, Try.ntmps15
    go_wp2_with (go_at_call 33; refine (k2 _).mono ?_; rintro e w1 ⟨rfl, hx1⟩; have u3 := q3 _ hx1; have u5 := q5 _ hx1)
    go_ret
    exact ⟨by first | rfl | (rw [he]; rfl) | (show Ending.returned (Value.bool (decide (r.m ≤ 255))) = Ending.returned (Value.bool _); rw [he, decide_eq_false (show ¬ r.m ≤ 255 by omega)]), hA.trans hx1⟩
  | true =>
    rw [c3] at k2
    by_cases c4 : 0 ≤ r.i
    rotate_left
    · have he : isR r = false := by
        have hn : ¬ (0 ≤ r.i) := by omega
        unfold isR; simp [hn]
      clear c3
      go_enter Try.func15, Try.ntmps15
      go_wp2_with (go_at_call 33; refine (k2 _).mono ?_; rintro e w1 ⟨rfl, hx1⟩; have u3 := q3 _ hx1; have u5 := q5 _ hx1)
      go_ret
      exact ⟨by first | rfl | (rw [he]; rfl) | (show Ending.returned (Value.bool (decide (r.m ≤ 255))) = Ending.returned (Value.bool _); rw [he, decide_eq_false (show ¬ r.m ≤ 255 by omega)]), hA.trans hx1⟩
    by_cases c5 : r.i < 8
    rotate_left
    · have he : isR r = false := by
        have hn : ¬ (r.i ≤ 7) := by omega
        unfold isR; simp [hn]
      clear c3
      go_enter Try.func15, Try.ntmps15
      go_wp2_with (go_at_call 33; refine (k2 _).mono ?_; rintro e w1 ⟨rfl, hx1⟩; have u3 := q3 _ hx1; have u5 := q5 _ hx1)
      go_ret
      exact ⟨by first | rfl | (rw [he]; rfl) | (show Ending.returned (Value.bool (decide (r.m ≤ 255))) = Ending.returned (Value.bool _); rw [he, decide_eq_false (show ¬ r.m ≤ 255 by omega)]), hA.trans hx1⟩
    by_cases c6 : 0 ≤ r.m
    rotate_left
    · have he : isR r = false := by
        have hn : ¬ (0 ≤ r.m) := by omega
        unfold isR; simp [hn]
      clear c3
      go_enter Try.func15, Try.ntmps15
      go_wp2_with (go_at_call 33; refine (k2 _).mono ?_; rintro e w1 ⟨rfl, hx1⟩; have u3 := q3 _ hx1; have u5 := q5 _ hx1)
      go_ret
      exact ⟨by first | rfl | (rw [he]; rfl) | (show Ending.returned (Value.bool (decide (r.m ≤ 255))) = Ending.returned (Value.bool _); rw [he, decide_eq_false (show ¬ r.m ≤ 255 by omega)]), hA.trans hx1⟩
    by_cases c7 : r.m ≤ 255
    rotate_left
    · have he : isR r = false := by
        have hn : ¬ (r.m ≤ 255) := by omega
        unfold isR; simp [hn]
      clear c3
      go_enter Try.func15, Try.ntmps15
      go_wp2_with (go_at_call 33; refine (k2 _).mono ?_; rintro e w1 ⟨rfl, hx1⟩; have u3 := q3 _ hx1; have u5 := q5 _ hx1)
      go_ret
      exact ⟨by first | rfl | (rw [he]; rfl) | (show Ending.returned (Value.bool (decide (r.m ≤ 255))) = Ending.returned (Value.bool _); rw [he, decide_eq_false (show ¬ r.m ≤ 255 by omega)]), hA.trans hx1⟩
    have he : isR r = true := (isR_iff r).2 ⟨c1, by omega, c3, c4, by omega, c6, c7⟩
    clear c3
    go_enter Try.func15, Try.ntmps15
    go_wp2_with (go_at_call 33; refine (k2 _).mono ?_; rintro e w1 ⟨rfl, hx1⟩; have u3 := q3 _ hx1; have u5 := q5 _ hx1)
    go_ret
    exact ⟨by first | rfl | (rw [he]; rfl) | (show Ending.returned (Value.bool (decide (r.m ≤ 255))) = Ending.returned (Value.bool _); rw [he, decide_eq_false (show ¬ r.m ≤ 255 by omega)]), hA.trans hx1⟩

theorem here_stop {L : List Rt} {r x : Rt} {k : Nat} (hp : posR L r = k) (hx : L[k]? = some x) : hereB L r = !ltB r x := by
  rw [here_at, hp, hx]
  dsimp only
  have hf : ltB x r = false := twN_at (fun x => ltB x r) L x (by have : twN (fun x => ltB x r) L = k := hp; rw [this]; exact hx)
  have h1 := ordR_eq x r
  rw [same_iff, hf] at h1
  cases e : ltB r x
  · rw [e] at h1; simp [h1]
  · rw [e] at h1; simp [h1]

set_option maxHeartbeats 1000000 in
theorem place_any (xb : Nat) (L : List Rt) (F : List Nat) (r : Rt) (w : World) (h : RibAt 36 w xb L F) (hn : L.length ≤ 1000000) :
    Calls Try.prog 43 #[.pointer (some ⟨xb, 0, none⟩), (.agg #[.int .i64 r.t, .int .u32 r.a, .int .i64 r.l, .int .i64 r.i, .int .u32 r.g, .int .i64 r.m])] w fun e w' => e = .returned (.tuple #[.int .i64 (posR L r : Nat), .bool (hereB L r)]) ∧ Ext w w' := by
  obtain ⟨v, -, hX, hO⟩ := h
  obtain ⟨p, c, rfl, hc1, -, hR⟩ := hO.slice
  have hA : Ext w (w.alloc (.cells #[.int .i64 r.t, .int .u32 r.a, .int .i64 r.l, .int .i64 r.i, .int .u32 r.g, .int .i64 r.m] 27)) := (Ext.refl w).alloc _
  have HQ : Hid _ := box_rtE (heap_new w (.cells #[.int .i64 r.t, .int .u32 r.a, .int .i64 r.l, .int .i64 r.i, .int .u32 r.g, .int .i64 r.m] 27))
  have HV : Hid (∀ w', Ext w w' → w'.cell? ⟨xb, 0, none⟩ = some (.slice p L.length c)) := fun w' hx => by rw [heap_cell (hx.heap hX)]; rfl
  have HR : Hid (Rd w p L.length c L) := hR
  have kb := fun x w => before_any x r w
  have kc := fun x w => before_any r x w
  clear hX hO hR
  go_enter Try.func43, Try.ntmps43
  go_wp2_with fail
  generalize hW0 : (w.alloc (.cells #[.int .i64 r.t, .int .u32 r.a, .int .i64 r.l, .int .i64 r.i, .int .u32 r.g, .int .i64 r.m] 27)) = W0 at *
  clear hW0
  go_loopw [6] (fun i wr => ∃ k : Nat, k ≤ L.length ∧ i = .int .i64 k ∧ Ext W0 wr ∧ Hid (∀ (j : Nat) (x : Rt), j < k → L[j]? = some x → ltB x r = true)) (fun i _ => L.length - (intOf i).toNat)
  case atStart => exact ⟨0, Nat.zero_le _, rfl, Ext.refl _, (fun j x hj => by omega : ∀ (j : Nat) (x : Rt), j < 0 → L[j]? = some x → ltB x r = true)⟩
  case round =>
    obtain ⟨k, hk, rfl, hx, HK⟩ := hrel
    obtain ⟨a0, a1, a2, a3, a4, a5⟩ := HQ.out
    have hd := hx.drew
    have t0 := fun w' h => a0 w' (hd.trans h)
    have t1 := fun w' h => a1 w' (hd.trans h)
    have t2 := fun w' h => a2 w' (hd.trans h)
    have t3 := fun w' h => a3 w' (hd.trans h)
    have t4 := fun w' h => a4 w' (hd.trans h)
    have t5 := fun w' h => a5 w' (hd.trans h)
    have v0 : ∀ w', Ext wr.drew w' → w'.cell? ⟨xb, 0, none⟩ = some (.slice p L.length c) := fun w' h => HV.out w' (hA.trans (hd.trans h))
    clear a0 a1 a2 a3 a4 a5
    by_cases hlt : k < L.length
    · obtain ⟨x, hxk⟩ : ∃ x, L[k]? = some x := ⟨_, List.getElem?_eq_getElem hlt⟩
      obtain ⟨b, off, rfl, hb, g0, g1, g2, g3, g4, g5⟩ := (HR.out.ext (hA.trans hd)).cell hxk
      have x0 : ∀ w', Ext wr.drew w' → w'.cell? ⟨b, off + k * 6, none⟩ = some (.int .i64 x.t) := fun w' h => by rw [h.below.cell (p := ⟨b, off + k * 6, none⟩) hb]; exact g0
      have x1 : ∀ w', Ext wr.drew w' → w'.cell? ⟨b, off + k * 6 + 1, none⟩ = some (.int .u32 x.a) := fun w' h => by rw [h.below.cell (p := ⟨b, off + k * 6 + 1, none⟩) hb]; exact g1
      have x2 : ∀ w', Ext wr.drew w' → w'.cell? ⟨b, off + k * 6 + 2, none⟩ = some (.int .i64 x.l) := fun w' h => by rw [h.below.cell (p := ⟨b, off + k * 6 + 2, none⟩) hb]; exact g2
      have x3 : ∀ w', Ext wr.drew w' → w'.cell? ⟨b, off + k * 6 + 3, none⟩ = some (.int .i64 x.i) := fun w' h => by rw [h.below.cell (p := ⟨b, off + k * 6 + 3, none⟩) hb]; exact g3
      have x4 : ∀ w', Ext wr.drew w' → w'.cell? ⟨b, off + k * 6 + 4, none⟩ = some (.int .u32 x.g) := fun w' h => by rw [h.below.cell (p := ⟨b, off + k * 6 + 4, none⟩) hb]; exact g4
      have x5 : ∀ w', Ext wr.drew w' → w'.cell? ⟨b, off + k * 6 + 5, none⟩ = some (.int .i64 x.m) := fun w' h => by rw [h.below.cell (p := ⟨b, off + k * 6 + 5, none⟩) hb]; exact g5
      have k1 := fun w => kb x w
      have k2 := fun w => kc x w
      have HX : Hid _ := hxk
      have hki : (k : Int) < (L.length : Int) := by omega
      clear hxk g0 g1 g2 g3 g4 g5 kb kc
      generalize hz : ltB x r = z at k1
      have HZ : Hid _ := hz
      clear hz
      cases z
      · go_wp2_with fail
        refine wp_region_eager [(0, false), (1, false), (2, false), (3, false), (4, false), (5, false), (6, false), (7, false), (8, false), (9, false), (10, false), (11, false), (12, false), (13, false), (14, false), (15, false), (16, true), (17, false)] (by kernel_rfl) (by kernel_rfl) rfl (by kernel_rfl) (fun _ _ _ _ _ h => h) ?_
        generalize wr.drew = W at *
        iterate 16 (refine wpE_read (v := ?_) rfl (by rfl) ?_ ?_; rotate_left; (focus (intro w' hx; go_simp; first | done | with_reducible rfl)); simp only [Act.put, List.setIfInBounds_toArray, List.set_cons_zero, List.set_cons_succ])
        (refine wpE_call rfl (by rfl) (fun K hK => ?_); go_simp; first
              | (go_at_call 57; refine (k1 _).mono ?_; rintro e w1 ⟨rfl, hx1⟩; refine hK _ _ hx1 ?_; clear hK K))
        iterate 1 (refine wpE_read (v := ?_) rfl (by rfl) ?_ ?_; rotate_left; (focus (intro w' hx; go_simp; first | done | with_reducible rfl)); simp only [Act.put, List.setIfInBounds_toArray, List.set_cons_zero, List.set_cons_succ])
        refine wpE_done ?_
        go_wp2_with fail
        refine wp_region_eager [(0, false), (1, false), (2, false), (3, false), (4, false), (5, false), (6, false), (7, false), (8, false), (9, false), (10, false), (11, false), (12, false), (13, false), (14, false), (15, false), (16, false), (17, true), (18, false), (19, false), (20, false), (21, false)] (by kernel_rfl) (by kernel_rfl) rfl (by kernel_rfl) (fun _ _ _ _ _ h => h) ?_
        have hx2 := hx1.drew
        generalize w1.drew = W2 at *
        replace t0 := fun w' h => t0 w' (hx2.trans h); replace t1 := fun w' h => t1 w' (hx2.trans h); replace t2 := fun w' h => t2 w' (hx2.trans h); replace t3 := fun w' h => t3 w' (hx2.trans h); replace t4 := fun w' h => t4 w' (hx2.trans h); replace t5 := fun w' h => t5 w' (hx2.trans h); replace v0 := fun w' h => v0 w' (hx2.trans h); replace x0 := fun w' h => x0 w' (hx2.trans h); replace x1 := fun w' h => x1 w' (hx2.trans h); replace x2 := fun w' h => x2 w' (hx2.trans h); replace x3 := fun w' h => x3 w' (hx2.trans h); replace x4 := fun w' h => x4 w' (hx2.trans h); replace x5 := fun w' h => x5 w' (hx2.trans h)
        iterate 17 (refine wpE_read (v := ?_) rfl (by rfl) ?_ ?_; rotate_left; (focus (intro w' hx; go_simp; first | done | with_reducible rfl)); simp only [Act.put, List.setIfInBounds_toArray, List.set_cons_zero, List.set_cons_succ])
        (refine wpE_call rfl (by rfl) (fun K hK => ?_); go_simp; first
              | (go_at_call 57; refine (k2 _).mono ?_; rintro e w3 ⟨rfl, hx3⟩; refine hK _ _ hx3 ?_; clear hK K))
        iterate 4 (refine wpE_read (v := ?_) rfl (by rfl) ?_ ?_; rotate_left; (focus (intro w' hx; go_simp; first | done | with_reducible rfl)); simp only [Act.put, List.setIfInBounds_toArray, List.set_cons_zero, List.set_cons_succ])
        refine wpE_done ?_
        go_wp2_with fail
        go_ret2
        have hpos : posR L r = k := twN_unique _ L k hk HK.out (fun y hy => by rw [HX.out] at hy; cases hy; exact HZ.out)
        rw [hpos, here_stop hpos HX.out]
        exact ⟨rfl, hA.trans (hd.trans (hx2.trans hx3))⟩
      · go_wp2_with fail
        refine wp_region_eager [(0, false), (1, false), (2, false), (3, false), (4, false), (5, false), (6, false), (7, false), (8, false), (9, false), (10, false), (11, false), (12, false), (13, false), (14, false), (15, false), (16, true), (17, false)] (by kernel_rfl) (by kernel_rfl) rfl (by kernel_rfl) (fun _ _ _ _ _ h => h) ?_
        generalize wr.drew = W at *
        iterate 16 (refine wpE_read (v := ?_) rfl (by rfl) ?_ ?_; rotate_left; (focus (intro w' hx; go_simp; first | done | with_reducible rfl)); simp only [Act.put, List.setIfInBounds_toArray, List.set_cons_zero, List.set_cons_succ])
        (refine wpE_call rfl (by rfl) (fun K hK => ?_); go_simp; first
              | (go_at_call 57; refine (k1 _).mono ?_; rintro e w1 ⟨rfl, hx1⟩; refine hK _ _ hx1 ?_; clear hK K))
        iterate 1 (refine wpE_read (v := ?_) rfl (by rfl) ?_ ?_; rotate_left; (focus (intro w' hx; go_simp; first | done | with_reducible rfl)); simp only [Act.put, List.setIfInBounds_toArray, List.set_cons_zero, List.set_cons_succ])
        refine wpE_done ?_
        go_wp2_with fail
        go_roundw
        case rel => exact ⟨k + 1, by omega, by go_num, hd.trans hx1, (fun j y hj hy => by
          rcases Nat.lt_or_ge j k with h | h
          · exact HK.out j y h hy
          · obtain rfl : j = k := by omega
            rw [HX.out] at hy; cases hy; exact HZ.out : ∀ (j : Nat) (x : Rt), j < k + 1 → L[j]? = some x → ltB x r = true)⟩
        case measure => simp [intOf]; omega
    · obtain rfl : k = L.length := by omega
      clear kb kc
      go_wp2_with fail
      refine wp_region_eager [(0, false), (1, false), (2, false), (3, false), (4, false), (5, false), (6, false), (7, false), (8, false), (9, false), (10, false), (11, false), (12, false), (13, false), (14, false), (15, false), (16, true), (17, false)] (by kernel_rfl) (by kernel_rfl) rfl (by kernel_rfl) (fun _ _ _ _ _ h => h) ?_
      generalize wr.drew = W at *
      iterate 8 (refine wpE_read (v := ?_) rfl (by rfl) ?_ ?_; rotate_left; (focus (intro w' hx; go_simp; first | done | with_reducible rfl)); simp only [Act.put, List.setIfInBounds_toArray, List.set_cons_zero, List.set_cons_succ])
      iterate 9 (rw [wpE_skip_eq _ rfl (by rfl)]; simp only [Act.put, List.setIfInBounds_toArray, List.set_cons_zero, List.set_cons_succ])
      iterate 1 (refine wpE_read (v := ?_) rfl (by rfl) ?_ ?_; rotate_left; (focus (intro w' hx; go_simp; first | done | with_reducible rfl)); simp only [Act.put, List.setIfInBounds_toArray, List.set_cons_zero, List.set_cons_succ])
      refine wpE_done ?_
      go_wp2_with fail
      refine wp_region_eager [(0, false), (1, false), (2, false), (3, false), (4, false), (5, false), (6, false), (7, false), (8, false), (9, false), (10, false), (11, false), (12, false), (13, false), (14, false), (15, false), (16, false), (17, true), (18, false), (19, false), (20, false), (21, false)] (by kernel_rfl) (by kernel_rfl) rfl (by kernel_rfl) (fun _ _ _ _ _ h => h) ?_
      have hx2 := (Ext.refl W).drew
      generalize W.drew = W2 at *
      replace t0 := fun w' h => t0 w' (hx2.trans h); replace t1 := fun w' h => t1 w' (hx2.trans h); replace t2 := fun w' h => t2 w' (hx2.trans h); replace t3 := fun w' h => t3 w' (hx2.trans h); replace t4 := fun w' h => t4 w' (hx2.trans h); replace t5 := fun w' h => t5 w' (hx2.trans h); replace v0 := fun w' h => v0 w' (hx2.trans h)
      iterate 9 (refine wpE_read (v := ?_) rfl (by rfl) ?_ ?_; rotate_left; (focus (intro w' hx; go_simp; first | done | with_reducible rfl)); simp only [Act.put, List.setIfInBounds_toArray, List.set_cons_zero, List.set_cons_succ])
      iterate 10 (rw [wpE_skip_eq _ rfl (by rfl)]; simp only [Act.put, List.setIfInBounds_toArray, List.set_cons_zero, List.set_cons_succ])
      iterate 3 (refine wpE_read (v := ?_) rfl (by rfl) ?_ ?_; rotate_left; (focus (intro w' hx; go_simp; first | done | with_reducible rfl)); simp only [Act.put, List.setIfInBounds_toArray, List.set_cons_zero, List.set_cons_succ])
      refine wpE_done ?_
      go_wp2_with fail
      go_ret2
      have hpos : posR L r = L.length := twN_unique _ L L.length (Nat.le_refl _) HK.out (fun y hy => by rw [List.getElem?_eq_none (Nat.le_refl _)] at hy; cases hy)
      have hh : hereB L r = false := by rw [here_at, hpos, List.getElem?_eq_none (Nat.le_refl _)]
      rw [hpos, hh]
      exact ⟨rfl, hA.trans (hd.trans hx2)⟩
end Go.Proofs.Ytbchfmadmcppkaa.Rb
