/- Texts joined by a program: Rpf5, Law13S, Law13N. -/
import Derived.Test.YtkfhkhgiojpfoaaGreatJ6
import Derived.Test.YtkfhkhgiojpfoaaGreatJ26
namespace Go.Proofs.YtkfhkhgiojpfoaaGreat.Rp

set_option maxRecDepth 100000

open Go.RowKit Go.Proofs.YtkfhkhgiojpfoaaGreat Go.Proofs.YtkfhkhgiojpfoaaGreat.Rb Go.Proofs.YtkfhkhgiojpfoaaGreat.Fb

open Go.Proofs.YtkfhkhgiojpfoaaGreat.Tri (PX)

set_option linter.unusedVariables false

set_option linter.unusedSimpArgs false

theorem any_none {α : Type} {L : List α} {f : α → Bool} {k : Nat} {x : α} (h : (L.take (k + 1)).any f = ((L.take k).any f || f x)) (h0 : (L.take k).any f = false) (hx : f x = false) : (L.take (k + 1)).any f = false := by
  rw [h, h0, hx]; rfl

theorem any_all {α : Type} {L : List α} {f : α → Bool} {n : Nat} (hl : L.length = n) (h : (L.take n).any f = false) : L.any f = false := by
  rwa [List.take_of_length_le (by rw [hl]; exact Nat.le_refl _)] at h

set_option maxHeartbeats 2000000 in
theorem down_any (pI : Option Addr) (nI cI : Nat) (pB : Option Addr) (nB cB : Nat) (pT : Option Addr) (nT cT : Nat) (pR : Option Addr) (nR cR : Nat) (fl er : Int) (L : List IfE) (a : Int) (w : World) (hI : RdI w pI nI cI L) (hn : nI ≤ 1000000) :
    Calls Tryz.prog 17 #[.agg #[.slice pI nI cI, .slice pB nB cB, .slice pT nT cT, .slice pR nR cR, .int .i64 fl, .int .i64 er], .int .u32 a] w (To w (ownV L a)) := by
  have hA : Ext w (w.alloc (.cells #[.slice pI nI cI, .slice pB nB cB, .slice pT nT cT, .slice pR nR cR, .int .i64 fl, .int .i64 er] 38)) := (Ext.refl w).alloc _
  have HB : Hid _ := box_rtE (heap_new w (.cells #[.slice pI nI cI, .slice pB nB cB, .slice pT nT cT, .slice pR nR cR, .int .i64 fl, .int .i64 er] 38))
  have HI : Hid (RdI w pI nI cI L) := hI
  have HL : Hid (L.length = nI) := hI.len
  clear hI
  unfold ownV
  go_enter Tryz.func17, Tryz.ntmps17
  go_wp2_with fail
  generalize hW0 : (w.alloc (.cells #[.slice pI nI cI, .slice pB nB cB, .slice pT nT cT, .slice pR nR cR, .int .i64 fl, .int .i64 er] 38)) = W0 at *
  clear hW0
  go_loopg [5] nI (fun kx s5 wr => ∃ k : Nat, s5 = .int .i64 k ∧ k ≤ nI ∧ nI - k ≤ kx ∧ Ext W0 wr ∧ Hid ((L.take k).any (fun x => x.2.1 == a) = false))
  case atStart => exact ⟨0, rfl, Nat.zero_le _, Nat.le_refl _, Ext.refl _, (rfl : (L.take 0).any (fun x => x.2.1 == a) = false)⟩
  case round =>
    obtain ⟨k, rfl, hkn, hkx, hx, HA⟩ := hrel
    obtain ⟨b0, b1, b2, b3, b4, b5⟩ := HB.out
    have z0 := b0 wr hx
    clear b0 b1 b2 b3 b4 b5
    by_cases hlt : k < nI
    · obtain ⟨x, hxk⟩ : ∃ x, L[k]? = some x := ⟨_, List.getElem?_eq_getElem (by rw [HL.out]; exact hlt)⟩
      have HT : Hid ((L.take (k + 1)).any (fun x => x.2.1 == a) = ((L.take k).any (fun x => x.2.1 == a) || (x.2.1 == a))) := any_take hxk
      obtain ⟨b, off, rfl, hb, g0, g1, g2, g3, g4⟩ := (HI.out.ext (hA.trans hx)).cell hxk
      have hki : (k : Int) < (nI : Int) := by omega
      clear hxk hb
      cases hz : (x.2.1 == a) with
      | true =>
        have HY : Hid (L.any (fun x => x.2.1 == a) = true) := any_in HT.out hz
        go_wp2_with fail
        go_ret
        rw [HY.out]
        exact ⟨rfl, hA.trans hx⟩
      | false =>
        have HN : Hid ((L.take (k + 1)).any (fun x => x.2.1 == a) = false) := any_none HT.out HA.out hz
        go_wp2_with fail
        go_roundg (nI - (k + 1))
        case measure => omega
        case rel => exact ⟨k + 1, by go_num, by omega, Nat.le_refl _, hx, HN⟩
    · obtain rfl : k = nI := by omega
      have HZ : Hid (L.any (fun x => x.2.1 == a) = false) := any_all HL.out HA.out
      go_wp2_with fail
      go_ret
      rw [HZ.out]
      exact ⟨rfl, hA.trans hx⟩

set_option maxHeartbeats 2000000 in
theorem dbroad_any (pI : Option Addr) (nI cI : Nat) (pB : Option Addr) (nB cB : Nat) (pT : Option Addr) (nT cT : Nat) (pR : Option Addr) (nR cR : Nat) (fl er : Int) (L : List IfE) (a : Int) (w : World) (hI : RdI w pI nI cI L) (hok : OkI L) (hn : nI ≤ 1000000) :
    Calls Tryz.prog 19 #[.agg #[.slice pI nI cI, .slice pB nB cB, .slice pT nT cT, .slice pR nR cR, .int .i64 fl, .int .i64 er], .int .u32 a] w (To w (broadV L a)) := by
  have hA : Ext w (w.alloc (.cells #[.slice pI nI cI, .slice pB nB cB, .slice pT nT cT, .slice pR nR cR, .int .i64 fl, .int .i64 er] 38)) := (Ext.refl w).alloc _
  have HB : Hid _ := box_rtE (heap_new w (.cells #[.slice pI nI cI, .slice pB nB cB, .slice pT nT cT, .slice pR nR cR, .int .i64 fl, .int .i64 er] 38))
  have HI : Hid (RdI w pI nI cI L) := hI
  have HL : Hid (L.length = nI) := hI.len
  have HK : Hid (OkI L) := hok
  clear hI hok
  unfold broadV
  go_enter Tryz.func19, Tryz.ntmps19
  go_wp2_with fail
  generalize hW0 : (w.alloc (.cells #[.slice pI nI cI, .slice pB nB cB, .slice pT nT cT, .slice pR nR cR, .int .i64 fl, .int .i64 er] 38)) = W0 at *
  clear hW0
  go_loopg [5] nI (fun kx s5 wr => ∃ k : Nat, s5 = .int .i64 k ∧ k ≤ nI ∧ nI - k ≤ kx ∧ Ext W0 wr ∧ Hid ((L.take k).any (broadI a) = false))
  case atStart => exact ⟨0, rfl, Nat.zero_le _, Nat.le_refl _, Ext.refl _, (rfl : (L.take 0).any (broadI a) = false)⟩
  case round =>
    obtain ⟨k, rfl, hkn, hkx, hx, HA⟩ := hrel
    obtain ⟨b0, b1, b2, b3, b4, b5⟩ := HB.out
    have z0 := b0 wr hx
    clear b0 b1 b2 b3 b4 b5
    by_cases hlt : k < nI
    · obtain ⟨x, hxk⟩ : ∃ x, L[k]? = some x := ⟨_, List.getElem?_eq_getElem (by rw [HL.out]; exact hlt)⟩
      have HT : Hid ((L.take (k + 1)).any (broadI a) = ((L.take k).any (broadI a) || broadI a x)) := any_take hxk
      obtain ⟨x0, x1⟩ := HK.out x (List.mem_of_getElem? hxk)
      have cw := fun w => refWide_any x.2.1 x.2.2.1 w x0 x1
      obtain ⟨b, off, rfl, hb, g0, g1, g2, g3, g4⟩ := (HI.out.ext (hA.trans hx)).cell hxk
      have hki : (k : Int) < (nI : Int) := by omega
      have HE : Hid (Ext W0 (wr.alloc (.cells #[.int .u32 x.2.1, .int .i64 x.2.2.1] 42))) := hx.alloc _
      clear hxk hb x0 x1
      have hbi : broadI a x = (decide (x.2.2.1 ≤ 30) && (wideV x.2.1 x.2.2.1 == a)) := rfl
      generalize wideV x.2.1 x.2.2.1 = v at *
      by_cases hl : x.2.2.1 ≤ 30
      · have hd1 : decide (x.2.2.1 ≤ 30) = true := decide_eq_true hl
        rw [hd1, Bool.true_and] at hbi
        cases hz : (v == a) with
        | true =>
          have HY : Hid (L.any (broadI a) = true) := any_in HT.out (by rw [hbi, hz])
          clear hbi hl
          go_wp2_with (go_at_call 42; refine (cw _).mono ?_; rintro e w3 ⟨rfl, hx3⟩)
          go_ret
          rw [HY.out, Bool.or_true]
          exact ⟨rfl, hA.trans (HE.out.trans hx3)⟩
        | false =>
          have HN : Hid ((L.take (k + 1)).any (broadI a) = false) := any_none HT.out HA.out (by rw [hbi, hz])
          clear hbi hl
          go_wp2_with (go_at_call 42; refine (cw _).mono ?_; rintro e w3 ⟨rfl, hx3⟩)
          go_roundg (nI - (k + 1))
          case measure => omega
          case rel => exact ⟨k + 1, by go_num, by omega, Nat.le_refl _, HE.out.trans hx3, HN⟩
      · have hd1 : decide (x.2.2.1 ≤ 30) = false := decide_eq_false hl
        rw [hd1, Bool.false_and] at hbi
        have HN : Hid ((L.take (k + 1)).any (broadI a) = false) := any_none HT.out HA.out hbi
        clear hbi hl
        go_wp2_with fail
        go_roundg (nI - (k + 1))
        case measure => omega
        case rel => exact ⟨k + 1, by go_num, by omega, Nat.le_refl _, HE.out, HN⟩
    · obtain rfl : k = nI := by omega
      have HZ : Hid (L.any (broadI a) = false) := any_all HL.out HA.out
      go_wp2_with fail
      go_ret
      rw [HZ.out, Bool.or_false]
      exact ⟨rfl, hA.trans hx⟩

theorem has08 (a : Int) (a0 : 0 ≤ a) (a1 : a ≤ 4294967295) : hasV 0 8 a = (a / 16777216 == 0) := by
  unfold hasV sizeN
  have e : (2 : Nat) ^ (32 - holdV 8).toNat = 16777216 := by decide
  rw [e]
  obtain ⟨n, rfl⟩ : ∃ n : Nat, a = (n : Int) := ⟨a.toNat, by omega⟩
  rw [Bool.eq_iff_iff]
  simp only [decide_eq_true_eq, beq_iff_eq, Int.toNat_natCast]
  constructor
  · intro h
    have h2 : Int.toNat 0 / 16777216 = 0 := rfl
    omega
  · intro h
    have h2 : Int.toNat 0 / 16777216 = 0 := rfl
    omega

set_option maxHeartbeats 4000000 in
theorem dsource_any (pI : Option Addr) (nI cI : Nat) (pB : Option Addr) (nB cB : Nat) (pT : Option Addr) (nT cT : Nat) (pR : Option Addr) (nR cR : Nat) (fl er : Int) (L : List IfE) (B : List PX) (a : Int) (w : World) (hI : RdI w pI nI cI L) (hok : OkI L) (hn : nI ≤ 1000000) (hP : RdP w pB nB cB B) (hokB : OkP B) (hnB : nB ≤ 1000000) (a0 : 0 ≤ a) (a1 : a ≤ 4294967295) :
    Calls Tryz.prog 15 #[.agg #[.slice pI nI cI, .slice pB nB cB, .slice pT nT cT, .slice pR nR cR, .int .i64 fl, .int .i64 er], .int .u32 a] w (To w (sourceV L B a)) := by
  have hA : Ext w (w.alloc (.cells #[.slice pI nI cI, .slice pB nB cB, .slice pT nT cT, .slice pR nR cR, .int .i64 fl, .int .i64 er] 38)) := (Ext.refl w).alloc _
  have HB : Hid _ := box_rtE (heap_new w (.cells #[.slice pI nI cI, .slice pB nB cB, .slice pT nT cT, .slice pR nR cR, .int .i64 fl, .int .i64 er] 38))
  have c2 := fun w => refCast_any a w a0 a1
  have c3 := fun w' (hx : Ext w w') => down_any pI nI cI pB nB cB pT nT cT pR nR cR fl er L a w' (hI.ext hx) hn
  have c4 := fun w' (hx : Ext w w') => dbroad_any pI nI cI pB nB cB pT nT cT pR nR cR fl er L a w' (hI.ext hx) hok hn
  have HA : Hid (Ext w (w.alloc (.cells #[.slice pI nI cI, .slice pB nB cB, .slice pT nT cT, .slice pR nR cR, .int .i64 fl, .int .i64 er] 38))) := hA
  have HP : Hid (RdP w pB nB cB B) := hP
  have HL : Hid (B.length = nB) := hP.len
  have HK : Hid (OkP B) := hokB
  have h8 := has08 a a0 a1
  unfold sourceV
  obtain ⟨b0, b1, b2, b3, b4, b5⟩ := HB.out
  generalize hasV 0 8 a = y1 at *
  generalize castV a = y2 at *
  generalize ownV L a = y3 at *
  generalize broadV L a = y4 at *
  replace h8 := h8.symm
  clear hI hP hok hokB hA
  cases y1 with
  | true =>
    have hq : a / 16777216 = 0 := eq_of_beq h8
    clear h8
    go_enter Tryz.func15, Tryz.ntmps15
    go_wp2_with fail
    go_ret
    exact ⟨rfl, HA.out⟩
  | false =>
    obtain ⟨q, hq⟩ : ∃ q : Int, a / 16777216 = q := ⟨_, rfl⟩
    have hq0 : (q == 0) = false := by rw [← hq]; exact h8
    clear h8
    cases y2 with
    | true =>
      go_enter Tryz.func15, Tryz.ntmps15
      go_wp2_with (first
        | (go_at_call 37; refine (c2 _).mono ?_; rintro e w2 ⟨rfl, hw2⟩; obtain rfl := hw2.symm; clear hw2))
      go_ret
      exact ⟨rfl, HA.out⟩
    | false =>
      cases y3 with
      | true =>
        go_enter Tryz.func15, Tryz.ntmps15
        go_wp2_with (first
          | (go_at_call 37; refine (c2 _).mono ?_; rintro e w2 ⟨rfl, hw2⟩; obtain rfl := hw2.symm; clear hw2)
          | (go_at_call 17; refine (c3 _ HA.out).mono ?_; rintro e w3 ⟨rfl, hx3⟩; have z0 := b0 _ hx3; have z1 := b1 _ hx3; have z2 := b2 _ hx3; have z3 := b3 _ hx3; have z4 := b4 _ hx3; have z5 := b5 _ hx3))
        go_ret
        exact ⟨rfl, HA.out.trans hx3⟩
      | false =>
        cases y4 with
        | true =>
          go_enter Tryz.func15, Tryz.ntmps15
          go_wp2_with (first
            | (go_at_call 37; refine (c2 _).mono ?_; rintro e w2 ⟨rfl, hw2⟩; obtain rfl := hw2.symm; clear hw2)
            | (go_at_call 17; refine (c3 _ HA.out).mono ?_; rintro e w3 ⟨rfl, hx3⟩; have z0 := b0 _ hx3; have z1 := b1 _ hx3; have z2 := b2 _ hx3; have z3 := b3 _ hx3; have z4 := b4 _ hx3; have z5 := b5 _ hx3)
            | (go_at_call 19; refine (c4 _ (HA.out.trans hx3)).mono ?_; rintro e w4 ⟨rfl, hx4⟩))
          go_ret
          exact ⟨rfl, HA.out.trans (hx3.trans hx4)⟩
        | false =>
          go_enter Tryz.func15, Tryz.ntmps15
          go_wp2_with (first
            | (go_at_call 37; refine (c2 _).mono ?_; rintro e w2 ⟨rfl, hw2⟩; obtain rfl := hw2.symm; clear hw2)
            | (go_at_call 17; refine (c3 _ HA.out).mono ?_; rintro e w3 ⟨rfl, hx3⟩; have z0 := b0 _ hx3; have z1 := b1 _ hx3; have z2 := b2 _ hx3; have z3 := b3 _ hx3; have z4 := b4 _ hx3; have z5 := b5 _ hx3)
            | (go_at_call 19; refine (c4 _ (HA.out.trans hx3)).mono ?_; rintro e w4 ⟨rfl, hx4⟩))
          have HE4 : Hid (Ext (w.alloc (.cells #[.slice pI nI cI, .slice pB nB cB, .slice pT nT cT, .slice pR nR cR, .int .i64 fl, .int .i64 er] 38)) w4) := hx3.trans hx4
          clear z0 z1 z2 z3 z4 z5 b0 b1 b2 b3 b4 b5 c2 c3 c4 hx3 hx4
          generalize hW0 : (w.alloc (.cells #[.slice pI nI cI, .slice pB nB cB, .slice pT nT cT, .slice pR nR cR, .int .i64 fl, .int .i64 er] 38)) = W0 at *
          clear hW0
          unfold bogonV
          go_loopg [5] nB (fun kx s5 wr => ∃ k : Nat, s5 = .int .i64 k ∧ k ≤ nB ∧ nB - k ≤ kx ∧ Ext W0 wr ∧ Hid ((B.take k).any (fun p => hasV p.1 p.2 a) = false))
          case atStart => exact ⟨0, rfl, Nat.zero_le _, Nat.le_refl _, HE4.out, (rfl : (B.take 0).any (fun p => hasV p.1 p.2 a) = false)⟩
          case round =>
            obtain ⟨k, rfl, hkn, hkx, hx, HN0⟩ := hrel
            obtain ⟨b0, b1, b2, b3, b4, b5⟩ := HB.out
            have z1 := b1 wr hx
            clear b0 b1 b2 b3 b4 b5
            by_cases hlt : k < nB
            · obtain ⟨x, hxk⟩ : ∃ x, B[k]? = some x := ⟨_, List.getElem?_eq_getElem (by rw [HL.out]; exact hlt)⟩
              have HT : Hid ((B.take (k + 1)).any (fun p => hasV p.1 p.2 a) = ((B.take k).any (fun p => hasV p.1 p.2 a) || hasV x.1 x.2 a)) := any_take hxk
              obtain ⟨x0, x1⟩ := HK.out x (List.mem_of_getElem? hxk)
              have ch := fun w => refHas_any x.1 x.2 a w x0 x1 a0 a1
              obtain ⟨b, off, rfl, hb, g0, g1⟩ := (HP.out.ext (HA.out.trans hx)).cell hxk
              have hki : (k : Int) < (nB : Int) := by omega
              clear hxk hb x0 x1
              cases hz : hasV x.1 x.2 a with
              | true =>
                have HY : Hid (B.any (fun p => hasV p.1 p.2 a) = true) := any_in HT.out hz
                rw [hz] at ch
                clear hz
                go_wp2_with (go_at_call 33; refine (ch _).mono ?_; rintro e w6 ⟨rfl, hx6⟩)
                go_ret
                rw [HY.out]
                exact ⟨rfl, HA.out.trans (hx.trans hx6)⟩
              | false =>
                have HN : Hid ((B.take (k + 1)).any (fun p => hasV p.1 p.2 a) = false) := any_none HT.out HN0.out hz
                rw [hz] at ch
                clear hz
                go_wp2_with (go_at_call 33; refine (ch _).mono ?_; rintro e w6 ⟨rfl, hx6⟩)
                go_roundg (nB - (k + 1))
                case measure => omega
                case rel => exact ⟨k + 1, by go_num, by omega, Nat.le_refl _, hx.trans hx6, HN⟩
            · obtain rfl : k = nB := by omega
              have HZ : Hid (bogonV B a = false) := any_all HL.out HN0.out
              go_wp2_with fail
              go_ret
              rw [HZ.out]
              exact ⟨rfl, HA.out.trans hx⟩
end Go.Proofs.YtkfhkhgiojpfoaaGreat.Rp

namespace Go.Proofs.YtkfhkhgiojpfoaaGreat.Rp

set_option maxRecDepth 100000

open Go.RowKit Go.Proofs.YtkfhkhgiojpfoaaGreat Go.Proofs.YtkfhkhgiojpfoaaGreat.Rb Go.Proofs.YtkfhkhgiojpfoaaGreat.Fb

open Go.Proofs.YtkfhkhgiojpfoaaGreat.Tri (PX)

set_option linter.unusedVariables false

set_option linter.unusedSimpArgs false

theorem long_any (pI : Option Addr) (nI cI : Nat) (pB : Option Addr) (nB cB : Nat) (pT : Option Addr) (nT cT : Nat) (pR : Option Addr) (nR cR : Nat) (fl er : Int) (w : World) : Calls Tryz.prog 13 #[.agg #[.slice pI nI cI, .slice pB nB cB, .slice pT nT cT, .slice pR nR cR, .int .i64 fl, .int .i64 er]] w (To w (decide (20 < (nI : Int)) || decide (100 < (nB : Int)))) := by
  have HA : Hid (Ext w (w.alloc (.cells #[.slice pI nI cI, .slice pB nB cB, .slice pT nT cT, .slice pR nR cR, .int .i64 fl, .int .i64 er] 38))) := (Ext.refl w).alloc _
  by_cases h1 : 20 < (nI : Int)
  · have d1 : decide (20 < (nI : Int)) = true := decide_eq_true h1
    rw [d1, Bool.true_or]
    go_enter Tryz.func13, Tryz.ntmps13
    go_wp2_with fail
    go_ret
    exact ⟨rfl, HA.out⟩
  · have d1 : decide (20 < (nI : Int)) = false := decide_eq_false h1
    rw [d1, Bool.false_or]
    go_enter Tryz.func13, Tryz.ntmps13
    go_wp2_with fail
    go_ret
    exact ⟨rfl, HA.out⟩

def ifOk (z : IfE) : Prop := (z.1).size ≤ maxLen ∧ (Lit.int .u32 (z.2.1)).wf = true ∧ (Lit.int .i64 (z.2.2.1)).wf = true ∧ (Lit.int .i64 (z.2.2.2.1)).wf = true ∧ (Lit.int .i64 (z.2.2.2.2)).wf = true

def pxOk (z : PX) : Prop := (Lit.int .u32 (z.1)).wf = true ∧ (Lit.int .i64 (z.2)).wf = true

theorem okI_row {w : World} {p : Option Addr} {n c : Nat} {L : List IfE} (h : IsRowG 5 ifE ifOk w p n c L) : OkI L := fun x hx => bounds_u32 (h.ok x hx).2.1

theorem okP_row {w : World} {p : Option Addr} {n c : Nat} {L : List PX} (h : IsRowG 2 pxE pxOk w p n c L) : OkP L := fun x hx => bounds_u32 (h.ok x hx).1
end Go.Proofs.YtkfhkhgiojpfoaaGreat.Rp

namespace Go.Proofs.YtkfhkhgiojpfoaaGreat.Rp

set_option maxRecDepth 100000

open Go.RowKit Go.Proofs.YtkfhkhgiojpfoaaGreat Go.Proofs.YtkfhkhgiojpfoaaGreat.Rb Go.Proofs.YtkfhkhgiojpfoaaGreat.Fb

open Go.Proofs.YtkfhkhgiojpfoaaGreat.Tri (PX OwnP pxC pxC_get pxC_one pxC_length)

set_option linter.unusedVariables false

set_option linter.unusedSimpArgs false

/-! Plainly: none of these is a source. -/

theorem no_own {L : List IfE} {B : List PX} {a : Int} (h : ownV L a = true) : sourceV L B a = false := by
  unfold sourceV; rw [h]; simp

theorem no_bogon {L : List IfE} {B : List PX} {a : Int} (h : bogonV B a = true) : sourceV L B a = false := by
  unfold sourceV; rw [h]; simp

theorem no_cast {L : List IfE} {B : List PX} {a : Int} (h : castV a = true) : sourceV L B a = false := by
  unfold sourceV; rw [h]; simp

theorem no_broad {L : List IfE} {B : List PX} {a : Int} (h : broadV L a = true) : sourceV L B a = false := by
  unfold sourceV; rw [h]; simp

theorem no_low {L : List IfE} {B : List PX} {a : Int} (h : hasV 0 8 a = true) : sourceV L B a = false := by
  unfold sourceV; rw [h]; simp

theorem own_mem {L : List IfE} {x : IfE} (h : x ∈ L) : ownV L x.2.1 = true := List.any_eq_true.2 ⟨x, h, by simp⟩

theorem bogon_first (p : PX) (B : List PX) : bogonV (p :: B) p.1 = true := by
  unfold bogonV
  have h : hasV p.1 p.2 p.1 = true := decide_eq_true rfl
  rw [List.any_cons, h, Bool.true_or]

theorem broad_all (L : List IfE) : broadV L 4294967295 = true := rfl

theorem or_cast (a : Int) (a0 : 0 ≤ a) (a1 : a ≤ 4294967295) : bits .or .u32 3758096384 (a / 16) = 3758096384 + a / 16 :=
  bits_join .u32 32 (by decide) wrapsU32 28 3758096384 (a / 16) (by omega) (by omega) (by omega) (by omega) (by omega) (by omega)

theorem cast_many (a : Int) (a0 : 0 ≤ a) (a1 : a ≤ 4294967295) : castV (3758096384 + a / 16) = true := by
  unfold castV
  have h : (3758096384 + a / 16) / 268435456 = 14 := by omega
  rw [h]; rfl

theorem low_all (a : Int) (a0 : 0 ≤ a) (a1 : a ≤ 4294967295) : hasV 0 8 (a / 256) = true := by
  rw [has08 _ (by omega) (by omega)]
  have h : a / 256 / 16777216 = 0 := by omega
  rw [h]; rfl

theorem src_row {α : Type} {k : Nat} {f : α → List Value} {ok : α → Prop} {w : World} {p : Option Addr} {n c : Nat} {L : List α} (h : IsRowG k f ok w p n c L) (hk : ∀ z, (f z).length = k) (h0 : 0 < k) (h1 : ∀ z, ∀ u ∈ f z, u.oneCell' = true) : Tri.Src w k p n c (L.flatMap f) := by
  have hlen : ∀ L : List α, (L.flatMap f).length = L.length * k := fun L => by
    induction L with
    | nil => simp
    | cons y L ih => rw [List.flatMap_cons, List.length_append, ih, hk, List.length_cons, Nat.add_mul, Nat.one_mul, Nat.add_comm]
  refine ⟨by rw [hlen, h.length], h.nil, ?_, ?_⟩
  · intro u hu
    obtain ⟨z, -, hz⟩ := List.mem_flatMap.1 hu
    exact h1 z u hz
  · rcases h.cells with h2 | ⟨b, off, rfl, hc⟩
    · exact .inl h2
    · refine .inr ⟨b, off, rfl, fun j u hj => ?_⟩
      obtain ⟨i, z, h3, h4, h5⟩ := flat_get hk L j u hj h0
      have := hc i z h3 (j % k) (Nat.mod_lt _ h0)
      rw [h5, ← h4] at this
      exact this

theorem srcP_row {w : World} {p : Option Addr} {n c : Nat} {L : List PX} (h : IsRowG 2 pxE pxOk w p n c L) : Tri.Src w 2 p n c (pxC L) :=
  src_row h (fun _ => rfl) (by omega) (fun z u hu => by
    simp only [pxE, List.mem_cons, List.not_mem_nil, or_false] at hu
    rcases hu with rfl | rfl <;> rfl)

/-- A literal of one prefix. -/
theorem own_litP {w : World} {B g : Nat} {p l : Int} (h : w.heap[g]? = some (.cells #[.int .u32 p, .int .i64 l] 42 (0, 0))) (hb : B ≤ g) : w.ownsRow B 42 2 (.slice (some ⟨g, 0, none⟩) 1 1) 1 (pxC [(p, l)]) :=
  ⟨rfl, .inr ⟨g, 1, _, rfl, hb, h, Nat.le_refl _, by unfold maxLen; omega, rfl, rfl⟩⟩

/-- append([]api.Prefix{p}, row...). -/
theorem append_lits {w : World} {ops : Array Oper} {rest : List Oper} {o : Oper} {a : Act} {Q : Exit → Act → World → Prop} (hgd : Region.wanted o (yielded ops a.tmps) = true) (s x : Operand)
    (ho : o.op = .call { callee := .builtin .append, args := #[s, x], argTypes := #[34, 34] })
    (g : Nat) (p l : Int) (hs : a.eval s = .slice (some ⟨g, 0, none⟩) 1 1) (hg : w.heap[g]? = some (.cells #[.int .u32 p, .int .i64 l] 42 (0, 0))) (q : Option Addr) (n c : Nat) (B : List PX) (hx : a.eval x = .slice q n c) (hsrc : Tri.Src w 2 q n c (pxC B)) (hsm : n ≤ 1000000)
    (h : ∀ q' c' w', w'.ownsRow g 42 2 (.slice q' (1 + n) c') (1 + n) (pxC ((p, l) :: B)) → w.grownBy w' (some g) → wpList Tryz.prog ops Q rest (a.put o.dst (.slice q' (1 + n) c')) w') : wpList Tryz.prog ops Q (o :: rest) a w := by
  refine wpList_want hgd fun K hK => Tri.wp_app_px s x ho g (.slice (some ⟨g, 0, none⟩) 1 1) 1 (pxC [(p, l)]) hs (own_litP hg (Nat.le_refl _)) q n c (pxC B) hx hsrc (by omega) (Nat.le_of_lt (heap_lt hg)) (fun v' w' ho' hg' hn' => hK _ _ ?_)
  obtain ⟨q', c', rfl, -, -, -⟩ := Tri.owns_slice ho'
  exact h q' c' w' ho' hg'

theorem rdP_own {w : World} {B : Nat} {p : Option Addr} {n c : Nat} {L : List PX} (h : w.ownsRow B 42 2 (.slice p n c) n (pxC L)) : RdP w p n c L := by
  have hs := Tri.src_own h (fun u hu => pxC_one hu)
  have hl : L.length = n := by have := hs.len; rw [pxC_length] at this; omega
  refine ⟨hl, ?_⟩
  rcases hs.cells with h0 | ⟨b, off, rfl, hc⟩
  · exact .inl h0
  · rcases Nat.eq_zero_or_pos n with h0 | h0
    · exact .inl h0
    · have get : ∀ (i : Nat) (x : PX), L[i]? = some x → ∀ j, j < 2 → w.cell? ⟨b, off + (i * 2 + j), none⟩ = (pxE x)[j]? := fun i x hi j hj => by
        obtain ⟨g0, g1⟩ := pxC_get L i x hi
        match j, hj with
        | 0, _ => exact hc _ _ g0
        | 1, _ => exact hc _ _ g1
      obtain ⟨x, hx⟩ : ∃ x, L[0]? = some x := ⟨_, List.getElem?_eq_getElem (by omega)⟩
      exact .inr ⟨b, off, rfl, block_lt (get 0 x hx 0 (by omega)), get⟩

theorem ownP_ne {w : World} {B : Nat} {v : Value} {n : Nat} {xs : List Value} {cb : Nat} {cur : Array Value} (h : w.ownsRow B 42 2 v n xs) (hX : w.heap[cb]? = some (.cells cur 38 (0, 0))) : ∀ g, v.ownBlock = some g → g ∉ [cb] := fun g hg hm => by
  obtain ⟨_, _, cur', hc⟩ := Tri.owns_block h hg
  rw [List.mem_singleton.1 hm, hX] at hc
  cases hc
end Go.Proofs.YtkfhkhgiojpfoaaGreat.Rp
