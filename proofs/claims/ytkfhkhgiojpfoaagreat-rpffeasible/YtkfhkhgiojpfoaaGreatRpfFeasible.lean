/- For every prefix and every two metrics, the law RpfFeasible returns true: a source that comes by a way that is worse is feasible there and not strictly right; it is strictly right once the better one's interface is down, and not feasible with its own one down; no condition. -/
import Derived.Test.YtkfhkhgiojpfoaaGreatRows
import Derived.Test.YtkfhkhgiojpfoaaGreatJ1
import Derived.Test.YtkfhkhgiojpfoaaGreatJ2
import Derived.Test.YtkfhkhgiojpfoaaGreatJ3
import Derived.Test.YtkfhkhgiojpfoaaGreatJ4
import Derived.Test.YtkfhkhgiojpfoaaGreatJ5
import Derived.Test.YtkfhkhgiojpfoaaGreatJ6
import Derived.Test.YtkfhkhgiojpfoaaGreatJ7
import Derived.Test.YtkfhkhgiojpfoaaGreatJ8
import Derived.Test.YtkfhkhgiojpfoaaGreatJ9
import Derived.Test.YtkfhkhgiojpfoaaGreatJ10
import Derived.Test.YtkfhkhgiojpfoaaGreatJ11
import Derived.Test.YtkfhkhgiojpfoaaGreatJ12
import Derived.Test.YtkfhkhgiojpfoaaGreatJ13
import Derived.Test.YtkfhkhgiojpfoaaGreatJ14
import Derived.Test.YtkfhkhgiojpfoaaGreatJ15
import Derived.Test.YtkfhkhgiojpfoaaGreatJ16
import Derived.Test.YtkfhkhgiojpfoaaGreatJ17
import Derived.Test.YtkfhkhgiojpfoaaGreatJ18
import Derived.Test.YtkfhkhgiojpfoaaGreatJ19
import Derived.Test.YtkfhkhgiojpfoaaGreatJ20
import Derived.Test.YtkfhkhgiojpfoaaGreatJ21
import Derived.Test.YtkfhkhgiojpfoaaGreatJ22
import Derived.Test.YtkfhkhgiojpfoaaGreatJ23
import Derived.Test.YtkfhkhgiojpfoaaGreatJ24
import Derived.Test.YtkfhkhgiojpfoaaGreatJ25
import Derived.Test.YtkfhkhgiojpfoaaGreatJ26
import Derived.Test.YtkfhkhgiojpfoaaGreatJ27
import Derived.WalkKit
import Derived.ProofKit
import Derived.OpenShut
import Derived.ShutString
import Derived.ChangeOld
import Derived.Deep.DeepHandedRow
import Derived.Lib.LaidTab
import Derived.Lib.SmallJoins
import Derived.LaidMore
import Derived.Stop.LaidErr
import Derived.ChangeMaps5
namespace Go.Proofs.YtkfhkhgiojpfoaaGreat.rpfFeasible
open Go.ChangeShapes Go.WideShapes Go.ChangeAt Go.RowKit Go.ChangeMaps
set_option linter.unusedVariables false
set_option maxRecDepth 100000

theorem own : ownKnob Tryz.prog.godebug = none := by kernel_rfl
theorem laidOut : laidOutB Tryz.prog = true := by kernel_rfl

theorem arr2 {α : Type} {cs : Array α} (h : cs.size = 2) : ∃ c0 c1, cs = #[c0, c1] := by
  obtain ⟨l⟩ := cs
  match l, h with
  | [c0, c1], _ => exact ⟨c0, c1, rfl⟩

open Go.Proofs.YtkfhkhgiojpfoaaGreat.Tri Go.Proofs.YtkfhkhgiojpfoaaGreat.Rb Go.Proofs.YtkfhkhgiojpfoaaGreat.Fb Go.Proofs.YtkfhkhgiojpfoaaGreat.Rp

def rA (a l m : Int) : Rt := ⟨0, a, l, 0, 0, m⟩
def rB (a l m : Int) : Rt := ⟨0, a, l, 1, 0, m⟩

theorem add_or (L : List Rt) (U : List Bool) (r : Rt) : (addF L U r).2 = L ∨ (addF L U r).2 = insR L r := by
  unfold addF
  split
  · exact .inl rfl
  · split
    · rename_i he
      split
      · exact .inl rfl
      · exact .inr (by show addS L r = _; unfold addS; rw [if_pos he])
    · exact .inl rfl

/-- Both are there, or fewer than two. -/
theorem lay2 (U : List Bool) (a l m n : Int) : (layL U [] ([rA a l m, rB a l n].take 40)).length < 2 ∨ layL U [] ([rA a l m, rB a l n].take 40) = [rA a l m, rB a l n] := by
  show (addF (addF [] U (rA a l m)).2 U (rB a l n)).2.length < 2 ∨ (addF (addF [] U (rA a l m)).2 U (rB a l n)).2 = _
  rcases add_or [] U (rA a l m) with h1 | h1
  · rw [h1]
    left
    rcases add_or [] U (rB a l n) with h2 | h2 <;> rw [h2] <;> simp [insR]
  · rw [h1]
    rcases add_or (insR [] (rA a l m)) U (rB a l n) with h2 | h2
    · left; rw [h2]; simp [insR]
    · right
      rw [h2]
      have e : ltB (rA a l m) (rB a l n) = true := (ltB_iff _ _).2 (by unfold Lt5 rA rB; dsimp only; omega)
      simp only [insR]
      rw [if_pos e]

theorem set_no (L : List Rt) : (setF L [true, true] (-1) false).2 = [true, true] := by
  unfold setF
  rw [if_pos (by decide)]

theorem set_a {L : List Rt} (h : fullB L [true, true] = false) : (setF L [true, true] 0 false).2 = [false, true] := by
  have h1 := setF_down (L := L) (U := [true, true]) (n := 0) (by decide) h
  have h2 : setF L [true, true] 0 false = (0, [true, true].set 0 false) := h1
  rw [h2]; rfl

theorem set_b {L : List Rt} (h : fullB L [true, true] = false) : (setF L [true, true] 1 false).2 = [true, false] := by
  have h1 := setF_down (L := L) (U := [true, true]) (n := 1) (by decide) h
  have h2 : setF L [true, true] 1 false = (0, [true, true].set 1 false) := h1
  rw [h2]; rfl

theorem has_self (a l : Int) : hasV a l a = true := decide_eq_true rfl

theorem mem2 {a l m n : Int} {r : Rt} (h : r ∈ [rA a l m, rB a l n]) : r = rA a l m ∨ r = rB a l n := by simpa using h

theorem best2 {a l m n : Int} (h : m < n) : bestO [rA a l m, rB a l n] 0 a l [true, true] = some (rA a l m) := by
  have s1 : selB 0 a l (rA a l m) = true := (selB_iff _ _ _ _).2 ⟨rfl, rfl, rfl⟩
  have s2 : selB 0 a l (rB a l n) = true := (selB_iff _ _ _ _).2 ⟨rfl, rfl, rfl⟩
  have hb : betB (rB a l n) (rA a l m) = false := (betB_not _ _).2 (by unfold Lt3 rA rB; dsimp only; omega)
  unfold bestO
  rw [List.filter_cons_of_pos s1, List.filter_cons_of_pos s2, List.filter_nil]
  show stepB [true, true] (stepB [true, true] none (rA a l m)) (rB a l n) = _
  have e1 : stepB [true, true] none (rA a l m) = some (rA a l m) := rfl
  rw [e1]
  have e2 : (upB [true, true] (rB a l n).i && okB (some (rA a l m)) (rB a l n)) = false := by
    show (_ && betB (rB a l n) (rA a l m)) = false
    rw [hb, Bool.and_false]
  unfold stepB
  rw [if_neg (by rw [e2]; simp)]

theorem best2b {a l m n : Int} : bestO [rA a l m, rB a l n] 0 a l [false, true] = some (rB a l n) := by
  have s1 : selB 0 a l (rA a l m) = true := (selB_iff _ _ _ _).2 ⟨rfl, rfl, rfl⟩
  have s2 : selB 0 a l (rB a l n) = true := (selB_iff _ _ _ _).2 ⟨rfl, rfl, rfl⟩
  unfold bestO
  rw [List.filter_cons_of_pos s1, List.filter_cons_of_pos s2, List.filter_nil]
  rfl

theorem checkA {a l m n : Int} (h : m < n) (hg : Rb.Good [rA a l m, rB a l n]) (a0 : 0 ≤ a) (a1 : a ≤ 4294967295) : checkV [rA a l m, rB a l n] [true, true] 1 1 a = false := by
  show ((wayO [rA a l m, rB a l n] [true, true] 0 a).isSome && decide ((theR (wayO [rA a l m, rB a l n] [true, true] 0 a)).i = 1)) = false
  cases hw : wayO [rA a l m, rB a l n] [true, true] 0 a with
  | none => rfl
  | some r =>
    have hm := (way_mem hg a0 a1 hw).1
    obtain ⟨hb, hin, -, -⟩ := act_is hm
    rcases mem2 hin with e | e
    · rw [e]; rfl
    · rw [e] at hb
      have h2 : bestO [rA a l m, rB a l n] 0 a l [true, true] = some (rB a l n) := hb
      rw [best2 h] at h2
      have h3 : (rA a l m).i = (rB a l n).i := by rw [Option.some.inj h2]
      exact absurd (show (0 : Int) = 1 from h3) (by decide)

theorem checkB (a l m n : Int) : checkV [rA a l m, rB a l n] [true, true] 4 1 a = true := by
  show ([rA a l m, rB a l n].any fun r => aliveB [true, true] a r && suchV 4 1 r) = true
  have h : aliveB [true, true] a (rB a l n) = true := by
    unfold aliveB
    have h1 : hasV (rB a l n).a (rB a l n).l a = true := has_self a l
    rw [h1]; rfl
  exact List.any_eq_true.2 ⟨rB a l n, by simp, by rw [h]; rfl⟩

theorem checkC {a l m n : Int} (hg : Rb.Good [rA a l m, rB a l n]) (a0 : 0 ≤ a) (a1 : a ≤ 4294967295) : checkV [rA a l m, rB a l n] [false, true] 1 1 a = true := by
  show ((wayO [rA a l m, rB a l n] [false, true] 0 a).isSome && decide ((theR (wayO [rA a l m, rB a l n] [false, true] 0 a)).i = 1)) = true
  cases hw : wayO [rA a l m, rB a l n] [false, true] 0 a with
  | none =>
    obtain ⟨s, hs, hp⟩ := act_gone (L := [rA a l m, rB a l n]) (t := 0) (U := [false, true]) (r := rB a l n) (by
      have h : bestO [rA a l m, rB a l n] 0 (rB a l n).a (rB a l n).l [false, true] = some (rB a l n) := best2b
      rw [h]; rfl)
    have h1 := way_none hg a0 a1 hw s hs
    rw [has_cov (pxR s) a, hp] at h1
    have h2 : hasV (pxR (rB a l n)).1 (pxR (rB a l n)).2 a = true := has_self a l
    rw [h2] at h1
    cases h1
  | some r =>
    have hm := (way_mem hg a0 a1 hw).1
    obtain ⟨-, hin, -, hu⟩ := act_is hm
    rcases mem2 hin with e | e
    · rw [e] at hu
      exact absurd (show upB [false, true] 0 = true from hu) (by decide)
    · rw [e]; rfl

theorem checkE (a l m n : Int) : checkV [rA a l m, rB a l n] [true, false] 4 1 a = false := by
  show ([rA a l m, rB a l n].any fun r => aliveB [true, false] a r && suchV 4 1 r) = false
  have h1 : aliveB [true, false] a (rB a l n) = false := rfl
  have h2 : suchV 4 1 (rA a l m) = false := rfl
  simp only [List.any_cons, List.any_nil, h1, h2, Bool.and_false, Bool.false_and, Bool.or_false]

theorem row12 {w : World} {g : Nat} {ty : TypeId} {a l m n : Int} (h : w.heap[g]? = some (.cells #[.int .i64 0, .int .u32 a, .int .i64 l, .int .i64 0, .int .u32 0, .int .i64 m, .int .i64 0, .int .u32 a, .int .i64 l, .int .i64 1, .int .u32 0, .int .i64 n] ty (0, 0))) : Rd w (some ⟨g, 0, none⟩) 2 2 [rA a l m, rB a l n] := rd_lit (L := [rA a l m, rB a l n]) h rfl

set_option maxHeartbeats 40000000 in
theorem walk (a00 : Int) (a01 : Int) (a1 : Int) (a2 : Int) (w : World) (w00 : (Lit.int .u32 a00).wf = true) (w01 : (Lit.int .i64 a01).wf = true) (w1 : (Lit.int .i64 a1).wf = true) (w2 : (Lit.int .i64 a2).wf = true) (hsh : w.ShapedOpen Tryz.prog) :
    Calls Tryz.prog 8 #[.agg #[.int .u32 a00, .int .i64 a01], .int .i64 a1, .int .i64 a2] w fun e w' => e = .returned (.bool true) ∧ Below w.heap.size w w' := by
  have kn := fun w => known_any w
  obtain ⟨s0, s1⟩ := bounds_u32 w00
  obtain ⟨p0, p1⟩ := bounds_i64 w01
  obtain ⟨m0, m1⟩ := bounds_i64 w1
  obtain ⟨n0, n1⟩ := bounds_i64 w2
  have HOK : Hid (∀ r ∈ [rA a00 a01 a1, rB a00 a01 a2], RtOk r) := fun r hr => by
    rcases mem2 hr with e | e
    · rw [e]; unfold rA RtOk; dsimp only; omega
    · rw [e]; unfold rB RtOk; dsimp only; omega
  have HA : Hid (Ext w (w.alloc (.cells #[.int .u32 a00, .int .i64 a01] 42))) := (Ext.refl w).alloc _
  have bad : ∀ (hv : a1 < 0 ∨ 255 < a1 ∨ a2 ≤ a1 ∨ 255 < a2 ∨ a01 < 1 ∨ 32 < a01), Calls Tryz.prog 8 #[.agg #[.int .u32 a00, .int .i64 a01], .int .i64 a1, .int .i64 a2] w fun e w' => e = .returned (.bool true) ∧ Below w.heap.size w w' := fun hv => by
    rcases hv with h | h | h | h | h | h
    · have hq := decide_eq_true h
      clear h
      go_enter Tryz.func8, Tryz.ntmps8
      go_wp2_with fail
      all_goals (go_ret; exact ⟨rfl, HA.out.below⟩)
    · have hq := decide_eq_true h
      clear h
      go_enter Tryz.func8, Tryz.ntmps8
      go_wp2_with fail
      all_goals (go_ret; exact ⟨rfl, HA.out.below⟩)
    · have hq := decide_eq_true h
      clear h
      go_enter Tryz.func8, Tryz.ntmps8
      go_wp2_with fail
      all_goals (go_ret; exact ⟨rfl, HA.out.below⟩)
    · have hq := decide_eq_true h
      clear h
      go_enter Tryz.func8, Tryz.ntmps8
      go_wp2_with fail
      all_goals (go_ret; exact ⟨rfl, HA.out.below⟩)
    · have hq := decide_eq_true h
      clear h
      go_enter Tryz.func8, Tryz.ntmps8
      go_wp2_with fail
      all_goals (go_ret; exact ⟨rfl, HA.out.below⟩)
    · have hq := decide_eq_true h
      clear h
      go_enter Tryz.func8, Tryz.ntmps8
      go_wp2_with fail
      all_goals (go_ret; exact ⟨rfl, HA.out.below⟩)
  by_cases hv : a1 < 0 ∨ 255 < a1 ∨ a2 ≤ a1 ∨ 255 < a2 ∨ a01 < 1 ∨ 32 < a01
  · exact bad hv
  clear bad
  have v1 : decide (a1 < 0) = false := decide_eq_false (by omega)
  have v2 : decide (255 < a1) = false := decide_eq_false (by omega)
  have v3 : decide (a2 ≤ a1) = false := decide_eq_false (by omega)
  have v4 : decide (255 < a2) = false := decide_eq_false (by omega)
  have v5 : decide (a01 < 1) = false := decide_eq_false (by omega)
  have v6 : decide (32 < a01) = false := decide_eq_false (by omega)
  have hlt : a1 < a2 := by omega
  have HLT : Hid (a1 < a2) := hlt
  clear hlt
  have cl := fun (down : Int) W g (h : W.heap[g]? = some (.cells #[.int .i64 0, .int .u32 a00, .int .i64 a01, .int .i64 0, .int .u32 0, .int .i64 a1, .int .i64 0, .int .u32 a00, .int .i64 a01, .int .i64 1, .int .u32 0, .int .i64 a2] 48 (0, 0))) => laidTo_any 2 down (some ⟨g, 0, none⟩) 2 2 [rA a00 a01 a1, rB a00 a01 a2] W (row12 h) HOK.out
  have hcl : List.replicate (clampN 2) true = [true, true] := rfl
  rw [hcl] at cl
  have hly := lay2 [true, true] a00 a01 a1 a2
  generalize layL [true, true] [] ([rA a00 a01 a1, rB a00 a01 a2].take 40) = L at *
  have HLY : Hid (L.length < 2 ∨ L = [rA a00 a01 a1, rB a00 a01 a2]) := hly
  clear hly
  clear hcl hv m0 m1 n0 n1 p0 p1
  go_enter Tryz.func8, Tryz.ntmps8
  go_wp2_with fail
  have hA0 : Ext w ((w.alloc (.cells #[.int .u32 a00, .int .i64 a01] 42)).alloc (.cells #[.int .i64 0, .int .u32 a00, .int .i64 a01, .int .i64 0, .int .u32 0, .int .i64 a1, .int .i64 0, .int .u32 a00, .int .i64 a01, .int .i64 1, .int .u32 0, .int .i64 a2] 48)) := ((Ext.refl w).alloc _).alloc _
  have hL0 : ((w.alloc (.cells #[.int .u32 a00, .int .i64 a01] 42)).alloc (.cells #[.int .i64 0, .int .u32 a00, .int .i64 a01, .int .i64 0, .int .u32 0, .int .i64 a1, .int .i64 0, .int .u32 a00, .int .i64 a01, .int .i64 1, .int .u32 0, .int .i64 a2] 48)).heap[w.heap.size + 1]? = some (.cells #[.int .i64 0, .int .u32 a00, .int .i64 a01, .int .i64 0, .int .u32 0, .int .i64 a1, .int .i64 0, .int .u32 a00, .int .i64 a01, .int .i64 1, .int .u32 0, .int .i64 a2] 48 (0, 0)) := by
    have := heap_new (w.alloc (.cells #[.int .u32 a00, .int .i64 a01] 42)) (.cells #[.int .i64 0, .int .u32 a00, .int .i64 a01, .int .i64 0, .int .u32 0, .int .i64 a1, .int .i64 0, .int .u32 a00, .int .i64 a01, .int .i64 1, .int .u32 0, .int .i64 a2] 48)
    rwa [show (w.alloc (.cells #[.int .u32 a00, .int .i64 a01] 42)).heap.size = w.heap.size + 1 by simp] at this
  have hP0 : ((w.alloc (.cells #[.int .u32 a00, .int .i64 a01] 42)).alloc (.cells #[.int .i64 0, .int .u32 a00, .int .i64 a01, .int .i64 0, .int .u32 0, .int .i64 a1, .int .i64 0, .int .u32 a00, .int .i64 a01, .int .i64 1, .int .u32 0, .int .i64 a2] 48)).heap[w.heap.size]? = some (.cells #[.int .u32 a00, .int .i64 a01] 42 (0, 0)) := (Below.heap_alloc (w.alloc (.cells #[.int .u32 a00, .int .i64 a01] 42)) _ w.heap.size (by simp)).trans (heap_new w _)
  generalize ((w.alloc (.cells #[.int .u32 a00, .int .i64 a01] 42)).alloc (.cells #[.int .i64 0, .int .u32 a00, .int .i64 a01, .int .i64 0, .int .u32 0, .int .i64 a1, .int .i64 0, .int .u32 a00, .int .i64 a01, .int .i64 1, .int .u32 0, .int .i64 a2] 48)) = W0 at *
  have HA0 : Hid (Ext w W0) := hA0
  have HL0 : Hid (W0.heap[w.heap.size + 1]? = some (.cells #[.int .i64 0, .int .u32 a00, .int .i64 a01, .int .i64 0, .int .u32 0, .int .i64 a1, .int .i64 0, .int .u32 a00, .int .i64 a01, .int .i64 1, .int .u32 0, .int .i64 a2] 48 (0, 0))) := hL0
  have HP0 : Hid (W0.heap[w.heap.size]? = some (.cells #[.int .u32 a00, .int .i64 a01] 42 (0, 0))) := hP0
  have c1 := cl (-1) W0 (w.heap.size + 1) hL0
  rw [set_no] at c1
  clear hA0 hL0 hP0 HA v1 v2 v3 v4 v5 v6
  go_at_call 9
  refine c1.mono ?_
  rintro e w3 ⟨fb, xb, rfl, hT⟩
  have HT : Hid (Mates W0 w3 fb xb L [true, true]) := hT
  obtain ⟨G, vR, vU, x1, x2, -⟩ := hT.doc
  obtain ⟨pR, cR, hvR, -, -, -⟩ := x2.slice
  subst hvR
  have q0 : w3.cell? ⟨xb, 0, none⟩ = some (.slice pR L.length cR) := by rw [heap_cell x1]; rfl
  clear x1 x2 hT c1
  rcases HLY.out with hs | hs
  · have hs2 : (L.length : Int) < 2 := by omega
    go_wp2_with (go_at_call 12; refine (kn _).mono ?_; rintro e w4 ⟨rfl, hx4⟩)
    go_ret
    exact ⟨rfl, (HA0.out.trans (HT.out.ext.trans hx4)).below⟩
  · subst hs
    obtain ⟨hg, -, hfull⟩ := HT.out.good
    have HG : Hid (Rb.Good [rA a00 a01 a1, rB a00 a01 a2]) := hg
    have HF : Hid (fullB [rA a00 a01 a1, rB a00 a01 a2] [true, true] = false) := hfull
    have hin : InB [rA a00 a01 a1, rB a00 a01 a2] [true, true] := fun r hr => by
      rcases mem2 hr with e | e <;> (rw [e]; rfl)
    have hin2 : InB [rA a00 a01 a1, rB a00 a01 a2] [false, true] := fun r hr => by
      rcases mem2 hr with e | e <;> (rw [e]; rfl)
    have hin3 : InB [rA a00 a01 a1, rB a00 a01 a2] [true, false] := fun r hr => by
      rcases mem2 hr with e | e <;> (rw [e]; rfl)
    have cA := fun w' (hx : Ext w3 w') => (HT.out.later hx).check hin 1 1 a00 s0 s1
    have cB := fun w' (hx : Ext w3 w') => (HT.out.later hx).check hin 4 1 a00 s0 s1
    rw [checkA HLT.out hg s0 s1] at cA
    rw [checkB] at cB
    have c2 := cl 0
    have c3 := cl 1
    rw [set_a hfull] at c2
    rw [set_b hfull] at c3
    have HI2 : Hid _ := hin2
    have HI3 : Hid _ := hin3
    have HE3 : Hid (Ext W0 w3) := HT.out.ext
    clear cl hg hfull hin hin2 hin3 HLY
    go_wp2_with fail
    refine wp_region_eager [(0, false), (1, false), (2, false), (4, false), (5, false), (6, false), (3, true), (7, true), (8, false), (9, false)] (by kernel_rfl) (by kernel_rfl) rfl (by kernel_rfl) (fun _ _ _ _ _ h => h) ?_
    have hxd : Ext w3 w3.drew := (Ext.refl _).drew
    have e0 : ∀ w', Ext w3.drew w' → w'.cell? ⟨w.heap.size, 0, none⟩ = some (.int .u32 a00) := fun w' h => by rw [heap_cell ((HE3.out.trans (hxd.trans h)).heap HP0.out)]; rfl
    have HXD : Hid (Ext w3 w3.drew) := hxd
    clear hxd
    generalize w3.drew = W at *
    iterate 6 (refine wpE_read (v := ?_) rfl (by rfl) ?_ ?_; rotate_left; (focus (intro w' hx; go_simp; first | done | with_reducible rfl)); simp only [Act.put, List.setIfInBounds_toArray, List.set_cons_zero, List.set_cons_succ])
    (refine wpE_call rfl (by rfl) (fun K hK => ?_); go_simp; first | (go_at_call 10; refine (cA _ HXD.out).mono ?_; rintro e w4 ⟨rfl, hx4⟩; refine hK _ _ hx4 ?_; clear hK K))
    (refine wpE_call rfl (by rfl) (fun K hK => ?_); go_simp; first | (go_at_call 10; refine (cB _ (HXD.out.trans hx4)).mono ?_; rintro e w5 ⟨rfl, hx5⟩; refine hK _ _ hx5 ?_; clear hK K))
    iterate 2 (refine wpE_read (v := ?_) rfl (by rfl) ?_ ?_; rotate_left; (focus (intro w' hx; go_simp; first | done | with_reducible rfl)); simp only [Act.put, List.setIfInBounds_toArray, List.set_cons_zero, List.set_cons_succ])
    refine wpE_done ?_
    have HE5 : Hid (Ext W0 w5) := HE3.out.trans (HXD.out.trans (hx4.trans hx5))
    clear hx4 hx5 e0 cA cB q0
    have c2 := c2 w5 (w.heap.size + 1) (HE5.out.heap HL0.out)
    go_wp2_with (go_at_call 9; refine c2.mono ?_; rintro e w6 ⟨fb2, xb2, rfl, hT2⟩; have HT2 : Hid (Mates w5 w6 fb2 xb2 _ [false, true]) := hT2; have y0 : w6.cell? ⟨w.heap.size, 0, none⟩ = some (.int .u32 a00) := (by rw [heap_cell ((HE5.out.trans hT2.ext).heap HP0.out)]; rfl); clear hT2)
    have cC := HT2.out.check HI2.out 1 1 a00 s0 s1
    rw [checkC HG.out s0 s1] at cC
    have HE6 : Hid (Ext W0 w6) := HE5.out.trans HT2.out.ext
    clear c2
    go_wp2_with (go_at_call 10; refine cC.mono ?_; rintro e w7 ⟨rfl, hx7⟩; have HE7 : Hid (Ext W0 w7) := HE6.out.trans hx7; have c3 := c3 w7 (w.heap.size + 1) (HE7.out.heap HL0.out); clear hx7 cC y0)
    go_wp2_with (go_at_call 9; refine c3.mono ?_; rintro e w8 ⟨fb3, xb3, rfl, hT3⟩; have HT3 : Hid (Mates w7 w8 fb3 xb3 _ [true, false]) := hT3; have y0 : w8.cell? ⟨w.heap.size, 0, none⟩ = some (.int .u32 a00) := (by rw [heap_cell ((HE7.out.trans hT3.ext).heap HP0.out)]; rfl); clear hT3)
    have cE := HT3.out.check HI3.out 4 1 a00 s0 s1
    rw [checkE] at cE
    have HE8 : Hid (Ext W0 w8) := HE7.out.trans HT3.out.ext
    clear c3
    go_wp2_with (first
      | (go_at_call 10; refine cE.mono ?_; rintro e w9 ⟨rfl, hx9⟩)
      | (go_at_call 12; refine (kn _).mono ?_; rintro e w10 ⟨rfl, hx10⟩))
    go_ret
    exact ⟨rfl, (HA0.out.trans (HE8.out.trans (hx9.trans hx10))).below⟩

theorem contract (H : Type) (enc : TypeId × Value → H) (W : World) (base : Nat) (args : Array Value) (ds gs : List (DataW H)) (before : List MemPlace)
    (hval : ∀ (j : Nat) t v, Tryz.f8.params[j]? = some t → args[j]? = some v → Value.okWide Tryz.prog W .any base t v)
    (hW : DataW.Whole enc Tryz.prog Tryz.f8.params.toList Rows.rpfFeasibleSpec.vars false W args.toList ds gs before) (hsh : W.ShapedOpen Tryz.prog) :
    Calls Tryz.prog 8 args W fun e W' => ∃ v, e = .returned v ∧ Rows.rpfFeasibleSpec.post enc Tryz.prog Tryz.f8 false true false false W args v W' := by
  have hW' := hW
  obtain ⟨p, q, hA0, hV, rfl, hfz, hnd⟩ := hW
  have hA : DataW.TrodAll enc Tryz.prog W 0 (fun _ => true) true Tryz.f8.params.toList args.toList ds p := hA0
  rw [Tryz.params8] at hA hval
  obtain ⟨v0, vs0, d0, ds0, p0, q0, hargs, rfl, rfl, h0, r0⟩ := trodAll_cons hA
  obtain ⟨v1, vs1, d1, ds1, p1, q1, rfl, rfl, rfl, h1, r1⟩ := trodAll_cons r0
  obtain ⟨v2, vs2, d2, ds2, p2, q2, rfl, rfl, rfl, h2, r2⟩ := trodAll_cons r1
  obtain ⟨rfl, rfl, rfl⟩ := trodAll_nil r2
  obtain rfl : args = #[v0, v1, v2] := by cases args; simp_all
  obtain ⟨rfl, rfl⟩ := trodVars_none hV
  have k0 := h0
  have lt0 : ∀ x ∈ p0, x.block < W.heap.size := by obtain ⟨m, hm⟩ := k0; exact DataW.trod_lt m _ _ _ hm
  obtain ⟨cs0, rfl, hs0⟩ := okWide_struct Tryz.underlying42 (hval 0 42 v0 rfl rfl)
  obtain ⟨u0a, u0b, rfl⟩ := arr2 (hs0.trans (by kernel_rfl))
  obtain ⟨fu0, hf0⟩ := h0
  obtain ⟨_, _, e1⟩ := field_at Tryz.underlying42 hf0 0 rfl 1 (by kernel_rfl)
  obtain ⟨a00, c2, _, w00⟩ := DataW.trod_int Tryz.underlying23 e1
  obtain rfl : u0a = .int .u32 a00 := by simpa [Value.cells] using c2
  obtain ⟨_, _, e3⟩ := field_at Tryz.underlying42 hf0 1 rfl 1 (by kernel_rfl)
  obtain ⟨a01, c4, _, w01⟩ := DataW.trod_int Tryz.underlying3 e3
  obtain rfl : u0b = .int .i64 a01 := by simpa [Value.cells] using c4
  obtain ⟨a1, rfl, rfl, rfl, w1⟩ := open_int Tryz.underlying3 (hval 1 3 v1 rfl rfl) h1
  obtain ⟨a2, rfl, rfl, rfl, w2⟩ := open_int Tryz.underlying3 (hval 2 3 v2 rfl rfl) h2
  clear hA0
  refine (walk a00 a01 a1 a2 W w00 w01 w1 w2 hsh).mono fun e W' ⟨he, bel⟩ => ?_
  subst he
  exact ⟨_, rfl, _, _, _, [], _, [], hW', trodAll_mk1 (shut_bool Tryz.underlying4 _), (trodAll_cons_mk (Below.trod laidOut (by kernel_rfl) (of_decide_eq_true (by kernel_rfl)) k0 bel lt0) (trodAll_cons_mk (shut_int Tryz.underlying3 w1) (trodAll_cons_mk (shut_int Tryz.underlying3 w2) trodAll_mk0))), rfl, bel.frame _, fun h => by cases h⟩

theorem laid_met (os : Os) : laidMet Tryz.prog Rows.rpfFeasibleRow.laid ((World.doorLaid Tryz.prog 24 os).forCall (fun _ _ => 0) ⟨#[], #[.agg #[.int .u32 0, .int .i64 0], .int .i64 0, .int .i64 0], []⟩).memory :=
  laidMet_of_run' 8 (by kernel_rfl) (by kernel_rfl)
theorem reads (os : Os) {H : Type} (enc : TypeId × Value → H) : ∃ places, DataW.whole enc Tryz.prog ((World.doorLaid Tryz.prog 24 os).forCall (fun _ _ => 0) ⟨#[], #[.agg #[.int .u32 0, .int .i64 0], .int .i64 0, .int .i64 0], []⟩).memory Tryz.f8.params.toList Rows.rpfFeasibleSpec.vars false (#[.agg #[.int .u32 0, .int .i64 0], .int .i64 0, .int .i64 0] : Array Value).toList 8 = some ([.agg [.lit (.int .u32 0), .lit (.int .i64 0)], .lit (.int .i64 0), .lit (.int .i64 0)], [], places) :=
  ⟨[], by kernel_rfl⟩

set_option maxRecDepth 100000 in
theorem lifted (os : Os) (started : os.Started) (H : Type) (enc : TypeId × Value → H) (F : Stop.Interp) :
    ReturnsInHanded {} Tryz.checked os 8 .any ((OpenSpec.ofChange Rows.rpfFeasibleSpec).preRow enc Tryz.prog Tryz.f8 Rows.rpfFeasibleRow.domain false Rows.rpfFeasibleRow.laid) (((OpenSpec.ofChange Rows.rpfFeasibleSpec).at F).post enc Tryz.prog Tryz.f8 false true false false) := by
  obtain ⟨places, hx⟩ := reads os enc
  refine returnsInHanded_of_row (C := Tryz.checked) (s := (OpenSpec.ofChange Rows.rpfFeasibleSpec)) own started (by kernel_rfl) Tryz.func8
    (witness_row_at (enc := enc) (C := Tryz.checked) false (World.doorLaid Tryz.prog 24 os) #[.agg #[.int .u32 0, .int .i64 0], .int .i64 0, .int .i64 0] rfl (by kernel_rfl) (by kernel_rfl) (by kernel_rfl)
      (OpenSpec.preRow_of_cond 8 hx (by kernel_rfl) (fun k hk => by cases hk) (by kernel_rfl) (laid_met os))) ?_
  intro W base args ds gs before hval hW _ hcond _ hL hsh _
  exact contract H enc W base args ds gs before hval hW hsh

theorem said : Rows.RpfFeasibleSaid :=
  OpenClaim.holds_of_cond 8 Tryz.f8 rfl rfl rfl rfl rfl rfl rfl ⟨rfl, rfl, rfl, rfl, rfl⟩ rfl rfl rfl rfl rfl (by kernel_rfl) Tryz.func8 (by kernel_rfl)
    (of_decide_eq_true (by kernel_rfl)) (by unfold Func.isWrapper; first | (rw [if_pos (by decide +kernel)]; kernel_rfl) | (rw [if_neg (by decide +kernel)]; exact ⟨rfl, rfl⟩))
    (fun os started H enc _ F => by rw [OpenClaim.pre_eq_preRow]; exact lifted os started H enc F)

end Go.Proofs.YtkfhkhgiojpfoaaGreat.rpfFeasible

namespace Go.Proofs.YtkfhkhgiojpfoaaGreat
theorem rpfFeasible_holds : Rows.RpfFeasibleSaid := rpfFeasible.said
#print axioms rpfFeasible_holds
end Go.Proofs.YtkfhkhgiojpfoaaGreat
