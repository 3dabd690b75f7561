/- Package trie's longest, Get, Longest, Covers. -/
import Derived.Test.YtgcnnblngmomhaaTree2
namespace Go.Proofs.Ytgcnnblngmomhaa.Tri
open Go.RowKit Go.Proofs.Ytgcnnblngmomhaa
set_option linter.unusedVariables false

def lastF : Option (PX × Int) → Row → Option (PX × Int)
  | acc, [] => acc
  | _, x :: L => lastF (some x) L

/-- What was found: nothing, or a node that is there. -/
def FoundAt (w : World) (fa : Option Addr) (o : Option (PX × Int)) : Prop := match o with
  | none => fa = none
  | some x => ∃ b pl pr, fa = some ⟨b, 0, none⟩ ∧ w.heap[b]? = some (ndO x.1 true x.2 pl pr)

theorem FoundAt.later {w w' : World} (hx : Ext w w') {fa : Option Addr} {o : Option (PX × Int)} (h : FoundAt w fa o) : FoundAt w' fa o := by
  cases o with
  | none => exact h
  | some x => obtain ⟨b, pl, pr, h1, h2⟩ := h; exact ⟨b, pl, pr, h1, hx.heap h2⟩

theorem sz_kid (p : PX) (q : PX) (th : Bool) (u : Int) (l r : Sh) : szS (covS (kidS p (.node q th u l r)) p) < szS (.node q th u l r) := by
  have h := sz_cov (kidS p (.node q th u l r)) p
  refine Nat.lt_of_le_of_lt h ?_
  simp only [kidS, szS]; split <;> omega

theorem kid_wf {p q : PX} {th : Bool} {u : Int} {l r : Sh} (h : WF (.node q th u l r)) : WF (covS (kidS p (.node q th u l r)) p) := by
  refine cov_wf ?_ p
  simp only [kidS]; split
  · exact h.2.2.2.2.1
  · exact h.2.2.2.2.2

/-- A step of the way down. -/
theorem covers_step {p q : PX} {th : Bool} {u : Int} {l r : Sh} (h : covS (.node q th u l r) p = .node q th u l r) :
    coversS (.node q th u l r) p = own q th u ++ coversS (covS (kidS p (.node q th u l r)) p) p := by
  have hc : cov q p = true := by
    simp only [covS] at h
    split at h
    · assumption
    · cases h
  rw [covS_covers]
  simp only [coversS, if_pos hc, kidS]
  split <;> rfl

set_option maxHeartbeats 1000000 in
theorem longest_any (rv root : Option Addr) (t : Sh) (c m : Int) (w : World) (h : Top w rv root) (ht : Is w t root) (hw : WF t) (c0 : 0 ≤ c) (c1 : c ≤ 4294967295) :
    Calls Try.prog 38 #[.pointer rv, .agg #[.int .u32 c, .int .i64 m]] w fun e w' => ∃ fa, e = .returned (.pointer fa) ∧ FoundAt w' fa (lastF none (coversS (begS t (c, m)) (c, m))) ∧ Ext w w' := by
  have k1 := fun w' (hx : Ext w w') => first_any rv root t c m w' (h.later hx) (ht.later hx) hw c0 c1
  have hA : Ext w (w.alloc (.cells #[.int .u32 c, .int .i64 m] 32)) := (Ext.refl w).alloc _
  obtain ⟨b0, b1⟩ := box2 (w := w.alloc (.cells #[.int .u32 c, .int .i64 m] 32)) (heap_new w _) (w.heap.size + 1) (by omega)
  have hb0 : ∀ w', Ext (w.alloc (.cells #[.int .u32 c, .int .i64 m] 32)) w' → w'.cell? ⟨w.heap.size, 0, none⟩ = some (.int .u32 c) := fun w' hx => b0 w' (hx.but _)
  have hb1 : ∀ w', Ext (w.alloc (.cells #[.int .u32 c, .int .i64 m] 32)) w' → w'.cell? ⟨w.heap.size, 1, none⟩ = some (.int .i64 m) := fun w' hx => b1 w' (hx.but _)
  clear b0 b1
  have hbw := beg_wf hw (c, m)
  have hbt := beg_twice t (c, m)
  generalize begS t (c, m) = s0 at *
  go_enter Try.func38, Try.ntmps38
  have hr0 : Ext (w.alloc (.cells #[.int .u32 c, .int .i64 m] 32)) (w.alloc (.cells #[.int .u32 c, .int .i64 m] 32)) := Ext.refl _
  go_wp2_with (go_at_call 40; refine (k1 _ hA).mono ?_; rintro e w1 ⟨na0, rfl, hna, hx1⟩)
  generalize (w.alloc (.cells #[.int .u32 c, .int .i64 m] 32)) = W0 at *
  go_loopg [5, 6] (szS s0) (fun k f n wr => ∃ (fa na : Option Addr) (s : Sh) (acc : Option (PX × Int)), f = .pointer fa ∧ n = .pointer na ∧ Is wr s na ∧ FoundAt wr fa acc ∧ Ext W0 wr ∧ Hid (szS s = k ∧ WF s ∧ covS s (c, m) = s ∧ lastF acc (coversS s (c, m)) = lastF none (coversS s0 (c, m))))
  case atStart => exact ⟨none, na0, s0, none, rfl, rfl, hna, rfl, hx1, ⟨rfl, hbw, hbt, rfl⟩⟩
  case round =>
    obtain ⟨fa, na, s, acc, rfl, rfl, hs, hf, hx, H⟩ := hrel
    clear hna hx1 hbw hbt k1 ht h hr0
    cases s with
    | nil =>
      obtain rfl : na = none := hs
      have HF : Hid _ := hf
      clear hf
      go_wp2_with fail
      go_ret
      refine ⟨fa, rfl, ?_, hA.trans hx⟩
      have := H.out.2.2.2
      rw [← this]
      exact HF.out
    | node q th u l r =>
      obtain ⟨b, pl, pr, rfl, hh, hl, hr⟩ := hs
      obtain ⟨hk, hws, hcs, hlast⟩ := H.out
      have k2 := next_any b q th u l r pl pr c m wr hws c0 c1 hh hl hr
      have g2 : wr.cell? ⟨b, 2, none⟩ = some (.bool th) := by rw [heap_cell hh]; rfl
      have e0 := hb0 wr hx
      have e1 := hb1 wr hx
      have hm := sz_kid (c, m) q th u l r
      have hkw := kid_wf (p := (c, m)) hws
      have hstep := covers_step hcs
      rw [hk] at hm
      have hkt := covS_twice (kidS (c, m) (.node q th u l r)) (c, m)
      generalize covS (kidS (c, m) (.node q th u l r)) (c, m) = s' at *
      have HA : Aside (szS s' < gk ∧ WF s' ∧ covS s' (c, m) = s' ∧ coversS (.node q th u l r) (c, m) = own q th u ++ coversS s' (c, m) ∧ lastF acc (coversS (.node q th u l r) (c, m)) = lastF none (coversS s0 (c, m)) ∧ FoundAt wr fa acc ∧ wr.heap[b]? = some (ndO q th u pl pr)) := ⟨hm, hkw, hkt, hstep, hlast, hf, hh⟩
      clear hk hws hcs hlast hm hkw hstep hkt hf hh hl hr H
      cases th
      · go_wp2_with (go_at_call 41; refine k2.mono ?_; rintro e w2 ⟨na', rfl, hn', hx2⟩)
        obtain ⟨hm, hkw, hkt, hstep, hlast, hf, hh⟩ := HA.out
        go_roundg (szS s')
        case measure => exact hm
        case rel => exact ⟨fa, na', s', acc, rfl, rfl, hn', hf.later hx2, hx.trans hx2, ⟨rfl, hkw, hkt, by rw [← hlast, hstep]; rfl⟩⟩
      · go_wp2_with (go_at_call 41; refine k2.mono ?_; rintro e w2 ⟨na', rfl, hn', hx2⟩)
        obtain ⟨hm, hkw, hkt, hstep, hlast, hf, hh⟩ := HA.out
        go_roundg (szS s')
        case measure => exact hm
        case rel => exact ⟨some ⟨b, 0, none⟩, na', s', some (q, u), rfl, rfl, hn', ⟨b, pl, pr, rfl, hx2.heap hh⟩, hx.trans hx2, ⟨rfl, hkw, hkt, by rw [← hlast, hstep]; rfl⟩⟩

theorem neq_prefix (a n b m : Int) (w : World) : (binOp .neq 32 (.agg #[.int .u32 a, .int .i64 n]) (.agg #[.int .u32 b, .int .i64 m])).run Try.prog w = .ok (.bool (!(a == b && n == m))) w := by
  have h := eql_prefix a n b m w
  rw [run_eql_struct] at h
  rw [run_neq_struct]
  cases hr : (Op.equalIn 10000 32 (.agg #[.int .u32 a, .int .i64 n]) (.agg #[.int .u32 b, .int .i64 m])).run Try.prog w with
  | ok x w' =>
    rw [hr] at h
    simp only [Result.andThen_ok, Result.ok.injEq, Value.bool.injEq] at h ⊢
    exact ⟨by rw [h.1], h.2⟩
  | _ => rw [hr] at h; simp [Result.andThen] at h

/-- A prefix's number, by what was found. -/
def getF (o : Option (PX × Int)) (p : PX) : Int × Bool := match o with
  | none => (0, false)
  | some x => if x.1 = p then (x.2, true) else (0, false)

set_option maxHeartbeats 1000000 in
theorem get_any (rv root : Option Addr) (t : Sh) (c m : Int) (w : World) (h : Top w rv root) (ht : Is w t root) (hw : WF t) (c0 : 0 ≤ c) (c1 : c ≤ 4294967295) :
    Calls Try.prog 17 #[.pointer rv, .agg #[.int .u32 c, .int .i64 m]] w fun e w' => e = .returned (.tuple #[.int .i64 (getF (lastF none (coversS (begS t (c, m)) (c, m))) (c, m)).1, .bool (getF (lastF none (coversS (begS t (c, m)) (c, m))) (c, m)).2]) ∧ Ext w w' := by
  have k1 := fun w' (hx : Ext w w') => longest_any rv root t c m w' (h.later hx) (ht.later hx) hw c0 c1
  have hA : Ext w (w.alloc (.cells #[.int .u32 c, .int .i64 m] 32)) := (Ext.refl w).alloc _
  obtain ⟨b0, b1⟩ := box2 (w := w.alloc (.cells #[.int .u32 c, .int .i64 m] 32)) (heap_new w _) (w.heap.size + 1) (by omega)
  have hb0 : ∀ w', Ext (w.alloc (.cells #[.int .u32 c, .int .i64 m] 32)) w' → w'.cell? ⟨w.heap.size, 0, none⟩ = some (.int .u32 c) := fun w' hx => b0 w' (hx.but _)
  have hb1 : ∀ w', Ext (w.alloc (.cells #[.int .u32 c, .int .i64 m] 32)) w' → w'.cell? ⟨w.heap.size, 1, none⟩ = some (.int .i64 m) := fun w' hx => b1 w' (hx.but _)
  clear b0 b1
  generalize lastF none (coversS (begS t (c, m)) (c, m)) = o at *
  have hr0 : Ext (w.alloc (.cells #[.int .u32 c, .int .i64 m] 32)) (w.alloc (.cells #[.int .u32 c, .int .i64 m] 32)) := Ext.refl _
  have eg := eq_guard
  cases o with
  | none =>
    go_enter Try.func17, Try.ntmps17
    go_wp2_with (go_at_call 38; refine (k1 _ hA).mono ?_; rintro e w1 ⟨fa, rfl, hf, hx1⟩; obtain rfl : fa = none := hf)
    generalize (w.alloc (.cells #[.int .u32 c, .int .i64 m] 32)) = W0 at *
    go_region
    go_wp2_with fail
    go_ret2
    exact ⟨rfl, (hA.trans hx1).drew⟩
  | some x =>
    obtain ⟨⟨a, n⟩, u⟩ := x
    have nq := fun w => neq_prefix a n c m w
    have hg : getF (some ((a, n), u)) (c, m) = if (a == c && n == m) = true then (u, true) else (0, false) := by
      simp only [getF, Prod.mk.injEq, Bool.and_eq_true, beq_iff_eq]
    rw [hg]
    clear hg
    generalize (a == c && n == m) = d at *
    go_enter Try.func17, Try.ntmps17
    go_wp2_with (go_at_call 38; refine (k1 _ hA).mono ?_; rintro e w1 ⟨fa, rfl, hf, hx1⟩; obtain ⟨b, pl, pr, rfl, hh⟩ := hf; obtain ⟨g0, g1, -, g3, -, -⟩ := box_nodeE hh (Ext.refl w1); clear hh)
    generalize (w.alloc (.cells #[.int .u32 c, .int .i64 m] 32)) = W0 at *
    have hr1 := Ext.refl w1
    replace hb0 := hb0 w1 hx1
    replace hb1 := hb1 w1 hx1
    replace g0 := g0 w1 hr1
    replace g1 := g1 w1 hr1
    replace g3 := g3 w1 hr1
    cases d
    · go_region
      go_wp2_with fail
      go_ret2
      exact ⟨rfl, (hA.trans hx1).drew⟩
    · go_region
      go_wp2_with fail
      go_ret2
      exact ⟨rfl, (hA.trans hx1).drew⟩
end Go.Proofs.Ytgcnnblngmomhaa.Tri
