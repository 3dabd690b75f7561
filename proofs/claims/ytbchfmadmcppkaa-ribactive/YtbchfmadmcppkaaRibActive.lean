/- For every script of ways, every table and at most twenty interfaces, the law RibActive returns true: of each prefix one way is active, the best one, in order; with no interface up none is (of more interfaces the law says nothing, and returns true); no condition. -/
import Derived.Test.YtbchfmadmcppkaaRows
import Derived.Test.YtbchfmadmcppkaaLaw11T
import Derived.Test.YtbchfmadmcppkaaFrame
import Derived.Test.YtbchfmadmcppkaaRowG
import Derived.WalkKit
import Derived.ProofKit
import Derived.OpenShut
import Derived.ShutString
import Derived.ChangeOld
import Derived.Deep.DeepHandedRow
import Derived.Lib.LaidTab
import Derived.Lib.SmallJoins
import Derived.LaidMore
import Derived.Stop.LaidErr
import Derived.ChangeMaps5
namespace Go.Proofs.Ytbchfmadmcppkaa.ribActive
open Go.ChangeShapes Go.WideShapes Go.ChangeAt Go.RowKit Go.ChangeMaps
set_option linter.unusedVariables false
set_option maxRecDepth 100000

theorem own : ownKnob Try.prog.godebug = none := by kernel_rfl
theorem laidOut : laidOutB Try.prog = true := by kernel_rfl

abbrev Elem56 := Bool × Int × Int × Int × Int × Int × Int
def cells56 (z : Elem56) : List Value := [.bool (z.1), .int .i64 (z.2.1), .int .u32 (z.2.2.1), .int .i64 (z.2.2.2.1), .int .i64 (z.2.2.2.2.1), .int .u32 (z.2.2.2.2.2.1), .int .i64 (z.2.2.2.2.2.2)]
def ok56 (z : Elem56) : Prop := (Lit.int .i64 (z.2.1)).wf = true ∧ (Lit.int .u32 (z.2.2.1)).wf = true ∧ (Lit.int .i64 (z.2.2.2.1)).wf = true ∧ (Lit.int .i64 (z.2.2.2.2.1)).wf = true ∧ (Lit.int .u32 (z.2.2.2.2.2.1)).wf = true ∧ (Lit.int .i64 (z.2.2.2.2.2.2)).wf = true
theorem cells56_length (z : Elem56) : (cells56 z).length = 7 := rfl
theorem elem56 {H : Type} {enc : TypeId × Value → H} {w : World} {base : Nat} {spare : Nat → Bool} {held : Bool} (n : Nat) (cs : List Value) (y : DataW H × List MemPlace)
    (h : DataW.trod enc Try.prog w base spare held n 56 cs = some y) : ∃ z : Elem56, cs = cells56 z ∧ ok56 z := by
  have hl : cs.length = 7 := by
    obtain ⟨_, _, _, _, hl, _⟩ := DataW.trod_struct Try.underlying56 h
    exact hl.trans (by kernel_rfl)
  obtain ⟨u0, u1, u2, u3, u4, u5, u6, rfl⟩ : ∃ u0 u1 u2 u3 u4 u5 u6, cs = [u0, u1, u2, u3, u4, u5, u6] := by
    match cs, hl with
    | [u0, u1, u2, u3, u4, u5, u6], _ => exact ⟨u0, u1, u2, u3, u4, u5, u6, rfl⟩
  obtain ⟨_, _, e1⟩ := field_at Try.underlying56 h 0 rfl 1 (by kernel_rfl)
  obtain ⟨az0, c2, _⟩ := DataW.trod_bool Try.underlying4 e1
  obtain rfl : u0 = .bool az0 := by simpa using c2
  obtain ⟨_, _, e3⟩ := field_at Try.underlying56 h 1 rfl 6 (by kernel_rfl)
  obtain ⟨_, _, e4⟩ := field_at Try.underlying27 e3 0 rfl 1 (by kernel_rfl)
  obtain ⟨az10, c5, _, wz10⟩ := DataW.trod_int Try.underlying3 e4
  obtain rfl : u1 = .int .i64 az10 := by simpa using c5
  obtain ⟨_, _, e6⟩ := field_at Try.underlying27 e3 1 rfl 2 (by kernel_rfl)
  obtain ⟨_, _, e7⟩ := field_at Try.underlying25 e6 0 rfl 1 (by kernel_rfl)
  obtain ⟨az110, c8, _, wz110⟩ := DataW.trod_int Try.underlying23 e7
  obtain rfl : u2 = .int .u32 az110 := by simpa using c8
  obtain ⟨_, _, e9⟩ := field_at Try.underlying25 e6 1 rfl 1 (by kernel_rfl)
  obtain ⟨az111, c10, _, wz111⟩ := DataW.trod_int Try.underlying3 e9
  obtain rfl : u3 = .int .i64 az111 := by simpa using c10
  obtain ⟨_, _, e11⟩ := field_at Try.underlying27 e3 2 rfl 1 (by kernel_rfl)
  obtain ⟨az12, c12, _, wz12⟩ := DataW.trod_int Try.underlying3 e11
  obtain rfl : u4 = .int .i64 az12 := by simpa using c12
  obtain ⟨_, _, e13⟩ := field_at Try.underlying27 e3 3 rfl 1 (by kernel_rfl)
  obtain ⟨az13, c14, _, wz13⟩ := DataW.trod_int Try.underlying23 e13
  obtain rfl : u5 = .int .u32 az13 := by simpa using c14
  obtain ⟨_, _, e15⟩ := field_at Try.underlying27 e3 4 rfl 1 (by kernel_rfl)
  obtain ⟨az14, c16, _, wz14⟩ := DataW.trod_int Try.underlying3 e15
  obtain rfl : u6 = .int .i64 az14 := by simpa using c16
  exact ⟨(az0, az10, az110, az111, az12, az13, az14), rfl, ⟨wz10, wz110, wz111, wz12, wz13, wz14⟩⟩

abbrev Elem4 := Bool
def cells4 (z : Elem4) : List Value := [.bool (z)]
def ok4 (z : Elem4) : Prop := True
theorem cells4_length (z : Elem4) : (cells4 z).length = 1 := rfl
theorem elem4 {H : Type} {enc : TypeId × Value → H} {w : World} {base : Nat} {spare : Nat → Bool} {held : Bool} (n : Nat) (cs : List Value) (y : DataW H × List MemPlace)
    (h : DataW.trod enc Try.prog w base spare held n 4 cs = some y) : ∃ z : Elem4, cs = cells4 z ∧ ok4 z := by
  obtain ⟨z, c, _⟩ := DataW.trod_bool Try.underlying4 h
  exact ⟨z, by simpa [cells4] using c, trivial⟩

open Go.Proofs.Ytbchfmadmcppkaa.Tri Go.Proofs.Ytbchfmadmcppkaa.Rb

set_option maxHeartbeats 4000000 in
theorem walk (a0 : Option Addr) (len0 cap0 : Nat) (zs0 : List Elem56) (a1 : Int) (a2 : Option Addr) (len2 cap2 : Nat) (zs2 : List Elem4) (w : World) (row0 : IsRowG 7 cells56 ok56 w a0 len0 cap0 zs0) (w1 : (Lit.int .i64 a1).wf = true) (row2 : IsRowG 1 cells4 ok4 w a2 len2 cap2 zs2) (hsh : w.ShapedOpen Try.prog) :
    Calls Try.prog 10 #[.slice a0 len0 cap0, .int .i64 a1, .slice a2 len2 cap2] w fun e w' => e = .returned (.bool true) ∧ Below w.heap.size w w' := by
  have row : IsRowG 7 actC actOk w a0 len0 cap0 zs0 := row0
  have rowU : IsRowG 1 upC upOk w a2 len2 cap2 zs2 := row2
  have hc3 := rowU.le
  have hc4 := rowU.room
  unfold maxLen at hc4
  by_cases h20 : 20 < len2
  · have h20z : (20 : Int) < (len2 : Int) := by omega
    clear row rowU row0 row2
    go_enter Try.func10, Try.ntmps10
    go_wp2_with fail
    go_ret
    exact ⟨rfl, Ext.refl w⟩
  · have h20z : (len2 : Int) ≤ 20 := by omega
    have HU : Hid (Ups w a2 len2 zs2) := ups_row rowU (by omega)
    have kp := played_any a0 len0 cap0 zs0 w row
    have kn := fun w => known_any w
    clear row rowU row0 row2
    go_enter Try.func10, Try.ntmps10
    go_wp2_with fail
    go_at_call 11
    refine kp.mono ?_
    rintro e w1 ⟨rb, xb, L, F, G, rfl, hg, hT⟩
    have HE1 : Hid (Ext w w1) := hT.ext
    have hlen := hg.len
    have kA := active_any rb L F a1 a2 len2 cap2 zs2 w1 hT.b hg (HU.out.ext HE1.out)
    have kB := fun w' (hx : Ext w1 w') a l => best_of rb L F a1 a l a2 len2 cap2 zs2 w' (hT.b.ext hx) hg (HU.out.ext (HE1.out.trans hx))
    have kN := fun w' (hx : Ext w1 w') => active_any rb L F a1 none 0 0 [] w' (hT.b.ext hx) hg ⟨rfl, by omega, .inl rfl⟩
    rw [act_none] at kN
    have hab : ∀ z ∈ actL L a1 zs2, bestO L a1 z.a z.l zs2 = some z := fun z hz => (act_best hz).1
    have hnx := fun j y z h k => act_next (t := a1) (U := zs2) hg.srt (j := j) (y := y) (z := z) h k
    have hal : (actL L a1 zs2).length ≤ L.length := actN_len L a1 zs2 L.length
    generalize actL L a1 zs2 = A at *
    have HAB : Hid _ := hab
    have HNX : Hid _ := hnx
    have HKB : Hid _ := kB
    clear hT hg kp hab hnx kB
    go_wp2_with (go_at_call 19; refine kA.mono ?_; rintro e w4 ⟨v4, rfl, ho4, hx4⟩; obtain ⟨p4, c4, hv4, hR4⟩ := own_rd ho4; subst hv4)
    have HR : Hid (Rd w4 p4 A.length c4 A) := hR4
    have HE4 : Hid (Ext w1 w4) := hx4
    clear hR4 ho4 kA hx4
    go_loopg [11] A.length (fun kx s11 wr => ∃ (k : Nat), s11 = .int .i64 k ∧ k ≤ A.length ∧ A.length - k ≤ kx ∧ Ext w4 wr)
    case atStart => exact ⟨0, rfl, Nat.zero_le _, by omega, Ext.refl _⟩
    case round =>
      obtain ⟨k, rfl, hkn, hkx, hx⟩ := hrel
      by_cases hlt : k < A.length
      · obtain ⟨x, hxk⟩ : ∃ x, A[k]? = some x := ⟨_, List.getElem?_eq_getElem hlt⟩
        have hbx := HAB.out x (List.mem_of_getElem? hxk)
        have kB := HKB.out wr (HE4.out.trans hx) x.a x.l
        rw [hbx] at kB
        obtain ⟨b, off, hp4, hb, g0, g1, g2, g3, g4, g5⟩ := (HR.out.ext hx).cell hxk
        subst hp4
        have hki : (k : Int) < (A.length : Int) := by omega
        have nr := fun w => neq_rt x x w
        rw [eqB_refl, Bool.not_true] at nr
        have eg := rt_guard
        have egp := eq_guard
        clear hbx
        cases k with
        | zero =>
          simp only [Nat.zero_mul, Nat.add_zero] at g0 g1 g2 g3 g4 g5
          have hk0 : (0 : Int) < (A.length : Int) := by omega
          go_wp2_with (go_at_call 17; refine kB.mono ?_; rintro e w5 ⟨rfl, hx5⟩)
          refine wp_region_eager [(0, false), (1, false), (2, false), (3, false), (4, false), (5, false), (6, false), (7, false), (8, false), (9, false), (10, false), (11, false), (12, false), (13, false), (14, false), (15, false), (16, false), (17, false), (18, false), (19, false), (20, false), (21, false), (22, false), (23, false), (24, false), (25, false), (26, false), (27, false)] (by kernel_rfl) (by kernel_rfl) rfl (by kernel_rfl) (fun _ _ _ _ _ h => h) ?_
          have hdd : Ext (w5.alloc (.cells #[.int .i64 (theR (some x)).t, .int .u32 (theR (some x)).a, .int .i64 (theR (some x)).l, .int .i64 (theR (some x)).i, .int .u32 (theR (some x)).g, .int .i64 (theR (some x)).m] 27)) (w5.alloc (.cells #[.int .i64 (theR (some x)).t, .int .u32 (theR (some x)).a, .int .i64 (theR (some x)).l, .int .i64 (theR (some x)).i, .int .u32 (theR (some x)).g, .int .i64 (theR (some x)).m] 27)).drew := (Ext.refl _).drew
          obtain ⟨f0, f1, f2, f3, f4, f5⟩ := box_rtE (heap_new w5 (.cells #[.int .i64 (theR (some x)).t, .int .u32 (theR (some x)).a, .int .i64 (theR (some x)).l, .int .i64 (theR (some x)).i, .int .u32 (theR (some x)).g, .int .i64 (theR (some x)).m] 27))
          have s0 : ∀ w', Ext (w5.alloc (.cells #[.int .i64 (theR (some x)).t, .int .u32 (theR (some x)).a, .int .i64 (theR (some x)).l, .int .i64 (theR (some x)).i, .int .u32 (theR (some x)).g, .int .i64 (theR (some x)).m] 27)).drew w' → w'.cell? ⟨w5.heap.size, 0, none⟩ = some (.int .i64 x.t) := fun w' h => f0 w' (hdd.trans h)
          have s1 : ∀ w', Ext (w5.alloc (.cells #[.int .i64 (theR (some x)).t, .int .u32 (theR (some x)).a, .int .i64 (theR (some x)).l, .int .i64 (theR (some x)).i, .int .u32 (theR (some x)).g, .int .i64 (theR (some x)).m] 27)).drew w' → w'.cell? ⟨w5.heap.size, 1, none⟩ = some (.int .u32 x.a) := fun w' h => f1 w' (hdd.trans h)
          have s2 : ∀ w', Ext (w5.alloc (.cells #[.int .i64 (theR (some x)).t, .int .u32 (theR (some x)).a, .int .i64 (theR (some x)).l, .int .i64 (theR (some x)).i, .int .u32 (theR (some x)).g, .int .i64 (theR (some x)).m] 27)).drew w' → w'.cell? ⟨w5.heap.size, 2, none⟩ = some (.int .i64 x.l) := fun w' h => f2 w' (hdd.trans h)
          have s3 : ∀ w', Ext (w5.alloc (.cells #[.int .i64 (theR (some x)).t, .int .u32 (theR (some x)).a, .int .i64 (theR (some x)).l, .int .i64 (theR (some x)).i, .int .u32 (theR (some x)).g, .int .i64 (theR (some x)).m] 27)).drew w' → w'.cell? ⟨w5.heap.size, 3, none⟩ = some (.int .i64 x.i) := fun w' h => f3 w' (hdd.trans h)
          have s4 : ∀ w', Ext (w5.alloc (.cells #[.int .i64 (theR (some x)).t, .int .u32 (theR (some x)).a, .int .i64 (theR (some x)).l, .int .i64 (theR (some x)).i, .int .u32 (theR (some x)).g, .int .i64 (theR (some x)).m] 27)).drew w' → w'.cell? ⟨w5.heap.size, 4, none⟩ = some (.int .u32 x.g) := fun w' h => f4 w' (hdd.trans h)
          have s5 : ∀ w', Ext (w5.alloc (.cells #[.int .i64 (theR (some x)).t, .int .u32 (theR (some x)).a, .int .i64 (theR (some x)).l, .int .i64 (theR (some x)).i, .int .u32 (theR (some x)).g, .int .i64 (theR (some x)).m] 27)).drew w' → w'.cell? ⟨w5.heap.size, 5, none⟩ = some (.int .i64 x.m) := fun w' h => f5 w' (hdd.trans h)
          have hq : Ext wr (w5.alloc (.cells #[.int .i64 (theR (some x)).t, .int .u32 (theR (some x)).a, .int .i64 (theR (some x)).l, .int .i64 (theR (some x)).i, .int .u32 (theR (some x)).g, .int .i64 (theR (some x)).m] 27)).drew := hx5.trans (((Ext.refl w5).alloc _).drew)
          have hc : ∀ j u, wr.cell? ⟨b, j, none⟩ = some u → ∀ w', Ext (w5.alloc (.cells #[.int .i64 (theR (some x)).t, .int .u32 (theR (some x)).a, .int .i64 (theR (some x)).l, .int .i64 (theR (some x)).i, .int .u32 (theR (some x)).g, .int .i64 (theR (some x)).m] 27)).drew w' → w'.cell? ⟨b, j, none⟩ = some u := fun j u h w' h' => by rw [(hq.trans h').below.cell (p := ⟨b, j, none⟩) hb]; exact h
          have t0 := hc _ _ g0
          have t1 := hc _ _ g1
          have t2 := hc _ _ g2
          have t3 := hc _ _ g3
          have t4 := hc _ _ g4
          have t5 := hc _ _ g5
          clear f0 f1 f2 f3 f4 f5 hc hdd g0 g1 g2 g3 g4 g5
          generalize (w5.alloc (.cells #[.int .i64 (theR (some x)).t, .int .u32 (theR (some x)).a, .int .i64 (theR (some x)).l, .int .i64 (theR (some x)).i, .int .u32 (theR (some x)).g, .int .i64 (theR (some x)).m] 27)).drew = W at *
          iterate 14 (refine wpE_read (v := ?_) rfl (by rfl) ?_ ?_; rotate_left; (focus (intro w' hx; go_simp; first | done | with_reducible rfl)); simp only [Act.put, List.setIfInBounds_toArray, List.set_cons_zero, List.set_cons_succ])
          iterate 12 (rw [wpE_skip_eq _ rfl (by rfl)]; simp only [Act.put, List.setIfInBounds_toArray, List.set_cons_zero, List.set_cons_succ])
          iterate 2 (refine wpE_read (v := ?_) rfl (by rfl) ?_ ?_; rotate_left; (focus (intro w' hx; go_simp; first | done | with_reducible rfl)); simp only [Act.put, List.setIfInBounds_toArray, List.set_cons_zero, List.set_cons_succ])
          refine wpE_done ?_
          go_wp2_with fail
          go_roundg (A.length - (0 + 1))
          case measure => omega
          case rel => exact ⟨0 + 1, by go_num, by omega, Nat.le_refl _, hx.trans hq⟩
        | succ j =>
          obtain ⟨y, hyk⟩ : ∃ y, A[j]? = some y := ⟨_, List.getElem?_eq_getElem (by omega)⟩
          have hne := HNX.out j y x hyk hxk
          obtain ⟨b', off', hbo, hb', y0, y1, y2, -, -, -⟩ := (HR.out.ext hx).cell hyk
          cases hbo
          have ep := fun w => eql_prefix y.a y.l x.a x.l w
          rw [hne] at ep
          have c1 : (((j + 1 : Nat) : Int)) = (j : Int) + 1 := by omega
          have c2 : IntKind.i64.wrap (j : Int) = (j : Int) := by rw [IntKind.wrap_i64]; omega
          have c3 : (0 : Int) < (j : Int) + 1 := by omega
          have c4' : (j : Int) < (A.length : Int) := by omega
          have c6 : (0 : Int) ≤ (j : Int) + 1 := by omega
          have c5 : (j : Int) + 1 < (A.length : Int) := by omega
          clear hne hxk hyk
          go_wp2_with (go_at_call 17; refine kB.mono ?_; rintro e w5 ⟨rfl, hx5⟩)
          refine wp_region_eager [(0, false), (1, false), (2, false), (3, false), (4, false), (5, false), (6, false), (7, false), (8, false), (9, false), (10, false), (11, false), (12, false), (13, false), (14, false), (15, false), (16, false), (17, false), (18, false), (19, false), (20, false), (21, false), (22, false), (23, false), (24, false), (25, false), (26, false), (27, false)] (by kernel_rfl) (by kernel_rfl) rfl (by kernel_rfl) (fun _ _ _ _ _ h => h) ?_
          have hdd : Ext (w5.alloc (.cells #[.int .i64 (theR (some x)).t, .int .u32 (theR (some x)).a, .int .i64 (theR (some x)).l, .int .i64 (theR (some x)).i, .int .u32 (theR (some x)).g, .int .i64 (theR (some x)).m] 27)) (w5.alloc (.cells #[.int .i64 (theR (some x)).t, .int .u32 (theR (some x)).a, .int .i64 (theR (some x)).l, .int .i64 (theR (some x)).i, .int .u32 (theR (some x)).g, .int .i64 (theR (some x)).m] 27)).drew := (Ext.refl _).drew
          obtain ⟨f0, f1, f2, f3, f4, f5⟩ := box_rtE (heap_new w5 (.cells #[.int .i64 (theR (some x)).t, .int .u32 (theR (some x)).a, .int .i64 (theR (some x)).l, .int .i64 (theR (some x)).i, .int .u32 (theR (some x)).g, .int .i64 (theR (some x)).m] 27))
          have s0 : ∀ w', Ext (w5.alloc (.cells #[.int .i64 (theR (some x)).t, .int .u32 (theR (some x)).a, .int .i64 (theR (some x)).l, .int .i64 (theR (some x)).i, .int .u32 (theR (some x)).g, .int .i64 (theR (some x)).m] 27)).drew w' → w'.cell? ⟨w5.heap.size, 0, none⟩ = some (.int .i64 x.t) := fun w' h => f0 w' (hdd.trans h)
          have s1 : ∀ w', Ext (w5.alloc (.cells #[.int .i64 (theR (some x)).t, .int .u32 (theR (some x)).a, .int .i64 (theR (some x)).l, .int .i64 (theR (some x)).i, .int .u32 (theR (some x)).g, .int .i64 (theR (some x)).m] 27)).drew w' → w'.cell? ⟨w5.heap.size, 1, none⟩ = some (.int .u32 x.a) := fun w' h => f1 w' (hdd.trans h)
          have s2 : ∀ w', Ext (w5.alloc (.cells #[.int .i64 (theR (some x)).t, .int .u32 (theR (some x)).a, .int .i64 (theR (some x)).l, .int .i64 (theR (some x)).i, .int .u32 (theR (some x)).g, .int .i64 (theR (some x)).m] 27)).drew w' → w'.cell? ⟨w5.heap.size, 2, none⟩ = some (.int .i64 x.l) := fun w' h => f2 w' (hdd.trans h)
          have s3 : ∀ w', Ext (w5.alloc (.cells #[.int .i64 (theR (some x)).t, .int .u32 (theR (some x)).a, .int .i64 (theR (some x)).l, .int .i64 (theR (some x)).i, .int .u32 (theR (some x)).g, .int .i64 (theR (some x)).m] 27)).drew w' → w'.cell? ⟨w5.heap.size, 3, none⟩ = some (.int .i64 x.i) := fun w' h => f3 w' (hdd.trans h)
          have s4 : ∀ w', Ext (w5.alloc (.cells #[.int .i64 (theR (some x)).t, .int .u32 (theR (some x)).a, .int .i64 (theR (some x)).l, .int .i64 (theR (some x)).i, .int .u32 (theR (some x)).g, .int .i64 (theR (some x)).m] 27)).drew w' → w'.cell? ⟨w5.heap.size, 4, none⟩ = some (.int .u32 x.g) := fun w' h => f4 w' (hdd.trans h)
          have s5 : ∀ w', Ext (w5.alloc (.cells #[.int .i64 (theR (some x)).t, .int .u32 (theR (some x)).a, .int .i64 (theR (some x)).l, .int .i64 (theR (some x)).i, .int .u32 (theR (some x)).g, .int .i64 (theR (some x)).m] 27)).drew w' → w'.cell? ⟨w5.heap.size, 5, none⟩ = some (.int .i64 x.m) := fun w' h => f5 w' (hdd.trans h)
          have hq : Ext wr (w5.alloc (.cells #[.int .i64 (theR (some x)).t, .int .u32 (theR (some x)).a, .int .i64 (theR (some x)).l, .int .i64 (theR (some x)).i, .int .u32 (theR (some x)).g, .int .i64 (theR (some x)).m] 27)).drew := hx5.trans (((Ext.refl w5).alloc _).drew)
          have hc : ∀ j u, wr.cell? ⟨b, j, none⟩ = some u → ∀ w', Ext (w5.alloc (.cells #[.int .i64 (theR (some x)).t, .int .u32 (theR (some x)).a, .int .i64 (theR (some x)).l, .int .i64 (theR (some x)).i, .int .u32 (theR (some x)).g, .int .i64 (theR (some x)).m] 27)).drew w' → w'.cell? ⟨b, j, none⟩ = some u := fun j u h w' h' => by rw [(hq.trans h').below.cell (p := ⟨b, j, none⟩) hb]; exact h
          have t0 := hc _ _ g0
          have t1 := hc _ _ g1
          have t2 := hc _ _ g2
          have t3 := hc _ _ g3
          have t4 := hc _ _ g4
          have t5 := hc _ _ g5
          have v1 := hc _ _ y1
          have v2 := hc _ _ y2
          clear f0 f1 f2 f3 f4 f5 hc hdd g0 g1 g2 g3 g4 g5 y0 y1 y2
          generalize (w5.alloc (.cells #[.int .i64 (theR (some x)).t, .int .u32 (theR (some x)).a, .int .i64 (theR (some x)).l, .int .i64 (theR (some x)).i, .int .u32 (theR (some x)).g, .int .i64 (theR (some x)).m] 27)).drew = W at *
          iterate 28 (refine wpE_read (v := ?_) rfl (by rfl) ?_ ?_; rotate_left; (focus (intro w' hx; go_simp; first | done | with_reducible rfl)); simp only [Act.put, List.setIfInBounds_toArray, List.set_cons_zero, List.set_cons_succ])
          refine wpE_done ?_
          go_wp2_with fail
          go_roundg (A.length - ((j + 1) + 1))
          case measure => omega
          case rel => exact ⟨(j + 1) + 1, by go_num, by omega, Nat.le_refl _, hx.trans hq⟩
      · obtain rfl : k = A.length := by omega
        go_wp2_with (first
          | (go_at_call 19; refine (kN _ (HE4.out.trans hx)).mono ?_; rintro e w6 ⟨v6, rfl, ho6, hx6⟩; obtain ⟨p6, c6, hv6, hR6⟩ := own_rd ho6; subst hv6; clear ho6 hR6)
          | (go_at_call 16; refine (kn _).mono ?_; rintro e w7 ⟨rfl, hx7⟩))
        go_ret
        exact ⟨rfl, HE1.out.trans (HE4.out.trans (hx.trans (hx6.trans hx7)))⟩

theorem contract (H : Type) (enc : TypeId × Value → H) (W : World) (base : Nat) (args : Array Value) (ds gs : List (DataW H)) (before : List MemPlace)
    (hval : ∀ (j : Nat) t v, Try.f10.params[j]? = some t → args[j]? = some v → Value.okWide Try.prog W .any base t v)
    (hW : DataW.Whole enc Try.prog Try.f10.params.toList Rows.ribActiveSpec.vars false W args.toList ds gs before) (hsh : W.ShapedOpen Try.prog) :
    Calls Try.prog 10 args W fun e W' => ∃ v, e = .returned v ∧ Rows.ribActiveSpec.post enc Try.prog Try.f10 false true false false W args v W' := by
  have hW' := hW
  obtain ⟨p, q, hA0, hV, rfl, hfz, hnd⟩ := hW
  have hA : DataW.TrodAll enc Try.prog W 0 (fun _ => true) true Try.f10.params.toList args.toList ds p := hA0
  rw [Try.params10] at hA hval
  obtain ⟨v0, vs0, d0, ds0, p0, q0, hargs, rfl, rfl, h0, r0⟩ := trodAll_cons hA
  obtain ⟨v1, vs1, d1, ds1, p1, q1, rfl, rfl, rfl, h1, r1⟩ := trodAll_cons r0
  obtain ⟨v2, vs2, d2, ds2, p2, q2, rfl, rfl, rfl, h2, r2⟩ := trodAll_cons r1
  obtain ⟨rfl, rfl, rfl⟩ := trodAll_nil r2
  obtain rfl : args = #[v0, v1, v2] := by cases args; simp_all
  obtain ⟨rfl, rfl⟩ := trodVars_none hV
  have k0 := h0
  have lt0 : ∀ x ∈ p0, x.block < W.heap.size := by obtain ⟨m, hm⟩ := k0; exact DataW.trod_lt m _ _ _ hm
  obtain ⟨b0, l0, c0, rfl⟩ := okWide_slice Try.underlying22 (hval 0 22 v0 rfl rfl)
  obtain ⟨fu0, hf0⟩ := h0
  obtain ⟨a0, len0, cap0, zs0, ce0, row0⟩ := open_rowG 7 cells56 ok56 (by omega) cells56_length Try.underlying22 (by kernel_rfl) elem56 hf0
  obtain ⟨rfl, rfl, rfl⟩ : a0 = b0 ∧ len0 = l0 ∧ cap0 = c0 := by simpa [Value.cells, eq_comm] using ce0
  obtain ⟨a1, rfl, rfl, rfl, w1⟩ := open_int Try.underlying3 (hval 1 3 v1 rfl rfl) h1
  have k2 := h2
  have lt2 : ∀ x ∈ p2, x.block < W.heap.size := by obtain ⟨m, hm⟩ := k2; exact DataW.trod_lt m _ _ _ hm
  obtain ⟨b2, l2, c2, rfl⟩ := okWide_slice Try.underlying40 (hval 2 40 v2 rfl rfl)
  obtain ⟨fu2, hf2⟩ := h2
  obtain ⟨a2, len2, cap2, zs2, ce2, row2⟩ := open_rowG 1 cells4 ok4 (by omega) cells4_length Try.underlying40 (by kernel_rfl) elem4 hf2
  obtain ⟨rfl, rfl, rfl⟩ : a2 = b2 ∧ len2 = l2 ∧ cap2 = c2 := by simpa [Value.cells, eq_comm] using ce2
  clear hA0
  refine (walk a0 len0 cap0 zs0 a1 a2 len2 cap2 zs2 W row0 w1 row2 hsh).mono fun e W' ⟨he, bel⟩ => ?_
  subst he
  exact ⟨_, rfl, _, _, _, [], _, [], hW', trodAll_mk1 (shut_bool Try.underlying4 _), (trodAll_cons_mk (Below.trod laidOut (by kernel_rfl) (of_decide_eq_true (by kernel_rfl)) k0 bel lt0) (trodAll_cons_mk (shut_int Try.underlying3 w1) (trodAll_cons_mk (Below.trod laidOut (by kernel_rfl) (of_decide_eq_true (by kernel_rfl)) k2 bel lt2) trodAll_mk0))), rfl, bel.frame _, fun h => by cases h⟩

theorem laid_met (os : Os) : laidMet Try.prog Rows.ribActiveRow.laid ((World.doorLaid Try.prog 24 os).forCall (fun _ _ => 0) ⟨#[], #[.slice none 0 0, .int .i64 0, .slice none 0 0], []⟩).memory :=
  laidMet_of_run' 8 (by kernel_rfl) (by kernel_rfl)
theorem reads (os : Os) {H : Type} (enc : TypeId × Value → H) : ∃ places, DataW.whole enc Try.prog ((World.doorLaid Try.prog 24 os).forCall (fun _ _ => 0) ⟨#[], #[.slice none 0 0, .int .i64 0, .slice none 0 0], []⟩).memory Try.f10.params.toList Rows.ribActiveSpec.vars false (#[.slice none 0 0, .int .i64 0, .slice none 0 0] : Array Value).toList 8 = some ([.nil, .lit (.int .i64 0), .nil], [], places) :=
  ⟨[], by kernel_rfl⟩

set_option maxRecDepth 100000 in
theorem lifted (os : Os) (started : os.Started) (H : Type) (enc : TypeId × Value → H) (F : Stop.Interp) :
    ReturnsInHanded {} Try.checked os 10 .any ((OpenSpec.ofChange Rows.ribActiveSpec).preRow enc Try.prog Try.f10 Rows.ribActiveRow.domain false Rows.ribActiveRow.laid) (((OpenSpec.ofChange Rows.ribActiveSpec).at F).post enc Try.prog Try.f10 false true false false) := by
  obtain ⟨places, hx⟩ := reads os enc
  refine returnsInHanded_of_row (C := Try.checked) (s := (OpenSpec.ofChange Rows.ribActiveSpec)) own started (by kernel_rfl) Try.func10
    (witness_row_at (enc := enc) (C := Try.checked) false (World.doorLaid Try.prog 24 os) #[.slice none 0 0, .int .i64 0, .slice none 0 0] rfl (by kernel_rfl) (by kernel_rfl) (by kernel_rfl)
      (OpenSpec.preRow_of_cond 8 hx (by kernel_rfl) (fun k hk => by cases hk) (by kernel_rfl) (laid_met os))) ?_
  intro W base args ds gs before hval hW _ hcond _ hL hsh _
  exact contract H enc W base args ds gs before hval hW hsh

theorem said : Rows.RibActiveSaid :=
  OpenClaim.holds_of_cond 10 Try.f10 rfl rfl rfl rfl rfl rfl rfl ⟨rfl, rfl, rfl, rfl, rfl⟩ rfl rfl rfl rfl rfl (by kernel_rfl) Try.func10 (by kernel_rfl)
    (of_decide_eq_true (by kernel_rfl)) (by unfold Func.isWrapper; first | (rw [if_pos (by decide +kernel)]; kernel_rfl) | (rw [if_neg (by decide +kernel)]; exact ⟨rfl, rfl⟩))
    (fun os started H enc _ F => by rw [OpenClaim.pre_eq_preRow]; exact lifted os started H enc F)

end Go.Proofs.Ytbchfmadmcppkaa.ribActive

namespace Go.Proofs.Ytbchfmadmcppkaa
theorem ribActive_holds : Rows.RibActiveSaid := ribActive.said
#print axioms ribActive_holds
end Go.Proofs.Ytbchfmadmcppkaa
