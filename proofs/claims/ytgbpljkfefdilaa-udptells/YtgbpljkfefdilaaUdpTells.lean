/- For every bytes, two addresses and two datagrams, the law UdpTells returns true: any bytes as a datagram, or the error; any datagram as bytes, or the error; whether two are one; no condition. -/
import Derived.Test.YtgbpljkfefdilaaRows
import Derived.Test.YtgbpljkfefdilaaUdp4K
import Derived.Test.YtgbpljkfefdilaaUdp5
import Derived.Test.YtgbpljkfefdilaaUdp5R
import Derived.Test.YtgbpljkfefdilaaUdp6
import Derived.Test.YtgbpljkfefdilaaUdp7
import Derived.Test.YtgbpljkfefdilaaFrame
import Derived.WalkKit
import Derived.ProofKit
import Derived.OpenShut
import Derived.ShutString
import Derived.ChangeOld
import Derived.Deep.DeepHandedRow
import Derived.Lib.LaidTab
import Derived.Lib.SmallJoins
import Derived.LaidMore
import Derived.Stop.LaidErr
import Derived.ChangeMaps5
namespace Go.Proofs.Ytgbpljkfefdilaa.udpTells
open Go.ChangeShapes Go.WideShapes Go.ChangeAt Go.RowKit Go.ChangeMaps
set_option linter.unusedVariables false

theorem own : ownKnob Try.prog.godebug = none := by kernel_rfl
theorem laidOut : laidOutB Try.prog = true := by kernel_rfl

theorem arr3 {α : Type} {cs : Array α} (h : cs.size = 3) : ∃ c0 c1 c2, cs = #[c0, c1, c2] := by
  obtain ⟨l⟩ := cs
  match l, h with
  | [c0, c1, c2], _ => exact ⟨c0, c1, c2, rfl⟩

set_option maxHeartbeats 4000000 in
theorem walk (a0 : Option Addr) (len0 cap0 : Nat) (zs0 : List Int) (a1 : Int) (a2 : Int) (a30 : Int) (a31 : Int) (a32 : Option Addr) (len32 cap32 : Nat) (zs32 : List Int) (a40 : Int) (a41 : Int) (a42 : Option Addr) (len42 cap42 : Nat) (zs42 : List Int) (w : World) (row0 : IsRow .u8 w a0 len0 cap0 zs0) (w1 : (Lit.int .u32 a1).wf = true) (w2 : (Lit.int .u32 a2).wf = true) (w30 : (Lit.int .i64 a30).wf = true) (w31 : (Lit.int .i64 a31).wf = true) (row32 : IsRow .u8 w a32 len32 cap32 zs32) (w40 : (Lit.int .i64 a40).wf = true) (w41 : (Lit.int .i64 a41).wf = true) (row42 : IsRow .u8 w a42 len42 cap42 zs42) (hsh : w.ShapedOpen Try.prog) :
    Calls Try.prog 3 #[.slice a0 len0 cap0, .int .u32 a1, .int .u32 a2, .agg #[.int .i64 a30, .int .i64 a31, .slice a32 len32 cap32], .agg #[.int .i64 a40, .int .i64 a41, .slice a42 len42 cap42]] w fun e w' => e = .returned (.bool true) ∧ Below w.heap.size w w' := by
  have rb := row0.bytes
  have hle := row0.le
  have bs := bounds_u32 w1
  have bd := bounds_u32 w2
  have r3 := row32.bytes
  have z3 := row32.nil_cap
  have r4 := row42.bytes
  have hx0 : Ext w ((w.alloc (.cells #[.int .i64 a30, .int .i64 a31, .slice a32 len32 cap32] 25)).alloc (.cells #[.int .i64 a40, .int .i64 a41, .slice a42 len42 cap42] 25)) := ((Ext.refl w).alloc _).alloc _
  by_cases h2000 : 2000 < len0 ∨ 1500 < len32 ∨ 1500 < len42
  · rcases (by omega : 2000 < len0 ∨ (len0 ≤ 2000 ∧ 1500 < len32) ∨ (len0 ≤ 2000 ∧ len32 ≤ 1500 ∧ 1500 < len42)) with h | ⟨h, h'⟩ | ⟨h, h', h''⟩
    all_goals
      clear h2000
      go_enter Try.func3, Try.ntmps3
      go_wp2
      go_ret
      exact ⟨rfl, hx0⟩
  have n0 : len0 ≤ 2000 := by omega
  have n3 : len32 ≤ 1500 := by omega
  have n4 : len42 ≤ 1500 := by omega
  clear h2000
  have hA := ((Ext.refl (w.alloc (.cells #[.int .i64 a30, .int .i64 a31, .slice a32 len32 cap32] 25))).alloc (.cells #[.int .i64 a40, .int .i64 a41, .slice a42 len42 cap42] 25)).heap (heap_new' w (.cells #[.int .i64 a30, .int .i64 a31, .slice a32 len32 cap32] 25))
  have hB := heap_new' (w.alloc (.cells #[.int .i64 a30, .int .i64 a31, .slice a32 len32 cap32] 25)) (.cells #[.int .i64 a40, .int .i64 a41, .slice a42 len42 cap42] 25)
  rw [show (w.alloc (.cells #[.int .i64 a30, .int .i64 a31, .slice a32 len32 cap32] 25)).heap.size = w.heap.size + 1 by simp] at hB
  obtain ⟨x0, x1, x2⟩ := box_datE hA
  obtain ⟨y0, y1, y2⟩ := box_datE hB
  clear hA hB
  have tok1 : Hid True := trivial
  have go : ∀ (M : Nat) (Y : List Int) (er : Int)
      (cb : ∀ w, Bytes w a32 len32 (zs32.take len32) → Calls Try.prog 9 #[.int .u32 a1, .int .u32 a2, .agg #[.int .i64 a30, .int .i64 a31, .slice a32 len32 cap32]] w fun e w' => ∃ q c, e = .returned (.tuple #[.slice q M c, .int .i64 er]) ∧ Bytes w' q M Y ∧ Ext w w')
      (cc : ∀ w, Bytes w a32 len32 (zs32.take len32) → Calls Try.prog 10 #[.int .u32 a1, .int .u32 a2, .agg #[.int .i64 a30, .int .i64 a31, .slice a32 len32 cap32]] w fun e w' => ∃ q c, e = .returned (.tuple #[.slice q M c, .int .i64 er]) ∧ Bytes w' q M Y ∧ Ext w w'),
      Calls Try.prog 3 #[.slice a0 len0 cap0, .int .u32 a1, .int .u32 a2, .agg #[.int .i64 a30, .int .i64 a31, .slice a32 len32 cap32], .agg #[.int .i64 a40, .int .i64 a41, .slice a42 len42 cap42]] w fun e w' => e = .returned (.bool true) ∧ Below w.heap.size w w' := by
    intro M Y er cb cc
    generalize zs0.take len0 = xs at *
    have c1 := fun W h => Udp.parse_any a0 len0 cap0 xs W h hle (by omega)
    have c2 := fun W h => Udp.refParse_any a0 len0 cap0 xs W h hle (by omega)
    have HR : Hid (∀ w e w', Udp.ParseAns w xs e w' → ∃ v, e = .returned (.tuple #[v, .int .i64 (Udp.lookV xs)]) ∧ Udp.IsDat w' v (Udp.packV xs) ∧ Ext w w') := fun w e w' h => h
    have cs := fun g1 m1 e1 f1 l1 d1 W h1 h2 => Udp.refSame_any (Udp.packV xs) (Udp.packV xs) g1 m1 e1 f1 l1 d1 W h1 h2
    rw [Udp.sameV_self] at cs
    have c3 := fun w h1 h2 => Udp.same_any ⟨a30, a31, zs32.take len32⟩ ⟨a40, a41, zs42.take len42⟩ a32 len32 cap32 a42 len42 cap42 w h1 h2
    have c4 := fun w h1 h2 => Udp.refSame_any ⟨a30, a31, zs32.take len32⟩ ⟨a40, a41, zs42.take len42⟩ a32 len32 cap32 a42 len42 cap42 w h1 h2
    generalize Udp.sameV ⟨a30, a31, zs32.take len32⟩ ⟨a40, a41, zs42.take len42⟩ = SM at *
    generalize Udp.packV xs = p at *
    generalize Udp.lookV xs = el at *
    generalize Udp.ParseAns = PA at *
    obtain ⟨p0, p1, p2⟩ := p
    dsimp only at *
    have hW0 : ((w.alloc (.cells #[.int .i64 a30, .int .i64 a31, .slice a32 len32 cap32] 25)).alloc (.cells #[.int .i64 a40, .int .i64 a41, .slice a42 len42 cap42] 25)).heap.size = w.heap.size + 2 := by simp
    go_enter Try.func3, Try.ntmps3
    go_wp2_with (first
      | (go_at_call 7; refine (c1 _ (rb.below hx0)).mono ?_; intro e w1 hRd; obtain ⟨v, rfl, ⟨⟨g1, m1, e1, rfl, hg1, _, _⟩⟩, hx1⟩ := HR.out _ _ _ hRd; clear hRd; have hxa : Ext w1 (w1.alloc (.cells #[.int .i64 p0, .int .i64 p1, .slice g1 m1 e1] 25)) := (Ext.refl _).alloc _; have hx1a := hx1.trans hxa; have hy1 := hx0.trans hx1a)
      | (go_at_call 8; refine (c2 _ (rb.below hy1)).mono ?_; intro e w2 hRd; obtain ⟨v, rfl, ⟨⟨f1, l1, d1, rfl, hf1, _, _⟩⟩, hx2⟩ := HR.out _ _ _ hRd; clear hRd; have hx2b : Ext w2 (w2.alloc (.cells #[.int .i64 p0, .int .i64 p1, .slice f1 l1 d1] 25)) := (Ext.refl _).alloc _; have hx2a := hx2.trans hx2b; have hx02 := hx1a.trans hx2a; have hy2 := hx0.trans hx02)
      | (go_at_call 9; refine (cb _ (r3.below hy2)).mono ?_; rintro e w3 ⟨q3, c3', rfl, hb3, hx3⟩; have hx03 := hx02.trans hx3; have hy3 := hx0.trans hx03)
      | (go_at_call 10; refine (cc _ (r3.below hy3)).mono ?_; rintro e w4 ⟨q4, c4', rfl, hb4, hx4⟩))
    have hx4d : Ext w4 w4.drew := (Ext.refl _).drew
    have hX := (hx03.trans hx4).trans hx4d
    have hYX := hx0.trans hX
    have sA := (hb3.below (hx4.trans hx4d)).conv c3'
    have sB := (hb4.below hx4d).conv c4'
    generalize strOfNums Y = SY at *
    have hk := hx2a.trans (hx3.trans (hx4.trans hx4d))
    have hl := hx3.trans (hx4.trans hx4d)
    obtain ⟨k0, k1, k2⟩ := box_datE (hk.heap (heap_new' w1 (.cells #[.int .i64 p0, .int .i64 p1, .slice g1 m1 e1] 25)))
    obtain ⟨j0, j1, j2⟩ := box_datE (hl.heap (heap_new' w2 (.cells #[.int .i64 p0, .int .i64 p1, .slice f1 l1 d1] 25)))
    have hg1' := hg1.below (hxa.trans hk)
    have hf1' := hf1.below (hx2b.trans hl)
    replace x0 := fun w' h => x0 w' (hX.trans h)
    replace x1 := fun w' h => x1 w' (hX.trans h)
    replace x2 := fun w' h => x2 w' (hX.trans h)
    replace y0 := fun w' h => y0 w' (hX.trans h)
    replace y1 := fun w' h => y1 w' (hX.trans h)
    replace y2 := fun w' h => y2 w' (hX.trans h)
    refine wp_region_eager [(0, false), (1, false), (2, true), (3, false), (4, false), (5, false), (6, false), (7, false), (8, false), (9, false), (10, false), (11, false), (12, false), (13, false), (14, false), (15, false), (16, false), (17, false), (18, false), (19, false), (20, false), (21, false), (22, false), (24, false), (25, false), (23, true), (26, true), (27, false), (28, false), (29, false), (30, true), (31, false), (32, false)] (by kernel_rfl) (by kernel_rfl) rfl (by kernel_rfl) (fun _ _ _ _ _ h => h) ?_
    clear hx1 hxa hx1a hy1 hx2 hx2a hx2b hx02 hy2 hx3 hx03 hy3 hx4 hx4d hb3 hb4 cb cc c1 c2 hX hk hl hg1 hf1 hx0 hW0
    generalize w4.drew = V at *
    repeat (first
      | (refine wpE_read (v := ?_) rfl (by rfl) ?_ ?_; rotate_left; (focus (intro w' hx; go_simp; first | done | with_reducible rfl)); simp only [Act.put, List.setIfInBounds_toArray, List.set_cons_zero, List.set_cons_succ])
      | (refine wpE_call rfl (by rfl) (fun K hK => ?_); go_simp; first
          | (go_at_call 11; clear tok1 k0 k1 k2 j0 j1 j2; refine (cs g1 m1 e1 f1 l1 d1 _ hg1' hf1').mono ?_; rintro e w6 ⟨rfl, hx6⟩; refine hK _ _ hx6 ?_; clear hK K; replace hYX := hYX.trans hx6; replace x0 := fun w' h => x0 w' (hx6.trans h); replace x1 := fun w' h => x1 w' (hx6.trans h); replace x2 := fun w' h => x2 w' (hx6.trans h); replace y0 := fun w' h => y0 w' (hx6.trans h); replace y1 := fun w' h => y1 w' (hx6.trans h); replace y2 := fun w' h => y2 w' (hx6.trans h); replace sA := fun w' h => sA w' (hx6.trans h); replace sB := fun w' h => sB w' (hx6.trans h); clear hx6)
          | (go_at_call 12; refine (c3 _ (r3.below hYX) (r4.below hYX)).mono ?_; rintro e w7 ⟨rfl, hx7⟩; refine hK _ _ hx7 ?_; clear hK K; replace hYX := hYX.trans hx7; replace x0 := fun w' h => x0 w' (hx7.trans h); replace x1 := fun w' h => x1 w' (hx7.trans h); replace x2 := fun w' h => x2 w' (hx7.trans h); replace y0 := fun w' h => y0 w' (hx7.trans h); replace y1 := fun w' h => y1 w' (hx7.trans h); replace y2 := fun w' h => y2 w' (hx7.trans h); clear hx7)
          | (go_at_call 11; refine (c4 _ (r3.below hYX) (r4.below hYX)).mono ?_; rintro e w8 ⟨rfl, hx8⟩; refine hK _ _ hx8 ?_; clear hK K; replace hYX := hYX.trans hx8; clear hx8)
          | (go_at_call 13; refine (Udp.known_any _).mono ?_; rintro e w10 ⟨rfl, hx10⟩; refine hK _ _ hx10 ?_; clear hK K; replace hYX := hYX.trans hx10)))
    refine wpE_done ?_
    go_wp2
    go_ret
    exact ⟨rfl, hYX⟩
  have l3 : (⟨a30, a31, zs32.take len32⟩ : Udp.DATv).data.length = len32 := r3.length
  by_cases his : Udp.isV ⟨a30, a31, zs32.take len32⟩ = true
  · have hp := (Udp.isV_iff _).1 his
    obtain ⟨N, hN⟩ : ∃ N, 8 + len32 = N := ⟨_, rfl⟩
    refine go N (Udp.buildV a1 a2 ⟨a30, a31, zs32.take len32⟩) 0 (fun w h => ?_) (fun w h => ?_)
    · refine (Udp.build_good a1 a2 ⟨a30, a31, zs32.take len32⟩ a32 len32 cap32 w h z3 hp bs.1 bs.2 bd.1 bd.2 N hN).mono ?_
      rintro e w' ⟨q, c, rfl, ho, hx⟩
      exact ⟨q, c, rfl, (owns_slice ho (Udp.build_ok (p := ⟨a30, a31, zs32.take len32⟩) a1 a2 r3.ok)).1, hx⟩
    · exact Udp.refBuild_good a1 a2 ⟨a30, a31, zs32.take len32⟩ a32 len32 cap32 w h z3 hp bs.1 bs.2 bd.1 bd.2 N hN
  · rw [Bool.not_eq_true] at his
    refine go 0 [] 1 (fun w h => ?_) (fun w h => ?_)
    · refine (Udp.build_bad a1 a2 ⟨a30, a31, zs32.take len32⟩ a32 len32 cap32 w l3 his).mono ?_
      rintro e w' ⟨rfl, hx⟩
      exact ⟨none, 0, rfl, bytes_nil w', hx⟩
    · refine (Udp.refBuild_bad a1 a2 ⟨a30, a31, zs32.take len32⟩ a32 len32 cap32 w l3 his).mono ?_
      rintro e w' ⟨rfl, hx⟩
      exact ⟨none, 0, rfl, bytes_nil w', hx⟩

theorem contract (H : Type) (enc : TypeId × Value → H) (W : World) (base : Nat) (args : Array Value) (ds gs : List (DataW H)) (before : List MemPlace)
    (hval : ∀ (j : Nat) t v, Try.f3.params[j]? = some t → args[j]? = some v → Value.okWide Try.prog W .any base t v)
    (hW : DataW.Whole enc Try.prog Try.f3.params.toList Rows.udpTellsSpec.vars false W args.toList ds gs before) (hsh : W.ShapedOpen Try.prog) :
    Calls Try.prog 3 args W fun e W' => ∃ v, e = .returned v ∧ Rows.udpTellsSpec.post enc Try.prog Try.f3 false true false false W args v W' := by
  have hW' := hW
  obtain ⟨p, q, hA0, hV, rfl, hfz, hnd⟩ := hW
  have hA : DataW.TrodAll enc Try.prog W 0 (fun _ => true) true Try.f3.params.toList args.toList ds p := hA0
  rw [Try.params3] at hA hval
  obtain ⟨v0, vs0, d0, ds0, p0, q0, hargs, rfl, rfl, h0, r0⟩ := trodAll_cons hA
  obtain ⟨v1, vs1, d1, ds1, p1, q1, rfl, rfl, rfl, h1, r1⟩ := trodAll_cons r0
  obtain ⟨v2, vs2, d2, ds2, p2, q2, rfl, rfl, rfl, h2, r2⟩ := trodAll_cons r1
  obtain ⟨v3, vs3, d3, ds3, p3, q3, rfl, rfl, rfl, h3, r3⟩ := trodAll_cons r2
  obtain ⟨v4, vs4, d4, ds4, p4, q4, rfl, rfl, rfl, h4, r4⟩ := trodAll_cons r3
  obtain ⟨rfl, rfl, rfl⟩ := trodAll_nil r4
  obtain rfl : args = #[v0, v1, v2, v3, v4] := by cases args; simp_all
  obtain ⟨rfl, rfl⟩ := trodVars_none hV
  have k0 := h0
  have lt0 : ∀ x ∈ p0, x.block < W.heap.size := by obtain ⟨m, hm⟩ := k0; exact DataW.trod_lt m _ _ _ hm
  obtain ⟨b0, l0, c0, rfl⟩ := okWide_slice Try.underlying22 (hval 0 22 v0 rfl rfl)
  obtain ⟨fu0, hf0⟩ := h0
  obtain ⟨a0, len0, cap0, zs0, ce0, row0⟩ := open_rowI Try.underlying22 Try.underlying5 (by kernel_rfl) (fun _ => rfl) hf0
  obtain ⟨rfl, rfl, rfl⟩ : a0 = b0 ∧ len0 = l0 ∧ cap0 = c0 := by simpa [Value.cells, eq_comm] using ce0
  obtain ⟨a1, rfl, rfl, rfl, w1⟩ := open_int Try.underlying23 (hval 1 23 v1 rfl rfl) h1
  obtain ⟨a2, rfl, rfl, rfl, w2⟩ := open_int Try.underlying23 (hval 2 23 v2 rfl rfl) h2
  have k3 := h3
  have lt3 : ∀ x ∈ p3, x.block < W.heap.size := by obtain ⟨m, hm⟩ := k3; exact DataW.trod_lt m _ _ _ hm
  obtain ⟨cs3, rfl, hs3⟩ := okWide_struct Try.underlying25 (hval 3 25 v3 rfl rfl)
  obtain ⟨u3a, u3b, u3c, rfl⟩ := arr3 (hs3.trans (by kernel_rfl))
  obtain ⟨fu3, hf3⟩ := h3
  obtain ⟨_, _, e1⟩ := field_at Try.underlying25 hf3 0 rfl 1 (by kernel_rfl)
  obtain ⟨a30, c2, _, w30⟩ := DataW.trod_int Try.underlying3 e1
  obtain rfl : u3a = .int .i64 a30 := by simpa [Value.cells] using c2
  obtain ⟨_, _, e3⟩ := field_at Try.underlying25 hf3 1 rfl 1 (by kernel_rfl)
  obtain ⟨a31, c4, _, w31⟩ := DataW.trod_int Try.underlying3 e3
  obtain rfl : u3b = .int .i64 a31 := by simpa [Value.cells] using c4
  obtain ⟨_, _, e5⟩ := field_at Try.underlying25 hf3 2 rfl 1 (by kernel_rfl)
  obtain ⟨a32, len32, cap32, zs32, c6, row32⟩ := open_rowI Try.underlying22 Try.underlying5 (by kernel_rfl) (fun _ => rfl) e5
  obtain rfl : u3c = .slice a32 len32 cap32 := by simpa [Value.cells] using c6
  have k4 := h4
  have lt4 : ∀ x ∈ p4, x.block < W.heap.size := by obtain ⟨m, hm⟩ := k4; exact DataW.trod_lt m _ _ _ hm
  obtain ⟨cs4, rfl, hs4⟩ := okWide_struct Try.underlying25 (hval 4 25 v4 rfl rfl)
  obtain ⟨u4a, u4b, u4c, rfl⟩ := arr3 (hs4.trans (by kernel_rfl))
  obtain ⟨fu4, hf4⟩ := h4
  obtain ⟨_, _, e7⟩ := field_at Try.underlying25 hf4 0 rfl 1 (by kernel_rfl)
  obtain ⟨a40, c8, _, w40⟩ := DataW.trod_int Try.underlying3 e7
  obtain rfl : u4a = .int .i64 a40 := by simpa [Value.cells] using c8
  obtain ⟨_, _, e9⟩ := field_at Try.underlying25 hf4 1 rfl 1 (by kernel_rfl)
  obtain ⟨a41, c10, _, w41⟩ := DataW.trod_int Try.underlying3 e9
  obtain rfl : u4b = .int .i64 a41 := by simpa [Value.cells] using c10
  obtain ⟨_, _, e11⟩ := field_at Try.underlying25 hf4 2 rfl 1 (by kernel_rfl)
  obtain ⟨a42, len42, cap42, zs42, c12, row42⟩ := open_rowI Try.underlying22 Try.underlying5 (by kernel_rfl) (fun _ => rfl) e11
  obtain rfl : u4c = .slice a42 len42 cap42 := by simpa [Value.cells] using c12
  clear hA0
  refine (walk a0 len0 cap0 zs0 a1 a2 a30 a31 a32 len32 cap32 zs32 a40 a41 a42 len42 cap42 zs42 W row0 w1 w2 w30 w31 row32 w40 w41 row42 hsh).mono fun e W' ⟨he, bel⟩ => ?_
  subst he
  exact ⟨_, rfl, _, _, _, [], _, [], hW', trodAll_mk1 (shut_bool Try.underlying4 _), (trodAll_cons_mk (Below.trod laidOut (by kernel_rfl) (of_decide_eq_true (by kernel_rfl)) k0 bel lt0) (trodAll_cons_mk (shut_int Try.underlying23 w1) (trodAll_cons_mk (shut_int Try.underlying23 w2) (trodAll_cons_mk (Below.trod laidOut (by kernel_rfl) (of_decide_eq_true (by kernel_rfl)) k3 bel lt3) (trodAll_cons_mk (Below.trod laidOut (by kernel_rfl) (of_decide_eq_true (by kernel_rfl)) k4 bel lt4) trodAll_mk0))))), rfl, bel.frame _, fun h => by cases h⟩

theorem laid_met (os : Os) : laidMet Try.prog Rows.udpTellsRow.laid ((World.doorLaid Try.prog 24 os).forCall (fun _ _ => 0) ⟨#[], #[.slice none 0 0, .int .u32 0, .int .u32 0, .agg #[.int .i64 0, .int .i64 0, .slice none 0 0], .agg #[.int .i64 0, .int .i64 0, .slice none 0 0]], []⟩).memory :=
  laidMet_of_run' 8 (by kernel_rfl) (by kernel_rfl)
theorem reads (os : Os) {H : Type} (enc : TypeId × Value → H) : ∃ places, DataW.whole enc Try.prog ((World.doorLaid Try.prog 24 os).forCall (fun _ _ => 0) ⟨#[], #[.slice none 0 0, .int .u32 0, .int .u32 0, .agg #[.int .i64 0, .int .i64 0, .slice none 0 0], .agg #[.int .i64 0, .int .i64 0, .slice none 0 0]], []⟩).memory Try.f3.params.toList Rows.udpTellsSpec.vars false (#[.slice none 0 0, .int .u32 0, .int .u32 0, .agg #[.int .i64 0, .int .i64 0, .slice none 0 0], .agg #[.int .i64 0, .int .i64 0, .slice none 0 0]] : Array Value).toList 8 = some ([.nil, .lit (.int .u32 0), .lit (.int .u32 0), .agg [.lit (.int .i64 0), .lit (.int .i64 0), .nil], .agg [.lit (.int .i64 0), .lit (.int .i64 0), .nil]], [], places) :=
  ⟨[], by kernel_rfl⟩

set_option maxRecDepth 100000 in
theorem lifted (os : Os) (started : os.Started) (H : Type) (enc : TypeId × Value → H) (F : Stop.Interp) :
    ReturnsInHanded {} Try.checked os 3 .any ((OpenSpec.ofChange Rows.udpTellsSpec).preRow enc Try.prog Try.f3 Rows.udpTellsRow.domain false Rows.udpTellsRow.laid) (((OpenSpec.ofChange Rows.udpTellsSpec).at F).post enc Try.prog Try.f3 false true false false) := by
  obtain ⟨places, hx⟩ := reads os enc
  refine returnsInHanded_of_row (C := Try.checked) (s := (OpenSpec.ofChange Rows.udpTellsSpec)) own started (by kernel_rfl) Try.func3
    (witness_row_at (enc := enc) (C := Try.checked) false (World.doorLaid Try.prog 24 os) #[.slice none 0 0, .int .u32 0, .int .u32 0, .agg #[.int .i64 0, .int .i64 0, .slice none 0 0], .agg #[.int .i64 0, .int .i64 0, .slice none 0 0]] rfl (by kernel_rfl) (by kernel_rfl) (by kernel_rfl)
      (OpenSpec.preRow_of_cond 8 hx (by kernel_rfl) (fun k hk => by cases hk) (by kernel_rfl) (laid_met os))) ?_
  intro W base args ds gs before hval hW _ hcond _ hL hsh _
  exact contract H enc W base args ds gs before hval hW hsh

theorem said : Rows.UdpTellsSaid :=
  OpenClaim.holds_of_cond 3 Try.f3 rfl rfl rfl rfl rfl rfl rfl ⟨rfl, rfl, rfl, rfl, rfl⟩ rfl rfl rfl rfl rfl (by kernel_rfl) Try.func3 (by kernel_rfl)
    (of_decide_eq_true (by kernel_rfl)) (by unfold Func.isWrapper; first | (rw [if_pos (by decide +kernel)]; kernel_rfl) | (rw [if_neg (by decide +kernel)]; exact ⟨rfl, rfl⟩))
    (fun os started H enc _ F => by rw [OpenClaim.pre_eq_preRow]; exact lifted os started H enc F)

end Go.Proofs.Ytgbpljkfefdilaa.udpTells

namespace Go.Proofs.Ytgbpljkfefdilaa
theorem udpTells_holds : Rows.UdpTellsSaid := udpTells.said
#print axioms udpTells_holds
end Go.Proofs.Ytgbpljkfefdilaa
