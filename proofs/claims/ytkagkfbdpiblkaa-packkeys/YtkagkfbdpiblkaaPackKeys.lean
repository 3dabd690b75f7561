/- For every two packets that are looked at and flow, the law PackKeys returns true: of any packet its flow, and of any flow the other way round; any two whether they are one; no condition. -/
import Derived.Test.YtkagkfbdpiblkaaRows
import Derived.Test.YtkagkfbdpiblkaaPackC
import Derived.Test.YtkagkfbdpiblkaaPackD
import Derived.Test.YtkagkfbdpiblkaaPackE
import Derived.Test.YtkagkfbdpiblkaaFrame
import Derived.WalkKit
import Derived.ProofKit
import Derived.OpenShut
import Derived.ShutString
import Derived.ChangeOld
import Derived.Deep.DeepHandedRow
import Derived.Lib.LaidTab
import Derived.Lib.SmallJoins
import Derived.LaidMore
import Derived.Stop.LaidErr
import Derived.ChangeMaps5
namespace Go.Proofs.Ytkagkfbdpiblkaa.packKeys
open Go.ChangeShapes Go.WideShapes Go.ChangeAt Go.RowKit Go.ChangeMaps
set_option linter.unusedVariables false
set_option maxRecDepth 100000

theorem own : ownKnob Try.prog.godebug = none := by kernel_rfl
theorem laidOut : laidOutB Try.prog = true := by kernel_rfl

theorem arr5 {α : Type} {cs : Array α} (h : cs.size = 5) : ∃ c0 c1 c2 c3 c4, cs = #[c0, c1, c2, c3, c4] := by
  obtain ⟨l⟩ := cs
  match l, h with
  | [c0, c1, c2, c3, c4], _ => exact ⟨c0, c1, c2, c3, c4, rfl⟩

theorem arr18 {α : Type} {cs : Array α} (h : cs.size = 18) : ∃ c0 c1 c2 c3 c4 c5 c6 c7 c8 c9 c10 c11 c12 c13 c14 c15 c16 c17, cs = #[c0, c1, c2, c3, c4, c5, c6, c7, c8, c9, c10, c11, c12, c13, c14, c15, c16, c17] := by
  obtain ⟨l⟩ := cs
  match l, h with
  | [c0, c1, c2, c3, c4, c5, c6, c7, c8, c9, c10, c11, c12, c13, c14, c15, c16, c17], _ => exact ⟨c0, c1, c2, c3, c4, c5, c6, c7, c8, c9, c10, c11, c12, c13, c14, c15, c16, c17, rfl⟩

theorem three_new (w : World) (o o' o'' : Obj) : (((w.alloc o).alloc o').alloc o'').heap[w.heap.size]? = some o ∧ (((w.alloc o).alloc o').alloc o'').heap[w.heap.size + 1]? = some o' ∧ (((w.alloc o).alloc o').alloc o'').heap[w.heap.size + 2]? = some o'' := by
  obtain ⟨h1, h2⟩ := Pack.two_new w o o'
  have hx : Ext ((w.alloc o).alloc o') (((w.alloc o).alloc o').alloc o'') := (Ext.refl _).alloc _
  refine ⟨hx.heap h1, hx.heap h2, ?_⟩
  have h := heap_new' ((w.alloc o).alloc o') o''
  rwa [show ((w.alloc o).alloc o').heap.size = w.heap.size + 2 by simp] at h

set_option maxHeartbeats 4000000 in
theorem walk (a00a : Int) (a00b : Int) (a00c : Bool) (a00d : Bool) (a00e : Int) (a00f : Int) (a00g : Int) (a00h : Int) (a00i : Int) (a00j : Option Addr) (len00j cap00j : Nat) (zs00j : List Int) (a00k : Option Addr) (len00k cap00k : Nat) (zs00k : List Int) (a01 : Int) (a02 : Int) (a03 : Int) (a04 : Int) (a05 : Int) (a06 : Int) (k07 : Option Addr) (o07 : Option Pack.KEYv) (a10a : Int) (a10b : Int) (a10c : Bool) (a10d : Bool) (a10e : Int) (a10f : Int) (a10g : Int) (a10h : Int) (a10i : Int) (a10j : Option Addr) (len10j cap10j : Nat) (zs10j : List Int) (a10k : Option Addr) (len10k cap10k : Nat) (zs10k : List Int) (a11 : Int) (a12 : Int) (a13 : Int) (a14 : Int) (a15 : Int) (a16 : Int) (k17 : Option Addr) (o17 : Option Pack.KEYv) (a20 : Int) (a21 : Int) (a22 : Int) (a23 : Int) (a24 : Int) (w : World) (w00a : (Lit.int .i64 a00a).wf = true) (w00b : (Lit.int .i64 a00b).wf = true) (w00e : (Lit.int .i64 a00e).wf = true) (w00f : (Lit.int .i64 a00f).wf = true) (w00g : (Lit.int .i64 a00g).wf = true) (w00h : (Lit.int .u32 a00h).wf = true) (w00i : (Lit.int .u32 a00i).wf = true) (row00j : IsRow .u8 w a00j len00j cap00j zs00j) (row00k : IsRow .u8 w a00k len00k cap00k zs00k) (w01 : (Lit.int .i64 a01).wf = true) (w02 : (Lit.int .i64 a02).wf = true) (w03 : (Lit.int .i64 a03).wf = true) (w04 : (Lit.int .i64 a04).wf = true) (w05 : (Lit.int .i64 a05).wf = true) (w06 : (Lit.int .i64 a06).wf = true) (q07 : Pack.IsKey w k07 o07) (w10a : (Lit.int .i64 a10a).wf = true) (w10b : (Lit.int .i64 a10b).wf = true) (w10e : (Lit.int .i64 a10e).wf = true) (w10f : (Lit.int .i64 a10f).wf = true) (w10g : (Lit.int .i64 a10g).wf = true) (w10h : (Lit.int .u32 a10h).wf = true) (w10i : (Lit.int .u32 a10i).wf = true) (row10j : IsRow .u8 w a10j len10j cap10j zs10j) (row10k : IsRow .u8 w a10k len10k cap10k zs10k) (w11 : (Lit.int .i64 a11).wf = true) (w12 : (Lit.int .i64 a12).wf = true) (w13 : (Lit.int .i64 a13).wf = true) (w14 : (Lit.int .i64 a14).wf = true) (w15 : (Lit.int .i64 a15).wf = true) (w16 : (Lit.int .i64 a16).wf = true) (q17 : Pack.IsKey w k17 o17) (w20 : (Lit.int .i64 a20).wf = true) (w21 : (Lit.int .u32 a21).wf = true) (w22 : (Lit.int .u32 a22).wf = true) (w23 : (Lit.int .i64 a23).wf = true) (w24 : (Lit.int .i64 a24).wf = true) (hsh : w.ShapedOpen Try.prog) :
    Calls Try.prog 4 #[.agg #[.int .i64 a00a, .int .i64 a00b, .bool a00c, .bool a00d, .int .i64 a00e, .int .i64 a00f, .int .i64 a00g, .int .u32 a00h, .int .u32 a00i, .slice a00j len00j cap00j, .slice a00k len00k cap00k, .int .i64 a01, .int .i64 a02, .int .i64 a03, .int .i64 a04, .int .i64 a05, .int .i64 a06, .pointer k07], .agg #[.int .i64 a10a, .int .i64 a10b, .bool a10c, .bool a10d, .int .i64 a10e, .int .i64 a10f, .int .i64 a10g, .int .u32 a10h, .int .u32 a10i, .slice a10j len10j cap10j, .slice a10k len10k cap10k, .int .i64 a11, .int .i64 a12, .int .i64 a13, .int .i64 a14, .int .i64 a15, .int .i64 a16, .pointer k17], .agg #[.int .i64 a20, .int .u32 a21, .int .u32 a22, .int .i64 a23, .int .i64 a24]] w fun e w' => e = .returned (.bool true) ∧ Below w.heap.size w w' := by
  have r0 := row00j.bytes
  have r1 := row00k.bytes
  have r2 := row10j.bytes
  have r3 := row10k.bytes
  have hx0 : Ext w (((w.alloc (.cells #[.int .i64 a00a, .int .i64 a00b, .bool a00c, .bool a00d, .int .i64 a00e, .int .i64 a00f, .int .i64 a00g, .int .u32 a00h, .int .u32 a00i, .slice a00j len00j cap00j, .slice a00k len00k cap00k, .int .i64 a01, .int .i64 a02, .int .i64 a03, .int .i64 a04, .int .i64 a05, .int .i64 a06, .pointer k07] 28)).alloc (.cells #[.int .i64 a10a, .int .i64 a10b, .bool a10c, .bool a10d, .int .i64 a10e, .int .i64 a10f, .int .i64 a10g, .int .u32 a10h, .int .u32 a10i, .slice a10j len10j cap10j, .slice a10k len10k cap10k, .int .i64 a11, .int .i64 a12, .int .i64 a13, .int .i64 a14, .int .i64 a15, .int .i64 a16, .pointer k17] 28)).alloc (.cells #[.int .i64 a20, .int .u32 a21, .int .u32 a22, .int .i64 a23, .int .i64 a24] 38)) := (((Ext.refl w).alloc _).alloc _).alloc _
  obtain ⟨H0, H1, H2⟩ := three_new w (.cells #[.int .i64 a00a, .int .i64 a00b, .bool a00c, .bool a00d, .int .i64 a00e, .int .i64 a00f, .int .i64 a00g, .int .u32 a00h, .int .u32 a00i, .slice a00j len00j cap00j, .slice a00k len00k cap00k, .int .i64 a01, .int .i64 a02, .int .i64 a03, .int .i64 a04, .int .i64 a05, .int .i64 a06, .pointer k07] 28) (.cells #[.int .i64 a10a, .int .i64 a10b, .bool a10c, .bool a10d, .int .i64 a10e, .int .i64 a10f, .int .i64 a10g, .int .u32 a10h, .int .u32 a10i, .slice a10j len10j cap10j, .slice a10k len10k cap10k, .int .i64 a11, .int .i64 a12, .int .i64 a13, .int .i64 a14, .int .i64 a15, .int .i64 a16, .pointer k17] 28) (.cells #[.int .i64 a20, .int .u32 a21, .int .u32 a22, .int .i64 a23, .int .i64 a24] 38)
  have c1 := fun w => Pack.long_any ⟨a00a, a00b, a00c, a00d, a00e, a00f, a00g, a00h, a00i, zs00j.take len00j, zs00k.take len00k⟩ a00j len00j cap00j a00k len00k cap00k w
  have c2 := fun w => Pack.long_any ⟨a10a, a10b, a10c, a10d, a10e, a10f, a10g, a10h, a10i, zs10j.take len10j, zs10k.take len10k⟩ a10j len10j cap10j a10k len10k cap10k w
  dsimp only at c1 c2
  have tok1 : Hid True := trivial
  have K0 : Hid _ := H0
  have K1 : Hid _ := H1
  have K2 : Hid _ := H2
  by_cases hl0 : 60 < len00j ∨ 1500 < len00k
  · rw [show decide (60 < len00j ∨ 1500 < len00k) = true by simpa using hl0] at c1
    clear hl0
    go_enter Try.func4, Try.ntmps4
    iterate 12 (first | go_values | go_skip | go_guarded | go_step | go_upon | go_in | go_simp)
    generalize (((w.alloc (.cells #[.int .i64 a00a, .int .i64 a00b, .bool a00c, .bool a00d, .int .i64 a00e, .int .i64 a00f, .int .i64 a00g, .int .u32 a00h, .int .u32 a00i, .slice a00j len00j cap00j, .slice a00k len00k cap00k, .int .i64 a01, .int .i64 a02, .int .i64 a03, .int .i64 a04, .int .i64 a05, .int .i64 a06, .pointer k07] 28)).alloc (.cells #[.int .i64 a10a, .int .i64 a10b, .bool a10c, .bool a10d, .int .i64 a10e, .int .i64 a10f, .int .i64 a10g, .int .u32 a10h, .int .u32 a10i, .slice a10j len10j cap10j, .slice a10k len10k cap10k, .int .i64 a11, .int .i64 a12, .int .i64 a13, .int .i64 a14, .int .i64 a15, .int .i64 a16, .pointer k17] 28)).alloc (.cells #[.int .i64 a20, .int .u32 a21, .int .u32 a22, .int .i64 a23, .int .i64 a24] 38)) = W at *
    obtain ⟨x0, x1, x2, x3, x4, x5, x6, x7, x8, x9, xa, xb, xc, xd, xe, xf, xg, xh⟩ := box_pkt (x := w.heap.size + 3) H0 (by omega) W (ExtX.refl _ _)
    clear H0 H1 H2
    go_wp2_with (go_at_call 12; refine (c1 _).mono ?_; rintro e w1 ⟨rfl, hx1⟩)
    go_ret
    exact ⟨rfl, hx0.trans hx1⟩
  rw [show decide (60 < len00j ∨ 1500 < len00k) = false by simpa using hl0] at c1
  clear hl0
  by_cases hl1 : 60 < len10j ∨ 1500 < len10k
  · rw [show decide (60 < len10j ∨ 1500 < len10k) = true by simpa using hl1] at c2
    clear hl1
    go_enter Try.func4, Try.ntmps4
    iterate 12 (first | go_values | go_skip | go_guarded | go_step | go_upon | go_in | go_simp)
    generalize (((w.alloc (.cells #[.int .i64 a00a, .int .i64 a00b, .bool a00c, .bool a00d, .int .i64 a00e, .int .i64 a00f, .int .i64 a00g, .int .u32 a00h, .int .u32 a00i, .slice a00j len00j cap00j, .slice a00k len00k cap00k, .int .i64 a01, .int .i64 a02, .int .i64 a03, .int .i64 a04, .int .i64 a05, .int .i64 a06, .pointer k07] 28)).alloc (.cells #[.int .i64 a10a, .int .i64 a10b, .bool a10c, .bool a10d, .int .i64 a10e, .int .i64 a10f, .int .i64 a10g, .int .u32 a10h, .int .u32 a10i, .slice a10j len10j cap10j, .slice a10k len10k cap10k, .int .i64 a11, .int .i64 a12, .int .i64 a13, .int .i64 a14, .int .i64 a15, .int .i64 a16, .pointer k17] 28)).alloc (.cells #[.int .i64 a20, .int .u32 a21, .int .u32 a22, .int .i64 a23, .int .i64 a24] 38)) = W at *
    obtain ⟨x0, x1, x2, x3, x4, x5, x6, x7, x8, x9, xa, xb, xc, xd, xe, xf, xg, xh⟩ := box_pkt (x := w.heap.size + 3) H0 (by omega) W (ExtX.refl _ _)
    clear H0 H1 H2
    go_wp2_with (first
      | (go_at_call 12; clear tok1; refine (c1 _).mono ?_; rintro e w1 ⟨rfl, hx1⟩; obtain ⟨y0, y1, y2, y3, y4, y5, y6, y7, y8, y9, ya, yb, yc, yd, ye, yf, yg, yh⟩ := box_pkt (x := w.heap.size + 3) (hx1.heap K1.out) (by omega) w1 (ExtX.refl _ _))
      | (go_at_call 12; refine (c2 _).mono ?_; rintro e w2 ⟨rfl, hx2⟩))
    go_ret
    exact ⟨rfl, hx0.trans (hx1.trans hx2)⟩
  rw [show decide (60 < len10j ∨ 1500 < len10k) = false by simpa using hl1] at c2
  clear hl1
  have cC := fun w => Pack.class_any ⟨a00a, a00b, a00c, a00d, a00e, a00f, a00g, a00h, a00i, zs00j.take len00j, zs00k.take len00k⟩ a00j len00j cap00j a00k len00k cap00k w
  have cD := fun w => Pack.refClass_any ⟨a00a, a00b, a00c, a00d, a00e, a00f, a00g, a00h, a00i, zs00j.take len00j, zs00k.take len00k⟩ a00j len00j cap00j a00k len00k cap00k w
  have cS := fun w h1 h2 => Pack.packSame_any (.agg #[.int .i64 a00a, .int .i64 a00b, .bool a00c, .bool a00d, .int .i64 a00e, .int .i64 a00f, .int .i64 a00g, .int .u32 a00h, .int .u32 a00i, .slice a00j len00j cap00j, .slice a00k len00k cap00k, .int .i64 a01, .int .i64 a02, .int .i64 a03, .int .i64 a04, .int .i64 a05, .int .i64 a06, .pointer k07]) (.agg #[.int .i64 a10a, .int .i64 a10b, .bool a10c, .bool a10d, .int .i64 a10e, .int .i64 a10f, .int .i64 a10g, .int .u32 a10h, .int .u32 a10i, .slice a10j len10j cap10j, .slice a10k len10k cap10k, .int .i64 a11, .int .i64 a12, .int .i64 a13, .int .i64 a14, .int .i64 a15, .int .i64 a16, .pointer k17]) ⟨⟨a00a, a00b, a00c, a00d, a00e, a00f, a00g, a00h, a00i, zs00j.take len00j, zs00k.take len00k⟩, a01, a02, a03, a04, a05, a06, o07⟩ ⟨⟨a10a, a10b, a10c, a10d, a10e, a10f, a10g, a10h, a10i, zs10j.take len10j, zs10k.take len10k⟩, a11, a12, a13, a14, a15, a16, o17⟩ w h1 h2
  have cR := fun w h1 h2 => Pack.refPackSame_any (.agg #[.int .i64 a00a, .int .i64 a00b, .bool a00c, .bool a00d, .int .i64 a00e, .int .i64 a00f, .int .i64 a00g, .int .u32 a00h, .int .u32 a00i, .slice a00j len00j cap00j, .slice a00k len00k cap00k, .int .i64 a01, .int .i64 a02, .int .i64 a03, .int .i64 a04, .int .i64 a05, .int .i64 a06, .pointer k07]) (.agg #[.int .i64 a10a, .int .i64 a10b, .bool a10c, .bool a10d, .int .i64 a10e, .int .i64 a10f, .int .i64 a10g, .int .u32 a10h, .int .u32 a10i, .slice a10j len10j cap10j, .slice a10k len10k cap10k, .int .i64 a11, .int .i64 a12, .int .i64 a13, .int .i64 a14, .int .i64 a15, .int .i64 a16, .pointer k17]) ⟨⟨a00a, a00b, a00c, a00d, a00e, a00f, a00g, a00h, a00i, zs00j.take len00j, zs00k.take len00k⟩, a01, a02, a03, a04, a05, a06, o07⟩ ⟨⟨a10a, a10b, a10c, a10d, a10e, a10f, a10g, a10h, a10i, zs10j.take len10j, zs10k.take len10k⟩, a11, a12, a13, a14, a15, a16, o17⟩ w h1 h2
  have cT := fun w h1 => Pack.packSame_any (.agg #[.int .i64 a00a, .int .i64 a00b, .bool a00c, .bool a00d, .int .i64 a00e, .int .i64 a00f, .int .i64 a00g, .int .u32 a00h, .int .u32 a00i, .slice a00j len00j cap00j, .slice a00k len00k cap00k, .int .i64 a01, .int .i64 a02, .int .i64 a03, .int .i64 a04, .int .i64 a05, .int .i64 a06, .pointer k07]) (.agg #[.int .i64 a00a, .int .i64 a00b, .bool a00c, .bool a00d, .int .i64 a00e, .int .i64 a00f, .int .i64 a00g, .int .u32 a00h, .int .u32 a00i, .slice a00j len00j cap00j, .slice a00k len00k cap00k, .int .i64 a01, .int .i64 a02, .int .i64 a03, .int .i64 a04, .int .i64 a05, .int .i64 a06, .pointer k07]) ⟨⟨a00a, a00b, a00c, a00d, a00e, a00f, a00g, a00h, a00i, zs00j.take len00j, zs00k.take len00k⟩, a01, a02, a03, a04, a05, a06, o07⟩ ⟨⟨a00a, a00b, a00c, a00d, a00e, a00f, a00g, a00h, a00i, zs00j.take len00j, zs00k.take len00k⟩, a01, a02, a03, a04, a05, a06, o07⟩ w h1 h1
  rw [Pack.sameP_self] at cT
  have i0 : ∀ w', Ext w w' → Pack.IsPkt w' (.agg #[.int .i64 a00a, .int .i64 a00b, .bool a00c, .bool a00d, .int .i64 a00e, .int .i64 a00f, .int .i64 a00g, .int .u32 a00h, .int .u32 a00i, .slice a00j len00j cap00j, .slice a00k len00k cap00k, .int .i64 a01, .int .i64 a02, .int .i64 a03, .int .i64 a04, .int .i64 a05, .int .i64 a06, .pointer k07]) ⟨⟨a00a, a00b, a00c, a00d, a00e, a00f, a00g, a00h, a00i, zs00j.take len00j, zs00k.take len00k⟩, a01, a02, a03, a04, a05, a06, o07⟩ := fun w' h => ⟨a00j, len00j, cap00j, a00k, len00k, cap00k, k07, rfl, r0.below h, r1.below h, Pack.IsKey.later (o := o07) q07 h⟩
  have i1 : ∀ w', Ext w w' → Pack.IsPkt w' (.agg #[.int .i64 a10a, .int .i64 a10b, .bool a10c, .bool a10d, .int .i64 a10e, .int .i64 a10f, .int .i64 a10g, .int .u32 a10h, .int .u32 a10i, .slice a10j len10j cap10j, .slice a10k len10k cap10k, .int .i64 a11, .int .i64 a12, .int .i64 a13, .int .i64 a14, .int .i64 a15, .int .i64 a16, .pointer k17]) ⟨⟨a10a, a10b, a10c, a10d, a10e, a10f, a10g, a10h, a10i, zs10j.take len10j, zs10k.take len10k⟩, a11, a12, a13, a14, a15, a16, o17⟩ := fun w' h => ⟨a10j, len10j, cap10j, a10k, len10k, cap10k, k17, rfl, r2.below h, r3.below h, Pack.IsKey.later (o := o17) q17 h⟩
  generalize Pack.sameP ⟨⟨a00a, a00b, a00c, a00d, a00e, a00f, a00g, a00h, a00i, zs00j.take len00j, zs00k.take len00k⟩, a01, a02, a03, a04, a05, a06, o07⟩ ⟨⟨a10a, a10b, a10c, a10d, a10e, a10f, a10g, a10h, a10i, zs10j.take len10j, zs10k.take len10k⟩, a11, a12, a13, a14, a15, a16, o17⟩ = SM at *
  generalize Pack.classV ⟨a00a, a00b, a00c, a00d, a00e, a00f, a00g, a00h, a00i, zs00j.take len00j, zs00k.take len00k⟩ = CV at *
  dsimp only at cC cD
  have eg := Pack.key_guard
  have e1 := fun w => Pack.eql_key ⟨a00g, a00h, a00i, a02, a03⟩ ⟨a00g, a00h, a00i, a02, a03⟩ w
  have e2 := fun w => Pack.eql_key ⟨a20, a22, a21, a24, a23⟩ ⟨a20, a22, a21, a24, a23⟩ w
  have e3 := fun w => Pack.eql_key ⟨a20, a21, a22, a23, a24⟩ ⟨a20, a21, a22, a23, a24⟩ w
  rw [Pack.keySame_self] at e1 e2 e3
  dsimp only at e1 e2 e3
  go_enter Try.func4, Try.ntmps4
  iterate 12 (first | go_values | go_skip | go_guarded | go_step | go_upon | go_in | go_simp)
  generalize (((w.alloc (.cells #[.int .i64 a00a, .int .i64 a00b, .bool a00c, .bool a00d, .int .i64 a00e, .int .i64 a00f, .int .i64 a00g, .int .u32 a00h, .int .u32 a00i, .slice a00j len00j cap00j, .slice a00k len00k cap00k, .int .i64 a01, .int .i64 a02, .int .i64 a03, .int .i64 a04, .int .i64 a05, .int .i64 a06, .pointer k07] 28)).alloc (.cells #[.int .i64 a10a, .int .i64 a10b, .bool a10c, .bool a10d, .int .i64 a10e, .int .i64 a10f, .int .i64 a10g, .int .u32 a10h, .int .u32 a10i, .slice a10j len10j cap10j, .slice a10k len10k cap10k, .int .i64 a11, .int .i64 a12, .int .i64 a13, .int .i64 a14, .int .i64 a15, .int .i64 a16, .pointer k17] 28)).alloc (.cells #[.int .i64 a20, .int .u32 a21, .int .u32 a22, .int .i64 a23, .int .i64 a24] 38)) = W at *
  obtain ⟨x0, x1, x2, x3, x4, x5, x6, x7, x8, x9, xa, xb, xc, xd, xe, xf, xg, xh⟩ := box_pkt (x := w.heap.size + 3) H0 (by omega) W (ExtX.refl _ _)
  clear H0 H1 H2
  go_wp2_with (first
    | (go_at_call 12; clear tok1; refine (c1 _).mono ?_; rintro e w1 ⟨rfl, hx1⟩; obtain ⟨y0, y1, y2, y3, y4, y5, y6, y7, y8, y9, ya, yb, yc, yd, ye, yf, yg, yh⟩ := box_pkt (x := w.heap.size + 3) (hx1.heap K1.out) (by omega) w1 (ExtX.refl _ _))
    | (go_at_call 12; refine (c2 _).mono ?_; rintro e w2 ⟨rfl, hx2⟩))
  refine wp_region_eager [(0, false), (2, false), (1, true), (3, true), (4, false), (5, false), (6, false), (8, false), (7, true), (9, true), (10, false), (11, false), (12, false), (13, false), (16, false), (14, true), (15, true), (17, false), (18, false), (19, false), (20, false), (21, false), (23, false), (24, false), (22, true), (25, true), (26, false), (27, false), (28, false), (29, false), (30, false), (32, false), (33, false), (31, true), (34, true), (35, false), (36, false), (37, false), (38, false), (39, false), (40, true), (41, false), (42, false), (43, true), (44, false), (45, false)] (by kernel_rfl) (by kernel_rfl) rfl (by kernel_rfl) (fun _ _ _ _ _ h => h) ?_
  have hX : Ext W w2.drew := (hx1.trans hx2).drew
  clear x0 x1 x2 x3 x4 x5 x6 x7 x8 x9 xa xb xc xd xe xf xg xh y0 y1 y2 y3 y4 y5 y6 y7 y8 y9 ya yb yc yd ye yf yg yh c1 c2
  generalize w2.drew = V at *
  refine wpE_read rfl (by rfl) (fun w' hx => exec_load 28 _ rfl w.heap.size _ _ _ rfl ((hX.trans hx).heap K0.out) Try.underlying28 rfl Pack.pkt_size) ?_
  simp only [Act.put, List.setIfInBounds_toArray, List.set_cons_zero, List.set_cons_succ]
  refine wpE_read rfl (by rfl) (fun w' hx => exec_load 28 _ rfl w.heap.size _ _ _ rfl ((hX.trans hx).heap K0.out) Try.underlying28 rfl Pack.pkt_size) ?_
  simp only [Act.put, List.setIfInBounds_toArray, List.set_cons_zero, List.set_cons_succ]
  refine wpE_call rfl (by rfl) (fun K hK => ?_); go_simp; (go_at_call 13; refine (Pack.keyOf_any _ _ _ _ _ _ _ _ _ _ _ _ _ _ _ _ _ _ _ _ _ _ _).mono ?_; rintro e w3 ⟨rfl, hx3⟩; refine hK _ _ hx3 ?_; clear hK K)
  have hX3 := hX.trans hx3
  refine wpE_call rfl (by rfl) (fun K hK => ?_); go_simp; (go_at_call 14; refine (Pack.refKeyOf_any _ _ _ _ _ _ _ _ _ _ _ _ _ _ _ _ _ _ _ _ _ _ _).mono ?_; rintro e w4 ⟨rfl, hx4⟩; refine hK _ _ hx4 ?_; clear hK K)
  have hX4 := hX3.trans hx4
  iterate 2 (refine wpE_read (v := ?_) rfl (by rfl) ?_ ?_; rotate_left; (focus (intro w' hx; go_simp; first | done | with_reducible rfl)); simp only [Act.put, List.setIfInBounds_toArray, List.set_cons_zero, List.set_cons_succ])
  clear e1
  refine wpE_read rfl (by rfl) (fun w' hx => exec_load 38 _ rfl (w.heap.size + 2) _ _ _ rfl ((hX4.trans hx).heap K2.out) Try.underlying38 rfl Pack.key_size) ?_
  simp only [Act.put, List.setIfInBounds_toArray, List.set_cons_zero, List.set_cons_succ]
  refine wpE_read rfl (by rfl) (fun w' hx => exec_load 38 _ rfl (w.heap.size + 2) _ _ _ rfl ((hX4.trans hx).heap K2.out) Try.underlying38 rfl Pack.key_size) ?_
  simp only [Act.put, List.setIfInBounds_toArray, List.set_cons_zero, List.set_cons_succ]
  refine wpE_call rfl (by rfl) (fun K hK => ?_); go_simp; (go_at_call 15; refine (Pack.turn_any _ _ _ _ _ _).mono ?_; rintro e w5 ⟨rfl, hx5⟩; refine hK _ _ hx5 ?_; clear hK K)
  have hX5 := hX4.trans hx5
  refine wpE_call rfl (by rfl) (fun K hK => ?_); go_simp; (go_at_call 16; refine (Pack.refTurn_any _ _ _ _ _ _).mono ?_; rintro e w6 ⟨rfl, hx6⟩; refine hK _ _ hx6 ?_; clear hK K)
  have hX6 := hX5.trans hx6
  iterate 3 (refine wpE_read (v := ?_) rfl (by rfl) ?_ ?_; rotate_left; (focus (intro w' hx; go_simp; first | done | with_reducible rfl)); simp only [Act.put, List.setIfInBounds_toArray, List.set_cons_zero, List.set_cons_succ])
  clear e2
  refine wpE_read rfl (by rfl) (fun w' hx => exec_load 38 _ rfl (w.heap.size + 2) _ _ _ rfl ((hX6.trans hx).heap K2.out) Try.underlying38 rfl Pack.key_size) ?_
  simp only [Act.put, List.setIfInBounds_toArray, List.set_cons_zero, List.set_cons_succ]
  refine wpE_read rfl (by rfl) (fun w' hx => exec_load 38 _ rfl (w.heap.size + 2) _ _ _ rfl ((hX6.trans hx).heap K2.out) Try.underlying38 rfl Pack.key_size) ?_
  simp only [Act.put, List.setIfInBounds_toArray, List.set_cons_zero, List.set_cons_succ]
  refine wpE_call rfl (by rfl) (fun K hK => ?_); go_simp; (go_at_call 15; refine (Pack.turn_any _ _ _ _ _ _).mono ?_; rintro e w7 ⟨rfl, hx7⟩; refine hK _ _ hx7 ?_; clear hK K)
  have hX7 := hX6.trans hx7
  refine wpE_call rfl (by rfl) (fun K hK => ?_); go_simp; (go_at_call 15; refine (Pack.turn_any _ _ _ _ _ _).mono ?_; rintro e w8 ⟨rfl, hx8⟩; refine hK _ _ hx8 ?_; clear hK K)
  have hX8 := hX7.trans hx8
  iterate 3 (refine wpE_read (v := ?_) rfl (by rfl) ?_ ?_; rotate_left; (focus (intro w' hx; go_simp; first | done | with_reducible rfl)); simp only [Act.put, List.setIfInBounds_toArray, List.set_cons_zero, List.set_cons_succ])
  clear e3 eg
  have y0 : ∀ w', Ext w8 w' → w'.cell? ⟨w.heap.size, 0, none⟩ = some (.int .i64 a00a) := fun w' h => heap_cell (k := 0) ((hX8.trans h).heap K0.out)
  have y1 : ∀ w', Ext w8 w' → w'.cell? ⟨w.heap.size, 1, none⟩ = some (.int .i64 a00b) := fun w' h => heap_cell (k := 1) ((hX8.trans h).heap K0.out)
  have y2 : ∀ w', Ext w8 w' → w'.cell? ⟨w.heap.size, 2, none⟩ = some (.bool a00c) := fun w' h => heap_cell (k := 2) ((hX8.trans h).heap K0.out)
  have y3 : ∀ w', Ext w8 w' → w'.cell? ⟨w.heap.size, 3, none⟩ = some (.bool a00d) := fun w' h => heap_cell (k := 3) ((hX8.trans h).heap K0.out)
  have y4 : ∀ w', Ext w8 w' → w'.cell? ⟨w.heap.size, 4, none⟩ = some (.int .i64 a00e) := fun w' h => heap_cell (k := 4) ((hX8.trans h).heap K0.out)
  have y5 : ∀ w', Ext w8 w' → w'.cell? ⟨w.heap.size, 5, none⟩ = some (.int .i64 a00f) := fun w' h => heap_cell (k := 5) ((hX8.trans h).heap K0.out)
  have y6 : ∀ w', Ext w8 w' → w'.cell? ⟨w.heap.size, 6, none⟩ = some (.int .i64 a00g) := fun w' h => heap_cell (k := 6) ((hX8.trans h).heap K0.out)
  have y7 : ∀ w', Ext w8 w' → w'.cell? ⟨w.heap.size, 7, none⟩ = some (.int .u32 a00h) := fun w' h => heap_cell (k := 7) ((hX8.trans h).heap K0.out)
  have y8 : ∀ w', Ext w8 w' → w'.cell? ⟨w.heap.size, 8, none⟩ = some (.int .u32 a00i) := fun w' h => heap_cell (k := 8) ((hX8.trans h).heap K0.out)
  have y9 : ∀ w', Ext w8 w' → w'.cell? ⟨w.heap.size, 9, none⟩ = some (.slice a00j len00j cap00j) := fun w' h => heap_cell (k := 9) ((hX8.trans h).heap K0.out)
  have y10 : ∀ w', Ext w8 w' → w'.cell? ⟨w.heap.size, 10, none⟩ = some (.slice a00k len00k cap00k) := fun w' h => heap_cell (k := 10) ((hX8.trans h).heap K0.out)
  iterate 4 (refine wpE_read (v := ?_) rfl (by rfl) ?_ ?_; rotate_left; (focus (intro w' hx; go_simp; first | done | with_reducible rfl)); simp only [Act.put, List.setIfInBounds_toArray, List.set_cons_zero, List.set_cons_succ])
  clear y0 y1 y2 y3 y4 y5 y6 y7 y8 y9 y10
  refine wpE_call rfl (by rfl) (fun K hK => ?_); go_simp; (go_at_call 17; refine (cC _).mono ?_; rintro e w9 ⟨rfl, hx9⟩; refine hK _ _ hx9 ?_; clear hK K)
  have hX9 := hX8.trans hx9
  refine wpE_call rfl (by rfl) (fun K hK => ?_); go_simp; (go_at_call 18; refine (cD _).mono ?_; rintro e w10 ⟨rfl, hx10⟩; refine hK _ _ hx10 ?_; clear hK K)
  have hX10 := hX9.trans hx10
  iterate 3 (refine wpE_read (v := ?_) rfl (by rfl) ?_ ?_; rotate_left; (focus (intro w' hx; go_simp; first | done | with_reducible rfl)); simp only [Act.put, List.setIfInBounds_toArray, List.set_cons_zero, List.set_cons_succ])
  refine wpE_read rfl (by rfl) (fun w' hx => exec_load 28 _ rfl w.heap.size _ _ _ rfl ((hX10.trans hx).heap K0.out) Try.underlying28 rfl Pack.pkt_size) ?_
  simp only [Act.put, List.setIfInBounds_toArray, List.set_cons_zero, List.set_cons_succ]
  refine wpE_read rfl (by rfl) (fun w' hx => exec_load 28 _ rfl (w.heap.size + 1) _ _ _ rfl ((hX10.trans hx).heap K1.out) Try.underlying28 rfl Pack.pkt_size) ?_
  simp only [Act.put, List.setIfInBounds_toArray, List.set_cons_zero, List.set_cons_succ]
  refine wpE_read rfl (by rfl) (fun w' hx => exec_load 28 _ rfl w.heap.size _ _ _ rfl ((hX10.trans hx).heap K0.out) Try.underlying28 rfl Pack.pkt_size) ?_
  simp only [Act.put, List.setIfInBounds_toArray, List.set_cons_zero, List.set_cons_succ]
  refine wpE_read rfl (by rfl) (fun w' hx => exec_load 28 _ rfl (w.heap.size + 1) _ _ _ rfl ((hX10.trans hx).heap K1.out) Try.underlying28 rfl Pack.pkt_size) ?_
  simp only [Act.put, List.setIfInBounds_toArray, List.set_cons_zero, List.set_cons_succ]
  refine wpE_call rfl (by rfl) (fun K hK => ?_); go_simp; (go_at_call 19; refine (cS _ (i0 _ (hx0.trans hX10)) (i1 _ (hx0.trans hX10))).mono ?_; rintro e w11 ⟨rfl, hx11⟩; refine hK _ _ hx11 ?_; clear hK K)
  have hX11 := hX10.trans hx11
  refine wpE_call rfl (by rfl) (fun K hK => ?_); go_simp; (go_at_call 10; refine (cR _ (i0 _ (hx0.trans hX11)) (i1 _ (hx0.trans hX11))).mono ?_; rintro e w12 ⟨rfl, hx12⟩; refine hK _ _ hx12 ?_; clear hK K)
  have hX12 := hX11.trans hx12
  iterate 3 (refine wpE_read (v := ?_) rfl (by rfl) ?_ ?_; rotate_left; (focus (intro w' hx; go_simp; first | done | with_reducible rfl)); simp only [Act.put, List.setIfInBounds_toArray, List.set_cons_zero, List.set_cons_succ])
  refine wpE_read rfl (by rfl) (fun w' hx => exec_load 28 _ rfl w.heap.size _ _ _ rfl ((hX12.trans hx).heap K0.out) Try.underlying28 rfl Pack.pkt_size) ?_
  simp only [Act.put, List.setIfInBounds_toArray, List.set_cons_zero, List.set_cons_succ]
  refine wpE_read rfl (by rfl) (fun w' hx => exec_load 28 _ rfl w.heap.size _ _ _ rfl ((hX12.trans hx).heap K0.out) Try.underlying28 rfl Pack.pkt_size) ?_
  simp only [Act.put, List.setIfInBounds_toArray, List.set_cons_zero, List.set_cons_succ]
  refine wpE_call rfl (by rfl) (fun K hK => ?_); go_simp; (go_at_call 19; refine (cT _ (i0 _ (hx0.trans hX12))).mono ?_; rintro e w13 ⟨rfl, hx13⟩; refine hK _ _ hx13 ?_; clear hK K)
  have hX13 := hX12.trans hx13
  iterate 2 (refine wpE_read (v := ?_) rfl (by rfl) ?_ ?_; rotate_left; (focus (intro w' hx; go_simp; first | done | with_reducible rfl)); simp only [Act.put, List.setIfInBounds_toArray, List.set_cons_zero, List.set_cons_succ])
  refine wpE_call rfl (by rfl) (fun K hK => ?_); go_simp; (go_at_call 11; refine (Pack.known_any _).mono ?_; rintro e w14 ⟨rfl, hx14⟩; refine hK _ _ hx14 ?_; clear hK K)
  have hX14 := hX13.trans hx14
  iterate 2 (refine wpE_read (v := ?_) rfl (by rfl) ?_ ?_; rotate_left; (focus (intro w' hx; go_simp; first | done | with_reducible rfl)); simp only [Act.put, List.setIfInBounds_toArray, List.set_cons_zero, List.set_cons_succ])
  refine wpE_done ?_
  go_wp2
  go_ret
  exact ⟨rfl, hx0.trans hX14⟩

theorem contract (H : Type) (enc : TypeId × Value → H) (W : World) (base : Nat) (args : Array Value) (ds gs : List (DataW H)) (before : List MemPlace)
    (hval : ∀ (j : Nat) t v, Try.f4.params[j]? = some t → args[j]? = some v → Value.okWide Try.prog W .any base t v)
    (hW : DataW.Whole enc Try.prog Try.f4.params.toList Rows.packKeysSpec.vars false W args.toList ds gs before) (hsh : W.ShapedOpen Try.prog) :
    Calls Try.prog 4 args W fun e W' => ∃ v, e = .returned v ∧ Rows.packKeysSpec.post enc Try.prog Try.f4 false true false false W args v W' := by
  have hW' := hW
  obtain ⟨p, q, hA0, hV, rfl, hfz, hnd⟩ := hW
  have hA : DataW.TrodAll enc Try.prog W 0 (fun _ => true) true Try.f4.params.toList args.toList ds p := hA0
  rw [Try.params4] at hA hval
  obtain ⟨v0, vs0, d0, ds0, p0, q0, hargs, rfl, rfl, h0, r0⟩ := trodAll_cons hA
  obtain ⟨v1, vs1, d1, ds1, p1, q1, rfl, rfl, rfl, h1, r1⟩ := trodAll_cons r0
  obtain ⟨v2, vs2, d2, ds2, p2, q2, rfl, rfl, rfl, h2, r2⟩ := trodAll_cons r1
  obtain ⟨rfl, rfl, rfl⟩ := trodAll_nil r2
  obtain rfl : args = #[v0, v1, v2] := by cases args; simp_all
  obtain ⟨rfl, rfl⟩ := trodVars_none hV
  have k0 := h0
  have lt0 : ∀ x ∈ p0, x.block < W.heap.size := by obtain ⟨m, hm⟩ := k0; exact DataW.trod_lt m _ _ _ hm
  obtain ⟨cs0, rfl, hs0⟩ := okWide_struct Try.underlying28 (hval 0 28 v0 rfl rfl)
  obtain ⟨u0a, u0b, u0c, u0d, u0e, u0f, u0g, u0h, u0i, u0j, u0k, u0l, u0m, u0n, u0o, u0p, u0q, u0r, rfl⟩ := arr18 (hs0.trans (by kernel_rfl))
  obtain ⟨fu0, hf0⟩ := h0
  obtain ⟨_, _, e1⟩ := field_at Try.underlying28 hf0 0 rfl 11 (by kernel_rfl)
  obtain ⟨_, _, e2⟩ := field_at Try.underlying25 e1 0 rfl 1 (by kernel_rfl)
  obtain ⟨a00a, c3, _, w00a⟩ := DataW.trod_int Try.underlying3 e2
  obtain rfl : u0a = .int .i64 a00a := by simpa [Value.cells] using c3
  obtain ⟨_, _, e4⟩ := field_at Try.underlying25 e1 1 rfl 1 (by kernel_rfl)
  obtain ⟨a00b, c5, _, w00b⟩ := DataW.trod_int Try.underlying3 e4
  obtain rfl : u0b = .int .i64 a00b := by simpa [Value.cells] using c5
  obtain ⟨_, _, e6⟩ := field_at Try.underlying25 e1 2 rfl 1 (by kernel_rfl)
  obtain ⟨a00c, c7, _⟩ := DataW.trod_bool Try.underlying4 e6
  obtain rfl : u0c = .bool a00c := by simpa [Value.cells] using c7
  obtain ⟨_, _, e8⟩ := field_at Try.underlying25 e1 3 rfl 1 (by kernel_rfl)
  obtain ⟨a00d, c9, _⟩ := DataW.trod_bool Try.underlying4 e8
  obtain rfl : u0d = .bool a00d := by simpa [Value.cells] using c9
  obtain ⟨_, _, e10⟩ := field_at Try.underlying25 e1 4 rfl 1 (by kernel_rfl)
  obtain ⟨a00e, c11, _, w00e⟩ := DataW.trod_int Try.underlying3 e10
  obtain rfl : u0e = .int .i64 a00e := by simpa [Value.cells] using c11
  obtain ⟨_, _, e12⟩ := field_at Try.underlying25 e1 5 rfl 1 (by kernel_rfl)
  obtain ⟨a00f, c13, _, w00f⟩ := DataW.trod_int Try.underlying3 e12
  obtain rfl : u0f = .int .i64 a00f := by simpa [Value.cells] using c13
  obtain ⟨_, _, e14⟩ := field_at Try.underlying25 e1 6 rfl 1 (by kernel_rfl)
  obtain ⟨a00g, c15, _, w00g⟩ := DataW.trod_int Try.underlying3 e14
  obtain rfl : u0g = .int .i64 a00g := by simpa [Value.cells] using c15
  obtain ⟨_, _, e16⟩ := field_at Try.underlying25 e1 7 rfl 1 (by kernel_rfl)
  obtain ⟨a00h, c17, _, w00h⟩ := DataW.trod_int Try.underlying23 e16
  obtain rfl : u0h = .int .u32 a00h := by simpa [Value.cells] using c17
  obtain ⟨_, _, e18⟩ := field_at Try.underlying25 e1 8 rfl 1 (by kernel_rfl)
  obtain ⟨a00i, c19, _, w00i⟩ := DataW.trod_int Try.underlying23 e18
  obtain rfl : u0i = .int .u32 a00i := by simpa [Value.cells] using c19
  obtain ⟨_, _, e20⟩ := field_at Try.underlying25 e1 9 rfl 1 (by kernel_rfl)
  obtain ⟨a00j, len00j, cap00j, zs00j, c21, row00j⟩ := open_rowI Try.underlying22 Try.underlying5 (by kernel_rfl) (fun _ => rfl) e20
  obtain rfl : u0j = .slice a00j len00j cap00j := by simpa [Value.cells] using c21
  obtain ⟨_, _, e22⟩ := field_at Try.underlying25 e1 10 rfl 1 (by kernel_rfl)
  obtain ⟨a00k, len00k, cap00k, zs00k, c23, row00k⟩ := open_rowI Try.underlying22 Try.underlying5 (by kernel_rfl) (fun _ => rfl) e22
  obtain rfl : u0k = .slice a00k len00k cap00k := by simpa [Value.cells] using c23
  obtain ⟨_, _, e24⟩ := field_at Try.underlying28 hf0 1 rfl 1 (by kernel_rfl)
  obtain ⟨a01, c25, _, w01⟩ := DataW.trod_int Try.underlying3 e24
  obtain rfl : u0l = .int .i64 a01 := by simpa [Value.cells] using c25
  obtain ⟨_, _, e26⟩ := field_at Try.underlying28 hf0 2 rfl 1 (by kernel_rfl)
  obtain ⟨a02, c27, _, w02⟩ := DataW.trod_int Try.underlying3 e26
  obtain rfl : u0m = .int .i64 a02 := by simpa [Value.cells] using c27
  obtain ⟨_, _, e28⟩ := field_at Try.underlying28 hf0 3 rfl 1 (by kernel_rfl)
  obtain ⟨a03, c29, _, w03⟩ := DataW.trod_int Try.underlying3 e28
  obtain rfl : u0n = .int .i64 a03 := by simpa [Value.cells] using c29
  obtain ⟨_, _, e30⟩ := field_at Try.underlying28 hf0 4 rfl 1 (by kernel_rfl)
  obtain ⟨a04, c31, _, w04⟩ := DataW.trod_int Try.underlying3 e30
  obtain rfl : u0o = .int .i64 a04 := by simpa [Value.cells] using c31
  obtain ⟨_, _, e32⟩ := field_at Try.underlying28 hf0 5 rfl 1 (by kernel_rfl)
  obtain ⟨a05, c33, _, w05⟩ := DataW.trod_int Try.underlying3 e32
  obtain rfl : u0p = .int .i64 a05 := by simpa [Value.cells] using c33
  obtain ⟨_, _, e34⟩ := field_at Try.underlying28 hf0 6 rfl 1 (by kernel_rfl)
  obtain ⟨a06, c35, _, w06⟩ := DataW.trod_int Try.underlying3 e34
  obtain rfl : u0q = .int .i64 a06 := by simpa [Value.cells] using c35
  obtain ⟨_, _, e36⟩ := field_at Try.underlying28 hf0 7 rfl 1 (by kernel_rfl)
  obtain ⟨k07, o07, c37, q07⟩ := Pack.open_key e36
  obtain rfl : u0r = .pointer k07 := by simpa [Value.cells] using c37
  have k1 := h1
  have lt1 : ∀ x ∈ p1, x.block < W.heap.size := by obtain ⟨m, hm⟩ := k1; exact DataW.trod_lt m _ _ _ hm
  obtain ⟨cs1, rfl, hs1⟩ := okWide_struct Try.underlying28 (hval 1 28 v1 rfl rfl)
  obtain ⟨u1a, u1b, u1c, u1d, u1e, u1f, u1g, u1h, u1i, u1j, u1k, u1l, u1m, u1n, u1o, u1p, u1q, u1r, rfl⟩ := arr18 (hs1.trans (by kernel_rfl))
  obtain ⟨fu1, hf1⟩ := h1
  obtain ⟨_, _, e38⟩ := field_at Try.underlying28 hf1 0 rfl 11 (by kernel_rfl)
  obtain ⟨_, _, e39⟩ := field_at Try.underlying25 e38 0 rfl 1 (by kernel_rfl)
  obtain ⟨a10a, c40, _, w10a⟩ := DataW.trod_int Try.underlying3 e39
  obtain rfl : u1a = .int .i64 a10a := by simpa [Value.cells] using c40
  obtain ⟨_, _, e41⟩ := field_at Try.underlying25 e38 1 rfl 1 (by kernel_rfl)
  obtain ⟨a10b, c42, _, w10b⟩ := DataW.trod_int Try.underlying3 e41
  obtain rfl : u1b = .int .i64 a10b := by simpa [Value.cells] using c42
  obtain ⟨_, _, e43⟩ := field_at Try.underlying25 e38 2 rfl 1 (by kernel_rfl)
  obtain ⟨a10c, c44, _⟩ := DataW.trod_bool Try.underlying4 e43
  obtain rfl : u1c = .bool a10c := by simpa [Value.cells] using c44
  obtain ⟨_, _, e45⟩ := field_at Try.underlying25 e38 3 rfl 1 (by kernel_rfl)
  obtain ⟨a10d, c46, _⟩ := DataW.trod_bool Try.underlying4 e45
  obtain rfl : u1d = .bool a10d := by simpa [Value.cells] using c46
  obtain ⟨_, _, e47⟩ := field_at Try.underlying25 e38 4 rfl 1 (by kernel_rfl)
  obtain ⟨a10e, c48, _, w10e⟩ := DataW.trod_int Try.underlying3 e47
  obtain rfl : u1e = .int .i64 a10e := by simpa [Value.cells] using c48
  obtain ⟨_, _, e49⟩ := field_at Try.underlying25 e38 5 rfl 1 (by kernel_rfl)
  obtain ⟨a10f, c50, _, w10f⟩ := DataW.trod_int Try.underlying3 e49
  obtain rfl : u1f = .int .i64 a10f := by simpa [Value.cells] using c50
  obtain ⟨_, _, e51⟩ := field_at Try.underlying25 e38 6 rfl 1 (by kernel_rfl)
  obtain ⟨a10g, c52, _, w10g⟩ := DataW.trod_int Try.underlying3 e51
  obtain rfl : u1g = .int .i64 a10g := by simpa [Value.cells] using c52
  obtain ⟨_, _, e53⟩ := field_at Try.underlying25 e38 7 rfl 1 (by kernel_rfl)
  obtain ⟨a10h, c54, _, w10h⟩ := DataW.trod_int Try.underlying23 e53
  obtain rfl : u1h = .int .u32 a10h := by simpa [Value.cells] using c54
  obtain ⟨_, _, e55⟩ := field_at Try.underlying25 e38 8 rfl 1 (by kernel_rfl)
  obtain ⟨a10i, c56, _, w10i⟩ := DataW.trod_int Try.underlying23 e55
  obtain rfl : u1i = .int .u32 a10i := by simpa [Value.cells] using c56
  obtain ⟨_, _, e57⟩ := field_at Try.underlying25 e38 9 rfl 1 (by kernel_rfl)
  obtain ⟨a10j, len10j, cap10j, zs10j, c58, row10j⟩ := open_rowI Try.underlying22 Try.underlying5 (by kernel_rfl) (fun _ => rfl) e57
  obtain rfl : u1j = .slice a10j len10j cap10j := by simpa [Value.cells] using c58
  obtain ⟨_, _, e59⟩ := field_at Try.underlying25 e38 10 rfl 1 (by kernel_rfl)
  obtain ⟨a10k, len10k, cap10k, zs10k, c60, row10k⟩ := open_rowI Try.underlying22 Try.underlying5 (by kernel_rfl) (fun _ => rfl) e59
  obtain rfl : u1k = .slice a10k len10k cap10k := by simpa [Value.cells] using c60
  obtain ⟨_, _, e61⟩ := field_at Try.underlying28 hf1 1 rfl 1 (by kernel_rfl)
  obtain ⟨a11, c62, _, w11⟩ := DataW.trod_int Try.underlying3 e61
  obtain rfl : u1l = .int .i64 a11 := by simpa [Value.cells] using c62
  obtain ⟨_, _, e63⟩ := field_at Try.underlying28 hf1 2 rfl 1 (by kernel_rfl)
  obtain ⟨a12, c64, _, w12⟩ := DataW.trod_int Try.underlying3 e63
  obtain rfl : u1m = .int .i64 a12 := by simpa [Value.cells] using c64
  obtain ⟨_, _, e65⟩ := field_at Try.underlying28 hf1 3 rfl 1 (by kernel_rfl)
  obtain ⟨a13, c66, _, w13⟩ := DataW.trod_int Try.underlying3 e65
  obtain rfl : u1n = .int .i64 a13 := by simpa [Value.cells] using c66
  obtain ⟨_, _, e67⟩ := field_at Try.underlying28 hf1 4 rfl 1 (by kernel_rfl)
  obtain ⟨a14, c68, _, w14⟩ := DataW.trod_int Try.underlying3 e67
  obtain rfl : u1o = .int .i64 a14 := by simpa [Value.cells] using c68
  obtain ⟨_, _, e69⟩ := field_at Try.underlying28 hf1 5 rfl 1 (by kernel_rfl)
  obtain ⟨a15, c70, _, w15⟩ := DataW.trod_int Try.underlying3 e69
  obtain rfl : u1p = .int .i64 a15 := by simpa [Value.cells] using c70
  obtain ⟨_, _, e71⟩ := field_at Try.underlying28 hf1 6 rfl 1 (by kernel_rfl)
  obtain ⟨a16, c72, _, w16⟩ := DataW.trod_int Try.underlying3 e71
  obtain rfl : u1q = .int .i64 a16 := by simpa [Value.cells] using c72
  obtain ⟨_, _, e73⟩ := field_at Try.underlying28 hf1 7 rfl 1 (by kernel_rfl)
  obtain ⟨k17, o17, c74, q17⟩ := Pack.open_key e73
  obtain rfl : u1r = .pointer k17 := by simpa [Value.cells] using c74
  have k2 := h2
  have lt2 : ∀ x ∈ p2, x.block < W.heap.size := by obtain ⟨m, hm⟩ := k2; exact DataW.trod_lt m _ _ _ hm
  obtain ⟨cs2, rfl, hs2⟩ := okWide_struct Try.underlying38 (hval 2 38 v2 rfl rfl)
  obtain ⟨u2a, u2b, u2c, u2d, u2e, rfl⟩ := arr5 (hs2.trans (by kernel_rfl))
  obtain ⟨fu2, hf2⟩ := h2
  obtain ⟨_, _, e75⟩ := field_at Try.underlying38 hf2 0 rfl 1 (by kernel_rfl)
  obtain ⟨a20, c76, _, w20⟩ := DataW.trod_int Try.underlying3 e75
  obtain rfl : u2a = .int .i64 a20 := by simpa [Value.cells] using c76
  obtain ⟨_, _, e77⟩ := field_at Try.underlying38 hf2 1 rfl 1 (by kernel_rfl)
  obtain ⟨a21, c78, _, w21⟩ := DataW.trod_int Try.underlying23 e77
  obtain rfl : u2b = .int .u32 a21 := by simpa [Value.cells] using c78
  obtain ⟨_, _, e79⟩ := field_at Try.underlying38 hf2 2 rfl 1 (by kernel_rfl)
  obtain ⟨a22, c80, _, w22⟩ := DataW.trod_int Try.underlying23 e79
  obtain rfl : u2c = .int .u32 a22 := by simpa [Value.cells] using c80
  obtain ⟨_, _, e81⟩ := field_at Try.underlying38 hf2 3 rfl 1 (by kernel_rfl)
  obtain ⟨a23, c82, _, w23⟩ := DataW.trod_int Try.underlying3 e81
  obtain rfl : u2d = .int .i64 a23 := by simpa [Value.cells] using c82
  obtain ⟨_, _, e83⟩ := field_at Try.underlying38 hf2 4 rfl 1 (by kernel_rfl)
  obtain ⟨a24, c84, _, w24⟩ := DataW.trod_int Try.underlying3 e83
  obtain rfl : u2e = .int .i64 a24 := by simpa [Value.cells] using c84
  clear hA0
  refine (walk a00a a00b a00c a00d a00e a00f a00g a00h a00i a00j len00j cap00j zs00j a00k len00k cap00k zs00k a01 a02 a03 a04 a05 a06 k07 o07 a10a a10b a10c a10d a10e a10f a10g a10h a10i a10j len10j cap10j zs10j a10k len10k cap10k zs10k a11 a12 a13 a14 a15 a16 k17 o17 a20 a21 a22 a23 a24 W w00a w00b w00e w00f w00g w00h w00i row00j row00k w01 w02 w03 w04 w05 w06 q07 w10a w10b w10e w10f w10g w10h w10i row10j row10k w11 w12 w13 w14 w15 w16 q17 w20 w21 w22 w23 w24 hsh).mono fun e W' ⟨he, bel⟩ => ?_
  subst he
  exact ⟨_, rfl, _, _, _, [], _, [], hW', trodAll_mk1 (shut_bool Try.underlying4 _), (trodAll_cons_mk (Below.trod laidOut (by kernel_rfl) (of_decide_eq_true (by kernel_rfl)) k0 bel lt0) (trodAll_cons_mk (Below.trod laidOut (by kernel_rfl) (of_decide_eq_true (by kernel_rfl)) k1 bel lt1) (trodAll_cons_mk (Below.trod laidOut (by kernel_rfl) (of_decide_eq_true (by kernel_rfl)) k2 bel lt2) trodAll_mk0))), rfl, bel.frame _, fun h => by cases h⟩

theorem laid_met (os : Os) : laidMet Try.prog Rows.packKeysRow.laid ((World.doorLaid Try.prog 24 os).forCall (fun _ _ => 0) ⟨#[], #[.agg #[.int .i64 0, .int .i64 0, .bool false, .bool false, .int .i64 0, .int .i64 0, .int .i64 0, .int .u32 0, .int .u32 0, .slice none 0 0, .slice none 0 0, .int .i64 0, .int .i64 0, .int .i64 0, .int .i64 0, .int .i64 0, .int .i64 0, .pointer none], .agg #[.int .i64 0, .int .i64 0, .bool false, .bool false, .int .i64 0, .int .i64 0, .int .i64 0, .int .u32 0, .int .u32 0, .slice none 0 0, .slice none 0 0, .int .i64 0, .int .i64 0, .int .i64 0, .int .i64 0, .int .i64 0, .int .i64 0, .pointer none], .agg #[.int .i64 0, .int .u32 0, .int .u32 0, .int .i64 0, .int .i64 0]], []⟩).memory :=
  laidMet_of_run' 8 (by kernel_rfl) (by kernel_rfl)
theorem reads (os : Os) {H : Type} (enc : TypeId × Value → H) : ∃ places, DataW.whole enc Try.prog ((World.doorLaid Try.prog 24 os).forCall (fun _ _ => 0) ⟨#[], #[.agg #[.int .i64 0, .int .i64 0, .bool false, .bool false, .int .i64 0, .int .i64 0, .int .i64 0, .int .u32 0, .int .u32 0, .slice none 0 0, .slice none 0 0, .int .i64 0, .int .i64 0, .int .i64 0, .int .i64 0, .int .i64 0, .int .i64 0, .pointer none], .agg #[.int .i64 0, .int .i64 0, .bool false, .bool false, .int .i64 0, .int .i64 0, .int .i64 0, .int .u32 0, .int .u32 0, .slice none 0 0, .slice none 0 0, .int .i64 0, .int .i64 0, .int .i64 0, .int .i64 0, .int .i64 0, .int .i64 0, .pointer none], .agg #[.int .i64 0, .int .u32 0, .int .u32 0, .int .i64 0, .int .i64 0]], []⟩).memory Try.f4.params.toList Rows.packKeysSpec.vars false (#[.agg #[.int .i64 0, .int .i64 0, .bool false, .bool false, .int .i64 0, .int .i64 0, .int .i64 0, .int .u32 0, .int .u32 0, .slice none 0 0, .slice none 0 0, .int .i64 0, .int .i64 0, .int .i64 0, .int .i64 0, .int .i64 0, .int .i64 0, .pointer none], .agg #[.int .i64 0, .int .i64 0, .bool false, .bool false, .int .i64 0, .int .i64 0, .int .i64 0, .int .u32 0, .int .u32 0, .slice none 0 0, .slice none 0 0, .int .i64 0, .int .i64 0, .int .i64 0, .int .i64 0, .int .i64 0, .int .i64 0, .pointer none], .agg #[.int .i64 0, .int .u32 0, .int .u32 0, .int .i64 0, .int .i64 0]] : Array Value).toList 8 = some ([.agg [.agg [.lit (.int .i64 0), .lit (.int .i64 0), .lit (.bool false), .lit (.bool false), .lit (.int .i64 0), .lit (.int .i64 0), .lit (.int .i64 0), .lit (.int .u32 0), .lit (.int .u32 0), .nil, .nil], .lit (.int .i64 0), .lit (.int .i64 0), .lit (.int .i64 0), .lit (.int .i64 0), .lit (.int .i64 0), .lit (.int .i64 0), .nil], .agg [.agg [.lit (.int .i64 0), .lit (.int .i64 0), .lit (.bool false), .lit (.bool false), .lit (.int .i64 0), .lit (.int .i64 0), .lit (.int .i64 0), .lit (.int .u32 0), .lit (.int .u32 0), .nil, .nil], .lit (.int .i64 0), .lit (.int .i64 0), .lit (.int .i64 0), .lit (.int .i64 0), .lit (.int .i64 0), .lit (.int .i64 0), .nil], .agg [.lit (.int .i64 0), .lit (.int .u32 0), .lit (.int .u32 0), .lit (.int .i64 0), .lit (.int .i64 0)]], [], places) :=
  ⟨[], by kernel_rfl⟩

set_option maxRecDepth 100000 in
theorem lifted (os : Os) (started : os.Started) (H : Type) (enc : TypeId × Value → H) (F : Stop.Interp) :
    ReturnsInHanded {} Try.checked os 4 .any ((OpenSpec.ofChange Rows.packKeysSpec).preRow enc Try.prog Try.f4 Rows.packKeysRow.domain false Rows.packKeysRow.laid) (((OpenSpec.ofChange Rows.packKeysSpec).at F).post enc Try.prog Try.f4 false true false false) := by
  obtain ⟨places, hx⟩ := reads os enc
  refine returnsInHanded_of_row (C := Try.checked) (s := (OpenSpec.ofChange Rows.packKeysSpec)) own started (by kernel_rfl) Try.func4
    (witness_row_at (enc := enc) (C := Try.checked) false (World.doorLaid Try.prog 24 os) #[.agg #[.int .i64 0, .int .i64 0, .bool false, .bool false, .int .i64 0, .int .i64 0, .int .i64 0, .int .u32 0, .int .u32 0, .slice none 0 0, .slice none 0 0, .int .i64 0, .int .i64 0, .int .i64 0, .int .i64 0, .int .i64 0, .int .i64 0, .pointer none], .agg #[.int .i64 0, .int .i64 0, .bool false, .bool false, .int .i64 0, .int .i64 0, .int .i64 0, .int .u32 0, .int .u32 0, .slice none 0 0, .slice none 0 0, .int .i64 0, .int .i64 0, .int .i64 0, .int .i64 0, .int .i64 0, .int .i64 0, .pointer none], .agg #[.int .i64 0, .int .u32 0, .int .u32 0, .int .i64 0, .int .i64 0]] rfl (by kernel_rfl) (by kernel_rfl) (by kernel_rfl)
      (OpenSpec.preRow_of_cond 8 hx (by kernel_rfl) (fun k hk => by cases hk) (by kernel_rfl) (laid_met os))) ?_
  intro W base args ds gs before hval hW _ hcond _ hL hsh _
  exact contract H enc W base args ds gs before hval hW hsh

theorem said : Rows.PackKeysSaid :=
  OpenClaim.holds_of_cond 4 Try.f4 rfl rfl rfl rfl rfl rfl rfl ⟨rfl, rfl, rfl, rfl, rfl⟩ rfl rfl rfl rfl rfl (by kernel_rfl) Try.func4 (by kernel_rfl)
    (of_decide_eq_true (by kernel_rfl)) (by unfold Func.isWrapper; first | (rw [if_pos (by decide +kernel)]; kernel_rfl) | (rw [if_neg (by decide +kernel)]; exact ⟨rfl, rfl⟩))
    (fun os started H enc _ F => by rw [OpenClaim.pre_eq_preRow]; exact lifted os started H enc F)

end Go.Proofs.Ytkagkfbdpiblkaa.packKeys

namespace Go.Proofs.Ytkagkfbdpiblkaa
theorem packKeys_holds : Rows.PackKeysSaid := packKeys.said
#print axioms packKeys_holds
end Go.Proofs.Ytkagkfbdpiblkaa
