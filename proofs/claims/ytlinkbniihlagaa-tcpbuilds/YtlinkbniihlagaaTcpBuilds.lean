/- For every two addresses and every two segments, the law TcpBuilds returns true: a segment as bytes, or the error; whether two are one; the answer to one that is not wanted; no condition. -/
import Derived.Test.YtlinkbniihlagaaRows
import Derived.Test.YtlinkbniihlagaaTcp4K
import Derived.Test.YtlinkbniihlagaaTcp3
import Derived.Test.YtlinkbniihlagaaTcp5
import Derived.Test.YtlinkbniihlagaaTcp5R
import Derived.Test.YtlinkbniihlagaaTcp7
import Derived.Test.YtlinkbniihlagaaTcp8
import Derived.Test.YtlinkbniihlagaaFrame
import Derived.WalkKit
import Derived.ProofKit
import Derived.OpenShut
import Derived.ShutString
import Derived.ChangeOld
import Derived.Deep.DeepHandedRow
import Derived.Lib.LaidTab
import Derived.Lib.SmallJoins
import Derived.LaidMore
import Derived.Stop.LaidErr
import Derived.ChangeMaps5
namespace Go.Proofs.Ytlinkbniihlagaa.tcpBuilds
open Go.ChangeShapes Go.WideShapes Go.ChangeAt Go.RowKit Go.ChangeMaps
set_option linter.unusedVariables false

theorem own : ownKnob Try.prog.godebug = none := by kernel_rfl
theorem laidOut : laidOutB Try.prog = true := by kernel_rfl

theorem arr9 {α : Type} {cs : Array α} (h : cs.size = 9) : ∃ c0 c1 c2 c3 c4 c5 c6 c7 c8, cs = #[c0, c1, c2, c3, c4, c5, c6, c7, c8] := by
  obtain ⟨l⟩ := cs
  match l, h with
  | [c0, c1, c2, c3, c4, c5, c6, c7, c8], _ => exact ⟨c0, c1, c2, c3, c4, c5, c6, c7, c8, rfl⟩

set_option maxHeartbeats 4000000 in
theorem walk (a0 : Int) (a1 : Int) (a20 : Int) (a21 : Int) (a22 : Int) (a23 : Int) (a24 : Int) (a25 : Int) (a26 : Int) (a27 : Option Addr) (len27 cap27 : Nat) (zs27 : List Int) (a28 : Option Addr) (len28 cap28 : Nat) (zs28 : List Int) (a30 : Int) (a31 : Int) (a32 : Int) (a33 : Int) (a34 : Int) (a35 : Int) (a36 : Int) (a37 : Option Addr) (len37 cap37 : Nat) (zs37 : List Int) (a38 : Option Addr) (len38 cap38 : Nat) (zs38 : List Int) (w : World) (w0 : (Lit.int .u32 a0).wf = true) (w1 : (Lit.int .u32 a1).wf = true) (w20 : (Lit.int .i64 a20).wf = true) (w21 : (Lit.int .i64 a21).wf = true) (w22 : (Lit.int .u32 a22).wf = true) (w23 : (Lit.int .u32 a23).wf = true) (w24 : (Lit.int .i64 a24).wf = true) (w25 : (Lit.int .i64 a25).wf = true) (w26 : (Lit.int .i64 a26).wf = true) (row27 : IsRow .u8 w a27 len27 cap27 zs27) (row28 : IsRow .u8 w a28 len28 cap28 zs28) (w30 : (Lit.int .i64 a30).wf = true) (w31 : (Lit.int .i64 a31).wf = true) (w32 : (Lit.int .u32 a32).wf = true) (w33 : (Lit.int .u32 a33).wf = true) (w34 : (Lit.int .i64 a34).wf = true) (w35 : (Lit.int .i64 a35).wf = true) (w36 : (Lit.int .i64 a36).wf = true) (row37 : IsRow .u8 w a37 len37 cap37 zs37) (row38 : IsRow .u8 w a38 len38 cap38 zs38) (hsh : w.ShapedOpen Try.prog) :
    Calls Try.prog 4 #[.int .u32 a0, .int .u32 a1, .agg #[.int .i64 a20, .int .i64 a21, .int .u32 a22, .int .u32 a23, .int .i64 a24, .int .i64 a25, .int .i64 a26, .slice a27 len27 cap27, .slice a28 len28 cap28], .agg #[.int .i64 a30, .int .i64 a31, .int .u32 a32, .int .u32 a33, .int .i64 a34, .int .i64 a35, .int .i64 a36, .slice a37 len37 cap37, .slice a38 len38 cap38]] w fun e w' => e = .returned (.bool true) ∧ Below w.heap.size w w' := by
  have bs := bounds_u32 w0
  have bd := bounds_u32 w1
  have r7 := row27.bytes
  have z7 := row27.nil_cap
  have r8 := row28.bytes
  have z8 := row28.nil_cap
  have s7 := row37.bytes
  have s8 := row38.bytes
  have bq := bounds_u32 w22
  have bk := bounds_u32 w23
  have f : Tcp.Fine ⟨a20, a21, a22, a23, a24, a25, a26, zs27.take len27, zs28.take len28⟩ := ⟨bq.1, bq.2, bk.1, bk.2, r7.ok, r8.ok⟩
  have cl := fun w => Tcp.long_any ⟨a20, a21, a22, a23, a24, a25, a26, zs27.take len27, zs28.take len28⟩ a27 len27 cap27 a28 len28 cap28 w
  have cq := fun w => Tcp.long_any ⟨a30, a31, a32, a33, a34, a35, a36, zs37.take len37, zs38.take len38⟩ a37 len37 cap37 a38 len38 cap38 w
  have hx0 : Ext w ((w.alloc (.cells #[.int .i64 a20, .int .i64 a21, .int .u32 a22, .int .u32 a23, .int .i64 a24, .int .i64 a25, .int .i64 a26, .slice a27 len27 cap27, .slice a28 len28 cap28] 25)).alloc (.cells #[.int .i64 a30, .int .i64 a31, .int .u32 a32, .int .u32 a33, .int .i64 a34, .int .i64 a35, .int .i64 a36, .slice a37 len37 cap37, .slice a38 len38 cap38] 25)) := ((Ext.refl w).alloc _).alloc _
  have hA := ((Ext.refl (w.alloc (.cells #[.int .i64 a20, .int .i64 a21, .int .u32 a22, .int .u32 a23, .int .i64 a24, .int .i64 a25, .int .i64 a26, .slice a27 len27 cap27, .slice a28 len28 cap28] 25))).alloc (.cells #[.int .i64 a30, .int .i64 a31, .int .u32 a32, .int .u32 a33, .int .i64 a34, .int .i64 a35, .int .i64 a36, .slice a37 len37 cap37, .slice a38 len38 cap38] 25)).heap (heap_new' w (.cells #[.int .i64 a20, .int .i64 a21, .int .u32 a22, .int .u32 a23, .int .i64 a24, .int .i64 a25, .int .i64 a26, .slice a27 len27 cap27, .slice a28 len28 cap28] 25))
  have hB := heap_new' (w.alloc (.cells #[.int .i64 a20, .int .i64 a21, .int .u32 a22, .int .u32 a23, .int .i64 a24, .int .i64 a25, .int .i64 a26, .slice a27 len27 cap27, .slice a28 len28 cap28] 25)) (.cells #[.int .i64 a30, .int .i64 a31, .int .u32 a32, .int .u32 a33, .int .i64 a34, .int .i64 a35, .int .i64 a36, .slice a37 len37 cap37, .slice a38 len38 cap38] 25)
  rw [show (w.alloc (.cells #[.int .i64 a20, .int .i64 a21, .int .u32 a22, .int .u32 a23, .int .i64 a24, .int .i64 a25, .int .i64 a26, .slice a27 len27 cap27, .slice a28 len28 cap28] 25)).heap.size = w.heap.size + 1 by simp] at hB
  obtain ⟨x0, x1, x2, x3, x4, x5, x6, x7, x8⟩ := box_segE hA
  obtain ⟨y0, y1, y2, y3, y4, y5, y6, y7, y8⟩ := box_segE hB
  clear hA hB
  have tok1 : Hid True := trivial
  have tok2 : Hid True := trivial
  by_cases hlong : 60 < len27 ∨ 1500 < len28
  · rw [show decide (60 < len27 ∨ 1500 < len28) = true by simpa using hlong] at cl
    clear hlong f
    dsimp only at *
    go_enter Try.func4, Try.ntmps4
    go_wp2_with (go_at_call 13; refine (cl _).mono ?_; rintro e w1 ⟨rfl, hx1⟩)
    go_ret
    exact ⟨rfl, hx0.trans hx1⟩
  rw [show decide (60 < len27 ∨ 1500 < len28) = false by simpa using hlong] at cl
  by_cases hlonq : 60 < len37 ∨ 1500 < len38
  · rw [show decide (60 < len37 ∨ 1500 < len38) = true by simpa using hlonq] at cq
    clear hlong hlonq f
    dsimp only at *
    go_enter Try.func4, Try.ntmps4
    go_wp2_with (first
      | (go_at_call 13; clear tok1; refine (cl _).mono ?_; rintro e w1 ⟨rfl, hx1⟩)
      | (go_at_call 13; refine (cq _).mono ?_; rintro e w2 ⟨rfl, hx2⟩))
    go_ret
    exact ⟨rfl, hx0.trans (hx1.trans hx2)⟩
  rw [show decide (60 < len37 ∨ 1500 < len38) = false by simpa using hlonq] at cq
  have go : ∀ (M : Nat) (Y : List Int) (er : Int)
      (cb : ∀ w, Bytes w a27 len27 (zs27.take len27) → Bytes w a28 len28 (zs28.take len28) → Calls Try.prog 14 #[.int .u32 a0, .int .u32 a1, .agg #[.int .i64 a20, .int .i64 a21, .int .u32 a22, .int .u32 a23, .int .i64 a24, .int .i64 a25, .int .i64 a26, .slice a27 len27 cap27, .slice a28 len28 cap28]] w fun e w' => ∃ q c, e = .returned (.tuple #[.slice q M c, .int .i64 er]) ∧ Bytes w' q M Y ∧ Ext w w')
      (cc : ∀ w, Bytes w a27 len27 (zs27.take len27) → Bytes w a28 len28 (zs28.take len28) → Calls Try.prog 15 #[.int .u32 a0, .int .u32 a1, .agg #[.int .i64 a20, .int .i64 a21, .int .u32 a22, .int .u32 a23, .int .i64 a24, .int .i64 a25, .int .i64 a26, .slice a27 len27 cap27, .slice a28 len28 cap28]] w fun e w' => ∃ q c, e = .returned (.tuple #[.slice q M c, .int .i64 er]) ∧ Bytes w' q M Y ∧ Ext w w'),
      Calls Try.prog 4 #[.int .u32 a0, .int .u32 a1, .agg #[.int .i64 a20, .int .i64 a21, .int .u32 a22, .int .u32 a23, .int .i64 a24, .int .i64 a25, .int .i64 a26, .slice a27 len27 cap27, .slice a28 len28 cap28], .agg #[.int .i64 a30, .int .i64 a31, .int .u32 a32, .int .u32 a33, .int .i64 a34, .int .i64 a35, .int .i64 a36, .slice a37 len37 cap37, .slice a38 len38 cap38]] w fun e w' => e = .returned (.bool true) ∧ Below w.heap.size w w' := by
    intro M Y er cb cc
    have c1 := fun w => Tcp.reset_any ⟨a20, a21, a22, a23, a24, a25, a26, zs27.take len27, zs28.take len28⟩ a27 len27 cap27 a28 len28 cap28 w r8.length (by omega) bq.1 bq.2
    have c2 := fun w => Tcp.refReset_any ⟨a20, a21, a22, a23, a24, a25, a26, zs27.take len27, zs28.take len28⟩ a27 len27 cap27 a28 len28 cap28 w r8.length (by omega) bq.1 bq.2
    have c3 := fun w h1 h2 h3 h4 => Tcp.same_any ⟨a20, a21, a22, a23, a24, a25, a26, zs27.take len27, zs28.take len28⟩ ⟨a30, a31, a32, a33, a34, a35, a36, zs37.take len37, zs38.take len38⟩ a27 len27 cap27 a28 len28 cap28 a37 len37 cap37 a38 len38 cap38 w h1 h2 h3 h4
    have c4 := fun w h1 h2 h3 h4 => Tcp.refSame_any ⟨a20, a21, a22, a23, a24, a25, a26, zs27.take len27, zs28.take len28⟩ ⟨a30, a31, a32, a33, a34, a35, a36, zs37.take len37, zs38.take len38⟩ a27 len27 cap27 a28 len28 cap28 a37 len37 cap37 a38 len38 cap38 w h1 h2 h3 h4
    have c5 := fun w => Tcp.refSame_any (Tcp.resetV ⟨a20, a21, a22, a23, a24, a25, a26, zs27.take len27, zs28.take len28⟩) (Tcp.resetV ⟨a20, a21, a22, a23, a24, a25, a26, zs27.take len27, zs28.take len28⟩) none 0 0 none 0 0 none 0 0 none 0 0 w (by rw [Tcp.reset_opts]; exact bytes_nil w) (by rw [Tcp.reset_data]; exact bytes_nil w) (by rw [Tcp.reset_opts]; exact bytes_nil w) (by rw [Tcp.reset_data]; exact bytes_nil w)
    rw [Tcp.sameV_self] at c5
    unfold Tcp.resetE at c1 c2
    generalize Tcp.sameV ⟨a20, a21, a22, a23, a24, a25, a26, zs27.take len27, zs28.take len28⟩ ⟨a30, a31, a32, a33, a34, a35, a36, zs37.take len37, zs38.take len38⟩ = SM at *
    generalize Tcp.resetV ⟨a20, a21, a22, a23, a24, a25, a26, zs27.take len27, zs28.take len28⟩ = R at *
    generalize (!(Tcp.flagV ⟨a20, a21, a22, a23, a24, a25, a26, zs27.take len27, zs28.take len28⟩ 4)) = OK at *
    obtain ⟨r0, r1, r2, r3, r4, r5, r6, R7, R8⟩ := R
    clear f hlong hlonq
    dsimp only at *
    go_enter Try.func4, Try.ntmps4
    go_wp2_with (first
      | (go_at_call 13; clear tok1; refine (cl _).mono ?_; rintro e w1 ⟨rfl, hx1⟩)
      | (go_at_call 13; refine (cq _).mono ?_; rintro e w2 ⟨rfl, hx2⟩; have hx12 := hx1.trans hx2; have hy2 := hx0.trans hx12)
      | (go_at_call 14; refine (cb _ (r7.below hy2) (r8.below hy2)).mono ?_; rintro e w3 ⟨q3, c3', rfl, hb3, hx3⟩; have hx03 := hx12.trans hx3; have hy3 := hx0.trans hx03)
      | (go_at_call 15; refine (cc _ (r7.below hy3) (r8.below hy3)).mono ?_; rintro e w4 ⟨q4, c4', rfl, hb4, hx4⟩; have hx04 := hx03.trans hx4)
      | (go_at_call 16; refine (c1 _).mono ?_; rintro e w5 ⟨rfl, hx5⟩; have hx05 := (hx04.trans hx5).alloc (.cells #[.int .i64 r0, .int .i64 r1, .int .u32 r2, .int .u32 r3, .int .i64 r4, .int .i64 r5, .int .i64 r6, .slice none 0 0, .slice none 0 0] 25))
      | (go_at_call 17; refine (c2 _).mono ?_; rintro e w6 ⟨rfl, hx6⟩))
    have hx6a := (hx6.alloc (.cells #[.int .i64 r0, .int .i64 r1, .int .u32 r2, .int .u32 r3, .int .i64 r4, .int .i64 r5, .int .i64 r6, .slice none 0 0, .slice none 0 0] 25)).drew
    have hX : Ext ((w.alloc (.cells #[.int .i64 a20, .int .i64 a21, .int .u32 a22, .int .u32 a23, .int .i64 a24, .int .i64 a25, .int .i64 a26, .slice a27 len27 cap27, .slice a28 len28 cap28] 25)).alloc (.cells #[.int .i64 a30, .int .i64 a31, .int .u32 a32, .int .u32 a33, .int .i64 a34, .int .i64 a35, .int .i64 a36, .slice a37 len37 cap37, .slice a38 len38 cap38] 25)) (w6.alloc (.cells #[.int .i64 r0, .int .i64 r1, .int .u32 r2, .int .u32 r3, .int .i64 r4, .int .i64 r5, .int .i64 r6, .slice none 0 0, .slice none 0 0] 25)).drew := hx05.trans hx6a
    have hYX := hx0.trans hX
    have hx4a : Ext w4 (w6.alloc (.cells #[.int .i64 r0, .int .i64 r1, .int .u32 r2, .int .u32 r3, .int .i64 r4, .int .i64 r5, .int .i64 r6, .slice none 0 0, .slice none 0 0] 25)).drew := (hx5.alloc (.cells #[.int .i64 r0, .int .i64 r1, .int .u32 r2, .int .u32 r3, .int .i64 r4, .int .i64 r5, .int .i64 r6, .slice none 0 0, .slice none 0 0] 25)).trans hx6a
    have sA := (hb3.below (hx4.trans hx4a)).conv c3'
    have sB := (hb4.below hx4a).conv c4'
    generalize strOfNums Y = SY at *
    obtain ⟨k0, k1, k2, k3, k4, k5, k6, k7, k8⟩ := box_segE (hx6a.heap (heap_new' w5 (.cells #[.int .i64 r0, .int .i64 r1, .int .u32 r2, .int .u32 r3, .int .i64 r4, .int .i64 r5, .int .i64 r6, .slice none 0 0, .slice none 0 0] 25)))
    obtain ⟨l0, l1, l2, l3, l4, l5, l6, l7, l8⟩ := box_segE (w := (w6.alloc (.cells #[.int .i64 r0, .int .i64 r1, .int .u32 r2, .int .u32 r3, .int .i64 r4, .int .i64 r5, .int .i64 r6, .slice none 0 0, .slice none 0 0] 25)).drew) (heap_new' w6 (.cells #[.int .i64 r0, .int .i64 r1, .int .u32 r2, .int .u32 r3, .int .i64 r4, .int .i64 r5, .int .i64 r6, .slice none 0 0, .slice none 0 0] 25))
    replace x0 := fun w' h => x0 w' (hX.trans h)
    replace x1 := fun w' h => x1 w' (hX.trans h)
    replace x2 := fun w' h => x2 w' (hX.trans h)
    replace x3 := fun w' h => x3 w' (hX.trans h)
    replace x4 := fun w' h => x4 w' (hX.trans h)
    replace x5 := fun w' h => x5 w' (hX.trans h)
    replace x6 := fun w' h => x6 w' (hX.trans h)
    replace x7 := fun w' h => x7 w' (hX.trans h)
    replace x8 := fun w' h => x8 w' (hX.trans h)
    replace y0 := fun w' h => y0 w' (hX.trans h)
    replace y1 := fun w' h => y1 w' (hX.trans h)
    replace y2 := fun w' h => y2 w' (hX.trans h)
    replace y3 := fun w' h => y3 w' (hX.trans h)
    replace y4 := fun w' h => y4 w' (hX.trans h)
    replace y5 := fun w' h => y5 w' (hX.trans h)
    replace y6 := fun w' h => y6 w' (hX.trans h)
    replace y7 := fun w' h => y7 w' (hX.trans h)
    replace y8 := fun w' h => y8 w' (hX.trans h)
    refine wp_region_eager [(0, false), (1, false), (2, false), (3, false), (4, false), (5, false), (6, false), (7, false), (8, false), (9, false), (10, false), (11, false), (12, false), (14, false), (15, false), (13, true), (16, true), (17, false), (18, false), (19, false), (20, false), (21, false), (22, true), (23, false), (24, false), (25, false), (26, false), (27, false), (28, false), (29, false), (30, true), (31, false), (32, false)] (by kernel_rfl) (by kernel_rfl) rfl (by kernel_rfl) (fun _ _ _ _ _ h => h) ?_
    generalize ((w.alloc (.cells #[.int .i64 a20, .int .i64 a21, .int .u32 a22, .int .u32 a23, .int .i64 a24, .int .i64 a25, .int .i64 a26, .slice a27 len27 cap27, .slice a28 len28 cap28] 25)).alloc (.cells #[.int .i64 a30, .int .i64 a31, .int .u32 a32, .int .u32 a33, .int .i64 a34, .int .i64 a35, .int .i64 a36, .slice a37 len37 cap37, .slice a38 len38 cap38] 25)) = W0 at *
    clear hx1 hx2 hx12 hy2 hx3 hx03 hy3 hx4 hx04 hx5 hx05 hx6 hx6a hx4a hb3 hb4 cb cc c1 c2 cl cq hX
    generalize (w6.alloc (.cells #[.int .i64 r0, .int .i64 r1, .int .u32 r2, .int .u32 r3, .int .i64 r4, .int .i64 r5, .int .i64 r6, .slice none 0 0, .slice none 0 0] 25)).drew = V at *
    repeat (first
      | (refine wpE_read (v := ?_) rfl (by rfl) ?_ ?_; rotate_left; (focus (intro w' hx; go_simp; first | done | with_reducible rfl)); simp only [Act.put, List.setIfInBounds_toArray, List.set_cons_zero, List.set_cons_succ])
      | (refine wpE_call rfl (by rfl) (fun K hK => ?_); go_simp; first
          | (go_at_call 18; clear tok2 x0 y0 x1 y1 x2 y2 x3 y3 x4 y4 x5 y5 x6 y6 x7 y7 x8 y8; refine (c3 _ (r7.below hYX) (r8.below hYX) (s7.below hYX) (s8.below hYX)).mono ?_; rintro e w7 ⟨rfl, hx7⟩; refine hK _ _ hx7 ?_; clear hK K; replace hYX := hYX.trans hx7; replace k0 := fun w' h => k0 w' (hx7.trans h); replace k1 := fun w' h => k1 w' (hx7.trans h); replace k2 := fun w' h => k2 w' (hx7.trans h); replace k3 := fun w' h => k3 w' (hx7.trans h); replace k4 := fun w' h => k4 w' (hx7.trans h); replace k5 := fun w' h => k5 w' (hx7.trans h); replace k6 := fun w' h => k6 w' (hx7.trans h); replace k7 := fun w' h => k7 w' (hx7.trans h); replace k8 := fun w' h => k8 w' (hx7.trans h); replace l0 := fun w' h => l0 w' (hx7.trans h); replace l1 := fun w' h => l1 w' (hx7.trans h); replace l2 := fun w' h => l2 w' (hx7.trans h); replace l3 := fun w' h => l3 w' (hx7.trans h); replace l4 := fun w' h => l4 w' (hx7.trans h); replace l5 := fun w' h => l5 w' (hx7.trans h); replace l6 := fun w' h => l6 w' (hx7.trans h); replace l7 := fun w' h => l7 w' (hx7.trans h); replace l8 := fun w' h => l8 w' (hx7.trans h); clear hx7)
          | (go_at_call 11; refine (c4 _ (r7.below hYX) (r8.below hYX) (s7.below hYX) (s8.below hYX)).mono ?_; rintro e w8 ⟨rfl, hx8⟩; refine hK _ _ hx8 ?_; clear hK K c4; replace hYX := hYX.trans hx8; replace k0 := fun w' h => k0 w' (hx8.trans h); replace k1 := fun w' h => k1 w' (hx8.trans h); replace k2 := fun w' h => k2 w' (hx8.trans h); replace k3 := fun w' h => k3 w' (hx8.trans h); replace k4 := fun w' h => k4 w' (hx8.trans h); replace k5 := fun w' h => k5 w' (hx8.trans h); replace k6 := fun w' h => k6 w' (hx8.trans h); replace k7 := fun w' h => k7 w' (hx8.trans h); replace k8 := fun w' h => k8 w' (hx8.trans h); replace l0 := fun w' h => l0 w' (hx8.trans h); replace l1 := fun w' h => l1 w' (hx8.trans h); replace l2 := fun w' h => l2 w' (hx8.trans h); replace l3 := fun w' h => l3 w' (hx8.trans h); replace l4 := fun w' h => l4 w' (hx8.trans h); replace l5 := fun w' h => l5 w' (hx8.trans h); replace l6 := fun w' h => l6 w' (hx8.trans h); replace l7 := fun w' h => l7 w' (hx8.trans h); replace l8 := fun w' h => l8 w' (hx8.trans h); clear hx8)
          | (go_at_call 11; refine (c5 _).mono ?_; rintro e w9 ⟨rfl, hx9⟩; refine hK _ _ hx9 ?_; clear hK K; replace hYX := hYX.trans hx9; clear hx9)
          | (go_at_call 12; refine (Tcp.known_any _).mono ?_; rintro e w10 ⟨rfl, hx10⟩; refine hK _ _ hx10 ?_; clear hK K; replace hYX := hYX.trans hx10)))
    refine wpE_done ?_
    go_wp2
    go_ret
    exact ⟨rfl, hYX⟩
  by_cases his : Tcp.isV ⟨a20, a21, a22, a23, a24, a25, a26, zs27.take len27, zs28.take len28⟩ = true
  · have hp := (Tcp.isV_iff _).1 his
    obtain ⟨N, hN⟩ : ∃ N, 20 + len27 + len28 = N := ⟨_, rfl⟩
    refine go N (Tcp.buildV a0 a1 ⟨a20, a21, a22, a23, a24, a25, a26, zs27.take len27, zs28.take len28⟩) 0 (fun w h h' => ?_) (fun w h h' => ?_)
    · refine (Tcp.build_good a0 a1 ⟨a20, a21, a22, a23, a24, a25, a26, zs27.take len27, zs28.take len28⟩ a27 len27 cap27 a28 len28 cap28 w h z7 h' z8 f hp bs.1 bs.2 bd.1 bd.2 N hN).mono ?_
      rintro e w' ⟨q, c, rfl, ho, hx⟩
      exact ⟨q, c, rfl, (owns_slice ho (Tcp.build_ok f hp bs.1 bs.2 bd.1 bd.2)).1, hx⟩
    · exact Tcp.refBuild_good a0 a1 ⟨a20, a21, a22, a23, a24, a25, a26, zs27.take len27, zs28.take len28⟩ a27 len27 cap27 a28 len28 cap28 w h z7 h' z8 f hp bs.1 bs.2 bd.1 bd.2 N hN
  · rw [Bool.not_eq_true] at his
    refine go 0 [] 1 (fun w h h' => ?_) (fun w h h' => ?_)
    · refine (Tcp.build_bad a0 a1 ⟨a20, a21, a22, a23, a24, a25, a26, zs27.take len27, zs28.take len28⟩ a27 len27 cap27 a28 len28 cap28 w r7.length r8.length (by omega) (by omega) his).mono ?_
      rintro e w' ⟨rfl, hx⟩
      exact ⟨none, 0, rfl, bytes_nil w', hx⟩
    · refine (Tcp.refBuild_bad a0 a1 ⟨a20, a21, a22, a23, a24, a25, a26, zs27.take len27, zs28.take len28⟩ a27 len27 cap27 a28 len28 cap28 w r7.length r8.length (by omega) (by omega) his).mono ?_
      rintro e w' ⟨rfl, hx⟩
      exact ⟨none, 0, rfl, bytes_nil w', hx⟩

theorem contract (H : Type) (enc : TypeId × Value → H) (W : World) (base : Nat) (args : Array Value) (ds gs : List (DataW H)) (before : List MemPlace)
    (hval : ∀ (j : Nat) t v, Try.f4.params[j]? = some t → args[j]? = some v → Value.okWide Try.prog W .any base t v)
    (hW : DataW.Whole enc Try.prog Try.f4.params.toList Rows.tcpBuildsSpec.vars false W args.toList ds gs before) (hsh : W.ShapedOpen Try.prog) :
    Calls Try.prog 4 args W fun e W' => ∃ v, e = .returned v ∧ Rows.tcpBuildsSpec.post enc Try.prog Try.f4 false true false false W args v W' := by
  have hW' := hW
  obtain ⟨p, q, hA0, hV, rfl, hfz, hnd⟩ := hW
  have hA : DataW.TrodAll enc Try.prog W 0 (fun _ => true) true Try.f4.params.toList args.toList ds p := hA0
  rw [Try.params4] at hA hval
  obtain ⟨v0, vs0, d0, ds0, p0, q0, hargs, rfl, rfl, h0, r0⟩ := trodAll_cons hA
  obtain ⟨v1, vs1, d1, ds1, p1, q1, rfl, rfl, rfl, h1, r1⟩ := trodAll_cons r0
  obtain ⟨v2, vs2, d2, ds2, p2, q2, rfl, rfl, rfl, h2, r2⟩ := trodAll_cons r1
  obtain ⟨v3, vs3, d3, ds3, p3, q3, rfl, rfl, rfl, h3, r3⟩ := trodAll_cons r2
  obtain ⟨rfl, rfl, rfl⟩ := trodAll_nil r3
  obtain rfl : args = #[v0, v1, v2, v3] := by cases args; simp_all
  obtain ⟨rfl, rfl⟩ := trodVars_none hV
  obtain ⟨a0, rfl, rfl, rfl, w0⟩ := open_int Try.underlying23 (hval 0 23 v0 rfl rfl) h0
  obtain ⟨a1, rfl, rfl, rfl, w1⟩ := open_int Try.underlying23 (hval 1 23 v1 rfl rfl) h1
  have k2 := h2
  have lt2 : ∀ x ∈ p2, x.block < W.heap.size := by obtain ⟨m, hm⟩ := k2; exact DataW.trod_lt m _ _ _ hm
  obtain ⟨cs2, rfl, hs2⟩ := okWide_struct Try.underlying25 (hval 2 25 v2 rfl rfl)
  obtain ⟨u2a, u2b, u2c, u2d, u2e, u2f, u2g, u2h, u2i, rfl⟩ := arr9 (hs2.trans (by kernel_rfl))
  obtain ⟨fu2, hf2⟩ := h2
  obtain ⟨_, _, e1⟩ := field_at Try.underlying25 hf2 0 rfl 1 (by kernel_rfl)
  obtain ⟨a20, c2, _, w20⟩ := DataW.trod_int Try.underlying3 e1
  obtain rfl : u2a = .int .i64 a20 := by simpa [Value.cells] using c2
  obtain ⟨_, _, e3⟩ := field_at Try.underlying25 hf2 1 rfl 1 (by kernel_rfl)
  obtain ⟨a21, c4, _, w21⟩ := DataW.trod_int Try.underlying3 e3
  obtain rfl : u2b = .int .i64 a21 := by simpa [Value.cells] using c4
  obtain ⟨_, _, e5⟩ := field_at Try.underlying25 hf2 2 rfl 1 (by kernel_rfl)
  obtain ⟨a22, c6, _, w22⟩ := DataW.trod_int Try.underlying23 e5
  obtain rfl : u2c = .int .u32 a22 := by simpa [Value.cells] using c6
  obtain ⟨_, _, e7⟩ := field_at Try.underlying25 hf2 3 rfl 1 (by kernel_rfl)
  obtain ⟨a23, c8, _, w23⟩ := DataW.trod_int Try.underlying23 e7
  obtain rfl : u2d = .int .u32 a23 := by simpa [Value.cells] using c8
  obtain ⟨_, _, e9⟩ := field_at Try.underlying25 hf2 4 rfl 1 (by kernel_rfl)
  obtain ⟨a24, c10, _, w24⟩ := DataW.trod_int Try.underlying3 e9
  obtain rfl : u2e = .int .i64 a24 := by simpa [Value.cells] using c10
  obtain ⟨_, _, e11⟩ := field_at Try.underlying25 hf2 5 rfl 1 (by kernel_rfl)
  obtain ⟨a25, c12, _, w25⟩ := DataW.trod_int Try.underlying3 e11
  obtain rfl : u2f = .int .i64 a25 := by simpa [Value.cells] using c12
  obtain ⟨_, _, e13⟩ := field_at Try.underlying25 hf2 6 rfl 1 (by kernel_rfl)
  obtain ⟨a26, c14, _, w26⟩ := DataW.trod_int Try.underlying3 e13
  obtain rfl : u2g = .int .i64 a26 := by simpa [Value.cells] using c14
  obtain ⟨_, _, e15⟩ := field_at Try.underlying25 hf2 7 rfl 1 (by kernel_rfl)
  obtain ⟨a27, len27, cap27, zs27, c16, row27⟩ := open_rowI Try.underlying22 Try.underlying5 (by kernel_rfl) (fun _ => rfl) e15
  obtain rfl : u2h = .slice a27 len27 cap27 := by simpa [Value.cells] using c16
  obtain ⟨_, _, e17⟩ := field_at Try.underlying25 hf2 8 rfl 1 (by kernel_rfl)
  obtain ⟨a28, len28, cap28, zs28, c18, row28⟩ := open_rowI Try.underlying22 Try.underlying5 (by kernel_rfl) (fun _ => rfl) e17
  obtain rfl : u2i = .slice a28 len28 cap28 := by simpa [Value.cells] using c18
  have k3 := h3
  have lt3 : ∀ x ∈ p3, x.block < W.heap.size := by obtain ⟨m, hm⟩ := k3; exact DataW.trod_lt m _ _ _ hm
  obtain ⟨cs3, rfl, hs3⟩ := okWide_struct Try.underlying25 (hval 3 25 v3 rfl rfl)
  obtain ⟨u3a, u3b, u3c, u3d, u3e, u3f, u3g, u3h, u3i, rfl⟩ := arr9 (hs3.trans (by kernel_rfl))
  obtain ⟨fu3, hf3⟩ := h3
  obtain ⟨_, _, e19⟩ := field_at Try.underlying25 hf3 0 rfl 1 (by kernel_rfl)
  obtain ⟨a30, c20, _, w30⟩ := DataW.trod_int Try.underlying3 e19
  obtain rfl : u3a = .int .i64 a30 := by simpa [Value.cells] using c20
  obtain ⟨_, _, e21⟩ := field_at Try.underlying25 hf3 1 rfl 1 (by kernel_rfl)
  obtain ⟨a31, c22, _, w31⟩ := DataW.trod_int Try.underlying3 e21
  obtain rfl : u3b = .int .i64 a31 := by simpa [Value.cells] using c22
  obtain ⟨_, _, e23⟩ := field_at Try.underlying25 hf3 2 rfl 1 (by kernel_rfl)
  obtain ⟨a32, c24, _, w32⟩ := DataW.trod_int Try.underlying23 e23
  obtain rfl : u3c = .int .u32 a32 := by simpa [Value.cells] using c24
  obtain ⟨_, _, e25⟩ := field_at Try.underlying25 hf3 3 rfl 1 (by kernel_rfl)
  obtain ⟨a33, c26, _, w33⟩ := DataW.trod_int Try.underlying23 e25
  obtain rfl : u3d = .int .u32 a33 := by simpa [Value.cells] using c26
  obtain ⟨_, _, e27⟩ := field_at Try.underlying25 hf3 4 rfl 1 (by kernel_rfl)
  obtain ⟨a34, c28, _, w34⟩ := DataW.trod_int Try.underlying3 e27
  obtain rfl : u3e = .int .i64 a34 := by simpa [Value.cells] using c28
  obtain ⟨_, _, e29⟩ := field_at Try.underlying25 hf3 5 rfl 1 (by kernel_rfl)
  obtain ⟨a35, c30, _, w35⟩ := DataW.trod_int Try.underlying3 e29
  obtain rfl : u3f = .int .i64 a35 := by simpa [Value.cells] using c30
  obtain ⟨_, _, e31⟩ := field_at Try.underlying25 hf3 6 rfl 1 (by kernel_rfl)
  obtain ⟨a36, c32, _, w36⟩ := DataW.trod_int Try.underlying3 e31
  obtain rfl : u3g = .int .i64 a36 := by simpa [Value.cells] using c32
  obtain ⟨_, _, e33⟩ := field_at Try.underlying25 hf3 7 rfl 1 (by kernel_rfl)
  obtain ⟨a37, len37, cap37, zs37, c34, row37⟩ := open_rowI Try.underlying22 Try.underlying5 (by kernel_rfl) (fun _ => rfl) e33
  obtain rfl : u3h = .slice a37 len37 cap37 := by simpa [Value.cells] using c34
  obtain ⟨_, _, e35⟩ := field_at Try.underlying25 hf3 8 rfl 1 (by kernel_rfl)
  obtain ⟨a38, len38, cap38, zs38, c36, row38⟩ := open_rowI Try.underlying22 Try.underlying5 (by kernel_rfl) (fun _ => rfl) e35
  obtain rfl : u3i = .slice a38 len38 cap38 := by simpa [Value.cells] using c36
  clear hA0
  refine (walk a0 a1 a20 a21 a22 a23 a24 a25 a26 a27 len27 cap27 zs27 a28 len28 cap28 zs28 a30 a31 a32 a33 a34 a35 a36 a37 len37 cap37 zs37 a38 len38 cap38 zs38 W w0 w1 w20 w21 w22 w23 w24 w25 w26 row27 row28 w30 w31 w32 w33 w34 w35 w36 row37 row38 hsh).mono fun e W' ⟨he, bel⟩ => ?_
  subst he
  exact ⟨_, rfl, _, _, _, [], _, [], hW', trodAll_mk1 (shut_bool Try.underlying4 _), (trodAll_cons_mk (shut_int Try.underlying23 w0) (trodAll_cons_mk (shut_int Try.underlying23 w1) (trodAll_cons_mk (Below.trod laidOut (by kernel_rfl) (of_decide_eq_true (by kernel_rfl)) k2 bel lt2) (trodAll_cons_mk (Below.trod laidOut (by kernel_rfl) (of_decide_eq_true (by kernel_rfl)) k3 bel lt3) trodAll_mk0)))), rfl, bel.frame _, fun h => by cases h⟩

theorem laid_met (os : Os) : laidMet Try.prog Rows.tcpBuildsRow.laid ((World.doorLaid Try.prog 24 os).forCall (fun _ _ => 0) ⟨#[], #[.int .u32 0, .int .u32 0, .agg #[.int .i64 0, .int .i64 0, .int .u32 0, .int .u32 0, .int .i64 0, .int .i64 0, .int .i64 0, .slice none 0 0, .slice none 0 0], .agg #[.int .i64 0, .int .i64 0, .int .u32 0, .int .u32 0, .int .i64 0, .int .i64 0, .int .i64 0, .slice none 0 0, .slice none 0 0]], []⟩).memory :=
  laidMet_of_run' 8 (by kernel_rfl) (by kernel_rfl)
theorem reads (os : Os) {H : Type} (enc : TypeId × Value → H) : ∃ places, DataW.whole enc Try.prog ((World.doorLaid Try.prog 24 os).forCall (fun _ _ => 0) ⟨#[], #[.int .u32 0, .int .u32 0, .agg #[.int .i64 0, .int .i64 0, .int .u32 0, .int .u32 0, .int .i64 0, .int .i64 0, .int .i64 0, .slice none 0 0, .slice none 0 0], .agg #[.int .i64 0, .int .i64 0, .int .u32 0, .int .u32 0, .int .i64 0, .int .i64 0, .int .i64 0, .slice none 0 0, .slice none 0 0]], []⟩).memory Try.f4.params.toList Rows.tcpBuildsSpec.vars false (#[.int .u32 0, .int .u32 0, .agg #[.int .i64 0, .int .i64 0, .int .u32 0, .int .u32 0, .int .i64 0, .int .i64 0, .int .i64 0, .slice none 0 0, .slice none 0 0], .agg #[.int .i64 0, .int .i64 0, .int .u32 0, .int .u32 0, .int .i64 0, .int .i64 0, .int .i64 0, .slice none 0 0, .slice none 0 0]] : Array Value).toList 8 = some ([.lit (.int .u32 0), .lit (.int .u32 0), .agg [.lit (.int .i64 0), .lit (.int .i64 0), .lit (.int .u32 0), .lit (.int .u32 0), .lit (.int .i64 0), .lit (.int .i64 0), .lit (.int .i64 0), .nil, .nil], .agg [.lit (.int .i64 0), .lit (.int .i64 0), .lit (.int .u32 0), .lit (.int .u32 0), .lit (.int .i64 0), .lit (.int .i64 0), .lit (.int .i64 0), .nil, .nil]], [], places) :=
  ⟨[], by kernel_rfl⟩

set_option maxRecDepth 100000 in
theorem lifted (os : Os) (started : os.Started) (H : Type) (enc : TypeId × Value → H) (F : Stop.Interp) :
    ReturnsInHanded {} Try.checked os 4 .any ((OpenSpec.ofChange Rows.tcpBuildsSpec).preRow enc Try.prog Try.f4 Rows.tcpBuildsRow.domain false Rows.tcpBuildsRow.laid) (((OpenSpec.ofChange Rows.tcpBuildsSpec).at F).post enc Try.prog Try.f4 false true false false) := by
  obtain ⟨places, hx⟩ := reads os enc
  refine returnsInHanded_of_row (C := Try.checked) (s := (OpenSpec.ofChange Rows.tcpBuildsSpec)) own started (by kernel_rfl) Try.func4
    (witness_row_at (enc := enc) (C := Try.checked) false (World.doorLaid Try.prog 24 os) #[.int .u32 0, .int .u32 0, .agg #[.int .i64 0, .int .i64 0, .int .u32 0, .int .u32 0, .int .i64 0, .int .i64 0, .int .i64 0, .slice none 0 0, .slice none 0 0], .agg #[.int .i64 0, .int .i64 0, .int .u32 0, .int .u32 0, .int .i64 0, .int .i64 0, .int .i64 0, .slice none 0 0, .slice none 0 0]] rfl (by kernel_rfl) (by kernel_rfl) (by kernel_rfl)
      (OpenSpec.preRow_of_cond 8 hx (by kernel_rfl) (fun k hk => by cases hk) (by kernel_rfl) (laid_met os))) ?_
  intro W base args ds gs before hval hW _ hcond _ hL hsh _
  exact contract H enc W base args ds gs before hval hW hsh

theorem said : Rows.TcpBuildsSaid :=
  OpenClaim.holds_of_cond 4 Try.f4 rfl rfl rfl rfl rfl rfl rfl ⟨rfl, rfl, rfl, rfl, rfl⟩ rfl rfl rfl rfl rfl (by kernel_rfl) Try.func4 (by kernel_rfl)
    (of_decide_eq_true (by kernel_rfl)) (by unfold Func.isWrapper; first | (rw [if_pos (by decide +kernel)]; kernel_rfl) | (rw [if_neg (by decide +kernel)]; exact ⟨rfl, rfl⟩))
    (fun os started H enc _ F => by rw [OpenClaim.pre_eq_preRow]; exact lifted os started H enc F)

end Go.Proofs.Ytlinkbniihlagaa.tcpBuilds

namespace Go.Proofs.Ytlinkbniihlagaa
theorem tcpBuilds_holds : Rows.TcpBuildsSaid := tcpBuilds.said
#print axioms tcpBuilds_holds
end Go.Proofs.Ytlinkbniihlagaa
