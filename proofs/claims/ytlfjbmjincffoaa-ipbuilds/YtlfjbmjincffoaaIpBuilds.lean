/- For every two packets, the law IpBuilds returns true: any packet as bytes, or the error; any two whether they are one; no condition. -/
import Derived.Test.YtlfjbmjincffoaaRows
import Derived.Test.YtlfjbmjincffoaaFrame
import Derived.Test.YtlfjbmjincffoaaIp6
import Derived.Test.YtlfjbmjincffoaaIp9
import Derived.Test.YtlfjbmjincffoaaIp2
import Derived.Test.YtlfjbmjincffoaaIp2R
import Derived.Test.YtlfjbmjincffoaaFrame
import Derived.WalkKit
import Derived.ProofKit
import Derived.OpenShut
import Derived.ShutString
import Derived.ChangeOld
import Derived.Deep.DeepHandedRow
import Derived.Lib.LaidTab
import Derived.Lib.SmallJoins
import Derived.LaidMore
import Derived.Stop.LaidErr
import Derived.ChangeMaps5
namespace Go.Proofs.Ytlfjbmjincffoaa.ipBuilds
open Go.ChangeShapes Go.WideShapes Go.ChangeAt Go.RowKit Go.ChangeMaps
set_option linter.unusedVariables false

theorem own : ownKnob Try.prog.godebug = none := by kernel_rfl
theorem laidOut : laidOutB Try.prog = true := by kernel_rfl

theorem arr11 {α : Type} {cs : Array α} (h : cs.size = 11) : ∃ c0 c1 c2 c3 c4 c5 c6 c7 c8 c9 c10, cs = #[c0, c1, c2, c3, c4, c5, c6, c7, c8, c9, c10] := by
  obtain ⟨l⟩ := cs
  match l, h with
  | [c0, c1, c2, c3, c4, c5, c6, c7, c8, c9, c10], _ => exact ⟨c0, c1, c2, c3, c4, c5, c6, c7, c8, c9, c10, rfl⟩

set_option maxHeartbeats 4000000 in
theorem walk (a0a : Int) (a0b : Int) (a0c : Bool) (a0d : Bool) (a0e : Int) (a0f : Int) (a0g : Int) (a0h : Int) (a0i : Int) (a0j : Option Addr) (len0j cap0j : Nat) (zs0j : List Int) (a0k : Option Addr) (len0k cap0k : Nat) (zs0k : List Int) (a1a : Int) (a1b : Int) (a1c : Bool) (a1d : Bool) (a1e : Int) (a1f : Int) (a1g : Int) (a1h : Int) (a1i : Int) (a1j : Option Addr) (len1j cap1j : Nat) (zs1j : List Int) (a1k : Option Addr) (len1k cap1k : Nat) (zs1k : List Int) (w : World) (w0a : (Lit.int .i64 a0a).wf = true) (w0b : (Lit.int .i64 a0b).wf = true) (w0e : (Lit.int .i64 a0e).wf = true) (w0f : (Lit.int .i64 a0f).wf = true) (w0g : (Lit.int .i64 a0g).wf = true) (w0h : (Lit.int .u32 a0h).wf = true) (w0i : (Lit.int .u32 a0i).wf = true) (row0j : IsRow .u8 w a0j len0j cap0j zs0j) (row0k : IsRow .u8 w a0k len0k cap0k zs0k) (w1a : (Lit.int .i64 a1a).wf = true) (w1b : (Lit.int .i64 a1b).wf = true) (w1e : (Lit.int .i64 a1e).wf = true) (w1f : (Lit.int .i64 a1f).wf = true) (w1g : (Lit.int .i64 a1g).wf = true) (w1h : (Lit.int .u32 a1h).wf = true) (w1i : (Lit.int .u32 a1i).wf = true) (row1j : IsRow .u8 w a1j len1j cap1j zs1j) (row1k : IsRow .u8 w a1k len1k cap1k zs1k) (hsh : w.ShapedOpen Try.prog) :
    Calls Try.prog 4 #[.agg #[.int .i64 a0a, .int .i64 a0b, .bool a0c, .bool a0d, .int .i64 a0e, .int .i64 a0f, .int .i64 a0g, .int .u32 a0h, .int .u32 a0i, .slice a0j len0j cap0j, .slice a0k len0k cap0k], .agg #[.int .i64 a1a, .int .i64 a1b, .bool a1c, .bool a1d, .int .i64 a1e, .int .i64 a1f, .int .i64 a1g, .int .u32 a1h, .int .u32 a1i, .slice a1j len1j cap1j, .slice a1k len1k cap1k]] w fun e w' => e = .returned (.bool true) ∧ Below w.heap.size w w' := by
  have r9 := row0j.bytes
  have z9 := row0j.nil_cap
  have ra := row0k.bytes
  have za := row0k.nil_cap
  have s9 := row1j.bytes
  have sa := row1k.bytes
  have hs9 := r9.small
  have bh := bounds_u32 w0h
  have bi := bounds_u32 w0i
  have f : Fine ⟨a0a, a0b, a0c, a0d, a0e, a0f, a0g, a0h, a0i, zs0j.take len0j, zs0k.take len0k⟩ := ⟨bh.1, bh.2, bi.1, bi.2, r9.ok, ra.ok⟩
  have cl := fun w => long_any ⟨a0a, a0b, a0c, a0d, a0e, a0f, a0g, a0h, a0i, zs0j.take len0j, zs0k.take len0k⟩ a0j len0j cap0j a0k len0k cap0k w
  have cq := fun w => long_any ⟨a1a, a1b, a1c, a1d, a1e, a1f, a1g, a1h, a1i, zs1j.take len1j, zs1k.take len1k⟩ a1j len1j cap1j a1k len1k cap1k w
  have hx0 : Ext w ((w.alloc (.cells #[.int .i64 a0a, .int .i64 a0b, .bool a0c, .bool a0d, .int .i64 a0e, .int .i64 a0f, .int .i64 a0g, .int .u32 a0h, .int .u32 a0i, .slice a0j len0j cap0j, .slice a0k len0k cap0k] 25)).alloc (.cells #[.int .i64 a1a, .int .i64 a1b, .bool a1c, .bool a1d, .int .i64 a1e, .int .i64 a1f, .int .i64 a1g, .int .u32 a1h, .int .u32 a1i, .slice a1j len1j cap1j, .slice a1k len1k cap1k] 25)) := ((Ext.refl w).alloc _).alloc _
  have hA : ((w.alloc (.cells #[.int .i64 a0a, .int .i64 a0b, .bool a0c, .bool a0d, .int .i64 a0e, .int .i64 a0f, .int .i64 a0g, .int .u32 a0h, .int .u32 a0i, .slice a0j len0j cap0j, .slice a0k len0k cap0k] 25)).alloc (.cells #[.int .i64 a1a, .int .i64 a1b, .bool a1c, .bool a1d, .int .i64 a1e, .int .i64 a1f, .int .i64 a1g, .int .u32 a1h, .int .u32 a1i, .slice a1j len1j cap1j, .slice a1k len1k cap1k] 25)).heap[w.heap.size]? = some (.cells #[.int .i64 a0a, .int .i64 a0b, .bool a0c, .bool a0d, .int .i64 a0e, .int .i64 a0f, .int .i64 a0g, .int .u32 a0h, .int .u32 a0i, .slice a0j len0j cap0j, .slice a0k len0k cap0k] 25 (0, 0)) := ((Ext.refl (w.alloc (.cells #[.int .i64 a0a, .int .i64 a0b, .bool a0c, .bool a0d, .int .i64 a0e, .int .i64 a0f, .int .i64 a0g, .int .u32 a0h, .int .u32 a0i, .slice a0j len0j cap0j, .slice a0k len0k cap0k] 25))).alloc _).heap (heap_new' w _)
  have hB : ((w.alloc (.cells #[.int .i64 a0a, .int .i64 a0b, .bool a0c, .bool a0d, .int .i64 a0e, .int .i64 a0f, .int .i64 a0g, .int .u32 a0h, .int .u32 a0i, .slice a0j len0j cap0j, .slice a0k len0k cap0k] 25)).alloc (.cells #[.int .i64 a1a, .int .i64 a1b, .bool a1c, .bool a1d, .int .i64 a1e, .int .i64 a1f, .int .i64 a1g, .int .u32 a1h, .int .u32 a1i, .slice a1j len1j cap1j, .slice a1k len1k cap1k] 25)).heap[w.heap.size + 1]? = some (.cells #[.int .i64 a1a, .int .i64 a1b, .bool a1c, .bool a1d, .int .i64 a1e, .int .i64 a1f, .int .i64 a1g, .int .u32 a1h, .int .u32 a1i, .slice a1j len1j cap1j, .slice a1k len1k cap1k] 25 (0, 0)) := by
    have := heap_new' (w.alloc (.cells #[.int .i64 a0a, .int .i64 a0b, .bool a0c, .bool a0d, .int .i64 a0e, .int .i64 a0f, .int .i64 a0g, .int .u32 a0h, .int .u32 a0i, .slice a0j len0j cap0j, .slice a0k len0k cap0k] 25)) (.cells #[.int .i64 a1a, .int .i64 a1b, .bool a1c, .bool a1d, .int .i64 a1e, .int .i64 a1f, .int .i64 a1g, .int .u32 a1h, .int .u32 a1i, .slice a1j len1j cap1j, .slice a1k len1k cap1k] 25)
    rwa [show (w.alloc (.cells #[.int .i64 a0a, .int .i64 a0b, .bool a0c, .bool a0d, .int .i64 a0e, .int .i64 a0f, .int .i64 a0g, .int .u32 a0h, .int .u32 a0i, .slice a0j len0j cap0j, .slice a0k len0k cap0k] 25)).heap.size = w.heap.size + 1 by simp] at this
  obtain ⟨x0, x1, x2, x3, x4, x5, x6, x7, x8, x9, xa⟩ := box_ipE hA
  obtain ⟨y0, y1, y2, y3, y4, y5, y6, y7, y8, y9, ya⟩ := box_ipE hB
  clear hA hB
  have tok1 : Hid True := trivial
  by_cases hlong : 60 < len0j ∨ 1500 < len0k
  · rw [show decide (60 < len0j ∨ 1500 < len0k) = true by simpa using hlong] at cl
    clear hlong f
    dsimp only at *
    go_enter Try.func4, Try.ntmps4
    go_wp2_with (first | (go_at_call 17; clear tok1; refine (cl _).mono ?_; rintro e w1 ⟨rfl, hx1⟩) | (go_at_call 17; refine (cq _).mono ?_; rintro e w2 ⟨rfl, hx2⟩; have hx12 := hx1.trans hx2; have hy2 := hx0.trans hx12))
    go_ret
    exact ⟨rfl, hx0.trans hx1⟩
  rw [show decide (60 < len0j ∨ 1500 < len0k) = false by simpa using hlong] at cl
  by_cases hlonq : 60 < len1j ∨ 1500 < len1k
  · rw [show decide (60 < len1j ∨ 1500 < len1k) = true by simpa using hlonq] at cq
    clear hlong hlonq f
    dsimp only at *
    go_enter Try.func4, Try.ntmps4
    go_wp2_with (first | (go_at_call 17; clear tok1; refine (cl _).mono ?_; rintro e w1 ⟨rfl, hx1⟩) | (go_at_call 17; refine (cq _).mono ?_; rintro e w2 ⟨rfl, hx2⟩; have hx12 := hx1.trans hx2; have hy2 := hx0.trans hx12))
    go_ret
    exact ⟨rfl, hy2⟩
  rw [show decide (60 < len1j ∨ 1500 < len1k) = false by simpa using hlonq] at cq
  have c5 := fun w h1 h2 h3 h4 => same_any ⟨a0a, a0b, a0c, a0d, a0e, a0f, a0g, a0h, a0i, zs0j.take len0j, zs0k.take len0k⟩ ⟨a1a, a1b, a1c, a1d, a1e, a1f, a1g, a1h, a1i, zs1j.take len1j, zs1k.take len1k⟩ a0j len0j cap0j a0k len0k cap0k a1j len1j cap1j a1k len1k cap1k w h1 h2 h3 h4
  have c6 := fun w h1 h2 h3 h4 => refSame_any ⟨a0a, a0b, a0c, a0d, a0e, a0f, a0g, a0h, a0i, zs0j.take len0j, zs0k.take len0k⟩ ⟨a1a, a1b, a1c, a1d, a1e, a1f, a1g, a1h, a1i, zs1j.take len1j, zs1k.take len1k⟩ a0j len0j cap0j a0k len0k cap0k a1j len1j cap1j a1k len1k cap1k w h1 h2 h3 h4
  have c7 := fun w h1 h2 h3 h4 => same_any ⟨a0a, a0b, a0c, a0d, a0e, a0f, a0g, a0h, a0i, zs0j.take len0j, zs0k.take len0k⟩ ⟨a0a, a0b, a0c, a0d, a0e, a0f, a0g, a0h, a0i, zs0j.take len0j, zs0k.take len0k⟩ a0j len0j cap0j a0k len0k cap0k a0j len0j cap0j a0k len0k cap0k w h1 h2 h3 h4
  rw [sameV_self] at c7
  generalize sameV ⟨a0a, a0b, a0c, a0d, a0e, a0f, a0g, a0h, a0i, zs0j.take len0j, zs0k.take len0k⟩ ⟨a1a, a1b, a1c, a1d, a1e, a1f, a1g, a1h, a1i, zs1j.take len1j, zs1k.take len1k⟩ = SV at *
  have tok2 : Hid True := trivial
  by_cases his : isV ⟨a0a, a0b, a0c, a0d, a0e, a0f, a0g, a0h, a0i, zs0j.take len0j, zs0k.take len0k⟩ = true
  rotate_left
  · rw [Bool.not_eq_true] at his
    have cb := fun w => build_bad ⟨a0a, a0b, a0c, a0d, a0e, a0f, a0g, a0h, a0i, zs0j.take len0j, zs0k.take len0k⟩ a0j len0j cap0j a0k len0k cap0k w r9.length hs9 his
    have cr := fun w => refBuild_bad ⟨a0a, a0b, a0c, a0d, a0e, a0f, a0g, a0h, a0i, zs0j.take len0j, zs0k.take len0k⟩ a0j len0j cap0j a0k len0k cap0k w r9.length hs9 his
    have sn := fun w' => (bytes_nil w').conv 0 w' (Ext.refl _)
    generalize strOfNums [] = SN at *
    clear his f hlong hlonq
    dsimp only at *
    go_enter Try.func4, Try.ntmps4
    go_wp2_with (first
      | (go_at_call 17; clear tok1; refine (cl _).mono ?_; rintro e w1 ⟨rfl, hx1⟩) | (go_at_call 17; refine (cq _).mono ?_; rintro e w2 ⟨rfl, hx2⟩; have hx12 := hx1.trans hx2; have hy2 := hx0.trans hx12)
      | (go_at_call 18; refine (cb _).mono ?_; rintro e w3 ⟨rfl, hx3⟩; have hx03 := hx12.trans hx3)
      | (go_at_call 19; refine (cr _).mono ?_; rintro e w4 ⟨rfl, hx4⟩; have hx04 := hx03.trans hx4))
    have hX : Ext ((w.alloc (.cells #[.int .i64 a0a, .int .i64 a0b, .bool a0c, .bool a0d, .int .i64 a0e, .int .i64 a0f, .int .i64 a0g, .int .u32 a0h, .int .u32 a0i, .slice a0j len0j cap0j, .slice a0k len0k cap0k] 25)).alloc (.cells #[.int .i64 a1a, .int .i64 a1b, .bool a1c, .bool a1d, .int .i64 a1e, .int .i64 a1f, .int .i64 a1g, .int .u32 a1h, .int .u32 a1i, .slice a1j len1j cap1j, .slice a1k len1k cap1k] 25)) w4.drew := hx04.drew
    have hYX := hx0.trans hX
    replace x0 := fun w' h => x0 w' (hX.trans h)
    replace x1 := fun w' h => x1 w' (hX.trans h)
    replace x2 := fun w' h => x2 w' (hX.trans h)
    replace x3 := fun w' h => x3 w' (hX.trans h)
    replace x4 := fun w' h => x4 w' (hX.trans h)
    replace x5 := fun w' h => x5 w' (hX.trans h)
    replace x6 := fun w' h => x6 w' (hX.trans h)
    replace x7 := fun w' h => x7 w' (hX.trans h)
    replace x8 := fun w' h => x8 w' (hX.trans h)
    replace x9 := fun w' h => x9 w' (hX.trans h)
    replace xa := fun w' h => xa w' (hX.trans h)
    replace y0 := fun w' h => y0 w' (hX.trans h)
    replace y1 := fun w' h => y1 w' (hX.trans h)
    replace y2 := fun w' h => y2 w' (hX.trans h)
    replace y3 := fun w' h => y3 w' (hX.trans h)
    replace y4 := fun w' h => y4 w' (hX.trans h)
    replace y5 := fun w' h => y5 w' (hX.trans h)
    replace y6 := fun w' h => y6 w' (hX.trans h)
    replace y7 := fun w' h => y7 w' (hX.trans h)
    replace y8 := fun w' h => y8 w' (hX.trans h)
    replace y9 := fun w' h => y9 w' (hX.trans h)
    replace ya := fun w' h => ya w' (hX.trans h)
    refine wp_region_eager [(0, false), (1, false), (2, false), (3, false), (4, false), (5, false), (6, false), (7, false), (8, false), (9, false), (10, false), (11, false), (12, false), (14, false), (15, false), (13, true), (16, true), (17, false), (18, false), (19, false), (20, false), (21, false), (22, true), (23, false), (24, false), (25, true), (26, false), (27, false)] (by kernel_rfl) (by kernel_rfl) rfl (by kernel_rfl) (fun _ _ _ _ _ h => h) ?_
    generalize ((w.alloc (.cells #[.int .i64 a0a, .int .i64 a0b, .bool a0c, .bool a0d, .int .i64 a0e, .int .i64 a0f, .int .i64 a0g, .int .u32 a0h, .int .u32 a0i, .slice a0j len0j cap0j, .slice a0k len0k cap0k] 25)).alloc (.cells #[.int .i64 a1a, .int .i64 a1b, .bool a1c, .bool a1d, .int .i64 a1e, .int .i64 a1f, .int .i64 a1g, .int .u32 a1h, .int .u32 a1i, .slice a1j len1j cap1j, .slice a1k len1k cap1k] 25)) = W0 at *
    generalize w4.drew = V at *
    repeat (first
      | (refine wpE_read (v := ?_) rfl (by rfl) ?_ ?_; rotate_left; (focus (intro w' hx; go_simp; first | done | with_reducible rfl)); simp only [Act.put, List.setIfInBounds_toArray, List.set_cons_zero, List.set_cons_succ])
      | (refine wpE_call rfl (by rfl) (fun K hK => ?_); go_simp; first
          | (go_at_call 20; clear tok2; refine (c5 _ (r9.below hYX) (ra.below hYX) (s9.below hYX) (sa.below hYX)).mono ?_; rintro e w5 ⟨rfl, hx5⟩; refine hK _ _ hx5 ?_; clear hK K; replace hYX := hYX.trans hx5; replace x0 := fun w' h => x0 w' (hx5.trans h); replace x1 := fun w' h => x1 w' (hx5.trans h); replace x2 := fun w' h => x2 w' (hx5.trans h); replace x3 := fun w' h => x3 w' (hx5.trans h); replace x4 := fun w' h => x4 w' (hx5.trans h); replace x5 := fun w' h => x5 w' (hx5.trans h); replace x6 := fun w' h => x6 w' (hx5.trans h); replace x7 := fun w' h => x7 w' (hx5.trans h); replace x8 := fun w' h => x8 w' (hx5.trans h); replace x9 := fun w' h => x9 w' (hx5.trans h); replace xa := fun w' h => xa w' (hx5.trans h); replace y0 := fun w' h => y0 w' (hx5.trans h); replace y1 := fun w' h => y1 w' (hx5.trans h); replace y2 := fun w' h => y2 w' (hx5.trans h); replace y3 := fun w' h => y3 w' (hx5.trans h); replace y4 := fun w' h => y4 w' (hx5.trans h); replace y5 := fun w' h => y5 w' (hx5.trans h); replace y6 := fun w' h => y6 w' (hx5.trans h); replace y7 := fun w' h => y7 w' (hx5.trans h); replace y8 := fun w' h => y8 w' (hx5.trans h); replace y9 := fun w' h => y9 w' (hx5.trans h); replace ya := fun w' h => ya w' (hx5.trans h))
          | (go_at_call 13; refine (c6 _ (r9.below hYX) (ra.below hYX) (s9.below hYX) (sa.below hYX)).mono ?_; rintro e w6 ⟨rfl, hx6⟩; refine hK _ _ hx6 ?_; clear hK K; replace hYX := hYX.trans hx6; replace x0 := fun w' h => x0 w' (hx6.trans h); replace x1 := fun w' h => x1 w' (hx6.trans h); replace x2 := fun w' h => x2 w' (hx6.trans h); replace x3 := fun w' h => x3 w' (hx6.trans h); replace x4 := fun w' h => x4 w' (hx6.trans h); replace x5 := fun w' h => x5 w' (hx6.trans h); replace x6 := fun w' h => x6 w' (hx6.trans h); replace x7 := fun w' h => x7 w' (hx6.trans h); replace x8 := fun w' h => x8 w' (hx6.trans h); replace x9 := fun w' h => x9 w' (hx6.trans h); replace xa := fun w' h => xa w' (hx6.trans h); replace y0 := fun w' h => y0 w' (hx6.trans h); replace y1 := fun w' h => y1 w' (hx6.trans h); replace y2 := fun w' h => y2 w' (hx6.trans h); replace y3 := fun w' h => y3 w' (hx6.trans h); replace y4 := fun w' h => y4 w' (hx6.trans h); replace y5 := fun w' h => y5 w' (hx6.trans h); replace y6 := fun w' h => y6 w' (hx6.trans h); replace y7 := fun w' h => y7 w' (hx6.trans h); replace y8 := fun w' h => y8 w' (hx6.trans h); replace y9 := fun w' h => y9 w' (hx6.trans h); replace ya := fun w' h => ya w' (hx6.trans h))
          | (go_at_call 20; refine (c7 _ (r9.below hYX) (ra.below hYX) (r9.below hYX) (ra.below hYX)).mono ?_; rintro e w7 ⟨rfl, hx7⟩; refine hK _ _ hx7 ?_; clear hK K; replace hYX := hYX.trans hx7)
          | (go_at_call 16; refine (ipKnown_any _).mono ?_; rintro e w8 ⟨rfl, hx8⟩; refine hK _ _ hx8 ?_; clear hK K; replace hYX := hYX.trans hx8)))
    refine wpE_done ?_
    go_wp2
    go_ret
    exact ⟨rfl, hYX⟩
  have hp := (isV_iff _).1 his
  obtain ⟨N, hN⟩ : ∃ N, 20 + len0j + len0k = N := ⟨_, rfl⟩
  have cb := fun w h h' => build_is ⟨a0a, a0b, a0c, a0d, a0e, a0f, a0g, a0h, a0i, zs0j.take len0j, zs0k.take len0k⟩ a0j len0j cap0j a0k len0k cap0k w h z9 h' za f hp (by omega) N hN
  have cr := fun w h h' => refBuild_good ⟨a0a, a0b, a0c, a0d, a0e, a0f, a0g, a0h, a0i, zs0j.take len0j, zs0k.take len0k⟩ a0j len0j cap0j a0k len0k cap0k w h z9 h' za f hp (by omega)
  rw [hN] at cr
  have HR : Hid (∀ w e w', RefBuildAns w ⟨a0a, a0b, a0c, a0d, a0e, a0f, a0g, a0h, a0i, zs0j.take len0j, zs0k.take len0k⟩ N e w' → ∃ q c, e = .returned (.tuple #[.slice q N c, .int .i64 0]) ∧ Bytes w' q N (buildV ⟨a0a, a0b, a0c, a0d, a0e, a0f, a0g, a0h, a0i, zs0j.take len0j, zs0k.take len0k⟩) ∧ Ext w w') := fun w e w' h => h
  have okY := build_ok f hp
  generalize buildV ⟨a0a, a0b, a0c, a0d, a0e, a0f, a0g, a0h, a0i, zs0j.take len0j, zs0k.take len0k⟩ = Y at *
  clear his f hlong hlonq hp hN
  dsimp only at *
  go_enter Try.func4, Try.ntmps4
  go_wp2_with (first
    | (go_at_call 17; clear tok1; refine (cl _).mono ?_; rintro e w1 ⟨rfl, hx1⟩) | (go_at_call 17; refine (cq _).mono ?_; rintro e w2 ⟨rfl, hx2⟩; have hx12 := hx1.trans hx2; have hy2 := hx0.trans hx12)
    | (go_at_call 18; refine (cb _ (r9.below hy2) (ra.below hy2)).mono ?_; rintro e w3 ⟨q3, c3, rfl, ho3, hx3⟩; obtain ⟨hb3, _, _⟩ := owns_slice ho3 okY; clear ho3; have hx03 := hx12.trans hx3; have hy3 := hy2.trans hx3)
    | (go_at_call 19; refine (cr _ (r9.below hy3) (ra.below hy3)).mono ?_; intro e w4 hRd; obtain ⟨q4, c4, rfl, hb4, hx4⟩ := HR.out _ _ _ hRd; clear hRd; have hx04 := hx03.trans hx4))
  have hX : Ext ((w.alloc (.cells #[.int .i64 a0a, .int .i64 a0b, .bool a0c, .bool a0d, .int .i64 a0e, .int .i64 a0f, .int .i64 a0g, .int .u32 a0h, .int .u32 a0i, .slice a0j len0j cap0j, .slice a0k len0k cap0k] 25)).alloc (.cells #[.int .i64 a1a, .int .i64 a1b, .bool a1c, .bool a1d, .int .i64 a1e, .int .i64 a1f, .int .i64 a1g, .int .u32 a1h, .int .u32 a1i, .slice a1j len1j cap1j, .slice a1k len1k cap1k] 25)) w4.drew := hx04.drew
  have hYX := hx0.trans hX
  have sA := (hb3.below (hx4.drew)).conv c3
  have sB := (hb4.below ((Ext.refl w4).drew)).conv c4
  generalize strOfNums Y = SY at *
  replace x0 := fun w' h => x0 w' (hX.trans h)
  replace x1 := fun w' h => x1 w' (hX.trans h)
  replace x2 := fun w' h => x2 w' (hX.trans h)
  replace x3 := fun w' h => x3 w' (hX.trans h)
  replace x4 := fun w' h => x4 w' (hX.trans h)
  replace x5 := fun w' h => x5 w' (hX.trans h)
  replace x6 := fun w' h => x6 w' (hX.trans h)
  replace x7 := fun w' h => x7 w' (hX.trans h)
  replace x8 := fun w' h => x8 w' (hX.trans h)
  replace x9 := fun w' h => x9 w' (hX.trans h)
  replace xa := fun w' h => xa w' (hX.trans h)
  replace y0 := fun w' h => y0 w' (hX.trans h)
  replace y1 := fun w' h => y1 w' (hX.trans h)
  replace y2 := fun w' h => y2 w' (hX.trans h)
  replace y3 := fun w' h => y3 w' (hX.trans h)
  replace y4 := fun w' h => y4 w' (hX.trans h)
  replace y5 := fun w' h => y5 w' (hX.trans h)
  replace y6 := fun w' h => y6 w' (hX.trans h)
  replace y7 := fun w' h => y7 w' (hX.trans h)
  replace y8 := fun w' h => y8 w' (hX.trans h)
  replace y9 := fun w' h => y9 w' (hX.trans h)
  replace ya := fun w' h => ya w' (hX.trans h)
  refine wp_region_eager [(0, false), (1, false), (2, false), (3, false), (4, false), (5, false), (6, false), (7, false), (8, false), (9, false), (10, false), (11, false), (12, false), (14, false), (15, false), (13, true), (16, true), (17, false), (18, false), (19, false), (20, false), (21, false), (22, true), (23, false), (24, false), (25, true), (26, false), (27, false)] (by kernel_rfl) (by kernel_rfl) rfl (by kernel_rfl) (fun _ _ _ _ _ h => h) ?_
  generalize ((w.alloc (.cells #[.int .i64 a0a, .int .i64 a0b, .bool a0c, .bool a0d, .int .i64 a0e, .int .i64 a0f, .int .i64 a0g, .int .u32 a0h, .int .u32 a0i, .slice a0j len0j cap0j, .slice a0k len0k cap0k] 25)).alloc (.cells #[.int .i64 a1a, .int .i64 a1b, .bool a1c, .bool a1d, .int .i64 a1e, .int .i64 a1f, .int .i64 a1g, .int .u32 a1h, .int .u32 a1i, .slice a1j len1j cap1j, .slice a1k len1k cap1k] 25)) = W0 at *
  generalize w4.drew = V at *
  repeat (first
    | (refine wpE_read (v := ?_) rfl (by rfl) ?_ ?_; rotate_left; (focus (intro w' hx; go_simp; first | done | with_reducible rfl)); simp only [Act.put, List.setIfInBounds_toArray, List.set_cons_zero, List.set_cons_succ])
    | (refine wpE_call rfl (by rfl) (fun K hK => ?_); go_simp; first
        | (go_at_call 20; clear tok2; refine (c5 _ (r9.below hYX) (ra.below hYX) (s9.below hYX) (sa.below hYX)).mono ?_; rintro e w5 ⟨rfl, hx5⟩; refine hK _ _ hx5 ?_; clear hK K; replace hYX := hYX.trans hx5; replace x0 := fun w' h => x0 w' (hx5.trans h); replace x1 := fun w' h => x1 w' (hx5.trans h); replace x2 := fun w' h => x2 w' (hx5.trans h); replace x3 := fun w' h => x3 w' (hx5.trans h); replace x4 := fun w' h => x4 w' (hx5.trans h); replace x5 := fun w' h => x5 w' (hx5.trans h); replace x6 := fun w' h => x6 w' (hx5.trans h); replace x7 := fun w' h => x7 w' (hx5.trans h); replace x8 := fun w' h => x8 w' (hx5.trans h); replace x9 := fun w' h => x9 w' (hx5.trans h); replace xa := fun w' h => xa w' (hx5.trans h); replace y0 := fun w' h => y0 w' (hx5.trans h); replace y1 := fun w' h => y1 w' (hx5.trans h); replace y2 := fun w' h => y2 w' (hx5.trans h); replace y3 := fun w' h => y3 w' (hx5.trans h); replace y4 := fun w' h => y4 w' (hx5.trans h); replace y5 := fun w' h => y5 w' (hx5.trans h); replace y6 := fun w' h => y6 w' (hx5.trans h); replace y7 := fun w' h => y7 w' (hx5.trans h); replace y8 := fun w' h => y8 w' (hx5.trans h); replace y9 := fun w' h => y9 w' (hx5.trans h); replace ya := fun w' h => ya w' (hx5.trans h))
        | (go_at_call 13; refine (c6 _ (r9.below hYX) (ra.below hYX) (s9.below hYX) (sa.below hYX)).mono ?_; rintro e w6 ⟨rfl, hx6⟩; refine hK _ _ hx6 ?_; clear hK K; replace hYX := hYX.trans hx6; replace x0 := fun w' h => x0 w' (hx6.trans h); replace x1 := fun w' h => x1 w' (hx6.trans h); replace x2 := fun w' h => x2 w' (hx6.trans h); replace x3 := fun w' h => x3 w' (hx6.trans h); replace x4 := fun w' h => x4 w' (hx6.trans h); replace x5 := fun w' h => x5 w' (hx6.trans h); replace x6 := fun w' h => x6 w' (hx6.trans h); replace x7 := fun w' h => x7 w' (hx6.trans h); replace x8 := fun w' h => x8 w' (hx6.trans h); replace x9 := fun w' h => x9 w' (hx6.trans h); replace xa := fun w' h => xa w' (hx6.trans h); replace y0 := fun w' h => y0 w' (hx6.trans h); replace y1 := fun w' h => y1 w' (hx6.trans h); replace y2 := fun w' h => y2 w' (hx6.trans h); replace y3 := fun w' h => y3 w' (hx6.trans h); replace y4 := fun w' h => y4 w' (hx6.trans h); replace y5 := fun w' h => y5 w' (hx6.trans h); replace y6 := fun w' h => y6 w' (hx6.trans h); replace y7 := fun w' h => y7 w' (hx6.trans h); replace y8 := fun w' h => y8 w' (hx6.trans h); replace y9 := fun w' h => y9 w' (hx6.trans h); replace ya := fun w' h => ya w' (hx6.trans h))
        | (go_at_call 20; refine (c7 _ (r9.below hYX) (ra.below hYX) (r9.below hYX) (ra.below hYX)).mono ?_; rintro e w7 ⟨rfl, hx7⟩; refine hK _ _ hx7 ?_; clear hK K; replace hYX := hYX.trans hx7)
        | (go_at_call 16; refine (ipKnown_any _).mono ?_; rintro e w8 ⟨rfl, hx8⟩; refine hK _ _ hx8 ?_; clear hK K; replace hYX := hYX.trans hx8)))
  refine wpE_done ?_
  go_wp2
  go_ret
  exact ⟨rfl, hYX⟩

theorem contract (H : Type) (enc : TypeId × Value → H) (W : World) (base : Nat) (args : Array Value) (ds gs : List (DataW H)) (before : List MemPlace)
    (hval : ∀ (j : Nat) t v, Try.f4.params[j]? = some t → args[j]? = some v → Value.okWide Try.prog W .any base t v)
    (hW : DataW.Whole enc Try.prog Try.f4.params.toList Rows.ipBuildsSpec.vars false W args.toList ds gs before) (hsh : W.ShapedOpen Try.prog) :
    Calls Try.prog 4 args W fun e W' => ∃ v, e = .returned v ∧ Rows.ipBuildsSpec.post enc Try.prog Try.f4 false true false false W args v W' := by
  have hW' := hW
  obtain ⟨p, q, hA0, hV, rfl, hfz, hnd⟩ := hW
  have hA : DataW.TrodAll enc Try.prog W 0 (fun _ => true) true Try.f4.params.toList args.toList ds p := hA0
  rw [Try.params4] at hA hval
  obtain ⟨v0, vs0, d0, ds0, p0, q0, hargs, rfl, rfl, h0, r0⟩ := trodAll_cons hA
  obtain ⟨v1, vs1, d1, ds1, p1, q1, rfl, rfl, rfl, h1, r1⟩ := trodAll_cons r0
  obtain ⟨rfl, rfl, rfl⟩ := trodAll_nil r1
  obtain rfl : args = #[v0, v1] := by cases args; simp_all
  obtain ⟨rfl, rfl⟩ := trodVars_none hV
  have k0 := h0
  have lt0 : ∀ x ∈ p0, x.block < W.heap.size := by obtain ⟨m, hm⟩ := k0; exact DataW.trod_lt m _ _ _ hm
  obtain ⟨cs0, rfl, hs0⟩ := okWide_struct Try.underlying25 (hval 0 25 v0 rfl rfl)
  obtain ⟨u0a, u0b, u0c, u0d, u0e, u0f, u0g, u0h, u0i, u0j, u0k, rfl⟩ := arr11 (hs0.trans (by kernel_rfl))
  obtain ⟨fu0, hf0⟩ := h0
  obtain ⟨_, _, e1⟩ := field_at Try.underlying25 hf0 0 rfl 1 (by kernel_rfl)
  obtain ⟨a0a, c2, _, w0a⟩ := DataW.trod_int Try.underlying3 e1
  obtain rfl : u0a = .int .i64 a0a := by simpa [Value.cells] using c2
  obtain ⟨_, _, e3⟩ := field_at Try.underlying25 hf0 1 rfl 1 (by kernel_rfl)
  obtain ⟨a0b, c4, _, w0b⟩ := DataW.trod_int Try.underlying3 e3
  obtain rfl : u0b = .int .i64 a0b := by simpa [Value.cells] using c4
  obtain ⟨_, _, e5⟩ := field_at Try.underlying25 hf0 2 rfl 1 (by kernel_rfl)
  obtain ⟨a0c, c6, _⟩ := DataW.trod_bool Try.underlying4 e5
  obtain rfl : u0c = .bool a0c := by simpa [Value.cells] using c6
  obtain ⟨_, _, e7⟩ := field_at Try.underlying25 hf0 3 rfl 1 (by kernel_rfl)
  obtain ⟨a0d, c8, _⟩ := DataW.trod_bool Try.underlying4 e7
  obtain rfl : u0d = .bool a0d := by simpa [Value.cells] using c8
  obtain ⟨_, _, e9⟩ := field_at Try.underlying25 hf0 4 rfl 1 (by kernel_rfl)
  obtain ⟨a0e, c10, _, w0e⟩ := DataW.trod_int Try.underlying3 e9
  obtain rfl : u0e = .int .i64 a0e := by simpa [Value.cells] using c10
  obtain ⟨_, _, e11⟩ := field_at Try.underlying25 hf0 5 rfl 1 (by kernel_rfl)
  obtain ⟨a0f, c12, _, w0f⟩ := DataW.trod_int Try.underlying3 e11
  obtain rfl : u0f = .int .i64 a0f := by simpa [Value.cells] using c12
  obtain ⟨_, _, e13⟩ := field_at Try.underlying25 hf0 6 rfl 1 (by kernel_rfl)
  obtain ⟨a0g, c14, _, w0g⟩ := DataW.trod_int Try.underlying3 e13
  obtain rfl : u0g = .int .i64 a0g := by simpa [Value.cells] using c14
  obtain ⟨_, _, e15⟩ := field_at Try.underlying25 hf0 7 rfl 1 (by kernel_rfl)
  obtain ⟨a0h, c16, _, w0h⟩ := DataW.trod_int Try.underlying23 e15
  obtain rfl : u0h = .int .u32 a0h := by simpa [Value.cells] using c16
  obtain ⟨_, _, e17⟩ := field_at Try.underlying25 hf0 8 rfl 1 (by kernel_rfl)
  obtain ⟨a0i, c18, _, w0i⟩ := DataW.trod_int Try.underlying23 e17
  obtain rfl : u0i = .int .u32 a0i := by simpa [Value.cells] using c18
  obtain ⟨_, _, e19⟩ := field_at Try.underlying25 hf0 9 rfl 1 (by kernel_rfl)
  obtain ⟨a0j, len0j, cap0j, zs0j, c20, row0j⟩ := open_rowI Try.underlying22 Try.underlying5 (by kernel_rfl) (fun _ => rfl) e19
  obtain rfl : u0j = .slice a0j len0j cap0j := by simpa [Value.cells] using c20
  obtain ⟨_, _, e21⟩ := field_at Try.underlying25 hf0 10 rfl 1 (by kernel_rfl)
  obtain ⟨a0k, len0k, cap0k, zs0k, c22, row0k⟩ := open_rowI Try.underlying22 Try.underlying5 (by kernel_rfl) (fun _ => rfl) e21
  obtain rfl : u0k = .slice a0k len0k cap0k := by simpa [Value.cells] using c22
  have k1 := h1
  have lt1 : ∀ x ∈ p1, x.block < W.heap.size := by obtain ⟨m, hm⟩ := k1; exact DataW.trod_lt m _ _ _ hm
  obtain ⟨cs1, rfl, hs1⟩ := okWide_struct Try.underlying25 (hval 1 25 v1 rfl rfl)
  obtain ⟨u1a, u1b, u1c, u1d, u1e, u1f, u1g, u1h, u1i, u1j, u1k, rfl⟩ := arr11 (hs1.trans (by kernel_rfl))
  obtain ⟨fu1, hf1⟩ := h1
  obtain ⟨_, _, e23⟩ := field_at Try.underlying25 hf1 0 rfl 1 (by kernel_rfl)
  obtain ⟨a1a, c24, _, w1a⟩ := DataW.trod_int Try.underlying3 e23
  obtain rfl : u1a = .int .i64 a1a := by simpa [Value.cells] using c24
  obtain ⟨_, _, e25⟩ := field_at Try.underlying25 hf1 1 rfl 1 (by kernel_rfl)
  obtain ⟨a1b, c26, _, w1b⟩ := DataW.trod_int Try.underlying3 e25
  obtain rfl : u1b = .int .i64 a1b := by simpa [Value.cells] using c26
  obtain ⟨_, _, e27⟩ := field_at Try.underlying25 hf1 2 rfl 1 (by kernel_rfl)
  obtain ⟨a1c, c28, _⟩ := DataW.trod_bool Try.underlying4 e27
  obtain rfl : u1c = .bool a1c := by simpa [Value.cells] using c28
  obtain ⟨_, _, e29⟩ := field_at Try.underlying25 hf1 3 rfl 1 (by kernel_rfl)
  obtain ⟨a1d, c30, _⟩ := DataW.trod_bool Try.underlying4 e29
  obtain rfl : u1d = .bool a1d := by simpa [Value.cells] using c30
  obtain ⟨_, _, e31⟩ := field_at Try.underlying25 hf1 4 rfl 1 (by kernel_rfl)
  obtain ⟨a1e, c32, _, w1e⟩ := DataW.trod_int Try.underlying3 e31
  obtain rfl : u1e = .int .i64 a1e := by simpa [Value.cells] using c32
  obtain ⟨_, _, e33⟩ := field_at Try.underlying25 hf1 5 rfl 1 (by kernel_rfl)
  obtain ⟨a1f, c34, _, w1f⟩ := DataW.trod_int Try.underlying3 e33
  obtain rfl : u1f = .int .i64 a1f := by simpa [Value.cells] using c34
  obtain ⟨_, _, e35⟩ := field_at Try.underlying25 hf1 6 rfl 1 (by kernel_rfl)
  obtain ⟨a1g, c36, _, w1g⟩ := DataW.trod_int Try.underlying3 e35
  obtain rfl : u1g = .int .i64 a1g := by simpa [Value.cells] using c36
  obtain ⟨_, _, e37⟩ := field_at Try.underlying25 hf1 7 rfl 1 (by kernel_rfl)
  obtain ⟨a1h, c38, _, w1h⟩ := DataW.trod_int Try.underlying23 e37
  obtain rfl : u1h = .int .u32 a1h := by simpa [Value.cells] using c38
  obtain ⟨_, _, e39⟩ := field_at Try.underlying25 hf1 8 rfl 1 (by kernel_rfl)
  obtain ⟨a1i, c40, _, w1i⟩ := DataW.trod_int Try.underlying23 e39
  obtain rfl : u1i = .int .u32 a1i := by simpa [Value.cells] using c40
  obtain ⟨_, _, e41⟩ := field_at Try.underlying25 hf1 9 rfl 1 (by kernel_rfl)
  obtain ⟨a1j, len1j, cap1j, zs1j, c42, row1j⟩ := open_rowI Try.underlying22 Try.underlying5 (by kernel_rfl) (fun _ => rfl) e41
  obtain rfl : u1j = .slice a1j len1j cap1j := by simpa [Value.cells] using c42
  obtain ⟨_, _, e43⟩ := field_at Try.underlying25 hf1 10 rfl 1 (by kernel_rfl)
  obtain ⟨a1k, len1k, cap1k, zs1k, c44, row1k⟩ := open_rowI Try.underlying22 Try.underlying5 (by kernel_rfl) (fun _ => rfl) e43
  obtain rfl : u1k = .slice a1k len1k cap1k := by simpa [Value.cells] using c44
  clear hA0
  refine (walk a0a a0b a0c a0d a0e a0f a0g a0h a0i a0j len0j cap0j zs0j a0k len0k cap0k zs0k a1a a1b a1c a1d a1e a1f a1g a1h a1i a1j len1j cap1j zs1j a1k len1k cap1k zs1k W w0a w0b w0e w0f w0g w0h w0i row0j row0k w1a w1b w1e w1f w1g w1h w1i row1j row1k hsh).mono fun e W' ⟨he, bel⟩ => ?_
  subst he
  exact ⟨_, rfl, _, _, _, [], _, [], hW', trodAll_mk1 (shut_bool Try.underlying4 _), (trodAll_cons_mk (Below.trod laidOut (by kernel_rfl) (of_decide_eq_true (by kernel_rfl)) k0 bel lt0) (trodAll_cons_mk (Below.trod laidOut (by kernel_rfl) (of_decide_eq_true (by kernel_rfl)) k1 bel lt1) trodAll_mk0)), rfl, bel.frame _, fun h => by cases h⟩

theorem laid_met (os : Os) : laidMet Try.prog Rows.ipBuildsRow.laid ((World.doorLaid Try.prog 24 os).forCall (fun _ _ => 0) ⟨#[], #[.agg #[.int .i64 0, .int .i64 0, .bool false, .bool false, .int .i64 0, .int .i64 0, .int .i64 0, .int .u32 0, .int .u32 0, .slice none 0 0, .slice none 0 0], .agg #[.int .i64 0, .int .i64 0, .bool false, .bool false, .int .i64 0, .int .i64 0, .int .i64 0, .int .u32 0, .int .u32 0, .slice none 0 0, .slice none 0 0]], []⟩).memory :=
  laidMet_of_run' 8 (by kernel_rfl) (by kernel_rfl)
theorem reads (os : Os) {H : Type} (enc : TypeId × Value → H) : ∃ places, DataW.whole enc Try.prog ((World.doorLaid Try.prog 24 os).forCall (fun _ _ => 0) ⟨#[], #[.agg #[.int .i64 0, .int .i64 0, .bool false, .bool false, .int .i64 0, .int .i64 0, .int .i64 0, .int .u32 0, .int .u32 0, .slice none 0 0, .slice none 0 0], .agg #[.int .i64 0, .int .i64 0, .bool false, .bool false, .int .i64 0, .int .i64 0, .int .i64 0, .int .u32 0, .int .u32 0, .slice none 0 0, .slice none 0 0]], []⟩).memory Try.f4.params.toList Rows.ipBuildsSpec.vars false (#[.agg #[.int .i64 0, .int .i64 0, .bool false, .bool false, .int .i64 0, .int .i64 0, .int .i64 0, .int .u32 0, .int .u32 0, .slice none 0 0, .slice none 0 0], .agg #[.int .i64 0, .int .i64 0, .bool false, .bool false, .int .i64 0, .int .i64 0, .int .i64 0, .int .u32 0, .int .u32 0, .slice none 0 0, .slice none 0 0]] : Array Value).toList 8 = some ([.agg [.lit (.int .i64 0), .lit (.int .i64 0), .lit (.bool false), .lit (.bool false), .lit (.int .i64 0), .lit (.int .i64 0), .lit (.int .i64 0), .lit (.int .u32 0), .lit (.int .u32 0), .nil, .nil], .agg [.lit (.int .i64 0), .lit (.int .i64 0), .lit (.bool false), .lit (.bool false), .lit (.int .i64 0), .lit (.int .i64 0), .lit (.int .i64 0), .lit (.int .u32 0), .lit (.int .u32 0), .nil, .nil]], [], places) :=
  ⟨[], by kernel_rfl⟩

set_option maxRecDepth 100000 in
theorem lifted (os : Os) (started : os.Started) (H : Type) (enc : TypeId × Value → H) (F : Stop.Interp) :
    ReturnsInHanded {} Try.checked os 4 .any ((OpenSpec.ofChange Rows.ipBuildsSpec).preRow enc Try.prog Try.f4 Rows.ipBuildsRow.domain false Rows.ipBuildsRow.laid) (((OpenSpec.ofChange Rows.ipBuildsSpec).at F).post enc Try.prog Try.f4 false true false false) := by
  obtain ⟨places, hx⟩ := reads os enc
  refine returnsInHanded_of_row (C := Try.checked) (s := (OpenSpec.ofChange Rows.ipBuildsSpec)) own started (by kernel_rfl) Try.func4
    (witness_row_at (enc := enc) (C := Try.checked) false (World.doorLaid Try.prog 24 os) #[.agg #[.int .i64 0, .int .i64 0, .bool false, .bool false, .int .i64 0, .int .i64 0, .int .i64 0, .int .u32 0, .int .u32 0, .slice none 0 0, .slice none 0 0], .agg #[.int .i64 0, .int .i64 0, .bool false, .bool false, .int .i64 0, .int .i64 0, .int .i64 0, .int .u32 0, .int .u32 0, .slice none 0 0, .slice none 0 0]] rfl (by kernel_rfl) (by kernel_rfl) (by kernel_rfl)
      (OpenSpec.preRow_of_cond 8 hx (by kernel_rfl) (fun k hk => by cases hk) (by kernel_rfl) (laid_met os))) ?_
  intro W base args ds gs before hval hW _ hcond _ hL hsh _
  exact contract H enc W base args ds gs before hval hW hsh

theorem said : Rows.IpBuildsSaid :=
  OpenClaim.holds_of_cond 4 Try.f4 rfl rfl rfl rfl rfl rfl rfl ⟨rfl, rfl, rfl, rfl, rfl⟩ rfl rfl rfl rfl rfl (by kernel_rfl) Try.func4 (by kernel_rfl)
    (of_decide_eq_true (by kernel_rfl)) (by unfold Func.isWrapper; first | (rw [if_pos (by decide +kernel)]; kernel_rfl) | (rw [if_neg (by decide +kernel)]; exact ⟨rfl, rfl⟩))
    (fun os started H enc _ F => by rw [OpenClaim.pre_eq_preRow]; exact lifted os started H enc F)

end Go.Proofs.Ytlfjbmjincffoaa.ipBuilds

namespace Go.Proofs.Ytlfjbmjincffoaa
theorem ipBuilds_holds : Rows.IpBuildsSaid := ipBuilds.said
#print axioms ipBuilds_holds
end Go.Proofs.Ytlfjbmjincffoaa
