/- For every packet and every number, the law IpBounds returns true: what does not go into its place is refused; no condition. -/
import Derived.Test.YtlfjbmjincffoaaRows
import Derived.Test.YtlfjbmjincffoaaFrame
import Derived.Test.YtlfjbmjincffoaaIp6
import Derived.Test.YtlfjbmjincffoaaFrame
import Derived.WalkKit
import Derived.ProofKit
import Derived.OpenShut
import Derived.ShutString
import Derived.ChangeOld
import Derived.Deep.DeepHandedRow
import Derived.Lib.LaidTab
import Derived.Lib.SmallJoins
import Derived.LaidMore
import Derived.Stop.LaidErr
import Derived.ChangeMaps5
namespace Go.Proofs.Ytlfjbmjincffoaa.ipBounds
open Go.ChangeShapes Go.WideShapes Go.ChangeAt Go.RowKit Go.ChangeMaps
set_option linter.unusedVariables false

theorem own : ownKnob Try.prog.godebug = none := by kernel_rfl
theorem laidOut : laidOutB Try.prog = true := by kernel_rfl

theorem arr11 {α : Type} {cs : Array α} (h : cs.size = 11) : ∃ c0 c1 c2 c3 c4 c5 c6 c7 c8 c9 c10, cs = #[c0, c1, c2, c3, c4, c5, c6, c7, c8, c9, c10] := by
  obtain ⟨l⟩ := cs
  match l, h with
  | [c0, c1, c2, c3, c4, c5, c6, c7, c8, c9, c10], _ => exact ⟨c0, c1, c2, c3, c4, c5, c6, c7, c8, c9, c10, rfl⟩

set_option maxHeartbeats 4000000 in
theorem walk (a0a : Int) (a0b : Int) (a0c : Bool) (a0d : Bool) (a0e : Int) (a0f : Int) (a0g : Int) (a0h : Int) (a0i : Int) (a0j : Option Addr) (len0j cap0j : Nat) (zs0j : List Int) (a0k : Option Addr) (len0k cap0k : Nat) (zs0k : List Int) (a1 : Int) (w : World) (w0a : (Lit.int .i64 a0a).wf = true) (w0b : (Lit.int .i64 a0b).wf = true) (w0e : (Lit.int .i64 a0e).wf = true) (w0f : (Lit.int .i64 a0f).wf = true) (w0g : (Lit.int .i64 a0g).wf = true) (w0h : (Lit.int .u32 a0h).wf = true) (w0i : (Lit.int .u32 a0i).wf = true) (row0j : IsRow .u8 w a0j len0j cap0j zs0j) (row0k : IsRow .u8 w a0k len0k cap0k zs0k) (w1 : (Lit.int .i64 a1).wf = true) (hsh : w.ShapedOpen Try.prog) :
    Calls Try.prog 10 #[.agg #[.int .i64 a0a, .int .i64 a0b, .bool a0c, .bool a0d, .int .i64 a0e, .int .i64 a0f, .int .i64 a0g, .int .u32 a0h, .int .u32 a0i, .slice a0j len0j cap0j, .slice a0k len0k cap0k], .int .i64 a1] w fun e w' => e = .returned (.bool true) ∧ Below w.heap.size w w' := by
  have r9 := row0j.bytes
  have z9 := row0j.nil_cap
  have ra := row0k.bytes
  have za := row0k.nil_cap
  have hs9 := r9.small
  have bh := bounds_u32 w0h
  have bi := bounds_u32 w0i
  have f : Fine ⟨a0a, a0b, a0c, a0d, a0e, a0f, a0g, a0h, a0i, zs0j.take len0j, zs0k.take len0k⟩ := ⟨bh.1, bh.2, bi.1, bi.2, r9.ok, ra.ok⟩
  have cl := fun w => long_any ⟨a0a, a0b, a0c, a0d, a0e, a0f, a0g, a0h, a0i, zs0j.take len0j, zs0k.take len0k⟩ a0j len0j cap0j a0k len0k cap0k w
  have ci := fun w => refIs_any ⟨a0a, a0b, a0c, a0d, a0e, a0f, a0g, a0h, a0i, zs0j.take len0j, zs0k.take len0k⟩ a0j len0j cap0j a0k len0k cap0k w r9.length hs9
  have hx0 : Ext w (w.alloc (.cells #[.int .i64 a0a, .int .i64 a0b, .bool a0c, .bool a0d, .int .i64 a0e, .int .i64 a0f, .int .i64 a0g, .int .u32 a0h, .int .u32 a0i, .slice a0j len0j cap0j, .slice a0k len0k cap0k] 25)) := (Ext.refl w).alloc _
  obtain ⟨b0, b1, b2, b3, b4, b5, b6, b7, b8, b9, ba⟩ := box_ipE (heap_new' w (.cells #[.int .i64 a0a, .int .i64 a0b, .bool a0c, .bool a0d, .int .i64 a0e, .int .i64 a0f, .int .i64 a0g, .int .u32 a0h, .int .u32 a0i, .slice a0j len0j cap0j, .slice a0k len0k cap0k] 25))
  have bf : ∀ w', Ext (w.alloc (.cells #[.int .i64 a0a, .int .i64 a0b, .bool a0c, .bool a0d, .int .i64 a0e, .int .i64 a0f, .int .i64 a0g, .int .u32 a0h, .int .u32 a0i, .slice a0j len0j cap0j, .slice a0k len0k cap0k] 25)) w' → ∀ k, w'.frozen? ⟨w.heap.size, k, none⟩ = false := fun w' hx k => heap_frozen (hx.heap (heap_new' w _))
  by_cases hlong : 60 < len0j ∨ 1500 < len0k
  · rw [show decide (60 < len0j ∨ 1500 < len0k) = true by simpa using hlong] at cl
    clear hlong ci f
    dsimp only at *
    go_enter Try.func10, Try.ntmps10
    go_wp2_with (go_at_call 17; refine (cl _).mono ?_; rintro e w1 ⟨rfl, hx1⟩)
    go_ret
    exact ⟨rfl, hx0.trans hx1⟩
  rw [show decide (60 < len0j ∨ 1500 < len0k) = false by simpa using hlong] at cl
  by_cases his : isV ⟨a0a, a0b, a0c, a0d, a0e, a0f, a0g, a0h, a0i, zs0j.take len0j, zs0k.take len0k⟩ = true
  rotate_left
  · rw [Bool.not_eq_true] at his
    rw [his] at ci
    clear his f
    dsimp only at *
    go_enter Try.func10, Try.ntmps10
    go_wp2_with (first
      | (go_at_call 17; refine (cl _).mono ?_; rintro e w1 ⟨rfl, hx1⟩)
      | (go_at_call 21; refine (ci _).mono ?_; rintro e w2 ⟨rfl, hx2⟩))
    go_ret
    exact ⟨rfl, hx0.trans (hx1.trans hx2)⟩
  rw [his] at ci
  have hp := (isV_iff _).1 his
  clear his
  by_cases hw : a1 < 0 ∨ 5 < a1
  · clear f hp
    dsimp only at *
    clear hlong
    go_enter Try.func10, Try.ntmps10
    go_wp2_with (first
      | (go_at_call 17; refine (cl _).mono ?_; rintro e w1 ⟨rfl, hx1⟩)
      | (go_at_call 21; refine (ci _).mono ?_; rintro e w2 ⟨rfl, hx2⟩; have hx12 := hx1.trans hx2; have hy2 := hx0.trans hx12))
    all_goals
      go_ret
      exact ⟨rfl, hy2⟩
  have n40 : len0j ≤ 40 ∧ len0j % 4 = 0 := by
    have h1 := hp.n40
    have h2 := hp.n4
    rw [show (⟨a0a, a0b, a0c, a0d, a0e, a0f, a0g, a0h, a0i, zs0j.take len0j, zs0k.take len0k⟩ : IPv).opts.length = len0j from r9.length] at h1 h2
    exact ⟨h1, h2⟩
  clear f hp
  have r9l := r9.length
  rcases (by omega : a1 = 0 ∨ a1 = 1 ∨ a1 = 2 ∨ a1 = 3 ∨ a1 = 4 ∨ a1 = 5) with rfl | rfl | rfl | rfl | rfl | rfl
  · have cb := fun w => build_bad ⟨256, a0b, a0c, a0d, a0e, a0f, a0g, a0h, a0i, zs0j.take len0j, zs0k.take len0k⟩ a0j len0j cap0j a0k len0k cap0k w r9l hs9 (by unfold isV; rw [decide_eq_false_iff_not]; dsimp only; omega)
    dsimp only at *
    clear hlong hw
    go_enter Try.func10, Try.ntmps10
    go_wp2_with (first
      | (go_at_call 17; refine (cl _).mono ?_; rintro e w1 ⟨rfl, hx1⟩)
      | (go_at_call 21; refine (ci _).mono ?_; rintro e w2 ⟨rfl, hx2⟩; have hx12 := hx1.trans hx2; have hy2 := hx0.trans hx12)
      | (go_at_call 18; refine (cb _).mono ?_; rintro e w3 ⟨rfl, hx3⟩)
      | (go_at_call 16; refine (ipKnown_any _).mono ?_; rintro e w4 ⟨rfl, hx4⟩))
    go_ret
    exact ⟨rfl, (ExtX.ext hy2 ((ExtX.refl w.heap.size w2).setCell rfl _) (Nat.le_refl _)).trans (hx3.trans hx4)⟩
  · have cb := fun w => build_bad ⟨a0a, (-1), a0c, a0d, a0e, a0f, a0g, a0h, a0i, zs0j.take len0j, zs0k.take len0k⟩ a0j len0j cap0j a0k len0k cap0k w r9l hs9 (by unfold isV; rw [decide_eq_false_iff_not]; dsimp only; omega)
    dsimp only at *
    clear hlong hw
    go_enter Try.func10, Try.ntmps10
    go_wp2_with (first
      | (go_at_call 17; refine (cl _).mono ?_; rintro e w1 ⟨rfl, hx1⟩)
      | (go_at_call 21; refine (ci _).mono ?_; rintro e w2 ⟨rfl, hx2⟩; have hx12 := hx1.trans hx2; have hy2 := hx0.trans hx12)
      | (go_at_call 18; refine (cb _).mono ?_; rintro e w3 ⟨rfl, hx3⟩)
      | (go_at_call 16; refine (ipKnown_any _).mono ?_; rintro e w4 ⟨rfl, hx4⟩))
    go_ret
    exact ⟨rfl, (ExtX.ext hy2 ((ExtX.refl w.heap.size w2).setCell rfl _) (Nat.le_refl _)).trans (hx3.trans hx4)⟩
  · have cb := fun w => build_bad ⟨a0a, a0b, a0c, a0d, 8192, a0f, a0g, a0h, a0i, zs0j.take len0j, zs0k.take len0k⟩ a0j len0j cap0j a0k len0k cap0k w r9l hs9 (by unfold isV; rw [decide_eq_false_iff_not]; dsimp only; omega)
    dsimp only at *
    clear hlong hw
    go_enter Try.func10, Try.ntmps10
    go_wp2_with (first
      | (go_at_call 17; refine (cl _).mono ?_; rintro e w1 ⟨rfl, hx1⟩)
      | (go_at_call 21; refine (ci _).mono ?_; rintro e w2 ⟨rfl, hx2⟩; have hx12 := hx1.trans hx2; have hy2 := hx0.trans hx12)
      | (go_at_call 18; refine (cb _).mono ?_; rintro e w3 ⟨rfl, hx3⟩)
      | (go_at_call 16; refine (ipKnown_any _).mono ?_; rintro e w4 ⟨rfl, hx4⟩))
    go_ret
    exact ⟨rfl, (ExtX.ext hy2 ((ExtX.refl w.heap.size w2).setCell rfl _) (Nat.le_refl _)).trans (hx3.trans hx4)⟩
  · have cb := fun w => build_bad ⟨a0a, a0b, a0c, a0d, a0e, 256, a0g, a0h, a0i, zs0j.take len0j, zs0k.take len0k⟩ a0j len0j cap0j a0k len0k cap0k w r9l hs9 (by unfold isV; rw [decide_eq_false_iff_not]; dsimp only; omega)
    dsimp only at *
    clear hlong hw
    go_enter Try.func10, Try.ntmps10
    go_wp2_with (first
      | (go_at_call 17; refine (cl _).mono ?_; rintro e w1 ⟨rfl, hx1⟩)
      | (go_at_call 21; refine (ci _).mono ?_; rintro e w2 ⟨rfl, hx2⟩; have hx12 := hx1.trans hx2; have hy2 := hx0.trans hx12)
      | (go_at_call 18; refine (cb _).mono ?_; rintro e w3 ⟨rfl, hx3⟩)
      | (go_at_call 16; refine (ipKnown_any _).mono ?_; rintro e w4 ⟨rfl, hx4⟩))
    go_ret
    exact ⟨rfl, (ExtX.ext hy2 ((ExtX.refl w.heap.size w2).setCell rfl _) (Nat.le_refl _)).trans (hx3.trans hx4)⟩
  · have cb := fun w => build_bad ⟨a0a, a0b, a0c, a0d, a0e, a0f, (-1), a0h, a0i, zs0j.take len0j, zs0k.take len0k⟩ a0j len0j cap0j a0k len0k cap0k w r9l hs9 (by unfold isV; rw [decide_eq_false_iff_not]; dsimp only; omega)
    dsimp only at *
    clear hlong hw
    go_enter Try.func10, Try.ntmps10
    go_wp2_with (first
      | (go_at_call 17; refine (cl _).mono ?_; rintro e w1 ⟨rfl, hx1⟩)
      | (go_at_call 21; refine (ci _).mono ?_; rintro e w2 ⟨rfl, hx2⟩; have hx12 := hx1.trans hx2; have hy2 := hx0.trans hx12)
      | (go_at_call 18; refine (cb _).mono ?_; rintro e w3 ⟨rfl, hx3⟩)
      | (go_at_call 16; refine (ipKnown_any _).mono ?_; rintro e w4 ⟨rfl, hx4⟩))
    go_ret
    exact ⟨rfl, (ExtX.ext hy2 ((ExtX.refl w.heap.size w2).setCell rfl _) (Nat.le_refl _)).trans (hx3.trans hx4)⟩
  · have cb := fun a c w => build_bad ⟨a0a, a0b, a0c, a0d, a0e, a0f, a0g, a0h, a0i, zs0j.take len0j ++ [1], zs0k.take len0k⟩ a (len0j + 1) c a0k len0k cap0k w (by dsimp only; rw [List.length_append, r9l]; rfl) (by omega) (by unfold isV; rw [decide_eq_false_iff_not]; dsimp only; rw [List.length_append, r9l]; simp only [List.length_singleton]; omega)
    obtain ⟨i0, hi, hz0, hz1, hz2⟩ := info_parts Try.infoByte
    dsimp only at *
    clear hlong hw
    have tok1 : Hid True := trivial
    go_enter Try.func10, Try.ntmps10
    go_wp2_with (first
      | (go_at_call 17; refine (cl _).mono ?_; rintro e w1 ⟨rfl, hx1⟩)
      | (go_at_call 21; refine (ci _).mono ?_; rintro e w2 ⟨rfl, hx2⟩; have hx12 := hx1.trans hx2; have hy2 := hx0.trans hx12; have hxe : Ext w2 (w2.alloc (.cells #[] 5)) := (Ext.refl w2).alloc _; have hx12e := hx12.trans hxe)
      | (at_builtin; clear tok1; have hoe := own_empty w2; refine append_bytes rfl (.tmp 23) (.tmp 25) 22 rfl w2.heap.size 5 i0 (.int .u8 0) Try.underlying22 hi hz0 hz1 hz2 rfl _ _ _ rfl hoe a0j len0j cap0j _ rfl (r9.below (hy2.trans hxe)) z9 (by omega) (by simp) ?_; intro v3 w3 ho3 hgr3; have hx3 := grown_ext hxe hoe hgr3; clear hoe hgr3)
      | (at_builtin; have hn : Bytes (w3.alloc (.cells #[.int .u8 1] 5)) (some ⟨w3.heap.size, 0, none⟩) 1 [1] := Bytes.new w3 _ [1] (by intro x hx; simp at hx; omega) (by simp); have ho4 := ho3.alloc (.cells #[.int .u8 1] 5); refine append_bytes rfl (.tmp 26) (.tmp 27) 22 rfl w2.heap.size 5 i0 (.int .u8 0) Try.underlying22 hi hz0 hz1 hz2 rfl _ _ _ rfl ho4 _ 1 1 _ rfl hn (by simp) (by omega) (by have := hx3.size; simp; omega) ?_; intro v5 w5 ho5 hgr5; have hx5 := grown_ext (hx3.alloc _) ho4 hgr5; obtain ⟨a5, c5, rfl⟩ := owns_shape ho5; have hx05 := hx12.trans hx5; clear hgr5 ho4 hn ho5)
      | (go_at_call 18; refine (cb a5 c5 _).mono ?_; rintro e w6 ⟨rfl, hx6⟩)
      | (go_at_call 16; refine (ipKnown_any _).mono ?_; rintro e w7 ⟨rfl, hx7⟩))
    go_ret
    exact ⟨rfl, (ExtX.ext (hy2.trans hx5) ((ExtX.refl w.heap.size w5).setCell rfl _) (Nat.le_refl _)).trans (hx6.trans hx7)⟩

theorem contract (H : Type) (enc : TypeId × Value → H) (W : World) (base : Nat) (args : Array Value) (ds gs : List (DataW H)) (before : List MemPlace)
    (hval : ∀ (j : Nat) t v, Try.f10.params[j]? = some t → args[j]? = some v → Value.okWide Try.prog W .any base t v)
    (hW : DataW.Whole enc Try.prog Try.f10.params.toList Rows.ipBoundsSpec.vars false W args.toList ds gs before) (hsh : W.ShapedOpen Try.prog) :
    Calls Try.prog 10 args W fun e W' => ∃ v, e = .returned v ∧ Rows.ipBoundsSpec.post enc Try.prog Try.f10 false true false false W args v W' := by
  have hW' := hW
  obtain ⟨p, q, hA0, hV, rfl, hfz, hnd⟩ := hW
  have hA : DataW.TrodAll enc Try.prog W 0 (fun _ => true) true Try.f10.params.toList args.toList ds p := hA0
  rw [Try.params10] at hA hval
  obtain ⟨v0, vs0, d0, ds0, p0, q0, hargs, rfl, rfl, h0, r0⟩ := trodAll_cons hA
  obtain ⟨v1, vs1, d1, ds1, p1, q1, rfl, rfl, rfl, h1, r1⟩ := trodAll_cons r0
  obtain ⟨rfl, rfl, rfl⟩ := trodAll_nil r1
  obtain rfl : args = #[v0, v1] := by cases args; simp_all
  obtain ⟨rfl, rfl⟩ := trodVars_none hV
  have k0 := h0
  have lt0 : ∀ x ∈ p0, x.block < W.heap.size := by obtain ⟨m, hm⟩ := k0; exact DataW.trod_lt m _ _ _ hm
  obtain ⟨cs0, rfl, hs0⟩ := okWide_struct Try.underlying25 (hval 0 25 v0 rfl rfl)
  obtain ⟨u0a, u0b, u0c, u0d, u0e, u0f, u0g, u0h, u0i, u0j, u0k, rfl⟩ := arr11 (hs0.trans (by kernel_rfl))
  obtain ⟨fu0, hf0⟩ := h0
  obtain ⟨_, _, e1⟩ := field_at Try.underlying25 hf0 0 rfl 1 (by kernel_rfl)
  obtain ⟨a0a, c2, _, w0a⟩ := DataW.trod_int Try.underlying3 e1
  obtain rfl : u0a = .int .i64 a0a := by simpa [Value.cells] using c2
  obtain ⟨_, _, e3⟩ := field_at Try.underlying25 hf0 1 rfl 1 (by kernel_rfl)
  obtain ⟨a0b, c4, _, w0b⟩ := DataW.trod_int Try.underlying3 e3
  obtain rfl : u0b = .int .i64 a0b := by simpa [Value.cells] using c4
  obtain ⟨_, _, e5⟩ := field_at Try.underlying25 hf0 2 rfl 1 (by kernel_rfl)
  obtain ⟨a0c, c6, _⟩ := DataW.trod_bool Try.underlying4 e5
  obtain rfl : u0c = .bool a0c := by simpa [Value.cells] using c6
  obtain ⟨_, _, e7⟩ := field_at Try.underlying25 hf0 3 rfl 1 (by kernel_rfl)
  obtain ⟨a0d, c8, _⟩ := DataW.trod_bool Try.underlying4 e7
  obtain rfl : u0d = .bool a0d := by simpa [Value.cells] using c8
  obtain ⟨_, _, e9⟩ := field_at Try.underlying25 hf0 4 rfl 1 (by kernel_rfl)
  obtain ⟨a0e, c10, _, w0e⟩ := DataW.trod_int Try.underlying3 e9
  obtain rfl : u0e = .int .i64 a0e := by simpa [Value.cells] using c10
  obtain ⟨_, _, e11⟩ := field_at Try.underlying25 hf0 5 rfl 1 (by kernel_rfl)
  obtain ⟨a0f, c12, _, w0f⟩ := DataW.trod_int Try.underlying3 e11
  obtain rfl : u0f = .int .i64 a0f := by simpa [Value.cells] using c12
  obtain ⟨_, _, e13⟩ := field_at Try.underlying25 hf0 6 rfl 1 (by kernel_rfl)
  obtain ⟨a0g, c14, _, w0g⟩ := DataW.trod_int Try.underlying3 e13
  obtain rfl : u0g = .int .i64 a0g := by simpa [Value.cells] using c14
  obtain ⟨_, _, e15⟩ := field_at Try.underlying25 hf0 7 rfl 1 (by kernel_rfl)
  obtain ⟨a0h, c16, _, w0h⟩ := DataW.trod_int Try.underlying23 e15
  obtain rfl : u0h = .int .u32 a0h := by simpa [Value.cells] using c16
  obtain ⟨_, _, e17⟩ := field_at Try.underlying25 hf0 8 rfl 1 (by kernel_rfl)
  obtain ⟨a0i, c18, _, w0i⟩ := DataW.trod_int Try.underlying23 e17
  obtain rfl : u0i = .int .u32 a0i := by simpa [Value.cells] using c18
  obtain ⟨_, _, e19⟩ := field_at Try.underlying25 hf0 9 rfl 1 (by kernel_rfl)
  obtain ⟨a0j, len0j, cap0j, zs0j, c20, row0j⟩ := open_rowI Try.underlying22 Try.underlying5 (by kernel_rfl) (fun _ => rfl) e19
  obtain rfl : u0j = .slice a0j len0j cap0j := by simpa [Value.cells] using c20
  obtain ⟨_, _, e21⟩ := field_at Try.underlying25 hf0 10 rfl 1 (by kernel_rfl)
  obtain ⟨a0k, len0k, cap0k, zs0k, c22, row0k⟩ := open_rowI Try.underlying22 Try.underlying5 (by kernel_rfl) (fun _ => rfl) e21
  obtain rfl : u0k = .slice a0k len0k cap0k := by simpa [Value.cells] using c22
  obtain ⟨a1, rfl, rfl, rfl, w1⟩ := open_int Try.underlying3 (hval 1 3 v1 rfl rfl) h1
  clear hA0
  refine (walk a0a a0b a0c a0d a0e a0f a0g a0h a0i a0j len0j cap0j zs0j a0k len0k cap0k zs0k a1 W w0a w0b w0e w0f w0g w0h w0i row0j row0k w1 hsh).mono fun e W' ⟨he, bel⟩ => ?_
  subst he
  exact ⟨_, rfl, _, _, _, [], _, [], hW', trodAll_mk1 (shut_bool Try.underlying4 _), (trodAll_cons_mk (Below.trod laidOut (by kernel_rfl) (of_decide_eq_true (by kernel_rfl)) k0 bel lt0) (trodAll_cons_mk (shut_int Try.underlying3 w1) trodAll_mk0)), rfl, bel.frame _, fun h => by cases h⟩

theorem laid_met (os : Os) : laidMet Try.prog Rows.ipBoundsRow.laid ((World.doorLaid Try.prog 24 os).forCall (fun _ _ => 0) ⟨#[], #[.agg #[.int .i64 0, .int .i64 0, .bool false, .bool false, .int .i64 0, .int .i64 0, .int .i64 0, .int .u32 0, .int .u32 0, .slice none 0 0, .slice none 0 0], .int .i64 0], []⟩).memory :=
  laidMet_of_run' 8 (by kernel_rfl) (by kernel_rfl)
theorem reads (os : Os) {H : Type} (enc : TypeId × Value → H) : ∃ places, DataW.whole enc Try.prog ((World.doorLaid Try.prog 24 os).forCall (fun _ _ => 0) ⟨#[], #[.agg #[.int .i64 0, .int .i64 0, .bool false, .bool false, .int .i64 0, .int .i64 0, .int .i64 0, .int .u32 0, .int .u32 0, .slice none 0 0, .slice none 0 0], .int .i64 0], []⟩).memory Try.f10.params.toList Rows.ipBoundsSpec.vars false (#[.agg #[.int .i64 0, .int .i64 0, .bool false, .bool false, .int .i64 0, .int .i64 0, .int .i64 0, .int .u32 0, .int .u32 0, .slice none 0 0, .slice none 0 0], .int .i64 0] : Array Value).toList 8 = some ([.agg [.lit (.int .i64 0), .lit (.int .i64 0), .lit (.bool false), .lit (.bool false), .lit (.int .i64 0), .lit (.int .i64 0), .lit (.int .i64 0), .lit (.int .u32 0), .lit (.int .u32 0), .nil, .nil], .lit (.int .i64 0)], [], places) :=
  ⟨[], by kernel_rfl⟩

set_option maxRecDepth 100000 in
theorem lifted (os : Os) (started : os.Started) (H : Type) (enc : TypeId × Value → H) (F : Stop.Interp) :
    ReturnsInHanded {} Try.checked os 10 .any ((OpenSpec.ofChange Rows.ipBoundsSpec).preRow enc Try.prog Try.f10 Rows.ipBoundsRow.domain false Rows.ipBoundsRow.laid) (((OpenSpec.ofChange Rows.ipBoundsSpec).at F).post enc Try.prog Try.f10 false true false false) := by
  obtain ⟨places, hx⟩ := reads os enc
  refine returnsInHanded_of_row (C := Try.checked) (s := (OpenSpec.ofChange Rows.ipBoundsSpec)) own started (by kernel_rfl) Try.func10
    (witness_row_at (enc := enc) (C := Try.checked) false (World.doorLaid Try.prog 24 os) #[.agg #[.int .i64 0, .int .i64 0, .bool false, .bool false, .int .i64 0, .int .i64 0, .int .i64 0, .int .u32 0, .int .u32 0, .slice none 0 0, .slice none 0 0], .int .i64 0] rfl (by kernel_rfl) (by kernel_rfl) (by kernel_rfl)
      (OpenSpec.preRow_of_cond 8 hx (by kernel_rfl) (fun k hk => by cases hk) (by kernel_rfl) (laid_met os))) ?_
  intro W base args ds gs before hval hW _ hcond _ hL hsh _
  exact contract H enc W base args ds gs before hval hW hsh

theorem said : Rows.IpBoundsSaid :=
  OpenClaim.holds_of_cond 10 Try.f10 rfl rfl rfl rfl rfl rfl rfl ⟨rfl, rfl, rfl, rfl, rfl⟩ rfl rfl rfl rfl rfl (by kernel_rfl) Try.func10 (by kernel_rfl)
    (of_decide_eq_true (by kernel_rfl)) (by unfold Func.isWrapper; first | (rw [if_pos (by decide +kernel)]; kernel_rfl) | (rw [if_neg (by decide +kernel)]; exact ⟨rfl, rfl⟩))
    (fun os started H enc _ F => by rw [OpenClaim.pre_eq_preRow]; exact lifted os started H enc F)

end Go.Proofs.Ytlfjbmjincffoaa.ipBounds

namespace Go.Proofs.Ytlfjbmjincffoaa
theorem ipBounds_holds : Rows.IpBoundsSaid := ipBounds.said
#print axioms ipBounds_holds
end Go.Proofs.Ytlfjbmjincffoaa
