/- For every script of ways, every table and prefix and at most twenty interfaces, the law RibTold returns true: the best way is there, of that table and prefix, and up, and none that is so is better (of more interfaces the law says nothing, and returns true); no condition. -/
import Derived.Test.YtbchfmadmcppkaaRows
import Derived.Test.YtbchfmadmcppkaaLaw11T
import Derived.Test.YtbchfmadmcppkaaFrame
import Derived.Test.YtbchfmadmcppkaaRowG
import Derived.WalkKit
import Derived.ProofKit
import Derived.OpenShut
import Derived.ShutString
import Derived.ChangeOld
import Derived.Deep.DeepHandedRow
import Derived.Lib.LaidTab
import Derived.Lib.SmallJoins
import Derived.LaidMore
import Derived.Stop.LaidErr
import Derived.ChangeMaps5
namespace Go.Proofs.Ytbchfmadmcppkaa.ribTold
open Go.ChangeShapes Go.WideShapes Go.ChangeAt Go.RowKit Go.ChangeMaps
set_option linter.unusedVariables false
set_option maxRecDepth 100000

theorem own : ownKnob Try.prog.godebug = none := by kernel_rfl
theorem laidOut : laidOutB Try.prog = true := by kernel_rfl

theorem arr2 {α : Type} {cs : Array α} (h : cs.size = 2) : ∃ c0 c1, cs = #[c0, c1] := by
  obtain ⟨l⟩ := cs
  match l, h with
  | [c0, c1], _ => exact ⟨c0, c1, rfl⟩

abbrev Elem56 := Bool × Int × Int × Int × Int × Int × Int
def cells56 (z : Elem56) : List Value := [.bool (z.1), .int .i64 (z.2.1), .int .u32 (z.2.2.1), .int .i64 (z.2.2.2.1), .int .i64 (z.2.2.2.2.1), .int .u32 (z.2.2.2.2.2.1), .int .i64 (z.2.2.2.2.2.2)]
def ok56 (z : Elem56) : Prop := (Lit.int .i64 (z.2.1)).wf = true ∧ (Lit.int .u32 (z.2.2.1)).wf = true ∧ (Lit.int .i64 (z.2.2.2.1)).wf = true ∧ (Lit.int .i64 (z.2.2.2.2.1)).wf = true ∧ (Lit.int .u32 (z.2.2.2.2.2.1)).wf = true ∧ (Lit.int .i64 (z.2.2.2.2.2.2)).wf = true
theorem cells56_length (z : Elem56) : (cells56 z).length = 7 := rfl
theorem elem56 {H : Type} {enc : TypeId × Value → H} {w : World} {base : Nat} {spare : Nat → Bool} {held : Bool} (n : Nat) (cs : List Value) (y : DataW H × List MemPlace)
    (h : DataW.trod enc Try.prog w base spare held n 56 cs = some y) : ∃ z : Elem56, cs = cells56 z ∧ ok56 z := by
  have hl : cs.length = 7 := by
    obtain ⟨_, _, _, _, hl, _⟩ := DataW.trod_struct Try.underlying56 h
    exact hl.trans (by kernel_rfl)
  obtain ⟨u0, u1, u2, u3, u4, u5, u6, rfl⟩ : ∃ u0 u1 u2 u3 u4 u5 u6, cs = [u0, u1, u2, u3, u4, u5, u6] := by
    match cs, hl with
    | [u0, u1, u2, u3, u4, u5, u6], _ => exact ⟨u0, u1, u2, u3, u4, u5, u6, rfl⟩
  obtain ⟨_, _, e1⟩ := field_at Try.underlying56 h 0 rfl 1 (by kernel_rfl)
  obtain ⟨az0, c2, _⟩ := DataW.trod_bool Try.underlying4 e1
  obtain rfl : u0 = .bool az0 := by simpa using c2
  obtain ⟨_, _, e3⟩ := field_at Try.underlying56 h 1 rfl 6 (by kernel_rfl)
  obtain ⟨_, _, e4⟩ := field_at Try.underlying27 e3 0 rfl 1 (by kernel_rfl)
  obtain ⟨az10, c5, _, wz10⟩ := DataW.trod_int Try.underlying3 e4
  obtain rfl : u1 = .int .i64 az10 := by simpa using c5
  obtain ⟨_, _, e6⟩ := field_at Try.underlying27 e3 1 rfl 2 (by kernel_rfl)
  obtain ⟨_, _, e7⟩ := field_at Try.underlying25 e6 0 rfl 1 (by kernel_rfl)
  obtain ⟨az110, c8, _, wz110⟩ := DataW.trod_int Try.underlying23 e7
  obtain rfl : u2 = .int .u32 az110 := by simpa using c8
  obtain ⟨_, _, e9⟩ := field_at Try.underlying25 e6 1 rfl 1 (by kernel_rfl)
  obtain ⟨az111, c10, _, wz111⟩ := DataW.trod_int Try.underlying3 e9
  obtain rfl : u3 = .int .i64 az111 := by simpa using c10
  obtain ⟨_, _, e11⟩ := field_at Try.underlying27 e3 2 rfl 1 (by kernel_rfl)
  obtain ⟨az12, c12, _, wz12⟩ := DataW.trod_int Try.underlying3 e11
  obtain rfl : u4 = .int .i64 az12 := by simpa using c12
  obtain ⟨_, _, e13⟩ := field_at Try.underlying27 e3 3 rfl 1 (by kernel_rfl)
  obtain ⟨az13, c14, _, wz13⟩ := DataW.trod_int Try.underlying23 e13
  obtain rfl : u5 = .int .u32 az13 := by simpa using c14
  obtain ⟨_, _, e15⟩ := field_at Try.underlying27 e3 4 rfl 1 (by kernel_rfl)
  obtain ⟨az14, c16, _, wz14⟩ := DataW.trod_int Try.underlying3 e15
  obtain rfl : u6 = .int .i64 az14 := by simpa using c16
  exact ⟨(az0, az10, az110, az111, az12, az13, az14), rfl, ⟨wz10, wz110, wz111, wz12, wz13, wz14⟩⟩

abbrev Elem4 := Bool
def cells4 (z : Elem4) : List Value := [.bool (z)]
def ok4 (z : Elem4) : Prop := True
theorem cells4_length (z : Elem4) : (cells4 z).length = 1 := rfl
theorem elem4 {H : Type} {enc : TypeId × Value → H} {w : World} {base : Nat} {spare : Nat → Bool} {held : Bool} (n : Nat) (cs : List Value) (y : DataW H × List MemPlace)
    (h : DataW.trod enc Try.prog w base spare held n 4 cs = some y) : ∃ z : Elem4, cs = cells4 z ∧ ok4 z := by
  obtain ⟨z, c, _⟩ := DataW.trod_bool Try.underlying4 h
  exact ⟨z, by simpa [cells4] using c, trivial⟩

open Go.Proofs.Ytbchfmadmcppkaa.Tri Go.Proofs.Ytbchfmadmcppkaa.Rb

set_option maxHeartbeats 4000000 in
theorem walk (a0 : Option Addr) (len0 cap0 : Nat) (zs0 : List Elem56) (a1 : Int) (a20 : Int) (a21 : Int) (a3 : Option Addr) (len3 cap3 : Nat) (zs3 : List Elem4) (w : World) (row0 : IsRowG 7 cells56 ok56 w a0 len0 cap0 zs0) (w1 : (Lit.int .i64 a1).wf = true) (w20 : (Lit.int .u32 a20).wf = true) (w21 : (Lit.int .i64 a21).wf = true) (row3 : IsRowG 1 cells4 ok4 w a3 len3 cap3 zs3) (hsh : w.ShapedOpen Try.prog) :
    Calls Try.prog 9 #[.slice a0 len0 cap0, .int .i64 a1, .agg #[.int .u32 a20, .int .i64 a21], .slice a3 len3 cap3] w fun e w' => e = .returned (.bool true) ∧ Below w.heap.size w w' := by
  have row : IsRowG 7 actC actOk w a0 len0 cap0 zs0 := row0
  have rowU : IsRowG 1 upC upOk w a3 len3 cap3 zs3 := row3
  have hA : Ext w (w.alloc (.cells #[.int .u32 a20, .int .i64 a21] 25)) := (Ext.refl w).alloc _
  have hc3 := rowU.le
  have hc4 := rowU.room
  unfold maxLen at hc4
  by_cases h20 : 20 < len3
  · have h20z : (20 : Int) < (len3 : Int) := by omega
    clear row rowU row0 row3
    go_enter Try.func9, Try.ntmps9
    go_wp2_with fail
    go_ret
    exact ⟨rfl, hA⟩
  · have h20z : (len3 : Int) ≤ 20 := by omega
    have HU : Hid (Ups w a3 len3 zs3) := ups_row rowU (by omega)
    have kp := played_any a0 len0 cap0 zs0 _ (row.later (fun z => rfl) hA)
    have kn := fun w => known_any w
    have HB : Hid _ := box2E (heap_new w (.cells #[.int .u32 a20, .int .i64 a21] 25))
    clear row rowU row0 row3
    go_enter Try.func9, Try.ntmps9
    go_wp2_with fail
    go_at_call 11
    refine kp.mono ?_
    rintro e w1 ⟨rb, xb, L, F, G, rfl, hg, hT⟩
    have HE1 : Hid (Ext w w1) := hA.trans hT.ext
    have HA1 : Hid (Ext (w.alloc (.cells #[.int .u32 a20, .int .i64 a21] 25)) w1) := hT.ext
    obtain ⟨q0, q1⟩ := HB.out
    have p0 := q0 _ hT.ext
    have p1 := q1 _ hT.ext
    have hlen := hg.len
    have kB := best_of rb L F a1 a20 a21 a3 len3 cap3 zs3 w1 hT.b hg (HU.out.ext HE1.out)
    have kA := fun w' (hx : Ext w1 w') => all_any rb L F w' (hT.b.ext hx) (by omega)
    have hth := there_all L a1 a20 a21 zs3
    have hbe := fun x hx hs hu => cand_best (L := L) (t := a1) (a := a20) (l := a21) (U := zs3) (x := x) hx hs hu
    generalize bestO L a1 a20 a21 zs3 = o at *
    have HTH : Hid _ := hth
    have HBE : Hid _ := hbe
    clear hT hg kp hth hbe
    go_wp2_with (first
      | (go_at_call 17; refine kB.mono ?_; rintro e w2 ⟨rfl, hx2⟩; have hx2' : Ext w1 (w2.alloc (.cells #[.int .i64 (theR o).t, .int .u32 (theR o).a, .int .i64 (theR o).l, .int .i64 (theR o).i, .int .u32 (theR o).g, .int .i64 (theR o).m] 27)) := hx2.trans ((Ext.refl w2).alloc _))
      | (go_at_call 13; refine (kA _ hx2').mono ?_; rintro e w4 ⟨v4, rfl, ho4, hx4⟩; obtain ⟨p4, c4, hv4, hR4⟩ := own_rd ho4; subst hv4))
    have HR : Hid (Rd w4 p4 L.length c4 L) := hR4
    have HY : Hid _ := box_rtE (heap_new w2 (.cells #[.int .i64 (theR o).t, .int .u32 (theR o).a, .int .i64 (theR o).l, .int .i64 (theR o).i, .int .u32 (theR o).g, .int .i64 (theR o).m] 27))
    have HX4 : Hid (Ext (w2.alloc (.cells #[.int .i64 (theR o).t, .int .u32 (theR o).a, .int .i64 (theR o).l, .int .i64 (theR o).i, .int .u32 (theR o).g, .int .i64 (theR o).m] 27)) w4) := hx4
    have HE4 : Hid (Ext w1 w4) := hx2'.trans hx4
    clear hR4 ho4 kB kA p0 p1
    generalize hbo : o.isSome = hasB at *
    have HBO : Hid _ := hbo
    clear hbo
    go_loopg [15, 16] L.length (fun kx s15 s16 wr => ∃ (k : Nat), s16 = .int .i64 k ∧ s15 = .bool (thereB (L.take k) a1 a20 a21 zs3 o) ∧ k ≤ L.length ∧ L.length - k ≤ kx ∧ Ext w4 wr)
    case atStart => exact ⟨0, rfl, rfl, Nat.zero_le _, by omega, Ext.refl _⟩
    case round =>
      obtain ⟨k, rfl, rfl, hkn, hkx, hx⟩ := hrel
      by_cases hlt : k < L.length
      · obtain ⟨x, hxk⟩ : ∃ x, L[k]? = some x := ⟨_, List.getElem?_eq_getElem hlt⟩
        have htk := there_take (t := a1) (a := a20) (l := a21) (U := zs3) (o := o) hxk
        have hmem : x ∈ L := List.mem_of_getElem? hxk
        obtain ⟨b, off, rfl, hb, g0, g1, g2, g3, g4, g5⟩ := (HR.out.ext hx).cell hxk
        have hA5 : Ext wr (wr.alloc (.cells #[.int .i64 x.t, .int .u32 x.a, .int .i64 x.l, .int .i64 x.i, .int .u32 x.g, .int .i64 x.m] 27)) := (Ext.refl wr).alloc _
        have hki : (k : Int) < (L.length : Int) := by omega
        have HF : Hid _ := box_rtE (heap_new wr (.cells #[.int .i64 x.t, .int .u32 x.a, .int .i64 x.l, .int .i64 x.i, .int .u32 x.g, .int .i64 x.m] 27))
        obtain ⟨f0, f1, f2, f3, f4, f5⟩ := HF.out
        have s0 := f0 _ (Ext.refl _)
        have s1 := f1 _ (Ext.refl _)
        have s2 := f2 _ (Ext.refl _)
        have s3 := f3 _ (Ext.refl _)
        have s4 := f4 _ (Ext.refl _)
        have s5 := f5 _ (Ext.refl _)
        have hP : Ext (w.alloc (.cells #[.int .u32 a20, .int .i64 a21] 25)) (wr.alloc (.cells #[.int .i64 x.t, .int .u32 x.a, .int .i64 x.l, .int .i64 x.i, .int .u32 x.g, .int .i64 x.m] 27)) := HA1.out.trans (HE4.out.trans (hx.trans hA5))
        have p0 := q0 _ hP
        have p1 := q1 _ hP
        have np := fun w => neq_prefix x.a x.l a20 a21 w
        have ko := fun w' (hx : Ext w1 w') => on_any x.i a3 len3 cap3 zs3 w' (HU.out.ext (HE1.out.trans hx))
        generalize thereB (L.take k) a1 a20 a21 zs3 o = th at *
        have HTK : Hid _ := htk
        have HE5 : Hid (Ext w1 (wr.alloc (.cells #[.int .i64 x.t, .int .u32 x.a, .int .i64 x.l, .int .i64 x.i, .int .u32 x.g, .int .i64 x.m] 27))) := HE4.out.trans (hx.trans hA5)
        clear htk hxk
        by_cases h1 : x.t = a1
        · have h1a : (x.t == a1) = true := by simpa using h1
          have h1b : (x.t != a1) = false := by simp [h1]
          by_cases h2 : (x.a == a20 && x.l == a21) = true
          · have hsel : selB a1 a20 a21 x = true := by
              simp only [Bool.and_eq_true, beq_iff_eq] at h2
              exact (selB_iff _ _ _ _).2 ⟨h1, h2.1, h2.2⟩
            rw [h2, Bool.not_true] at np
            clear h1 h2
            cases hu : upB zs3 x.i with
            | false =>
              rw [hu] at ko
              have hct : (th || (candB a1 a20 a21 zs3 x && eqB x (theR o))) = th := by simp [candB, hu]
              have HCT : Hid _ := hct
              clear hct hsel hu
              go_wp2_with (go_at_call 27; refine (ko _ HE5.out).mono ?_; rintro e w6 ⟨rfl, hx6⟩)
              go_roundg (L.length - (k + 1))
              case measure => omega
              case rel => exact ⟨k + 1, by go_num, by rw [HTK.out, HCT.out], by omega, Nat.le_refl _, hx.trans (hA5.trans hx6)⟩
            | true =>
              rw [hu] at ko
              obtain ⟨y, hoy, hby⟩ := HBE.out x hmem hsel hu
              have hct : (candB a1 a20 a21 zs3 x) = true := by simp [candB, hu, hsel]
              rw [hct, Bool.true_and] at HTK
              have kb := fun w => refBetter_any x (theR o) w
              have er := fun w => eql_rt x (theR o) w
              have eg := rt_guard
              have hby' : betB x (theR o) = false := by rw [hoy]; exact hby
              rw [hby'] at kb
              obtain rfl : true = hasB := by rw [← HBO.out, hoy]; rfl
              clear hct hsel hu hby hby' hoy
              generalize eqB x (theR o) = eb at *
              obtain ⟨y0, y1, y2, y3, y4, y5⟩ := HY.out
              cases th
              · go_wp2_with (first
                  | (go_at_call 27; refine (ko _ HE5.out).mono ?_; rintro e w6 ⟨rfl, hx6⟩; have hq6 : Ext (w2.alloc (.cells #[.int .i64 (theR o).t, .int .u32 (theR o).a, .int .i64 (theR o).l, .int .i64 (theR o).i, .int .u32 (theR o).g, .int .i64 (theR o).m] 27)) w6 := HX4.out.trans (hx.trans (hA5.trans hx6)); have z0 := y0 _ hq6; have z1 := y1 _ hq6; have z2 := y2 _ hq6; have z3 := y3 _ hq6; have z4 := y4 _ hq6; have z5 := y5 _ hq6; have u0 := f0 _ hx6; have u1 := f1 _ hx6; have u2 := f2 _ hx6; have u3 := f3 _ hx6; have u4 := f4 _ hx6; have u5 := f5 _ hx6)
                  | (go_at_call 22; refine (kb _).mono ?_; rintro e w7 ⟨rfl, hx7⟩))
                go_roundg (L.length - (k + 1))
                case measure => omega
                case rel => exact ⟨k + 1, by go_num, by rw [HTK.out]; rfl, by omega, Nat.le_refl _, hx.trans (hA5.trans (hx6.trans hx7))⟩
              · go_wp2_with (first
                  | (go_at_call 27; refine (ko _ HE5.out).mono ?_; rintro e w6 ⟨rfl, hx6⟩; have hq6 : Ext (w2.alloc (.cells #[.int .i64 (theR o).t, .int .u32 (theR o).a, .int .i64 (theR o).l, .int .i64 (theR o).i, .int .u32 (theR o).g, .int .i64 (theR o).m] 27)) w6 := HX4.out.trans (hx.trans (hA5.trans hx6)); have z0 := y0 _ hq6; have z1 := y1 _ hq6; have z2 := y2 _ hq6; have z3 := y3 _ hq6; have z4 := y4 _ hq6; have z5 := y5 _ hq6; have u0 := f0 _ hx6; have u1 := f1 _ hx6; have u2 := f2 _ hx6; have u3 := f3 _ hx6; have u4 := f4 _ hx6; have u5 := f5 _ hx6)
                  | (go_at_call 22; refine (kb _).mono ?_; rintro e w7 ⟨rfl, hx7⟩))
                go_roundg (L.length - (k + 1))
                case measure => omega
                case rel => exact ⟨k + 1, by go_num, by rw [HTK.out]; rfl, by omega, Nat.le_refl _, hx.trans (hA5.trans (hx6.trans hx7))⟩
          · have h2' : (x.a == a20 && x.l == a21) = false := by simpa using h2
            have hsel : selB a1 a20 a21 x = false := by
              cases e : selB a1 a20 a21 x
              · rfl
              · obtain ⟨_, e2, e3⟩ := (selB_iff _ _ _ _).1 e
                exact absurd (by simp [e2, e3]) h2
            rw [h2', Bool.not_false] at np
            have HCT : Hid ((th || (candB a1 a20 a21 zs3 x && eqB x (theR o))) = th) := by show _ = _; simp [candB, hsel]
            clear h1 h2 h2' hsel ko
            go_wp2_with fail
            go_roundg (L.length - (k + 1))
            case measure => omega
            case rel => exact ⟨k + 1, by go_num, by rw [HTK.out, HCT.out], by omega, Nat.le_refl _, hx.trans hA5⟩
        · have h1a : (x.t == a1) = false := by simpa using h1
          have h1b : (x.t != a1) = true := by simpa using h1
          have hsel : selB a1 a20 a21 x = false := by
            cases e : selB a1 a20 a21 x
            · rfl
            · exact absurd ((selB_iff _ _ _ _).1 e).1 h1
          have HCT : Hid ((th || (candB a1 a20 a21 zs3 x && eqB x (theR o))) = th) := by show _ = _; simp [candB, hsel]
          clear hsel ko
          go_wp2_with fail
          go_roundg (L.length - (k + 1))
          case measure => omega
          case rel => exact ⟨k + 1, by go_num, by rw [HTK.out, HCT.out], by omega, Nat.le_refl _, hx.trans hA5⟩
      · obtain rfl : k = L.length := by omega
        rw [List.take_length, HTH.out] at *
        go_wp2_with (go_at_call 16; refine (kn _).mono ?_; rintro e w7 ⟨rfl, hx7⟩)
        go_ret
        exact ⟨rfl, HE1.out.trans (HE4.out.trans (hx.trans hx7))⟩

theorem contract (H : Type) (enc : TypeId × Value → H) (W : World) (base : Nat) (args : Array Value) (ds gs : List (DataW H)) (before : List MemPlace)
    (hval : ∀ (j : Nat) t v, Try.f9.params[j]? = some t → args[j]? = some v → Value.okWide Try.prog W .any base t v)
    (hW : DataW.Whole enc Try.prog Try.f9.params.toList Rows.ribToldSpec.vars false W args.toList ds gs before) (hsh : W.ShapedOpen Try.prog) :
    Calls Try.prog 9 args W fun e W' => ∃ v, e = .returned v ∧ Rows.ribToldSpec.post enc Try.prog Try.f9 false true false false W args v W' := by
  have hW' := hW
  obtain ⟨p, q, hA0, hV, rfl, hfz, hnd⟩ := hW
  have hA : DataW.TrodAll enc Try.prog W 0 (fun _ => true) true Try.f9.params.toList args.toList ds p := hA0
  rw [Try.params9] at hA hval
  obtain ⟨v0, vs0, d0, ds0, p0, q0, hargs, rfl, rfl, h0, r0⟩ := trodAll_cons hA
  obtain ⟨v1, vs1, d1, ds1, p1, q1, rfl, rfl, rfl, h1, r1⟩ := trodAll_cons r0
  obtain ⟨v2, vs2, d2, ds2, p2, q2, rfl, rfl, rfl, h2, r2⟩ := trodAll_cons r1
  obtain ⟨v3, vs3, d3, ds3, p3, q3, rfl, rfl, rfl, h3, r3⟩ := trodAll_cons r2
  obtain ⟨rfl, rfl, rfl⟩ := trodAll_nil r3
  obtain rfl : args = #[v0, v1, v2, v3] := by cases args; simp_all
  obtain ⟨rfl, rfl⟩ := trodVars_none hV
  have k0 := h0
  have lt0 : ∀ x ∈ p0, x.block < W.heap.size := by obtain ⟨m, hm⟩ := k0; exact DataW.trod_lt m _ _ _ hm
  obtain ⟨b0, l0, c0, rfl⟩ := okWide_slice Try.underlying22 (hval 0 22 v0 rfl rfl)
  obtain ⟨fu0, hf0⟩ := h0
  obtain ⟨a0, len0, cap0, zs0, ce0, row0⟩ := open_rowG 7 cells56 ok56 (by omega) cells56_length Try.underlying22 (by kernel_rfl) elem56 hf0
  obtain ⟨rfl, rfl, rfl⟩ : a0 = b0 ∧ len0 = l0 ∧ cap0 = c0 := by simpa [Value.cells, eq_comm] using ce0
  obtain ⟨a1, rfl, rfl, rfl, w1⟩ := open_int Try.underlying3 (hval 1 3 v1 rfl rfl) h1
  have k2 := h2
  have lt2 : ∀ x ∈ p2, x.block < W.heap.size := by obtain ⟨m, hm⟩ := k2; exact DataW.trod_lt m _ _ _ hm
  obtain ⟨cs2, rfl, hs2⟩ := okWide_struct Try.underlying25 (hval 2 25 v2 rfl rfl)
  obtain ⟨u2a, u2b, rfl⟩ := arr2 (hs2.trans (by kernel_rfl))
  obtain ⟨fu2, hf2⟩ := h2
  obtain ⟨_, _, e17⟩ := field_at Try.underlying25 hf2 0 rfl 1 (by kernel_rfl)
  obtain ⟨a20, c18, _, w20⟩ := DataW.trod_int Try.underlying23 e17
  obtain rfl : u2a = .int .u32 a20 := by simpa [Value.cells] using c18
  obtain ⟨_, _, e19⟩ := field_at Try.underlying25 hf2 1 rfl 1 (by kernel_rfl)
  obtain ⟨a21, c20, _, w21⟩ := DataW.trod_int Try.underlying3 e19
  obtain rfl : u2b = .int .i64 a21 := by simpa [Value.cells] using c20
  have k3 := h3
  have lt3 : ∀ x ∈ p3, x.block < W.heap.size := by obtain ⟨m, hm⟩ := k3; exact DataW.trod_lt m _ _ _ hm
  obtain ⟨b3, l3, c3, rfl⟩ := okWide_slice Try.underlying40 (hval 3 40 v3 rfl rfl)
  obtain ⟨fu3, hf3⟩ := h3
  obtain ⟨a3, len3, cap3, zs3, ce3, row3⟩ := open_rowG 1 cells4 ok4 (by omega) cells4_length Try.underlying40 (by kernel_rfl) elem4 hf3
  obtain ⟨rfl, rfl, rfl⟩ : a3 = b3 ∧ len3 = l3 ∧ cap3 = c3 := by simpa [Value.cells, eq_comm] using ce3
  clear hA0
  refine (walk a0 len0 cap0 zs0 a1 a20 a21 a3 len3 cap3 zs3 W row0 w1 w20 w21 row3 hsh).mono fun e W' ⟨he, bel⟩ => ?_
  subst he
  exact ⟨_, rfl, _, _, _, [], _, [], hW', trodAll_mk1 (shut_bool Try.underlying4 _), (trodAll_cons_mk (Below.trod laidOut (by kernel_rfl) (of_decide_eq_true (by kernel_rfl)) k0 bel lt0) (trodAll_cons_mk (shut_int Try.underlying3 w1) (trodAll_cons_mk (Below.trod laidOut (by kernel_rfl) (of_decide_eq_true (by kernel_rfl)) k2 bel lt2) (trodAll_cons_mk (Below.trod laidOut (by kernel_rfl) (of_decide_eq_true (by kernel_rfl)) k3 bel lt3) trodAll_mk0)))), rfl, bel.frame _, fun h => by cases h⟩

theorem laid_met (os : Os) : laidMet Try.prog Rows.ribToldRow.laid ((World.doorLaid Try.prog 24 os).forCall (fun _ _ => 0) ⟨#[], #[.slice none 0 0, .int .i64 0, .agg #[.int .u32 0, .int .i64 0], .slice none 0 0], []⟩).memory :=
  laidMet_of_run' 8 (by kernel_rfl) (by kernel_rfl)
theorem reads (os : Os) {H : Type} (enc : TypeId × Value → H) : ∃ places, DataW.whole enc Try.prog ((World.doorLaid Try.prog 24 os).forCall (fun _ _ => 0) ⟨#[], #[.slice none 0 0, .int .i64 0, .agg #[.int .u32 0, .int .i64 0], .slice none 0 0], []⟩).memory Try.f9.params.toList Rows.ribToldSpec.vars false (#[.slice none 0 0, .int .i64 0, .agg #[.int .u32 0, .int .i64 0], .slice none 0 0] : Array Value).toList 8 = some ([.nil, .lit (.int .i64 0), .agg [.lit (.int .u32 0), .lit (.int .i64 0)], .nil], [], places) :=
  ⟨[], by kernel_rfl⟩

set_option maxRecDepth 100000 in
theorem lifted (os : Os) (started : os.Started) (H : Type) (enc : TypeId × Value → H) (F : Stop.Interp) :
    ReturnsInHanded {} Try.checked os 9 .any ((OpenSpec.ofChange Rows.ribToldSpec).preRow enc Try.prog Try.f9 Rows.ribToldRow.domain false Rows.ribToldRow.laid) (((OpenSpec.ofChange Rows.ribToldSpec).at F).post enc Try.prog Try.f9 false true false false) := by
  obtain ⟨places, hx⟩ := reads os enc
  refine returnsInHanded_of_row (C := Try.checked) (s := (OpenSpec.ofChange Rows.ribToldSpec)) own started (by kernel_rfl) Try.func9
    (witness_row_at (enc := enc) (C := Try.checked) false (World.doorLaid Try.prog 24 os) #[.slice none 0 0, .int .i64 0, .agg #[.int .u32 0, .int .i64 0], .slice none 0 0] rfl (by kernel_rfl) (by kernel_rfl) (by kernel_rfl)
      (OpenSpec.preRow_of_cond 8 hx (by kernel_rfl) (fun k hk => by cases hk) (by kernel_rfl) (laid_met os))) ?_
  intro W base args ds gs before hval hW _ hcond _ hL hsh _
  exact contract H enc W base args ds gs before hval hW hsh

theorem said : Rows.RibToldSaid :=
  OpenClaim.holds_of_cond 9 Try.f9 rfl rfl rfl rfl rfl rfl rfl ⟨rfl, rfl, rfl, rfl, rfl⟩ rfl rfl rfl rfl rfl (by kernel_rfl) Try.func9 (by kernel_rfl)
    (of_decide_eq_true (by kernel_rfl)) (by unfold Func.isWrapper; first | (rw [if_pos (by decide +kernel)]; kernel_rfl) | (rw [if_neg (by decide +kernel)]; exact ⟨rfl, rfl⟩))
    (fun os started H enc _ F => by rw [OpenClaim.pre_eq_preRow]; exact lifted os started H enc F)

end Go.Proofs.Ytbchfmadmcppkaa.ribTold

namespace Go.Proofs.Ytbchfmadmcppkaa
theorem ribTold_holds : Rows.RibToldSaid := ribTold.said
#print axioms ribTold_holds
end Go.Proofs.Ytbchfmadmcppkaa
