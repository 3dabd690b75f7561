/- For every two prefixes and every address, the law AddrPairs returns true: of two prefixes that may be one covers the other, or they have nothing in common; no condition. -/
import Derived.Test.YthgjmgdnilohcaaDoorCards
import Derived.Test.YthgjmgdnilohcaaDoorTie
import Derived.Test.YthgjmgdnilohcaaDoorAddrT
import Derived.Test.YthgjmgdnilohcaaDoorRef3
import Derived.Test.YthgjmgdnilohcaaDoorGrow2
import Derived.WalkKit
import Derived.ProofKit
import Derived.OpenShut
import Derived.ShutString
import Derived.ChangeOld
import Derived.Deep.DeepHandedRow
import Derived.Lib.LaidTab
import Derived.Lib.SmallJoins
import Derived.LaidMore
import Derived.Stop.LaidErr
namespace Go.Proofs.YthgjmgdnilohcaaDoor.addrPairs
open Go.ChangeShapes Go.WideShapes Go.ChangeAt Go.RowKit
set_option linter.unusedVariables false

theorem own : ownKnob Tryd.prog.godebug = none := by kernel_rfl
theorem laidOut : laidOutB Tryd.prog = true := by kernel_rfl

theorem cells_box {w : World} {b : Nat} {v0 v1 : Value} {t : TypeId} (h : w.heap[b]? = some (.cells #[v0, v1] t (0, 0))) :
    w.cell? ⟨b, 0, none⟩ = some v0 ∧ w.cell? ⟨b, 1, none⟩ = some v1 ∧ w.frozen? ⟨b, 0, none⟩ = false ∧ w.frozen? ⟨b, 1, none⟩ = false := by
  exact ⟨by rw [heap_cell h]; rfl, by rw [heap_cell h]; rfl, heap_frozen h, heap_frozen h⟩

set_option maxHeartbeats 4000000 in
theorem walk (a00 a01 : Int) (a10 a11 : Int) (a2 : Int) (w : World) (w00 : (Lit.int .u32 a00).wf = true) (w01 : (Lit.int .i64 a01).wf = true) (w10 : (Lit.int .u32 a10).wf = true) (w11 : (Lit.int .i64 a11).wf = true) (w2 : (Lit.int .u32 a2).wf = true) (ht : Tab w) (hsh : w.ShapedOpen Tryd.prog) :
    Calls Tryd.prog 8 #[.agg #[.int .u32 a00, .int .i64 a01], .agg #[.int .u32 a10, .int .i64 a11], .int .u32 a2] w fun e w' => e = .returned (.bool true) ∧ Below w.heap.size w w' := by
  have hb0 := bounds_u32 w00
  have hb1 := bounds_u32 w10
  have hb2 := bounds_u32 w2
  have hd := normV_bd a00 a01 hb0.1 hb0.2
  have he := normV_bd a10 a11 hb1.1 hb1.2
  have c1 := fun w => refNorm_any a00 a01 w hb0.1 hb0.2
  have c2 := fun w => refNorm_any a10 a11 w hb1.1 hb1.2
  have c3 := fun w => covers_any (normV a00 a01) (holdV a01) (normV a10 a11) (holdV a11) w hd.1 hd.2 he.1 he.2
  have c4 := fun w => covers_any (normV a10 a11) (holdV a11) (normV a00 a01) (holdV a01) w he.1 he.2 hd.1 hd.2
  have c5 := fun w => has_any (normV a00 a01) (holdV a01) a2 w hd.1 hd.2 hb2.1 hb2.2
  have c6 := fun w => has_any (normV a10 a11) (holdV a11) a2 w he.1 he.2 hb2.1 hb2.2
  have c7 := fun w => has_any (normV a00 a01) (holdV a01) (normV a10 a11) w hd.1 hd.2 he.1 he.2
  have c8 := fun w => has_any (normV a10 a11) (holdV a11) (normV a00 a01) w he.1 he.2 hd.1 hd.2
  have hbt : coversV (normV a00 a01) (holdV a01) (normV a10 a11) (holdV a11) = true → coversV (normV a10 a11) (holdV a11) (normV a00 a01) (holdV a01) = true → normV a00 a01 = normV a10 a11 ∧ holdV a01 = holdV a11 := covers_both
  have hch := fun h1 h2 => covers_none (a := normV a00 a01) (n := holdV a01) (b := normV a10 a11) (m := holdV a11) h1 h2 a2
  generalize hasV (normV a00 a01) (holdV a01) a2 = r at *
  generalize hasV (normV a10 a11) (holdV a11) a2 = s at *
  generalize hasV (normV a00 a01) (holdV a01) (normV a10 a11) = r2 at *
  generalize hasV (normV a10 a11) (holdV a11) (normV a00 a01) = s2 at *
  generalize coversV (normV a00 a01) (holdV a01) (normV a10 a11) (holdV a11) = o at *
  generalize coversV (normV a10 a11) (holdV a11) (normV a00 a01) (holdV a01) = u at *
  generalize normV a00 a01 = d at *
  generalize normV a10 a11 = e at *
  generalize holdV a01 = h at *
  generalize holdV a11 = j at *
  have eg := eq_guard
  clear w00 w01 w10 w11 w2
  obtain ⟨hx0, hp0, hp1, hq0, hq1⟩ := boxed22 w (.int .u32 a00) (.int .i64 a01) (.int .u32 a10) (.int .i64 a11) 24
  have hh0 : ((w.alloc (.cells #[.int .u32 a00, .int .i64 a01] 24)).alloc (.cells #[.int .u32 a10, .int .i64 a11] 24)).drew.heap[w.heap.size]? = some (.cells #[.int .u32 a00, .int .i64 a01] 24 (0, 0)) :=
    (Below.heap_alloc (w.alloc (.cells #[.int .u32 a00, .int .i64 a01] 24)) _ w.heap.size (by simp)).trans (heap_new w _)
  have hh1 : ((w.alloc (.cells #[.int .u32 a00, .int .i64 a01] 24)).alloc (.cells #[.int .u32 a10, .int .i64 a11] 24)).drew.heap[w.heap.size + 1]? = some (.cells #[.int .u32 a10, .int .i64 a11] 24 (0, 0)) := by
    have := heap_new (w.alloc (.cells #[.int .u32 a00, .int .i64 a01] 24)) (.cells #[.int .u32 a10, .int .i64 a11] 24)
    rwa [show (w.alloc (.cells #[.int .u32 a00, .int .i64 a01] 24)).heap.size = w.heap.size + 1 by simp] at this
  have H0 : Hid _ := hh0
  have H1 : Hid _ := hh1
  have HB : Hid _ := hbt
  have HC : Hid _ := hch
  clear hh0 hh1 hbt hch
  have tok1 : Hid True := trivial
  go_enter Tryd.func8, Tryd.ntmps8
  go_wp2
  refine wp_region_tail [4, 5] [(0, false), (2, false), (1, true), (3, true)] (by kernel_rfl) (by kernel_rfl) rfl (by kernel_rfl) (fun _ _ _ _ _ h => h) ?_
  generalize ((w.alloc (.cells #[.int .u32 a00, .int .i64 a01] 24)).alloc (.cells #[.int .u32 a10, .int .i64 a11] 24)).drew = W at *
  repeat (first
    | (refine wpE_read (v := ?_) rfl (by rfl) ?_ ?_; rotate_left; (focus (intro w' hx; go_simp; first | done | with_reducible rfl)); simp only [Act.put, List.setIfInBounds_toArray, List.set_cons_zero, List.set_cons_succ])
    | (refine wpE_call rfl (by rfl) (fun K hK => ?_); go_simp; first
        | (go_at_call 21; clear tok1; refine (c1 _).mono ?_; rintro e w1 ⟨rfl, hx1⟩; refine hK _ _ hx1 ?_; clear hK K; replace hp0 := fun w' h => hp0 w' (hx1.trans h); replace hp1 := fun w' h => hp1 w' (hx1.trans h); replace hq0 := fun w' h => hq0 w' (hx1.trans h); replace hq1 := fun w' h => hq1 w' (hx1.trans h); replace hx0 := hx0.trans hx1)
        | (go_at_call 21; refine (c2 _).mono ?_; rintro e w2 ⟨rfl, hx2⟩; refine hK _ _ hx2 ?_; clear hK K; replace hp0 := fun w' h => hp0 w' (hx2.trans h); replace hp1 := fun w' h => hp1 w' (hx2.trans h); replace hq0 := fun w' h => hq0 w' (hx2.trans h); replace hq1 := fun w' h => hq1 w' (hx2.trans h); replace hx0 := hx0.trans hx2)))
  refine wpE_done ?_
  have k0 := (hx1.trans hx2).heap H0.out
  have k1 := (hx1.trans hx2).heap H1.out
  obtain ⟨d0, d1, f0, f1⟩ := cells_box k0
  obtain ⟨d2, d3, f2, f3⟩ := cells_box k1
  have HX : Hid _ := hx0
  have K0 : Hid _ := k0
  have K1 : Hid _ := k1
  clear hp0 hp1 hq0 hq1 H0 H1 hx1 hx2 hx0 k0 k1
  refine wpT_step rfl (by rfl) (fun K hK => ?_)
  go_simp
  refine hK _ _ ?_
  clear hK K
  refine wpT_step rfl (by rfl) (fun K hK => ?_)
  go_simp
  refine hK _ _ ?_
  clear hK K
  refine wpT_done ?_
  have k0 := heap_set (heap_set K0.out (k := 0) (.int .u32 d)) (k := 1) (.int .i64 h)
  have k1 := K1.out
  rw [← Below.heap_setCell w2 ⟨w.heap.size, 0, none⟩ (.int .u32 d) (w.heap.size + 1) (by show w.heap.size + 1 ≠ w.heap.size; omega), ← Below.heap_setCell _ ⟨w.heap.size, 1, none⟩ (.int .i64 h) (w.heap.size + 1) (by show w.heap.size + 1 ≠ w.heap.size; omega)] at k1
  have k2 := heap_set (heap_set k1 (k := 0) (.int .u32 e)) (k := 1) (.int .i64 j)
  rw [← Below.heap_setCell _ ⟨w.heap.size + 1, 0, none⟩ (.int .u32 e) w.heap.size (by show w.heap.size ≠ w.heap.size + 1; omega), ← Below.heap_setCell _ ⟨w.heap.size + 1, 1, none⟩ (.int .i64 j) w.heap.size (by show w.heap.size ≠ w.heap.size + 1; omega)] at k0
  have hx0 : Ext w ((((w2.setCell ⟨w.heap.size, 0, none⟩ (.int .u32 d)).setCell ⟨w.heap.size, 1, none⟩ (.int .i64 h)).setCell ⟨w.heap.size + 1, 0, none⟩ (.int .u32 e)).setCell ⟨w.heap.size + 1, 1, none⟩ (.int .i64 j)) :=
    (((Below.setCell HX.out (p := ⟨w.heap.size, 0, none⟩) (Nat.le_refl _) _).setCell (p := ⟨w.heap.size, 1, none⟩) (Nat.le_refl _) _).setCell (p := ⟨w.heap.size + 1, 0, none⟩) (Nat.le_succ _) _).setCell (p := ⟨w.heap.size + 1, 1, none⟩) (Nat.le_succ _) _
  clear d0 d1 d2 d3 f0 f1 f2 f3 HX K0 K1 k1
  generalize ((((w2.setCell ⟨w.heap.size, 0, none⟩ (.int .u32 d)).setCell ⟨w.heap.size, 1, none⟩ (.int .i64 h)).setCell ⟨w.heap.size + 1, 0, none⟩ (.int .u32 e)).setCell ⟨w.heap.size + 1, 1, none⟩ (.int .i64 j)) = V at *
  obtain ⟨p0, p1⟩ := box2 k0 (w.heap.size + 2) (by omega)
  obtain ⟨q0, q1⟩ := box2 k2 (w.heap.size + 2) (by omega)
  have hp0 := fun w' (hx : Ext V w') => p0 w' (hx.but _)
  have hp1 := fun w' (hx : Ext V w') => p1 w' (hx.but _)
  have hq0 := fun w' (hx : Ext V w') => q0 w' (hx.but _)
  have hq1 := fun w' (hx : Ext V w') => q1 w' (hx.but _)
  have hv : Ext V V := Ext.refl V
  clear p0 p1 q0 q1 k0 k2
  have HV : Hid _ := hx0
  clear hx0
  have H := HB.out
  have G := HC.out
  clear HB HC
  cases o <;> cases u
  · obtain ⟨g1, g2, g3⟩ := G rfl rfl
    clear G H
    subst g2 g3
    cases r
    · clear g1
      have t0 : Hid True := trivial
      have t1 : Hid True := trivial
      have t2 : Hid True := trivial
      have t3 : Hid True := trivial
      have t4 : Hid True := trivial
      have t5 : Hid True := trivial
      go_wp2_with (first
        | (go_at_call 26; clear t0; refine (c3 _).mono ?_; rintro e1 w20 ⟨rfl, hx⟩; replace hv := hv.trans hx; clear hx)
        | (go_at_call 26; clear t1; refine (c3 _).mono ?_; rintro e1 w21 ⟨rfl, hx⟩; replace hv := hv.trans hx; clear hx)
        | (go_at_call 26; clear t2; refine (c4 _).mono ?_; rintro e1 w22 ⟨rfl, hx⟩; replace hv := hv.trans hx; clear hx)
        | (go_at_call 24; clear t3; refine (c5 _).mono ?_; rintro e1 w23 ⟨rfl, hx⟩; replace hv := hv.trans hx; clear hx)
        | (go_at_call 24; clear t4; refine (c7 _).mono ?_; rintro e1 w24 ⟨rfl, hx⟩; replace hv := hv.trans hx; clear hx)
        | (go_at_call 24; clear t5; refine (c8 _).mono ?_; rintro e1 w25 ⟨rfl, hx⟩; replace hv := hv.trans hx; clear hx)
        | (go_at_call 17; refine (addrKnown_any _ (ht.later (Ext.trans HV.out hv))).mono ?_; rintro e1 w11 ⟨rfl, hx⟩; replace hv := hv.trans hx; clear hx))
      go_ret
      exact ⟨rfl, Ext.trans HV.out hv⟩
    · have g4 : s = false := by simpa using g1
      subst g4
      clear g1
      have t0 : Hid True := trivial
      have t1 : Hid True := trivial
      have t2 : Hid True := trivial
      have t3 : Hid True := trivial
      have t4 : Hid True := trivial
      have t5 : Hid True := trivial
      have t6 : Hid True := trivial
      go_wp2_with (first
        | (go_at_call 26; clear t0; refine (c3 _).mono ?_; rintro e1 w20 ⟨rfl, hx⟩; replace hv := hv.trans hx; clear hx)
        | (go_at_call 26; clear t1; refine (c3 _).mono ?_; rintro e1 w21 ⟨rfl, hx⟩; replace hv := hv.trans hx; clear hx)
        | (go_at_call 26; clear t2; refine (c4 _).mono ?_; rintro e1 w22 ⟨rfl, hx⟩; replace hv := hv.trans hx; clear hx)
        | (go_at_call 24; clear t3; refine (c5 _).mono ?_; rintro e1 w23 ⟨rfl, hx⟩; replace hv := hv.trans hx; clear hx)
        | (go_at_call 24; clear t4; refine (c6 _).mono ?_; rintro e1 w24 ⟨rfl, hx⟩; replace hv := hv.trans hx; clear hx)
        | (go_at_call 24; clear t5; refine (c7 _).mono ?_; rintro e1 w25 ⟨rfl, hx⟩; replace hv := hv.trans hx; clear hx)
        | (go_at_call 24; clear t6; refine (c8 _).mono ?_; rintro e1 w26 ⟨rfl, hx⟩; replace hv := hv.trans hx; clear hx)
        | (go_at_call 17; refine (addrKnown_any _ (ht.later (Ext.trans HV.out hv))).mono ?_; rintro e1 w11 ⟨rfl, hx⟩; replace hv := hv.trans hx; clear hx))
      go_ret
      exact ⟨rfl, Ext.trans HV.out hv⟩
  · clear G H
    have t0 : Hid True := trivial
    have t1 : Hid True := trivial
    have t2 : Hid True := trivial
    go_wp2_with (first
      | (go_at_call 26; clear t0; refine (c3 _).mono ?_; rintro e1 w20 ⟨rfl, hx⟩; replace hv := hv.trans hx; clear hx)
      | (go_at_call 26; clear t1; refine (c3 _).mono ?_; rintro e1 w21 ⟨rfl, hx⟩; replace hv := hv.trans hx; clear hx)
      | (go_at_call 26; clear t2; refine (c4 _).mono ?_; rintro e1 w22 ⟨rfl, hx⟩; replace hv := hv.trans hx; clear hx)
      | (go_at_call 17; refine (addrKnown_any _ (ht.later (Ext.trans HV.out hv))).mono ?_; rintro e1 w11 ⟨rfl, hx⟩; replace hv := hv.trans hx; clear hx))
    go_ret
    exact ⟨rfl, Ext.trans HV.out hv⟩
  · clear G H
    have t0 : Hid True := trivial
    have t1 : Hid True := trivial
    have t2 : Hid True := trivial
    go_wp2_with (first
      | (go_at_call 26; clear t0; refine (c3 _).mono ?_; rintro e1 w20 ⟨rfl, hx⟩; replace hv := hv.trans hx; clear hx)
      | (go_at_call 26; clear t1; refine (c4 _).mono ?_; rintro e1 w21 ⟨rfl, hx⟩; replace hv := hv.trans hx; clear hx)
      | (go_at_call 26; clear t2; refine (c3 _).mono ?_; rintro e1 w22 ⟨rfl, hx⟩; replace hv := hv.trans hx; clear hx)
      | (go_at_call 17; refine (addrKnown_any _ (ht.later (Ext.trans HV.out hv))).mono ?_; rintro e1 w11 ⟨rfl, hx⟩; replace hv := hv.trans hx; clear hx))
    go_ret
    exact ⟨rfl, Ext.trans HV.out hv⟩
  · obtain ⟨g1, g2⟩ := H rfl rfl
    clear G H
    subst g1 g2
    have eq := fun w => eql_prefix d h d h w
    have t0 : Hid True := trivial
    have t1 : Hid True := trivial
    go_wp2_with (first
      | (go_at_call 26; clear t0; refine (c3 _).mono ?_; rintro e1 w20 ⟨rfl, hx⟩; replace hv := hv.trans hx; clear hx)
      | (go_at_call 26; clear t1; refine (c4 _).mono ?_; rintro e1 w21 ⟨rfl, hx⟩; replace hv := hv.trans hx; clear hx)
      | (go_at_call 17; refine (addrKnown_any _ (ht.later (Ext.trans HV.out hv))).mono ?_; rintro e1 w11 ⟨rfl, hx⟩; replace hv := hv.trans hx; clear hx))
    go_ret
    exact ⟨rfl, Ext.trans HV.out hv⟩

theorem table {W : World} (h : laidMetH Tryd.prog Rows.addrPairsRow.laid W) : Tab W := by
  have h1 : laidMet Tryd.prog Rows.addrPairsRow.laid W := h
  have e : (Rows.laid_internal_strconv_uint64pow10 : DataW Unit) = Lib.tabData .u64 Lib.pow10Tab := by kernel_rfl
  have h2 : laidMet Tryd.prog [("internal/strconv.uint64pow10", Rows.laid_internal_strconv_uint64pow10)] W := h1.tail.tail
  rw [e] at h2
  exact Lib.tabIs_of_head (g := 1) (t := 70) (e := 57) (n := 20) (by kernel_rfl) (by kernel_rfl) Tryd.underlying70 Tryd.underlying57 (by kernel_rfl) (by kernel_rfl) h2

theorem contract (H : Type) (enc : TypeId × Value → H) (W : World) (base : Nat) (args : Array Value) (ds gs : List (DataW H)) (before : List MemPlace)
    (hval : ∀ (j : Nat) t v, Tryd.f8.params[j]? = some t → args[j]? = some v → Value.okWide Tryd.prog W .any base t v)
    (hW : DataW.Whole enc Tryd.prog Tryd.f8.params.toList Rows.addrPairsSpec.vars false W args.toList ds gs before) (ht : Tab W) (hsh : W.ShapedOpen Tryd.prog) :
    Calls Tryd.prog 8 args W fun e W' => ∃ v, e = .returned v ∧ Rows.addrPairsSpec.post enc Tryd.prog Tryd.f8 false true false false W args v W' := by
  have hW' := hW
  obtain ⟨p, q, hA0, hV, rfl, hfz, hnd⟩ := hW
  have hA : DataW.TrodAll enc Tryd.prog W 0 (fun _ => true) true Tryd.f8.params.toList args.toList ds p := hA0
  rw [Tryd.params8] at hA hval
  obtain ⟨v0, vs0, d0, ds0, p0, q0, hargs, rfl, rfl, h0, r0⟩ := trodAll_cons hA
  obtain ⟨v1, vs1, d1, ds1, p1, q1, rfl, rfl, rfl, h1, r1⟩ := trodAll_cons r0
  obtain ⟨v2, vs2, d2, ds2, p2, q2, rfl, rfl, rfl, h2, r2⟩ := trodAll_cons r1
  obtain ⟨rfl, rfl, rfl⟩ := trodAll_nil r2
  obtain rfl : args = #[v0, v1, v2] := by cases args; simp_all
  obtain ⟨rfl, rfl⟩ := trodVars_none hV
  have k0 := h0
  have lt0 : ∀ x ∈ p0, x.block < W.heap.size := by obtain ⟨m, hm⟩ := k0; exact DataW.trod_lt m _ _ _ hm
  obtain ⟨u00, u01, y00, y01, m0, rfl, _, _, e00, e01⟩ := Joins.open_agg2 Tryd.underlying24 (by kernel_rfl) (by kernel_rfl) (hval 0 24 v0 rfl rfl) h0
  obtain ⟨a00, c00, _, w00⟩ := DataW.trod_int Tryd.underlying22 e00
  obtain rfl : u00 = .int .u32 a00 := by simpa using c00
  obtain ⟨a01, c01, _, w01⟩ := DataW.trod_int Tryd.underlying3 e01
  obtain rfl : u01 = .int .i64 a01 := by simpa using c01
  have k1 := h1
  have lt1 : ∀ x ∈ p1, x.block < W.heap.size := by obtain ⟨m, hm⟩ := k1; exact DataW.trod_lt m _ _ _ hm
  obtain ⟨u10, u11, y10, y11, m1, rfl, _, _, e10, e11⟩ := Joins.open_agg2 Tryd.underlying24 (by kernel_rfl) (by kernel_rfl) (hval 1 24 v1 rfl rfl) h1
  obtain ⟨a10, c10, _, w10⟩ := DataW.trod_int Tryd.underlying22 e10
  obtain rfl : u10 = .int .u32 a10 := by simpa using c10
  obtain ⟨a11, c11, _, w11⟩ := DataW.trod_int Tryd.underlying3 e11
  obtain rfl : u11 = .int .i64 a11 := by simpa using c11
  obtain ⟨a2, rfl, rfl, rfl, w2⟩ := open_int Tryd.underlying22 (hval 2 22 v2 rfl rfl) h2
  clear hA0
  refine (walk a00 a01 a10 a11 a2 W w00 w01 w10 w11 w2 ht hsh).mono fun e W' ⟨he, bel⟩ => ?_
  subst he
  exact ⟨_, rfl, _, _, _, [], _, [], hW', trodAll_mk1 (shut_bool Tryd.underlying4 _), (trodAll_cons_mk (Below.trod laidOut (by kernel_rfl) (of_decide_eq_true (by kernel_rfl)) k0 bel lt0) (trodAll_cons_mk (Below.trod laidOut (by kernel_rfl) (of_decide_eq_true (by kernel_rfl)) k1 bel lt1) (trodAll_cons_mk (shut_int Tryd.underlying22 w2) trodAll_mk0))), rfl, bel.frame _, fun h => by cases h⟩

theorem laid_met (os : Os) : laidMet Tryd.prog Rows.addrPairsRow.laid ((World.doorLaid Tryd.prog 24 os).forCall (fun _ _ => 0) ⟨#[], #[.agg #[.int .u32 0, .int .i64 0], .agg #[.int .u32 0, .int .i64 0], .int .u32 0], []⟩).memory :=
  laidMet_of_run' 8 (by kernel_rfl) (by kernel_rfl)
theorem reads (os : Os) {H : Type} (enc : TypeId × Value → H) : ∃ places, DataW.whole enc Tryd.prog ((World.doorLaid Tryd.prog 24 os).forCall (fun _ _ => 0) ⟨#[], #[.agg #[.int .u32 0, .int .i64 0], .agg #[.int .u32 0, .int .i64 0], .int .u32 0], []⟩).memory Tryd.f8.params.toList Rows.addrPairsSpec.vars false (#[.agg #[.int .u32 0, .int .i64 0], .agg #[.int .u32 0, .int .i64 0], .int .u32 0] : Array Value).toList 8 = some ([.agg [.lit (.int .u32 0), .lit (.int .i64 0)], .agg [.lit (.int .u32 0), .lit (.int .i64 0)], .lit (.int .u32 0)], [], places) :=
  ⟨[], by kernel_rfl⟩

set_option maxRecDepth 100000 in
theorem lifted (os : Os) (started : os.Started) (H : Type) (enc : TypeId × Value → H) (F : Stop.Interp) :
    ReturnsInHanded {} Tryd.checked os 8 .any ((OpenSpec.ofChange Rows.addrPairsSpec).preRow enc Tryd.prog Tryd.f8 Rows.addrPairsRow.domain false Rows.addrPairsRow.laid) (((OpenSpec.ofChange Rows.addrPairsSpec).at F).post enc Tryd.prog Tryd.f8 false true false false) := by
  obtain ⟨places, hx⟩ := reads os enc
  refine returnsInHanded_of_row (C := Tryd.checked) (s := (OpenSpec.ofChange Rows.addrPairsSpec)) own started (by kernel_rfl) Tryd.func8
    (witness_row_at (enc := enc) (C := Tryd.checked) false (World.doorLaid Tryd.prog 24 os) #[.agg #[.int .u32 0, .int .i64 0], .agg #[.int .u32 0, .int .i64 0], .int .u32 0] rfl (by kernel_rfl) (by kernel_rfl) (by kernel_rfl)
      (OpenSpec.preRow_of_cond 8 hx (by kernel_rfl) (fun k hk => by cases hk) (by kernel_rfl) (laid_met os))) ?_
  intro W base args ds gs before hval hW _ hcond _ hL hsh _
  exact contract H enc W base args ds gs before hval hW (table hL) hsh

theorem said : Rows.AddrPairsSaid :=
  OpenClaim.holds_of_cond 8 Tryd.f8 rfl rfl rfl rfl rfl rfl rfl ⟨rfl, rfl, rfl, rfl, rfl⟩ rfl rfl rfl rfl rfl (by kernel_rfl) Tryd.func8 (by kernel_rfl)
    (of_decide_eq_true (by kernel_rfl)) (by unfold Func.isWrapper; first | (rw [if_pos (by decide +kernel)]; kernel_rfl) | (rw [if_neg (by decide +kernel)]; exact ⟨rfl, rfl⟩))
    (fun os started H enc _ F => by rw [OpenClaim.pre_eq_preRow]; exact lifted os started H enc F)

theorem plain (f : FuncId) (fn : Func) (hf : Tryd.pinned.checked.prog.funcNamed "castellan/castellanlaw3.AddrPairs" = some f) (hfn : Tryd.pinned.checked.prog.funcs[f]? = some fn) :
    false = Tryd.pinned.checked.prog.looks [] ∧ ∀ (j : Nat) t, fn.params[j]? = some t → Tryd.pinned.checked.prog.wantsStandIn t = false := by
  obtain rfl : f = 8 := Option.some.inj ((show Tryd.prog.funcNamed "castellan/castellanlaw3.AddrPairs" = some 8 by kernel_rfl).symm.trans hf) |>.symm
  obtain rfl : fn = Tryd.f8 := (Option.some.inj (Tryd.func8.symm.trans hfn)).symm
  refine ⟨by kernel_rfl, fun j t ht => ?_⟩
  rw [Tryd.params8] at ht
  have hm : t ∈ [24, 24, 22] := by simpa using Array.mem_of_getElem? ht
  have hall : ([24, 24, 22].all fun u => !Tryd.prog.wantsStandIn u) = true := by kernel_rfl
  exact (show Tryd.prog.wantsStandIn t = false by simpa using List.all_eq_true.1 hall t hm)

theorem card : Rows.AddrPairsCardSaid :=
  Claim7.holds_tied_plain_at .later [] _ _ _ _ said (fun _ h => by cases h) (by kernel_rfl) (fun _ h => by cases h) addrPairs_row_tie rfl ⟨rfl, rfl⟩ (by kernel_rfl) rfl plain (by kernel_rfl)
end Go.Proofs.YthgjmgdnilohcaaDoor.addrPairs

namespace Go.Proofs.YthgjmgdnilohcaaDoor
theorem addrPairs_holds : Rows.AddrPairsCardSaid := addrPairs.card
#print axioms addrPairs_holds
end Go.Proofs.YthgjmgdnilohcaaDoor
