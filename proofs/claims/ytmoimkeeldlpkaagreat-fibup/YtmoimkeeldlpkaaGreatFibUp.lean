/- For every number of interfaces, every script, every interface and every address, the law FibUp returns true: only ways whose interface is up are told; an interface that goes down and comes up again leaves all as it was; no condition. -/
import Derived.Test.YtmoimkeeldlpkaaGreatRows
import Derived.Test.YtmoimkeeldlpkaaGreatJ1
import Derived.Test.YtmoimkeeldlpkaaGreatJ2
import Derived.Test.YtmoimkeeldlpkaaGreatJ3
import Derived.Test.YtmoimkeeldlpkaaGreatJ4
import Derived.Test.YtmoimkeeldlpkaaGreatJ5
import Derived.Test.YtmoimkeeldlpkaaGreatJ6
import Derived.Test.YtmoimkeeldlpkaaGreatJ7
import Derived.Test.YtmoimkeeldlpkaaGreatJ8
import Derived.Test.YtmoimkeeldlpkaaGreatJ9
import Derived.Test.YtmoimkeeldlpkaaGreatJ10
import Derived.Test.YtmoimkeeldlpkaaGreatJ11
import Derived.Test.YtmoimkeeldlpkaaGreatJ12
import Derived.Test.YtmoimkeeldlpkaaGreatJ13
import Derived.Test.YtmoimkeeldlpkaaGreatJ14
import Derived.Test.YtmoimkeeldlpkaaGreatJ15
import Derived.Test.YtmoimkeeldlpkaaGreatJ16
import Derived.Test.YtmoimkeeldlpkaaGreatJ17
import Derived.Test.YtmoimkeeldlpkaaGreatJ18
import Derived.Test.YtmoimkeeldlpkaaGreatJ19
import Derived.Test.YtmoimkeeldlpkaaGreatJ20
import Derived.Test.YtmoimkeeldlpkaaGreatJ21
import Derived.Test.YtmoimkeeldlpkaaGreatJ22
import Derived.Test.YtmoimkeeldlpkaaGreatJ23
import Derived.Test.YtmoimkeeldlpkaaGreatJ24
import Derived.Test.YtmoimkeeldlpkaaGreatJ25
import Derived.Test.YtmoimkeeldlpkaaGreatJ26
import Derived.WalkKit
import Derived.ProofKit
import Derived.OpenShut
import Derived.ShutString
import Derived.ChangeOld
import Derived.Deep.DeepHandedRow
import Derived.Lib.LaidTab
import Derived.Lib.SmallJoins
import Derived.LaidMore
import Derived.Stop.LaidErr
import Derived.ChangeMaps5
namespace Go.Proofs.YtmoimkeeldlpkaaGreat.fibUp
open Go.ChangeShapes Go.WideShapes Go.ChangeAt Go.RowKit Go.ChangeMaps
set_option linter.unusedVariables false
set_option maxRecDepth 100000

theorem own : ownKnob Tryz.prog.godebug = none := by kernel_rfl
theorem laidOut : laidOutB Tryz.prog = true := by kernel_rfl

abbrev Elem35 := Int × Int × Int × Int × Int × Int × Int × Int × Bool
def cells35 (z : Elem35) : List Value := [.int .i64 (z.1), .int .i64 (z.2.1), .int .u32 (z.2.2.1), .int .i64 (z.2.2.2.1), .int .i64 (z.2.2.2.2.1), .int .u32 (z.2.2.2.2.2.1), .int .i64 (z.2.2.2.2.2.2.1), .int .i64 (z.2.2.2.2.2.2.2.1), .bool (z.2.2.2.2.2.2.2.2)]
def ok35 (z : Elem35) : Prop := (Lit.int .i64 (z.1)).wf = true ∧ (Lit.int .i64 (z.2.1)).wf = true ∧ (Lit.int .u32 (z.2.2.1)).wf = true ∧ (Lit.int .i64 (z.2.2.2.1)).wf = true ∧ (Lit.int .i64 (z.2.2.2.2.1)).wf = true ∧ (Lit.int .u32 (z.2.2.2.2.2.1)).wf = true ∧ (Lit.int .i64 (z.2.2.2.2.2.2.1)).wf = true ∧ (Lit.int .i64 (z.2.2.2.2.2.2.2.1)).wf = true
theorem cells35_length (z : Elem35) : (cells35 z).length = 9 := rfl
theorem elem35 {H : Type} {enc : TypeId × Value → H} {w : World} {base : Nat} {spare : Nat → Bool} {held : Bool} (n : Nat) (cs : List Value) (y : DataW H × List MemPlace)
    (h : DataW.trod enc Tryz.prog w base spare held n 35 cs = some y) : ∃ z : Elem35, cs = cells35 z ∧ ok35 z := by
  have hl : cs.length = 9 := by
    obtain ⟨_, _, _, _, hl, _⟩ := DataW.trod_struct Tryz.underlying35 h
    exact hl.trans (by kernel_rfl)
  obtain ⟨u0, u1, u2, u3, u4, u5, u6, u7, u8, rfl⟩ : ∃ u0 u1 u2 u3 u4 u5 u6 u7 u8, cs = [u0, u1, u2, u3, u4, u5, u6, u7, u8] := by
    match cs, hl with
    | [u0, u1, u2, u3, u4, u5, u6, u7, u8], _ => exact ⟨u0, u1, u2, u3, u4, u5, u6, u7, u8, rfl⟩
  obtain ⟨_, _, e1⟩ := field_at Tryz.underlying35 h 0 rfl 1 (by kernel_rfl)
  obtain ⟨az0, c2, _, wz0⟩ := DataW.trod_int Tryz.underlying3 e1
  obtain rfl : u0 = .int .i64 az0 := by simpa using c2
  obtain ⟨_, _, e3⟩ := field_at Tryz.underlying35 h 1 rfl 6 (by kernel_rfl)
  obtain ⟨_, _, e4⟩ := field_at Tryz.underlying33 e3 0 rfl 1 (by kernel_rfl)
  obtain ⟨az10, c5, _, wz10⟩ := DataW.trod_int Tryz.underlying3 e4
  obtain rfl : u1 = .int .i64 az10 := by simpa using c5
  obtain ⟨_, _, e6⟩ := field_at Tryz.underlying33 e3 1 rfl 2 (by kernel_rfl)
  obtain ⟨_, _, e7⟩ := field_at Tryz.underlying31 e6 0 rfl 1 (by kernel_rfl)
  obtain ⟨az110, c8, _, wz110⟩ := DataW.trod_int Tryz.underlying29 e7
  obtain rfl : u2 = .int .u32 az110 := by simpa using c8
  obtain ⟨_, _, e9⟩ := field_at Tryz.underlying31 e6 1 rfl 1 (by kernel_rfl)
  obtain ⟨az111, c10, _, wz111⟩ := DataW.trod_int Tryz.underlying3 e9
  obtain rfl : u3 = .int .i64 az111 := by simpa using c10
  obtain ⟨_, _, e11⟩ := field_at Tryz.underlying33 e3 2 rfl 1 (by kernel_rfl)
  obtain ⟨az12, c12, _, wz12⟩ := DataW.trod_int Tryz.underlying3 e11
  obtain rfl : u4 = .int .i64 az12 := by simpa using c12
  obtain ⟨_, _, e13⟩ := field_at Tryz.underlying33 e3 3 rfl 1 (by kernel_rfl)
  obtain ⟨az13, c14, _, wz13⟩ := DataW.trod_int Tryz.underlying29 e13
  obtain rfl : u5 = .int .u32 az13 := by simpa using c14
  obtain ⟨_, _, e15⟩ := field_at Tryz.underlying33 e3 4 rfl 1 (by kernel_rfl)
  obtain ⟨az14, c16, _, wz14⟩ := DataW.trod_int Tryz.underlying3 e15
  obtain rfl : u6 = .int .i64 az14 := by simpa using c16
  obtain ⟨_, _, e17⟩ := field_at Tryz.underlying35 h 2 rfl 1 (by kernel_rfl)
  obtain ⟨az2, c18, _, wz2⟩ := DataW.trod_int Tryz.underlying3 e17
  obtain rfl : u7 = .int .i64 az2 := by simpa using c18
  obtain ⟨_, _, e19⟩ := field_at Tryz.underlying35 h 3 rfl 1 (by kernel_rfl)
  obtain ⟨az3, c20, _⟩ := DataW.trod_bool Tryz.underlying4 e19
  obtain rfl : u8 = .bool az3 := by simpa using c20
  exact ⟨(az0, az10, az110, az111, az12, az13, az14, az2, az3), rfl, ⟨wz0, wz10, wz110, wz111, wz12, wz13, wz14, wz2⟩⟩

open Go.Proofs.YtmoimkeeldlpkaaGreat.Tri Go.Proofs.YtmoimkeeldlpkaaGreat.Rb Go.Proofs.YtmoimkeeldlpkaaGreat.Fb

set_option maxHeartbeats 40000000 in
theorem walk (a0 : Int) (a1 : Option Addr) (len1 cap1 : Nat) (zs1 : List Elem35) (a2 : Int) (a3 : Int) (w : World) (w0 : (Lit.int .i64 a0).wf = true) (row1 : IsRowG 9 cells35 ok35 w a1 len1 cap1 zs1) (w2 : (Lit.int .i64 a2).wf = true) (w3 : (Lit.int .u32 a3).wf = true) (hsh : w.ShapedOpen Tryz.prog) :
    Calls Tryz.prog 6 #[.int .i64 a0, .slice a1 len1 cap1, .int .i64 a2, .int .u32 a3] w fun e w' => e = .returned (.bool true) ∧ Below w.heap.size w w' := by
  have hb3 := bounds_u32 w3
  have row : IsRowG 9 aC aOk w a1 len1 cap1 zs1 := row1
  have kn := fun w => known_any w
  have hm := row.le
  have hm2 := row.room
  unfold maxLen at hm2
  have HR : Hid (IsRowG 9 aC aOk w a1 len1 cap1 zs1) := row
  have HB3 : Hid (0 ≤ a3 ∧ a3 ≤ 4294967295) := hb3
  have er := fun x w => eql_rt x x w
  simp only [eqB_refl] at er
  have HER : Hid (∀ (x : Rt) (w : World), (binOp .eql 33 (.agg #[.int .i64 x.t, .int .u32 x.a, .int .i64 x.l, .int .i64 x.i, .int .u32 x.g, .int .i64 x.m]) (.agg #[.int .i64 x.t, .int .u32 x.a, .int .i64 x.l, .int .i64 x.i, .int .u32 x.g, .int .i64 x.m])).run Tryz.prog w = .ok (.bool true) w) := er
  clear row row1 w3 hb3 er
  go_enter Tryz.func6, Tryz.ntmps6
  go_wp2_with (first
    | (go_at_call 10; refine (fnew_any a0 _).mono ?_; rintro e w1 ⟨fb, F, rfl, h1, hx1, hF⟩; have H1 : Hid (FibAt w1 fb [] (List.replicate (clampN a0) true) F ∧ Ext w w1 ∧ ∀ x ∈ F, w.heap.size ≤ x) := ⟨h1, hx1, hF⟩; clear h1 hx1 hF)
    | (go_at_call 11; refine (dnew_any a0 _).mono ?_; rintro e w2 ⟨xb, G, rfl, h2, hx2, hG⟩; have HB0 : Hid (BothH w w2 fb xb [] (List.replicate (clampN a0) true) [] (List.replicate (clampN a0) true) (F ++ G)) := both_new H1.out.1 H1.out.2.1 H1.out.2.2 h2 hx2 hG; clear h2 hx2 hG))
  go_loopw [11] (fun i wr => ∃ k : Nat, k ≤ 50 ∧ k ≤ len1 ∧ i = .int .i64 k ∧ Hid (Play w wr fb xb)) (fun i _ => 50 - (intOf i).toNat)
  case atStart => exact ⟨0, Nat.zero_le _, Nat.zero_le _, rfl, (⟨_, _, _, HB0.out⟩ : Play w w2 fb xb)⟩
  case round =>
    clear HB0 H1
    obtain ⟨k, hk, hkl, rfl, HK⟩ := hrel
    obtain ⟨L, U, H, hB⟩ := HK.out
    have HB : Hid (BothH w wr fb xb L U L U H) := hB
    have HE : Hid (Ext w wr) := hB.ext
    clear hB HK
    by_cases hlt : k < len1
    · by_cases h60 : k < 50
      · obtain ⟨b, off, kd, r, i, u, rfl, hrok, hbl, hc⟩ := aCells HR.out hlt
        have hki : (k : Int) < (len1 : Int) := by omega
        have h60i : (k : Int) < 50 := by omega
        obtain ⟨x0, x1, x2, x3, x4, x5, x6, x7, x8⟩ := hc wr (cell_ext hbl HE.out)
        have ka := act_any fb xb kd r i u L U H w wr HB.out hrok
        clear hc
        go_wp2_with (go_at_call 12; refine ka.mono ?_; rintro e w3 ⟨rfl, hb3⟩; have HB3' : Hid (BothAns w wr fb xb (actF L U kd r i u).2.1 (actF L U kd r i u).2.2 (actF L U kd r i u).2.1 (actF L U kd r i u).2.2 H w3) := hb3; clear hb3)
        go_roundw
        case rel => exact ⟨k + 1, by omega, by omega, by go_num, HB3'.out.play⟩
        case measure => simp [intOf]; omega
      · obtain rfl : k = 50 := by omega
        have hki : (50 : Int) < (len1 : Int) := by omega
        obtain ⟨hg, h8, hroom⟩ := HB.out.good
        obtain ⟨F, G, hF, hX, -, hFH, -, hHw, -⟩ := HB.out
        have hFw : ∀ x ∈ F, w.heap.size ≤ x := fun x hx => (hHw x (hFH x hx)).1
        clear hFH hHw
        have HF : Hid (FibAt wr fb L U F) := hF
        have HG : Hid (Rb.Good L ∧ U.length ≤ 8 ∧ fullB L U = false) := ⟨hg, h8, hroom⟩
        have cL := look_any fb 0 a3 L U F wr hF HB3.out.1 HB3.out.2
        obtain ⟨vR, vU, h1, h2, h3, -⟩ := hX
        obtain ⟨q, c, rfl, -, -⟩ := h3.slice
        have hU := h3.ups (by omega)
        have HX : Hid (wr.heap[xb]? = some (.cells #[vR, .slice q U.length c] 53 (0, 0)) ∧ Ups wr q U.length U ∧ OwnB wr 0 (.slice q U.length c) U) := ⟨h1, hU, h3⟩
        clear hF h1 h2 h3 hU hg h8 hroom
        cases hoo : wayO L U 0 a3 with
        | none =>
          rw [hoo] at cL
          have HOO : Hid (wayO L U 0 a3 = none) := hoo
          clear hoo
          go_wp2_with (go_at_call 16; refine cL.mono ?_; rintro e v1 ⟨rfl, hv1⟩; have HV0 : Hid (wr.heap.size ≤ v1.heap.size) := hv1.size)
          clear cL
          refine wp_region_eager [(0, false), (1, false), (2, false), (3, false), (4, false), (5, false), (6, false), (7, false), (8, true), (9, false), (10, false)] (by kernel_rfl) (by kernel_rfl) rfl (by kernel_rfl) (fun _ _ _ _ _ h => h) ?_
          have hx1 : Ext wr (v1.alloc (.cells #[.int .i64 (theR none).t, .int .u32 (theR none).a, .int .i64 (theR none).l, .int .i64 (theR none).i, .int .u32 (theR none).g, .int .i64 (theR none).m] 33)).drew := (hv1.alloc _).drew
          have B1 : Hid ((v1.alloc (.cells #[.int .i64 (theR none).t, .int .u32 (theR none).a, .int .i64 (theR none).l, .int .i64 (theR none).i, .int .u32 (theR none).g, .int .i64 (theR none).m] 33)).drew.heap[v1.heap.size]? = some (.cells #[.int .i64 (theR none).t, .int .u32 (theR none).a, .int .i64 (theR none).l, .int .i64 (theR none).i, .int .u32 (theR none).g, .int .i64 (theR none).m] 33 (0, 0))) := heap_new v1 _
          clear hv1
          generalize (v1.alloc (.cells #[.int .i64 (theR none).t, .int .u32 (theR none).a, .int .i64 (theR none).l, .int .i64 (theR none).i, .int .u32 (theR none).g, .int .i64 (theR none).m] 33)).drew = W at *
          iterate 2 (refine wpE_read (v := ?_) rfl (by rfl) ?_ ?_; rotate_left; (focus (intro w' hx; go_simp; first | done | with_reducible rfl)); simp only [Act.put, List.setIfInBounds_toArray, List.set_cons_zero, List.set_cons_succ])
          iterate 8 (rw [wpE_skip_eq _ rfl (by rfl)]; simp only [Act.put, List.setIfInBounds_toArray, List.set_cons_zero, List.set_cons_succ])
          iterate 1 (refine wpE_read (v := ?_) rfl (by rfl) ?_ ?_; rotate_left; (focus (intro w' hx; go_simp; first | done | with_reducible rfl)); simp only [Act.put, List.setIfInBounds_toArray, List.set_cons_zero, List.set_cons_succ])
          refine wpE_done ?_
          have HV1 : Hid (Ext wr W) := hx1
          clear hx1
          by_cases hneg : a2 < 0
          · go_wp2_with (go_at_call 14; refine (kn _).mono ?_; rintro e wz ⟨rfl, hxz⟩)
            go_ret
            exact ⟨rfl, (HE.out.trans (HV1.out.trans hxz)).below⟩
          · have e2 : W.cell? ⟨xb, 1, none⟩ = some (.slice q U.length c) := by rw [heap_cell (HV1.out.heap HX.out.1)]; rfl
            by_cases hge : (U.length : Int) ≤ a2
            · go_wp2_with (go_at_call 14; refine (kn _).mono ?_; rintro e wz ⟨rfl, hxz⟩)
              go_ret
              exact ⟨rfl, (HE.out.trans (HV1.out.trans hxz)).below⟩
            · obtain ⟨n, rfl⟩ : ∃ n : Nat, a2 = (n : Int) := ⟨a2.toNat, by omega⟩
              have hnU : n < U.length := by omega
              have hnl : (n : Int) < (U.length : Int) := by omega
              obtain ⟨u, hu⟩ : ∃ u, U[n]? = some u := ⟨_, List.getElem?_eq_getElem hnU⟩
              obtain ⟨g, hq, hgc⟩ := HX.out.2.2.cell hu
              subst hq
              have e3 : W.cell? ⟨g, n, none⟩ = some (.bool u) := by rw [HV1.out.below.cell (p := ⟨g, n, none⟩) (block_lt hgc)]; exact hgc
              have HNU : Hid (n < U.length ∧ U[n]? = some u) := ⟨hnU, hu⟩
              clear hnU hu hgc
              cases u with
              | false =>
                go_wp2_with (go_at_call 14; refine (kn _).mono ?_; rintro e wz ⟨rfl, hxz⟩)
                go_ret
                exact ⟨rfl, (HE.out.trans (HV1.out.trans hxz)).below⟩
              | true =>
                have hd1 := setF_down HNU.out.1 HG.out.2.2
                have hu1 := setF_up HNU.out.2 HG.out.2.2
                have c1 := setUp_any fb L U F (n : Int) false W (HF.out.ext HV1.out)
                rw [hd1] at c1
                have c3 := fun W F1 (h : FibAt W fb L (U.set n false) F1) => setUp_any fb L (U.set n false) F1 (n : Int) true W h
                rw [hu1] at c3
                have tok1 : Hid True := trivial
                have tok2 : Hid True := trivial
                have tok3 : Hid True := trivial
                obtain ⟨o2, ho2⟩ : ∃ o2, wayO L (U.set n false) 0 a3 = o2 := ⟨_, rfl⟩
                have HO2 : Hid (wayO L (U.set n false) 0 a3 = o2 ∧ (o2.isSome = true → (theR o2).i ≠ (n : Int))) := ⟨ho2, fun hs => by
                  cases o2 with
                  | none => cases hs
                  | some s => exact (down_upB (way_up HG.out.1 HB3.out.1 HB3.out.2 ho2)).2⟩
                have HFL : Hid (∀ x ∈ F, x < wr.heap.size) := HF.out.lt
                have hbF : Hid (v1.heap.size ∉ F) := fun hh => by have := HFL.out _ hh; have := HV0.out; omega
                clear ho2 hd1 hu1
                have HF0 : Hid (∀ x ∈ F, w.heap.size ≤ x) := hFw
                dsimp only at c1 c3
                cases o2 with
                | none =>
                  have nz := HER.out (theR none)
                  go_wp2_with (first
                    | (go_at_call 23; clear tok1; refine c1.mono ?_; rintro e v3 ⟨rfl, F3, f1, f2, f3⟩; have H3 : Hid (FibAt v3 fb L (U.set n false) F3 ∧ ExtS F W v3 ∧ ∀ x ∈ F3, x ∈ F ∨ W.heap.size ≤ x) := ⟨f1, f2, f3⟩; clear f1 f2 f3)
                    | (go_at_call 16; clear tok2; refine (look_any fb 0 a3 L (U.set n false) F3 v3 H3.out.1 HB3.out.1 HB3.out.2).mono ?_; rintro e v4 ⟨rfl, hv4⟩; rw [HO2.out.1]; have HV4 : Hid (Ext v3 (v4.alloc (.cells #[.int .i64 (theR none).t, .int .u32 (theR none).a, .int .i64 (theR none).l, .int .i64 (theR none).i, .int .u32 (theR none).g, .int .i64 (theR none).m] 33)) ∧ v3.heap.size ≤ v4.heap.size ∧ (v4.alloc (.cells #[.int .i64 (theR none).t, .int .u32 (theR none).a, .int .i64 (theR none).l, .int .i64 (theR none).i, .int .u32 (theR none).g, .int .i64 (theR none).m] 33)).heap[v4.heap.size]? = some (.cells #[.int .i64 (theR none).t, .int .u32 (theR none).a, .int .i64 (theR none).l, .int .i64 (theR none).i, .int .u32 (theR none).g, .int .i64 (theR none).m] 33 (0, 0))) := ⟨hv4.alloc _, hv4.size, heap_new v4 _⟩; clear hv4)
                    | (go_at_call 23; refine (c3 _ F3 (H3.out.1.ext HV4.out.1)).mono ?_; rintro e v5 ⟨rfl, F5, f1, f2, f3⟩; have H5 : Hid (FibAt v5 fb L U F5 ∧ ExtS F3 (v4.alloc (.cells #[.int .i64 (theR none).t, .int .u32 (theR none).a, .int .i64 (theR none).l, .int .i64 (theR none).i, .int .u32 (theR none).g, .int .i64 (theR none).m] 33)) v5) := ⟨f1, f2⟩; clear f1 f2 f3)
                    | (go_at_call 16; clear tok3; refine (look_any fb 0 a3 L U F5 v5 H5.out.1 HB3.out.1 HB3.out.2).mono ?_; rintro e v6 ⟨rfl, hv6⟩; rw [HOO.out]; have hv7 : Ext v5 (v6.alloc (.cells #[.int .i64 (theR none).t, .int .u32 (theR none).a, .int .i64 (theR none).l, .int .i64 (theR none).i, .int .u32 (theR none).g, .int .i64 (theR none).m] 33)) := hv6.alloc _; have hb4 : v4.heap.size ∉ F3 := (fun hh => absurd (H3.out.1.lt _ hh) (Nat.not_lt.2 HV4.out.2.1)); have hb1 : v1.heap.size ∉ F3 := (fun hh => (H3.out.2.2 _ hh).elim hbF.out (fun h => by have := heap_lt B1.out; omega)); obtain ⟨p0, p1, p2, p3, p4, p5⟩ := rt6' (hv7.heap (H5.out.2.heap hb1 (HV4.out.1.heap (H3.out.2.1.heap hbF.out B1.out)))); obtain ⟨q0, q1, q2, q3, q4, q5⟩ := rt6' (hv7.heap (H5.out.2.heap hb4 HV4.out.2.2)); obtain ⟨r0', r1, r2, r3, r4, r5⟩ := rt6' (heap_new v6 (.cells #[.int .i64 (theR none).t, .int .u32 (theR none).a, .int .i64 (theR none).l, .int .i64 (theR none).i, .int .u32 (theR none).g, .int .i64 (theR none).m] 33)); have HV7 : Hid _ := hv7; clear hv6 hv7)
                    | (go_at_call 14; refine (kn _).mono ?_; rintro e wz ⟨rfl, hxz⟩))
                  go_ret
                  exact ⟨rfl, all_below HE.out HV1.out H3.out.2.1 HV4.out.1 H5.out.2 (Ext.trans HV7.out hxz) HF0.out H3.out.2.2⟩
                | some s =>
                  have hne : ((theR (some s)).i != (n : Int)) = true := bne_iff_ne.2 (HO2.out.2 rfl)
                  have nz := HER.out (theR none)
                  go_wp2_with (first
                    | (go_at_call 23; clear tok1; refine c1.mono ?_; rintro e v3 ⟨rfl, F3, f1, f2, f3⟩; have H3 : Hid (FibAt v3 fb L (U.set n false) F3 ∧ ExtS F W v3 ∧ ∀ x ∈ F3, x ∈ F ∨ W.heap.size ≤ x) := ⟨f1, f2, f3⟩; clear f1 f2 f3)
                    | (go_at_call 16; clear tok2; refine (look_any fb 0 a3 L (U.set n false) F3 v3 H3.out.1 HB3.out.1 HB3.out.2).mono ?_; rintro e v4 ⟨rfl, hv4⟩; rw [HO2.out.1]; have HV4 : Hid (Ext v3 (v4.alloc (.cells #[.int .i64 (theR (some s)).t, .int .u32 (theR (some s)).a, .int .i64 (theR (some s)).l, .int .i64 (theR (some s)).i, .int .u32 (theR (some s)).g, .int .i64 (theR (some s)).m] 33)) ∧ v3.heap.size ≤ v4.heap.size ∧ (v4.alloc (.cells #[.int .i64 (theR (some s)).t, .int .u32 (theR (some s)).a, .int .i64 (theR (some s)).l, .int .i64 (theR (some s)).i, .int .u32 (theR (some s)).g, .int .i64 (theR (some s)).m] 33)).heap[v4.heap.size]? = some (.cells #[.int .i64 (theR (some s)).t, .int .u32 (theR (some s)).a, .int .i64 (theR (some s)).l, .int .i64 (theR (some s)).i, .int .u32 (theR (some s)).g, .int .i64 (theR (some s)).m] 33 (0, 0))) := ⟨hv4.alloc _, hv4.size, heap_new v4 _⟩; clear hv4)
                    | (go_at_call 23; refine (c3 _ F3 (H3.out.1.ext HV4.out.1)).mono ?_; rintro e v5 ⟨rfl, F5, f1, f2, f3⟩; have H5 : Hid (FibAt v5 fb L U F5 ∧ ExtS F3 (v4.alloc (.cells #[.int .i64 (theR (some s)).t, .int .u32 (theR (some s)).a, .int .i64 (theR (some s)).l, .int .i64 (theR (some s)).i, .int .u32 (theR (some s)).g, .int .i64 (theR (some s)).m] 33)) v5) := ⟨f1, f2⟩; clear f1 f2 f3)
                    | (go_at_call 16; clear tok3; refine (look_any fb 0 a3 L U F5 v5 H5.out.1 HB3.out.1 HB3.out.2).mono ?_; rintro e v6 ⟨rfl, hv6⟩; rw [HOO.out]; have hv7 : Ext v5 (v6.alloc (.cells #[.int .i64 (theR none).t, .int .u32 (theR none).a, .int .i64 (theR none).l, .int .i64 (theR none).i, .int .u32 (theR none).g, .int .i64 (theR none).m] 33)) := hv6.alloc _; have hb4 : v4.heap.size ∉ F3 := (fun hh => absurd (H3.out.1.lt _ hh) (Nat.not_lt.2 HV4.out.2.1)); have hb1 : v1.heap.size ∉ F3 := (fun hh => (H3.out.2.2 _ hh).elim hbF.out (fun h => by have := heap_lt B1.out; omega)); obtain ⟨p0, p1, p2, p3, p4, p5⟩ := rt6' (hv7.heap (H5.out.2.heap hb1 (HV4.out.1.heap (H3.out.2.1.heap hbF.out B1.out)))); obtain ⟨q0, q1, q2, q3, q4, q5⟩ := rt6' (hv7.heap (H5.out.2.heap hb4 HV4.out.2.2)); obtain ⟨r0', r1, r2, r3, r4, r5⟩ := rt6' (heap_new v6 (.cells #[.int .i64 (theR none).t, .int .u32 (theR none).a, .int .i64 (theR none).l, .int .i64 (theR none).i, .int .u32 (theR none).g, .int .i64 (theR none).m] 33)); have HV7 : Hid _ := hv7; clear hv6 hv7)
                    | (go_at_call 14; refine (kn _).mono ?_; rintro e wz ⟨rfl, hxz⟩))
                  go_ret
                  exact ⟨rfl, all_below HE.out HV1.out H3.out.2.1 HV4.out.1 H5.out.2 (Ext.trans HV7.out hxz) HF0.out H3.out.2.2⟩
        | some r0 =>
          rw [hoo] at cL
          have hup := way_up HG.out.1 HB3.out.1 HB3.out.2 hoo
          have HOO : Hid (wayO L U 0 a3 = some r0) := hoo
          have co := fun W (h : Ext wr W) => on_any r0.i q U.length c U W (HX.out.2.1.ext h)
          rw [hup] at co
          clear hoo hup
          go_wp2_with (go_at_call 16; refine cL.mono ?_; rintro e v1 ⟨rfl, hv1⟩; have HV0 : Hid (wr.heap.size ≤ v1.heap.size) := hv1.size)
          clear cL
          refine wp_region_eager [(0, false), (1, false), (2, false), (3, false), (4, false), (5, false), (6, false), (7, false), (8, true), (9, false), (10, false)] (by kernel_rfl) (by kernel_rfl) rfl (by kernel_rfl) (fun _ _ _ _ _ h => h) ?_
          have hx1 : Ext wr (v1.alloc (.cells #[.int .i64 (theR (some r0)).t, .int .u32 (theR (some r0)).a, .int .i64 (theR (some r0)).l, .int .i64 (theR (some r0)).i, .int .u32 (theR (some r0)).g, .int .i64 (theR (some r0)).m] 33)).drew := (hv1.alloc _).drew
          have B1 : Hid ((v1.alloc (.cells #[.int .i64 (theR (some r0)).t, .int .u32 (theR (some r0)).a, .int .i64 (theR (some r0)).l, .int .i64 (theR (some r0)).i, .int .u32 (theR (some r0)).g, .int .i64 (theR (some r0)).m] 33)).drew.heap[v1.heap.size]? = some (.cells #[.int .i64 (theR (some r0)).t, .int .u32 (theR (some r0)).a, .int .i64 (theR (some r0)).l, .int .i64 (theR (some r0)).i, .int .u32 (theR (some r0)).g, .int .i64 (theR (some r0)).m] 33 (0, 0))) := heap_new v1 _
          have p3 : ∀ w', Ext (v1.alloc (.cells #[.int .i64 (theR (some r0)).t, .int .u32 (theR (some r0)).a, .int .i64 (theR (some r0)).l, .int .i64 (theR (some r0)).i, .int .u32 (theR (some r0)).g, .int .i64 (theR (some r0)).m] 33)).drew w' → w'.cell? ⟨v1.heap.size, 2 + 1, none⟩ = some (.int .i64 r0.i) := fun w' h => by rw [heap_cell (h.heap B1.out)]; rfl
          have e1 : ∀ w', Ext (v1.alloc (.cells #[.int .i64 (theR (some r0)).t, .int .u32 (theR (some r0)).a, .int .i64 (theR (some r0)).l, .int .i64 (theR (some r0)).i, .int .u32 (theR (some r0)).g, .int .i64 (theR (some r0)).m] 33)).drew w' → w'.cell? ⟨xb, 1, none⟩ = some (.slice q U.length c) := fun w' h => by rw [heap_cell ((hx1.trans h).heap HX.out.1)]; rfl
          clear hv1
          generalize (v1.alloc (.cells #[.int .i64 (theR (some r0)).t, .int .u32 (theR (some r0)).a, .int .i64 (theR (some r0)).l, .int .i64 (theR (some r0)).i, .int .u32 (theR (some r0)).g, .int .i64 (theR (some r0)).m] 33)).drew = W at *
          have p3' : ∀ w', Ext W w' → w'.cell? ⟨v1.heap.size, 3, none⟩ = some (.int .i64 r0.i) := p3
          iterate 8 (refine wpE_read (v := ?_) rfl (by rfl) ?_ ?_; rotate_left; (focus (intro w' hx; go_simp; first | done | with_reducible rfl)); simp only [Act.put, List.setIfInBounds_toArray, List.set_cons_zero, List.set_cons_succ])
          clear p3 p3' e1
          (refine wpE_call rfl (by rfl) (fun K hK => ?_); go_simp; first | (go_at_call 22; refine (co _ hx1).mono ?_; rintro e v2 ⟨rfl, hv2⟩; refine hK _ _ hv2 ?_; clear hK K))
          iterate 2 (refine wpE_read (v := ?_) rfl (by rfl) ?_ ?_; rotate_left; (focus (intro w' hx; go_simp; first | done | with_reducible rfl)); simp only [Act.put, List.setIfInBounds_toArray, List.set_cons_zero, List.set_cons_succ])
          refine wpE_done ?_
          have HV1 : Hid (Ext wr v2) := hx1.trans hv2
          have B1' := hv2.heap B1.out
          have B1 : Hid (v2.heap[v1.heap.size]? = some (.cells #[.int .i64 (theR (some r0)).t, .int .u32 (theR (some r0)).a, .int .i64 (theR (some r0)).l, .int .i64 (theR (some r0)).i, .int .u32 (theR (some r0)).g, .int .i64 (theR (some r0)).m] 33 (0, 0))) := B1'
          clear hx1 hv2 B1' co
          by_cases hneg : a2 < 0
          · go_wp2_with (go_at_call 14; refine (kn _).mono ?_; rintro e wz ⟨rfl, hxz⟩)
            go_ret
            exact ⟨rfl, (HE.out.trans (HV1.out.trans hxz)).below⟩
          · have e2 : v2.cell? ⟨xb, 1, none⟩ = some (.slice q U.length c) := by rw [heap_cell (HV1.out.heap HX.out.1)]; rfl
            by_cases hge : (U.length : Int) ≤ a2
            · go_wp2_with (go_at_call 14; refine (kn _).mono ?_; rintro e wz ⟨rfl, hxz⟩)
              go_ret
              exact ⟨rfl, (HE.out.trans (HV1.out.trans hxz)).below⟩
            · obtain ⟨n, rfl⟩ : ∃ n : Nat, a2 = (n : Int) := ⟨a2.toNat, by omega⟩
              have hnU : n < U.length := by omega
              have hnl : (n : Int) < (U.length : Int) := by omega
              obtain ⟨u, hu⟩ : ∃ u, U[n]? = some u := ⟨_, List.getElem?_eq_getElem hnU⟩
              obtain ⟨g, hq, hgc⟩ := HX.out.2.2.cell hu
              subst hq
              have e3 : v2.cell? ⟨g, n, none⟩ = some (.bool u) := by rw [HV1.out.below.cell (p := ⟨g, n, none⟩) (block_lt hgc)]; exact hgc
              have HNU : Hid (n < U.length ∧ U[n]? = some u) := ⟨hnU, hu⟩
              clear hnU hu hgc
              cases u with
              | false =>
                go_wp2_with (go_at_call 14; refine (kn _).mono ?_; rintro e wz ⟨rfl, hxz⟩)
                go_ret
                exact ⟨rfl, (HE.out.trans (HV1.out.trans hxz)).below⟩
              | true =>
                have hd1 := setF_down HNU.out.1 HG.out.2.2
                have hu1 := setF_up HNU.out.2 HG.out.2.2
                have c1 := setUp_any fb L U F (n : Int) false v2 (HF.out.ext HV1.out)
                rw [hd1] at c1
                have c3 := fun W F1 (h : FibAt W fb L (U.set n false) F1) => setUp_any fb L (U.set n false) F1 (n : Int) true W h
                rw [hu1] at c3
                have tok1 : Hid True := trivial
                have tok2 : Hid True := trivial
                have tok3 : Hid True := trivial
                obtain ⟨o2, ho2⟩ : ∃ o2, wayO L (U.set n false) 0 a3 = o2 := ⟨_, rfl⟩
                have HO2 : Hid (wayO L (U.set n false) 0 a3 = o2 ∧ (o2.isSome = true → (theR o2).i ≠ (n : Int))) := ⟨ho2, fun hs => by
                  cases o2 with
                  | none => cases hs
                  | some s => exact (down_upB (way_up HG.out.1 HB3.out.1 HB3.out.2 ho2)).2⟩
                have HFL : Hid (∀ x ∈ F, x < wr.heap.size) := HF.out.lt
                have hbF : Hid (v1.heap.size ∉ F) := fun hh => by have := HFL.out _ hh; have := HV0.out; omega
                clear ho2 hd1 hu1
                have HF0 : Hid (∀ x ∈ F, w.heap.size ≤ x) := hFw
                dsimp only at c1 c3
                cases o2 with
                | none =>
                  have nz := HER.out (theR (some r0))
                  go_wp2_with (first
                    | (go_at_call 23; clear tok1; refine c1.mono ?_; rintro e v3 ⟨rfl, F3, f1, f2, f3⟩; have H3 : Hid (FibAt v3 fb L (U.set n false) F3 ∧ ExtS F v2 v3 ∧ ∀ x ∈ F3, x ∈ F ∨ v2.heap.size ≤ x) := ⟨f1, f2, f3⟩; clear f1 f2 f3)
                    | (go_at_call 16; clear tok2; refine (look_any fb 0 a3 L (U.set n false) F3 v3 H3.out.1 HB3.out.1 HB3.out.2).mono ?_; rintro e v4 ⟨rfl, hv4⟩; rw [HO2.out.1]; have HV4 : Hid (Ext v3 (v4.alloc (.cells #[.int .i64 (theR none).t, .int .u32 (theR none).a, .int .i64 (theR none).l, .int .i64 (theR none).i, .int .u32 (theR none).g, .int .i64 (theR none).m] 33)) ∧ v3.heap.size ≤ v4.heap.size ∧ (v4.alloc (.cells #[.int .i64 (theR none).t, .int .u32 (theR none).a, .int .i64 (theR none).l, .int .i64 (theR none).i, .int .u32 (theR none).g, .int .i64 (theR none).m] 33)).heap[v4.heap.size]? = some (.cells #[.int .i64 (theR none).t, .int .u32 (theR none).a, .int .i64 (theR none).l, .int .i64 (theR none).i, .int .u32 (theR none).g, .int .i64 (theR none).m] 33 (0, 0))) := ⟨hv4.alloc _, hv4.size, heap_new v4 _⟩; clear hv4)
                    | (go_at_call 23; refine (c3 _ F3 (H3.out.1.ext HV4.out.1)).mono ?_; rintro e v5 ⟨rfl, F5, f1, f2, f3⟩; have H5 : Hid (FibAt v5 fb L U F5 ∧ ExtS F3 (v4.alloc (.cells #[.int .i64 (theR none).t, .int .u32 (theR none).a, .int .i64 (theR none).l, .int .i64 (theR none).i, .int .u32 (theR none).g, .int .i64 (theR none).m] 33)) v5) := ⟨f1, f2⟩; clear f1 f2 f3)
                    | (go_at_call 16; clear tok3; refine (look_any fb 0 a3 L U F5 v5 H5.out.1 HB3.out.1 HB3.out.2).mono ?_; rintro e v6 ⟨rfl, hv6⟩; rw [HOO.out]; have hv7 : Ext v5 (v6.alloc (.cells #[.int .i64 (theR (some r0)).t, .int .u32 (theR (some r0)).a, .int .i64 (theR (some r0)).l, .int .i64 (theR (some r0)).i, .int .u32 (theR (some r0)).g, .int .i64 (theR (some r0)).m] 33)) := hv6.alloc _; have hb4 : v4.heap.size ∉ F3 := (fun hh => absurd (H3.out.1.lt _ hh) (Nat.not_lt.2 HV4.out.2.1)); have hb1 : v1.heap.size ∉ F3 := (fun hh => (H3.out.2.2 _ hh).elim hbF.out (fun h => by have := heap_lt B1.out; omega)); obtain ⟨p0, p1, p2, p3, p4, p5⟩ := rt6' (hv7.heap (H5.out.2.heap hb1 (HV4.out.1.heap (H3.out.2.1.heap hbF.out B1.out)))); obtain ⟨q0, q1, q2, q3, q4, q5⟩ := rt6' (hv7.heap (H5.out.2.heap hb4 HV4.out.2.2)); obtain ⟨r0', r1, r2, r3, r4, r5⟩ := rt6' (heap_new v6 (.cells #[.int .i64 (theR (some r0)).t, .int .u32 (theR (some r0)).a, .int .i64 (theR (some r0)).l, .int .i64 (theR (some r0)).i, .int .u32 (theR (some r0)).g, .int .i64 (theR (some r0)).m] 33)); have HV7 : Hid _ := hv7; clear hv6 hv7)
                    | (go_at_call 14; refine (kn _).mono ?_; rintro e wz ⟨rfl, hxz⟩))
                  go_ret
                  exact ⟨rfl, all_below HE.out HV1.out H3.out.2.1 HV4.out.1 H5.out.2 (Ext.trans HV7.out hxz) HF0.out H3.out.2.2⟩
                | some s =>
                  have hne : ((theR (some s)).i != (n : Int)) = true := bne_iff_ne.2 (HO2.out.2 rfl)
                  have nz := HER.out (theR (some r0))
                  go_wp2_with (first
                    | (go_at_call 23; clear tok1; refine c1.mono ?_; rintro e v3 ⟨rfl, F3, f1, f2, f3⟩; have H3 : Hid (FibAt v3 fb L (U.set n false) F3 ∧ ExtS F v2 v3 ∧ ∀ x ∈ F3, x ∈ F ∨ v2.heap.size ≤ x) := ⟨f1, f2, f3⟩; clear f1 f2 f3)
                    | (go_at_call 16; clear tok2; refine (look_any fb 0 a3 L (U.set n false) F3 v3 H3.out.1 HB3.out.1 HB3.out.2).mono ?_; rintro e v4 ⟨rfl, hv4⟩; rw [HO2.out.1]; have HV4 : Hid (Ext v3 (v4.alloc (.cells #[.int .i64 (theR (some s)).t, .int .u32 (theR (some s)).a, .int .i64 (theR (some s)).l, .int .i64 (theR (some s)).i, .int .u32 (theR (some s)).g, .int .i64 (theR (some s)).m] 33)) ∧ v3.heap.size ≤ v4.heap.size ∧ (v4.alloc (.cells #[.int .i64 (theR (some s)).t, .int .u32 (theR (some s)).a, .int .i64 (theR (some s)).l, .int .i64 (theR (some s)).i, .int .u32 (theR (some s)).g, .int .i64 (theR (some s)).m] 33)).heap[v4.heap.size]? = some (.cells #[.int .i64 (theR (some s)).t, .int .u32 (theR (some s)).a, .int .i64 (theR (some s)).l, .int .i64 (theR (some s)).i, .int .u32 (theR (some s)).g, .int .i64 (theR (some s)).m] 33 (0, 0))) := ⟨hv4.alloc _, hv4.size, heap_new v4 _⟩; clear hv4)
                    | (go_at_call 23; refine (c3 _ F3 (H3.out.1.ext HV4.out.1)).mono ?_; rintro e v5 ⟨rfl, F5, f1, f2, f3⟩; have H5 : Hid (FibAt v5 fb L U F5 ∧ ExtS F3 (v4.alloc (.cells #[.int .i64 (theR (some s)).t, .int .u32 (theR (some s)).a, .int .i64 (theR (some s)).l, .int .i64 (theR (some s)).i, .int .u32 (theR (some s)).g, .int .i64 (theR (some s)).m] 33)) v5) := ⟨f1, f2⟩; clear f1 f2 f3)
                    | (go_at_call 16; clear tok3; refine (look_any fb 0 a3 L U F5 v5 H5.out.1 HB3.out.1 HB3.out.2).mono ?_; rintro e v6 ⟨rfl, hv6⟩; rw [HOO.out]; have hv7 : Ext v5 (v6.alloc (.cells #[.int .i64 (theR (some r0)).t, .int .u32 (theR (some r0)).a, .int .i64 (theR (some r0)).l, .int .i64 (theR (some r0)).i, .int .u32 (theR (some r0)).g, .int .i64 (theR (some r0)).m] 33)) := hv6.alloc _; have hb4 : v4.heap.size ∉ F3 := (fun hh => absurd (H3.out.1.lt _ hh) (Nat.not_lt.2 HV4.out.2.1)); have hb1 : v1.heap.size ∉ F3 := (fun hh => (H3.out.2.2 _ hh).elim hbF.out (fun h => by have := heap_lt B1.out; omega)); obtain ⟨p0, p1, p2, p3, p4, p5⟩ := rt6' (hv7.heap (H5.out.2.heap hb1 (HV4.out.1.heap (H3.out.2.1.heap hbF.out B1.out)))); obtain ⟨q0, q1, q2, q3, q4, q5⟩ := rt6' (hv7.heap (H5.out.2.heap hb4 HV4.out.2.2)); obtain ⟨r0', r1, r2, r3, r4, r5⟩ := rt6' (heap_new v6 (.cells #[.int .i64 (theR (some r0)).t, .int .u32 (theR (some r0)).a, .int .i64 (theR (some r0)).l, .int .i64 (theR (some r0)).i, .int .u32 (theR (some r0)).g, .int .i64 (theR (some r0)).m] 33)); have HV7 : Hid _ := hv7; clear hv6 hv7)
                    | (go_at_call 14; refine (kn _).mono ?_; rintro e wz ⟨rfl, hxz⟩))
                  go_ret
                  exact ⟨rfl, all_below HE.out HV1.out H3.out.2.1 HV4.out.1 H5.out.2 (Ext.trans HV7.out hxz) HF0.out H3.out.2.2⟩
    · obtain rfl : k = len1 := by omega
      obtain ⟨hg, h8, hroom⟩ := HB.out.good
      obtain ⟨F, G, hF, hX, -, hFH, -, hHw, -⟩ := HB.out
      have hFw : ∀ x ∈ F, w.heap.size ≤ x := fun x hx => (hHw x (hFH x hx)).1
      clear hFH hHw
      have HF : Hid (FibAt wr fb L U F) := hF
      have HG : Hid (Rb.Good L ∧ U.length ≤ 8 ∧ fullB L U = false) := ⟨hg, h8, hroom⟩
      have cL := look_any fb 0 a3 L U F wr hF HB3.out.1 HB3.out.2
      obtain ⟨vR, vU, h1, h2, h3, -⟩ := hX
      obtain ⟨q, c, rfl, -, -⟩ := h3.slice
      have hU := h3.ups (by omega)
      have HX : Hid (wr.heap[xb]? = some (.cells #[vR, .slice q U.length c] 53 (0, 0)) ∧ Ups wr q U.length U ∧ OwnB wr 0 (.slice q U.length c) U) := ⟨h1, hU, h3⟩
      clear hF h1 h2 h3 hU hg h8 hroom
      cases hoo : wayO L U 0 a3 with
      | none =>
        rw [hoo] at cL
        have HOO : Hid (wayO L U 0 a3 = none) := hoo
        clear hoo
        go_wp2_with (go_at_call 16; refine cL.mono ?_; rintro e v1 ⟨rfl, hv1⟩; have HV0 : Hid (wr.heap.size ≤ v1.heap.size) := hv1.size)
        clear cL
        refine wp_region_eager [(0, false), (1, false), (2, false), (3, false), (4, false), (5, false), (6, false), (7, false), (8, true), (9, false), (10, false)] (by kernel_rfl) (by kernel_rfl) rfl (by kernel_rfl) (fun _ _ _ _ _ h => h) ?_
        have hx1 : Ext wr (v1.alloc (.cells #[.int .i64 (theR none).t, .int .u32 (theR none).a, .int .i64 (theR none).l, .int .i64 (theR none).i, .int .u32 (theR none).g, .int .i64 (theR none).m] 33)).drew := (hv1.alloc _).drew
        have B1 : Hid ((v1.alloc (.cells #[.int .i64 (theR none).t, .int .u32 (theR none).a, .int .i64 (theR none).l, .int .i64 (theR none).i, .int .u32 (theR none).g, .int .i64 (theR none).m] 33)).drew.heap[v1.heap.size]? = some (.cells #[.int .i64 (theR none).t, .int .u32 (theR none).a, .int .i64 (theR none).l, .int .i64 (theR none).i, .int .u32 (theR none).g, .int .i64 (theR none).m] 33 (0, 0))) := heap_new v1 _
        clear hv1
        generalize (v1.alloc (.cells #[.int .i64 (theR none).t, .int .u32 (theR none).a, .int .i64 (theR none).l, .int .i64 (theR none).i, .int .u32 (theR none).g, .int .i64 (theR none).m] 33)).drew = W at *
        iterate 2 (refine wpE_read (v := ?_) rfl (by rfl) ?_ ?_; rotate_left; (focus (intro w' hx; go_simp; first | done | with_reducible rfl)); simp only [Act.put, List.setIfInBounds_toArray, List.set_cons_zero, List.set_cons_succ])
        iterate 8 (rw [wpE_skip_eq _ rfl (by rfl)]; simp only [Act.put, List.setIfInBounds_toArray, List.set_cons_zero, List.set_cons_succ])
        iterate 1 (refine wpE_read (v := ?_) rfl (by rfl) ?_ ?_; rotate_left; (focus (intro w' hx; go_simp; first | done | with_reducible rfl)); simp only [Act.put, List.setIfInBounds_toArray, List.set_cons_zero, List.set_cons_succ])
        refine wpE_done ?_
        have HV1 : Hid (Ext wr W) := hx1
        clear hx1
        by_cases hneg : a2 < 0
        · go_wp2_with (go_at_call 14; refine (kn _).mono ?_; rintro e wz ⟨rfl, hxz⟩)
          go_ret
          exact ⟨rfl, (HE.out.trans (HV1.out.trans hxz)).below⟩
        · have e2 : W.cell? ⟨xb, 1, none⟩ = some (.slice q U.length c) := by rw [heap_cell (HV1.out.heap HX.out.1)]; rfl
          by_cases hge : (U.length : Int) ≤ a2
          · go_wp2_with (go_at_call 14; refine (kn _).mono ?_; rintro e wz ⟨rfl, hxz⟩)
            go_ret
            exact ⟨rfl, (HE.out.trans (HV1.out.trans hxz)).below⟩
          · obtain ⟨n, rfl⟩ : ∃ n : Nat, a2 = (n : Int) := ⟨a2.toNat, by omega⟩
            have hnU : n < U.length := by omega
            have hnl : (n : Int) < (U.length : Int) := by omega
            obtain ⟨u, hu⟩ : ∃ u, U[n]? = some u := ⟨_, List.getElem?_eq_getElem hnU⟩
            obtain ⟨g, hq, hgc⟩ := HX.out.2.2.cell hu
            subst hq
            have e3 : W.cell? ⟨g, n, none⟩ = some (.bool u) := by rw [HV1.out.below.cell (p := ⟨g, n, none⟩) (block_lt hgc)]; exact hgc
            have HNU : Hid (n < U.length ∧ U[n]? = some u) := ⟨hnU, hu⟩
            clear hnU hu hgc
            cases u with
            | false =>
              go_wp2_with (go_at_call 14; refine (kn _).mono ?_; rintro e wz ⟨rfl, hxz⟩)
              go_ret
              exact ⟨rfl, (HE.out.trans (HV1.out.trans hxz)).below⟩
            | true =>
              have hd1 := setF_down HNU.out.1 HG.out.2.2
              have hu1 := setF_up HNU.out.2 HG.out.2.2
              have c1 := setUp_any fb L U F (n : Int) false W (HF.out.ext HV1.out)
              rw [hd1] at c1
              have c3 := fun W F1 (h : FibAt W fb L (U.set n false) F1) => setUp_any fb L (U.set n false) F1 (n : Int) true W h
              rw [hu1] at c3
              have tok1 : Hid True := trivial
              have tok2 : Hid True := trivial
              have tok3 : Hid True := trivial
              obtain ⟨o2, ho2⟩ : ∃ o2, wayO L (U.set n false) 0 a3 = o2 := ⟨_, rfl⟩
              have HO2 : Hid (wayO L (U.set n false) 0 a3 = o2 ∧ (o2.isSome = true → (theR o2).i ≠ (n : Int))) := ⟨ho2, fun hs => by
                cases o2 with
                | none => cases hs
                | some s => exact (down_upB (way_up HG.out.1 HB3.out.1 HB3.out.2 ho2)).2⟩
              have HFL : Hid (∀ x ∈ F, x < wr.heap.size) := HF.out.lt
              have hbF : Hid (v1.heap.size ∉ F) := fun hh => by have := HFL.out _ hh; have := HV0.out; omega
              clear ho2 hd1 hu1
              have HF0 : Hid (∀ x ∈ F, w.heap.size ≤ x) := hFw
              dsimp only at c1 c3
              cases o2 with
              | none =>
                have nz := HER.out (theR none)
                go_wp2_with (first
                  | (go_at_call 23; clear tok1; refine c1.mono ?_; rintro e v3 ⟨rfl, F3, f1, f2, f3⟩; have H3 : Hid (FibAt v3 fb L (U.set n false) F3 ∧ ExtS F W v3 ∧ ∀ x ∈ F3, x ∈ F ∨ W.heap.size ≤ x) := ⟨f1, f2, f3⟩; clear f1 f2 f3)
                  | (go_at_call 16; clear tok2; refine (look_any fb 0 a3 L (U.set n false) F3 v3 H3.out.1 HB3.out.1 HB3.out.2).mono ?_; rintro e v4 ⟨rfl, hv4⟩; rw [HO2.out.1]; have HV4 : Hid (Ext v3 (v4.alloc (.cells #[.int .i64 (theR none).t, .int .u32 (theR none).a, .int .i64 (theR none).l, .int .i64 (theR none).i, .int .u32 (theR none).g, .int .i64 (theR none).m] 33)) ∧ v3.heap.size ≤ v4.heap.size ∧ (v4.alloc (.cells #[.int .i64 (theR none).t, .int .u32 (theR none).a, .int .i64 (theR none).l, .int .i64 (theR none).i, .int .u32 (theR none).g, .int .i64 (theR none).m] 33)).heap[v4.heap.size]? = some (.cells #[.int .i64 (theR none).t, .int .u32 (theR none).a, .int .i64 (theR none).l, .int .i64 (theR none).i, .int .u32 (theR none).g, .int .i64 (theR none).m] 33 (0, 0))) := ⟨hv4.alloc _, hv4.size, heap_new v4 _⟩; clear hv4)
                  | (go_at_call 23; refine (c3 _ F3 (H3.out.1.ext HV4.out.1)).mono ?_; rintro e v5 ⟨rfl, F5, f1, f2, f3⟩; have H5 : Hid (FibAt v5 fb L U F5 ∧ ExtS F3 (v4.alloc (.cells #[.int .i64 (theR none).t, .int .u32 (theR none).a, .int .i64 (theR none).l, .int .i64 (theR none).i, .int .u32 (theR none).g, .int .i64 (theR none).m] 33)) v5) := ⟨f1, f2⟩; clear f1 f2 f3)
                  | (go_at_call 16; clear tok3; refine (look_any fb 0 a3 L U F5 v5 H5.out.1 HB3.out.1 HB3.out.2).mono ?_; rintro e v6 ⟨rfl, hv6⟩; rw [HOO.out]; have hv7 : Ext v5 (v6.alloc (.cells #[.int .i64 (theR none).t, .int .u32 (theR none).a, .int .i64 (theR none).l, .int .i64 (theR none).i, .int .u32 (theR none).g, .int .i64 (theR none).m] 33)) := hv6.alloc _; have hb4 : v4.heap.size ∉ F3 := (fun hh => absurd (H3.out.1.lt _ hh) (Nat.not_lt.2 HV4.out.2.1)); have hb1 : v1.heap.size ∉ F3 := (fun hh => (H3.out.2.2 _ hh).elim hbF.out (fun h => by have := heap_lt B1.out; omega)); obtain ⟨p0, p1, p2, p3, p4, p5⟩ := rt6' (hv7.heap (H5.out.2.heap hb1 (HV4.out.1.heap (H3.out.2.1.heap hbF.out B1.out)))); obtain ⟨q0, q1, q2, q3, q4, q5⟩ := rt6' (hv7.heap (H5.out.2.heap hb4 HV4.out.2.2)); obtain ⟨r0', r1, r2, r3, r4, r5⟩ := rt6' (heap_new v6 (.cells #[.int .i64 (theR none).t, .int .u32 (theR none).a, .int .i64 (theR none).l, .int .i64 (theR none).i, .int .u32 (theR none).g, .int .i64 (theR none).m] 33)); have HV7 : Hid _ := hv7; clear hv6 hv7)
                  | (go_at_call 14; refine (kn _).mono ?_; rintro e wz ⟨rfl, hxz⟩))
                go_ret
                exact ⟨rfl, all_below HE.out HV1.out H3.out.2.1 HV4.out.1 H5.out.2 (Ext.trans HV7.out hxz) HF0.out H3.out.2.2⟩
              | some s =>
                have hne : ((theR (some s)).i != (n : Int)) = true := bne_iff_ne.2 (HO2.out.2 rfl)
                have nz := HER.out (theR none)
                go_wp2_with (first
                  | (go_at_call 23; clear tok1; refine c1.mono ?_; rintro e v3 ⟨rfl, F3, f1, f2, f3⟩; have H3 : Hid (FibAt v3 fb L (U.set n false) F3 ∧ ExtS F W v3 ∧ ∀ x ∈ F3, x ∈ F ∨ W.heap.size ≤ x) := ⟨f1, f2, f3⟩; clear f1 f2 f3)
                  | (go_at_call 16; clear tok2; refine (look_any fb 0 a3 L (U.set n false) F3 v3 H3.out.1 HB3.out.1 HB3.out.2).mono ?_; rintro e v4 ⟨rfl, hv4⟩; rw [HO2.out.1]; have HV4 : Hid (Ext v3 (v4.alloc (.cells #[.int .i64 (theR (some s)).t, .int .u32 (theR (some s)).a, .int .i64 (theR (some s)).l, .int .i64 (theR (some s)).i, .int .u32 (theR (some s)).g, .int .i64 (theR (some s)).m] 33)) ∧ v3.heap.size ≤ v4.heap.size ∧ (v4.alloc (.cells #[.int .i64 (theR (some s)).t, .int .u32 (theR (some s)).a, .int .i64 (theR (some s)).l, .int .i64 (theR (some s)).i, .int .u32 (theR (some s)).g, .int .i64 (theR (some s)).m] 33)).heap[v4.heap.size]? = some (.cells #[.int .i64 (theR (some s)).t, .int .u32 (theR (some s)).a, .int .i64 (theR (some s)).l, .int .i64 (theR (some s)).i, .int .u32 (theR (some s)).g, .int .i64 (theR (some s)).m] 33 (0, 0))) := ⟨hv4.alloc _, hv4.size, heap_new v4 _⟩; clear hv4)
                  | (go_at_call 23; refine (c3 _ F3 (H3.out.1.ext HV4.out.1)).mono ?_; rintro e v5 ⟨rfl, F5, f1, f2, f3⟩; have H5 : Hid (FibAt v5 fb L U F5 ∧ ExtS F3 (v4.alloc (.cells #[.int .i64 (theR (some s)).t, .int .u32 (theR (some s)).a, .int .i64 (theR (some s)).l, .int .i64 (theR (some s)).i, .int .u32 (theR (some s)).g, .int .i64 (theR (some s)).m] 33)) v5) := ⟨f1, f2⟩; clear f1 f2 f3)
                  | (go_at_call 16; clear tok3; refine (look_any fb 0 a3 L U F5 v5 H5.out.1 HB3.out.1 HB3.out.2).mono ?_; rintro e v6 ⟨rfl, hv6⟩; rw [HOO.out]; have hv7 : Ext v5 (v6.alloc (.cells #[.int .i64 (theR none).t, .int .u32 (theR none).a, .int .i64 (theR none).l, .int .i64 (theR none).i, .int .u32 (theR none).g, .int .i64 (theR none).m] 33)) := hv6.alloc _; have hb4 : v4.heap.size ∉ F3 := (fun hh => absurd (H3.out.1.lt _ hh) (Nat.not_lt.2 HV4.out.2.1)); have hb1 : v1.heap.size ∉ F3 := (fun hh => (H3.out.2.2 _ hh).elim hbF.out (fun h => by have := heap_lt B1.out; omega)); obtain ⟨p0, p1, p2, p3, p4, p5⟩ := rt6' (hv7.heap (H5.out.2.heap hb1 (HV4.out.1.heap (H3.out.2.1.heap hbF.out B1.out)))); obtain ⟨q0, q1, q2, q3, q4, q5⟩ := rt6' (hv7.heap (H5.out.2.heap hb4 HV4.out.2.2)); obtain ⟨r0', r1, r2, r3, r4, r5⟩ := rt6' (heap_new v6 (.cells #[.int .i64 (theR none).t, .int .u32 (theR none).a, .int .i64 (theR none).l, .int .i64 (theR none).i, .int .u32 (theR none).g, .int .i64 (theR none).m] 33)); have HV7 : Hid _ := hv7; clear hv6 hv7)
                  | (go_at_call 14; refine (kn _).mono ?_; rintro e wz ⟨rfl, hxz⟩))
                go_ret
                exact ⟨rfl, all_below HE.out HV1.out H3.out.2.1 HV4.out.1 H5.out.2 (Ext.trans HV7.out hxz) HF0.out H3.out.2.2⟩
      | some r0 =>
        rw [hoo] at cL
        have hup := way_up HG.out.1 HB3.out.1 HB3.out.2 hoo
        have HOO : Hid (wayO L U 0 a3 = some r0) := hoo
        have co := fun W (h : Ext wr W) => on_any r0.i q U.length c U W (HX.out.2.1.ext h)
        rw [hup] at co
        clear hoo hup
        go_wp2_with (go_at_call 16; refine cL.mono ?_; rintro e v1 ⟨rfl, hv1⟩; have HV0 : Hid (wr.heap.size ≤ v1.heap.size) := hv1.size)
        clear cL
        refine wp_region_eager [(0, false), (1, false), (2, false), (3, false), (4, false), (5, false), (6, false), (7, false), (8, true), (9, false), (10, false)] (by kernel_rfl) (by kernel_rfl) rfl (by kernel_rfl) (fun _ _ _ _ _ h => h) ?_
        have hx1 : Ext wr (v1.alloc (.cells #[.int .i64 (theR (some r0)).t, .int .u32 (theR (some r0)).a, .int .i64 (theR (some r0)).l, .int .i64 (theR (some r0)).i, .int .u32 (theR (some r0)).g, .int .i64 (theR (some r0)).m] 33)).drew := (hv1.alloc _).drew
        have B1 : Hid ((v1.alloc (.cells #[.int .i64 (theR (some r0)).t, .int .u32 (theR (some r0)).a, .int .i64 (theR (some r0)).l, .int .i64 (theR (some r0)).i, .int .u32 (theR (some r0)).g, .int .i64 (theR (some r0)).m] 33)).drew.heap[v1.heap.size]? = some (.cells #[.int .i64 (theR (some r0)).t, .int .u32 (theR (some r0)).a, .int .i64 (theR (some r0)).l, .int .i64 (theR (some r0)).i, .int .u32 (theR (some r0)).g, .int .i64 (theR (some r0)).m] 33 (0, 0))) := heap_new v1 _
        have p3 : ∀ w', Ext (v1.alloc (.cells #[.int .i64 (theR (some r0)).t, .int .u32 (theR (some r0)).a, .int .i64 (theR (some r0)).l, .int .i64 (theR (some r0)).i, .int .u32 (theR (some r0)).g, .int .i64 (theR (some r0)).m] 33)).drew w' → w'.cell? ⟨v1.heap.size, 2 + 1, none⟩ = some (.int .i64 r0.i) := fun w' h => by rw [heap_cell (h.heap B1.out)]; rfl
        have e1 : ∀ w', Ext (v1.alloc (.cells #[.int .i64 (theR (some r0)).t, .int .u32 (theR (some r0)).a, .int .i64 (theR (some r0)).l, .int .i64 (theR (some r0)).i, .int .u32 (theR (some r0)).g, .int .i64 (theR (some r0)).m] 33)).drew w' → w'.cell? ⟨xb, 1, none⟩ = some (.slice q U.length c) := fun w' h => by rw [heap_cell ((hx1.trans h).heap HX.out.1)]; rfl
        clear hv1
        generalize (v1.alloc (.cells #[.int .i64 (theR (some r0)).t, .int .u32 (theR (some r0)).a, .int .i64 (theR (some r0)).l, .int .i64 (theR (some r0)).i, .int .u32 (theR (some r0)).g, .int .i64 (theR (some r0)).m] 33)).drew = W at *
        have p3' : ∀ w', Ext W w' → w'.cell? ⟨v1.heap.size, 3, none⟩ = some (.int .i64 r0.i) := p3
        iterate 8 (refine wpE_read (v := ?_) rfl (by rfl) ?_ ?_; rotate_left; (focus (intro w' hx; go_simp; first | done | with_reducible rfl)); simp only [Act.put, List.setIfInBounds_toArray, List.set_cons_zero, List.set_cons_succ])
        clear p3 p3' e1
        (refine wpE_call rfl (by rfl) (fun K hK => ?_); go_simp; first | (go_at_call 22; refine (co _ hx1).mono ?_; rintro e v2 ⟨rfl, hv2⟩; refine hK _ _ hv2 ?_; clear hK K))
        iterate 2 (refine wpE_read (v := ?_) rfl (by rfl) ?_ ?_; rotate_left; (focus (intro w' hx; go_simp; first | done | with_reducible rfl)); simp only [Act.put, List.setIfInBounds_toArray, List.set_cons_zero, List.set_cons_succ])
        refine wpE_done ?_
        have HV1 : Hid (Ext wr v2) := hx1.trans hv2
        have B1' := hv2.heap B1.out
        have B1 : Hid (v2.heap[v1.heap.size]? = some (.cells #[.int .i64 (theR (some r0)).t, .int .u32 (theR (some r0)).a, .int .i64 (theR (some r0)).l, .int .i64 (theR (some r0)).i, .int .u32 (theR (some r0)).g, .int .i64 (theR (some r0)).m] 33 (0, 0))) := B1'
        clear hx1 hv2 B1' co
        by_cases hneg : a2 < 0
        · go_wp2_with (go_at_call 14; refine (kn _).mono ?_; rintro e wz ⟨rfl, hxz⟩)
          go_ret
          exact ⟨rfl, (HE.out.trans (HV1.out.trans hxz)).below⟩
        · have e2 : v2.cell? ⟨xb, 1, none⟩ = some (.slice q U.length c) := by rw [heap_cell (HV1.out.heap HX.out.1)]; rfl
          by_cases hge : (U.length : Int) ≤ a2
          · go_wp2_with (go_at_call 14; refine (kn _).mono ?_; rintro e wz ⟨rfl, hxz⟩)
            go_ret
            exact ⟨rfl, (HE.out.trans (HV1.out.trans hxz)).below⟩
          · obtain ⟨n, rfl⟩ : ∃ n : Nat, a2 = (n : Int) := ⟨a2.toNat, by omega⟩
            have hnU : n < U.length := by omega
            have hnl : (n : Int) < (U.length : Int) := by omega
            obtain ⟨u, hu⟩ : ∃ u, U[n]? = some u := ⟨_, List.getElem?_eq_getElem hnU⟩
            obtain ⟨g, hq, hgc⟩ := HX.out.2.2.cell hu
            subst hq
            have e3 : v2.cell? ⟨g, n, none⟩ = some (.bool u) := by rw [HV1.out.below.cell (p := ⟨g, n, none⟩) (block_lt hgc)]; exact hgc
            have HNU : Hid (n < U.length ∧ U[n]? = some u) := ⟨hnU, hu⟩
            clear hnU hu hgc
            cases u with
            | false =>
              go_wp2_with (go_at_call 14; refine (kn _).mono ?_; rintro e wz ⟨rfl, hxz⟩)
              go_ret
              exact ⟨rfl, (HE.out.trans (HV1.out.trans hxz)).below⟩
            | true =>
              have hd1 := setF_down HNU.out.1 HG.out.2.2
              have hu1 := setF_up HNU.out.2 HG.out.2.2
              have c1 := setUp_any fb L U F (n : Int) false v2 (HF.out.ext HV1.out)
              rw [hd1] at c1
              have c3 := fun W F1 (h : FibAt W fb L (U.set n false) F1) => setUp_any fb L (U.set n false) F1 (n : Int) true W h
              rw [hu1] at c3
              have tok1 : Hid True := trivial
              have tok2 : Hid True := trivial
              have tok3 : Hid True := trivial
              obtain ⟨o2, ho2⟩ : ∃ o2, wayO L (U.set n false) 0 a3 = o2 := ⟨_, rfl⟩
              have HO2 : Hid (wayO L (U.set n false) 0 a3 = o2 ∧ (o2.isSome = true → (theR o2).i ≠ (n : Int))) := ⟨ho2, fun hs => by
                cases o2 with
                | none => cases hs
                | some s => exact (down_upB (way_up HG.out.1 HB3.out.1 HB3.out.2 ho2)).2⟩
              have HFL : Hid (∀ x ∈ F, x < wr.heap.size) := HF.out.lt
              have hbF : Hid (v1.heap.size ∉ F) := fun hh => by have := HFL.out _ hh; have := HV0.out; omega
              clear ho2 hd1 hu1
              have HF0 : Hid (∀ x ∈ F, w.heap.size ≤ x) := hFw
              dsimp only at c1 c3
              cases o2 with
              | none =>
                have nz := HER.out (theR (some r0))
                go_wp2_with (first
                  | (go_at_call 23; clear tok1; refine c1.mono ?_; rintro e v3 ⟨rfl, F3, f1, f2, f3⟩; have H3 : Hid (FibAt v3 fb L (U.set n false) F3 ∧ ExtS F v2 v3 ∧ ∀ x ∈ F3, x ∈ F ∨ v2.heap.size ≤ x) := ⟨f1, f2, f3⟩; clear f1 f2 f3)
                  | (go_at_call 16; clear tok2; refine (look_any fb 0 a3 L (U.set n false) F3 v3 H3.out.1 HB3.out.1 HB3.out.2).mono ?_; rintro e v4 ⟨rfl, hv4⟩; rw [HO2.out.1]; have HV4 : Hid (Ext v3 (v4.alloc (.cells #[.int .i64 (theR none).t, .int .u32 (theR none).a, .int .i64 (theR none).l, .int .i64 (theR none).i, .int .u32 (theR none).g, .int .i64 (theR none).m] 33)) ∧ v3.heap.size ≤ v4.heap.size ∧ (v4.alloc (.cells #[.int .i64 (theR none).t, .int .u32 (theR none).a, .int .i64 (theR none).l, .int .i64 (theR none).i, .int .u32 (theR none).g, .int .i64 (theR none).m] 33)).heap[v4.heap.size]? = some (.cells #[.int .i64 (theR none).t, .int .u32 (theR none).a, .int .i64 (theR none).l, .int .i64 (theR none).i, .int .u32 (theR none).g, .int .i64 (theR none).m] 33 (0, 0))) := ⟨hv4.alloc _, hv4.size, heap_new v4 _⟩; clear hv4)
                  | (go_at_call 23; refine (c3 _ F3 (H3.out.1.ext HV4.out.1)).mono ?_; rintro e v5 ⟨rfl, F5, f1, f2, f3⟩; have H5 : Hid (FibAt v5 fb L U F5 ∧ ExtS F3 (v4.alloc (.cells #[.int .i64 (theR none).t, .int .u32 (theR none).a, .int .i64 (theR none).l, .int .i64 (theR none).i, .int .u32 (theR none).g, .int .i64 (theR none).m] 33)) v5) := ⟨f1, f2⟩; clear f1 f2 f3)
                  | (go_at_call 16; clear tok3; refine (look_any fb 0 a3 L U F5 v5 H5.out.1 HB3.out.1 HB3.out.2).mono ?_; rintro e v6 ⟨rfl, hv6⟩; rw [HOO.out]; have hv7 : Ext v5 (v6.alloc (.cells #[.int .i64 (theR (some r0)).t, .int .u32 (theR (some r0)).a, .int .i64 (theR (some r0)).l, .int .i64 (theR (some r0)).i, .int .u32 (theR (some r0)).g, .int .i64 (theR (some r0)).m] 33)) := hv6.alloc _; have hb4 : v4.heap.size ∉ F3 := (fun hh => absurd (H3.out.1.lt _ hh) (Nat.not_lt.2 HV4.out.2.1)); have hb1 : v1.heap.size ∉ F3 := (fun hh => (H3.out.2.2 _ hh).elim hbF.out (fun h => by have := heap_lt B1.out; omega)); obtain ⟨p0, p1, p2, p3, p4, p5⟩ := rt6' (hv7.heap (H5.out.2.heap hb1 (HV4.out.1.heap (H3.out.2.1.heap hbF.out B1.out)))); obtain ⟨q0, q1, q2, q3, q4, q5⟩ := rt6' (hv7.heap (H5.out.2.heap hb4 HV4.out.2.2)); obtain ⟨r0', r1, r2, r3, r4, r5⟩ := rt6' (heap_new v6 (.cells #[.int .i64 (theR (some r0)).t, .int .u32 (theR (some r0)).a, .int .i64 (theR (some r0)).l, .int .i64 (theR (some r0)).i, .int .u32 (theR (some r0)).g, .int .i64 (theR (some r0)).m] 33)); have HV7 : Hid _ := hv7; clear hv6 hv7)
                  | (go_at_call 14; refine (kn _).mono ?_; rintro e wz ⟨rfl, hxz⟩))
                go_ret
                exact ⟨rfl, all_below HE.out HV1.out H3.out.2.1 HV4.out.1 H5.out.2 (Ext.trans HV7.out hxz) HF0.out H3.out.2.2⟩
              | some s =>
                have hne : ((theR (some s)).i != (n : Int)) = true := bne_iff_ne.2 (HO2.out.2 rfl)
                have nz := HER.out (theR (some r0))
                go_wp2_with (first
                  | (go_at_call 23; clear tok1; refine c1.mono ?_; rintro e v3 ⟨rfl, F3, f1, f2, f3⟩; have H3 : Hid (FibAt v3 fb L (U.set n false) F3 ∧ ExtS F v2 v3 ∧ ∀ x ∈ F3, x ∈ F ∨ v2.heap.size ≤ x) := ⟨f1, f2, f3⟩; clear f1 f2 f3)
                  | (go_at_call 16; clear tok2; refine (look_any fb 0 a3 L (U.set n false) F3 v3 H3.out.1 HB3.out.1 HB3.out.2).mono ?_; rintro e v4 ⟨rfl, hv4⟩; rw [HO2.out.1]; have HV4 : Hid (Ext v3 (v4.alloc (.cells #[.int .i64 (theR (some s)).t, .int .u32 (theR (some s)).a, .int .i64 (theR (some s)).l, .int .i64 (theR (some s)).i, .int .u32 (theR (some s)).g, .int .i64 (theR (some s)).m] 33)) ∧ v3.heap.size ≤ v4.heap.size ∧ (v4.alloc (.cells #[.int .i64 (theR (some s)).t, .int .u32 (theR (some s)).a, .int .i64 (theR (some s)).l, .int .i64 (theR (some s)).i, .int .u32 (theR (some s)).g, .int .i64 (theR (some s)).m] 33)).heap[v4.heap.size]? = some (.cells #[.int .i64 (theR (some s)).t, .int .u32 (theR (some s)).a, .int .i64 (theR (some s)).l, .int .i64 (theR (some s)).i, .int .u32 (theR (some s)).g, .int .i64 (theR (some s)).m] 33 (0, 0))) := ⟨hv4.alloc _, hv4.size, heap_new v4 _⟩; clear hv4)
                  | (go_at_call 23; refine (c3 _ F3 (H3.out.1.ext HV4.out.1)).mono ?_; rintro e v5 ⟨rfl, F5, f1, f2, f3⟩; have H5 : Hid (FibAt v5 fb L U F5 ∧ ExtS F3 (v4.alloc (.cells #[.int .i64 (theR (some s)).t, .int .u32 (theR (some s)).a, .int .i64 (theR (some s)).l, .int .i64 (theR (some s)).i, .int .u32 (theR (some s)).g, .int .i64 (theR (some s)).m] 33)) v5) := ⟨f1, f2⟩; clear f1 f2 f3)
                  | (go_at_call 16; clear tok3; refine (look_any fb 0 a3 L U F5 v5 H5.out.1 HB3.out.1 HB3.out.2).mono ?_; rintro e v6 ⟨rfl, hv6⟩; rw [HOO.out]; have hv7 : Ext v5 (v6.alloc (.cells #[.int .i64 (theR (some r0)).t, .int .u32 (theR (some r0)).a, .int .i64 (theR (some r0)).l, .int .i64 (theR (some r0)).i, .int .u32 (theR (some r0)).g, .int .i64 (theR (some r0)).m] 33)) := hv6.alloc _; have hb4 : v4.heap.size ∉ F3 := (fun hh => absurd (H3.out.1.lt _ hh) (Nat.not_lt.2 HV4.out.2.1)); have hb1 : v1.heap.size ∉ F3 := (fun hh => (H3.out.2.2 _ hh).elim hbF.out (fun h => by have := heap_lt B1.out; omega)); obtain ⟨p0, p1, p2, p3, p4, p5⟩ := rt6' (hv7.heap (H5.out.2.heap hb1 (HV4.out.1.heap (H3.out.2.1.heap hbF.out B1.out)))); obtain ⟨q0, q1, q2, q3, q4, q5⟩ := rt6' (hv7.heap (H5.out.2.heap hb4 HV4.out.2.2)); obtain ⟨r0', r1, r2, r3, r4, r5⟩ := rt6' (heap_new v6 (.cells #[.int .i64 (theR (some r0)).t, .int .u32 (theR (some r0)).a, .int .i64 (theR (some r0)).l, .int .i64 (theR (some r0)).i, .int .u32 (theR (some r0)).g, .int .i64 (theR (some r0)).m] 33)); have HV7 : Hid _ := hv7; clear hv6 hv7)
                  | (go_at_call 14; refine (kn _).mono ?_; rintro e wz ⟨rfl, hxz⟩))
                go_ret
                exact ⟨rfl, all_below HE.out HV1.out H3.out.2.1 HV4.out.1 H5.out.2 (Ext.trans HV7.out hxz) HF0.out H3.out.2.2⟩

theorem contract (H : Type) (enc : TypeId × Value → H) (W : World) (base : Nat) (args : Array Value) (ds gs : List (DataW H)) (before : List MemPlace)
    (hval : ∀ (j : Nat) t v, Tryz.f6.params[j]? = some t → args[j]? = some v → Value.okWide Tryz.prog W .any base t v)
    (hW : DataW.Whole enc Tryz.prog Tryz.f6.params.toList Rows.fibUpSpec.vars false W args.toList ds gs before) (hsh : W.ShapedOpen Tryz.prog) :
    Calls Tryz.prog 6 args W fun e W' => ∃ v, e = .returned v ∧ Rows.fibUpSpec.post enc Tryz.prog Tryz.f6 false true false false W args v W' := by
  have hW' := hW
  obtain ⟨p, q, hA0, hV, rfl, hfz, hnd⟩ := hW
  have hA : DataW.TrodAll enc Tryz.prog W 0 (fun _ => true) true Tryz.f6.params.toList args.toList ds p := hA0
  rw [Tryz.params6] at hA hval
  obtain ⟨v0, vs0, d0, ds0, p0, q0, hargs, rfl, rfl, h0, r0⟩ := trodAll_cons hA
  obtain ⟨v1, vs1, d1, ds1, p1, q1, rfl, rfl, rfl, h1, r1⟩ := trodAll_cons r0
  obtain ⟨v2, vs2, d2, ds2, p2, q2, rfl, rfl, rfl, h2, r2⟩ := trodAll_cons r1
  obtain ⟨v3, vs3, d3, ds3, p3, q3, rfl, rfl, rfl, h3, r3⟩ := trodAll_cons r2
  obtain ⟨rfl, rfl, rfl⟩ := trodAll_nil r3
  obtain rfl : args = #[v0, v1, v2, v3] := by cases args; simp_all
  obtain ⟨rfl, rfl⟩ := trodVars_none hV
  obtain ⟨a0, rfl, rfl, rfl, w0⟩ := open_int Tryz.underlying3 (hval 0 3 v0 rfl rfl) h0
  have k1 := h1
  have lt1 : ∀ x ∈ p1, x.block < W.heap.size := by obtain ⟨m, hm⟩ := k1; exact DataW.trod_lt m _ _ _ hm
  obtain ⟨b1, l1, c1, rfl⟩ := okWide_slice Tryz.underlying22 (hval 1 22 v1 rfl rfl)
  obtain ⟨fu1, hf1⟩ := h1
  obtain ⟨a1, len1, cap1, zs1, ce1, row1⟩ := open_rowG 9 cells35 ok35 (by omega) cells35_length Tryz.underlying22 (by kernel_rfl) elem35 hf1
  obtain ⟨rfl, rfl, rfl⟩ : a1 = b1 ∧ len1 = l1 ∧ cap1 = c1 := by simpa [Value.cells, eq_comm] using ce1
  obtain ⟨a2, rfl, rfl, rfl, w2⟩ := open_int Tryz.underlying3 (hval 2 3 v2 rfl rfl) h2
  obtain ⟨a3, rfl, rfl, rfl, w3⟩ := open_int Tryz.underlying29 (hval 3 29 v3 rfl rfl) h3
  clear hA0
  refine (walk a0 a1 len1 cap1 zs1 a2 a3 W w0 row1 w2 w3 hsh).mono fun e W' ⟨he, bel⟩ => ?_
  subst he
  exact ⟨_, rfl, _, _, _, [], _, [], hW', trodAll_mk1 (shut_bool Tryz.underlying4 _), (trodAll_cons_mk (shut_int Tryz.underlying3 w0) (trodAll_cons_mk (Below.trod laidOut (by kernel_rfl) (of_decide_eq_true (by kernel_rfl)) k1 bel lt1) (trodAll_cons_mk (shut_int Tryz.underlying3 w2) (trodAll_cons_mk (shut_int Tryz.underlying29 w3) trodAll_mk0)))), rfl, bel.frame _, fun h => by cases h⟩

theorem laid_met (os : Os) : laidMet Tryz.prog Rows.fibUpRow.laid ((World.doorLaid Tryz.prog 24 os).forCall (fun _ _ => 0) ⟨#[], #[.int .i64 0, .slice none 0 0, .int .i64 0, .int .u32 0], []⟩).memory :=
  laidMet_of_run' 8 (by kernel_rfl) (by kernel_rfl)
theorem reads (os : Os) {H : Type} (enc : TypeId × Value → H) : ∃ places, DataW.whole enc Tryz.prog ((World.doorLaid Tryz.prog 24 os).forCall (fun _ _ => 0) ⟨#[], #[.int .i64 0, .slice none 0 0, .int .i64 0, .int .u32 0], []⟩).memory Tryz.f6.params.toList Rows.fibUpSpec.vars false (#[.int .i64 0, .slice none 0 0, .int .i64 0, .int .u32 0] : Array Value).toList 8 = some ([.lit (.int .i64 0), .nil, .lit (.int .i64 0), .lit (.int .u32 0)], [], places) :=
  ⟨[], by kernel_rfl⟩

set_option maxRecDepth 100000 in
theorem lifted (os : Os) (started : os.Started) (H : Type) (enc : TypeId × Value → H) (F : Stop.Interp) :
    ReturnsInHanded {} Tryz.checked os 6 .any ((OpenSpec.ofChange Rows.fibUpSpec).preRow enc Tryz.prog Tryz.f6 Rows.fibUpRow.domain false Rows.fibUpRow.laid) (((OpenSpec.ofChange Rows.fibUpSpec).at F).post enc Tryz.prog Tryz.f6 false true false false) := by
  obtain ⟨places, hx⟩ := reads os enc
  refine returnsInHanded_of_row (C := Tryz.checked) (s := (OpenSpec.ofChange Rows.fibUpSpec)) own started (by kernel_rfl) Tryz.func6
    (witness_row_at (enc := enc) (C := Tryz.checked) false (World.doorLaid Tryz.prog 24 os) #[.int .i64 0, .slice none 0 0, .int .i64 0, .int .u32 0] rfl (by kernel_rfl) (by kernel_rfl) (by kernel_rfl)
      (OpenSpec.preRow_of_cond 8 hx (by kernel_rfl) (fun k hk => by cases hk) (by kernel_rfl) (laid_met os))) ?_
  intro W base args ds gs before hval hW _ hcond _ hL hsh _
  exact contract H enc W base args ds gs before hval hW hsh

theorem said : Rows.FibUpSaid :=
  OpenClaim.holds_of_cond 6 Tryz.f6 rfl rfl rfl rfl rfl rfl rfl ⟨rfl, rfl, rfl, rfl, rfl⟩ rfl rfl rfl rfl rfl (by kernel_rfl) Tryz.func6 (by kernel_rfl)
    (of_decide_eq_true (by kernel_rfl)) (by unfold Func.isWrapper; first | (rw [if_pos (by decide +kernel)]; kernel_rfl) | (rw [if_neg (by decide +kernel)]; exact ⟨rfl, rfl⟩))
    (fun os started H enc _ F => by rw [OpenClaim.pre_eq_preRow]; exact lifted os started H enc F)

end Go.Proofs.YtmoimkeeldlpkaaGreat.fibUp

namespace Go.Proofs.YtmoimkeeldlpkaaGreat
theorem fibUp_holds : Rows.FibUpSaid := fibUp.said
#print axioms fibUp_holds
end Go.Proofs.YtmoimkeeldlpkaaGreat
