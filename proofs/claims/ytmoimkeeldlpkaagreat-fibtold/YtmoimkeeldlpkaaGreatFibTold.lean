/- For every number of interfaces, every script, every table and every address, the law FibTold returns true: the way that is told is of a prefix that has the address, up, and there; no way that is up has a longer one; of its prefix it is the best; no condition. -/
import Derived.Test.YtmoimkeeldlpkaaGreatRows
import Derived.Test.YtmoimkeeldlpkaaGreatJ1
import Derived.Test.YtmoimkeeldlpkaaGreatJ2
import Derived.Test.YtmoimkeeldlpkaaGreatJ3
import Derived.Test.YtmoimkeeldlpkaaGreatJ4
import Derived.Test.YtmoimkeeldlpkaaGreatJ5
import Derived.Test.YtmoimkeeldlpkaaGreatJ6
import Derived.Test.YtmoimkeeldlpkaaGreatJ7
import Derived.Test.YtmoimkeeldlpkaaGreatJ8
import Derived.Test.YtmoimkeeldlpkaaGreatJ9
import Derived.Test.YtmoimkeeldlpkaaGreatJ10
import Derived.Test.YtmoimkeeldlpkaaGreatJ11
import Derived.Test.YtmoimkeeldlpkaaGreatJ12
import Derived.Test.YtmoimkeeldlpkaaGreatJ13
import Derived.Test.YtmoimkeeldlpkaaGreatJ14
import Derived.Test.YtmoimkeeldlpkaaGreatJ15
import Derived.Test.YtmoimkeeldlpkaaGreatJ16
import Derived.Test.YtmoimkeeldlpkaaGreatJ17
import Derived.Test.YtmoimkeeldlpkaaGreatJ18
import Derived.Test.YtmoimkeeldlpkaaGreatJ19
import Derived.Test.YtmoimkeeldlpkaaGreatJ20
import Derived.Test.YtmoimkeeldlpkaaGreatJ21
import Derived.Test.YtmoimkeeldlpkaaGreatJ22
import Derived.Test.YtmoimkeeldlpkaaGreatJ23
import Derived.Test.YtmoimkeeldlpkaaGreatJ24
import Derived.Test.YtmoimkeeldlpkaaGreatJ25
import Derived.Test.YtmoimkeeldlpkaaGreatJ26
import Derived.WalkKit
import Derived.ProofKit
import Derived.OpenShut
import Derived.ShutString
import Derived.ChangeOld
import Derived.Deep.DeepHandedRow
import Derived.Lib.LaidTab
import Derived.Lib.SmallJoins
import Derived.LaidMore
import Derived.Stop.LaidErr
import Derived.ChangeMaps5
namespace Go.Proofs.YtmoimkeeldlpkaaGreat.fibTold
open Go.ChangeShapes Go.WideShapes Go.ChangeAt Go.RowKit Go.ChangeMaps
set_option linter.unusedVariables false
set_option maxRecDepth 100000

theorem own : ownKnob Tryz.prog.godebug = none := by kernel_rfl
theorem laidOut : laidOutB Tryz.prog = true := by kernel_rfl

abbrev Elem35 := Int × Int × Int × Int × Int × Int × Int × Int × Bool
def cells35 (z : Elem35) : List Value := [.int .i64 (z.1), .int .i64 (z.2.1), .int .u32 (z.2.2.1), .int .i64 (z.2.2.2.1), .int .i64 (z.2.2.2.2.1), .int .u32 (z.2.2.2.2.2.1), .int .i64 (z.2.2.2.2.2.2.1), .int .i64 (z.2.2.2.2.2.2.2.1), .bool (z.2.2.2.2.2.2.2.2)]
def ok35 (z : Elem35) : Prop := (Lit.int .i64 (z.1)).wf = true ∧ (Lit.int .i64 (z.2.1)).wf = true ∧ (Lit.int .u32 (z.2.2.1)).wf = true ∧ (Lit.int .i64 (z.2.2.2.1)).wf = true ∧ (Lit.int .i64 (z.2.2.2.2.1)).wf = true ∧ (Lit.int .u32 (z.2.2.2.2.2.1)).wf = true ∧ (Lit.int .i64 (z.2.2.2.2.2.2.1)).wf = true ∧ (Lit.int .i64 (z.2.2.2.2.2.2.2.1)).wf = true
theorem cells35_length (z : Elem35) : (cells35 z).length = 9 := rfl
theorem elem35 {H : Type} {enc : TypeId × Value → H} {w : World} {base : Nat} {spare : Nat → Bool} {held : Bool} (n : Nat) (cs : List Value) (y : DataW H × List MemPlace)
    (h : DataW.trod enc Tryz.prog w base spare held n 35 cs = some y) : ∃ z : Elem35, cs = cells35 z ∧ ok35 z := by
  have hl : cs.length = 9 := by
    obtain ⟨_, _, _, _, hl, _⟩ := DataW.trod_struct Tryz.underlying35 h
    exact hl.trans (by kernel_rfl)
  obtain ⟨u0, u1, u2, u3, u4, u5, u6, u7, u8, rfl⟩ : ∃ u0 u1 u2 u3 u4 u5 u6 u7 u8, cs = [u0, u1, u2, u3, u4, u5, u6, u7, u8] := by
    match cs, hl with
    | [u0, u1, u2, u3, u4, u5, u6, u7, u8], _ => exact ⟨u0, u1, u2, u3, u4, u5, u6, u7, u8, rfl⟩
  obtain ⟨_, _, e1⟩ := field_at Tryz.underlying35 h 0 rfl 1 (by kernel_rfl)
  obtain ⟨az0, c2, _, wz0⟩ := DataW.trod_int Tryz.underlying3 e1
  obtain rfl : u0 = .int .i64 az0 := by simpa using c2
  obtain ⟨_, _, e3⟩ := field_at Tryz.underlying35 h 1 rfl 6 (by kernel_rfl)
  obtain ⟨_, _, e4⟩ := field_at Tryz.underlying33 e3 0 rfl 1 (by kernel_rfl)
  obtain ⟨az10, c5, _, wz10⟩ := DataW.trod_int Tryz.underlying3 e4
  obtain rfl : u1 = .int .i64 az10 := by simpa using c5
  obtain ⟨_, _, e6⟩ := field_at Tryz.underlying33 e3 1 rfl 2 (by kernel_rfl)
  obtain ⟨_, _, e7⟩ := field_at Tryz.underlying31 e6 0 rfl 1 (by kernel_rfl)
  obtain ⟨az110, c8, _, wz110⟩ := DataW.trod_int Tryz.underlying29 e7
  obtain rfl : u2 = .int .u32 az110 := by simpa using c8
  obtain ⟨_, _, e9⟩ := field_at Tryz.underlying31 e6 1 rfl 1 (by kernel_rfl)
  obtain ⟨az111, c10, _, wz111⟩ := DataW.trod_int Tryz.underlying3 e9
  obtain rfl : u3 = .int .i64 az111 := by simpa using c10
  obtain ⟨_, _, e11⟩ := field_at Tryz.underlying33 e3 2 rfl 1 (by kernel_rfl)
  obtain ⟨az12, c12, _, wz12⟩ := DataW.trod_int Tryz.underlying3 e11
  obtain rfl : u4 = .int .i64 az12 := by simpa using c12
  obtain ⟨_, _, e13⟩ := field_at Tryz.underlying33 e3 3 rfl 1 (by kernel_rfl)
  obtain ⟨az13, c14, _, wz13⟩ := DataW.trod_int Tryz.underlying29 e13
  obtain rfl : u5 = .int .u32 az13 := by simpa using c14
  obtain ⟨_, _, e15⟩ := field_at Tryz.underlying33 e3 4 rfl 1 (by kernel_rfl)
  obtain ⟨az14, c16, _, wz14⟩ := DataW.trod_int Tryz.underlying3 e15
  obtain rfl : u6 = .int .i64 az14 := by simpa using c16
  obtain ⟨_, _, e17⟩ := field_at Tryz.underlying35 h 2 rfl 1 (by kernel_rfl)
  obtain ⟨az2, c18, _, wz2⟩ := DataW.trod_int Tryz.underlying3 e17
  obtain rfl : u7 = .int .i64 az2 := by simpa using c18
  obtain ⟨_, _, e19⟩ := field_at Tryz.underlying35 h 3 rfl 1 (by kernel_rfl)
  obtain ⟨az3, c20, _⟩ := DataW.trod_bool Tryz.underlying4 e19
  obtain rfl : u8 = .bool az3 := by simpa using c20
  exact ⟨(az0, az10, az110, az111, az12, az13, az14, az2, az3), rfl, ⟨wz0, wz10, wz110, wz111, wz12, wz13, wz14, wz2⟩⟩

open Go.Proofs.YtmoimkeeldlpkaaGreat.Tri Go.Proofs.YtmoimkeeldlpkaaGreat.Rb Go.Proofs.YtmoimkeeldlpkaaGreat.Fb

set_option maxHeartbeats 40000000 in
theorem walk (a0 : Int) (a1 : Option Addr) (len1 cap1 : Nat) (zs1 : List Elem35) (a2 : Int) (a3 : Int) (w : World) (w0 : (Lit.int .i64 a0).wf = true) (row1 : IsRowG 9 cells35 ok35 w a1 len1 cap1 zs1) (w2 : (Lit.int .i64 a2).wf = true) (w3 : (Lit.int .u32 a3).wf = true) (hsh : w.ShapedOpen Tryz.prog) :
    Calls Tryz.prog 8 #[.int .i64 a0, .slice a1 len1 cap1, .int .i64 a2, .int .u32 a3] w fun e w' => e = .returned (.bool true) ∧ Below w.heap.size w w' := by
  have hb3 := bounds_u32 w3
  have row : IsRowG 9 aC aOk w a1 len1 cap1 zs1 := row1
  have kn := fun w => known_any w
  have hm := row.le
  have hm2 := row.room
  unfold maxLen at hm2
  have HR : Hid (IsRowG 9 aC aOk w a1 len1 cap1 zs1) := row
  have HB3 : Hid (0 ≤ a3 ∧ a3 ≤ 4294967295) := hb3
  clear row row1 w3 hb3
  go_enter Tryz.func8, Tryz.ntmps8
  go_wp2_with (go_at_call 10; refine (fnew_any a0 _).mono ?_; rintro e w1 ⟨fb, F, rfl, h1, hx1, hF⟩; have H1 : Hid (PlayF w w1 fb) := ⟨_, _, F, h1, hx1, hF⟩; clear h1 hx1 hF)
  go_loopw [10] (fun i wr => ∃ k : Nat, k ≤ 50 ∧ k ≤ len1 ∧ i = .int .i64 k ∧ Hid (PlayF w wr fb)) (fun i _ => 50 - (intOf i).toNat)
  case atStart => exact ⟨0, Nat.zero_le _, Nat.zero_le _, rfl, H1⟩
  case round =>
    clear H1
    obtain ⟨k, hk, hkl, rfl, HK⟩ := hrel
    obtain ⟨L, U, F, hF, hE, hFw⟩ := HK.out
    have HF : Hid (FibAt wr fb L U F ∧ ∀ x ∈ F, w.heap.size ≤ x) := ⟨hF, hFw⟩
    have HE : Hid (Ext w wr) := hE
    clear hF hE hFw HK
    by_cases hlt : k < len1
    · by_cases h60 : k < 50
      · obtain ⟨b, off, kd, r, i, u, rfl, hrok, hbl, hc⟩ := aCells HR.out hlt
        have hki : (k : Int) < (len1 : Int) := by omega
        have h60i : (k : Int) < 50 := by omega
        obtain ⟨x0, x1, x2, x3, x4, x5, x6, x7, x8⟩ := hc wr (cell_ext hbl HE.out)
        have cA := Fb.add_any fb L U F r wr HF.out.1 hrok
        have cD := Fb.del_any fb L U F r wr HF.out.1
        have HCC : Hid _ := hc
        have HBL : Hid (b < w.heap.size) := hbl
        clear hc hrok hbl
        by_cases hk1 : kd = 1
        · subst hk1
          clear cD
          go_wp2_with (go_at_call 24; refine cA.mono ?_; rintro e w3 ⟨rfl, hf3⟩; have H3 : Hid (PlayF w w3 fb) := playF HE.out HF.out.2 hf3; clear hf3)
          go_roundw
          case rel => exact ⟨k + 1, by omega, by omega, by go_num, H3⟩
          case measure => simp [intOf]; omega
        · by_cases hk2 : kd = 2
          · subst hk2
            clear cA
            go_wp2_with (go_at_call 25; refine cD.mono ?_; rintro e w3 ⟨rfl, hf3⟩; have H3 : Hid (PlayF w w3 fb) := playF HE.out HF.out.2 hf3; clear hf3)
            go_roundw
            case rel => exact ⟨k + 1, by omega, by omega, by go_num, H3⟩
            case measure => simp [intOf]; omega
          · clear cA cD
            go_wp2_with fail
            refine wp_region_eagerS F [(0, false), (1, false), (2, false), (3, false), (4, false), (5, false), (6, false), (7, false), (8, false), (9, false), (10, false), (11, true)] (by kernel_rfl) (by kernel_rfl) rfl (by kernel_rfl) (fun _ _ _ _ _ h => h) ?_
            have hxd : Ext wr wr.drew := (Ext.refl wr).drew
            have cS := Fb.setUp_any fb L U F i u wr.drew (HF.out.1.ext hxd)
            have HLT : Hid (∀ x ∈ F, w.heap.size ≤ x) := HF.out.2
            have HED : Hid (Ext w wr.drew) := HE.out.trans hxd
            have y7 : ∀ w', ExtS F wr.drew w' → w'.cell? ⟨b, off + k * 9 + 7, none⟩ = some (.int .i64 i) := fun w' h => (HCC.out w' (cell_ext HBL.out (ExtS.ext ((HED.out.toS F).trans h) HLT.out))).2.2.2.2.2.2.2.1
            have y8 : ∀ w', ExtS F wr.drew w' → w'.cell? ⟨b, off + k * 9 + 8, none⟩ = some (.bool u) := fun w' h => (HCC.out w' (cell_ext HBL.out (ExtS.ext ((HED.out.toS F).trans h) HLT.out))).2.2.2.2.2.2.2.2
            clear x0 x1 x2 x3 x4 x5 x6 x7 x8 hxd
            generalize wr.drew = W at *
            iterate 11 (refine wpE_read (v := ?_) rfl (by rfl) ?_ ?_; rotate_left; (focus (intro w' hx; go_simp; first | done | with_reducible rfl)); simp only [Act.put, List.setIfInBounds_toArray, List.set_cons_zero, List.set_cons_succ])
            (refine wpE_call rfl (by rfl) (fun K hK => ?_); go_simp; first | (go_at_call 23; refine cS.mono ?_; rintro e w3 ⟨rfl, hf3⟩; have H3 : Hid (PlayF w w3 fb) := playF HED.out HLT.out hf3; obtain ⟨F9, f1, f2, f3⟩ := hf3; refine hK _ _ f2 ?_; clear hK K f1 f2 f3))
            refine wpE_done ?_
            clear y7 y8
            go_wp2_with fail
            go_roundw
            case rel => exact ⟨k + 1, by omega, by omega, by go_num, H3⟩
            case measure => simp [intOf]; omega
      · obtain rfl : k = 50 := by omega
        have hki : (50 : Int) < (len1 : Int) := by omega
        have hg := HF.out.1.good
        have HG : Hid (Rb.Good L) := hg
        have hgl := hg.len
        have hg8 := HF.out.1.eight
        have cL := look_any fb a2 a3 L U F wr HF.out.1 HB3.out.1 HB3.out.2
        have hall := thereF_all hg (U := U) (t := a2) HB3.out.1 HB3.out.2
        have HTG : Hid (∀ x ∈ L, candF U a2 a3 x = true → ∃ r, wayO L U a2 a3 = some r ∧ x.l ≤ r.l ∧ (x.a = r.a → x.l = r.l → betB x r = false)) := fun x hx hc => told_good HG.out HB3.out.1 HB3.out.2 hx hc
        have HPX : Hid (∀ x ∈ L, 0 ≤ x.a ∧ x.a ≤ 4294967295) := fun x hx => ⟨(HG.out.ok x hx).2.2.1, (HG.out.ok x hx).2.2.2.1⟩
        generalize hoo : wayO L U a2 a3 = o at *
        unfold BestAns at cL
        generalize hz : o.isSome = z at cL hall
        have HZO : Hid (o.isSome = z) := hz
        have HALL : Hid (thereF L U a2 a3 o = z) := hall
        clear hoo hall hg hz
        go_wp2_with (first
          | (go_at_call 16; refine cL.mono ?_; rintro e v1 ⟨rfl, hv1⟩; have HV1 : Hid (Ext wr (v1.alloc (.cells #[.int .i64 (theR o).t, .int .u32 (theR o).a, .int .i64 (theR o).l, .int .i64 (theR o).i, .int .u32 (theR o).g, .int .i64 (theR o).m] 33)) ∧ (v1.alloc (.cells #[.int .i64 (theR o).t, .int .u32 (theR o).a, .int .i64 (theR o).l, .int .i64 (theR o).i, .int .u32 (theR o).g, .int .i64 (theR o).m] 33)).heap[v1.heap.size]? = some (.cells #[.int .i64 (theR o).t, .int .u32 (theR o).a, .int .i64 (theR o).l, .int .i64 (theR o).i, .int .u32 (theR o).g, .int .i64 (theR o).m] 33 (0, 0))) := ⟨hv1.alloc _, heap_new v1 _⟩; clear hv1)
          | (go_at_call 20; refine (fall_any fb L U F _ (HF.out.1.ext HV1.out.1)).mono ?_; rintro e v2 ⟨va, rfl, ho2, hv2⟩; obtain ⟨p2, c2, rfl, -, -, hR2⟩ := ho2.slice; have HV2 : Hid (Ext wr v2 ∧ Rd v2 p2 L.length c2 L ∧ v2.heap[v1.heap.size]? = some (.cells #[.int .i64 (theR o).t, .int .u32 (theR o).a, .int .i64 (theR o).l, .int .i64 (theR o).i, .int .u32 (theR o).g, .int .i64 (theR o).m] 33 (0, 0))) := ⟨HV1.out.1.trans hv2, hR2, hv2.heap HV1.out.2⟩; clear ho2 hv2 hR2)
          | (go_at_call 26; refine (up_any fb L U F _ (HF.out.1.ext HV2.out.1)).mono ?_; rintro e v3 ⟨vu, rfl, ho3, hv3⟩; obtain ⟨q3, c3, rfl, -, -⟩ := ho3.slice; have HU3 : Hid (Ups v3 q3 U.length U) := ho3.ups (by omega); have HV3 : Hid (Ext wr v3 ∧ Rd v3 p2 L.length c2 L ∧ v3.heap[v1.heap.size]? = some (.cells #[.int .i64 (theR o).t, .int .u32 (theR o).a, .int .i64 (theR o).l, .int .i64 (theR o).i, .int .u32 (theR o).g, .int .i64 (theR o).m] 33 (0, 0))) := ⟨HV2.out.1.trans hv3, HV2.out.2.1.ext hv3, hv3.heap HV2.out.2.2⟩; clear ho3 hv3))
        clear cL
        go_loopg [15, 16] L.length (fun kx s15 s16 wq => ∃ k : Nat, s16 = .int .i64 k ∧ s15 = .bool (thereF (L.take k) U a2 a3 o) ∧ k ≤ L.length ∧ L.length - k ≤ kx ∧ Ext v3 wq)
        case atStart => exact ⟨0, rfl, rfl, Nat.zero_le _, Nat.le_refl _, Ext.refl _⟩
        case round =>
          obtain ⟨j, rfl, rfl, hjL, hjx, hx⟩ := hrel
          by_cases hjl : j < L.length
          · obtain ⟨x, hxj⟩ : ∃ x, L[j]? = some x := ⟨_, List.getElem?_eq_getElem hjl⟩
            obtain ⟨b, off, rfl, hb, g0, g1, g2, g3, g4, g5⟩ := (HV3.out.2.1.ext hx).cell hxj
            have hji : (j : Int) < (L.length : Int) := by omega
            have hst := thereF_take (U := U) (t := a2) (a := a3) (o := o) hxj
            have HST : Hid _ := hst
            have hxL := List.mem_of_getElem? hxj
            have HXL : Hid (x ∈ L) := hxL
            generalize hth : thereF (L.take j) U a2 a3 o = th at *
            clear hst hxj hth
            have hA : Ext wr (wr.alloc (.cells #[.int .i64 x.t, .int .u32 x.a, .int .i64 x.l, .int .i64 x.i, .int .u32 x.g, .int .i64 x.m] 33)) := (Ext.refl wr).alloc _
            have BX : Hid ((wr.alloc (.cells #[.int .i64 x.t, .int .u32 x.a, .int .i64 x.l, .int .i64 x.i, .int .u32 x.g, .int .i64 x.m] 33)).heap[wr.heap.size]? = some (.cells #[.int .i64 x.t, .int .u32 x.a, .int .i64 x.l, .int .i64 x.i, .int .u32 x.g, .int .i64 x.m] 33 (0, 0))) := heap_new wr _
            have BO : Hid ((wr.alloc (.cells #[.int .i64 x.t, .int .u32 x.a, .int .i64 x.l, .int .i64 x.i, .int .u32 x.g, .int .i64 x.m] 33)).heap[v1.heap.size]? = some (.cells #[.int .i64 (theR o).t, .int .u32 (theR o).a, .int .i64 (theR o).l, .int .i64 (theR o).i, .int .u32 (theR o).g, .int .i64 (theR o).m] 33 (0, 0))) := (hx.trans hA).heap HV3.out.2.2
            have HX3 : Hid (Ext v3 (wr.alloc (.cells #[.int .i64 x.t, .int .u32 x.a, .int .i64 x.l, .int .i64 x.i, .int .u32 x.g, .int .i64 x.m] 33))) := hx.trans hA
            have co := fun W (h : Ext v3 W) => on_any x.i q3 U.length c3 U W (HU3.out.ext h)
            have ch := fun W => refHas_any x.a x.l a3 W (HPX.out x hxL).1 (HPX.out x hxL).2 HB3.out.1 HB3.out.2
            obtain ⟨z0, z1, z2, z3, z4, z5⟩ := rt6' BX.out
            clear hxL
            by_cases ht : x.t = a2
            · have HT : Hid (x.t = a2) := ht
              have hte : (x.t == a2) = true := by simpa using ht
              have htn : (x.t != a2) = false := by simpa using ht
              clear ht
              cases hu : upB U x.i with
              | false =>
                have hc : candF U a2 a3 x = false := by unfold candF; rw [hu]; simp
                have HC : Hid (candF U a2 a3 x = false) := hc
                rw [hu] at co
                clear hu hc ch
                go_wp2_with (go_at_call 22; refine (co _ HX3.out).mono ?_; rintro e v4 ⟨rfl, hv4⟩)
                go_roundg (L.length - (j + 1))
                case measure => omega
                case rel => exact ⟨j + 1, by go_num, by rw [HST.out, HC.out]; simp, by omega, Nat.le_refl _, Ext.trans HX3.out hv4⟩
              | true =>
                rw [hu] at co
                cases hh : hasV x.a x.l a3 with
                | false =>
                  have hc : candF U a2 a3 x = false := by unfold candF; rw [hh]; simp
                  have HC : Hid (candF U a2 a3 x = false) := hc
                  rw [hh] at ch
                  clear hu hh hc
                  go_wp2_with (first
                    | (go_at_call 22; refine (co _ HX3.out).mono ?_; rintro e v4 ⟨rfl, hv4⟩; obtain ⟨y0, y1, y2, y3, y4, y5⟩ := rt6' (hv4.heap BX.out))
                    | (go_at_call 28; refine (ch _).mono ?_; rintro e v5 ⟨rfl, hv5⟩))
                  go_roundg (L.length - (j + 1))
                  case measure => omega
                  case rel => exact ⟨j + 1, by go_num, by rw [HST.out, HC.out]; simp, by omega, Nat.le_refl _, Ext.trans HX3.out (hv4.trans hv5)⟩
                | true =>
                  have hc : candF U a2 a3 x = true := cand_iff.2 ⟨HT.out, hu, hh⟩
                  obtain ⟨r, hor, hlr, hbr⟩ := HTG.out x HXL.out hc
                  have hth : theR o = r := by rw [hor]; rfl
                  obtain rfl : z = true := by rw [← HZO.out, hor]; rfl
                  rw [← hth] at hlr hbr
                  have hle : ¬ ((theR o).l < x.l) := by omega
                  have hle2 : x.l ≤ (theR o).l := hlr
                  clear hor hth
                  have HC : Hid (candF U a2 a3 x = true) := hc
                  rw [hh] at ch
                  have er := fun W => eql_rt x (theR o) W
                  have ep := fun W => eql_prefix x.a x.l (theR o).a (theR o).l W
                  generalize hq : eqB x (theR o) = eq at er
                  have HQ : Hid (eqB x (theR o) = eq) := hq
                  clear hu hh hc hq
                  have kb := fun W => refBetter_any x (theR o) W
                  cases hp : (x.a == (theR o).a && x.l == (theR o).l) with
                  | false =>
                    rw [hp] at ep
                    clear hp kb hbr
                    cases th with
                    | true =>
                      go_wp2_with (first
                        | (go_at_call 22; refine (co _ HX3.out).mono ?_; rintro e v4 ⟨rfl, hv4⟩; obtain ⟨y0, y1, y2, y3, y4, y5⟩ := rt6' (hv4.heap BX.out))
                        | (go_at_call 28; refine (ch _).mono ?_; rintro e v5 ⟨rfl, hv5⟩; obtain ⟨s0, s1, s2, s3, s4, s5⟩ := rt6' ((hv4.trans hv5).heap BX.out); obtain ⟨t0, t1, t2, t3, t4, t5⟩ := rt6' ((hv4.trans hv5).heap BO.out)))
                      go_roundg (L.length - (j + 1))
                      case measure => omega
                      case rel => exact ⟨j + 1, by go_num, by rw [HST.out]; simp, by omega, Nat.le_refl _, Ext.trans HX3.out (hv4.trans hv5)⟩
                    | false =>
                      go_wp2_with (first
                        | (go_at_call 22; refine (co _ HX3.out).mono ?_; rintro e v4 ⟨rfl, hv4⟩; obtain ⟨y0, y1, y2, y3, y4, y5⟩ := rt6' (hv4.heap BX.out))
                        | (go_at_call 28; refine (ch _).mono ?_; rintro e v5 ⟨rfl, hv5⟩; obtain ⟨s0, s1, s2, s3, s4, s5⟩ := rt6' ((hv4.trans hv5).heap BX.out); obtain ⟨t0, t1, t2, t3, t4, t5⟩ := rt6' ((hv4.trans hv5).heap BO.out)))
                      go_roundg (L.length - (j + 1))
                      case measure => omega
                      case rel => exact ⟨j + 1, by go_num, by rw [HST.out, HC.out]; show Value.bool eq = Value.bool (false || (true && eqB x (theR o))); rw [HQ.out]; simp, by omega, Nat.le_refl _, Ext.trans HX3.out (hv4.trans hv5)⟩
                  | true =>
                    have hbf : betB x (theR o) = false := by
                      simp only [Bool.and_eq_true, beq_iff_eq] at hp
                      exact hbr hp.1 hp.2
                    rw [hp] at ep
                    rw [hbf] at kb
                    clear hp hbf hbr
                    cases th with
                    | true =>
                      go_wp2_with (first
                        | (go_at_call 22; refine (co _ HX3.out).mono ?_; rintro e v4 ⟨rfl, hv4⟩; obtain ⟨y0, y1, y2, y3, y4, y5⟩ := rt6' (hv4.heap BX.out))
                        | (go_at_call 28; refine (ch _).mono ?_; rintro e v5 ⟨rfl, hv5⟩; obtain ⟨s0, s1, s2, s3, s4, s5⟩ := rt6' ((hv4.trans hv5).heap BX.out); obtain ⟨t0, t1, t2, t3, t4, t5⟩ := rt6' ((hv4.trans hv5).heap BO.out))
                        | (go_at_call 29; refine (kb _).mono ?_; rintro e v6 ⟨rfl, hv6⟩))
                      go_roundg (L.length - (j + 1))
                      case measure => omega
                      case rel => exact ⟨j + 1, by go_num, by rw [HST.out]; simp, by omega, Nat.le_refl _, Ext.trans HX3.out (hv4.trans (hv5.trans hv6))⟩
                    | false =>
                      go_wp2_with (first
                        | (go_at_call 22; refine (co _ HX3.out).mono ?_; rintro e v4 ⟨rfl, hv4⟩; obtain ⟨y0, y1, y2, y3, y4, y5⟩ := rt6' (hv4.heap BX.out))
                        | (go_at_call 28; refine (ch _).mono ?_; rintro e v5 ⟨rfl, hv5⟩; obtain ⟨s0, s1, s2, s3, s4, s5⟩ := rt6' ((hv4.trans hv5).heap BX.out); obtain ⟨t0, t1, t2, t3, t4, t5⟩ := rt6' ((hv4.trans hv5).heap BO.out))
                        | (go_at_call 29; refine (kb _).mono ?_; rintro e v6 ⟨rfl, hv6⟩))
                      go_roundg (L.length - (j + 1))
                      case measure => omega
                      case rel => exact ⟨j + 1, by go_num, by rw [HST.out, HC.out]; show Value.bool eq = Value.bool (false || (true && eqB x (theR o))); rw [HQ.out]; simp, by omega, Nat.le_refl _, Ext.trans HX3.out (hv4.trans (hv5.trans hv6))⟩
            · have hc : candF U a2 a3 x = false := by unfold candF; rw [decide_eq_false ht]; simp
              have HC : Hid (candF U a2 a3 x = false) := hc
              have hte : (x.t == a2) = false := by simpa using ht
              have htn : (x.t != a2) = true := by simpa using ht
              clear hc ch co
              go_wp2_with fail
              go_roundg (L.length - (j + 1))
              case measure => omega
              case rel => exact ⟨j + 1, by go_num, by rw [HST.out, HC.out]; simp, by omega, Nat.le_refl _, HX3.out⟩
          · obtain rfl : j = L.length := by omega
            have hfin : thereF (L.take L.length) U a2 a3 o = z := by rw [List.take_of_length_le (Nat.le_refl _)]; exact HALL.out
            rw [hfin]
            clear hfin
            go_wp2_with (go_at_call 14; refine (kn _).mono ?_; rintro e wz ⟨rfl, hxz⟩)
            go_ret
            exact ⟨rfl, (HE.out.trans (HV3.out.1.trans (hx.trans hxz))).below⟩
    · obtain rfl : k = len1 := by omega
      have hg := HF.out.1.good
      have HG : Hid (Rb.Good L) := hg
      have hgl := hg.len
      have hg8 := HF.out.1.eight
      have cL := look_any fb a2 a3 L U F wr HF.out.1 HB3.out.1 HB3.out.2
      have hall := thereF_all hg (U := U) (t := a2) HB3.out.1 HB3.out.2
      have HTG : Hid (∀ x ∈ L, candF U a2 a3 x = true → ∃ r, wayO L U a2 a3 = some r ∧ x.l ≤ r.l ∧ (x.a = r.a → x.l = r.l → betB x r = false)) := fun x hx hc => told_good HG.out HB3.out.1 HB3.out.2 hx hc
      have HPX : Hid (∀ x ∈ L, 0 ≤ x.a ∧ x.a ≤ 4294967295) := fun x hx => ⟨(HG.out.ok x hx).2.2.1, (HG.out.ok x hx).2.2.2.1⟩
      generalize hoo : wayO L U a2 a3 = o at *
      unfold BestAns at cL
      generalize hz : o.isSome = z at cL hall
      have HZO : Hid (o.isSome = z) := hz
      have HALL : Hid (thereF L U a2 a3 o = z) := hall
      clear hoo hall hg hz
      go_wp2_with (first
        | (go_at_call 16; refine cL.mono ?_; rintro e v1 ⟨rfl, hv1⟩; have HV1 : Hid (Ext wr (v1.alloc (.cells #[.int .i64 (theR o).t, .int .u32 (theR o).a, .int .i64 (theR o).l, .int .i64 (theR o).i, .int .u32 (theR o).g, .int .i64 (theR o).m] 33)) ∧ (v1.alloc (.cells #[.int .i64 (theR o).t, .int .u32 (theR o).a, .int .i64 (theR o).l, .int .i64 (theR o).i, .int .u32 (theR o).g, .int .i64 (theR o).m] 33)).heap[v1.heap.size]? = some (.cells #[.int .i64 (theR o).t, .int .u32 (theR o).a, .int .i64 (theR o).l, .int .i64 (theR o).i, .int .u32 (theR o).g, .int .i64 (theR o).m] 33 (0, 0))) := ⟨hv1.alloc _, heap_new v1 _⟩; clear hv1)
        | (go_at_call 20; refine (fall_any fb L U F _ (HF.out.1.ext HV1.out.1)).mono ?_; rintro e v2 ⟨va, rfl, ho2, hv2⟩; obtain ⟨p2, c2, rfl, -, -, hR2⟩ := ho2.slice; have HV2 : Hid (Ext wr v2 ∧ Rd v2 p2 L.length c2 L ∧ v2.heap[v1.heap.size]? = some (.cells #[.int .i64 (theR o).t, .int .u32 (theR o).a, .int .i64 (theR o).l, .int .i64 (theR o).i, .int .u32 (theR o).g, .int .i64 (theR o).m] 33 (0, 0))) := ⟨HV1.out.1.trans hv2, hR2, hv2.heap HV1.out.2⟩; clear ho2 hv2 hR2)
        | (go_at_call 26; refine (up_any fb L U F _ (HF.out.1.ext HV2.out.1)).mono ?_; rintro e v3 ⟨vu, rfl, ho3, hv3⟩; obtain ⟨q3, c3, rfl, -, -⟩ := ho3.slice; have HU3 : Hid (Ups v3 q3 U.length U) := ho3.ups (by omega); have HV3 : Hid (Ext wr v3 ∧ Rd v3 p2 L.length c2 L ∧ v3.heap[v1.heap.size]? = some (.cells #[.int .i64 (theR o).t, .int .u32 (theR o).a, .int .i64 (theR o).l, .int .i64 (theR o).i, .int .u32 (theR o).g, .int .i64 (theR o).m] 33 (0, 0))) := ⟨HV2.out.1.trans hv3, HV2.out.2.1.ext hv3, hv3.heap HV2.out.2.2⟩; clear ho3 hv3))
      clear cL
      go_loopg [15, 16] L.length (fun kx s15 s16 wq => ∃ k : Nat, s16 = .int .i64 k ∧ s15 = .bool (thereF (L.take k) U a2 a3 o) ∧ k ≤ L.length ∧ L.length - k ≤ kx ∧ Ext v3 wq)
      case atStart => exact ⟨0, rfl, rfl, Nat.zero_le _, Nat.le_refl _, Ext.refl _⟩
      case round =>
        obtain ⟨j, rfl, rfl, hjL, hjx, hx⟩ := hrel
        by_cases hjl : j < L.length
        · obtain ⟨x, hxj⟩ : ∃ x, L[j]? = some x := ⟨_, List.getElem?_eq_getElem hjl⟩
          obtain ⟨b, off, rfl, hb, g0, g1, g2, g3, g4, g5⟩ := (HV3.out.2.1.ext hx).cell hxj
          have hji : (j : Int) < (L.length : Int) := by omega
          have hst := thereF_take (U := U) (t := a2) (a := a3) (o := o) hxj
          have HST : Hid _ := hst
          have hxL := List.mem_of_getElem? hxj
          have HXL : Hid (x ∈ L) := hxL
          generalize hth : thereF (L.take j) U a2 a3 o = th at *
          clear hst hxj hth
          have hA : Ext wr (wr.alloc (.cells #[.int .i64 x.t, .int .u32 x.a, .int .i64 x.l, .int .i64 x.i, .int .u32 x.g, .int .i64 x.m] 33)) := (Ext.refl wr).alloc _
          have BX : Hid ((wr.alloc (.cells #[.int .i64 x.t, .int .u32 x.a, .int .i64 x.l, .int .i64 x.i, .int .u32 x.g, .int .i64 x.m] 33)).heap[wr.heap.size]? = some (.cells #[.int .i64 x.t, .int .u32 x.a, .int .i64 x.l, .int .i64 x.i, .int .u32 x.g, .int .i64 x.m] 33 (0, 0))) := heap_new wr _
          have BO : Hid ((wr.alloc (.cells #[.int .i64 x.t, .int .u32 x.a, .int .i64 x.l, .int .i64 x.i, .int .u32 x.g, .int .i64 x.m] 33)).heap[v1.heap.size]? = some (.cells #[.int .i64 (theR o).t, .int .u32 (theR o).a, .int .i64 (theR o).l, .int .i64 (theR o).i, .int .u32 (theR o).g, .int .i64 (theR o).m] 33 (0, 0))) := (hx.trans hA).heap HV3.out.2.2
          have HX3 : Hid (Ext v3 (wr.alloc (.cells #[.int .i64 x.t, .int .u32 x.a, .int .i64 x.l, .int .i64 x.i, .int .u32 x.g, .int .i64 x.m] 33))) := hx.trans hA
          have co := fun W (h : Ext v3 W) => on_any x.i q3 U.length c3 U W (HU3.out.ext h)
          have ch := fun W => refHas_any x.a x.l a3 W (HPX.out x hxL).1 (HPX.out x hxL).2 HB3.out.1 HB3.out.2
          obtain ⟨z0, z1, z2, z3, z4, z5⟩ := rt6' BX.out
          clear hxL
          by_cases ht : x.t = a2
          · have HT : Hid (x.t = a2) := ht
            have hte : (x.t == a2) = true := by simpa using ht
            have htn : (x.t != a2) = false := by simpa using ht
            clear ht
            cases hu : upB U x.i with
            | false =>
              have hc : candF U a2 a3 x = false := by unfold candF; rw [hu]; simp
              have HC : Hid (candF U a2 a3 x = false) := hc
              rw [hu] at co
              clear hu hc ch
              go_wp2_with (go_at_call 22; refine (co _ HX3.out).mono ?_; rintro e v4 ⟨rfl, hv4⟩)
              go_roundg (L.length - (j + 1))
              case measure => omega
              case rel => exact ⟨j + 1, by go_num, by rw [HST.out, HC.out]; simp, by omega, Nat.le_refl _, Ext.trans HX3.out hv4⟩
            | true =>
              rw [hu] at co
              cases hh : hasV x.a x.l a3 with
              | false =>
                have hc : candF U a2 a3 x = false := by unfold candF; rw [hh]; simp
                have HC : Hid (candF U a2 a3 x = false) := hc
                rw [hh] at ch
                clear hu hh hc
                go_wp2_with (first
                  | (go_at_call 22; refine (co _ HX3.out).mono ?_; rintro e v4 ⟨rfl, hv4⟩; obtain ⟨y0, y1, y2, y3, y4, y5⟩ := rt6' (hv4.heap BX.out))
                  | (go_at_call 28; refine (ch _).mono ?_; rintro e v5 ⟨rfl, hv5⟩))
                go_roundg (L.length - (j + 1))
                case measure => omega
                case rel => exact ⟨j + 1, by go_num, by rw [HST.out, HC.out]; simp, by omega, Nat.le_refl _, Ext.trans HX3.out (hv4.trans hv5)⟩
              | true =>
                have hc : candF U a2 a3 x = true := cand_iff.2 ⟨HT.out, hu, hh⟩
                obtain ⟨r, hor, hlr, hbr⟩ := HTG.out x HXL.out hc
                have hth : theR o = r := by rw [hor]; rfl
                obtain rfl : z = true := by rw [← HZO.out, hor]; rfl
                rw [← hth] at hlr hbr
                have hle : ¬ ((theR o).l < x.l) := by omega
                have hle2 : x.l ≤ (theR o).l := hlr
                clear hor hth
                have HC : Hid (candF U a2 a3 x = true) := hc
                rw [hh] at ch
                have er := fun W => eql_rt x (theR o) W
                have ep := fun W => eql_prefix x.a x.l (theR o).a (theR o).l W
                generalize hq : eqB x (theR o) = eq at er
                have HQ : Hid (eqB x (theR o) = eq) := hq
                clear hu hh hc hq
                have kb := fun W => refBetter_any x (theR o) W
                cases hp : (x.a == (theR o).a && x.l == (theR o).l) with
                | false =>
                  rw [hp] at ep
                  clear hp kb hbr
                  cases th with
                  | true =>
                    go_wp2_with (first
                      | (go_at_call 22; refine (co _ HX3.out).mono ?_; rintro e v4 ⟨rfl, hv4⟩; obtain ⟨y0, y1, y2, y3, y4, y5⟩ := rt6' (hv4.heap BX.out))
                      | (go_at_call 28; refine (ch _).mono ?_; rintro e v5 ⟨rfl, hv5⟩; obtain ⟨s0, s1, s2, s3, s4, s5⟩ := rt6' ((hv4.trans hv5).heap BX.out); obtain ⟨t0, t1, t2, t3, t4, t5⟩ := rt6' ((hv4.trans hv5).heap BO.out)))
                    go_roundg (L.length - (j + 1))
                    case measure => omega
                    case rel => exact ⟨j + 1, by go_num, by rw [HST.out]; simp, by omega, Nat.le_refl _, Ext.trans HX3.out (hv4.trans hv5)⟩
                  | false =>
                    go_wp2_with (first
                      | (go_at_call 22; refine (co _ HX3.out).mono ?_; rintro e v4 ⟨rfl, hv4⟩; obtain ⟨y0, y1, y2, y3, y4, y5⟩ := rt6' (hv4.heap BX.out))
                      | (go_at_call 28; refine (ch _).mono ?_; rintro e v5 ⟨rfl, hv5⟩; obtain ⟨s0, s1, s2, s3, s4, s5⟩ := rt6' ((hv4.trans hv5).heap BX.out); obtain ⟨t0, t1, t2, t3, t4, t5⟩ := rt6' ((hv4.trans hv5).heap BO.out)))
                    go_roundg (L.length - (j + 1))
                    case measure => omega
                    case rel => exact ⟨j + 1, by go_num, by rw [HST.out, HC.out]; show Value.bool eq = Value.bool (false || (true && eqB x (theR o))); rw [HQ.out]; simp, by omega, Nat.le_refl _, Ext.trans HX3.out (hv4.trans hv5)⟩
                | true =>
                  have hbf : betB x (theR o) = false := by
                    simp only [Bool.and_eq_true, beq_iff_eq] at hp
                    exact hbr hp.1 hp.2
                  rw [hp] at ep
                  rw [hbf] at kb
                  clear hp hbf hbr
                  cases th with
                  | true =>
                    go_wp2_with (first
                      | (go_at_call 22; refine (co _ HX3.out).mono ?_; rintro e v4 ⟨rfl, hv4⟩; obtain ⟨y0, y1, y2, y3, y4, y5⟩ := rt6' (hv4.heap BX.out))
                      | (go_at_call 28; refine (ch _).mono ?_; rintro e v5 ⟨rfl, hv5⟩; obtain ⟨s0, s1, s2, s3, s4, s5⟩ := rt6' ((hv4.trans hv5).heap BX.out); obtain ⟨t0, t1, t2, t3, t4, t5⟩ := rt6' ((hv4.trans hv5).heap BO.out))
                      | (go_at_call 29; refine (kb _).mono ?_; rintro e v6 ⟨rfl, hv6⟩))
                    go_roundg (L.length - (j + 1))
                    case measure => omega
                    case rel => exact ⟨j + 1, by go_num, by rw [HST.out]; simp, by omega, Nat.le_refl _, Ext.trans HX3.out (hv4.trans (hv5.trans hv6))⟩
                  | false =>
                    go_wp2_with (first
                      | (go_at_call 22; refine (co _ HX3.out).mono ?_; rintro e v4 ⟨rfl, hv4⟩; obtain ⟨y0, y1, y2, y3, y4, y5⟩ := rt6' (hv4.heap BX.out))
                      | (go_at_call 28; refine (ch _).mono ?_; rintro e v5 ⟨rfl, hv5⟩; obtain ⟨s0, s1, s2, s3, s4, s5⟩ := rt6' ((hv4.trans hv5).heap BX.out); obtain ⟨t0, t1, t2, t3, t4, t5⟩ := rt6' ((hv4.trans hv5).heap BO.out))
                      | (go_at_call 29; refine (kb _).mono ?_; rintro e v6 ⟨rfl, hv6⟩))
                    go_roundg (L.length - (j + 1))
                    case measure => omega
                    case rel => exact ⟨j + 1, by go_num, by rw [HST.out, HC.out]; show Value.bool eq = Value.bool (false || (true && eqB x (theR o))); rw [HQ.out]; simp, by omega, Nat.le_refl _, Ext.trans HX3.out (hv4.trans (hv5.trans hv6))⟩
          · have hc : candF U a2 a3 x = false := by unfold candF; rw [decide_eq_false ht]; simp
            have HC : Hid (candF U a2 a3 x = false) := hc
            have hte : (x.t == a2) = false := by simpa using ht
            have htn : (x.t != a2) = true := by simpa using ht
            clear hc ch co
            go_wp2_with fail
            go_roundg (L.length - (j + 1))
            case measure => omega
            case rel => exact ⟨j + 1, by go_num, by rw [HST.out, HC.out]; simp, by omega, Nat.le_refl _, HX3.out⟩
        · obtain rfl : j = L.length := by omega
          have hfin : thereF (L.take L.length) U a2 a3 o = z := by rw [List.take_of_length_le (Nat.le_refl _)]; exact HALL.out
          rw [hfin]
          clear hfin
          go_wp2_with (go_at_call 14; refine (kn _).mono ?_; rintro e wz ⟨rfl, hxz⟩)
          go_ret
          exact ⟨rfl, (HE.out.trans (HV3.out.1.trans (hx.trans hxz))).below⟩

theorem contract (H : Type) (enc : TypeId × Value → H) (W : World) (base : Nat) (args : Array Value) (ds gs : List (DataW H)) (before : List MemPlace)
    (hval : ∀ (j : Nat) t v, Tryz.f8.params[j]? = some t → args[j]? = some v → Value.okWide Tryz.prog W .any base t v)
    (hW : DataW.Whole enc Tryz.prog Tryz.f8.params.toList Rows.fibToldSpec.vars false W args.toList ds gs before) (hsh : W.ShapedOpen Tryz.prog) :
    Calls Tryz.prog 8 args W fun e W' => ∃ v, e = .returned v ∧ Rows.fibToldSpec.post enc Tryz.prog Tryz.f8 false true false false W args v W' := by
  have hW' := hW
  obtain ⟨p, q, hA0, hV, rfl, hfz, hnd⟩ := hW
  have hA : DataW.TrodAll enc Tryz.prog W 0 (fun _ => true) true Tryz.f8.params.toList args.toList ds p := hA0
  rw [Tryz.params8] at hA hval
  obtain ⟨v0, vs0, d0, ds0, p0, q0, hargs, rfl, rfl, h0, r0⟩ := trodAll_cons hA
  obtain ⟨v1, vs1, d1, ds1, p1, q1, rfl, rfl, rfl, h1, r1⟩ := trodAll_cons r0
  obtain ⟨v2, vs2, d2, ds2, p2, q2, rfl, rfl, rfl, h2, r2⟩ := trodAll_cons r1
  obtain ⟨v3, vs3, d3, ds3, p3, q3, rfl, rfl, rfl, h3, r3⟩ := trodAll_cons r2
  obtain ⟨rfl, rfl, rfl⟩ := trodAll_nil r3
  obtain rfl : args = #[v0, v1, v2, v3] := by cases args; simp_all
  obtain ⟨rfl, rfl⟩ := trodVars_none hV
  obtain ⟨a0, rfl, rfl, rfl, w0⟩ := open_int Tryz.underlying3 (hval 0 3 v0 rfl rfl) h0
  have k1 := h1
  have lt1 : ∀ x ∈ p1, x.block < W.heap.size := by obtain ⟨m, hm⟩ := k1; exact DataW.trod_lt m _ _ _ hm
  obtain ⟨b1, l1, c1, rfl⟩ := okWide_slice Tryz.underlying22 (hval 1 22 v1 rfl rfl)
  obtain ⟨fu1, hf1⟩ := h1
  obtain ⟨a1, len1, cap1, zs1, ce1, row1⟩ := open_rowG 9 cells35 ok35 (by omega) cells35_length Tryz.underlying22 (by kernel_rfl) elem35 hf1
  obtain ⟨rfl, rfl, rfl⟩ : a1 = b1 ∧ len1 = l1 ∧ cap1 = c1 := by simpa [Value.cells, eq_comm] using ce1
  obtain ⟨a2, rfl, rfl, rfl, w2⟩ := open_int Tryz.underlying3 (hval 2 3 v2 rfl rfl) h2
  obtain ⟨a3, rfl, rfl, rfl, w3⟩ := open_int Tryz.underlying29 (hval 3 29 v3 rfl rfl) h3
  clear hA0
  refine (walk a0 a1 len1 cap1 zs1 a2 a3 W w0 row1 w2 w3 hsh).mono fun e W' ⟨he, bel⟩ => ?_
  subst he
  exact ⟨_, rfl, _, _, _, [], _, [], hW', trodAll_mk1 (shut_bool Tryz.underlying4 _), (trodAll_cons_mk (shut_int Tryz.underlying3 w0) (trodAll_cons_mk (Below.trod laidOut (by kernel_rfl) (of_decide_eq_true (by kernel_rfl)) k1 bel lt1) (trodAll_cons_mk (shut_int Tryz.underlying3 w2) (trodAll_cons_mk (shut_int Tryz.underlying29 w3) trodAll_mk0)))), rfl, bel.frame _, fun h => by cases h⟩

theorem laid_met (os : Os) : laidMet Tryz.prog Rows.fibToldRow.laid ((World.doorLaid Tryz.prog 24 os).forCall (fun _ _ => 0) ⟨#[], #[.int .i64 0, .slice none 0 0, .int .i64 0, .int .u32 0], []⟩).memory :=
  laidMet_of_run' 8 (by kernel_rfl) (by kernel_rfl)
theorem reads (os : Os) {H : Type} (enc : TypeId × Value → H) : ∃ places, DataW.whole enc Tryz.prog ((World.doorLaid Tryz.prog 24 os).forCall (fun _ _ => 0) ⟨#[], #[.int .i64 0, .slice none 0 0, .int .i64 0, .int .u32 0], []⟩).memory Tryz.f8.params.toList Rows.fibToldSpec.vars false (#[.int .i64 0, .slice none 0 0, .int .i64 0, .int .u32 0] : Array Value).toList 8 = some ([.lit (.int .i64 0), .nil, .lit (.int .i64 0), .lit (.int .u32 0)], [], places) :=
  ⟨[], by kernel_rfl⟩

set_option maxRecDepth 100000 in
theorem lifted (os : Os) (started : os.Started) (H : Type) (enc : TypeId × Value → H) (F : Stop.Interp) :
    ReturnsInHanded {} Tryz.checked os 8 .any ((OpenSpec.ofChange Rows.fibToldSpec).preRow enc Tryz.prog Tryz.f8 Rows.fibToldRow.domain false Rows.fibToldRow.laid) (((OpenSpec.ofChange Rows.fibToldSpec).at F).post enc Tryz.prog Tryz.f8 false true false false) := by
  obtain ⟨places, hx⟩ := reads os enc
  refine returnsInHanded_of_row (C := Tryz.checked) (s := (OpenSpec.ofChange Rows.fibToldSpec)) own started (by kernel_rfl) Tryz.func8
    (witness_row_at (enc := enc) (C := Tryz.checked) false (World.doorLaid Tryz.prog 24 os) #[.int .i64 0, .slice none 0 0, .int .i64 0, .int .u32 0] rfl (by kernel_rfl) (by kernel_rfl) (by kernel_rfl)
      (OpenSpec.preRow_of_cond 8 hx (by kernel_rfl) (fun k hk => by cases hk) (by kernel_rfl) (laid_met os))) ?_
  intro W base args ds gs before hval hW _ hcond _ hL hsh _
  exact contract H enc W base args ds gs before hval hW hsh

theorem said : Rows.FibToldSaid :=
  OpenClaim.holds_of_cond 8 Tryz.f8 rfl rfl rfl rfl rfl rfl rfl ⟨rfl, rfl, rfl, rfl, rfl⟩ rfl rfl rfl rfl rfl (by kernel_rfl) Tryz.func8 (by kernel_rfl)
    (of_decide_eq_true (by kernel_rfl)) (by unfold Func.isWrapper; first | (rw [if_pos (by decide +kernel)]; kernel_rfl) | (rw [if_neg (by decide +kernel)]; exact ⟨rfl, rfl⟩))
    (fun os started H enc _ F => by rw [OpenClaim.pre_eq_preRow]; exact lifted os started H enc F)

end Go.Proofs.YtmoimkeeldlpkaaGreat.fibTold

namespace Go.Proofs.YtmoimkeeldlpkaaGreat
theorem fibTold_holds : Rows.FibToldSaid := fibTold.said
#print axioms fibTold_holds
end Go.Proofs.YtmoimkeeldlpkaaGreat
