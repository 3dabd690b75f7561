/- For every number of interfaces, every script and every address, the law FibRefused returns true: what errs changes neither the way to the address nor the ways that are there; no condition. -/
import Derived.Test.YtmoimkeeldlpkaaGreatRows
import Derived.Test.YtmoimkeeldlpkaaGreatJ1
import Derived.Test.YtmoimkeeldlpkaaGreatJ2
import Derived.Test.YtmoimkeeldlpkaaGreatJ3
import Derived.Test.YtmoimkeeldlpkaaGreatJ4
import Derived.Test.YtmoimkeeldlpkaaGreatJ5
import Derived.Test.YtmoimkeeldlpkaaGreatJ6
import Derived.Test.YtmoimkeeldlpkaaGreatJ7
import Derived.Test.YtmoimkeeldlpkaaGreatJ8
import Derived.Test.YtmoimkeeldlpkaaGreatJ9
import Derived.Test.YtmoimkeeldlpkaaGreatJ10
import Derived.Test.YtmoimkeeldlpkaaGreatJ11
import Derived.Test.YtmoimkeeldlpkaaGreatJ12
import Derived.Test.YtmoimkeeldlpkaaGreatJ13
import Derived.Test.YtmoimkeeldlpkaaGreatJ14
import Derived.Test.YtmoimkeeldlpkaaGreatJ15
import Derived.Test.YtmoimkeeldlpkaaGreatJ16
import Derived.Test.YtmoimkeeldlpkaaGreatJ17
import Derived.Test.YtmoimkeeldlpkaaGreatJ18
import Derived.Test.YtmoimkeeldlpkaaGreatJ19
import Derived.Test.YtmoimkeeldlpkaaGreatJ20
import Derived.Test.YtmoimkeeldlpkaaGreatJ21
import Derived.Test.YtmoimkeeldlpkaaGreatJ22
import Derived.Test.YtmoimkeeldlpkaaGreatJ23
import Derived.Test.YtmoimkeeldlpkaaGreatJ24
import Derived.Test.YtmoimkeeldlpkaaGreatJ25
import Derived.Test.YtmoimkeeldlpkaaGreatJ26
import Derived.WalkKit
import Derived.ProofKit
import Derived.OpenShut
import Derived.ShutString
import Derived.ChangeOld
import Derived.Deep.DeepHandedRow
import Derived.Lib.LaidTab
import Derived.Lib.SmallJoins
import Derived.LaidMore
import Derived.Stop.LaidErr
import Derived.ChangeMaps5
namespace Go.Proofs.YtmoimkeeldlpkaaGreat.fibRefused
open Go.ChangeShapes Go.WideShapes Go.ChangeAt Go.RowKit Go.ChangeMaps
set_option linter.unusedVariables false
set_option maxRecDepth 100000

theorem own : ownKnob Tryz.prog.godebug = none := by kernel_rfl
theorem laidOut : laidOutB Tryz.prog = true := by kernel_rfl

abbrev Elem35 := Int × Int × Int × Int × Int × Int × Int × Int × Bool
def cells35 (z : Elem35) : List Value := [.int .i64 (z.1), .int .i64 (z.2.1), .int .u32 (z.2.2.1), .int .i64 (z.2.2.2.1), .int .i64 (z.2.2.2.2.1), .int .u32 (z.2.2.2.2.2.1), .int .i64 (z.2.2.2.2.2.2.1), .int .i64 (z.2.2.2.2.2.2.2.1), .bool (z.2.2.2.2.2.2.2.2)]
def ok35 (z : Elem35) : Prop := (Lit.int .i64 (z.1)).wf = true ∧ (Lit.int .i64 (z.2.1)).wf = true ∧ (Lit.int .u32 (z.2.2.1)).wf = true ∧ (Lit.int .i64 (z.2.2.2.1)).wf = true ∧ (Lit.int .i64 (z.2.2.2.2.1)).wf = true ∧ (Lit.int .u32 (z.2.2.2.2.2.1)).wf = true ∧ (Lit.int .i64 (z.2.2.2.2.2.2.1)).wf = true ∧ (Lit.int .i64 (z.2.2.2.2.2.2.2.1)).wf = true
theorem cells35_length (z : Elem35) : (cells35 z).length = 9 := rfl
theorem elem35 {H : Type} {enc : TypeId × Value → H} {w : World} {base : Nat} {spare : Nat → Bool} {held : Bool} (n : Nat) (cs : List Value) (y : DataW H × List MemPlace)
    (h : DataW.trod enc Tryz.prog w base spare held n 35 cs = some y) : ∃ z : Elem35, cs = cells35 z ∧ ok35 z := by
  have hl : cs.length = 9 := by
    obtain ⟨_, _, _, _, hl, _⟩ := DataW.trod_struct Tryz.underlying35 h
    exact hl.trans (by kernel_rfl)
  obtain ⟨u0, u1, u2, u3, u4, u5, u6, u7, u8, rfl⟩ : ∃ u0 u1 u2 u3 u4 u5 u6 u7 u8, cs = [u0, u1, u2, u3, u4, u5, u6, u7, u8] := by
    match cs, hl with
    | [u0, u1, u2, u3, u4, u5, u6, u7, u8], _ => exact ⟨u0, u1, u2, u3, u4, u5, u6, u7, u8, rfl⟩
  obtain ⟨_, _, e1⟩ := field_at Tryz.underlying35 h 0 rfl 1 (by kernel_rfl)
  obtain ⟨az0, c2, _, wz0⟩ := DataW.trod_int Tryz.underlying3 e1
  obtain rfl : u0 = .int .i64 az0 := by simpa using c2
  obtain ⟨_, _, e3⟩ := field_at Tryz.underlying35 h 1 rfl 6 (by kernel_rfl)
  obtain ⟨_, _, e4⟩ := field_at Tryz.underlying33 e3 0 rfl 1 (by kernel_rfl)
  obtain ⟨az10, c5, _, wz10⟩ := DataW.trod_int Tryz.underlying3 e4
  obtain rfl : u1 = .int .i64 az10 := by simpa using c5
  obtain ⟨_, _, e6⟩ := field_at Tryz.underlying33 e3 1 rfl 2 (by kernel_rfl)
  obtain ⟨_, _, e7⟩ := field_at Tryz.underlying31 e6 0 rfl 1 (by kernel_rfl)
  obtain ⟨az110, c8, _, wz110⟩ := DataW.trod_int Tryz.underlying29 e7
  obtain rfl : u2 = .int .u32 az110 := by simpa using c8
  obtain ⟨_, _, e9⟩ := field_at Tryz.underlying31 e6 1 rfl 1 (by kernel_rfl)
  obtain ⟨az111, c10, _, wz111⟩ := DataW.trod_int Tryz.underlying3 e9
  obtain rfl : u3 = .int .i64 az111 := by simpa using c10
  obtain ⟨_, _, e11⟩ := field_at Tryz.underlying33 e3 2 rfl 1 (by kernel_rfl)
  obtain ⟨az12, c12, _, wz12⟩ := DataW.trod_int Tryz.underlying3 e11
  obtain rfl : u4 = .int .i64 az12 := by simpa using c12
  obtain ⟨_, _, e13⟩ := field_at Tryz.underlying33 e3 3 rfl 1 (by kernel_rfl)
  obtain ⟨az13, c14, _, wz13⟩ := DataW.trod_int Tryz.underlying29 e13
  obtain rfl : u5 = .int .u32 az13 := by simpa using c14
  obtain ⟨_, _, e15⟩ := field_at Tryz.underlying33 e3 4 rfl 1 (by kernel_rfl)
  obtain ⟨az14, c16, _, wz14⟩ := DataW.trod_int Tryz.underlying3 e15
  obtain rfl : u6 = .int .i64 az14 := by simpa using c16
  obtain ⟨_, _, e17⟩ := field_at Tryz.underlying35 h 2 rfl 1 (by kernel_rfl)
  obtain ⟨az2, c18, _, wz2⟩ := DataW.trod_int Tryz.underlying3 e17
  obtain rfl : u7 = .int .i64 az2 := by simpa using c18
  obtain ⟨_, _, e19⟩ := field_at Tryz.underlying35 h 3 rfl 1 (by kernel_rfl)
  obtain ⟨az3, c20, _⟩ := DataW.trod_bool Tryz.underlying4 e19
  obtain rfl : u8 = .bool az3 := by simpa using c20
  exact ⟨(az0, az10, az110, az111, az12, az13, az14, az2, az3), rfl, ⟨wz0, wz10, wz110, wz111, wz12, wz13, wz14, wz2⟩⟩

open Go.Proofs.YtmoimkeeldlpkaaGreat.Tri Go.Proofs.YtmoimkeeldlpkaaGreat.Rb Go.Proofs.YtmoimkeeldlpkaaGreat.Fb

set_option maxHeartbeats 40000000 in
theorem walk (a0 : Int) (a1 : Option Addr) (len1 cap1 : Nat) (zs1 : List Elem35) (a2 : Int) (w : World) (w0 : (Lit.int .i64 a0).wf = true) (row1 : IsRowG 9 cells35 ok35 w a1 len1 cap1 zs1) (w2 : (Lit.int .u32 a2).wf = true) (hsh : w.ShapedOpen Tryz.prog) :
    Calls Tryz.prog 5 #[.int .i64 a0, .slice a1 len1 cap1, .int .u32 a2] w fun e w' => e = .returned (.bool true) ∧ Below w.heap.size w w' := by
  have row : IsRowG 9 aC aOk w a1 len1 cap1 zs1 := row1
  have kn := fun w => known_any w
  have hm := row.le
  have hm2 := row.room
  unfold maxLen at hm2
  have HR : Hid (IsRowG 9 aC aOk w a1 len1 cap1 zs1) := row
  have hab := bounds_u32 w2
  have HAB : Hid (0 ≤ a2 ∧ a2 ≤ 4294967295) := hab
  have nr := fun x w => neq_rt x x w
  simp only [eqB_refl, Bool.not_true] at nr
  clear row row1 hab
  go_enter Tryz.func5, Tryz.ntmps5
  go_wp2_with (first
    | (go_at_call 10; refine (fnew_any a0 _).mono ?_; rintro e w1 ⟨fb, F, rfl, h1, hx1, hF⟩; have H1 : Hid (FibAt w1 fb [] (List.replicate (clampN a0) true) F ∧ Ext w w1 ∧ ∀ x ∈ F, w.heap.size ≤ x) := ⟨h1, hx1, hF⟩; clear h1 hx1 hF)
    | (go_at_call 11; refine (dnew_any a0 _).mono ?_; rintro e w2 ⟨xb, G, rfl, h2, hx2, hG⟩; have HB0 : Hid (BothH w w2 fb xb [] (List.replicate (clampN a0) true) [] (List.replicate (clampN a0) true) (F ++ G)) := both_new H1.out.1 H1.out.2.1 H1.out.2.2 h2 hx2 hG; clear h2 hx2 hG))
  go_loopw [9] (fun i wr => ∃ k : Nat, k ≤ 50 ∧ k ≤ len1 ∧ i = .int .i64 k ∧ Hid (Play w wr fb xb)) (fun i _ => 50 - (intOf i).toNat)
  case atStart => exact ⟨0, Nat.zero_le _, Nat.zero_le _, rfl, (⟨_, _, _, HB0.out⟩ : Play w w2 fb xb)⟩
  case round =>
    clear HB0 H1
    obtain ⟨k, hk, hkl, rfl, HK⟩ := hrel
    obtain ⟨L, U, H, hB⟩ := HK.out
    have HB : Hid (BothH w wr fb xb L U L U H) := hB
    have HE : Hid (Ext w wr) := hB.ext
    have hgl := hB.good.1.len
    clear hB HK
    by_cases hlt : k < len1
    · by_cases h60 : k < 50
      · obtain ⟨b, off, kd, r, i, u, rfl, hrok, hbl, hc⟩ := aCells HR.out hlt
        have hki : (k : Int) < (len1 : Int) := by omega
        have h60i : (k : Int) < 50 := by omega
        have HC : Hid (RtOk r ∧ b < w.heap.size) := ⟨hrok, hbl⟩
        have HCC : Hid _ := hc
        have stepL : ∀ (L : List Rt) (U : List Bool) (H : List Nat) (W : World), BothH w W fb xb L U L U H → Calls Tryz.prog 16 #[.pointer (some ⟨fb, 0, none⟩), .int .i64 0, .int .u32 a2] W (BestAns W (wayO L U 0 a2)) := fun L U H W h => by
          obtain ⟨F, G, hF, -⟩ := h
          exact look_any fb 0 a2 L U F W hF HAB.out.1 HAB.out.2
        have stepA : ∀ (L : List Rt) (U : List Bool) (H : List Nat) (W : World), BothH w W fb xb L U L U H → Calls Tryz.prog 20 #[.pointer (some ⟨fb, 0, none⟩)] W (RowNew W L) := fun L U H W h => by
          obtain ⟨F, G, hF, -⟩ := h
          exact fall_any fb L U F W hF
        have tok1 : Hid True := trivial
        have tok2 : Hid True := trivial
        generalize hact : actF L U kd r i u = qa
        have HACT : Hid (actF L U kd r i u = qa) := hact
        obtain ⟨er, L', U'⟩ := qa
        clear hact hrok hbl hc
        generalize hw0 : wayO L U 0 a2 = o0
        have HW0 : Hid (wayO L U 0 a2 = o0) := hw0
        have n0 := fun w => nr (theR o0) w
        clear hw0 nr
        go_wp2_with (first
          | (go_at_call 16; clear tok1; refine (stepL L U H wr HB.out).mono ?_; rintro e v1 ⟨rfl, hv1⟩; rw [HW0.out]; have HVS : Hid (wr.heap.size ≤ v1.heap.size) := hv1.size; have HV1 : Hid (Ext wr (v1.alloc (.cells #[.int .i64 (theR o0).t, .int .u32 (theR o0).a, .int .i64 (theR o0).l, .int .i64 (theR o0).i, .int .u32 (theR o0).g, .int .i64 (theR o0).m] 33)) ∧ (v1.alloc (.cells #[.int .i64 (theR o0).t, .int .u32 (theR o0).a, .int .i64 (theR o0).l, .int .i64 (theR o0).i, .int .u32 (theR o0).g, .int .i64 (theR o0).m] 33)).heap[v1.heap.size]? = some (.cells #[.int .i64 (theR o0).t, .int .u32 (theR o0).a, .int .i64 (theR o0).l, .int .i64 (theR o0).i, .int .u32 (theR o0).g, .int .i64 (theR o0).m] 33 (0, 0))) := ⟨hv1.alloc _, heap_new v1 _⟩; clear hv1)
          | (go_at_call 20; refine (stepA L U H _ (HB.out.later HV1.out.1)).mono ?_; rintro e v2 ⟨va, rfl, ho2, hv2⟩; obtain ⟨p2, c2, rfl, -, -, -⟩ := ho2.slice; have HV2 : Hid (OwnR v2 (v1.alloc (.cells #[.int .i64 (theR o0).t, .int .u32 (theR o0).a, .int .i64 (theR o0).l, .int .i64 (theR o0).i, .int .u32 (theR o0).g, .int .i64 (theR o0).m] 33)).heap.size (.slice p2 L.length c2) L ∧ Ext (v1.alloc (.cells #[.int .i64 (theR o0).t, .int .u32 (theR o0).a, .int .i64 (theR o0).l, .int .i64 (theR o0).i, .int .u32 (theR o0).g, .int .i64 (theR o0).m] 33)) v2) := ⟨ho2, hv2⟩; obtain ⟨x0, x1, x2, x3, x4, x5, x6, x7, x8⟩ := HCC.out v2 (cell_ext HC.out.2 (HE.out.trans (HV1.out.1.trans hv2))); have ka := act_any fb xb kd r i u L U H w v2 (HB.out.later (HV1.out.1.trans hv2)) HC.out.1; clear ho2 hv2))
        go_at_call 12
        refine ka.mono ?_
        rintro e w3 ⟨rfl, hb3⟩
        rw [HACT.out] at hb3 ⊢
        dsimp only at hb3 ⊢
        have HB3 : Hid (BothAns w v2 fb xb L' U' L' U' H w3) := hb3
        clear hb3 ka x0 x1 x2 x3 x4 x5 x6 x7 x8
        have HHL : Hid (∀ y ∈ H, y < wr.heap.size) := fun y hy => (HB.out.lt y hy).2
        by_cases her : er = 0
        · subst her
          clear n0
          go_wp2_with (go_at_call 16; clear tok2; obtain ⟨H4, hb4, -⟩ := HB3.out; refine (stepL L' U' H4 w3 hb4).mono ?_; rintro e w4 ⟨rfl, hx4⟩; clear hb4; have HX4 : Hid (Ext w3 (w4.alloc (.cells #[.int .i64 (theR (wayO L' U' 0 a2)).t, .int .u32 (theR (wayO L' U' 0 a2)).a, .int .i64 (theR (wayO L' U' 0 a2)).l, .int .i64 (theR (wayO L' U' 0 a2)).i, .int .u32 (theR (wayO L' U' 0 a2)).g, .int .i64 (theR (wayO L' U' 0 a2)).m] 33))) := hx4.alloc _; clear hx4)
          go_roundw
          case rel => exact ⟨k + 1, by omega, by omega, by go_num, (HB3.out.later HX4.out).play⟩
          case measure => simp [intOf]; omega
        · have hsame : (L', U') = (L, U) := by
            have h := actF_refused (L := L) (U := U) (kind := kd) (r := r) (i := i) (b := u) (by rw [HACT.out]; exact her)
            rw [HACT.out] at h
            exact h
          cases hsame
          have hern : ¬ (er = 0) := her
          obtain ⟨H4, hb4, hS4, -⟩ := HB3.out
          have HB4 : Hid (BothH w w3 fb xb L U L U H4) := hb4
          have hnv : v1.heap.size ∉ H := fun hh => absurd (HHL.out _ hh) (Nat.not_lt.2 HVS.out)
          have HZ : Hid (w3.heap[v1.heap.size]? = some (.cells #[.int .i64 (theR o0).t, .int .u32 (theR o0).a, .int .i64 (theR o0).l, .int .i64 (theR o0).i, .int .u32 (theR o0).g, .int .i64 (theR o0).m] 33 (0, 0))) := hS4.heap hnv (HV2.out.2.heap HV1.out.2)
          have HWR : Hid (OwnR w3 (v1.alloc (.cells #[.int .i64 (theR o0).t, .int .u32 (theR o0).a, .int .i64 (theR o0).l, .int .i64 (theR o0).i, .int .u32 (theR o0).g, .int .i64 (theR o0).m] 33)).heap.size (.slice p2 L.length c2) L) := HV2.out.1.later hS4 fun g hg hh => by have := (HV2.out.1.lt g hg).1; have := HHL.out g hh; have := HV1.out.1.size; omega
          clear hb4 hS4 hnv her
          go_wp2_with (go_at_call 16; clear tok2; refine (stepL L U H4 w3 HB4.out).mono ?_; rintro e w4 ⟨rfl, hx4⟩; rw [HW0.out]; have hx5 : Ext w3 (w4.alloc (.cells #[.int .i64 (theR o0).t, .int .u32 (theR o0).a, .int .i64 (theR o0).l, .int .i64 (theR o0).i, .int .u32 (theR o0).g, .int .i64 (theR o0).m] 33)) := hx4.alloc _; obtain ⟨z0, z1, z2, z3, z4, z5⟩ := box_rtE (hx5.heap HZ.out); have q0 := z0 _ (Ext.refl _); have q1 := z1 _ (Ext.refl _); have q2 := z2 _ (Ext.refl _); have q3 := z3 _ (Ext.refl _); have q4 := z4 _ (Ext.refl _); have q5 := z5 _ (Ext.refl _); clear z0 z1 z2 z3 z4 z5; obtain ⟨z0, z1, z2, z3, z4, z5⟩ := box_rtE (heap_new w4 (.cells #[.int .i64 (theR o0).t, .int .u32 (theR o0).a, .int .i64 (theR o0).l, .int .i64 (theR o0).i, .int .u32 (theR o0).g, .int .i64 (theR o0).m] 33)); have r0 := z0 _ (Ext.refl _); have r1 := z1 _ (Ext.refl _); have r2 := z2 _ (Ext.refl _); have r3 := z3 _ (Ext.refl _); have r4 := z4 _ (Ext.refl _); have r5 := z5 _ (Ext.refl _); clear z0 z1 z2 z3 z4 z5; have HX5 : Hid (Ext w3 (w4.alloc (.cells #[.int .i64 (theR o0).t, .int .u32 (theR o0).a, .int .i64 (theR o0).l, .int .i64 (theR o0).i, .int .u32 (theR o0).g, .int .i64 (theR o0).m] 33))) := hx5; clear hx5 hx4)
          go_wp2_with (first
            | (go_at_call 20; refine (stepA L U H4 _ (HB4.out.later HX5.out)).mono ?_; rintro e w6 ⟨v6, rfl, ho6, hx6⟩; obtain ⟨p6, c6, rfl, -, -, hR6⟩ := ho6.slice; have HR6 : Hid (Rd w6 p6 L.length c6 L ∧ Ext (w4.alloc (.cells #[.int .i64 (theR o0).t, .int .u32 (theR o0).a, .int .i64 (theR o0).l, .int .i64 (theR o0).i, .int .u32 (theR o0).g, .int .i64 (theR o0).m] 33)) w6) := ⟨hR6, hx6⟩; clear ho6 hx6 hR6)
            | (go_at_call 21; refine (routes12 p6 p2 L.length L.length c6 c2 L w6 HR6.out.1 (by have h := HWR.out.ext (Ext.trans HX5.out HR6.out.2); obtain ⟨p', c', e', -, -, hR⟩ := h.slice; cases e'; exact hR) (by omega)).mono ?_; rintro e w7 ⟨rfl, hx7⟩; have HX7 : Hid (Ext w3 w7) := Ext.trans HX5.out (HR6.out.2.trans hx7); clear hx7))
          go_roundw
          case rel => exact ⟨k + 1, by omega, by omega, by go_num, (⟨L, U, H4, HB4.out.later HX7.out⟩ : Play w w7 fb xb)⟩
          case measure => simp [intOf]; omega
      · obtain rfl : k = 50 := by omega
        have hki : (50 : Int) < (len1 : Int) := by omega
        have HX := HE
        go_wp2_with (go_at_call 14; refine (kn _).mono ?_; rintro e wz ⟨rfl, hxz⟩)
        go_ret
        exact ⟨rfl, (HX.out.trans hxz).below⟩
    · obtain rfl : k = len1 := by omega
      have HX := HE
      go_wp2_with (go_at_call 14; refine (kn _).mono ?_; rintro e wz ⟨rfl, hxz⟩)
      go_ret
      exact ⟨rfl, (HX.out.trans hxz).below⟩

theorem contract (H : Type) (enc : TypeId × Value → H) (W : World) (base : Nat) (args : Array Value) (ds gs : List (DataW H)) (before : List MemPlace)
    (hval : ∀ (j : Nat) t v, Tryz.f5.params[j]? = some t → args[j]? = some v → Value.okWide Tryz.prog W .any base t v)
    (hW : DataW.Whole enc Tryz.prog Tryz.f5.params.toList Rows.fibRefusedSpec.vars false W args.toList ds gs before) (hsh : W.ShapedOpen Tryz.prog) :
    Calls Tryz.prog 5 args W fun e W' => ∃ v, e = .returned v ∧ Rows.fibRefusedSpec.post enc Tryz.prog Tryz.f5 false true false false W args v W' := by
  have hW' := hW
  obtain ⟨p, q, hA0, hV, rfl, hfz, hnd⟩ := hW
  have hA : DataW.TrodAll enc Tryz.prog W 0 (fun _ => true) true Tryz.f5.params.toList args.toList ds p := hA0
  rw [Tryz.params5] at hA hval
  obtain ⟨v0, vs0, d0, ds0, p0, q0, hargs, rfl, rfl, h0, r0⟩ := trodAll_cons hA
  obtain ⟨v1, vs1, d1, ds1, p1, q1, rfl, rfl, rfl, h1, r1⟩ := trodAll_cons r0
  obtain ⟨v2, vs2, d2, ds2, p2, q2, rfl, rfl, rfl, h2, r2⟩ := trodAll_cons r1
  obtain ⟨rfl, rfl, rfl⟩ := trodAll_nil r2
  obtain rfl : args = #[v0, v1, v2] := by cases args; simp_all
  obtain ⟨rfl, rfl⟩ := trodVars_none hV
  obtain ⟨a0, rfl, rfl, rfl, w0⟩ := open_int Tryz.underlying3 (hval 0 3 v0 rfl rfl) h0
  have k1 := h1
  have lt1 : ∀ x ∈ p1, x.block < W.heap.size := by obtain ⟨m, hm⟩ := k1; exact DataW.trod_lt m _ _ _ hm
  obtain ⟨b1, l1, c1, rfl⟩ := okWide_slice Tryz.underlying22 (hval 1 22 v1 rfl rfl)
  obtain ⟨fu1, hf1⟩ := h1
  obtain ⟨a1, len1, cap1, zs1, ce1, row1⟩ := open_rowG 9 cells35 ok35 (by omega) cells35_length Tryz.underlying22 (by kernel_rfl) elem35 hf1
  obtain ⟨rfl, rfl, rfl⟩ : a1 = b1 ∧ len1 = l1 ∧ cap1 = c1 := by simpa [Value.cells, eq_comm] using ce1
  obtain ⟨a2, rfl, rfl, rfl, w2⟩ := open_int Tryz.underlying29 (hval 2 29 v2 rfl rfl) h2
  clear hA0
  refine (walk a0 a1 len1 cap1 zs1 a2 W w0 row1 w2 hsh).mono fun e W' ⟨he, bel⟩ => ?_
  subst he
  exact ⟨_, rfl, _, _, _, [], _, [], hW', trodAll_mk1 (shut_bool Tryz.underlying4 _), (trodAll_cons_mk (shut_int Tryz.underlying3 w0) (trodAll_cons_mk (Below.trod laidOut (by kernel_rfl) (of_decide_eq_true (by kernel_rfl)) k1 bel lt1) (trodAll_cons_mk (shut_int Tryz.underlying29 w2) trodAll_mk0))), rfl, bel.frame _, fun h => by cases h⟩

theorem laid_met (os : Os) : laidMet Tryz.prog Rows.fibRefusedRow.laid ((World.doorLaid Tryz.prog 24 os).forCall (fun _ _ => 0) ⟨#[], #[.int .i64 0, .slice none 0 0, .int .u32 0], []⟩).memory :=
  laidMet_of_run' 8 (by kernel_rfl) (by kernel_rfl)
theorem reads (os : Os) {H : Type} (enc : TypeId × Value → H) : ∃ places, DataW.whole enc Tryz.prog ((World.doorLaid Tryz.prog 24 os).forCall (fun _ _ => 0) ⟨#[], #[.int .i64 0, .slice none 0 0, .int .u32 0], []⟩).memory Tryz.f5.params.toList Rows.fibRefusedSpec.vars false (#[.int .i64 0, .slice none 0 0, .int .u32 0] : Array Value).toList 8 = some ([.lit (.int .i64 0), .nil, .lit (.int .u32 0)], [], places) :=
  ⟨[], by kernel_rfl⟩

set_option maxRecDepth 100000 in
theorem lifted (os : Os) (started : os.Started) (H : Type) (enc : TypeId × Value → H) (F : Stop.Interp) :
    ReturnsInHanded {} Tryz.checked os 5 .any ((OpenSpec.ofChange Rows.fibRefusedSpec).preRow enc Tryz.prog Tryz.f5 Rows.fibRefusedRow.domain false Rows.fibRefusedRow.laid) (((OpenSpec.ofChange Rows.fibRefusedSpec).at F).post enc Tryz.prog Tryz.f5 false true false false) := by
  obtain ⟨places, hx⟩ := reads os enc
  refine returnsInHanded_of_row (C := Tryz.checked) (s := (OpenSpec.ofChange Rows.fibRefusedSpec)) own started (by kernel_rfl) Tryz.func5
    (witness_row_at (enc := enc) (C := Tryz.checked) false (World.doorLaid Tryz.prog 24 os) #[.int .i64 0, .slice none 0 0, .int .u32 0] rfl (by kernel_rfl) (by kernel_rfl) (by kernel_rfl)
      (OpenSpec.preRow_of_cond 8 hx (by kernel_rfl) (fun k hk => by cases hk) (by kernel_rfl) (laid_met os))) ?_
  intro W base args ds gs before hval hW _ hcond _ hL hsh _
  exact contract H enc W base args ds gs before hval hW hsh

theorem said : Rows.FibRefusedSaid :=
  OpenClaim.holds_of_cond 5 Tryz.f5 rfl rfl rfl rfl rfl rfl rfl ⟨rfl, rfl, rfl, rfl, rfl⟩ rfl rfl rfl rfl rfl (by kernel_rfl) Tryz.func5 (by kernel_rfl)
    (of_decide_eq_true (by kernel_rfl)) (by unfold Func.isWrapper; first | (rw [if_pos (by decide +kernel)]; kernel_rfl) | (rw [if_neg (by decide +kernel)]; exact ⟨rfl, rfl⟩))
    (fun os started H enc _ F => by rw [OpenClaim.pre_eq_preRow]; exact lifted os started H enc F)

end Go.Proofs.YtmoimkeeldlpkaaGreat.fibRefused

namespace Go.Proofs.YtmoimkeeldlpkaaGreat
theorem fibRefused_holds : Rows.FibRefusedSaid := fibRefused.said
#print axioms fibRefused_holds
end Go.Proofs.YtmoimkeeldlpkaaGreat
