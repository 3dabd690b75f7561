/- For every row of addresses, the law FibRoom returns true: a table never owns more blocks than may be; the one that is refused would; no condition. -/
import Derived.Test.YtmoimkeeldlpkaaGreatRows
import Derived.Test.YtmoimkeeldlpkaaGreatJ1
import Derived.Test.YtmoimkeeldlpkaaGreatJ2
import Derived.Test.YtmoimkeeldlpkaaGreatJ3
import Derived.Test.YtmoimkeeldlpkaaGreatJ4
import Derived.Test.YtmoimkeeldlpkaaGreatJ5
import Derived.Test.YtmoimkeeldlpkaaGreatJ6
import Derived.Test.YtmoimkeeldlpkaaGreatJ7
import Derived.Test.YtmoimkeeldlpkaaGreatJ8
import Derived.Test.YtmoimkeeldlpkaaGreatJ9
import Derived.Test.YtmoimkeeldlpkaaGreatJ10
import Derived.Test.YtmoimkeeldlpkaaGreatJ11
import Derived.Test.YtmoimkeeldlpkaaGreatJ12
import Derived.Test.YtmoimkeeldlpkaaGreatJ13
import Derived.Test.YtmoimkeeldlpkaaGreatJ14
import Derived.Test.YtmoimkeeldlpkaaGreatJ15
import Derived.Test.YtmoimkeeldlpkaaGreatJ16
import Derived.Test.YtmoimkeeldlpkaaGreatJ17
import Derived.Test.YtmoimkeeldlpkaaGreatJ18
import Derived.Test.YtmoimkeeldlpkaaGreatJ19
import Derived.Test.YtmoimkeeldlpkaaGreatJ20
import Derived.Test.YtmoimkeeldlpkaaGreatJ21
import Derived.Test.YtmoimkeeldlpkaaGreatJ22
import Derived.Test.YtmoimkeeldlpkaaGreatJ23
import Derived.Test.YtmoimkeeldlpkaaGreatJ24
import Derived.Test.YtmoimkeeldlpkaaGreatJ25
import Derived.Test.YtmoimkeeldlpkaaGreatJ26
import Derived.WalkKit
import Derived.ProofKit
import Derived.OpenShut
import Derived.ShutString
import Derived.ChangeOld
import Derived.Deep.DeepHandedRow
import Derived.Lib.LaidTab
import Derived.Lib.SmallJoins
import Derived.LaidMore
import Derived.Stop.LaidErr
import Derived.ChangeMaps5
namespace Go.Proofs.YtmoimkeeldlpkaaGreat.fibRoom
open Go.ChangeShapes Go.WideShapes Go.ChangeAt Go.RowKit Go.ChangeMaps
set_option linter.unusedVariables false
set_option maxRecDepth 100000

theorem own : ownKnob Tryz.prog.godebug = none := by kernel_rfl
theorem laidOut : laidOutB Tryz.prog = true := by kernel_rfl

open Go.Proofs.YtmoimkeeldlpkaaGreat.Tri Go.Proofs.YtmoimkeeldlpkaaGreat.Rb Go.Proofs.YtmoimkeeldlpkaaGreat.Fb

/-- A Fib of addresses, behind k of them. -/
def RoomAt (w wr : World) (fb k : Nat) : Prop := ∃ L F, FibAt wr fb L [true] F ∧ Ext w wr ∧ (∀ x ∈ F, w.heap.size ≤ x) ∧ RoomL L ∧ L.length ≤ k

theorem clamp1 : clampN 1 = 1 := by decide

set_option maxHeartbeats 40000000 in
theorem walk (a0 : Option Addr) (len0 cap0 : Nat) (zs0 : List Int) (w : World) (row0 : IsRow .u32 w a0 len0 cap0 zs0) (hsh : w.ShapedOpen Tryz.prog) :
    Calls Tryz.prog 9 #[.slice a0 len0 cap0] w fun e w' => e = .returned (.bool true) ∧ Below w.heap.size w w' := by
  have kn := fun w => known_any w
  have hm := row0.le
  have HR : Hid (IsRow .u32 w a0 len0 cap0 zs0) := row0
  clear row0
  by_cases hbig : 60 < len0
  · have hbi : (60 : Int) < (len0 : Int) := by omega
    go_enter Tryz.func9, Tryz.ntmps9
    go_wp2_with fail
    go_ret
    exact ⟨rfl, (Ext.refl w).below⟩
  · have hbi : ¬ ((60 : Int) < (len0 : Int)) := by omega
    have cN := fnew_any 1 w
    rw [clamp1] at cN
    go_enter Tryz.func9, Tryz.ntmps9
    go_wp2_with (go_at_call 10; refine cN.mono ?_; rintro e w1 ⟨fb, F, rfl, h1, hx1, hF⟩; have H1 : Hid (RoomAt w w1 fb 0) := ⟨[], F, h1, hx1, hF, room_nil, Nat.le_refl _⟩; clear h1 hx1 hF)
    go_loopw [4] (fun i wr => ∃ k : Nat, k ≤ len0 ∧ i = .int .i64 k ∧ Hid (RoomAt w wr fb k)) (fun i _ => len0 - (intOf i).toNat)
    case atStart => exact ⟨0, Nat.zero_le _, rfl, H1⟩
    case round =>
      clear H1 cN
      obtain ⟨k, hkl, rfl, HK⟩ := hrel
      obtain ⟨L, F, hF, hE, hFw, hRL, hLk⟩ := HK.out
      by_cases hlt : k < len0
      · have hki : (k : Int) < (len0 : Int) := by omega
        obtain ⟨x, a, hxa, ha0, ha1, hxc⟩ : ∃ x a, a0 = some x ∧ 0 ≤ a ∧ a ≤ 4294967295 ∧ w.cell? (x.add k) = some (.int .u32 a) := by
          rcases HR.out with ⟨-, h0, -, -⟩ | ⟨x, hx, h1, -, h3, h4, h5⟩
          · omega
          · have hm : zs0.getD k 0 ∈ zs0 := by rw [List.getD_eq_getElem?_getD, List.getElem?_eq_getElem (by omega)]; exact List.getElem_mem _
            have hb := bounds_u32 (h5 _ hm)
            exact ⟨x, _, hx, hb.1, hb.2, h4 k (by omega)⟩
        subst hxa
        have HC : Hid (∀ w', Ext w w' → w'.cell? (x.add k) = some (.int .u32 a)) := fun w' h => by rw [h.below.cell (p := x.add k) (block_lt hxc)]; exact hxc
        have h256 : L.length < 256 := by omega
        have hst := room_step hRL h256 hF.room ha0 ha1
        have hle : ownA (actL L 1 [true]) ≤ 16 := fullB_le hF.room (k := 1) (by omega)
        have cB := fblocks_any fb 1 L [true] F wr hF
        have cA := Fb.add_any fb L [true] F (rO a) wr hF (rO_ok ha0 ha1)
        have HF : Hid (FibAt wr fb L [true] F ∧ Ext w wr ∧ (∀ x ∈ F, w.heap.size ≤ x) ∧ RoomL L ∧ L.length ≤ k) := ⟨hF, hE, hFw, hRL, hLk⟩
        have HAB : Hid (0 ≤ a ∧ a ≤ 4294967295) := ⟨ha0, ha1⟩
        have hac := HC.out wr hE
        clear hF hE hFw hRL hLk HK hxc ha0 ha1
        rcases hst with ⟨hq, h15, hwn⟩ | ⟨L', hq, hRL', hL', s, hws, hsa⟩
        · rw [hq] at cA
          generalize hown : ownA (actL L 1 [true]) = ow at *
          have hi1 : (ow : Int) ≤ 16 := by omega
          have hi2 : ¬ ((ow : Int) < 15) := by omega
          have hi3 : (15 : Int) ≤ (ow : Int) := by omega
          have HWN : Hid (wayO L [true] 1 a = none ∧ ownA (actL L 1 [true]) = ow) := ⟨hwn, hown⟩
          clear hq h15 hwn hown hle
          simp only [rO] at cA
          have tok1 : Hid True := trivial
          go_wp2_with (first
            | (go_at_call 27; clear tok1; refine cB.mono ?_; rintro e v1 ⟨rfl, hw⟩; obtain rfl := hw.symm; clear hw)
            | (go_at_call 24; refine cA.mono ?_; rintro e v2 ⟨rfl, F2, f1, f2, f3⟩; have H2 : Hid (FibAt v2 fb L [true] F2 ∧ Ext w v2 ∧ ∀ x ∈ F2, w.heap.size ≤ x) := ⟨f1, ExtS.ext ((HF.out.2.1.toS F).trans f2) HF.out.2.2.1, fun x hx => (f3 x hx).elim (HF.out.2.2.1 x) fun h => Nat.le_trans HF.out.2.1.size h⟩; have cB2 := fblocks_any fb 1 L [true] F2 v2 f1; rw [HWN.out.2] at cB2; have cR := byDir_any fb 1 a L [true] F2 v2 f1 HAB.out.1 HAB.out.2; rw [HWN.out.1] at cR; have hac2 := HC.out v2 H2.out.2.1; clear f1 f2 f3 cB)
            | (go_at_call 27; refine cB2.mono ?_; rintro e v3 ⟨rfl, hw⟩; obtain rfl := hw.symm; clear hw)
            | (go_at_call 19; refine cR.mono ?_; rintro e v4 ⟨rfl, hv4⟩; have HV4 : Hid (Ext v2 v4) := hv4))
          refine wp_region_eager [(0, false), (1, false), (2, false), (3, false), (4, false), (5, false), (6, false), (7, false), (8, false), (9, false), (10, false), (11, false), (12, false), (13, false)] (by kernel_rfl) (by kernel_rfl) rfl (by kernel_rfl) (fun _ _ _ _ _ h => h) ?_
          iterate 4 (refine wpE_read (v := ?_) rfl (by rfl) ?_ ?_; rotate_left; (focus (intro w' hx; go_simp; first | done | with_reducible rfl)); simp only [Act.put, List.setIfInBounds_toArray, List.set_cons_zero, List.set_cons_succ])
          iterate 8 (rw [wpE_skip_eq _ rfl (by rfl)]; simp only [Act.put, List.setIfInBounds_toArray, List.set_cons_zero, List.set_cons_succ])
          iterate 2 (refine wpE_read (v := ?_) rfl (by rfl) ?_ ?_; rotate_left; (focus (intro w' hx; go_simp; first | done | with_reducible rfl)); simp only [Act.put, List.setIfInBounds_toArray, List.set_cons_zero, List.set_cons_succ])
          refine wpE_done ?_
          go_wp2_with fail
          go_roundw
          case rel =>
            have hE2 := (HV4.out.alloc (.cells #[.int .i64 (theR none).t, .int .u32 (theR none).a, .int .i64 (theR none).l, .int .i64 (theR none).i, .int .u32 (theR none).g, .int .i64 (theR none).m] 33)).drew
            exact ⟨k + 1, by omega, by go_num, ⟨L, F2, H2.out.1.ext hE2, H2.out.2.1.trans hE2, H2.out.2.2, HF.out.2.2.2.1, Nat.le_succ_of_le HF.out.2.2.2.2⟩⟩
          case measure => simp [intOf]; omega
        · rw [hq] at cA
          have hsq : (s.a == a) = true := by simpa using hsa
          have cR := fun W F (h : FibAt W fb L' [true] F) => byDir_any fb 1 a L' [true] F W h HAB.out.1 HAB.out.2
          rw [hws] at cR
          unfold BestAns at cR
          simp only [show theR (some s) = s from rfl, Option.isSome_some] at cR
          have cB2 := fun W F (h : FibAt W fb L' [true] F) => fblocks_any fb 1 L' [true] F W h
          have cW := fun W F (h : FibAt W fb L' [true] F) => room_le (k := 1) h (by omega)
          generalize ownA (actL L' 1 [true]) = ow2 at cB2 cW
          have HRL : Hid (RoomL L' ∧ L'.length ≤ L.length + 1 ∧ wayO L' [true] 1 a = some s) := ⟨hRL', hL', hws⟩
          clear hq hRL' hL' hws hsa hle
          generalize ownA (actL L 1 [true]) = ow at cB
          simp only [rO] at cA
          have tok1 : Hid True := trivial
          go_wp2_with (first
            | (go_at_call 27; clear tok1; refine cB.mono ?_; rintro e v1 ⟨rfl, hw⟩; obtain rfl := hw.symm; clear hw)
            | (go_at_call 24; refine cA.mono ?_; rintro e v2 ⟨rfl, F2, f1, f2, f3⟩; have H2 : Hid (FibAt v2 fb L' [true] F2 ∧ Ext w v2 ∧ ∀ x ∈ F2, w.heap.size ≤ x) := ⟨f1, ExtS.ext ((HF.out.2.1.toS F).trans f2) HF.out.2.2.1, fun x hx => (f3 x hx).elim (HF.out.2.2.1 x) fun h => Nat.le_trans HF.out.2.1.size h⟩; have hi1 : (ow2 : Int) ≤ 16 := cW v2 F2 f1; have hac2 := HC.out v2 H2.out.2.1; clear f1 f2 f3 cB cW)
            | (go_at_call 27; refine (cB2 _ _ H2.out.1).mono ?_; rintro e v3 ⟨rfl, hw⟩; obtain rfl := hw.symm; clear hw)
            | (go_at_call 19; refine (cR _ _ H2.out.1).mono ?_; rintro e v4 ⟨rfl, hv4⟩; have HV4 : Hid (Ext v2 v4) := hv4))
          refine wp_region_eager [(0, false), (1, false), (2, false), (3, false), (4, false), (5, false), (6, false), (7, false), (8, false), (9, false), (10, false), (11, false), (12, false), (13, false)] (by kernel_rfl) (by kernel_rfl) rfl (by kernel_rfl) (fun _ _ _ _ _ h => h) ?_
          have hE2 : Hid (Ext v2 (v4.alloc (.cells #[.int .i64 s.t, .int .u32 s.a, .int .i64 s.l, .int .i64 s.i, .int .u32 s.g, .int .i64 s.m] 33)).drew) := (HV4.out.alloc _).drew
          obtain ⟨b0, b1, b2, b3, b4, b5⟩ := box_rtE (show (v4.alloc (.cells #[.int .i64 s.t, .int .u32 s.a, .int .i64 s.l, .int .i64 s.i, .int .u32 s.g, .int .i64 s.m] 33)).drew.heap[v4.heap.size]? = some (.cells #[.int .i64 s.t, .int .u32 s.a, .int .i64 s.l, .int .i64 s.i, .int .u32 s.g, .int .i64 s.m] 33 (0, 0)) from heap_new v4 _)
          have hc4 : ∀ w', Ext (v4.alloc (.cells #[.int .i64 s.t, .int .u32 s.a, .int .i64 s.l, .int .i64 s.i, .int .u32 s.g, .int .i64 s.m] 33)).drew w' → w'.cell? (x.add k) = some (.int .u32 a) := fun w' h => HC.out w' (H2.out.2.1.trans (hE2.out.trans h))
          clear b0 b2 b3 b4 b5 hv4 HV4
          generalize (v4.alloc (.cells #[.int .i64 s.t, .int .u32 s.a, .int .i64 s.l, .int .i64 s.i, .int .u32 s.g, .int .i64 s.m] 33)).drew = W at *
          iterate 14 (refine wpE_read (v := ?_) rfl (by rfl) ?_ ?_; rotate_left; (focus (intro w' hx; go_simp; first | done | with_reducible rfl)); simp only [Act.put, List.setIfInBounds_toArray, List.set_cons_zero, List.set_cons_succ])
          refine wpE_done ?_
          go_wp2_with fail
          go_roundw
          case rel => exact ⟨k + 1, by omega, by go_num, ⟨L', F2, H2.out.1.ext hE2.out, H2.out.2.1.trans hE2.out, H2.out.2.2, HRL.out.1, Nat.le_trans HRL.out.2.1 (Nat.succ_le_succ HF.out.2.2.2.2)⟩⟩
          case measure => simp [intOf]; omega
      · obtain rfl : k = len0 := by omega
        have HE : Hid (Ext w wr) := hE
        clear hF hE hFw hRL hLk HK
        go_wp2_with (go_at_call 14; refine (kn _).mono ?_; rintro e wz ⟨rfl, hxz⟩)
        go_ret
        exact ⟨rfl, (HE.out.trans hxz).below⟩

theorem contract (H : Type) (enc : TypeId × Value → H) (W : World) (base : Nat) (args : Array Value) (ds gs : List (DataW H)) (before : List MemPlace)
    (hval : ∀ (j : Nat) t v, Tryz.f9.params[j]? = some t → args[j]? = some v → Value.okWide Tryz.prog W .any base t v)
    (hW : DataW.Whole enc Tryz.prog Tryz.f9.params.toList Rows.fibRoomSpec.vars false W args.toList ds gs before) (hsh : W.ShapedOpen Tryz.prog) :
    Calls Tryz.prog 9 args W fun e W' => ∃ v, e = .returned v ∧ Rows.fibRoomSpec.post enc Tryz.prog Tryz.f9 false true false false W args v W' := by
  have hW' := hW
  obtain ⟨p, q, hA0, hV, rfl, hfz, hnd⟩ := hW
  have hA : DataW.TrodAll enc Tryz.prog W 0 (fun _ => true) true Tryz.f9.params.toList args.toList ds p := hA0
  rw [Tryz.params9] at hA hval
  obtain ⟨v0, vs0, d0, ds0, p0, q0, hargs, rfl, rfl, h0, r0⟩ := trodAll_cons hA
  obtain ⟨rfl, rfl, rfl⟩ := trodAll_nil r0
  obtain rfl : args = #[v0] := by cases args; simp_all
  obtain ⟨rfl, rfl⟩ := trodVars_none hV
  have k0 := h0
  have lt0 : ∀ x ∈ p0, x.block < W.heap.size := by obtain ⟨m, hm⟩ := k0; exact DataW.trod_lt m _ _ _ hm
  obtain ⟨b0, l0, c0, rfl⟩ := okWide_slice Tryz.underlying39 (hval 0 39 v0 rfl rfl)
  obtain ⟨fu0, hf0⟩ := h0
  obtain ⟨a0, len0, cap0, zs0, ce0, row0⟩ := open_rowI Tryz.underlying39 Tryz.underlying29 (by kernel_rfl) (fun _ => rfl) hf0
  obtain ⟨rfl, rfl, rfl⟩ : a0 = b0 ∧ len0 = l0 ∧ cap0 = c0 := by simpa [Value.cells, eq_comm] using ce0
  clear hA0
  refine (walk a0 len0 cap0 zs0 W row0 hsh).mono fun e W' ⟨he, bel⟩ => ?_
  subst he
  exact ⟨_, rfl, _, _, _, [], _, [], hW', trodAll_mk1 (shut_bool Tryz.underlying4 _), (trodAll_cons_mk (Below.trod laidOut (by kernel_rfl) (of_decide_eq_true (by kernel_rfl)) k0 bel lt0) trodAll_mk0), rfl, bel.frame _, fun h => by cases h⟩

theorem laid_met (os : Os) : laidMet Tryz.prog Rows.fibRoomRow.laid ((World.doorLaid Tryz.prog 24 os).forCall (fun _ _ => 0) ⟨#[], #[.slice none 0 0], []⟩).memory :=
  laidMet_of_run' 8 (by kernel_rfl) (by kernel_rfl)
theorem reads (os : Os) {H : Type} (enc : TypeId × Value → H) : ∃ places, DataW.whole enc Tryz.prog ((World.doorLaid Tryz.prog 24 os).forCall (fun _ _ => 0) ⟨#[], #[.slice none 0 0], []⟩).memory Tryz.f9.params.toList Rows.fibRoomSpec.vars false (#[.slice none 0 0] : Array Value).toList 8 = some ([.nil], [], places) :=
  ⟨[], by kernel_rfl⟩

set_option maxRecDepth 100000 in
theorem lifted (os : Os) (started : os.Started) (H : Type) (enc : TypeId × Value → H) (F : Stop.Interp) :
    ReturnsInHanded {} Tryz.checked os 9 .any ((OpenSpec.ofChange Rows.fibRoomSpec).preRow enc Tryz.prog Tryz.f9 Rows.fibRoomRow.domain false Rows.fibRoomRow.laid) (((OpenSpec.ofChange Rows.fibRoomSpec).at F).post enc Tryz.prog Tryz.f9 false true false false) := by
  obtain ⟨places, hx⟩ := reads os enc
  refine returnsInHanded_of_row (C := Tryz.checked) (s := (OpenSpec.ofChange Rows.fibRoomSpec)) own started (by kernel_rfl) Tryz.func9
    (witness_row_at (enc := enc) (C := Tryz.checked) false (World.doorLaid Tryz.prog 24 os) #[.slice none 0 0] rfl (by kernel_rfl) (by kernel_rfl) (by kernel_rfl)
      (OpenSpec.preRow_of_cond 8 hx (by kernel_rfl) (fun k hk => by cases hk) (by kernel_rfl) (laid_met os))) ?_
  intro W base args ds gs before hval hW _ hcond _ hL hsh _
  exact contract H enc W base args ds gs before hval hW hsh

theorem said : Rows.FibRoomSaid :=
  OpenClaim.holds_of_cond 9 Tryz.f9 rfl rfl rfl rfl rfl rfl rfl ⟨rfl, rfl, rfl, rfl, rfl⟩ rfl rfl rfl rfl rfl (by kernel_rfl) Tryz.func9 (by kernel_rfl)
    (of_decide_eq_true (by kernel_rfl)) (by unfold Func.isWrapper; first | (rw [if_pos (by decide +kernel)]; kernel_rfl) | (rw [if_neg (by decide +kernel)]; exact ⟨rfl, rfl⟩))
    (fun os started H enc _ F => by rw [OpenClaim.pre_eq_preRow]; exact lifted os started H enc F)

end Go.Proofs.YtmoimkeeldlpkaaGreat.fibRoom

namespace Go.Proofs.YtmoimkeeldlpkaaGreat
theorem fibRoom_holds : Rows.FibRoomSaid := fibRoom.said
#print axioms fibRoom_holds
end Go.Proofs.YtmoimkeeldlpkaaGreat
