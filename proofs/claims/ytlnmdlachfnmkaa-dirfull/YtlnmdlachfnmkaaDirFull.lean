/- For every bound and every script, the law DirFull returns true: what has no room is refused, and nothing is changed; what is taken away gives its blocks back; no condition. -/
import Derived.Test.YtlnmdlachfnmkaaRows
import Derived.Test.YtlnmdlachfnmkaaLaw10L
import Derived.Test.YtlnmdlachfnmkaaFrame
import Derived.Test.YtlnmdlachfnmkaaRowG
import Derived.WalkKit
import Derived.ProofKit
import Derived.OpenShut
import Derived.ShutString
import Derived.ChangeOld
import Derived.Deep.DeepHandedRow
import Derived.Lib.LaidTab
import Derived.Lib.SmallJoins
import Derived.LaidMore
import Derived.Stop.LaidErr
import Derived.ChangeMaps5
namespace Go.Proofs.Ytlnmdlachfnmkaa.dirFull
open Go.ChangeShapes Go.WideShapes Go.ChangeAt Go.RowKit Go.ChangeMaps
set_option linter.unusedVariables false
set_option maxRecDepth 100000

theorem own : ownKnob Try.prog.godebug = none := by kernel_rfl
theorem laidOut : laidOutB Try.prog = true := by kernel_rfl

abbrev Elem32 := Bool × Int × Int × Int
def cells32 (z : Elem32) : List Value := [.bool (z.1), .int .u32 (z.2.1), .int .i64 (z.2.2.1), .int .i64 (z.2.2.2)]
def ok32 (z : Elem32) : Prop := (Lit.int .u32 (z.2.1)).wf = true ∧ (Lit.int .i64 (z.2.2.1)).wf = true ∧ (Lit.int .i64 (z.2.2.2)).wf = true
theorem cells32_length (z : Elem32) : (cells32 z).length = 4 := rfl
theorem elem32 {H : Type} {enc : TypeId × Value → H} {w : World} {base : Nat} {spare : Nat → Bool} {held : Bool} (n : Nat) (cs : List Value) (y : DataW H × List MemPlace)
    (h : DataW.trod enc Try.prog w base spare held n 32 cs = some y) : ∃ z : Elem32, cs = cells32 z ∧ ok32 z := by
  have hl : cs.length = 4 := by
    obtain ⟨_, _, _, _, hl, _⟩ := DataW.trod_struct Try.underlying32 h
    exact hl.trans (by kernel_rfl)
  obtain ⟨u0, u1, u2, u3, rfl⟩ : ∃ u0 u1 u2 u3, cs = [u0, u1, u2, u3] := by
    match cs, hl with
    | [u0, u1, u2, u3], _ => exact ⟨u0, u1, u2, u3, rfl⟩
  obtain ⟨_, _, e1⟩ := field_at Try.underlying32 h 0 rfl 1 (by kernel_rfl)
  obtain ⟨az0, c2, _⟩ := DataW.trod_bool Try.underlying4 e1
  obtain rfl : u0 = .bool az0 := by simpa using c2
  obtain ⟨_, _, e3⟩ := field_at Try.underlying32 h 1 rfl 2 (by kernel_rfl)
  obtain ⟨_, _, e4⟩ := field_at Try.underlying30 e3 0 rfl 1 (by kernel_rfl)
  obtain ⟨az10, c5, _, wz10⟩ := DataW.trod_int Try.underlying28 e4
  obtain rfl : u1 = .int .u32 az10 := by simpa using c5
  obtain ⟨_, _, e6⟩ := field_at Try.underlying30 e3 1 rfl 1 (by kernel_rfl)
  obtain ⟨az11, c7, _, wz11⟩ := DataW.trod_int Try.underlying3 e6
  obtain rfl : u2 = .int .i64 az11 := by simpa using c7
  obtain ⟨_, _, e8⟩ := field_at Try.underlying32 h 2 rfl 1 (by kernel_rfl)
  obtain ⟨az2, c9, _, wz2⟩ := DataW.trod_int Try.underlying3 e8
  obtain rfl : u3 = .int .i64 az2 := by simpa using c9
  exact ⟨(az0, az10, az11, az2), rfl, ⟨wz10, wz11, wz2⟩⟩

open Go.Proofs.Ytlnmdlachfnmkaa.Tri Go.Proofs.Ytlnmdlachfnmkaa.Dr

set_option maxHeartbeats 4000000 in
theorem walk (a0 : Int) (a1 : Option Addr) (len1 cap1 : Nat) (zs1 : List Elem32) (w : World) (w0 : (Lit.int .i64 a0).wf = true) (row1 : IsRowG 4 cells32 ok32 w a1 len1 cap1 zs1) (hsh : w.ShapedOpen Try.prog) :
    Calls Try.prog 5 #[.int .i64 a0, .slice a1 len1 cap1] w fun e w' => e = .returned (.bool true) ∧ Below w.heap.size w w' := by
  have row : IsRowG 4 actC actOk w a1 len1 cap1 zs1 := row1
  have kn := fun w => known_any w
  have hm := row.le
  have hm2 := row.room
  unfold maxLen at hm2
  have HR : Hid (IsRowG 4 actC actOk w a1 len1 cap1 zs1) := row
  clear row row1
  by_cases hneg : a0 < 0
  · go_enter Try.func5, Try.ntmps5
    go_wp2_with fail
    go_ret
    exact ⟨rfl, Ext.refl w⟩
  by_cases hbig : 40 < a0
  · have hneg' : ¬ a0 < 0 := by omega
    go_enter Try.func5, Try.ntmps5
    go_wp2_with fail
    go_ret
    exact ⟨rfl, Ext.refl w⟩
  have hn0 : 0 ≤ a0 := by omega
  have hn1 : a0 ≤ 40 := by omega
  have k0 := new_own a0 w
  rw [show maxV a0 = a0 by unfold maxV; rw [if_neg hneg]] at k0
  clear hneg hbig
  go_enter Try.func5, Try.ntmps5
  go_wp2_with (go_at_call 10; refine k0.mono ?_; rintro e w1 ⟨rfl, o1⟩)
  go_loopw [6] (fun i wr => ∃ (k : Nat) (L : Row), k ≤ 60 ∧ k ≤ len1 ∧ i = .int .i64 k ∧ Ext w wr ∧ Hid (Own10 w wr w.heap.size a0 L ∧ L.length ≤ k ∧ FromP zs1 0 k L)) (fun i _ => 60 - (intOf i).toNat)
  case atStart => exact ⟨0, [], Nat.zero_le _, Nat.zero_le _, rfl, o1.toExt, ⟨o1, Nat.le_refl _, by intro x hx; cases hx⟩⟩
  case round =>
    clear k0 o1
    obtain ⟨k, L, hk, hkl, rfl, hx, HK⟩ := hrel
    by_cases hlt : k < len1
    · by_cases h60 : k < 60
      · obtain ⟨b, off, d, c, m, v, rfl, hz, c0, c1, hbl, g0, g1, g2, g3⟩ := act_cells HR.out hlt
        have hki : (k : Int) < (len1 : Int) := by omega
        have h60i : (k : Int) < 60 := by omega
        have j1 := act_later hx hbl g1
        obtain ⟨hO, hL, hFP⟩ := HK.out
        have kb := blocks_own hO
        have kl := len_own hO
        have kk := look_own hO c c0 c1
        have hx2 := hx.drew
        have hO2 := hO.ext ((Ext.refl wr).drew)
        have ks := set_ownN hO2 (by omega) c m v c0 c1
        have hFP2 := hFP.set hO.srt hz a0 v
        have hlen2 := setR_len a0 L (c, m) v
        simp only [actP] at hFP2
        have htwo := setR_two a0 L (c, m) v
        obtain ⟨nv, nok, hno⟩ := numO_shape (lastF none (covL L (c, 32)))
        rw [hno] at kk
        generalize (setR a0 L (c, m) v).1 = er at *
        generalize (setR a0 L (c, m) v).2 = L2 at *
        have HFP : Hid (FromP zs1 0 (k + 1) L2) := hFP2
        have HLEN : Hid (L2.length ≤ L.length + 1) := hlen2
        have HNO : Hid _ := hno
        have r1 := fun w' h => act_laterN (W := wr.drew) (w' := w') hx2 h hbl g1
        have r2 := fun w' h => act_laterN (W := wr.drew) (w' := w') hx2 h hbl g2
        have r3 := fun w' h => act_laterN (W := wr.drew) (w' := w') hx2 h hbl g3
        have G1 : Hid _ := g1
        clear hFP hFP2 hlen2 hno g0 HK hO g1 g2 g3
        generalize hown : ownN (keysL L) = ow at *
        generalize hll : L.length = ll at *
        go_wp2_with (first
          | (go_at_call 13; refine kb.mono ?_; rintro e w2 ⟨rfl, rfl⟩)
          | (go_at_call 15; refine kl.mono ?_; rintro e w2 ⟨rfl, rfl⟩)
          | (go_at_call 18; refine kk.mono ?_; rintro e w2 ⟨rfl, rfl⟩))
        refine wp_region_eagerN w.heap.size [(0, false), (1, false), (2, false), (3, false), (4, false), (5, false), (6, false), (7, false), (8, false), (9, false), (10, false), (11, true), (12, false)] (by kernel_rfl) (by kernel_rfl) rfl (by kernel_rfl) (fun _ _ _ _ _ h => h) ?_
        clear kb kl kk
        iterate 11 (refine wpE_read (v := ?_) rfl (by rfl) ?_ ?_; rotate_left; (focus (intro w' hx; go_simp; first | done | with_reducible rfl)); simp only [Act.put, List.setIfInBounds_toArray, List.set_cons_zero, List.set_cons_succ])
        refine wpE_call rfl (by rfl) (fun K hK => ?_); go_simp; first | (go_at_call 20; refine ks.mono ?_; rintro e w4 ⟨rfl, o4, x4⟩; refine hK _ _ x4 ?_; clear hK K)
        clear r1 r2 r3 ks
        (refine wpE_read (v := ?_) rfl (by rfl) ?_ ?_; rotate_left; (focus (intro w' hx; go_simp; first | done | with_reducible rfl)); simp only [Act.put, List.setIfInBounds_toArray, List.set_cons_zero, List.set_cons_succ])
        refine wpE_done ?_
        have hx4 := o4.toExt
        have j4 := act_later hx4 hbl G1.out
        have kb := blocks_own o4
        have kl := len_own o4
        have kk := look_own o4 c c0 c1
        have hroom := o4.room
        rcases htwo with ⟨rfl, e2⟩ | ⟨e1, rfl⟩
        · generalize ownN (keysL L2) = ow2 at *
          clear e2
          go_wp2_with (go_at_call 13; refine kb.mono ?_; rintro e w5 ⟨rfl, rfl⟩)
          refine ⟨⟨k + 1, _, by omega, by omega, by simp, hx4, ⟨o4, by have := HLEN.out; omega, HFP.out⟩⟩, ?_⟩
          simp only [intOf]; omega
        · rw [hown] at kb hroom
          rw [hll] at kl
          rw [HNO.out] at kk
          have her : (er == 0) = false := by rcases e1 with rfl | rfl <;> rfl
          go_wp2_with (first
            | (go_at_call 13; refine kb.mono ?_; rintro e w5 ⟨rfl, rfl⟩)
            | (go_at_call 15; refine kl.mono ?_; rintro e w5 ⟨rfl, rfl⟩)
            | (go_at_call 18; refine kk.mono ?_; rintro e w5 ⟨rfl, rfl⟩))
          refine ⟨⟨k + 1, _, by omega, by omega, by simp, hx4, ⟨o4, by have := HLEN.out; omega, HFP.out⟩⟩, ?_⟩
          simp only [intOf]; omega
      · obtain rfl : k = 60 := by omega
        have hki : ((60 : Nat) : Int) < (len1 : Int) := by omega
        go_wp2_with fail
        go_loopw [14] (fun i wr => ∃ (j : Nat) (L : Row), j ≤ 60 ∧ i = .int .i64 j ∧ Ext w wr ∧ Hid (Own10 w wr w.heap.size a0 L ∧ L.length ≤ 60 ∧ FromP zs1 j 60 L)) (fun i _ => 60 - (intOf i).toNat)
        case atStart => exact ⟨0, L, Nat.zero_le _, rfl, hx, ⟨HK.out.1, by have := HK.out.2.1; omega, HK.out.2.2⟩⟩
        case round =>
          clear HK hx
          obtain ⟨j, L, hj, rfl, hx, HK⟩ := hrel
          by_cases hjl : j < 60
          · obtain ⟨b, off, d, c, m, v, rfl, hz, c0, c1, hbl, g0, g1, g2, g3⟩ := act_cells HR.out (show j < len1 by omega)
            have j1 := act_later hx hbl g1
            have j2 := act_later hx hbl g2
            have hji : (j : Int) < (len1 : Int) := by omega
            have hj60 : (j : Int) < 60 := by omega
            have kd := del_own HK.out.1 (by have := HK.out.2.1; omega) c m c0 c1
            clear g0 g1 g2 g3
            go_wp2_with (go_at_call 21; refine kd.mono ?_; rintro e w2 ⟨rfl, o2⟩)
            refine ⟨⟨j + 1, delL L (c, m), by omega, by simp, o2.toExt, ⟨o2, Nat.le_trans (delL_len L (c, m)) HK.out.2.1, HK.out.2.2.del hz⟩⟩, ?_⟩
            simp only [intOf]; omega
          · obtain rfl : j = 60 := by omega
            have hL := HK.out.2.2.none
            have kb := blocks_own HK.out.1
            have kl := len_own HK.out.1
            rw [hL] at kb kl
            rw [show ownN (keysL []) = 0 from rfl] at kb
            rw [show ([] : Row).length = 0 from rfl] at kl
            go_wp2_with (first
              | (go_at_call 13; refine kb.mono ?_; rintro e w2 ⟨rfl, rfl⟩)
              | (go_at_call 15; refine kl.mono ?_; rintro e w3 ⟨rfl, rfl⟩)
              | (go_at_call 16; refine (kn _).mono ?_; rintro e w6 ⟨rfl, hx6⟩))
            go_ret
            exact ⟨rfl, hx.trans hx6⟩
    · obtain rfl : k = len1 := by omega
      go_wp2_with fail
      go_loopw [14] (fun i wr => ∃ (j : Nat) (L : Row), j ≤ k ∧ i = .int .i64 j ∧ Ext w wr ∧ Hid (Own10 w wr w.heap.size a0 L ∧ L.length ≤ 60 ∧ FromP zs1 j k L)) (fun i _ => k - (intOf i).toNat)
      case atStart => exact ⟨0, L, Nat.zero_le _, rfl, hx, ⟨HK.out.1, by have := HK.out.2.1; omega, HK.out.2.2⟩⟩
      case round =>
        clear HK hx
        obtain ⟨j, L, hj, rfl, hx, HK⟩ := hrel
        by_cases hjl : j < k
        · obtain ⟨b, off, d, c, m, v, rfl, hz, c0, c1, hbl, g0, g1, g2, g3⟩ := act_cells HR.out (show j < k by omega)
          have j1 := act_later hx hbl g1
          have j2 := act_later hx hbl g2
          have hji : (j : Int) < (k : Int) := by omega
          have hj60 : (j : Int) < 60 := by omega
          have kd := del_own HK.out.1 (by have := HK.out.2.1; omega) c m c0 c1
          clear g0 g1 g2 g3
          go_wp2_with (go_at_call 21; refine kd.mono ?_; rintro e w2 ⟨rfl, o2⟩)
          refine ⟨⟨j + 1, delL L (c, m), by omega, by simp, o2.toExt, ⟨o2, Nat.le_trans (delL_len L (c, m)) HK.out.2.1, HK.out.2.2.del hz⟩⟩, ?_⟩
          simp only [intOf]; omega
        · obtain rfl : j = k := by omega
          have hL := HK.out.2.2.none
          have kb := blocks_own HK.out.1
          have kl := len_own HK.out.1
          rw [hL] at kb kl
          rw [show ownN (keysL []) = 0 from rfl] at kb
          rw [show ([] : Row).length = 0 from rfl] at kl
          go_wp2_with (first
            | (go_at_call 13; refine kb.mono ?_; rintro e w2 ⟨rfl, rfl⟩)
            | (go_at_call 15; refine kl.mono ?_; rintro e w3 ⟨rfl, rfl⟩)
            | (go_at_call 16; refine (kn _).mono ?_; rintro e w6 ⟨rfl, hx6⟩))
          go_ret
          exact ⟨rfl, hx.trans hx6⟩

theorem contract (H : Type) (enc : TypeId × Value → H) (W : World) (base : Nat) (args : Array Value) (ds gs : List (DataW H)) (before : List MemPlace)
    (hval : ∀ (j : Nat) t v, Try.f5.params[j]? = some t → args[j]? = some v → Value.okWide Try.prog W .any base t v)
    (hW : DataW.Whole enc Try.prog Try.f5.params.toList Rows.dirFullSpec.vars false W args.toList ds gs before) (hsh : W.ShapedOpen Try.prog) :
    Calls Try.prog 5 args W fun e W' => ∃ v, e = .returned v ∧ Rows.dirFullSpec.post enc Try.prog Try.f5 false true false false W args v W' := by
  have hW' := hW
  obtain ⟨p, q, hA0, hV, rfl, hfz, hnd⟩ := hW
  have hA : DataW.TrodAll enc Try.prog W 0 (fun _ => true) true Try.f5.params.toList args.toList ds p := hA0
  rw [Try.params5] at hA hval
  obtain ⟨v0, vs0, d0, ds0, p0, q0, hargs, rfl, rfl, h0, r0⟩ := trodAll_cons hA
  obtain ⟨v1, vs1, d1, ds1, p1, q1, rfl, rfl, rfl, h1, r1⟩ := trodAll_cons r0
  obtain ⟨rfl, rfl, rfl⟩ := trodAll_nil r1
  obtain rfl : args = #[v0, v1] := by cases args; simp_all
  obtain ⟨rfl, rfl⟩ := trodVars_none hV
  obtain ⟨a0, rfl, rfl, rfl, w0⟩ := open_int Try.underlying3 (hval 0 3 v0 rfl rfl) h0
  have k1 := h1
  have lt1 : ∀ x ∈ p1, x.block < W.heap.size := by obtain ⟨m, hm⟩ := k1; exact DataW.trod_lt m _ _ _ hm
  obtain ⟨b1, l1, c1, rfl⟩ := okWide_slice Try.underlying22 (hval 1 22 v1 rfl rfl)
  obtain ⟨fu1, hf1⟩ := h1
  obtain ⟨a1, len1, cap1, zs1, ce1, row1⟩ := open_rowG 4 cells32 ok32 (by omega) cells32_length Try.underlying22 (by kernel_rfl) elem32 hf1
  obtain ⟨rfl, rfl, rfl⟩ : a1 = b1 ∧ len1 = l1 ∧ cap1 = c1 := by simpa [Value.cells, eq_comm] using ce1
  clear hA0
  refine (walk a0 a1 len1 cap1 zs1 W w0 row1 hsh).mono fun e W' ⟨he, bel⟩ => ?_
  subst he
  exact ⟨_, rfl, _, _, _, [], _, [], hW', trodAll_mk1 (shut_bool Try.underlying4 _), (trodAll_cons_mk (shut_int Try.underlying3 w0) (trodAll_cons_mk (Below.trod laidOut (by kernel_rfl) (of_decide_eq_true (by kernel_rfl)) k1 bel lt1) trodAll_mk0)), rfl, bel.frame _, fun h => by cases h⟩

theorem laid_met (os : Os) : laidMet Try.prog Rows.dirFullRow.laid ((World.doorLaid Try.prog 24 os).forCall (fun _ _ => 0) ⟨#[], #[.int .i64 0, .slice none 0 0], []⟩).memory :=
  laidMet_of_run' 8 (by kernel_rfl) (by kernel_rfl)
theorem reads (os : Os) {H : Type} (enc : TypeId × Value → H) : ∃ places, DataW.whole enc Try.prog ((World.doorLaid Try.prog 24 os).forCall (fun _ _ => 0) ⟨#[], #[.int .i64 0, .slice none 0 0], []⟩).memory Try.f5.params.toList Rows.dirFullSpec.vars false (#[.int .i64 0, .slice none 0 0] : Array Value).toList 8 = some ([.lit (.int .i64 0), .nil], [], places) :=
  ⟨[], by kernel_rfl⟩

set_option maxRecDepth 100000 in
theorem lifted (os : Os) (started : os.Started) (H : Type) (enc : TypeId × Value → H) (F : Stop.Interp) :
    ReturnsInHanded {} Try.checked os 5 .any ((OpenSpec.ofChange Rows.dirFullSpec).preRow enc Try.prog Try.f5 Rows.dirFullRow.domain false Rows.dirFullRow.laid) (((OpenSpec.ofChange Rows.dirFullSpec).at F).post enc Try.prog Try.f5 false true false false) := by
  obtain ⟨places, hx⟩ := reads os enc
  refine returnsInHanded_of_row (C := Try.checked) (s := (OpenSpec.ofChange Rows.dirFullSpec)) own started (by kernel_rfl) Try.func5
    (witness_row_at (enc := enc) (C := Try.checked) false (World.doorLaid Try.prog 24 os) #[.int .i64 0, .slice none 0 0] rfl (by kernel_rfl) (by kernel_rfl) (by kernel_rfl)
      (OpenSpec.preRow_of_cond 8 hx (by kernel_rfl) (fun k hk => by cases hk) (by kernel_rfl) (laid_met os))) ?_
  intro W base args ds gs before hval hW _ hcond _ hL hsh _
  exact contract H enc W base args ds gs before hval hW hsh

theorem said : Rows.DirFullSaid :=
  OpenClaim.holds_of_cond 5 Try.f5 rfl rfl rfl rfl rfl rfl rfl ⟨rfl, rfl, rfl, rfl, rfl⟩ rfl rfl rfl rfl rfl (by kernel_rfl) Try.func5 (by kernel_rfl)
    (of_decide_eq_true (by kernel_rfl)) (by unfold Func.isWrapper; first | (rw [if_pos (by decide +kernel)]; kernel_rfl) | (rw [if_neg (by decide +kernel)]; exact ⟨rfl, rfl⟩))
    (fun os started H enc _ F => by rw [OpenClaim.pre_eq_preRow]; exact lifted os started H enc F)

end Go.Proofs.Ytlnmdlachfnmkaa.dirFull

namespace Go.Proofs.Ytlnmdlachfnmkaa
theorem dirFull_holds : Rows.DirFullSaid := dirFull.said
#print axioms dirFull_holds
end Go.Proofs.Ytlnmdlachfnmkaa
