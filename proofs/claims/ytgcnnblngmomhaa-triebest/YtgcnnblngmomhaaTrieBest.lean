/- For every script and every address, the law TrieBest returns true: the longest prefix that is told has the address, is there, and none that is longer has it; of those that cover it is the last one; no condition. -/
import Derived.Test.YtgcnnblngmomhaaRows
import Derived.Test.YtgcnnblngmomhaaLaw9M
import Derived.Test.YtgcnnblngmomhaaTrieC
import Derived.Test.YtgcnnblngmomhaaFrame
import Derived.Test.YtgcnnblngmomhaaRowG
import Derived.WalkKit
import Derived.ProofKit
import Derived.OpenShut
import Derived.ShutString
import Derived.ChangeOld
import Derived.Deep.DeepHandedRow
import Derived.Lib.LaidTab
import Derived.Lib.SmallJoins
import Derived.LaidMore
import Derived.Stop.LaidErr
import Derived.ChangeMaps5
namespace Go.Proofs.Ytgcnnblngmomhaa.trieBest
open Go.ChangeShapes Go.WideShapes Go.ChangeAt Go.RowKit Go.ChangeMaps
set_option linter.unusedVariables false
set_option maxRecDepth 100000

theorem own : ownKnob Try.prog.godebug = none := by kernel_rfl
theorem laidOut : laidOutB Try.prog = true := by kernel_rfl

abbrev Elem34 := Bool × Int × Int × Int
def cells34 (z : Elem34) : List Value := [.bool (z.1), .int .u32 (z.2.1), .int .i64 (z.2.2.1), .int .i64 (z.2.2.2)]
def ok34 (z : Elem34) : Prop := (Lit.int .u32 (z.2.1)).wf = true ∧ (Lit.int .i64 (z.2.2.1)).wf = true ∧ (Lit.int .i64 (z.2.2.2)).wf = true
theorem cells34_length (z : Elem34) : (cells34 z).length = 4 := rfl
theorem elem34 {H : Type} {enc : TypeId × Value → H} {w : World} {base : Nat} {spare : Nat → Bool} {held : Bool} (n : Nat) (cs : List Value) (y : DataW H × List MemPlace)
    (h : DataW.trod enc Try.prog w base spare held n 34 cs = some y) : ∃ z : Elem34, cs = cells34 z ∧ ok34 z := by
  have hl : cs.length = 4 := by
    obtain ⟨_, _, _, _, hl, _⟩ := DataW.trod_struct Try.underlying34 h
    exact hl.trans (by kernel_rfl)
  obtain ⟨u0, u1, u2, u3, rfl⟩ : ∃ u0 u1 u2 u3, cs = [u0, u1, u2, u3] := by
    match cs, hl with
    | [u0, u1, u2, u3], _ => exact ⟨u0, u1, u2, u3, rfl⟩
  obtain ⟨_, _, e1⟩ := field_at Try.underlying34 h 0 rfl 1 (by kernel_rfl)
  obtain ⟨az0, c2, _⟩ := DataW.trod_bool Try.underlying4 e1
  obtain rfl : u0 = .bool az0 := by simpa using c2
  obtain ⟨_, _, e3⟩ := field_at Try.underlying34 h 1 rfl 2 (by kernel_rfl)
  obtain ⟨_, _, e4⟩ := field_at Try.underlying32 e3 0 rfl 1 (by kernel_rfl)
  obtain ⟨az10, c5, _, wz10⟩ := DataW.trod_int Try.underlying30 e4
  obtain rfl : u1 = .int .u32 az10 := by simpa using c5
  obtain ⟨_, _, e6⟩ := field_at Try.underlying32 e3 1 rfl 1 (by kernel_rfl)
  obtain ⟨az11, c7, _, wz11⟩ := DataW.trod_int Try.underlying3 e6
  obtain rfl : u2 = .int .i64 az11 := by simpa using c7
  obtain ⟨_, _, e8⟩ := field_at Try.underlying34 h 2 rfl 1 (by kernel_rfl)
  obtain ⟨az2, c9, _, wz2⟩ := DataW.trod_int Try.underlying3 e8
  obtain rfl : u3 = .int .i64 az2 := by simpa using c9
  exact ⟨(az0, az10, az11, az2), rfl, ⟨wz10, wz11, wz2⟩⟩

open Go.Proofs.Ytgcnnblngmomhaa.Tri

set_option maxHeartbeats 4000000 in
theorem walk (a0 : Option Addr) (len0 cap0 : Nat) (zs0 : List Elem34) (a1 : Int) (w : World) (row0 : IsRowG 4 cells34 ok34 w a0 len0 cap0 zs0) (w1 : (Lit.int .u32 a1).wf = true) (hsh : w.ShapedOpen Try.prog) :
    Calls Try.prog 6 #[.slice a0 len0 cap0, .int .u32 a1] w fun e w' => e = .returned (.bool true) ∧ Below w.heap.size w w' := by
  have hb := bounds_u32 w1
  have row : IsRowG 4 actC actOk w a0 len0 cap0 zs0 := row0
  have k1 := laid_any a0 len0 cap0 zs0 w row
  have kn := fun w => known_any w
  have hv32 := vp32 hb.1 hb.2
  clear row row0 w1
  go_enter Try.func6, Try.ntmps6
  go_wp2_with fail
  go_at_call 21
  refine k1.mono ?_
  rintro e w1 ⟨tb, xb, t, F, G, rfl, hB, hsz, hx1⟩
  have hT := hB.trie
  have hwf := hT.wf
  have hsr := srt_toL hwf
  have hvv : ∀ x ∈ toL t, Vp x.1 := fun x hx => hwf.vp hx
  have hll := toL_len t
  have hcl := covL_len (toL t) (a1, 32)
  have kA := fun W (h : Ext w1 W) => tLongest (hT.ext h) a1 hb.1 hb.2
  have kW := fun W (h : Ext w1 W) => tWalk (hT.ext h) (by omega)
  have kC := fun W (h : Ext w1 W) => tCovers (hT.ext h) (by omega) a1 32 hb.1 hb.2
  have hcm : ∀ x ∈ toL t, hasV x.1.1 x.1.2 a1 = true → x ∈ covL (toL t) (a1, 32) := fun x hx hh => covL_mem.2 ⟨hv32.is, hx, by rw [has_cov]; exact hh⟩
  have HT : Hid (TrieAt w1 tb t F) := hT
  have HV : Hid (Srt (toL t) ∧ ∀ x ∈ toL t, Vp x.1) := ⟨hsr, hvv⟩
  have HCM : Hid (∀ x ∈ toL t, hasV x.1.1 x.1.2 a1 = true → x ∈ covL (toL t) (a1, 32)) := hcm
  clear hB k1 hcm
  cases ho : lastF none (covL (toL t) (a1, 32)) with
  | none =>
    have hC : covL (toL t) (a1, 32) = [] := lastF_none ho
    rw [ho] at kA
    rw [hC] at kC
    simp only [ansO] at kA
    have HN : Hid (∀ x ∈ toL t, hasV x.1.1 x.1.2 a1 = false) := fun x hx => by
      cases h : hasV x.1.1 x.1.2 a1 with
      | false => rfl
      | true => have := HCM.out x hx h; rw [hC] at this; simp at this
    clear hC ho HCM hsr hvv hwf hT
    have hrr := Ext.refl w1
    go_wp2_with (first
      | (go_at_call 22; refine (kA _ hrr).mono ?_; rintro e w2 ⟨rfl, hx2⟩; have HG : Hid _ := heap_new w2 (.cells #[.int .u32 0, .int .i64 0] 32); have hx12 : Ext w1 (w2.alloc (.cells #[.int .u32 0, .int .i64 0] 32)) := hx2.alloc _)
      | (go_at_call 27; refine (kW _ hx12).mono ?_; rintro e w3 ⟨v, rfl, hov, hx3⟩; obtain ⟨av, cv, rfl, -, -, -⟩ := owns_slice hov; simp only [List.length_map] at hov ⊢))
    have hx13 := hx12.trans hx3
    have HO : Hid (OwnP w3 (w2.alloc (.cells #[.int .u32 0, .int .i64 0] 32)).heap.size (.slice av (toL t).length cv) ((toL t).map (·.1))) := hov
    clear hov kA kW
    go_loopw [11] (fun i wr => ∃ k : Nat, k ≤ (toL t).length ∧ i = .int .i64 (k : Int) ∧ Ext w3 wr) (fun i _ => (toL t).length - (intOf i).toNat)
    case atStart => exact ⟨0, Nat.zero_le _, rfl, Ext.refl _⟩
    case round =>
      obtain ⟨k, hk, rfl, hx⟩ := hrel
      by_cases hlt : k < (toL t).length
      · obtain ⟨⟨⟨pa, pn⟩, u⟩, hxk⟩ : ∃ x, (toL t)[k]? = some x := ⟨_, List.getElem?_eq_getElem hlt⟩
        have hxL := List.mem_of_getElem? hxk
        have hbx := (HV.out.2 _ hxL).bd
        simp only at hbx
        obtain ⟨g, c', hs, g0, g1⟩ := OwnP.cell HO.out (i := k) (p := (pa, pn)) (by simp [hxk])
        simp only [List.length_map] at hs
        cases hs
        simp only at g0 g1
        have kH := fun w => refHas_any pa pn a1 w hbx.1 hbx.2.1 hb.1 hb.2
        have hno := HN.out _ hxL
        simp only at hno
        rw [hno] at kH
        have hki : (k : Int) < ((toL t).length : Int) := by omega
        have cc : ∀ (b j : Nat) (v : Value), w3.cell? ⟨b, j, none⟩ = some v → ∀ W, Ext w3 W → W.cell? ⟨b, j, none⟩ = some v := fun b j v hv W h => by rw [h.below.cell (p := ⟨b, j, none⟩) (block_lt hv)]; exact hv
        have y0 := cc _ _ _ g0
        have y1 := cc _ _ _ g1
        clear g0 g1 cc hno hxL hxk
        go_wp2_with fail
        refine wp_region_eager [(0, false), (1, false), (2, false), (3, false), (4, false), (5, true), (6, false), (7, false), (8, false), (9, false), (10, false), (11, false), (12, false), (13, false), (14, false), (15, false), (16, false), (17, false), (18, false), (19, false)] (by kernel_rfl) (by kernel_rfl) rfl (by kernel_rfl) (fun _ _ _ _ _ h => h) ?_
        have hxd : Ext w3 wr.drew := hx.drew
        replace y0 := fun w' h => y0 w' (hxd.trans h); replace y1 := fun w' h => y1 w' (hxd.trans h)
        generalize wr.drew = W at *
        iterate 5 (refine wpE_read (v := ?_) rfl (by rfl) ?_ ?_; rotate_left; (focus (intro w' hx; go_simp; first | done | with_reducible rfl)); simp only [Act.put, List.setIfInBounds_toArray, List.set_cons_zero, List.set_cons_succ])
        (refine wpE_call rfl (by rfl) (fun K hK => ?_); go_simp; first
          | (go_at_call 29; refine (kH _).mono ?_; rintro e w5 ⟨rfl, hx5⟩; refine hK _ _ hx5 ?_; clear hK K))
        iterate 1 (refine wpE_read (v := ?_) rfl (by rfl) ?_ ?_; rotate_left; (focus (intro w' hx; go_simp; first | done | with_reducible rfl)); simp only [Act.put, List.setIfInBounds_toArray, List.set_cons_zero, List.set_cons_succ])
        iterate 12 (rw [wpE_skip_eq _ rfl (by rfl)]; simp only [Act.put, List.setIfInBounds_toArray, List.set_cons_zero, List.set_cons_succ])
        iterate 1 (refine wpE_read (v := ?_) rfl (by rfl) ?_ ?_; rotate_left; (focus (intro w' hx; go_simp; first | done | with_reducible rfl)); simp only [Act.put, List.setIfInBounds_toArray, List.set_cons_zero, List.set_cons_succ])
        refine wpE_done ?_
        go_wp2_with fail
        go_roundw
        case rel => exact ⟨k + 1, by omega, by go_num, hxd.trans hx5⟩
        case measure => simp [intOf]; omega
      · obtain rfl : k = (toL t).length := by omega
        go_wp2_with (first
          | (go_at_call 25; refine (kC _ (hx13.trans hx)).mono ?_; rintro e w4 ⟨v4, rfl, ho4, hx4⟩; obtain ⟨a4, c4, rfl, -, -, -⟩ := owns_slice ho4; simp only [List.map_nil, List.length_nil] at ho4 ⊢)
          | (go_at_call 20; refine (kn _).mono ?_; rintro e w5 ⟨rfl, hx5⟩))
        go_ret
        exact ⟨rfl, (((hx1.trans hx13).trans hx).trans hx4).trans hx5⟩
  | some x =>
    obtain ⟨⟨ba, bn⟩, bu⟩ := x
    rw [ho] at kA
    simp only [ansO] at kA
    have hxC : ((ba, bn), bu) ∈ covL (toL t) (a1, 32) := by
      rcases lastF_mem ho with h | h
      · exact h
      · cases h
    obtain ⟨_, hxL, hxc⟩ := covL_mem.1 hxC
    have hbb := (hvv _ hxL).bd
    simp only at hbb
    have hxh : hasV ba bn a1 = true := by rw [has_cov] at hxc; exact hxc
    have hg : getL (toL t) (ba, bn) = (bu, true) := getL_mem hsr hxL
    have kG := fun W (h : Ext w1 W) => tGet (hT.ext h) ba bn hbb.1 hbb.2.1
    rw [hg] at kG
    have kHb := fun w => refHas_any ba bn a1 w hbb.1 hbb.2.1 hb.1 hb.2
    rw [hxh] at kHb
    have HN : Hid (∀ y ∈ toL t, hasV y.1.1 y.1.2 a1 = true → y.1.2 ≤ bn) := fun y hy hh => covL_last hsr hvv hv32 ho (HCM.out y hy hh)
    obtain ⟨A, hA⟩ := lastF_split ho (fun e => by rw [e] at hxC; simp at hxC)
    have HA : Hid ((covL (toL t) (a1, 32)).length = A.length + 1 ∧ (covL (toL t) (a1, 32))[A.length]? = some ((ba, bn), bu)) := by
      rw [hA]; exact ⟨by simp, by simp⟩
    generalize covL (toL t) (a1, 32) = C at *
    clear hxC hxc hxL ho HCM hg hxh hA hsr hvv hwf hT
    have hrr := Ext.refl w1
    go_wp2_with (first
      | (go_at_call 22; refine (kA _ hrr).mono ?_; rintro e w2 ⟨rfl, hx2⟩; have HG : Hid _ := heap_new w2 (.cells #[.int .u32 ba, .int .i64 bn] 32); have hx12 : Ext w1 (w2.alloc (.cells #[.int .u32 ba, .int .i64 bn] 32)) := hx2.alloc _)
      | (go_at_call 27; refine (kW _ hx12).mono ?_; rintro e w3 ⟨v, rfl, hov, hx3⟩; obtain ⟨av, cv, rfl, -, -, -⟩ := owns_slice hov; simp only [List.length_map] at hov ⊢))
    have hx13 := hx12.trans hx3
    have HO : Hid (OwnP w3 (w2.alloc (.cells #[.int .u32 ba, .int .i64 bn] 32)).heap.size (.slice av (toL t).length cv) ((toL t).map (·.1))) := hov
    have cc : ∀ (b j : Nat) (v : Value), w3.cell? ⟨b, j, none⟩ = some v → ∀ W, Ext w3 W → W.cell? ⟨b, j, none⟩ = some v := fun b j v hv W h => by rw [h.below.cell (p := ⟨b, j, none⟩) (block_lt hv)]; exact hv
    have p0 : ∀ W, Ext w3 W → W.cell? ⟨w2.heap.size, 0, none⟩ = some (.int .u32 ba) := cc _ _ _ (by rw [heap_cell (hx3.heap HG.out)]; rfl)
    have p1 : ∀ W, Ext w3 W → W.cell? ⟨w2.heap.size, 1, none⟩ = some (.int .i64 bn) := cc _ _ _ (by rw [heap_cell (hx3.heap HG.out)]; rfl)
    clear hov kA kW
    go_loopw [11] (fun i wr => ∃ k : Nat, k ≤ (toL t).length ∧ i = .int .i64 (k : Int) ∧ Ext w3 wr) (fun i _ => (toL t).length - (intOf i).toNat)
    case atStart => exact ⟨0, Nat.zero_le _, rfl, Ext.refl _⟩
    case round =>
      obtain ⟨k, hk, rfl, hx⟩ := hrel
      by_cases hlt : k < (toL t).length
      · obtain ⟨⟨⟨pa, pn⟩, u⟩, hxk⟩ : ∃ x, (toL t)[k]? = some x := ⟨_, List.getElem?_eq_getElem hlt⟩
        have hxL := List.mem_of_getElem? hxk
        have hbx := (HV.out.2 _ hxL).bd
        simp only at hbx
        obtain ⟨g, c', hs, g0, g1⟩ := OwnP.cell HO.out (i := k) (p := (pa, pn)) (by simp [hxk])
        simp only [List.length_map] at hs
        cases hs
        simp only at g0 g1
        have kH := fun w => refHas_any pa pn a1 w hbx.1 hbx.2.1 hb.1 hb.2
        have hle := HN.out _ hxL
        simp only at hle
        have hki : (k : Int) < ((toL t).length : Int) := by omega
        have y0 := cc _ _ _ g0
        have y1 := cc _ _ _ g1
        clear g0 g1 cc hxL hxk kG kHb
        cases hh : hasV pa pn a1 with
        | false =>
          rw [hh] at kH
          clear hh hle
          go_wp2_with fail
          refine wp_region_eager [(0, false), (1, false), (2, false), (3, false), (4, false), (5, true), (6, false), (7, false), (8, false), (9, false), (10, false), (11, false), (12, false), (13, false), (14, false), (15, false), (16, false), (17, false), (18, false), (19, false)] (by kernel_rfl) (by kernel_rfl) rfl (by kernel_rfl) (fun _ _ _ _ _ h => h) ?_
          have hxd : Ext w3 wr.drew := hx.drew
          replace y0 := fun w' h => y0 w' (hxd.trans h); replace y1 := fun w' h => y1 w' (hxd.trans h)
          generalize wr.drew = W at *
          iterate 5 (refine wpE_read (v := ?_) rfl (by rfl) ?_ ?_; rotate_left; (focus (intro w' hx; go_simp; first | done | with_reducible rfl)); simp only [Act.put, List.setIfInBounds_toArray, List.set_cons_zero, List.set_cons_succ])
          (refine wpE_call rfl (by rfl) (fun K hK => ?_); go_simp; first
            | (go_at_call 29; refine (kH _).mono ?_; rintro e w5 ⟨rfl, hx5⟩; refine hK _ _ hx5 ?_; clear hK K))
          iterate 1 (refine wpE_read (v := ?_) rfl (by rfl) ?_ ?_; rotate_left; (focus (intro w' hx; go_simp; first | done | with_reducible rfl)); simp only [Act.put, List.setIfInBounds_toArray, List.set_cons_zero, List.set_cons_succ])
          iterate 12 (rw [wpE_skip_eq _ rfl (by rfl)]; simp only [Act.put, List.setIfInBounds_toArray, List.set_cons_zero, List.set_cons_succ])
          iterate 1 (refine wpE_read (v := ?_) rfl (by rfl) ?_ ?_; rotate_left; (focus (intro w' hx; go_simp; first | done | with_reducible rfl)); simp only [Act.put, List.setIfInBounds_toArray, List.set_cons_zero, List.set_cons_succ])
          refine wpE_done ?_
          go_wp2_with fail
          go_roundw
          case rel => exact ⟨k + 1, by omega, by go_num, hxd.trans hx5⟩
          case measure => simp [intOf]; omega
        | true =>
          rw [hh] at kH
          have hnl : decide (bn < pn) = false := by have := hle hh; rw [decide_eq_false_iff_not]; omega
          clear hh hle
          go_wp2_with fail
          refine wp_region_eager [(0, false), (1, false), (2, false), (3, false), (4, false), (5, true), (6, false), (7, false), (8, false), (9, false), (10, false), (11, false), (12, false), (13, false), (14, false), (15, false), (16, false), (17, false), (18, false), (19, false)] (by kernel_rfl) (by kernel_rfl) rfl (by kernel_rfl) (fun _ _ _ _ _ h => h) ?_
          have hxd : Ext w3 wr.drew := hx.drew
          replace y0 := fun w' h => y0 w' (hxd.trans h); replace y1 := fun w' h => y1 w' (hxd.trans h); replace p0 := fun w' h => p0 w' (hxd.trans h); replace p1 := fun w' h => p1 w' (hxd.trans h)
          generalize wr.drew = W at *
          iterate 5 (refine wpE_read (v := ?_) rfl (by rfl) ?_ ?_; rotate_left; (focus (intro w' hx; go_simp; first | done | with_reducible rfl)); simp only [Act.put, List.setIfInBounds_toArray, List.set_cons_zero, List.set_cons_succ])
          (refine wpE_call rfl (by rfl) (fun K hK => ?_); go_simp; first
            | (go_at_call 29; refine (kH _).mono ?_; rintro e w5 ⟨rfl, hx5⟩; refine hK _ _ hx5 ?_; clear hK K))
          replace y0 := fun w' h => y0 w' (hx5.trans h); replace y1 := fun w' h => y1 w' (hx5.trans h); replace p0 := fun w' h => p0 w' (hx5.trans h); replace p1 := fun w' h => p1 w' (hx5.trans h)
          iterate 14 (refine wpE_read (v := ?_) rfl (by rfl) ?_ ?_; rotate_left; (focus (intro w' hx; go_simp; first | done | with_reducible rfl)); simp only [Act.put, List.setIfInBounds_toArray, List.set_cons_zero, List.set_cons_succ])
          refine wpE_done ?_
          go_wp2_with fail
          go_roundw
          case rel => exact ⟨k + 1, by omega, by go_num, hxd.trans hx5⟩
          case measure => simp [intOf]; omega
      · obtain rfl : k = (toL t).length := by omega
        clear cc
        have hx1r := hx13.trans hx
        go_wp2_with (first
          | (go_at_call 25; refine (kC _ hx1r).mono ?_; rintro e w4 ⟨v4, rfl, ho4, hx4⟩; obtain ⟨a4, c4, rfl, -, -, -⟩ := owns_slice ho4; simp only [List.length_map] at ho4 ⊢; have q0 := p0 w4 (hx.trans hx4); have q1 := p1 w4 (hx.trans hx4); obtain ⟨g4, c5, hs4, z0, z1⟩ := OwnP.cell ho4 (i := A.length) (p := (ba, bn)) (by simp [HA.out.2]); simp only [List.length_map] at hs4; cases hs4; simp only at z0 z1)
          | (go_at_call 17; refine (kG _ (hx1r.trans hx4)).mono ?_; rintro e w5 ⟨rfl, hx5⟩))
        refine wp_region_eager [(0, false), (1, false), (2, false), (3, false), (4, false), (5, false), (6, false), (7, false), (8, false), (9, true), (10, false), (11, false), (12, false), (13, false), (14, false), (15, false), (16, false), (17, false), (18, false), (19, false), (20, false), (21, false), (22, false), (23, false), (24, false), (25, false), (26, false), (27, true), (28, false), (29, false)] (by kernel_rfl) (by kernel_rfl) rfl (by kernel_rfl) (fun _ _ _ _ _ h => h) ?_
        have hx45 : Ext w4 w5.drew := hx5.drew
        have hxd : Ext w3 w5.drew := (hx.trans hx4).trans hx45
        replace p0 := fun w' h => p0 w' (hxd.trans h); replace p1 := fun w' h => p1 w' (hxd.trans h)
        have cc : ∀ (b j : Nat) (v : Value), w4.cell? ⟨b, j, none⟩ = some v → ∀ W, Ext w5.drew W → W.cell? ⟨b, j, none⟩ = some v := fun b j v hv W h => by rw [(hx45.trans h).below.cell (p := ⟨b, j, none⟩) (block_lt hv)]; exact hv
        have s0 := cc _ _ _ z0
        have s1 := cc _ _ _ z1
        have hl4 := HA.out.1
        have w64 : IntKind.i64.wrap ((C.length : Int) - 1) = (A.length : Int) := by rw [show (C.length : Int) - 1 = (A.length : Int) by omega]; exact wraps_i64 _ (by omega) (by omega)
        have hal : (A.length : Int) < (C.length : Int) := by omega
        have hgt : (0 : Int) < (C.length : Int) := by omega
        have hgn : 0 < C.length := by omega
        clear hl4
        have eq := fun w => eql_prefix ba bn ba bn w
        simp only [beq_self_eq_true, Bool.and_self] at eq
        have eg := eq_guard
        clear cc z0 z1 q0 q1
        generalize w5.drew = W at *
        iterate 9 (refine wpE_read (v := ?_) rfl (by rfl) ?_ ?_; rotate_left; (focus (intro w' hx; go_simp; first | done | with_reducible rfl)); simp only [Act.put, List.setIfInBounds_toArray, List.set_cons_zero, List.set_cons_succ])
        (refine wpE_call rfl (by rfl) (fun K hK => ?_); go_simp; first
          | (go_at_call 29; refine (kHb _).mono ?_; rintro e w6 ⟨rfl, hx6⟩; refine hK _ _ hx6 ?_; clear hK K))
        replace p0 := fun w' h => p0 w' (hx6.trans h); replace p1 := fun w' h => p1 w' (hx6.trans h); replace s0 := fun w' h => s0 w' (hx6.trans h); replace s1 := fun w' h => s1 w' (hx6.trans h)
        iterate 17 (refine wpE_read (v := ?_) rfl (by rfl) ?_ ?_; rotate_left; (focus (intro w' hx; go_simp; first | done | with_reducible rfl)); simp only [Act.put, List.setIfInBounds_toArray, List.set_cons_zero, List.set_cons_succ])
        (refine wpE_call rfl (by rfl) (fun K hK => ?_); go_simp; first
          | (go_at_call 20; refine (kn _).mono ?_; rintro e w7 ⟨rfl, hx7⟩; refine hK _ _ hx7 ?_; clear hK K))
        iterate 2 (refine wpE_read (v := ?_) rfl (by rfl) ?_ ?_; rotate_left; (focus (intro w' hx; go_simp; first | done | with_reducible rfl)); simp only [Act.put, List.setIfInBounds_toArray, List.set_cons_zero, List.set_cons_succ])
        refine wpE_done ?_
        go_wp2_with fail
        go_ret
        exact ⟨rfl, (((hx1.trans hx13).trans hxd).trans hx6).trans hx7⟩

theorem contract (H : Type) (enc : TypeId × Value → H) (W : World) (base : Nat) (args : Array Value) (ds gs : List (DataW H)) (before : List MemPlace)
    (hval : ∀ (j : Nat) t v, Try.f6.params[j]? = some t → args[j]? = some v → Value.okWide Try.prog W .any base t v)
    (hW : DataW.Whole enc Try.prog Try.f6.params.toList Rows.trieBestSpec.vars false W args.toList ds gs before) (hsh : W.ShapedOpen Try.prog) :
    Calls Try.prog 6 args W fun e W' => ∃ v, e = .returned v ∧ Rows.trieBestSpec.post enc Try.prog Try.f6 false true false false W args v W' := by
  have hW' := hW
  obtain ⟨p, q, hA0, hV, rfl, hfz, hnd⟩ := hW
  have hA : DataW.TrodAll enc Try.prog W 0 (fun _ => true) true Try.f6.params.toList args.toList ds p := hA0
  rw [Try.params6] at hA hval
  obtain ⟨v0, vs0, d0, ds0, p0, q0, hargs, rfl, rfl, h0, r0⟩ := trodAll_cons hA
  obtain ⟨v1, vs1, d1, ds1, p1, q1, rfl, rfl, rfl, h1, r1⟩ := trodAll_cons r0
  obtain ⟨rfl, rfl, rfl⟩ := trodAll_nil r1
  obtain rfl : args = #[v0, v1] := by cases args; simp_all
  obtain ⟨rfl, rfl⟩ := trodVars_none hV
  have k0 := h0
  have lt0 : ∀ x ∈ p0, x.block < W.heap.size := by obtain ⟨m, hm⟩ := k0; exact DataW.trod_lt m _ _ _ hm
  obtain ⟨b0, l0, c0, rfl⟩ := okWide_slice Try.underlying22 (hval 0 22 v0 rfl rfl)
  obtain ⟨fu0, hf0⟩ := h0
  obtain ⟨a0, len0, cap0, zs0, ce0, row0⟩ := open_rowG 4 cells34 ok34 (by omega) cells34_length Try.underlying22 (by kernel_rfl) elem34 hf0
  obtain ⟨rfl, rfl, rfl⟩ : a0 = b0 ∧ len0 = l0 ∧ cap0 = c0 := by simpa [Value.cells, eq_comm] using ce0
  obtain ⟨a1, rfl, rfl, rfl, w1⟩ := open_int Try.underlying30 (hval 1 30 v1 rfl rfl) h1
  clear hA0
  refine (walk a0 len0 cap0 zs0 a1 W row0 w1 hsh).mono fun e W' ⟨he, bel⟩ => ?_
  subst he
  exact ⟨_, rfl, _, _, _, [], _, [], hW', trodAll_mk1 (shut_bool Try.underlying4 _), (trodAll_cons_mk (Below.trod laidOut (by kernel_rfl) (of_decide_eq_true (by kernel_rfl)) k0 bel lt0) (trodAll_cons_mk (shut_int Try.underlying30 w1) trodAll_mk0)), rfl, bel.frame _, fun h => by cases h⟩

theorem laid_met (os : Os) : laidMet Try.prog Rows.trieBestRow.laid ((World.doorLaid Try.prog 24 os).forCall (fun _ _ => 0) ⟨#[], #[.slice none 0 0, .int .u32 0], []⟩).memory :=
  laidMet_of_run' 8 (by kernel_rfl) (by kernel_rfl)
theorem reads (os : Os) {H : Type} (enc : TypeId × Value → H) : ∃ places, DataW.whole enc Try.prog ((World.doorLaid Try.prog 24 os).forCall (fun _ _ => 0) ⟨#[], #[.slice none 0 0, .int .u32 0], []⟩).memory Try.f6.params.toList Rows.trieBestSpec.vars false (#[.slice none 0 0, .int .u32 0] : Array Value).toList 8 = some ([.nil, .lit (.int .u32 0)], [], places) :=
  ⟨[], by kernel_rfl⟩

set_option maxRecDepth 100000 in
theorem lifted (os : Os) (started : os.Started) (H : Type) (enc : TypeId × Value → H) (F : Stop.Interp) :
    ReturnsInHanded {} Try.checked os 6 .any ((OpenSpec.ofChange Rows.trieBestSpec).preRow enc Try.prog Try.f6 Rows.trieBestRow.domain false Rows.trieBestRow.laid) (((OpenSpec.ofChange Rows.trieBestSpec).at F).post enc Try.prog Try.f6 false true false false) := by
  obtain ⟨places, hx⟩ := reads os enc
  refine returnsInHanded_of_row (C := Try.checked) (s := (OpenSpec.ofChange Rows.trieBestSpec)) own started (by kernel_rfl) Try.func6
    (witness_row_at (enc := enc) (C := Try.checked) false (World.doorLaid Try.prog 24 os) #[.slice none 0 0, .int .u32 0] rfl (by kernel_rfl) (by kernel_rfl) (by kernel_rfl)
      (OpenSpec.preRow_of_cond 8 hx (by kernel_rfl) (fun k hk => by cases hk) (by kernel_rfl) (laid_met os))) ?_
  intro W base args ds gs before hval hW _ hcond _ hL hsh _
  exact contract H enc W base args ds gs before hval hW hsh

theorem said : Rows.TrieBestSaid :=
  OpenClaim.holds_of_cond 6 Try.f6 rfl rfl rfl rfl rfl rfl rfl ⟨rfl, rfl, rfl, rfl, rfl⟩ rfl rfl rfl rfl rfl (by kernel_rfl) Try.func6 (by kernel_rfl)
    (of_decide_eq_true (by kernel_rfl)) (by unfold Func.isWrapper; first | (rw [if_pos (by decide +kernel)]; kernel_rfl) | (rw [if_neg (by decide +kernel)]; exact ⟨rfl, rfl⟩))
    (fun os started H enc _ F => by rw [OpenClaim.pre_eq_preRow]; exact lifted os started H enc F)

end Go.Proofs.Ytgcnnblngmomhaa.trieBest

namespace Go.Proofs.Ytgcnnblngmomhaa
theorem trieBest_holds : Rows.TrieBestSaid := trieBest.said
#print axioms trieBest_holds
end Go.Proofs.Ytgcnnblngmomhaa
