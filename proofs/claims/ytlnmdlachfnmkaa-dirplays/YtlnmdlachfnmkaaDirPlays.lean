/- For every bound and every script, the law DirPlays returns true: each answer, how many blocks are owned and how many prefixes there are, as the document says; no condition. -/
import Derived.Test.YtlnmdlachfnmkaaRows
import Derived.Test.YtlnmdlachfnmkaaLaw10R
import Derived.Test.YtlnmdlachfnmkaaFrame
import Derived.Test.YtlnmdlachfnmkaaRowG
import Derived.WalkKit
import Derived.ProofKit
import Derived.OpenShut
import Derived.ShutString
import Derived.ChangeOld
import Derived.Deep.DeepHandedRow
import Derived.Lib.LaidTab
import Derived.Lib.SmallJoins
import Derived.LaidMore
import Derived.Stop.LaidErr
import Derived.ChangeMaps5
namespace Go.Proofs.Ytlnmdlachfnmkaa.dirPlays
open Go.ChangeShapes Go.WideShapes Go.ChangeAt Go.RowKit Go.ChangeMaps
set_option linter.unusedVariables false
set_option maxRecDepth 100000

theorem own : ownKnob Try.prog.godebug = none := by kernel_rfl
theorem laidOut : laidOutB Try.prog = true := by kernel_rfl

abbrev Elem32 := Bool × Int × Int × Int
def cells32 (z : Elem32) : List Value := [.bool (z.1), .int .u32 (z.2.1), .int .i64 (z.2.2.1), .int .i64 (z.2.2.2)]
def ok32 (z : Elem32) : Prop := (Lit.int .u32 (z.2.1)).wf = true ∧ (Lit.int .i64 (z.2.2.1)).wf = true ∧ (Lit.int .i64 (z.2.2.2)).wf = true
theorem cells32_length (z : Elem32) : (cells32 z).length = 4 := rfl
theorem elem32 {H : Type} {enc : TypeId × Value → H} {w : World} {base : Nat} {spare : Nat → Bool} {held : Bool} (n : Nat) (cs : List Value) (y : DataW H × List MemPlace)
    (h : DataW.trod enc Try.prog w base spare held n 32 cs = some y) : ∃ z : Elem32, cs = cells32 z ∧ ok32 z := by
  have hl : cs.length = 4 := by
    obtain ⟨_, _, _, _, hl, _⟩ := DataW.trod_struct Try.underlying32 h
    exact hl.trans (by kernel_rfl)
  obtain ⟨u0, u1, u2, u3, rfl⟩ : ∃ u0 u1 u2 u3, cs = [u0, u1, u2, u3] := by
    match cs, hl with
    | [u0, u1, u2, u3], _ => exact ⟨u0, u1, u2, u3, rfl⟩
  obtain ⟨_, _, e1⟩ := field_at Try.underlying32 h 0 rfl 1 (by kernel_rfl)
  obtain ⟨az0, c2, _⟩ := DataW.trod_bool Try.underlying4 e1
  obtain rfl : u0 = .bool az0 := by simpa using c2
  obtain ⟨_, _, e3⟩ := field_at Try.underlying32 h 1 rfl 2 (by kernel_rfl)
  obtain ⟨_, _, e4⟩ := field_at Try.underlying30 e3 0 rfl 1 (by kernel_rfl)
  obtain ⟨az10, c5, _, wz10⟩ := DataW.trod_int Try.underlying28 e4
  obtain rfl : u1 = .int .u32 az10 := by simpa using c5
  obtain ⟨_, _, e6⟩ := field_at Try.underlying30 e3 1 rfl 1 (by kernel_rfl)
  obtain ⟨az11, c7, _, wz11⟩ := DataW.trod_int Try.underlying3 e6
  obtain rfl : u2 = .int .i64 az11 := by simpa using c7
  obtain ⟨_, _, e8⟩ := field_at Try.underlying32 h 2 rfl 1 (by kernel_rfl)
  obtain ⟨az2, c9, _, wz2⟩ := DataW.trod_int Try.underlying3 e8
  obtain rfl : u3 = .int .i64 az2 := by simpa using c9
  exact ⟨(az0, az10, az11, az2), rfl, ⟨wz10, wz11, wz2⟩⟩

open Go.Proofs.Ytlnmdlachfnmkaa.Tri Go.Proofs.Ytlnmdlachfnmkaa.Dr

set_option maxHeartbeats 4000000 in
theorem walk (a0 : Int) (a1 : Option Addr) (len1 cap1 : Nat) (zs1 : List Elem32) (w : World) (w0 : (Lit.int .i64 a0).wf = true) (row1 : IsRowG 4 cells32 ok32 w a1 len1 cap1 zs1) (hsh : w.ShapedOpen Try.prog) :
    Calls Try.prog 3 #[.int .i64 a0, .slice a1 len1 cap1] w fun e w' => e = .returned (.bool true) ∧ Below w.heap.size w w' := by
  have row : IsRowG 4 actC actOk w a1 len1 cap1 zs1 := row1
  have kn := fun w => known_any w
  have hm := row.le
  have hm2 := row.room
  unfold maxLen at hm2
  have HR : Hid (IsRowG 4 actC actOk w a1 len1 cap1 zs1) := row
  clear row row1
  go_enter Try.func3, Try.ntmps3
  go_wp2_with (first
    | (go_at_call 10; refine (new_at a0 _).mono ?_; rintro e w1 ⟨rfl, hx1, d1⟩)
    | (go_at_call 11; refine (newR_any a0 _).mono ?_; rintro e w2 ⟨rfl, hx2, d2⟩))
  have l1 := d1.lt w.heap.size (by simp)
  have hB0 : Both10 w w2 w.heap.size w1.heap.size (maxV a0) [] := by
    refine ⟨_, _, d1.ext hx2, d2, ?_, by simp, by simp; exact hx1.size, hx1.trans hx2⟩
    simp; omega
  generalize w1.heap.size = xb at *
  generalize maxV a0 = mst at *
  clear hx1 hx2 d1 d2 l1
  go_loopw [7] (fun i wr => ∃ (k : Nat) (L : Row), k ≤ 60 ∧ k ≤ len1 ∧ i = .int .i64 k ∧ Ext w wr ∧ Hid (Both10 w wr w.heap.size xb mst L ∧ L.length ≤ k)) (fun i _ => 60 - (intOf i).toNat)
  case atStart => exact ⟨0, [], Nat.zero_le _, Nat.zero_le _, rfl, hB0.toExt, ⟨hB0, Nat.le_refl _⟩⟩
  case round =>
    clear hB0
    obtain ⟨k, L, hk, hkl, rfl, hx, HK⟩ := hrel
    by_cases hlt : k < len1
    · by_cases h60 : k < 60
      · obtain ⟨b, off, d, c, m, v, rfl, hz, c0, c1, hbl, g0, g1, g2, g3⟩ := act_cells HR.out hlt
        have hki : (k : Int) < (len1 : Int) := by omega
        have h60i : (k : Int) < 60 := by omega
        have hk0i : (0 : Int) ≤ (k : Int) := by omega
        have hO := HK.out.1
        have hL := HK.out.2
        have hx2 := hx.drew
        have ka := act_any (hO.ext ((Ext.refl wr).drew)) (by omega) d c m v c0 c1
        have hlen2 := actR_len mst L d (c, m) v
        generalize actR mst L d (c, m) v = L2 at *
        have kb := fun (W : World) (h : Both10 w W w.heap.size xb mst L2) => (show Calls Try.prog 13 #[.pointer (some ⟨w.heap.size, 0, none⟩)] W fun e w' => e = .returned (.int .i64 (ownN (keysL L2) : Nat)) ∧ w' = W from by obtain ⟨F, G, d, -⟩ := h; exact blocks_at d)
        have kl := fun (W : World) (h : Both10 w W w.heap.size xb mst L2) => (show Calls Try.prog 15 #[.pointer (some ⟨w.heap.size, 0, none⟩)] W fun e w' => e = .returned (.int .i64 (L2.length : Nat)) ∧ w' = W from by obtain ⟨F, G, d, -⟩ := h; exact len_at d)
        have ho : ∀ (W : World), Both10 w W w.heap.size xb mst L2 → ∃ ap cp, (∀ w', Ext W w' → w'.cell? ⟨xb, 0, none⟩ = some (.slice ap L2.length cp)) ∧ ∀ w', Ext W w' → Calls Try.prog 14 #[.slice ap L2.length cp] w' fun e w2 => e = .returned (.int .i64 (ownN (keysL L2) : Nat)) ∧ Ext w' w2 := fun W h => by
          obtain ⟨F, G, hd, ⟨vp, vi, -, hX, hP, -⟩, -⟩ := h
          obtain ⟨ap, cp, e1, -, -, -⟩ := owns_slice hP
          rw [List.length_map] at e1
          subst e1
          have hval := hd.valid
          refine ⟨ap, cp, fun w' h => by rw [heap_cell (h.heap hX)]; rfl, fun w' h => owned_any 0 _ (keysL L2) w' (owns_later hP h) (fun p hp => ?_) (by simp only [keysL, List.length_map]; omega)⟩
          obtain ⟨x, hx, rfl⟩ := List.mem_map.1 hp
          exact hval x hx
        have hlenk : L2.length ≤ k + 1 := by omega
        have HLEN : Hid (L2.length ≤ k + 1) := hlenk
        clear hlenk
        generalize hOW : ownN (keysL L2) = ow at *
        have hMW : wr.drew.heap.size = wr.drew.heap.size := rfl
        have r0 := fun w' (h : RA w.heap.size wr.drew.heap.size wr.drew w') => act_laterN (W := wr.drew) (w' := w') hx2 h.1 hbl g0
        have r1 := fun w' (h : RA w.heap.size wr.drew.heap.size wr.drew w') => act_laterN (W := wr.drew) (w' := w') hx2 h.1 hbl g1
        have r2 := fun w' (h : RA w.heap.size wr.drew.heap.size wr.drew w') => act_laterN (W := wr.drew) (w' := w') hx2 h.1 hbl g2
        have r3 := fun w' (h : RA w.heap.size wr.drew.heap.size wr.drew w') => act_laterN (W := wr.drew) (w' := w') hx2 h.1 hbl g3
        clear g0 g1 g2 g3 hO hL HK hlen2 hMW
        go_wp2_with fail
        refine wp_region_eagerR (RA w.heap.size wr.drew.heap.size) (RA.refl _ _) (fun _ _ _ h k => h.trans k) [(0, false), (1, false), (2, false), (3, false), (4, false), (5, false), (6, true), (7, false), (8, false), (9, false), (11, false), (12, false), (13, false), (14, false), (15, false), (10, true), (16, true), (17, false), (18, false), (19, false), (20, false), (22, false), (23, false), (24, false), (25, false), (26, false), (27, false), (21, true), (28, false), (29, false)] (by kernel_rfl) (by kernel_rfl) rfl (by kernel_rfl) (fun _ _ _ _ _ h => h) ?_
        generalize wr.drew = W at *
        iterate 6 (refine wpE_read (v := ?_) rfl (by rfl) ?_ ?_; rotate_left; (focus (intro w' hx; go_simp; first | done | with_reducible rfl)); simp only [Act.put, List.setIfInBounds_toArray, List.set_cons_zero, List.set_cons_succ])
        refine wpE_call rfl (by rfl) (fun K hK => ?_); go_simp; first | (go_at_call 12; refine ka.mono ?_; rintro e w4 ⟨rfl, o4, x4, s4⟩; refine hK _ _ ⟨x4, fun hh => absurd hh (Nat.lt_irrefl _)⟩ ?_; clear hK K)
        clear r0 r1 r2 r3 ka
        obtain ⟨ap, cp, q0, q1⟩ := ho _ o4
        have z0 : ∀ w', RA w.heap.size W.heap.size w4 w' → w'.cell? ⟨xb, 0, none⟩ = some (.slice ap L2.length cp) := fun w' h => q0 w' (h.2 s4)
        have kb4 := kb _ o4
        have kO4 := q1 _ (Ext.refl w4)
        clear ho kb
        iterate 8 (refine wpE_read (v := ?_) rfl (by rfl) ?_ ?_; rotate_left; (focus (intro w' hx; go_simp; first | done | with_reducible rfl)); simp only [Act.put, List.setIfInBounds_toArray, List.set_cons_zero, List.set_cons_succ])
        refine wpE_call rfl (by rfl) (fun K hK => ?_); go_simp; first | (go_at_call 13; refine kb4.mono ?_; rintro e w5 ⟨rfl, h5⟩; subst w5; refine hK _ _ (RA.refl _ _ _) ?_; clear hK K)
        refine wpE_call rfl (by rfl) (fun K hK => ?_); go_simp; first | (go_at_call 14; refine kO4.mono ?_; rintro e w6 ⟨rfl, hx6⟩; refine hK _ _ (RA.of hx6) ?_; clear hK K)
        have o6 := o4.ext hx6
        have z6 : ∀ w', RA w.heap.size W.heap.size w6 w' → w'.cell? ⟨xb, 0, none⟩ = some (.slice ap L2.length cp) := fun w' h => q0 w' (hx6.trans (h.2 (Nat.lt_of_lt_of_le s4 hx6.size)))
        have kl6 := kl _ o6
        clear z0 kb4 kO4 q0 q1 kl
        iterate 10 (refine wpE_read (v := ?_) rfl (by rfl) ?_ ?_; rotate_left; (focus (intro w' hx; go_simp; first | done | with_reducible rfl)); simp only [Act.put, List.setIfInBounds_toArray, List.set_cons_zero, List.set_cons_succ])
        refine wpE_call rfl (by rfl) (fun K hK => ?_); go_simp; first | (go_at_call 15; refine kl6.mono ?_; rintro e w7 ⟨rfl, h7⟩; subst w7; refine hK _ _ (RA.refl _ _ _) ?_; clear hK K)
        clear z6
        iterate 2 (refine wpE_read (v := ?_) rfl (by rfl) ?_ ?_; rotate_left; (focus (intro w' hx; go_simp; first | done | with_reducible rfl)); simp only [Act.put, List.setIfInBounds_toArray, List.set_cons_zero, List.set_cons_succ])
        refine wpE_done ?_
        go_wp2_with fail
        exact ⟨⟨k + 1, L2, by omega, by omega, by simp, o6.toExt, ⟨o6, HLEN.out⟩⟩, by simp only [intOf]; omega⟩
      · obtain rfl : k = 60 := by omega
        have hki : ((60 : Nat) : Int) < (len1 : Int) := by omega
        go_wp2_with (go_at_call 16; refine (kn _).mono ?_; rintro e w8 ⟨rfl, hx8⟩)
        go_ret
        exact ⟨rfl, hx.trans hx8⟩
    · obtain rfl : k = len1 := by omega
      have hki : ¬ ((k : Int) < (k : Int)) := by omega
      go_wp2_with (go_at_call 16; refine (kn _).mono ?_; rintro e w8 ⟨rfl, hx8⟩)
      go_ret
      exact ⟨rfl, hx.trans hx8⟩

theorem contract (H : Type) (enc : TypeId × Value → H) (W : World) (base : Nat) (args : Array Value) (ds gs : List (DataW H)) (before : List MemPlace)
    (hval : ∀ (j : Nat) t v, Try.f3.params[j]? = some t → args[j]? = some v → Value.okWide Try.prog W .any base t v)
    (hW : DataW.Whole enc Try.prog Try.f3.params.toList Rows.dirPlaysSpec.vars false W args.toList ds gs before) (hsh : W.ShapedOpen Try.prog) :
    Calls Try.prog 3 args W fun e W' => ∃ v, e = .returned v ∧ Rows.dirPlaysSpec.post enc Try.prog Try.f3 false true false false W args v W' := by
  have hW' := hW
  obtain ⟨p, q, hA0, hV, rfl, hfz, hnd⟩ := hW
  have hA : DataW.TrodAll enc Try.prog W 0 (fun _ => true) true Try.f3.params.toList args.toList ds p := hA0
  rw [Try.params3] at hA hval
  obtain ⟨v0, vs0, d0, ds0, p0, q0, hargs, rfl, rfl, h0, r0⟩ := trodAll_cons hA
  obtain ⟨v1, vs1, d1, ds1, p1, q1, rfl, rfl, rfl, h1, r1⟩ := trodAll_cons r0
  obtain ⟨rfl, rfl, rfl⟩ := trodAll_nil r1
  obtain rfl : args = #[v0, v1] := by cases args; simp_all
  obtain ⟨rfl, rfl⟩ := trodVars_none hV
  obtain ⟨a0, rfl, rfl, rfl, w0⟩ := open_int Try.underlying3 (hval 0 3 v0 rfl rfl) h0
  have k1 := h1
  have lt1 : ∀ x ∈ p1, x.block < W.heap.size := by obtain ⟨m, hm⟩ := k1; exact DataW.trod_lt m _ _ _ hm
  obtain ⟨b1, l1, c1, rfl⟩ := okWide_slice Try.underlying22 (hval 1 22 v1 rfl rfl)
  obtain ⟨fu1, hf1⟩ := h1
  obtain ⟨a1, len1, cap1, zs1, ce1, row1⟩ := open_rowG 4 cells32 ok32 (by omega) cells32_length Try.underlying22 (by kernel_rfl) elem32 hf1
  obtain ⟨rfl, rfl, rfl⟩ : a1 = b1 ∧ len1 = l1 ∧ cap1 = c1 := by simpa [Value.cells, eq_comm] using ce1
  clear hA0
  refine (walk a0 a1 len1 cap1 zs1 W w0 row1 hsh).mono fun e W' ⟨he, bel⟩ => ?_
  subst he
  exact ⟨_, rfl, _, _, _, [], _, [], hW', trodAll_mk1 (shut_bool Try.underlying4 _), (trodAll_cons_mk (shut_int Try.underlying3 w0) (trodAll_cons_mk (Below.trod laidOut (by kernel_rfl) (of_decide_eq_true (by kernel_rfl)) k1 bel lt1) trodAll_mk0)), rfl, bel.frame _, fun h => by cases h⟩

theorem laid_met (os : Os) : laidMet Try.prog Rows.dirPlaysRow.laid ((World.doorLaid Try.prog 24 os).forCall (fun _ _ => 0) ⟨#[], #[.int .i64 0, .slice none 0 0], []⟩).memory :=
  laidMet_of_run' 8 (by kernel_rfl) (by kernel_rfl)
theorem reads (os : Os) {H : Type} (enc : TypeId × Value → H) : ∃ places, DataW.whole enc Try.prog ((World.doorLaid Try.prog 24 os).forCall (fun _ _ => 0) ⟨#[], #[.int .i64 0, .slice none 0 0], []⟩).memory Try.f3.params.toList Rows.dirPlaysSpec.vars false (#[.int .i64 0, .slice none 0 0] : Array Value).toList 8 = some ([.lit (.int .i64 0), .nil], [], places) :=
  ⟨[], by kernel_rfl⟩

set_option maxRecDepth 100000 in
theorem lifted (os : Os) (started : os.Started) (H : Type) (enc : TypeId × Value → H) (F : Stop.Interp) :
    ReturnsInHanded {} Try.checked os 3 .any ((OpenSpec.ofChange Rows.dirPlaysSpec).preRow enc Try.prog Try.f3 Rows.dirPlaysRow.domain false Rows.dirPlaysRow.laid) (((OpenSpec.ofChange Rows.dirPlaysSpec).at F).post enc Try.prog Try.f3 false true false false) := by
  obtain ⟨places, hx⟩ := reads os enc
  refine returnsInHanded_of_row (C := Try.checked) (s := (OpenSpec.ofChange Rows.dirPlaysSpec)) own started (by kernel_rfl) Try.func3
    (witness_row_at (enc := enc) (C := Try.checked) false (World.doorLaid Try.prog 24 os) #[.int .i64 0, .slice none 0 0] rfl (by kernel_rfl) (by kernel_rfl) (by kernel_rfl)
      (OpenSpec.preRow_of_cond 8 hx (by kernel_rfl) (fun k hk => by cases hk) (by kernel_rfl) (laid_met os))) ?_
  intro W base args ds gs before hval hW _ hcond _ hL hsh _
  exact contract H enc W base args ds gs before hval hW hsh

theorem said : Rows.DirPlaysSaid :=
  OpenClaim.holds_of_cond 3 Try.f3 rfl rfl rfl rfl rfl rfl rfl ⟨rfl, rfl, rfl, rfl, rfl⟩ rfl rfl rfl rfl rfl (by kernel_rfl) Try.func3 (by kernel_rfl)
    (of_decide_eq_true (by kernel_rfl)) (by unfold Func.isWrapper; first | (rw [if_pos (by decide +kernel)]; kernel_rfl) | (rw [if_neg (by decide +kernel)]; exact ⟨rfl, rfl⟩))
    (fun os started H enc _ F => by rw [OpenClaim.pre_eq_preRow]; exact lifted os started H enc F)

end Go.Proofs.Ytlnmdlachfnmkaa.dirPlays

namespace Go.Proofs.Ytlnmdlachfnmkaa
theorem dirPlays_holds : Rows.DirPlaysSaid := dirPlays.said
#print axioms dirPlays_holds
end Go.Proofs.Ytlnmdlachfnmkaa
