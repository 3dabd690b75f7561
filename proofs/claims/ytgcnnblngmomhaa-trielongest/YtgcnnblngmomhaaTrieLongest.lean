/- For every script, every address and every prefix, the law TrieLongest returns true: of the address the longest prefix that has it, and its number, of the prefix all that cover it, are the document's; no condition. -/
import Derived.Test.YtgcnnblngmomhaaRows
import Derived.Test.YtgcnnblngmomhaaRefTr6
import Derived.Test.YtgcnnblngmomhaaFrame
import Derived.Test.YtgcnnblngmomhaaRowG
import Derived.WalkKit
import Derived.ProofKit
import Derived.OpenShut
import Derived.ShutString
import Derived.ChangeOld
import Derived.Deep.DeepHandedRow
import Derived.Lib.LaidTab
import Derived.Lib.SmallJoins
import Derived.LaidMore
import Derived.Stop.LaidErr
import Derived.ChangeMaps5
namespace Go.Proofs.Ytgcnnblngmomhaa.trieLongest
open Go.ChangeShapes Go.WideShapes Go.ChangeAt Go.RowKit Go.ChangeMaps
set_option linter.unusedVariables false
set_option maxRecDepth 100000

theorem own : ownKnob Try.prog.godebug = none := by kernel_rfl
theorem laidOut : laidOutB Try.prog = true := by kernel_rfl

theorem arr2 {α : Type} {cs : Array α} (h : cs.size = 2) : ∃ c0 c1, cs = #[c0, c1] := by
  obtain ⟨l⟩ := cs
  match l, h with
  | [c0, c1], _ => exact ⟨c0, c1, rfl⟩

abbrev Elem34 := Bool × Int × Int × Int
def cells34 (z : Elem34) : List Value := [.bool (z.1), .int .u32 (z.2.1), .int .i64 (z.2.2.1), .int .i64 (z.2.2.2)]
def ok34 (z : Elem34) : Prop := (Lit.int .u32 (z.2.1)).wf = true ∧ (Lit.int .i64 (z.2.2.1)).wf = true ∧ (Lit.int .i64 (z.2.2.2)).wf = true
theorem cells34_length (z : Elem34) : (cells34 z).length = 4 := rfl
theorem elem34 {H : Type} {enc : TypeId × Value → H} {w : World} {base : Nat} {spare : Nat → Bool} {held : Bool} (n : Nat) (cs : List Value) (y : DataW H × List MemPlace)
    (h : DataW.trod enc Try.prog w base spare held n 34 cs = some y) : ∃ z : Elem34, cs = cells34 z ∧ ok34 z := by
  have hl : cs.length = 4 := by
    obtain ⟨_, _, _, _, hl, _⟩ := DataW.trod_struct Try.underlying34 h
    exact hl.trans (by kernel_rfl)
  obtain ⟨u0, u1, u2, u3, rfl⟩ : ∃ u0 u1 u2 u3, cs = [u0, u1, u2, u3] := by
    match cs, hl with
    | [u0, u1, u2, u3], _ => exact ⟨u0, u1, u2, u3, rfl⟩
  obtain ⟨_, _, e1⟩ := field_at Try.underlying34 h 0 rfl 1 (by kernel_rfl)
  obtain ⟨az0, c2, _⟩ := DataW.trod_bool Try.underlying4 e1
  obtain rfl : u0 = .bool az0 := by simpa using c2
  obtain ⟨_, _, e3⟩ := field_at Try.underlying34 h 1 rfl 2 (by kernel_rfl)
  obtain ⟨_, _, e4⟩ := field_at Try.underlying32 e3 0 rfl 1 (by kernel_rfl)
  obtain ⟨az10, c5, _, wz10⟩ := DataW.trod_int Try.underlying30 e4
  obtain rfl : u1 = .int .u32 az10 := by simpa using c5
  obtain ⟨_, _, e6⟩ := field_at Try.underlying32 e3 1 rfl 1 (by kernel_rfl)
  obtain ⟨az11, c7, _, wz11⟩ := DataW.trod_int Try.underlying3 e6
  obtain rfl : u2 = .int .i64 az11 := by simpa using c7
  obtain ⟨_, _, e8⟩ := field_at Try.underlying34 h 2 rfl 1 (by kernel_rfl)
  obtain ⟨az2, c9, _, wz2⟩ := DataW.trod_int Try.underlying3 e8
  obtain rfl : u3 = .int .i64 az2 := by simpa using c9
  exact ⟨(az0, az10, az11, az2), rfl, ⟨wz10, wz11, wz2⟩⟩

open Go.Proofs.Ytgcnnblngmomhaa.Tri

set_option maxHeartbeats 4000000 in
theorem walk (a0 : Option Addr) (len0 cap0 : Nat) (zs0 : List Elem34) (a1 : Int) (a20 : Int) (a21 : Int) (w : World) (row0 : IsRowG 4 cells34 ok34 w a0 len0 cap0 zs0) (w1 : (Lit.int .u32 a1).wf = true) (w20 : (Lit.int .u32 a20).wf = true) (w21 : (Lit.int .i64 a21).wf = true) (hsh : w.ShapedOpen Try.prog) :
    Calls Try.prog 4 #[.slice a0 len0 cap0, .int .u32 a1, .agg #[.int .u32 a20, .int .i64 a21]] w fun e w' => e = .returned (.bool true) ∧ Below w.heap.size w w' := by
  have hb := bounds_u32 w1
  have hb2 := bounds_u32 w20
  have row : IsRowG 4 actC actOk w a0 len0 cap0 zs0 := row0
  have hA : Ext w (w.alloc (.cells #[.int .u32 a20, .int .i64 a21] 32)) := (Ext.refl w).alloc _
  have k1 := laid_any a0 len0 cap0 zs0 _ (row.later (fun z => rfl) hA.below)
  have kn := fun w => known_any w
  have HQ : Hid _ := heap_new w (.cells #[.int .u32 a20, .int .i64 a21] 32)
  clear row row0 w1
  go_enter Try.func4, Try.ntmps4
  go_wp2_with fail
  go_at_call 21
  refine k1.mono ?_
  rintro e w1 ⟨tb, xb, t, F, G, rfl, hB, hsz, hx1⟩
  have hT := hB.trie
  have hR := hB.ref
  have hwf := hT.wf
  have hsr := srt_toL hwf
  have hvv : ∀ x ∈ toL t, Vp x.1 := fun x hx => hwf.vp hx
  have hll := toL_len t
  have hcl := covL_len (toL t) (a20, a21)
  have kA := fun W (h : Ext w1 W) => tLongest (hT.ext h) a1 hb.1 hb.2
  have kB := fun W (h : Ext w1 W) => refLongest_any xb (toL t) G a1 W (hR.ext h) hsr hvv (by omega) hb.1 hb.2
  have kC := fun W (h : Ext w1 W) => tCovers (hT.ext h) (by omega) a20 a21 hb2.1 hb2.2
  have kD := fun W (h : Ext w1 W) => refCovers2_any xb (toL t) G a20 a21 W (hR.ext h) hsr hvv (by omega) hb2.1 hb2.2
  obtain ⟨p0, p1, v, ok, ho⟩ := ansO_shape (lastF none (covL (toL t) (a1, 32)))
  rw [ho] at kA kB
  have hLl : ((covL (toL t) (a20, a21)).map (·.1)).length ≤ 1000000 := by rw [List.length_map]; omega
  have kP := fun A B v u W h1 h2 => prefixes_any A B v u ((covL (toL t) (a20, a21)).map (·.1)) ((covL (toL t) (a20, a21)).map (·.1)) W h1 h2 hLl hLl
  rw [decide_eq_true rfl] at kP
  generalize (covL (toL t) (a20, a21)).map (·.1) = L1 at *
  have eq := fun w => eql_prefix p0 p1 p0 p1 w
  simp only [beq_self_eq_true, Bool.and_self] at eq
  have eg := eq_guard
  clear hB k1 ho hsr hvv hwf hT hR hcl hLl hll hsz
  have hrr := Ext.refl w1
  go_wp2_with (first
    | (go_at_call 22; refine (kA _ hrr).mono ?_; rintro e w2 ⟨rfl, hx2⟩; have HG : Hid _ := heap_new w2 (.cells #[.int .u32 p0, .int .i64 p1] 32); have hx12 : Ext w1 (w2.alloc (.cells #[.int .u32 p0, .int .i64 p1] 32)) := hx2.alloc _)
    | (go_at_call 23; refine (kB _ hx12).mono ?_; rintro e w3 ⟨rfl, hx3⟩; have HG3 : Hid _ := heap_new w3 (.cells #[.int .u32 p0, .int .i64 p1] 32); have hx23 : Ext (w2.alloc (.cells #[.int .u32 p0, .int .i64 p1] 32)) (w3.alloc (.cells #[.int .u32 p0, .int .i64 p1] 32)) := hx3.alloc _))
  refine wp_region_eager [(0, false), (1, false), (2, false), (3, false), (4, false), (5, false), (6, false), (7, false), (8, false), (9, false), (10, false), (11, false), (12, false), (13, false), (14, false), (15, false), (17, false), (18, false), (16, true), (19, true), (20, true), (21, false), (22, false), (23, true), (24, false), (25, false)] (by kernel_rfl) (by kernel_rfl) rfl (by kernel_rfl) (fun _ _ _ _ _ h => h) ?_
  have hxd : Ext (w3.alloc (.cells #[.int .u32 p0, .int .i64 p1] 32)) (w3.alloc (.cells #[.int .u32 p0, .int .i64 p1] 32)).drew := (Ext.refl _).drew
  have hx13 : Ext w1 (w3.alloc (.cells #[.int .u32 p0, .int .i64 p1] 32)).drew := (hx12.trans hx23).trans hxd
  have cc : ∀ {b j : Nat} {v : Value}, (w3.alloc (.cells #[.int .u32 p0, .int .i64 p1] 32)).drew.cell? ⟨b, j, none⟩ = some v → ∀ W, Ext (w3.alloc (.cells #[.int .u32 p0, .int .i64 p1] 32)).drew W → W.cell? ⟨b, j, none⟩ = some v := fun {b j v} hv W h => by rw [h.below.cell (p := ⟨b, j, none⟩) (block_lt hv)]; exact hv
  have r0 : ∀ W, Ext (w3.alloc (.cells #[.int .u32 p0, .int .i64 p1] 32)).drew W → W.cell? ⟨w2.heap.size, 0, none⟩ = some (.int .u32 p0) := cc (by rw [heap_cell ((hx23.trans hxd).heap HG.out)]; rfl)
  have r1 : ∀ W, Ext (w3.alloc (.cells #[.int .u32 p0, .int .i64 p1] 32)).drew W → W.cell? ⟨w2.heap.size, 1, none⟩ = some (.int .i64 p1) := cc (by rw [heap_cell ((hx23.trans hxd).heap HG.out)]; rfl)
  have r2 : ∀ W, Ext (w3.alloc (.cells #[.int .u32 p0, .int .i64 p1] 32)).drew W → W.cell? ⟨w3.heap.size, 0, none⟩ = some (.int .u32 p0) := cc (by rw [heap_cell (hxd.heap HG3.out)]; rfl)
  have r3 : ∀ W, Ext (w3.alloc (.cells #[.int .u32 p0, .int .i64 p1] 32)).drew W → W.cell? ⟨w3.heap.size, 1, none⟩ = some (.int .i64 p1) := cc (by rw [heap_cell (hxd.heap HG3.out)]; rfl)
  have r4 : ∀ W, Ext (w3.alloc (.cells #[.int .u32 p0, .int .i64 p1] 32)).drew W → W.cell? ⟨w.heap.size, 0, none⟩ = some (.int .u32 a20) := cc (by rw [heap_cell ((hx1.trans hx13).heap HQ.out)]; rfl)
  have r5 : ∀ W, Ext (w3.alloc (.cells #[.int .u32 p0, .int .i64 p1] 32)).drew W → W.cell? ⟨w.heap.size, 1, none⟩ = some (.int .i64 a21) := cc (by rw [heap_cell ((hx1.trans hx13).heap HQ.out)]; rfl)
  clear cc hxd hx23 HG HG3 hx3 hx12
  generalize (w3.alloc (.cells #[.int .u32 p0, .int .i64 p1] 32)).drew = W at *
  iterate 18 (refine wpE_read (v := ?_) rfl (by rfl) ?_ ?_; rotate_left; (focus (intro w' hx; go_simp; first | done | with_reducible rfl)); simp only [Act.put, List.setIfInBounds_toArray, List.set_cons_zero, List.set_cons_succ])
  (refine wpE_call rfl (by rfl) (fun K hK => ?_); go_simp; first
    | (go_at_call 25; refine (kC _ hx13).mono ?_; rintro e w4 ⟨v4, rfl, ho4, hx4⟩; refine hK _ _ hx4 ?_; clear hK K))
  (refine wpE_call rfl (by rfl) (fun K hK => ?_); go_simp; first
    | (go_at_call 26; refine (kD _ (hx13.trans hx4)).mono ?_; rintro e w5 ⟨v5, rfl, ho5, hx5⟩; refine hK _ _ hx5 ?_; clear hK K))
  (refine wpE_call rfl (by rfl) (fun K hK => ?_); go_simp; first
    | (go_at_call 24; refine (kP _ _ _ _ _ (owns_later ho4 hx5) ho5).mono ?_; rintro e w6 ⟨rfl, hx6⟩; refine hK _ _ hx6 ?_; clear hK K))
  iterate 2 (refine wpE_read (v := ?_) rfl (by rfl) ?_ ?_; rotate_left; (focus (intro w' hx; go_simp; first | done | with_reducible rfl)); simp only [Act.put, List.setIfInBounds_toArray, List.set_cons_zero, List.set_cons_succ])
  (refine wpE_call rfl (by rfl) (fun K hK => ?_); go_simp; first
    | (go_at_call 20; refine (kn _).mono ?_; rintro e w7 ⟨rfl, hx7⟩; refine hK _ _ hx7 ?_; clear hK K))
  iterate 2 (refine wpE_read (v := ?_) rfl (by rfl) ?_ ?_; rotate_left; (focus (intro w' hx; go_simp; first | done | with_reducible rfl)); simp only [Act.put, List.setIfInBounds_toArray, List.set_cons_zero, List.set_cons_succ])
  refine wpE_done ?_
  go_wp2_with fail
  go_ret
  exact ⟨rfl, (((((hA.trans hx1).trans hx13).trans hx4).trans hx5).trans hx6).trans hx7⟩

theorem contract (H : Type) (enc : TypeId × Value → H) (W : World) (base : Nat) (args : Array Value) (ds gs : List (DataW H)) (before : List MemPlace)
    (hval : ∀ (j : Nat) t v, Try.f4.params[j]? = some t → args[j]? = some v → Value.okWide Try.prog W .any base t v)
    (hW : DataW.Whole enc Try.prog Try.f4.params.toList Rows.trieLongestSpec.vars false W args.toList ds gs before) (hsh : W.ShapedOpen Try.prog) :
    Calls Try.prog 4 args W fun e W' => ∃ v, e = .returned v ∧ Rows.trieLongestSpec.post enc Try.prog Try.f4 false true false false W args v W' := by
  have hW' := hW
  obtain ⟨p, q, hA0, hV, rfl, hfz, hnd⟩ := hW
  have hA : DataW.TrodAll enc Try.prog W 0 (fun _ => true) true Try.f4.params.toList args.toList ds p := hA0
  rw [Try.params4] at hA hval
  obtain ⟨v0, vs0, d0, ds0, p0, q0, hargs, rfl, rfl, h0, r0⟩ := trodAll_cons hA
  obtain ⟨v1, vs1, d1, ds1, p1, q1, rfl, rfl, rfl, h1, r1⟩ := trodAll_cons r0
  obtain ⟨v2, vs2, d2, ds2, p2, q2, rfl, rfl, rfl, h2, r2⟩ := trodAll_cons r1
  obtain ⟨rfl, rfl, rfl⟩ := trodAll_nil r2
  obtain rfl : args = #[v0, v1, v2] := by cases args; simp_all
  obtain ⟨rfl, rfl⟩ := trodVars_none hV
  have k0 := h0
  have lt0 : ∀ x ∈ p0, x.block < W.heap.size := by obtain ⟨m, hm⟩ := k0; exact DataW.trod_lt m _ _ _ hm
  obtain ⟨b0, l0, c0, rfl⟩ := okWide_slice Try.underlying22 (hval 0 22 v0 rfl rfl)
  obtain ⟨fu0, hf0⟩ := h0
  obtain ⟨a0, len0, cap0, zs0, ce0, row0⟩ := open_rowG 4 cells34 ok34 (by omega) cells34_length Try.underlying22 (by kernel_rfl) elem34 hf0
  obtain ⟨rfl, rfl, rfl⟩ : a0 = b0 ∧ len0 = l0 ∧ cap0 = c0 := by simpa [Value.cells, eq_comm] using ce0
  obtain ⟨a1, rfl, rfl, rfl, w1⟩ := open_int Try.underlying30 (hval 1 30 v1 rfl rfl) h1
  have k2 := h2
  have lt2 : ∀ x ∈ p2, x.block < W.heap.size := by obtain ⟨m, hm⟩ := k2; exact DataW.trod_lt m _ _ _ hm
  obtain ⟨cs2, rfl, hs2⟩ := okWide_struct Try.underlying32 (hval 2 32 v2 rfl rfl)
  obtain ⟨u2a, u2b, rfl⟩ := arr2 (hs2.trans (by kernel_rfl))
  obtain ⟨fu2, hf2⟩ := h2
  obtain ⟨_, _, e10⟩ := field_at Try.underlying32 hf2 0 rfl 1 (by kernel_rfl)
  obtain ⟨a20, c11, _, w20⟩ := DataW.trod_int Try.underlying30 e10
  obtain rfl : u2a = .int .u32 a20 := by simpa [Value.cells] using c11
  obtain ⟨_, _, e12⟩ := field_at Try.underlying32 hf2 1 rfl 1 (by kernel_rfl)
  obtain ⟨a21, c13, _, w21⟩ := DataW.trod_int Try.underlying3 e12
  obtain rfl : u2b = .int .i64 a21 := by simpa [Value.cells] using c13
  clear hA0
  refine (walk a0 len0 cap0 zs0 a1 a20 a21 W row0 w1 w20 w21 hsh).mono fun e W' ⟨he, bel⟩ => ?_
  subst he
  exact ⟨_, rfl, _, _, _, [], _, [], hW', trodAll_mk1 (shut_bool Try.underlying4 _), (trodAll_cons_mk (Below.trod laidOut (by kernel_rfl) (of_decide_eq_true (by kernel_rfl)) k0 bel lt0) (trodAll_cons_mk (shut_int Try.underlying30 w1) (trodAll_cons_mk (Below.trod laidOut (by kernel_rfl) (of_decide_eq_true (by kernel_rfl)) k2 bel lt2) trodAll_mk0))), rfl, bel.frame _, fun h => by cases h⟩

theorem laid_met (os : Os) : laidMet Try.prog Rows.trieLongestRow.laid ((World.doorLaid Try.prog 24 os).forCall (fun _ _ => 0) ⟨#[], #[.slice none 0 0, .int .u32 0, .agg #[.int .u32 0, .int .i64 0]], []⟩).memory :=
  laidMet_of_run' 8 (by kernel_rfl) (by kernel_rfl)
theorem reads (os : Os) {H : Type} (enc : TypeId × Value → H) : ∃ places, DataW.whole enc Try.prog ((World.doorLaid Try.prog 24 os).forCall (fun _ _ => 0) ⟨#[], #[.slice none 0 0, .int .u32 0, .agg #[.int .u32 0, .int .i64 0]], []⟩).memory Try.f4.params.toList Rows.trieLongestSpec.vars false (#[.slice none 0 0, .int .u32 0, .agg #[.int .u32 0, .int .i64 0]] : Array Value).toList 8 = some ([.nil, .lit (.int .u32 0), .agg [.lit (.int .u32 0), .lit (.int .i64 0)]], [], places) :=
  ⟨[], by kernel_rfl⟩

set_option maxRecDepth 100000 in
theorem lifted (os : Os) (started : os.Started) (H : Type) (enc : TypeId × Value → H) (F : Stop.Interp) :
    ReturnsInHanded {} Try.checked os 4 .any ((OpenSpec.ofChange Rows.trieLongestSpec).preRow enc Try.prog Try.f4 Rows.trieLongestRow.domain false Rows.trieLongestRow.laid) (((OpenSpec.ofChange Rows.trieLongestSpec).at F).post enc Try.prog Try.f4 false true false false) := by
  obtain ⟨places, hx⟩ := reads os enc
  refine returnsInHanded_of_row (C := Try.checked) (s := (OpenSpec.ofChange Rows.trieLongestSpec)) own started (by kernel_rfl) Try.func4
    (witness_row_at (enc := enc) (C := Try.checked) false (World.doorLaid Try.prog 24 os) #[.slice none 0 0, .int .u32 0, .agg #[.int .u32 0, .int .i64 0]] rfl (by kernel_rfl) (by kernel_rfl) (by kernel_rfl)
      (OpenSpec.preRow_of_cond 8 hx (by kernel_rfl) (fun k hk => by cases hk) (by kernel_rfl) (laid_met os))) ?_
  intro W base args ds gs before hval hW _ hcond _ hL hsh _
  exact contract H enc W base args ds gs before hval hW hsh

theorem said : Rows.TrieLongestSaid :=
  OpenClaim.holds_of_cond 4 Try.f4 rfl rfl rfl rfl rfl rfl rfl ⟨rfl, rfl, rfl, rfl, rfl⟩ rfl rfl rfl rfl rfl (by kernel_rfl) Try.func4 (by kernel_rfl)
    (of_decide_eq_true (by kernel_rfl)) (by unfold Func.isWrapper; first | (rw [if_pos (by decide +kernel)]; kernel_rfl) | (rw [if_neg (by decide +kernel)]; exact ⟨rfl, rfl⟩))
    (fun os started H enc _ F => by rw [OpenClaim.pre_eq_preRow]; exact lifted os started H enc F)

end Go.Proofs.Ytgcnnblngmomhaa.trieLongest

namespace Go.Proofs.Ytgcnnblngmomhaa
theorem trieLongest_holds : Rows.TrieLongestSaid := trieLongest.said
#print axioms trieLongest_holds
end Go.Proofs.Ytgcnnblngmomhaa
