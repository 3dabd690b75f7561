/- For every script and every address, the law TrieSet returns true: what is told hangs on what is there alone; laid in the other order, without what was taken away, it is the same; no condition. -/
import Derived.Test.YtgcnnblngmomhaaRows
import Derived.Test.YtgcnnblngmomhaaLaw9M
import Derived.Test.YtgcnnblngmomhaaFrame
import Derived.Test.YtgcnnblngmomhaaRowG
import Derived.WalkKit
import Derived.ProofKit
import Derived.OpenShut
import Derived.ShutString
import Derived.ChangeOld
import Derived.Deep.DeepHandedRow
import Derived.Lib.LaidTab
import Derived.Lib.SmallJoins
import Derived.LaidMore
import Derived.Stop.LaidErr
import Derived.ChangeMaps5
namespace Go.Proofs.Ytgcnnblngmomhaa.trieSet
open Go.ChangeShapes Go.WideShapes Go.ChangeAt Go.RowKit Go.ChangeMaps
set_option linter.unusedVariables false
set_option maxRecDepth 100000

theorem own : ownKnob Try.prog.godebug = none := by kernel_rfl
theorem laidOut : laidOutB Try.prog = true := by kernel_rfl

abbrev Elem34 := Bool × Int × Int × Int
def cells34 (z : Elem34) : List Value := [.bool (z.1), .int .u32 (z.2.1), .int .i64 (z.2.2.1), .int .i64 (z.2.2.2)]
def ok34 (z : Elem34) : Prop := (Lit.int .u32 (z.2.1)).wf = true ∧ (Lit.int .i64 (z.2.2.1)).wf = true ∧ (Lit.int .i64 (z.2.2.2)).wf = true
theorem cells34_length (z : Elem34) : (cells34 z).length = 4 := rfl
theorem elem34 {H : Type} {enc : TypeId × Value → H} {w : World} {base : Nat} {spare : Nat → Bool} {held : Bool} (n : Nat) (cs : List Value) (y : DataW H × List MemPlace)
    (h : DataW.trod enc Try.prog w base spare held n 34 cs = some y) : ∃ z : Elem34, cs = cells34 z ∧ ok34 z := by
  have hl : cs.length = 4 := by
    obtain ⟨_, _, _, _, hl, _⟩ := DataW.trod_struct Try.underlying34 h
    exact hl.trans (by kernel_rfl)
  obtain ⟨u0, u1, u2, u3, rfl⟩ : ∃ u0 u1 u2 u3, cs = [u0, u1, u2, u3] := by
    match cs, hl with
    | [u0, u1, u2, u3], _ => exact ⟨u0, u1, u2, u3, rfl⟩
  obtain ⟨_, _, e1⟩ := field_at Try.underlying34 h 0 rfl 1 (by kernel_rfl)
  obtain ⟨az0, c2, _⟩ := DataW.trod_bool Try.underlying4 e1
  obtain rfl : u0 = .bool az0 := by simpa using c2
  obtain ⟨_, _, e3⟩ := field_at Try.underlying34 h 1 rfl 2 (by kernel_rfl)
  obtain ⟨_, _, e4⟩ := field_at Try.underlying32 e3 0 rfl 1 (by kernel_rfl)
  obtain ⟨az10, c5, _, wz10⟩ := DataW.trod_int Try.underlying30 e4
  obtain rfl : u1 = .int .u32 az10 := by simpa using c5
  obtain ⟨_, _, e6⟩ := field_at Try.underlying32 e3 1 rfl 1 (by kernel_rfl)
  obtain ⟨az11, c7, _, wz11⟩ := DataW.trod_int Try.underlying3 e6
  obtain rfl : u2 = .int .i64 az11 := by simpa using c7
  obtain ⟨_, _, e8⟩ := field_at Try.underlying34 h 2 rfl 1 (by kernel_rfl)
  obtain ⟨az2, c9, _, wz2⟩ := DataW.trod_int Try.underlying3 e8
  obtain rfl : u3 = .int .i64 az2 := by simpa using c9
  exact ⟨(az0, az10, az11, az2), rfl, ⟨wz10, wz11, wz2⟩⟩

open Go.Proofs.Ytgcnnblngmomhaa.Tri

set_option maxHeartbeats 4000000 in
theorem walk (a0 : Option Addr) (len0 cap0 : Nat) (zs0 : List Elem34) (a1 : Int) (w : World) (row0 : IsRowG 4 cells34 ok34 w a0 len0 cap0 zs0) (w1 : (Lit.int .u32 a1).wf = true) (hsh : w.ShapedOpen Try.prog) :
    Calls Try.prog 5 #[.slice a0 len0 cap0, .int .u32 a1] w fun e w' => e = .returned (.bool true) ∧ Below w.heap.size w w' := by
  have hb1 := bounds_u32 w1
  have row : IsRowG 4 actC actOk w a0 len0 cap0 zs0 := row0
  have k1 := laid_any a0 len0 cap0 zs0 w row
  have kn := fun w => known_any w
  have k0 := fun w => new_any w
  clear row row0 w1
  go_enter Try.func5, Try.ntmps5
  go_wp2_with fail
  go_at_call 21
  refine k1.mono ?_
  rintro e w1 ⟨tb, xb, t, F, G, rfl, hB, hsz, hx1⟩
  obtain ⟨ap, cp, ai, ci, hX, hcell⟩ := hB.ref.open
  have hll := toL_len t
  have hwf := hB.trie.wf
  have hsr := srt_toL hwf
  have HT : Hid (TrieAt w1 tb t F) := hB.trie
  have HF : Hid (∀ y ∈ F, y < w1.heap.size) := hB.trie.lt
  have HX : Hid _ := hX
  have HC : Hid _ := hcell
  have HS : Hid (Srt (toL t) ∧ ∀ x ∈ toL t, Vp x.1) := ⟨hsr, fun x hx => hwf.vp hx⟩
  have hA : Ext w1 (w1.alloc (.cells #[.pointer none] 62)) := (Ext.refl w1).alloc _
  have x0 : (w1.alloc (.cells #[.pointer none] 62)).cell? ⟨xb, 0, none⟩ = some (.slice ap (toL t).length cp) := by rw [heap_cell (hA.heap hX)]; rfl
  have HU : Hid (TrieAt (w1.alloc (.cells #[.pointer none] 62)) w1.heap.size .nil [w1.heap.size]) := trie_new w1
  clear hX hcell hwf hsr hB k1
  go_wp2_with (go_at_call 12; refine (k0 _).mono ?_; rintro e w2 ⟨rfl, rfl⟩)
  go_loopw [8] (fun i wr => ∃ (j : Nat) (s : Sh) (H : List Nat), j ≤ (toL t).length ∧ i = .int .i64 ((j : Int) - 1) ∧ Ext w1 wr ∧ Hid (TrieAt wr w1.heap.size s H ∧ (∀ y ∈ H, w1.heap.size ≤ y) ∧ toL s = (toL t).drop j ∧ szS s ≤ 2 * ((toL t).length - j))) (fun i _ => (intOf i + 1).toNat)
  case atStart => exact ⟨(toL t).length, .nil, [w1.heap.size], Nat.le_refl _, rfl, hA, ⟨HU.out, by simp, by simp [toL], by simp [szS]⟩⟩
  case round =>
    obtain ⟨j, s, H, hj, rfl, hx, HK⟩ := hrel
    clear x0 HU hA k0
    by_cases h0 : j = 0
    · subst h0
      obtain ⟨hTs, hH, hLs, hss⟩ := HK.out
      rw [List.drop_zero] at hLs
      have hT : TrieAt wr tb t F := HT.out.ext hx
      have kA := fun W (h : Ext wr W) => tLongest (hT.ext h) a1 hb1.1 hb1.2
      have kB := fun W (h : Ext wr W) => tLongest (hTs.ext h) a1 hb1.1 hb1.2
      have kC := fun W (h : Ext wr W) => tWalk (hT.ext h) (by omega)
      have kD := fun W (h : Ext wr W) => tWalk (hTs.ext h) (by omega)
      have kE := fun W (h : Ext wr W) => tNodes (hT.ext h) (by omega)
      have kF := fun W (h : Ext wr W) => tNodes (hTs.ext h) (by omega)
      rw [hLs] at kB kD kF
      obtain ⟨p0, p1, v, ok, ho⟩ := ansO_shape (lastF none (covL (toL t) (a1, 32)))
      rw [ho] at kA kB
      have eq := fun w => eql_prefix p0 p1 p0 p1 w
      simp only [beq_self_eq_true, Bool.and_self] at eq
      have eg := eq_guard
      have hLl : ((toL t).map (·.1)).length ≤ 1000000 := by rw [List.length_map]; omega
      have kP := fun A B v u W h1 h2 => prefixes_any A B v u ((toL t).map (·.1)) ((toL t).map (·.1)) W h1 h2 hLl hLl
      rw [decide_eq_true rfl] at kP
      generalize nodesL (toL t) = ln at *
      generalize (toL t).map (·.1) = L1 at *
      have t1 : Hid True := trivial
      have t2 : Hid True := trivial
      have t3 : Hid True := trivial
      have hrr := Ext.refl wr
      clear hT hTs hH hLs hss HK ho hj HS HC HX
      go_wp2_with (first
        | (go_at_call 22; clear t1; refine (kA _ hrr).mono ?_; rintro e w3 ⟨rfl, hx3⟩; replace hrr := (hrr.trans hx3).alloc (.cells #[.int .u32 p0, .int .i64 p1] 32); have HG3 : Hid _ := heap_new w3 (.cells #[.int .u32 p0, .int .i64 p1] 32))
        | (go_at_call 22; refine (kB _ hrr).mono ?_; rintro e w4 ⟨rfl, hx4⟩; have HG4 : Hid _ := heap_new w4 (.cells #[.int .u32 p0, .int .i64 p1] 32); have hx34 : Ext (w3.alloc (.cells #[.int .u32 p0, .int .i64 p1] 32)) (w4.alloc (.cells #[.int .u32 p0, .int .i64 p1] 32)) := hx4.alloc _; replace hrr := hrr.trans hx34)
        | (go_at_call 27; clear t2; refine (kC _ hrr).mono ?_; rintro e w5 ⟨v5, rfl, ho5, hx5⟩; replace hrr := hrr.trans hx5)
        | (go_at_call 27; refine (kD _ hrr).mono ?_; rintro e w6 ⟨v6, rfl, ho6, hx6⟩; replace hrr := hrr.trans hx6)
        | (go_at_call 24; refine (kP _ _ _ _ _ (owns_later ho5 hx6) ho6).mono ?_; rintro e w7 ⟨rfl, hx7⟩; replace hrr := hrr.trans hx7; have hxa := hx5.trans (hx6.trans hx7); have r0 : w7.cell? ⟨w3.heap.size, 0, none⟩ = some (.int .u32 p0) := (by rw [heap_cell ((hx34.trans hxa).heap HG3.out)]; rfl); have r1 : w7.cell? ⟨w3.heap.size, 1, none⟩ = some (.int .i64 p1) := (by rw [heap_cell ((hx34.trans hxa).heap HG3.out)]; rfl); have r2 : w7.cell? ⟨w4.heap.size, 0, none⟩ = some (.int .u32 p0) := (by rw [heap_cell (hxa.heap HG4.out)]; rfl); have r3 : w7.cell? ⟨w4.heap.size, 1, none⟩ = some (.int .i64 p1) := (by rw [heap_cell (hxa.heap HG4.out)]; rfl))
        | (go_at_call 28; clear t3; refine (kE _ hrr).mono ?_; rintro e w8 ⟨rfl, hw8⟩; subst hw8)
        | (go_at_call 28; refine (kF _ hrr).mono ?_; rintro e w9 ⟨rfl, hw9⟩; subst hw9)
        | (go_at_call 20; refine (kn _).mono ?_; rintro e w10 ⟨rfl, hx10⟩))
      go_ret
      exact ⟨rfl, ((hx1.trans hx).trans hrr).trans hx10⟩
    · obtain ⟨i, rfl⟩ : ∃ i, j = i + 1 := ⟨j - 1, by omega⟩
      have hil : i < (toL t).length := by omega
      obtain ⟨⟨⟨pa, pn⟩, u⟩, hxk⟩ : ∃ x, (toL t)[i]? = some x := ⟨_, List.getElem?_eq_getElem hil⟩
      obtain ⟨gp, gi, rfl, rfl, y0, y1, y2⟩ := HC.out i _ hxk
      simp only at y0 y1 y2
      have hmem : ((pa, pn), u) ∈ toL t := List.mem_of_getElem? hxk
      have hvp : Vp (pa, pn) := HS.out.2 _ hmem
      have hset : setS s (pa, pn) u = putS s (pa, pn) u := by unfold setS; rw [if_pos hvp.is]
      obtain ⟨hTs, hH, hLs, hss⟩ := HK.out
      have hnew : toL (putS s (pa, pn) u) = (toL t).drop i := by
        rw [put_toL hTs.wf hvp, hLs]
        have e : (toL t).drop i = ((pa, pn), u) :: (toL t).drop (i + 1) := by
          rw [List.drop_eq_getElem_cons hil, (List.getElem?_eq_some_iff.1 hxk).2]
        rw [e]
        refine set_ahead (x := ((pa, pn), u)) ?_
        rw [← e]
        exact List.Pairwise.sublist (List.drop_sublist _ _) HS.out.1
      have hsz2 := sz_put s (pa, pn) u
      have kS := Set_good w1.heap.size pa pn u s H wr.drew hvp (hTs.ext (Ext.refl wr).drew)
      have cast1 : (((i + 1 : Nat) : Int) - 1) = (i : Int) := by omega
      rw [cast1]
      have hi0 : (0 : Int) ≤ (i : Int) := by omega
      have hki : (i : Int) < ((toL t).length : Int) := by omega
      clear cast1 hset hmem hxk
      go_wp2_with fail
      refine wp_region_eagerN w1.heap.size [(0, false), (1, false), (2, false), (3, false), (4, false), (5, false), (6, false), (7, false), (8, false), (9, false), (10, false), (11, false), (12, false), (13, false), (14, false), (15, true)] (by kernel_rfl) (by kernel_rfl) rfl (by kernel_rfl) (fun _ _ _ _ _ h => h) ?_
      have hxd : Ext w1 wr.drew := hx.drew
      have z0 : ∀ w', ExtN w1.heap.size wr.drew w' → w'.cell? ⟨xb, 0, none⟩ = some (.slice (some ⟨gp, 0, none⟩) (toL t).length cp) := fun w' h => by rw [heap_cell (h.heap (heap_lt HX.out) (hxd.heap HX.out))]; rfl
      have z1 : ∀ w', ExtN w1.heap.size wr.drew w' → w'.cell? ⟨xb, 1, none⟩ = some (.slice (some ⟨gi, 0, none⟩) (toL t).length ci) := fun w' h => by rw [heap_cell (h.heap (heap_lt HX.out) (hxd.heap HX.out))]; rfl
      have cN : ∀ (g j : Nat) (v : Value), w1.cell? ⟨g, j, none⟩ = some v → ∀ w', ExtN w1.heap.size wr.drew w' → w'.cell? ⟨g, j, none⟩ = some v := fun g j v hv w' h => by
        have hl : g < w1.heap.size := block_lt hv
        rw [(ExtN.ext hxd h (Nat.le_refl _)).below.cell (p := ⟨g, j, none⟩) hl]; exact hv
      have z2 := cN _ _ _ y0
      have z3 := cN _ _ _ y1
      have z4 := cN _ _ _ y2
      clear cN y0 y1 y2
      generalize wr.drew = W at *
      repeat (first
        | (refine wpE_read (v := ?_) rfl (by rfl) ?_ ?_; rotate_left; (focus (intro w' hx; go_simp; first | done | with_reducible rfl)); simp only [Act.put, List.setIfInBounds_toArray, List.set_cons_zero, List.set_cons_succ])
        | (refine wpE_call rfl (by rfl) (fun K hK => ?_); go_simp; first
            | (go_at_call 15; refine kS.mono ?_; rintro e w3 ⟨rfl, H3, hT3, hx3, hn3⟩; have hnn : ExtN w1.heap.size W w3 := ⟨hx3.os, hx3.tape, hx3.output, hx3.size, fun k hk hk2 => hx3.block k hk2 (fun h => by have := hH k h; omega)⟩; refine hK _ _ hnn ?_; clear hK K)))
      refine wpE_done ?_
      clear z0 z1 z2 z3 z4
      go_wp2_with fail
      go_roundw
      case rel =>
        refine ⟨i, putS s (pa, pn) u, H3, by omega, by go_num, ExtN.ext hxd hnn (Nat.le_refl _), ⟨hT3, fun y hy => ?_, hnew, by omega⟩⟩
        rcases hn3 y hy with h | h
        · exact hH y h
        · have := hxd.size; omega
      case measure => simp [intOf]

theorem contract (H : Type) (enc : TypeId × Value → H) (W : World) (base : Nat) (args : Array Value) (ds gs : List (DataW H)) (before : List MemPlace)
    (hval : ∀ (j : Nat) t v, Try.f5.params[j]? = some t → args[j]? = some v → Value.okWide Try.prog W .any base t v)
    (hW : DataW.Whole enc Try.prog Try.f5.params.toList Rows.trieSetSpec.vars false W args.toList ds gs before) (hsh : W.ShapedOpen Try.prog) :
    Calls Try.prog 5 args W fun e W' => ∃ v, e = .returned v ∧ Rows.trieSetSpec.post enc Try.prog Try.f5 false true false false W args v W' := by
  have hW' := hW
  obtain ⟨p, q, hA0, hV, rfl, hfz, hnd⟩ := hW
  have hA : DataW.TrodAll enc Try.prog W 0 (fun _ => true) true Try.f5.params.toList args.toList ds p := hA0
  rw [Try.params5] at hA hval
  obtain ⟨v0, vs0, d0, ds0, p0, q0, hargs, rfl, rfl, h0, r0⟩ := trodAll_cons hA
  obtain ⟨v1, vs1, d1, ds1, p1, q1, rfl, rfl, rfl, h1, r1⟩ := trodAll_cons r0
  obtain ⟨rfl, rfl, rfl⟩ := trodAll_nil r1
  obtain rfl : args = #[v0, v1] := by cases args; simp_all
  obtain ⟨rfl, rfl⟩ := trodVars_none hV
  have k0 := h0
  have lt0 : ∀ x ∈ p0, x.block < W.heap.size := by obtain ⟨m, hm⟩ := k0; exact DataW.trod_lt m _ _ _ hm
  obtain ⟨b0, l0, c0, rfl⟩ := okWide_slice Try.underlying22 (hval 0 22 v0 rfl rfl)
  obtain ⟨fu0, hf0⟩ := h0
  obtain ⟨a0, len0, cap0, zs0, ce0, row0⟩ := open_rowG 4 cells34 ok34 (by omega) cells34_length Try.underlying22 (by kernel_rfl) elem34 hf0
  obtain ⟨rfl, rfl, rfl⟩ : a0 = b0 ∧ len0 = l0 ∧ cap0 = c0 := by simpa [Value.cells, eq_comm] using ce0
  obtain ⟨a1, rfl, rfl, rfl, w1⟩ := open_int Try.underlying30 (hval 1 30 v1 rfl rfl) h1
  clear hA0
  refine (walk a0 len0 cap0 zs0 a1 W row0 w1 hsh).mono fun e W' ⟨he, bel⟩ => ?_
  subst he
  exact ⟨_, rfl, _, _, _, [], _, [], hW', trodAll_mk1 (shut_bool Try.underlying4 _), (trodAll_cons_mk (Below.trod laidOut (by kernel_rfl) (of_decide_eq_true (by kernel_rfl)) k0 bel lt0) (trodAll_cons_mk (shut_int Try.underlying30 w1) trodAll_mk0)), rfl, bel.frame _, fun h => by cases h⟩

theorem laid_met (os : Os) : laidMet Try.prog Rows.trieSetRow.laid ((World.doorLaid Try.prog 24 os).forCall (fun _ _ => 0) ⟨#[], #[.slice none 0 0, .int .u32 0], []⟩).memory :=
  laidMet_of_run' 8 (by kernel_rfl) (by kernel_rfl)
theorem reads (os : Os) {H : Type} (enc : TypeId × Value → H) : ∃ places, DataW.whole enc Try.prog ((World.doorLaid Try.prog 24 os).forCall (fun _ _ => 0) ⟨#[], #[.slice none 0 0, .int .u32 0], []⟩).memory Try.f5.params.toList Rows.trieSetSpec.vars false (#[.slice none 0 0, .int .u32 0] : Array Value).toList 8 = some ([.nil, .lit (.int .u32 0)], [], places) :=
  ⟨[], by kernel_rfl⟩

set_option maxRecDepth 100000 in
theorem lifted (os : Os) (started : os.Started) (H : Type) (enc : TypeId × Value → H) (F : Stop.Interp) :
    ReturnsInHanded {} Try.checked os 5 .any ((OpenSpec.ofChange Rows.trieSetSpec).preRow enc Try.prog Try.f5 Rows.trieSetRow.domain false Rows.trieSetRow.laid) (((OpenSpec.ofChange Rows.trieSetSpec).at F).post enc Try.prog Try.f5 false true false false) := by
  obtain ⟨places, hx⟩ := reads os enc
  refine returnsInHanded_of_row (C := Try.checked) (s := (OpenSpec.ofChange Rows.trieSetSpec)) own started (by kernel_rfl) Try.func5
    (witness_row_at (enc := enc) (C := Try.checked) false (World.doorLaid Try.prog 24 os) #[.slice none 0 0, .int .u32 0] rfl (by kernel_rfl) (by kernel_rfl) (by kernel_rfl)
      (OpenSpec.preRow_of_cond 8 hx (by kernel_rfl) (fun k hk => by cases hk) (by kernel_rfl) (laid_met os))) ?_
  intro W base args ds gs before hval hW _ hcond _ hL hsh _
  exact contract H enc W base args ds gs before hval hW hsh

theorem said : Rows.TrieSetSaid :=
  OpenClaim.holds_of_cond 5 Try.f5 rfl rfl rfl rfl rfl rfl rfl ⟨rfl, rfl, rfl, rfl, rfl⟩ rfl rfl rfl rfl rfl (by kernel_rfl) Try.func5 (by kernel_rfl)
    (of_decide_eq_true (by kernel_rfl)) (by unfold Func.isWrapper; first | (rw [if_pos (by decide +kernel)]; kernel_rfl) | (rw [if_neg (by decide +kernel)]; exact ⟨rfl, rfl⟩))
    (fun os started H enc _ F => by rw [OpenClaim.pre_eq_preRow]; exact lifted os started H enc F)

end Go.Proofs.Ytgcnnblngmomhaa.trieSet

namespace Go.Proofs.Ytgcnnblngmomhaa
theorem trieSet_holds : Rows.TrieSetSaid := trieSet.said
#print axioms trieSet_holds
end Go.Proofs.Ytgcnnblngmomhaa
