/- For every script and every number, the law TrieDel returns true: a prefix that is taken away is not there, all others are as they were, and laid anew all is as it was; no condition. -/
import Derived.Test.YtgcnnblngmomhaaRows
import Derived.Test.YtgcnnblngmomhaaLaw9M
import Derived.Test.YtgcnnblngmomhaaFrame
import Derived.Test.YtgcnnblngmomhaaRowG
import Derived.WalkKit
import Derived.ProofKit
import Derived.OpenShut
import Derived.ShutString
import Derived.ChangeOld
import Derived.Deep.DeepHandedRow
import Derived.Lib.LaidTab
import Derived.Lib.SmallJoins
import Derived.LaidMore
import Derived.Stop.LaidErr
import Derived.ChangeMaps5
namespace Go.Proofs.Ytgcnnblngmomhaa.trieDel
open Go.ChangeShapes Go.WideShapes Go.ChangeAt Go.RowKit Go.ChangeMaps
set_option linter.unusedVariables false
set_option maxRecDepth 100000

theorem own : ownKnob Try.prog.godebug = none := by kernel_rfl
theorem laidOut : laidOutB Try.prog = true := by kernel_rfl

abbrev Elem34 := Bool × Int × Int × Int
def cells34 (z : Elem34) : List Value := [.bool (z.1), .int .u32 (z.2.1), .int .i64 (z.2.2.1), .int .i64 (z.2.2.2)]
def ok34 (z : Elem34) : Prop := (Lit.int .u32 (z.2.1)).wf = true ∧ (Lit.int .i64 (z.2.2.1)).wf = true ∧ (Lit.int .i64 (z.2.2.2)).wf = true
theorem cells34_length (z : Elem34) : (cells34 z).length = 4 := rfl
theorem elem34 {H : Type} {enc : TypeId × Value → H} {w : World} {base : Nat} {spare : Nat → Bool} {held : Bool} (n : Nat) (cs : List Value) (y : DataW H × List MemPlace)
    (h : DataW.trod enc Try.prog w base spare held n 34 cs = some y) : ∃ z : Elem34, cs = cells34 z ∧ ok34 z := by
  have hl : cs.length = 4 := by
    obtain ⟨_, _, _, _, hl, _⟩ := DataW.trod_struct Try.underlying34 h
    exact hl.trans (by kernel_rfl)
  obtain ⟨u0, u1, u2, u3, rfl⟩ : ∃ u0 u1 u2 u3, cs = [u0, u1, u2, u3] := by
    match cs, hl with
    | [u0, u1, u2, u3], _ => exact ⟨u0, u1, u2, u3, rfl⟩
  obtain ⟨_, _, e1⟩ := field_at Try.underlying34 h 0 rfl 1 (by kernel_rfl)
  obtain ⟨az0, c2, _⟩ := DataW.trod_bool Try.underlying4 e1
  obtain rfl : u0 = .bool az0 := by simpa using c2
  obtain ⟨_, _, e3⟩ := field_at Try.underlying34 h 1 rfl 2 (by kernel_rfl)
  obtain ⟨_, _, e4⟩ := field_at Try.underlying32 e3 0 rfl 1 (by kernel_rfl)
  obtain ⟨az10, c5, _, wz10⟩ := DataW.trod_int Try.underlying30 e4
  obtain rfl : u1 = .int .u32 az10 := by simpa using c5
  obtain ⟨_, _, e6⟩ := field_at Try.underlying32 e3 1 rfl 1 (by kernel_rfl)
  obtain ⟨az11, c7, _, wz11⟩ := DataW.trod_int Try.underlying3 e6
  obtain rfl : u2 = .int .i64 az11 := by simpa using c7
  obtain ⟨_, _, e8⟩ := field_at Try.underlying34 h 2 rfl 1 (by kernel_rfl)
  obtain ⟨az2, c9, _, wz2⟩ := DataW.trod_int Try.underlying3 e8
  obtain rfl : u3 = .int .i64 az2 := by simpa using c9
  exact ⟨(az0, az10, az11, az2), rfl, ⟨wz10, wz11, wz2⟩⟩

open Go.Proofs.Ytgcnnblngmomhaa.Tri

theorem set_del {L : Row} (hs : Srt L) {p : PX} {u : Int} (h : (p, u) ∈ L) : Tri.setL (delL L p) p u = L := by
  refine srt_ext (set_srt (del_srt hs p) p u) hs fun x => ?_
  rw [set_mem (del_srt hs p), del_mem]
  constructor
  · rintro (rfl | ⟨⟨h1, _⟩, _⟩)
    · exact h
    · exact h1
  · intro hx
    by_cases e : x.1 = p
    · exact .inl (srt_key hs hx h e)
    · exact .inr ⟨⟨hx, e⟩, e⟩

theorem del_len {L : Row} (hs : Srt L) {p : PX} (h : foundB L p = true) : (delL L p).length + 1 = L.length := by
  obtain ⟨u, hu⟩ := foundB_iff.1 h
  have hk := (List.getElem?_eq_some_iff.1 hu).1
  rw [del_found hs h]
  simp only [List.length_append, List.length_take, List.length_drop]
  omega

theorem del_gone {L : Row} (hs : Srt L) (p : PX) : foundB (delL L p) p = false := by
  cases h : foundB (delL L p) p with
  | false => rfl
  | true =>
    obtain ⟨u, hu⟩ := (found_mem (del_srt hs p)).1 h
    exact absurd rfl (del_mem.1 hu).2

theorem extN_alloc2 {N : Nat} {W : World} (h : N ≤ W.heap.size) (o o' : Obj) : ExtN N (W.alloc o) (W.alloc o') :=
  ⟨rfl, rfl, rfl, by simp, fun k hk _ => by rw [Below.heap_alloc W o' k (by omega), Below.heap_alloc W o k (by omega)]⟩

theorem i64_and16 (n : Int) : bits .and .i64 n 65535 = n % 65536 := by
  have h127 : (BitVec.ofInt 64 65535).toNat = 2 ^ 16 - 1 := by decide
  have key : (BitVec.ofInt 64 n &&& BitVec.ofInt 64 65535).toNat = (n % ((2 ^ 64 : Nat) : Int)).toNat % 2 ^ 16 := by
    rw [BitVec.toNat_and, BitVec.toNat_ofInt, h127, Nat.and_two_pow_sub_one_eq_mod]
  show IntKind.i64.wrap ((BitVec.ofInt 64 n &&& BitVec.ofInt 64 65535).toNat : Nat) = n % 65536
  rw [key, IntKind.wrap_i64]
  omega

set_option maxHeartbeats 4000000 in
theorem walk (a0 : Option Addr) (len0 cap0 : Nat) (zs0 : List Elem34) (a1 : Int) (w : World) (row0 : IsRowG 4 cells34 ok34 w a0 len0 cap0 zs0) (w1 : (Lit.int .i64 a1).wf = true) (hsh : w.ShapedOpen Try.prog) :
    Calls Try.prog 9 #[.slice a0 len0 cap0, .int .i64 a1] w fun e w' => e = .returned (.bool true) ∧ Below w.heap.size w w' := by
  have row : IsRowG 4 actC actOk w a0 len0 cap0 zs0 := row0
  have k1 := laid_any a0 len0 cap0 zs0 w row
  have kn := fun w => known_any w
  clear row row0
  go_enter Try.func9, Try.ntmps9
  go_wp2_with fail
  go_at_call 21
  refine k1.mono ?_
  rintro e w1 ⟨tb, xb, t, F, G, rfl, hB, hsz, hx1⟩
  obtain ⟨ap, cp, ai, ci, hX, hcell⟩ := hB.ref.open
  have x0 : w1.cell? ⟨xb, 0, none⟩ = some (.slice ap (toL t).length cp) := by rw [heap_cell hX]; rfl
  have x1 : w1.cell? ⟨xb, 1, none⟩ = some (.slice ai (toL t).length ci) := by rw [heap_cell hX]; rfl
  have hll := toL_len t
  clear k1
  by_cases hn : (toL t).length = 0
  · have hL : toL t = [] := List.length_eq_zero_iff.1 hn
    have kd := Del_any tb 0 0 t F w1 (by omega) (by omega) hB.trie
    rw [hL] at kd
    have e0 : foundB [] (0, 0) = false := rfl
    rw [e0] at kd
    rw [hn] at x0
    clear hX hcell x1 hll hn hL e0
    go_wp2_with (first
      | (go_at_call 13; refine kd.mono ?_; rintro e w2 ⟨rfl, F2, hT2, hx2, hn2⟩)
      | (go_at_call 20; refine (kn _).mono ?_; rintro e w3 ⟨rfl, hx3⟩))
    go_ret
    exact ⟨rfl, (((hx1.toS F).trans hx2).ext hB.newF).trans hx3⟩
  · have hpos : 0 < (toL t).length := by omega
    obtain ⟨k, hk, hkn⟩ : ∃ k : Nat, (bits .and .i64 a1 65535).tmod ((toL t).length : Int) = (k : Int) ∧ k < (toL t).length := by
      rw [i64_and16]
      have h0 : 0 ≤ a1 % 65536 := Int.emod_nonneg _ (by omega)
      rw [Int.tmod_eq_emod_of_nonneg h0]
      have h1 : 0 ≤ a1 % 65536 % ((toL t).length : Int) := Int.emod_nonneg _ (by omega)
      have h2 : a1 % 65536 % ((toL t).length : Int) < ((toL t).length : Int) := Int.emod_lt_of_pos _ (by omega)
      obtain ⟨k, hk⟩ := Int.eq_ofNat_of_zero_le h1
      exact ⟨k, hk, by omega⟩
    obtain ⟨⟨⟨pa, pn⟩, u⟩, hxk⟩ : ∃ x, (toL t)[k]? = some x := ⟨_, List.getElem?_eq_getElem hkn⟩
    obtain ⟨gp, gi, rfl, rfl, y0, y1, y2⟩ := hcell k _ hxk
    simp only at y0 y1 y2
    have hmem : ((pa, pn), u) ∈ toL t := List.mem_of_getElem? hxk
    have hwf := hB.trie.wf
    have hvp : Vp (pa, pn) := hwf.vp hmem
    have hbd := hvp.bd
    have hsr := srt_toL hwf
    have hfo : foundB (toL t) (pa, pn) = true := (found_mem hsr).2 ⟨u, hmem⟩
    have hki : (k : Int) < ((toL t).length : Int) := by omega
    have hne0 : (((toL t).length : Int) == 0) = false := by rw [beq_eq_false_iff_ne]; omega
    have HM : Hid (((pa, pn), u) ∈ toL t) := hmem
    simp only at hbd
    have hlt := hB.trie.lt
    have HB : Hid _ := hB
    have hnew := hB.newF
    clear hxk hn hmem hcell hB
    have HT : Hid (TrieAt w1 tb t F) := HB.out.trie
    have HX : Hid _ := hX
    clear hX
    go_wp2_with fail
    refine wp_region_eagerN w1.heap.size [(0, false), (1, false), (2, false), (3, false), (4, false), (5, false), (6, false), (7, false), (8, false), (9, false), (10, false), (11, false), (12, false), (13, false), (14, true), (15, true), (16, false)] (by kernel_rfl) (by kernel_rfl) rfl (by kernel_rfl) (fun _ _ _ _ _ h => h) ?_
    have z0 : ∀ w', ExtN w1.heap.size w1.drew w' → w'.cell? ⟨xb, 0, none⟩ = some (.slice (some ⟨gp, 0, none⟩) (toL t).length cp) := fun w' h => by rw [heap_cell (h.heap (heap_lt HX.out) HX.out)]; rfl
    have z1 : ∀ w', ExtN w1.heap.size w1.drew w' → w'.cell? ⟨xb, 1, none⟩ = some (.slice (some ⟨gi, 0, none⟩) (toL t).length ci) := fun w' h => by rw [heap_cell (h.heap (heap_lt HX.out) HX.out)]; rfl
    have cN : ∀ (g j : Nat) (v : Value), w1.cell? ⟨g, j, none⟩ = some v → ∀ w', ExtN w1.heap.size w1.drew w' → w'.cell? ⟨g, j, none⟩ = some v := fun g j v hv w' h => by
      have hl : g < w1.heap.size := block_lt hv
      have := h.block g hl hl
      unfold World.cell? at hv ⊢
      rw [this]; exact hv
    have z2 := cN _ _ _ y0
    have z3 := cN _ _ _ y1
    have z4 := cN _ _ _ y2
    have hxd : Ext w1 w1.drew := (Ext.refl w1).drew
    clear cN y0 y1 y2 x0 x1
    generalize w1.drew = W at *
    iterate 14 (refine wpE_read (v := ?_) rfl (by rfl) ?_ ?_; rotate_left; (focus (intro w' hx; go_simp; first | done | with_reducible rfl)); simp only [Act.put, List.setIfInBounds_toArray, List.set_cons_zero, List.set_cons_succ])
    clear z0 z1 z2 z3 z4
    refine wpE_call rfl (by rfl) (fun K hK => ?_)
    go_simp
    refine hK _ _ (((Ext.refl _).alloc _).upto _) ?_
    clear hK K
    have HG : Hid _ := heap_new W (.cells #[.int .u32 0, .int .i64 0] 32)
    have e0 : (W.alloc (.cells #[.int .u32 0, .int .i64 0] 32)).cell? ⟨W.heap.size, 0, none⟩ = some (.int .u32 0) := by rw [heap_cell HG.out]; rfl
    have e1 : (W.alloc (.cells #[.int .u32 0, .int .i64 0] 32)).cell? ⟨W.heap.size, 1, none⟩ = some (.int .i64 0) := by rw [heap_cell HG.out]; rfl
    have f0 : (W.alloc (.cells #[.int .u32 0, .int .i64 0] 32)).frozen? ⟨W.heap.size, 0, none⟩ = false := heap_frozen HG.out
    have f1 : (W.alloc (.cells #[.int .u32 0, .int .i64 0] 32)).frozen? ⟨W.heap.size, 1, none⟩ = false := heap_frozen HG.out
    refine wpE_call rfl (by rfl) (fun K hK => ?_)
    go_simp
    have hNW : w1.heap.size ≤ W.heap.size := hxd.size
    refine hK _ _ (extN_alloc2 hNW _ _) ?_
    clear hK K
    have HG2 : Hid _ := heap_new W (.cells #[.int .u32 pa, .int .i64 pn] 32)
    have hx2 : Ext w1 (W.alloc (.cells #[.int .u32 pa, .int .i64 pn] 32)) := hxd.alloc _
    have hg8lt : W.heap.size < (W.alloc (.cells #[.int .u32 pa, .int .i64 pn] 32)).heap.size := heap_lt HG2.out
    clear e0 e1 f0 f1 HG hxd
    generalize (W.alloc (.cells #[.int .u32 pa, .int .i64 pn] 32)) = w2 at *
    generalize hg8 : W.heap.size = g8 at *
    clear hg8
    (refine wpE_read (v := ?_) rfl (by rfl) ?_ ?_; rotate_left; (focus (intro w' hx; go_simp; first | done | with_reducible rfl)); simp only [Act.put, List.setIfInBounds_toArray, List.set_cons_zero, List.set_cons_succ])
    refine wpE_done ?_
    have hT2 : TrieAt w2 tb t F := HT.out.ext hx2
    have kN := tNodes hT2 (by omega)
    have kW := tWalk hT2 (by omega)
    have hg8F : g8 ∉ F := fun h => by have := hlt _ h; omega
    have HG8 : Hid (g8 ∉ F) := hg8F
    have HLT : Hid (∀ y ∈ F, y < w1.heap.size) := hlt
    have HF : Hid (∀ y ∈ F, w.heap.size ≤ y) := hnew
    have HS : Hid (Srt (toL t) ∧ foundB (toL t) (pa, pn) = true ∧ Vp (pa, pn)) := ⟨hsr, hfo, hvp⟩
    have tokN : Hid True := trivial
    have tokW : Hid True := trivial
    have tokD : Hid True := trivial
    have hdl := del_len hsr hfo
    have hdg := del_gone hsr (pa, pn)
    have hd1 : toL (delS t (pa, pn)) = delL (toL t) (pa, pn) := del_toL hwf _
    have hds := sz_del t (pa, pn)
    have hst : Tri.setL (delL (toL t) (pa, pn)) (pa, pn) u = toL t := set_del hsr HM.out
    have HE : Hid (toL (delS t (pa, pn)) = delL (toL t) (pa, pn) ∧ foundB (delL (toL t) (pa, pn)) (pa, pn) = false ∧ Tri.setL (delL (toL t) (pa, pn)) (pa, pn) u = toL t) := ⟨hd1, hdg, hst⟩
    clear hT2 hg8F hlt hnew hsr hfo hvp hdg hd1 hst
    obtain ⟨q0, q1⟩ : w2.cell? ⟨g8, 0, none⟩ = some (.int .u32 pa) ∧ w2.cell? ⟨g8, 1, none⟩ = some (.int .i64 pn) := ⟨by rw [heap_cell HG2.out]; rfl, by rw [heap_cell HG2.out]; rfl⟩
    obtain ⟨ln, hln⟩ : ∃ ln, nodesL (toL t) = ln := ⟨_, rfl⟩
    rw [hln] at kN
    have HLN : Hid _ := hln
    clear hln
    have hxw2 : Ext w w2 := hx1.trans hx2
    obtain ⟨m1, hm1⟩ : ∃ m1, (delL (toL t) (pa, pn)).length = m1 := ⟨_, rfl⟩
    have hmn : ((toL t).length : Int) - 1 = (m1 : Int) := by omega
    have HM1 : Hid _ := hm1
    have HDT : Hid (toL (delS (delS t (pa, pn)) (pa, pn)) = delL (toL t) (pa, pn) ∧ szS (delS (delS t (pa, pn)) (pa, pn)) ≤ 160) := by
      refine ⟨?_, ?_⟩
      · have hw5 : WF (delS t (pa, pn)) := by unfold delS; split; exact cut_wf hwf; exact hwf
        rw [del_toL hw5, HE.out.1, del_not (del_srt HS.out.1 _) HE.out.2.1]
      · have := sz_del (delS t (pa, pn)) (pa, pn); omega
    have hs12 : w1.heap.size ≤ w2.heap.size := hx2.size
    clear hdl hm1
    go_wp2_with (first
      | (go_at_call 28; clear tokN; refine kN.mono ?_; rintro e w3 ⟨rfl, hw3⟩; subst hw3)
      | (go_at_call 27; clear tokW; refine kW.mono ?_; rintro e w4 ⟨vw, rfl, hoW, hx4⟩; obtain ⟨aw, cw, rfl, -, -, -⟩ := owns_slice hoW; simp only [List.length_map] at hoW ⊢; have hs24 : w3.heap.size ≤ w4.heap.size := hx4.size; have q2 : w4.cell? ⟨g8, 0, none⟩ = some (.int .u32 pa) := (by rw [heap_cell (hx4.heap HG2.out)]; rfl); have q3 : w4.cell? ⟨g8, 1, none⟩ = some (.int .i64 pn) := (by rw [heap_cell (hx4.heap HG2.out)]; rfl))
      | (go_at_call 13; clear tokD; have kD := Del_any tb pa pn t F w4 hbd.1 hbd.2.1 (HT.out.ext (hx2.trans hx4)); rw [HS.out.2.1] at kD; refine kD.mono ?_; clear kD; rintro e w5 ⟨rfl, F5, hT5, hx5, hn5⟩; have q4 : w5.cell? ⟨g8, 0, none⟩ = some (.int .u32 pa) := (by rw [heap_cell (hx5.heap HG8.out (hx4.heap HG2.out))]; rfl); have q5 : w5.cell? ⟨g8, 1, none⟩ = some (.int .i64 pn) := (by rw [heap_cell (hx5.heap HG8.out (hx4.heap HG2.out))]; rfl))
      | (go_at_call 17; have kG := tGet hT5 pa pn hbd.1 hbd.2.1; rw [HE.out.1, getL_not HE.out.2.1] at kG; refine kG.mono ?_; clear kG; rintro e w6 ⟨rfl, hx6⟩; have q6 : w6.cell? ⟨g8, 0, none⟩ = some (.int .u32 pa) := (by rw [heap_cell (hx6.heap (hx5.heap HG8.out (hx4.heap HG2.out)))]; rfl); have q7 : w6.cell? ⟨g8, 1, none⟩ = some (.int .i64 pn) := (by rw [heap_cell (hx6.heap (hx5.heap HG8.out (hx4.heap HG2.out)))]; rfl); have HT6 : Hid _ := hT5.ext hx6)
      | (go_at_call 31; have kL := tLen HT6.out (by omega); rw [HE.out.1, HM1.out] at kL; refine kL.mono ?_; clear kL; rintro e w7 ⟨rfl, hw7⟩; subst hw7)
      | (go_at_call 13; have kD := Del_any tb pa pn _ F5 _ hbd.1 hbd.2.1 HT6.out; rw [HE.out.1, HE.out.2.1] at kD; refine kD.mono ?_; clear kD; rintro e w8 ⟨rfl, F8, hT8, hx8, hn8⟩; have hg85 : g8 ∉ F5 := (fun h => by rcases hn5 _ h with h | h; exact HG8.out h; omega); have q8 : w8.cell? ⟨g8, 0, none⟩ = some (.int .u32 pa) := (by rw [heap_cell (hx8.heap hg85 (hx6.heap (hx5.heap HG8.out (hx4.heap HG2.out))))]; rfl); have q9 : w8.cell? ⟨g8, 1, none⟩ = some (.int .i64 pn) := (by rw [heap_cell (hx8.heap hg85 (hx6.heap (hx5.heap HG8.out (hx4.heap HG2.out))))]; rfl); clear hg85)
      | (go_at_call 15; have kS := Set_good tb pa pn u _ F8 w8 HS.out.2.2 hT8; refine kS.mono ?_; clear kS; rintro e w9 ⟨rfl, F9, hT9, hx9, hn9⟩; have hL9 := put_toL hT8.wf HS.out.2.2 u; rw [HDT.out.1, HE.out.2.2] at hL9; have hs9 := sz_put (delS (delS t (pa, pn)) (pa, pn)) (pa, pn) u; have hs9' := HDT.out.2; have HL9 : Hid _ := hL9; clear hL9)
      | (go_at_call 27; have kW2 := tWalk hT9 (by omega); rw [HL9.out] at kW2; refine kW2.mono ?_; clear kW2; rintro e w10 ⟨v10, rfl, ho10, hx10⟩)
      | (go_at_call 24; have hoB : OwnP w10 w3.heap.size (.slice aw (toL t).length cw) ((toL t).map (·.1)) := (by
          have b1 : ∀ g, (Value.slice aw (toL t).length cw).ownBlock = some g → w3.heap.size ≤ g ∧ g < w4.heap.size := fun g hg => ⟨(owns_block hoW hg).1, (owns_block hoW hg).2.1⟩
          have c1 : ∀ g, (Value.slice aw (toL t).length cw).ownBlock = some g → g ∉ F := fun g hg h => by have := HLT.out g h; have := b1 g hg; omega
          have c2 : ∀ g, (Value.slice aw (toL t).length cw).ownBlock = some g → g ∉ F5 := fun g hg h => by rcases hn5 g h with h | h; exact c1 g hg h; have := b1 g hg; omega
          have s45 := hx5.size
          have s56 := hx6.size
          have c3 : ∀ g, (Value.slice aw (toL t).length cw).ownBlock = some g → g ∉ F8 := fun g hg h => by rcases hn8 g h with h | h; exact c2 g hg h; have := b1 g hg; omega
          exact owns_later (owns_laterS (owns_laterS (owns_later (owns_laterS hoW hx5 c1) hx6) hx8 c2) hx9 c3) hx10); have kP := prefixes_any w9.heap.size w3.heap.size v10 (.slice aw (toL t).length cw) ((toL t).map (·.1)) ((toL t).map (·.1)) w10 ho10 hoB (by rw [List.length_map]; omega) (by rw [List.length_map]; omega); rw [decide_eq_true rfl] at kP; refine kP.mono ?_; clear kP hoB; rintro e w11 ⟨rfl, hx11⟩)
      | (go_at_call 28; have kN2 := tNodes (hT9.ext (hx10.trans hx11)) (by omega); rw [HL9.out, HLN.out] at kN2; refine kN2.mono ?_; clear kN2; rintro e w12 ⟨rfl, hw12⟩; subst hw12)
      | (go_at_call 20; refine (kn _).mono ?_; rintro e w13 ⟨rfl, hx13⟩))
    go_ret
    have s35 : Ext w w5 := (((hxw2.trans hx4).toS F).trans hx5).ext HF.out
    have s56 : Ext w w7 := s35.trans hx6
    have f5 : ∀ y ∈ F5, w.heap.size ≤ y := fun y hy => by rcases hn5 y hy with h | h; exact HF.out y h; have := (hxw2.trans hx4).size; omega
    have s58 : Ext w w8 := ((s56.toS F5).trans hx8).ext f5
    have f8 : ∀ y ∈ F8, w.heap.size ≤ y := fun y hy => by rcases hn8 y hy with h | h; exact f5 y h; have := s56.size; omega
    have s59 : Ext w w9 := ((s58.toS F8).trans hx9).ext f8
    exact ⟨rfl, ((s59.trans hx10).trans hx11).trans hx13⟩

theorem contract (H : Type) (enc : TypeId × Value → H) (W : World) (base : Nat) (args : Array Value) (ds gs : List (DataW H)) (before : List MemPlace)
    (hval : ∀ (j : Nat) t v, Try.f9.params[j]? = some t → args[j]? = some v → Value.okWide Try.prog W .any base t v)
    (hW : DataW.Whole enc Try.prog Try.f9.params.toList Rows.trieDelSpec.vars false W args.toList ds gs before) (hsh : W.ShapedOpen Try.prog) :
    Calls Try.prog 9 args W fun e W' => ∃ v, e = .returned v ∧ Rows.trieDelSpec.post enc Try.prog Try.f9 false true false false W args v W' := by
  have hW' := hW
  obtain ⟨p, q, hA0, hV, rfl, hfz, hnd⟩ := hW
  have hA : DataW.TrodAll enc Try.prog W 0 (fun _ => true) true Try.f9.params.toList args.toList ds p := hA0
  rw [Try.params9] at hA hval
  obtain ⟨v0, vs0, d0, ds0, p0, q0, hargs, rfl, rfl, h0, r0⟩ := trodAll_cons hA
  obtain ⟨v1, vs1, d1, ds1, p1, q1, rfl, rfl, rfl, h1, r1⟩ := trodAll_cons r0
  obtain ⟨rfl, rfl, rfl⟩ := trodAll_nil r1
  obtain rfl : args = #[v0, v1] := by cases args; simp_all
  obtain ⟨rfl, rfl⟩ := trodVars_none hV
  have k0 := h0
  have lt0 : ∀ x ∈ p0, x.block < W.heap.size := by obtain ⟨m, hm⟩ := k0; exact DataW.trod_lt m _ _ _ hm
  obtain ⟨b0, l0, c0, rfl⟩ := okWide_slice Try.underlying22 (hval 0 22 v0 rfl rfl)
  obtain ⟨fu0, hf0⟩ := h0
  obtain ⟨a0, len0, cap0, zs0, ce0, row0⟩ := open_rowG 4 cells34 ok34 (by omega) cells34_length Try.underlying22 (by kernel_rfl) elem34 hf0
  obtain ⟨rfl, rfl, rfl⟩ : a0 = b0 ∧ len0 = l0 ∧ cap0 = c0 := by simpa [Value.cells, eq_comm] using ce0
  obtain ⟨a1, rfl, rfl, rfl, w1⟩ := open_int Try.underlying3 (hval 1 3 v1 rfl rfl) h1
  clear hA0
  refine (walk a0 len0 cap0 zs0 a1 W row0 w1 hsh).mono fun e W' ⟨he, bel⟩ => ?_
  subst he
  exact ⟨_, rfl, _, _, _, [], _, [], hW', trodAll_mk1 (shut_bool Try.underlying4 _), (trodAll_cons_mk (Below.trod laidOut (by kernel_rfl) (of_decide_eq_true (by kernel_rfl)) k0 bel lt0) (trodAll_cons_mk (shut_int Try.underlying3 w1) trodAll_mk0)), rfl, bel.frame _, fun h => by cases h⟩

theorem laid_met (os : Os) : laidMet Try.prog Rows.trieDelRow.laid ((World.doorLaid Try.prog 24 os).forCall (fun _ _ => 0) ⟨#[], #[.slice none 0 0, .int .i64 0], []⟩).memory :=
  laidMet_of_run' 8 (by kernel_rfl) (by kernel_rfl)
theorem reads (os : Os) {H : Type} (enc : TypeId × Value → H) : ∃ places, DataW.whole enc Try.prog ((World.doorLaid Try.prog 24 os).forCall (fun _ _ => 0) ⟨#[], #[.slice none 0 0, .int .i64 0], []⟩).memory Try.f9.params.toList Rows.trieDelSpec.vars false (#[.slice none 0 0, .int .i64 0] : Array Value).toList 8 = some ([.nil, .lit (.int .i64 0)], [], places) :=
  ⟨[], by kernel_rfl⟩

set_option maxRecDepth 100000 in
theorem lifted (os : Os) (started : os.Started) (H : Type) (enc : TypeId × Value → H) (F : Stop.Interp) :
    ReturnsInHanded {} Try.checked os 9 .any ((OpenSpec.ofChange Rows.trieDelSpec).preRow enc Try.prog Try.f9 Rows.trieDelRow.domain false Rows.trieDelRow.laid) (((OpenSpec.ofChange Rows.trieDelSpec).at F).post enc Try.prog Try.f9 false true false false) := by
  obtain ⟨places, hx⟩ := reads os enc
  refine returnsInHanded_of_row (C := Try.checked) (s := (OpenSpec.ofChange Rows.trieDelSpec)) own started (by kernel_rfl) Try.func9
    (witness_row_at (enc := enc) (C := Try.checked) false (World.doorLaid Try.prog 24 os) #[.slice none 0 0, .int .i64 0] rfl (by kernel_rfl) (by kernel_rfl) (by kernel_rfl)
      (OpenSpec.preRow_of_cond 8 hx (by kernel_rfl) (fun k hk => by cases hk) (by kernel_rfl) (laid_met os))) ?_
  intro W base args ds gs before hval hW _ hcond _ hL hsh _
  exact contract H enc W base args ds gs before hval hW hsh

theorem said : Rows.TrieDelSaid :=
  OpenClaim.holds_of_cond 9 Try.f9 rfl rfl rfl rfl rfl rfl rfl ⟨rfl, rfl, rfl, rfl, rfl⟩ rfl rfl rfl rfl rfl (by kernel_rfl) Try.func9 (by kernel_rfl)
    (of_decide_eq_true (by kernel_rfl)) (by unfold Func.isWrapper; first | (rw [if_pos (by decide +kernel)]; kernel_rfl) | (rw [if_neg (by decide +kernel)]; exact ⟨rfl, rfl⟩))
    (fun os started H enc _ F => by rw [OpenClaim.pre_eq_preRow]; exact lifted os started H enc F)

end Go.Proofs.Ytgcnnblngmomhaa.trieDel

namespace Go.Proofs.Ytgcnnblngmomhaa
theorem trieDel_holds : Rows.TrieDelSaid := trieDel.said
#print axioms trieDel_holds
end Go.Proofs.Ytgcnnblngmomhaa
