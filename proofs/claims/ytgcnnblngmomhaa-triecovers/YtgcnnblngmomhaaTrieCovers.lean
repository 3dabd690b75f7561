/- For every script and every prefix, the law TrieCovers returns true: all that cover a prefix rise by their lengths, each covers the next, and each is there; no condition. -/
import Derived.Test.YtgcnnblngmomhaaRows
import Derived.Test.YtgcnnblngmomhaaLaw9M
import Derived.Test.YtgcnnblngmomhaaTrieC
import Derived.Test.YtgcnnblngmomhaaFrame
import Derived.Test.YtgcnnblngmomhaaRowG
import Derived.WalkKit
import Derived.ProofKit
import Derived.OpenShut
import Derived.ShutString
import Derived.ChangeOld
import Derived.Deep.DeepHandedRow
import Derived.Lib.LaidTab
import Derived.Lib.SmallJoins
import Derived.LaidMore
import Derived.Stop.LaidErr
import Derived.ChangeMaps5
namespace Go.Proofs.Ytgcnnblngmomhaa.trieCovers
open Go.ChangeShapes Go.WideShapes Go.ChangeAt Go.RowKit Go.ChangeMaps
set_option linter.unusedVariables false
set_option maxRecDepth 100000

theorem own : ownKnob Try.prog.godebug = none := by kernel_rfl
theorem laidOut : laidOutB Try.prog = true := by kernel_rfl

theorem arr2 {α : Type} {cs : Array α} (h : cs.size = 2) : ∃ c0 c1, cs = #[c0, c1] := by
  obtain ⟨l⟩ := cs
  match l, h with
  | [c0, c1], _ => exact ⟨c0, c1, rfl⟩

abbrev Elem34 := Bool × Int × Int × Int
def cells34 (z : Elem34) : List Value := [.bool (z.1), .int .u32 (z.2.1), .int .i64 (z.2.2.1), .int .i64 (z.2.2.2)]
def ok34 (z : Elem34) : Prop := (Lit.int .u32 (z.2.1)).wf = true ∧ (Lit.int .i64 (z.2.2.1)).wf = true ∧ (Lit.int .i64 (z.2.2.2)).wf = true
theorem cells34_length (z : Elem34) : (cells34 z).length = 4 := rfl
theorem elem34 {H : Type} {enc : TypeId × Value → H} {w : World} {base : Nat} {spare : Nat → Bool} {held : Bool} (n : Nat) (cs : List Value) (y : DataW H × List MemPlace)
    (h : DataW.trod enc Try.prog w base spare held n 34 cs = some y) : ∃ z : Elem34, cs = cells34 z ∧ ok34 z := by
  have hl : cs.length = 4 := by
    obtain ⟨_, _, _, _, hl, _⟩ := DataW.trod_struct Try.underlying34 h
    exact hl.trans (by kernel_rfl)
  obtain ⟨u0, u1, u2, u3, rfl⟩ : ∃ u0 u1 u2 u3, cs = [u0, u1, u2, u3] := by
    match cs, hl with
    | [u0, u1, u2, u3], _ => exact ⟨u0, u1, u2, u3, rfl⟩
  obtain ⟨_, _, e1⟩ := field_at Try.underlying34 h 0 rfl 1 (by kernel_rfl)
  obtain ⟨az0, c2, _⟩ := DataW.trod_bool Try.underlying4 e1
  obtain rfl : u0 = .bool az0 := by simpa using c2
  obtain ⟨_, _, e3⟩ := field_at Try.underlying34 h 1 rfl 2 (by kernel_rfl)
  obtain ⟨_, _, e4⟩ := field_at Try.underlying32 e3 0 rfl 1 (by kernel_rfl)
  obtain ⟨az10, c5, _, wz10⟩ := DataW.trod_int Try.underlying30 e4
  obtain rfl : u1 = .int .u32 az10 := by simpa using c5
  obtain ⟨_, _, e6⟩ := field_at Try.underlying32 e3 1 rfl 1 (by kernel_rfl)
  obtain ⟨az11, c7, _, wz11⟩ := DataW.trod_int Try.underlying3 e6
  obtain rfl : u2 = .int .i64 az11 := by simpa using c7
  obtain ⟨_, _, e8⟩ := field_at Try.underlying34 h 2 rfl 1 (by kernel_rfl)
  obtain ⟨az2, c9, _, wz2⟩ := DataW.trod_int Try.underlying3 e8
  obtain rfl : u3 = .int .i64 az2 := by simpa using c9
  exact ⟨(az0, az10, az11, az2), rfl, ⟨wz10, wz11, wz2⟩⟩

open Go.Proofs.Ytgcnnblngmomhaa.Tri

set_option maxHeartbeats 4000000 in
theorem walk (a0 : Option Addr) (len0 cap0 : Nat) (zs0 : List Elem34) (a10 : Int) (a11 : Int) (w : World) (row0 : IsRowG 4 cells34 ok34 w a0 len0 cap0 zs0) (w10 : (Lit.int .u32 a10).wf = true) (w11 : (Lit.int .i64 a11).wf = true) (hsh : w.ShapedOpen Try.prog) :
    Calls Try.prog 10 #[.slice a0 len0 cap0, .agg #[.int .u32 a10, .int .i64 a11]] w fun e w' => e = .returned (.bool true) ∧ Below w.heap.size w w' := by
  have hb := bounds_u32 w10
  have row : IsRowG 4 actC actOk w a0 len0 cap0 zs0 := row0
  have hA : Ext w (w.alloc (.cells #[.int .u32 a10, .int .i64 a11] 32)) := (Ext.refl w).alloc _
  have k1 := laid_any a0 len0 cap0 zs0 _ (row.later (fun z => rfl) hA.below)
  have kn := fun w => known_any w
  have hq := normV_bd a10 a11 hb.1 hb.2
  have hvq : Vp (normV a10 a11, holdV a11) := vp_of hq.1 hq.2 (is_norm a10 a11)
  have kR := fun w => refNorm_any a10 a11 w hb.1 hb.2
  have HQ : Hid _ := heap_new w (.cells #[.int .u32 a10, .int .i64 a11] 32)
  generalize normV a10 a11 = qa at *
  generalize holdV a11 = qn at *
  clear row row0
  go_enter Try.func10, Try.ntmps10
  go_wp2_with fail
  go_at_call 21
  refine k1.mono ?_
  rintro e w1 ⟨tb, xb, t, F, G, rfl, hB, hsz, hx1⟩
  have hT := hB.trie
  have hwf := hT.wf
  have hsr := srt_toL hwf
  have hvv : ∀ x ∈ toL t, Vp x.1 := fun x hx => hwf.vp hx
  have hll := toL_len t
  have hcl := covL_len (toL t) (qa, qn)
  have q0 : w1.cell? ⟨w.heap.size, 0, none⟩ = some (.int .u32 a10) := by rw [heap_cell (hx1.heap HQ.out)]; rfl
  have q1 : w1.cell? ⟨w.heap.size, 1, none⟩ = some (.int .i64 a11) := by rw [heap_cell (hx1.heap HQ.out)]; rfl
  have kC := fun W (h : Ext w1 W) => tCovers (hT.ext h) (by omega) qa qn hq.1 hq.2
  have hcm : ∀ x ∈ covL (toL t) (qa, qn), x ∈ toL t ∧ cov x.1 (qa, qn) = true := fun x hx => (covL_mem.1 hx).2
  have hnx := fun i x y => covL_next (i := i) (x := x) (y := y) hsr hvv hvq
  have HM : Hid ((∀ x ∈ covL (toL t) (qa, qn), x ∈ toL t ∧ cov x.1 (qa, qn) = true) ∧ (∀ i x y, (covL (toL t) (qa, qn))[i]? = some x → (covL (toL t) (qa, qn))[i + 1]? = some y → x.1.2 < y.1.2 ∧ cov x.1 y.1 = true) ∧ Srt (toL t) ∧ ∀ x ∈ toL t, Vp x.1) := ⟨hcm, hnx, hsr, hvv⟩
  have HT : Hid (TrieAt w1 tb t F) := hT
  generalize covL (toL t) (qa, qn) = C at *
  clear hB k1 hcm hnx hsr hvv hwf hT
  have tok : Hid True := trivial
  go_wp2_with (first
    | (go_at_call 30; clear tok; refine (kR _).mono ?_; rintro e w2 ⟨rfl, hx2⟩)
    | (go_at_call 25; refine (kC _ hx2).mono ?_; rintro e w3 ⟨v, rfl, ho, hx3⟩; obtain ⟨av, cv, rfl, -, -, -⟩ := owns_slice ho; simp only [List.length_map] at ho ⊢))
  have hx13 : Ext w1 w3 := hx2.trans hx3
  have HO : Hid (OwnP w3 w2.heap.size (.slice av C.length cv) (C.map (·.1))) := ho
  clear ho kC q0 q1
  go_loopw [8] (fun i wr => ∃ k : Nat, k ≤ C.length ∧ i = .int .i64 (k : Int) ∧ Ext w3 wr) (fun i _ => C.length - (intOf i).toNat)
  case atStart => exact ⟨0, Nat.zero_le _, rfl, Ext.refl _⟩
  case round =>
    obtain ⟨k, hk, rfl, hx⟩ := hrel
    by_cases hlt : k < C.length
    · obtain ⟨⟨⟨pa, pn⟩, u⟩, hxk⟩ : ∃ x, C[k]? = some x := ⟨_, List.getElem?_eq_getElem hlt⟩
      obtain ⟨hxL, hxc⟩ := HM.out.1 _ (List.mem_of_getElem? hxk)
      have hvx := HM.out.2.2.2 _ hxL
      have hbx := hvx.bd
      simp only at hbx hxc
      obtain ⟨g, c', hs, g0, g1⟩ := OwnP.cell HO.out (i := k) (p := (pa, pn)) (by simp [hxk])
      simp only [List.length_map] at hs
      cases hs
      simp only at g0 g1
      have hg : getL (toL t) (pa, pn) = (u, true) := getL_mem HM.out.2.2.1 hxL
      have kG := fun W (h : Ext w1 W) => tGet (HT.out.ext h) pa pn hbx.1 hbx.2.1
      rw [hg] at kG
      have kV := fun w => refCovers_any pa pn qa qn w hbx.1 hbx.2.1 hq.1 hq.2
      have hcv : coversV pa pn qa qn = true := hxc
      rw [hcv] at kV
      have hki : (k : Int) < (C.length : Int) := by omega
      have cc : ∀ (b j : Nat) (v : Value), w3.cell? ⟨b, j, none⟩ = some v → ∀ W, Ext w3 W → W.cell? ⟨b, j, none⟩ = some v := fun b j v hv W h => by rw [h.below.cell (p := ⟨b, j, none⟩) (block_lt hv)]; exact hv
      have y0 := cc _ _ _ g0
      have y1 := cc _ _ _ g1
      have q0 : ∀ W, Ext w3 W → W.cell? ⟨w.heap.size, 0, none⟩ = some (.int .u32 a10) := cc _ _ _ (by rw [heap_cell ((hx1.trans hx13).heap HQ.out)]; rfl)
      have q1 : ∀ W, Ext w3 W → W.cell? ⟨w.heap.size, 1, none⟩ = some (.int .i64 a11) := cc _ _ _ (by rw [heap_cell ((hx1.trans hx13).heap HQ.out)]; rfl)
      have i0 := y0 wr hx
      have i1 := y1 wr hx
      rcases Nat.eq_zero_or_pos k with hk0 | hk0
      · subst hk0
        clear g0 g1 cc hg hcv hxc hvx hxL hxk
        go_wp2_with (go_at_call 17; refine (kG _ (hx13.trans hx)).mono ?_; rintro e w4 ⟨rfl, hx4⟩)
        refine wp_region_eager [(0, false), (1, false), (2, false), (3, false), (4, false), (5, false), (6, false), (7, false), (8, true), (9, true), (10, false), (11, false), (12, false), (13, false), (14, false), (15, false), (16, false), (17, false), (18, false), (19, false), (20, false), (21, false), (22, false), (23, false), (24, false), (25, false), (26, false), (27, false), (28, false), (29, false), (30, false), (31, false), (32, false), (33, false), (34, false), (35, false), (36, false), (37, false), (38, true), (39, false), (40, false), (41, false), (42, false)] (by kernel_rfl) (by kernel_rfl) rfl (by kernel_rfl) (fun _ _ _ _ _ h => h) ?_
        have hxd : Ext w3 w4.drew := (hx.trans hx4).drew
        replace y0 := fun w' h => y0 w' (hxd.trans h); replace y1 := fun w' h => y1 w' (hxd.trans h); replace q0 := fun w' h => q0 w' (hxd.trans h); replace q1 := fun w' h => q1 w' (hxd.trans h)
        clear i0 i1
        generalize w4.drew = W at *
        iterate 8 (refine wpE_read (v := ?_) rfl (by rfl) ?_ ?_; rotate_left; (focus (intro w' hx; go_simp; first | done | with_reducible rfl)); simp only [Act.put, List.setIfInBounds_toArray, List.set_cons_zero, List.set_cons_succ])
        (refine wpE_call rfl (by rfl) (fun K hK => ?_); go_simp; first
          | (go_at_call 30; refine (kR _).mono ?_; rintro e w5 ⟨rfl, hx5⟩; refine hK _ _ hx5 ?_; clear hK K))
        (refine wpE_call rfl (by rfl) (fun K hK => ?_); go_simp; first
          | (go_at_call 32; refine (kV _).mono ?_; rintro e w6 ⟨rfl, hx6⟩; refine hK _ _ hx6 ?_; clear hK K))
        iterate 6 (refine wpE_read (v := ?_) rfl (by rfl) ?_ ?_; rotate_left; (focus (intro w' hx; go_simp; first | done | with_reducible rfl)); simp only [Act.put, List.setIfInBounds_toArray, List.set_cons_zero, List.set_cons_succ])
        iterate 25 (rw [wpE_skip_eq _ rfl (by rfl)]; simp only [Act.put, List.setIfInBounds_toArray, List.set_cons_zero, List.set_cons_succ])
        iterate 2 (refine wpE_read (v := ?_) rfl (by rfl) ?_ ?_; rotate_left; (focus (intro w' hx; go_simp; first | done | with_reducible rfl)); simp only [Act.put, List.setIfInBounds_toArray, List.set_cons_zero, List.set_cons_succ])
        refine wpE_done ?_
        go_wp2_with fail
        go_roundw
        case rel => exact ⟨1, by omega, by go_num, (hxd.trans hx5).trans hx6⟩
        case measure => simp [intOf]; omega
      · obtain ⟨i, hik⟩ : ∃ i, k = i + 1 := ⟨k - 1, by omega⟩
        obtain ⟨⟨⟨ra, rn⟩, ru⟩, hrk⟩ : ∃ x, C[i]? = some x := ⟨_, List.getElem?_eq_getElem (by omega)⟩
        obtain ⟨hrL, hrc⟩ := HM.out.1 _ (List.mem_of_getElem? hrk)
        have hbr := (HM.out.2.2.2 _ hrL).bd
        simp only at hbr
        obtain ⟨hlen, hcov⟩ := HM.out.2.1 i _ _ hrk (by rw [← hik]; exact hxk)
        simp only at hlen hcov
        obtain ⟨g', c2, hs, e0, e1⟩ := OwnP.cell HO.out (i := i) (p := (ra, rn)) (by simp [hrk])
        simp only [List.length_map] at hs
        cases hs
        simp only at e0 e1
        have r0 := cc _ _ _ e0
        have r1 := cc _ _ _ e1
        have kV2 := fun w => refCovers_any ra rn pa pn w hbr.1 hbr.2.1 hbx.1 hbx.2.1
        have hcv2 : coversV ra rn pa pn = true := hcov
        rw [hcv2] at kV2
        have hnl : decide (pn ≤ rn) = false := by rw [decide_eq_false_iff_not]; omega
        have hii : (i : Int) < (C.length : Int) := by omega
        have hgt : (0 : Int) < (k : Int) := by omega
        have w64 : IntKind.i64.wrap ((k : Int) - 1) = (i : Int) := by rw [show (k : Int) - 1 = (i : Int) by omega]; exact wraps_i64 _ (by omega) (by omega)
        have HIK : Hid (k = i + 1) := hik
        clear g0 g1 cc hg hcv hxc hvx hxL hxk e0 e1 hrL hrc hrk hcv2 hcov hlen hik
        go_wp2_with (go_at_call 17; refine (kG _ (hx13.trans hx)).mono ?_; rintro e w4 ⟨rfl, hx4⟩)
        refine wp_region_eager [(0, false), (1, false), (2, false), (3, false), (4, false), (5, false), (6, false), (7, false), (8, true), (9, true), (10, false), (11, false), (12, false), (13, false), (14, false), (15, false), (16, false), (17, false), (18, false), (19, false), (20, false), (21, false), (22, false), (23, false), (24, false), (25, false), (26, false), (27, false), (28, false), (29, false), (30, false), (31, false), (32, false), (33, false), (34, false), (35, false), (36, false), (37, false), (38, true), (39, false), (40, false), (41, false), (42, false)] (by kernel_rfl) (by kernel_rfl) rfl (by kernel_rfl) (fun _ _ _ _ _ h => h) ?_
        have hxd : Ext w3 w4.drew := (hx.trans hx4).drew
        replace y0 := fun w' h => y0 w' (hxd.trans h); replace y1 := fun w' h => y1 w' (hxd.trans h); replace q0 := fun w' h => q0 w' (hxd.trans h); replace q1 := fun w' h => q1 w' (hxd.trans h); replace r0 := fun w' h => r0 w' (hxd.trans h); replace r1 := fun w' h => r1 w' (hxd.trans h)
        clear i0 i1
        generalize w4.drew = W at *
        iterate 8 (refine wpE_read (v := ?_) rfl (by rfl) ?_ ?_; rotate_left; (focus (intro w' hx; go_simp; first | done | with_reducible rfl)); simp only [Act.put, List.setIfInBounds_toArray, List.set_cons_zero, List.set_cons_succ])
        (refine wpE_call rfl (by rfl) (fun K hK => ?_); go_simp; first
          | (go_at_call 30; refine (kR _).mono ?_; rintro e w5 ⟨rfl, hx5⟩; refine hK _ _ hx5 ?_; clear hK K))
        replace y0 := fun w' h => y0 w' (hx5.trans h); replace y1 := fun w' h => y1 w' (hx5.trans h); replace q0 := fun w' h => q0 w' (hx5.trans h); replace q1 := fun w' h => q1 w' (hx5.trans h); replace r0 := fun w' h => r0 w' (hx5.trans h); replace r1 := fun w' h => r1 w' (hx5.trans h)
        (refine wpE_call rfl (by rfl) (fun K hK => ?_); go_simp; first
          | (go_at_call 32; refine (kV _).mono ?_; rintro e w6 ⟨rfl, hx6⟩; refine hK _ _ hx6 ?_; clear hK K))
        replace y0 := fun w' h => y0 w' (hx6.trans h); replace y1 := fun w' h => y1 w' (hx6.trans h); replace q0 := fun w' h => q0 w' (hx6.trans h); replace q1 := fun w' h => q1 w' (hx6.trans h); replace r0 := fun w' h => r0 w' (hx6.trans h); replace r1 := fun w' h => r1 w' (hx6.trans h)
        iterate 28 (refine wpE_read (v := ?_) rfl (by rfl) ?_ ?_; rotate_left; (focus (intro w' hx; go_simp; first | done | with_reducible rfl)); simp only [Act.put, List.setIfInBounds_toArray, List.set_cons_zero, List.set_cons_succ])
        (refine wpE_call rfl (by rfl) (fun K hK => ?_); go_simp; first
          | (go_at_call 32; refine (kV2 _).mono ?_; rintro e w7 ⟨rfl, hx7⟩; refine hK _ _ hx7 ?_; clear hK K))
        iterate 4 (refine wpE_read (v := ?_) rfl (by rfl) ?_ ?_; rotate_left; (focus (intro w' hx; go_simp; first | done | with_reducible rfl)); simp only [Act.put, List.setIfInBounds_toArray, List.set_cons_zero, List.set_cons_succ])
        refine wpE_done ?_
        go_wp2_with fail
        go_roundw
        case rel => exact ⟨k + 1, by omega, by go_num, ((hxd.trans hx5).trans hx6).trans hx7⟩
        case measure => simp [intOf]; omega
    · obtain rfl : k = C.length := by omega
      go_wp2_with (go_at_call 20; refine (kn _).mono ?_; rintro e w4 ⟨rfl, hx4⟩)
      go_ret
      exact ⟨rfl, (((hA.trans hx1).trans hx13).trans hx).trans hx4⟩

theorem contract (H : Type) (enc : TypeId × Value → H) (W : World) (base : Nat) (args : Array Value) (ds gs : List (DataW H)) (before : List MemPlace)
    (hval : ∀ (j : Nat) t v, Try.f10.params[j]? = some t → args[j]? = some v → Value.okWide Try.prog W .any base t v)
    (hW : DataW.Whole enc Try.prog Try.f10.params.toList Rows.trieCoversSpec.vars false W args.toList ds gs before) (hsh : W.ShapedOpen Try.prog) :
    Calls Try.prog 10 args W fun e W' => ∃ v, e = .returned v ∧ Rows.trieCoversSpec.post enc Try.prog Try.f10 false true false false W args v W' := by
  have hW' := hW
  obtain ⟨p, q, hA0, hV, rfl, hfz, hnd⟩ := hW
  have hA : DataW.TrodAll enc Try.prog W 0 (fun _ => true) true Try.f10.params.toList args.toList ds p := hA0
  rw [Try.params10] at hA hval
  obtain ⟨v0, vs0, d0, ds0, p0, q0, hargs, rfl, rfl, h0, r0⟩ := trodAll_cons hA
  obtain ⟨v1, vs1, d1, ds1, p1, q1, rfl, rfl, rfl, h1, r1⟩ := trodAll_cons r0
  obtain ⟨rfl, rfl, rfl⟩ := trodAll_nil r1
  obtain rfl : args = #[v0, v1] := by cases args; simp_all
  obtain ⟨rfl, rfl⟩ := trodVars_none hV
  have k0 := h0
  have lt0 : ∀ x ∈ p0, x.block < W.heap.size := by obtain ⟨m, hm⟩ := k0; exact DataW.trod_lt m _ _ _ hm
  obtain ⟨b0, l0, c0, rfl⟩ := okWide_slice Try.underlying22 (hval 0 22 v0 rfl rfl)
  obtain ⟨fu0, hf0⟩ := h0
  obtain ⟨a0, len0, cap0, zs0, ce0, row0⟩ := open_rowG 4 cells34 ok34 (by omega) cells34_length Try.underlying22 (by kernel_rfl) elem34 hf0
  obtain ⟨rfl, rfl, rfl⟩ : a0 = b0 ∧ len0 = l0 ∧ cap0 = c0 := by simpa [Value.cells, eq_comm] using ce0
  have k1 := h1
  have lt1 : ∀ x ∈ p1, x.block < W.heap.size := by obtain ⟨m, hm⟩ := k1; exact DataW.trod_lt m _ _ _ hm
  obtain ⟨cs1, rfl, hs1⟩ := okWide_struct Try.underlying32 (hval 1 32 v1 rfl rfl)
  obtain ⟨u1a, u1b, rfl⟩ := arr2 (hs1.trans (by kernel_rfl))
  obtain ⟨fu1, hf1⟩ := h1
  obtain ⟨_, _, e10⟩ := field_at Try.underlying32 hf1 0 rfl 1 (by kernel_rfl)
  obtain ⟨a10, c11, _, w10⟩ := DataW.trod_int Try.underlying30 e10
  obtain rfl : u1a = .int .u32 a10 := by simpa [Value.cells] using c11
  obtain ⟨_, _, e12⟩ := field_at Try.underlying32 hf1 1 rfl 1 (by kernel_rfl)
  obtain ⟨a11, c13, _, w11⟩ := DataW.trod_int Try.underlying3 e12
  obtain rfl : u1b = .int .i64 a11 := by simpa [Value.cells] using c13
  clear hA0
  refine (walk a0 len0 cap0 zs0 a10 a11 W row0 w10 w11 hsh).mono fun e W' ⟨he, bel⟩ => ?_
  subst he
  exact ⟨_, rfl, _, _, _, [], _, [], hW', trodAll_mk1 (shut_bool Try.underlying4 _), (trodAll_cons_mk (Below.trod laidOut (by kernel_rfl) (of_decide_eq_true (by kernel_rfl)) k0 bel lt0) (trodAll_cons_mk (Below.trod laidOut (by kernel_rfl) (of_decide_eq_true (by kernel_rfl)) k1 bel lt1) trodAll_mk0)), rfl, bel.frame _, fun h => by cases h⟩

theorem laid_met (os : Os) : laidMet Try.prog Rows.trieCoversRow.laid ((World.doorLaid Try.prog 24 os).forCall (fun _ _ => 0) ⟨#[], #[.slice none 0 0, .agg #[.int .u32 0, .int .i64 0]], []⟩).memory :=
  laidMet_of_run' 8 (by kernel_rfl) (by kernel_rfl)
theorem reads (os : Os) {H : Type} (enc : TypeId × Value → H) : ∃ places, DataW.whole enc Try.prog ((World.doorLaid Try.prog 24 os).forCall (fun _ _ => 0) ⟨#[], #[.slice none 0 0, .agg #[.int .u32 0, .int .i64 0]], []⟩).memory Try.f10.params.toList Rows.trieCoversSpec.vars false (#[.slice none 0 0, .agg #[.int .u32 0, .int .i64 0]] : Array Value).toList 8 = some ([.nil, .agg [.lit (.int .u32 0), .lit (.int .i64 0)]], [], places) :=
  ⟨[], by kernel_rfl⟩

set_option maxRecDepth 100000 in
theorem lifted (os : Os) (started : os.Started) (H : Type) (enc : TypeId × Value → H) (F : Stop.Interp) :
    ReturnsInHanded {} Try.checked os 10 .any ((OpenSpec.ofChange Rows.trieCoversSpec).preRow enc Try.prog Try.f10 Rows.trieCoversRow.domain false Rows.trieCoversRow.laid) (((OpenSpec.ofChange Rows.trieCoversSpec).at F).post enc Try.prog Try.f10 false true false false) := by
  obtain ⟨places, hx⟩ := reads os enc
  refine returnsInHanded_of_row (C := Try.checked) (s := (OpenSpec.ofChange Rows.trieCoversSpec)) own started (by kernel_rfl) Try.func10
    (witness_row_at (enc := enc) (C := Try.checked) false (World.doorLaid Try.prog 24 os) #[.slice none 0 0, .agg #[.int .u32 0, .int .i64 0]] rfl (by kernel_rfl) (by kernel_rfl) (by kernel_rfl)
      (OpenSpec.preRow_of_cond 8 hx (by kernel_rfl) (fun k hk => by cases hk) (by kernel_rfl) (laid_met os))) ?_
  intro W base args ds gs before hval hW _ hcond _ hL hsh _
  exact contract H enc W base args ds gs before hval hW hsh

theorem said : Rows.TrieCoversSaid :=
  OpenClaim.holds_of_cond 10 Try.f10 rfl rfl rfl rfl rfl rfl rfl ⟨rfl, rfl, rfl, rfl, rfl⟩ rfl rfl rfl rfl rfl (by kernel_rfl) Try.func10 (by kernel_rfl)
    (of_decide_eq_true (by kernel_rfl)) (by unfold Func.isWrapper; first | (rw [if_pos (by decide +kernel)]; kernel_rfl) | (rw [if_neg (by decide +kernel)]; exact ⟨rfl, rfl⟩))
    (fun os started H enc _ F => by rw [OpenClaim.pre_eq_preRow]; exact lifted os started H enc F)

end Go.Proofs.Ytgcnnblngmomhaa.trieCovers

namespace Go.Proofs.Ytgcnnblngmomhaa
theorem trieCovers_holds : Rows.TrieCoversSaid := trieCovers.said
#print axioms trieCovers_holds
end Go.Proofs.Ytgcnnblngmomhaa
