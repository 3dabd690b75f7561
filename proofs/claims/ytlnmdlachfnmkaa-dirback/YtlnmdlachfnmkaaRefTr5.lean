/- The document's Longest, Covers. -/
import Derived.Test.YtlnmdlachfnmkaaRefTrQ
namespace Go.Proofs.Ytlnmdlachfnmkaa.Tri
set_option maxRecDepth 100000
open Go.RowKit Go.Proofs.Ytlnmdlachfnmkaa
set_option linter.unusedVariables false

/-- Where Longest stands: behind the first k, the last one that has the address is the one at b. -/
def BestAt (L : Row) (a : Int) (k : Nat) (b : Option Nat) : Prop := match b with
  | none => ∀ i x, i < k → L[i]? = some x → hasV x.1.1 x.1.2 a = false
  | some j => j < k ∧ (∃ x, L[j]? = some x ∧ hasV x.1.1 x.1.2 a = true) ∧ ∀ i x, j < i → i < k → L[i]? = some x → hasV x.1.1 x.1.2 a = false

def bestI (b : Option Nat) : Int := match b with
  | none => -1
  | some j => (j : Int)

theorem best_no {L : Row} {a : Int} {k : Nat} {b : Option Nat} {x : PX × Int} (h : BestAt L a k b) (hx : L[k]? = some x) (hh : hasV x.1.1 x.1.2 a = false) : BestAt L a (k + 1) b := by
  cases b with
  | none =>
    intro i y hi hy
    by_cases e : i = k
    · subst e; rw [hx] at hy; cases hy; exact hh
    · exact h i y (by omega) hy
  | some j =>
    obtain ⟨h1, h2, h3⟩ := h
    refine ⟨by omega, h2, fun i y hj hi hy => ?_⟩
    by_cases e : i = k
    · subst e; rw [hx] at hy; cases hy; exact hh
    · exact h3 i y hj (by omega) hy

theorem best_yes {L : Row} {a : Int} {k : Nat} {x : PX × Int} (hx : L[k]? = some x) (hh : hasV x.1.1 x.1.2 a = true) : BestAt L a (k + 1) (some k) :=
  ⟨by omega, ⟨x, hx, hh⟩, fun i y h1 h2 _ => by omega⟩

/-- Behind all: the last one that covers. -/
theorem best_end {L : Row} {a : Int} (h0 : 0 ≤ a) (h1 : a ≤ 4294967295) {b : Option Nat} (h : BestAt L a L.length b) : lastF none (covL L (a, 32)) = b.bind (L[·]?) := by
  have hv := (vp32 h0 h1).is
  have key : covL L (a, 32) = L.filter fun x => hasV x.1.1 x.1.2 a := by
    unfold covL
    rw [if_pos hv]
    congr 1
    funext x
    exact has_cov x.1 a
  rw [key]
  cases b with
  | none =>
    have : (L.filter fun x => hasV x.1.1 x.1.2 a) = [] := List.filter_eq_nil_iff.2 fun x hx hh => by
      obtain ⟨i, hi, rfl⟩ := List.getElem_of_mem hx
      have := h i _ hi (List.getElem?_eq_getElem hi)
      rw [hh] at this; cases this
    rw [this]; rfl
  | some j =>
    obtain ⟨hj, ⟨x, hx, hh⟩, h3⟩ := h
    have e : L = L.take j ++ x :: L.drop (j + 1) := by
      have := (List.getElem?_eq_some_iff.1 hx).2
      rw [← this, List.getElem_cons_drop]; exact (List.take_append_drop _ L).symm
    have hd : (L.drop (j + 1)).filter (fun x => hasV x.1.1 x.1.2 a) = [] := List.filter_eq_nil_iff.2 fun y hy hh => by
      obtain ⟨i, hi, rfl⟩ := List.getElem_of_mem hy
      rw [List.length_drop] at hi
      have := h3 (j + 1 + i) _ (by omega) (by omega) (List.getElem?_eq_getElem (by omega))
      rw [List.getElem_drop] at hh
      rw [hh] at this; cases this
    show _ = L[j]?
    rw [hx]
    conv => lhs; rw [e]
    rw [List.filter_append, List.filter_cons, if_pos hh, hd]
    exact lastF_append none _ x

set_option maxHeartbeats 2000000 in
theorem refLongest_any (xb : Nat) (L : Row) (F : List Nat) (a : Int) (w : World) (h : RefAt w xb L F) (hs : Srt L) (hv : ∀ x ∈ L, Vp x.1) (hl : L.length ≤ 1000000) (h0 : 0 ≤ a) (h1 : a ≤ 4294967295) :
    Calls Try.prog 23 #[.pointer (some ⟨xb, 0, none⟩), .int .u32 a] w fun e w' => e = .returned (ansO (lastF none (covL L (a, 32)))) ∧ Ext w w' := by
  have hend := fun b (h : BestAt L a L.length b) => best_end h0 h1 h
  have hvp := vp32 h0 h1
  obtain ⟨ap, cp, ai, ci, hX, hcell⟩ := h.open
  have HX : Hid _ := hX
  have HC : Hid _ := hcell
  have HE : Hid (∀ b, BestAt L a L.length b → lastF none (covL L (a, 32)) = b.bind (L[·]?)) := hend
  have HP : Hid (∀ (i j : Nat) (x y : PX × Int), i < j → L[i]? = some x → L[j]? = some y → hasV x.1.1 x.1.2 a = true → hasV y.1.1 y.1.2 a = true → x.1.2 < y.1.2) := by
    intro i j x y hij hx hy hhx hhy
    have hb : bef x.1 y.1 = true := by
      obtain ⟨i1, e1⟩ := List.getElem?_eq_some_iff.1 hx
      obtain ⟨i2, e2⟩ := List.getElem?_eq_some_iff.1 hy
      have := List.pairwise_iff_getElem.1 hs i j i1 i2 hij
      rw [e1, e2] at this; exact this
    have hxL := List.mem_of_getElem? hx
    have hyL := List.mem_of_getElem? hy
    have cx : cov x.1 (a, 32) = true := by rw [has_cov]; exact hhx
    have cy : cov y.1 (a, 32) = true := by rw [has_cov]; exact hhy
    have hne : x.1 ≠ y.1 := fun e => by rw [e, bef_irr] at hb; cases hb
    rcases Int.lt_or_le x.1.2 y.1.2 with h | h
    · exact h
    · exfalso
      have hc := cov_two (hv y hyL) (hv x hxL) hvp cy cx h
      have := bef_trans hb (cov_bef (hv y hyL) (hv x hxL) hc (Ne.symm hne))
      rw [bef_irr] at this; cases this
  have HV : Hid (∀ x ∈ L, Vp x.1) := hv
  have hA : Ext w (w.alloc (.cells #[.int .u32 0, .int .i64 0] 30)) := (Ext.refl w).alloc _
  have HR : Hid _ := heap_new w (.cells #[.int .u32 0, .int .i64 0] 30)
  generalize lastF none (covL L (a, 32)) = o at *
  clear hend hX hcell h hs hv hvp
  go_enter Try.func23, Try.ntmps23
  go_wp2_with fail
  generalize hW0 : w.alloc (.cells #[.int .u32 0, .int .i64 0] 30) = W0 at *
  clear hW0
  have cc : ∀ (b j : Nat) (v : Value), w.cell? ⟨b, j, none⟩ = some v → ∀ W, Ext W0 W → W.cell? ⟨b, j, none⟩ = some v := fun b j v hv W h => by rw [(hA.trans h).below.cell (p := ⟨b, j, none⟩) (block_lt hv)]; exact hv
  have X0 : ∀ W, Ext W0 W → W.cell? ⟨xb, 0, none⟩ = some (.slice ap L.length cp) := cc _ _ _ (by rw [heap_cell HX.out]; rfl)
  have X1 : ∀ W, Ext W0 W → W.cell? ⟨xb, 1, none⟩ = some (.slice ai L.length ci) := cc _ _ _ (by rw [heap_cell HX.out]; rfl)
  go_loopw [7, 8] (fun bv i wr => ∃ (k : Nat) (b : Option Nat), k ≤ L.length ∧ i = .int .i64 (k : Int) ∧ bv = .int .i64 (bestI b) ∧ Ext W0 wr ∧ Hid (BestAt L a k b)) (fun _ i _ => L.length - (intOf i).toNat)
  case atStart => exact ⟨0, none, Nat.zero_le _, rfl, rfl, Ext.refl _, fun i x hi _ => by omega⟩
  case round =>
    obtain ⟨k, b, hk, rfl, rfl, hx, HK⟩ := hrel
    have x0 := X0 wr hx
    by_cases hlt : k < L.length
    · obtain ⟨⟨⟨pa, pn⟩, u⟩, hxk⟩ : ∃ x, L[k]? = some x := ⟨_, List.getElem?_eq_getElem hlt⟩
      obtain ⟨gp, gi, rfl, rfl, y0, y1, y2⟩ := HC.out k _ hxk
      simp only at y0 y1 y2
      have hbx := (HV.out _ (List.mem_of_getElem? hxk)).bd
      simp only at hbx
      have kH := fun w => refHas_any pa pn a w hbx.1 hbx.2.1 h0 h1
      have hki : (k : Int) < (L.length : Int) := by omega
      have Y0 := cc _ _ _ y0
      have Y1 := cc _ _ _ y1
      have HX' : Hid (L[k]? = some ((pa, pn), u)) := hxk
      clear y0 y1 y2 hxk
      cases hh : hasV pa pn a with
      | false =>
        rw [hh] at kH
        have HH : Hid (hasV pa pn a = false) := hh
        obtain ⟨bv, hbv⟩ : ∃ bv, bestI b = bv := ⟨_, rfl⟩
        rw [hbv]
        have HBV : Hid _ := hbv
        clear hh hbv
        go_wp2_with fail
        refine wp_region_eager [(0, false), (1, false), (2, false), (3, false), (4, false), (5, false), (6, false), (7, false), (8, true), (9, false), (10, false), (11, false), (12, false), (13, false), (14, false), (15, false), (16, false), (17, false), (18, false), (19, false), (20, false), (21, false), (22, false), (23, false), (24, false), (25, false), (26, false), (27, false), (28, false), (29, false), (30, false), (31, false)] (by kernel_rfl) (by kernel_rfl) rfl (by kernel_rfl) (fun _ _ _ _ _ h => h) ?_
        have hxd : Ext W0 wr.drew := hx.drew
        have z0 := fun W h => X0 W (hxd.trans h)
        have z1 := fun W h => Y0 W (hxd.trans h)
        have z2 := fun W h => Y1 W (hxd.trans h)
        clear X0 X1 Y0 Y1 cc x0
        generalize wr.drew = W at *
        iterate 8 (refine wpE_read (v := ?_) rfl (by rfl) ?_ ?_; rotate_left; (focus (intro w' hx; go_simp; first | done | with_reducible rfl)); simp only [Act.put, List.setIfInBounds_toArray, List.set_cons_zero, List.set_cons_succ])
        (refine wpE_call rfl (by rfl) (fun K hK => ?_); go_simp; first
          | (go_at_call 43; refine (kH _).mono ?_; rintro e w5 ⟨rfl, hx5⟩; refine hK _ _ hx5 ?_; clear hK K))
        iterate 1 (refine wpE_read (v := ?_) rfl (by rfl) ?_ ?_; rotate_left; (focus (intro w' hx; go_simp; first | done | with_reducible rfl)); simp only [Act.put, List.setIfInBounds_toArray, List.set_cons_zero, List.set_cons_succ])
        iterate 21 (rw [wpE_skip_eq _ rfl (by rfl)]; simp only [Act.put, List.setIfInBounds_toArray, List.set_cons_zero, List.set_cons_succ])
        iterate 1 (refine wpE_read (v := ?_) rfl (by rfl) ?_ ?_; rotate_left; (focus (intro w' hx; go_simp; first | done | with_reducible rfl)); simp only [Act.put, List.setIfInBounds_toArray, List.set_cons_zero, List.set_cons_succ])
        refine wpE_done ?_
        go_wp2_with fail
        go_roundw
        case rel => exact ⟨k + 1, b, by omega, by go_num, by rw [HBV.out], hxd.trans hx5, best_no HK.out HX'.out HH.out⟩
        case measure => simp [intOf]; omega
      | true =>
        rw [hh] at kH
        have HH : Hid (hasV pa pn a = true) := hh
        clear hh
        cases b with
        | none =>
          simp only [bestI]
          go_wp2_with fail
          refine wp_region_eager [(0, false), (1, false), (2, false), (3, false), (4, false), (5, false), (6, false), (7, false), (8, true), (9, false), (10, false), (11, false), (12, false), (13, false), (14, false), (15, false), (16, false), (17, false), (18, false), (19, false), (20, false), (21, false), (22, false), (23, false), (24, false), (25, false), (26, false), (27, false), (28, false), (29, false), (30, false), (31, false)] (by kernel_rfl) (by kernel_rfl) rfl (by kernel_rfl) (fun _ _ _ _ _ h => h) ?_
          have hxd : Ext W0 wr.drew := hx.drew
          have z0 := fun W h => X0 W (hxd.trans h)
          have z1 := fun W h => Y0 W (hxd.trans h)
          have z2 := fun W h => Y1 W (hxd.trans h)
          clear X0 X1 Y0 Y1 cc x0
          generalize wr.drew = W at *
          iterate 8 (refine wpE_read (v := ?_) rfl (by rfl) ?_ ?_; rotate_left; (focus (intro w' hx; go_simp; first | done | with_reducible rfl)); simp only [Act.put, List.setIfInBounds_toArray, List.set_cons_zero, List.set_cons_succ])
          (refine wpE_call rfl (by rfl) (fun K hK => ?_); go_simp; first
            | (go_at_call 43; refine (kH _).mono ?_; rintro e w5 ⟨rfl, hx5⟩; refine hK _ _ hx5 ?_; clear hK K))
          iterate 4 (refine wpE_read (v := ?_) rfl (by rfl) ?_ ?_; rotate_left; (focus (intro w' hx; go_simp; first | done | with_reducible rfl)); simp only [Act.put, List.setIfInBounds_toArray, List.set_cons_zero, List.set_cons_succ])
          iterate 17 (rw [wpE_skip_eq _ rfl (by rfl)]; simp only [Act.put, List.setIfInBounds_toArray, List.set_cons_zero, List.set_cons_succ])
          iterate 2 (refine wpE_read (v := ?_) rfl (by rfl) ?_ ?_; rotate_left; (focus (intro w' hx; go_simp; first | done | with_reducible rfl)); simp only [Act.put, List.setIfInBounds_toArray, List.set_cons_zero, List.set_cons_succ])
          refine wpE_done ?_
          go_wp2_with fail
          go_roundw
          case rel => exact ⟨k + 1, some k, by omega, by go_num, rfl, hxd.trans hx5, best_yes HX'.out HH.out⟩
          case measure => simp [intOf]; omega
        | some j =>
          obtain ⟨hjk, ⟨⟨⟨ja, jn⟩, ju⟩, hxj, hhj⟩, -⟩ := HK.out
          obtain ⟨gp', gi', e1, e2, v0, v1, -⟩ := HC.out j _ hxj
          cases e1
          have hlen := HP.out j k _ _ hjk hxj HX'.out hhj HH.out
          simp only at hlen v0 v1
          have V0 := cc _ _ _ v0
          have V1 := cc _ _ _ v1
          have hji : (j : Int) < (L.length : Int) := by omega
          have hj0 : decide ((j : Int) < 0) = false := by rw [decide_eq_false_iff_not]; omega
          have hgl : decide (jn < pn) = true := by rw [decide_eq_true_eq]; exact hlen
          simp only [bestI]
          clear v0 v1 hlen hxj hhj
          go_wp2_with fail
          refine wp_region_eager [(0, false), (1, false), (2, false), (3, false), (4, false), (5, false), (6, false), (7, false), (8, true), (9, false), (10, false), (11, false), (12, false), (13, false), (14, false), (15, false), (16, false), (17, false), (18, false), (19, false), (20, false), (21, false), (22, false), (23, false), (24, false), (25, false), (26, false), (27, false), (28, false), (29, false), (30, false), (31, false)] (by kernel_rfl) (by kernel_rfl) rfl (by kernel_rfl) (fun _ _ _ _ _ h => h) ?_
          have hxd : Ext W0 wr.drew := hx.drew
          have z0 := fun W h => X0 W (hxd.trans h)
          have z1 := fun W h => Y0 W (hxd.trans h)
          have z2 := fun W h => Y1 W (hxd.trans h)
          have z3 := fun W h => V0 W (hxd.trans h)
          have z4 := fun W h => V1 W (hxd.trans h)
          clear X0 X1 Y0 Y1 V0 V1 cc x0
          generalize wr.drew = W at *
          iterate 8 (refine wpE_read (v := ?_) rfl (by rfl) ?_ ?_; rotate_left; (focus (intro w' hx; go_simp; first | done | with_reducible rfl)); simp only [Act.put, List.setIfInBounds_toArray, List.set_cons_zero, List.set_cons_succ])
          (refine wpE_call rfl (by rfl) (fun K hK => ?_); go_simp; first
            | (go_at_call 43; refine (kH _).mono ?_; rintro e w5 ⟨rfl, hx5⟩; refine hK _ _ hx5 ?_; clear hK K))
          replace z0 := fun w' h => z0 w' (hx5.trans h); replace z1 := fun w' h => z1 w' (hx5.trans h); replace z2 := fun w' h => z2 w' (hx5.trans h); replace z3 := fun w' h => z3 w' (hx5.trans h); replace z4 := fun w' h => z4 w' (hx5.trans h)
          iterate 23 (refine wpE_read (v := ?_) rfl (by rfl) ?_ ?_; rotate_left; (focus (intro w' hx; go_simp; first | done | with_reducible rfl)); simp only [Act.put, List.setIfInBounds_toArray, List.set_cons_zero, List.set_cons_succ])
          refine wpE_done ?_
          go_wp2_with fail
          go_roundw
          case rel => exact ⟨k + 1, some k, by omega, by go_num, rfl, hxd.trans hx5, best_yes HX'.out HH.out⟩
          case measure => simp [intOf]; omega
    · obtain rfl : k = L.length := by omega
      have ho := HE.out b HK.out
      have hh1 := hx.heap HR.out
      cases b with
      | none =>
        obtain rfl : o = none := ho
        simp only [bestI]
        have d0 : wr.cell? ⟨w.heap.size, 0, none⟩ = some (.int .u32 0) := by rw [heap_cell hh1]; rfl
        have d1 : wr.cell? ⟨w.heap.size, 1, none⟩ = some (.int .i64 0) := by rw [heap_cell hh1]; rfl
        have f0 : wr.frozen? ⟨w.heap.size, 0, none⟩ = false := heap_frozen hh1
        have f1 : wr.frozen? ⟨w.heap.size, 1, none⟩ = false := heap_frozen hh1
        have HH1 : Hid _ := hh1
        clear hh1 X0 X1 cc
        go_wp2_with fail
        have k2 := heap_set (heap_set HH1.out (k := 0) (.int .u32 0)) (k := 1) (.int .i64 0)
        have d0' : ((wr.setCell ⟨w.heap.size, 0, none⟩ (.int .u32 0)).setCell ⟨w.heap.size, 1, none⟩ (.int .i64 0)).cell? ⟨w.heap.size, 0, none⟩ = some (.int .u32 0) := by rw [heap_cell k2]; rfl
        have d1' : ((wr.setCell ⟨w.heap.size, 0, none⟩ (.int .u32 0)).setCell ⟨w.heap.size, 1, none⟩ (.int .i64 0)).cell? ⟨w.heap.size, 1, none⟩ = some (.int .i64 0) := by rw [heap_cell k2]; rfl
        have hx2 : Ext w ((wr.setCell ⟨w.heap.size, 0, none⟩ (.int .u32 0)).setCell ⟨w.heap.size, 1, none⟩ (.int .i64 0)) :=
          ExtX.ext (hA.trans hx) (((ExtX.refl w.heap.size wr).setCell (p := ⟨w.heap.size, 0, none⟩) rfl _).setCell (p := ⟨w.heap.size, 1, none⟩) rfl _) (Nat.le_refl _)
        clear k2 d0 d1 f0 f1 HH1
        generalize ((wr.setCell ⟨w.heap.size, 0, none⟩ (.int .u32 0)).setCell ⟨w.heap.size, 1, none⟩ (.int .i64 0)) = w2 at *
        exact bodyPost_ret (v := ansO none) (by simp [ansO, results, Try.results23, go_sem, d0', d1']) rfl ⟨rfl, hx2⟩
      | some j =>
        obtain ⟨hjk, ⟨⟨⟨ja, jn⟩, ju⟩, hxj, hhj⟩, -⟩ := HK.out
        obtain rfl : o = some ((ja, jn), ju) := ho.trans hxj
        obtain ⟨gp, gi, rfl, rfl, v0, v1, v2⟩ := HC.out j _ hxj
        simp only at v0 v1 v2
        simp only [bestI]
        have hji : (j : Int) < (L.length : Int) := by omega
        have hj0 : decide ((j : Int) < 0) = false := by rw [decide_eq_false_iff_not]; omega
        clear ho hxj hhj
        go_wp2_with fail
        have hwl : ∀ {b j : Nat} {v : Value}, w.cell? ⟨b, j, none⟩ = some v → ∀ W, ExtX w.heap.size wr.drew W → W.cell? ⟨b, j, none⟩ = some v := fun {b j v} hv W hW => by
          have hb : b < w.heap.size := block_lt hv
          have hb2 : b < wr.drew.heap.size := Nat.lt_of_lt_of_le hb (hA.trans hx).size
          have e1 := hW.block b hb2 (by omega)
          have e2 := (hA.trans hx).drew.block b hb
          unfold World.cell? at hv ⊢
          rw [e1, e2]; exact hv
        refine wp_region_eagerX w.heap.size [(0, false), (1, false), (2, false), (3, false), (4, false), (5, false), (6, false), (7, false), (8, false), (9, false), (10, false), (11, false), (12, false), (13, false), (14, true), (15, false), (16, false)] (by kernel_rfl) (by kernel_rfl) rfl (by kernel_rfl) (fun _ _ _ _ _ h => h) ?_
        have z0 : ∀ W, ExtX w.heap.size wr.drew W → W.cell? ⟨xb, 0, none⟩ = some (.slice (some ⟨gp, 0, none⟩) L.length cp) := hwl (by rw [heap_cell HX.out]; rfl)
        have z1 : ∀ W, ExtX w.heap.size wr.drew W → W.cell? ⟨xb, 1, none⟩ = some (.slice (some ⟨gi, 0, none⟩) L.length ci) := hwl (by rw [heap_cell HX.out]; rfl)
        have z2 := hwl v0
        have z3 := hwl v1
        have z4 := hwl v2
        have hh2 : wr.drew.heap[w.heap.size]? = some (.cells #[.int .u32 0, .int .i64 0] 30 (0, 0)) := hh1
        have d0 : wr.drew.cell? ⟨w.heap.size, 0, none⟩ = some (.int .u32 0) := by rw [heap_cell hh2]; rfl
        have d1 : wr.drew.cell? ⟨w.heap.size, 1, none⟩ = some (.int .i64 0) := by rw [heap_cell hh2]; rfl
        have f0 : wr.drew.frozen? ⟨w.heap.size, 0, none⟩ = false := heap_frozen hh2
        have f1 : wr.drew.frozen? ⟨w.heap.size, 1, none⟩ = false := heap_frozen hh2
        have k2 := heap_set (heap_set hh2 (k := 0) (.int .u32 ja)) (k := 1) (.int .i64 jn)
        have hx2 : Ext w ((wr.drew.setCell ⟨w.heap.size, 0, none⟩ (.int .u32 ja)).setCell ⟨w.heap.size, 1, none⟩ (.int .i64 jn)) :=
          ExtX.ext (hA.trans hx).drew (((ExtX.refl w.heap.size wr.drew).setCell (p := ⟨w.heap.size, 0, none⟩) rfl _).setCell (p := ⟨w.heap.size, 1, none⟩) rfl _) (Nat.le_refl _)
        have H2 : Hid _ := k2
        clear k2 hh1 hh2 X0 X1 cc hwl v0 v1 v2 x0
        generalize wr.drew = W at *
        iterate 14 (refine wpE_read (v := ?_) rfl (by rfl) ?_ ?_; rotate_left; (focus (intro w' hx; go_simp; first | done | with_reducible rfl)); simp only [Act.put, List.setIfInBounds_toArray, List.set_cons_zero, List.set_cons_succ])
        refine wpE_call rfl (by rfl) (fun K hK => ?_)
        go_simp
        refine hK _ _ (((ExtX.refl _ _).setCell (p := ⟨w.heap.size, 0, none⟩) rfl _).setCell (p := ⟨w.heap.size, 1, none⟩) rfl _) ?_
        clear hK K
        have d0' : ((W.setCell ⟨w.heap.size, 0, none⟩ (.int .u32 ja)).setCell ⟨w.heap.size, 1, none⟩ (.int .i64 jn)).cell? ⟨w.heap.size, 0, none⟩ = some (.int .u32 ja) := by rw [heap_cell H2.out]; rfl
        have d1' : ((W.setCell ⟨w.heap.size, 0, none⟩ (.int .u32 ja)).setCell ⟨w.heap.size, 1, none⟩ (.int .i64 jn)).cell? ⟨w.heap.size, 1, none⟩ = some (.int .i64 jn) := by rw [heap_cell H2.out]; rfl
        clear z0 z1 z2 z3 z4 d0 d1 f0 f1 H2
        generalize ((W.setCell ⟨w.heap.size, 0, none⟩ (.int .u32 ja)).setCell ⟨w.heap.size, 1, none⟩ (.int .i64 jn)) = w2 at *
        iterate 2 (refine wpE_read (v := ?_) rfl (by rfl) ?_ ?_; rotate_left; (focus (intro w' hx; go_simp; first | done | with_reducible rfl)); simp only [Act.put, List.setIfInBounds_toArray, List.set_cons_zero, List.set_cons_succ])
        refine wpE_done ?_
        go_wp2_with fail
        exact bodyPost_ret (v := ansO (some ((ja, jn), ju))) (by simp [ansO, results, Try.results23, go_sem, d0', d1']) rfl ⟨rfl, hx2⟩
end Go.Proofs.Ytlnmdlachfnmkaa.Tri
