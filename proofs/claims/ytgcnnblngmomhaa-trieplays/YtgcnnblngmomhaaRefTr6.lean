/- The document's Covers. -/
import Derived.Test.YtgcnnblngmomhaaRefTr5
namespace Go.Proofs.Ytgcnnblngmomhaa.Tri
open Go.RowKit Go.Proofs.Ytgcnnblngmomhaa
set_option linter.unusedVariables false

def cvB (p : PX) (k : Nat) (x : PX × Int) : Bool := x.1.2 == (k : Int) && cov x.1 p
def cvN (L : Row) (p : PX) (k : Nat) : Row := L.filter (cvB p k)
def rowsN (L : Row) (p : PX) (k : Nat) : Row := (List.range k).flatMap (cvN L p)

theorem rowsN_succ (L : Row) (p : PX) (k : Nat) : rowsN L p (k + 1) = rowsN L p k ++ cvN L p k := by
  unfold rowsN
  rw [List.range_succ, List.flatMap_append]
  simp

theorem rowsN_len (L : Row) (p : PX) (k : Nat) : (rowsN L p k).length ≤ k * L.length := by
  induction k with
  | zero => simp [rowsN]
  | succ k ih =>
    rw [rowsN_succ, List.length_append, Nat.succ_mul]
    have : (cvN L p k).length ≤ L.length := List.length_filter_le _ _
    omega

theorem rowsN_all {L : Row} (hs : Srt L) (hv : ∀ x ∈ L, Vp x.1) {p : PX} (hp : Vp p) : rowsN L p 33 = covL L p := by
  have mem : ∀ k x, x ∈ cvN L p k ↔ x ∈ L ∧ x.1.2 = (k : Int) ∧ cov x.1 p = true := fun k x => by
    unfold cvN cvB
    rw [List.mem_filter, Bool.and_eq_true, beq_iff_eq]
  refine srt_ext ?_ (covL_srt hs p) fun x => ?_
  · unfold rowsN Srt
    rw [List.pairwise_flatMap]
    refine ⟨fun k _ => List.Pairwise.filter _ hs, ?_⟩
    refine List.Pairwise.imp ?_ List.pairwise_lt_range
    intro i j hij x hx y hy
    obtain ⟨hxL, hxn, hxc⟩ := (mem i x).1 hx
    obtain ⟨hyL, hyn, hyc⟩ := (mem j y).1 hy
    have hc := cov_two (hv x hxL) (hv y hyL) hp hxc hyc (by omega)
    exact cov_bef (hv x hxL) (hv y hyL) hc (fun e => by rw [e] at hxn; omega)
  · rw [covL_mem]
    unfold rowsN
    rw [List.mem_flatMap]
    constructor
    · rintro ⟨k, _, hk⟩
      obtain ⟨h1, _, h3⟩ := (mem k x).1 hk
      exact ⟨hp.is, h1, h3⟩
    · rintro ⟨_, h1, h2⟩
      have hb := (hv x h1).bd
      obtain ⟨n, hn⟩ := Int.eq_ofNat_of_zero_le hb.2.2.1
      exact ⟨n, by rw [List.mem_range]; omega, (mem n x).2 ⟨h1, hn, h2⟩⟩

theorem cvN_take {L : Row} {p : PX} {k j : Nat} {x : PX × Int} (hx : L[j]? = some x) : cvN (L.take (j + 1)) p k = cvN (L.take j) p k ++ (if cvB p k x = true then [x] else []) := by
  unfold cvN
  rw [List.take_add_one, hx, List.filter_append]
  congr 1
  simp [List.filter_cons]

set_option maxHeartbeats 2000000 in
theorem refCovers2_any (xb : Nat) (L : Row) (F : List Nat) (c m : Int) (w : World) (h : RefAt w xb L F) (hs : Srt L) (hv : ∀ x ∈ L, Vp x.1) (hl : L.length ≤ 1000) (c0 : 0 ≤ c) (c1 : c ≤ 4294967295) :
    Calls Try.prog 26 #[.pointer (some ⟨xb, 0, none⟩), .agg #[.int .u32 c, .int .i64 m]] w fun e w' => ∃ v, e = .returned v ∧ OwnP w' w.heap.size v ((covL L (c, m)).map (·.1)) ∧ Ext w w' := by
  obtain ⟨ap, cp, ai, ci, hX, hcell⟩ := h.open
  have HX : Hid _ := hX
  have HC : Hid _ := hcell
  have HV : Hid (∀ x ∈ L, Vp x.1) := hv
  have kI := fun w => refIs_any c m w c0 c1
  have hA : Ext w (w.alloc (.cells #[.int .u32 c, .int .i64 m] 32)) := (Ext.refl w).alloc _
  have HR : Hid _ := heap_new w (.cells #[.int .u32 c, .int .i64 m] 32)
  have hs1 : w.heap.size < (w.alloc (.cells #[.int .u32 c, .int .i64 m] 32)).heap.size := heap_lt HR.out
  by_cases hvp : isV c m = true
  · have HE : Hid (rowsN L (c, m) 33 = covL L (c, m)) := rowsN_all hs hv (vp_of c0 c1 hvp)
    rw [hvp] at kI
    clear hX hcell h hs hv hvp
    go_enter Try.func26, Try.ntmps26
    go_wp2_with fail
    generalize hW0 : w.alloc (.cells #[.int .u32 c, .int .i64 m] 32) = W0 at *
    clear hW0
    have ccN : ∀ (b j : Nat) (v : Value), W0.cell? ⟨b, j, none⟩ = some v → ∀ W, Ext W0 W → W.cell? ⟨b, j, none⟩ = some v := fun b j v hv W h => by rw [h.below.cell (p := ⟨b, j, none⟩) (block_lt hv)]; exact hv
    have Q0 : ∀ W, Ext W0 W → W.cell? ⟨w.heap.size, 0, none⟩ = some (.int .u32 c) := ccN _ _ _ (by rw [heap_cell HR.out]; rfl)
    have Q1 : ∀ W, Ext W0 W → W.cell? ⟨w.heap.size, 1, none⟩ = some (.int .i64 m) := ccN _ _ _ (by rw [heap_cell HR.out]; rfl)
    have X0 : ∀ W, Ext W0 W → W.cell? ⟨xb, 0, none⟩ = some (.slice ap L.length cp) := ccN _ _ _ (by rw [heap_cell (hA.heap HX.out)]; rfl)
    have HCC : Hid (∀ (b j : Nat) (v : Value), w.cell? ⟨b, j, none⟩ = some v → ∀ W, Ext W0 W → W.cell? ⟨b, j, none⟩ = some v) := fun b j v hv W h => by rw [(hA.trans h).below.cell (p := ⟨b, j, none⟩) (block_lt hv)]; exact hv
    clear ccN
    go_loopw [5, 6] (fun v n wr => ∃ k : Nat, k ≤ 33 ∧ n = .int .i64 (k : Int) ∧ Ext W0 wr ∧ OwnP wr W0.heap.size v ((rowsN L (c, m) k).map (·.1))) (fun _ n _ => 33 - (intOf n).toNat)
    case atStart => exact ⟨0, Nat.zero_le _, rfl, Ext.refl _, by simpa [rowsN] using OwnP.nil _ _⟩
    case round =>
      obtain ⟨k, hk, rfl, hx, hown⟩ := hrel
      have q0 := Q0 wr hx
      have q1 := Q1 wr hx
      by_cases hk33 : k = 33
      · subst hk33
        go_wp2_with fail
        go_ret
        rw [HE.out] at hown
        exact ⟨_, rfl, owns_base hown (by omega), hA.trans hx⟩
      · have hk32 : (k : Int) ≤ 32 := by omega
        have hrl := rowsN_len L (c, m) k
        have hkl : k * L.length ≤ 33 * 1000 := Nat.mul_le_mul (by omega) hl
        go_wp2_with (go_at_call 37; refine (kI _).mono ?_; rintro e w2 ⟨rfl, hx2⟩)
        have hx02 := hx.trans hx2
        have ho2 : OwnP w2 W0.heap.size u5 ((rowsN L (c, m) k).map (·.1)) := owns_later hown hx2
        clear hown q0 q1
        go_loopw [5, 7] (fun v i wr => ∃ j : Nat, j ≤ L.length ∧ i = .int .i64 (j : Int) ∧ Ext W0 wr ∧ OwnP wr W0.heap.size v ((rowsN L (c, m) k ++ cvN (L.take j) (c, m) k).map (·.1))) (fun _ i _ => L.length - (intOf i).toNat)
        case atStart => exact ⟨0, Nat.zero_le _, rfl, hx02, by simpa [cvN] using ho2⟩
        case round =>
          obtain ⟨j, hj, rfl, hx3, ho3⟩ := hrel
          have x0 := X0 _ hx3
          by_cases hlt : j < L.length
          · obtain ⟨⟨⟨pa, pn⟩, u⟩, hxk⟩ : ∃ x, L[j]? = some x := ⟨_, List.getElem?_eq_getElem hlt⟩
            obtain ⟨gp, gi, rfl, rfl, y0, y1, -⟩ := HC.out j _ hxk
            simp only at y0 y1
            have hbx := (HV.out _ (List.mem_of_getElem? hxk)).bd
            simp only at hbx
            have kV := fun w => refCovers_any pa pn c m w hbx.1 hbx.2.1 c0 c1
            have hji : (j : Int) < (L.length : Int) := by omega
            have Y0 := HCC.out _ _ _ y0
            have Y1 := HCC.out _ _ _ y1
            have hct := cvN_take (p := (c, m)) (k := k) hxk
            have HT : Hid (cvN (L.take (j + 1)) (c, m) k = cvN (L.take j) (c, m) k ++ if cvB (c, m) k ((pa, pn), u) = true then [((pa, pn), u)] else []) := hct
            have hcl : (cvN (L.take j) (c, m) k).length ≤ L.length := Nat.le_trans (List.length_filter_le _ _) (by rw [List.length_take]; omega)
            have hll3 : ((rowsN L (c, m) k ++ cvN (L.take j) (c, m) k).map (·.1)).length ≤ 1000000 := by rw [List.length_map, List.length_append]; omega
            generalize hM : (rowsN L (c, m) k ++ cvN (L.take j) (c, m) k).map (·.1) = M at *
            have HM : Hid _ := hM
            clear y0 y1 hxk hct hM ho2
            by_cases hpk : pn = (k : Int)
            · have hpe : (pn == (k : Int)) = true := by rw [beq_iff_eq]; exact hpk
              cases hcv : coversV pa pn c m with
              | false =>
              rw [hcv] at kV
              have HB : Hid (cvB (c, m) k ((pa, pn), u) = false) := by show _ = _; unfold cvB cov; simp only [hcv]; simp
              clear hcv hpk
              go_wp2_with fail
              refine wp_region_eager [(0, false), (1, false), (2, false), (3, false), (4, false), (5, false), (6, false), (7, false), (8, false), (9, false), (10, false), (11, false), (12, false), (13, false), (14, false), (15, false), (16, false), (17, false), (18, false), (19, true), (20, false)] (by kernel_rfl) (by kernel_rfl) rfl (by kernel_rfl) (fun _ _ _ _ _ h => h) ?_
              have hxd : Ext W0 wr.drew := hx3.drew
              have z0 := fun W h => X0 W (hxd.trans h)
              have z1 := fun W h => Y0 W (hxd.trans h)
              have z2 := fun W h => Y1 W (hxd.trans h)
              have z3 := fun W h => Q0 W (hxd.trans h)
              have z4 := fun W h => Q1 W (hxd.trans h)
              have hod : OwnP wr.drew W0.heap.size u5 M := owns_later ho3 (Ext.refl wr).drew
              clear x0 ho3
              generalize wr.drew = W at *
              iterate 19 (refine wpE_read (v := ?_) rfl (by rfl) ?_ ?_; rotate_left; (focus (intro w' hx; go_simp; first | done | with_reducible rfl)); simp only [Act.put, List.setIfInBounds_toArray, List.set_cons_zero, List.set_cons_succ])
              (refine wpE_call rfl (by rfl) (fun K hK => ?_); go_simp; first
                | (go_at_call 32; refine (kV _).mono ?_; rintro e w5 ⟨rfl, hx5⟩; refine hK _ _ hx5 ?_; clear hK K))
              iterate 1 (refine wpE_read (v := ?_) rfl (by rfl) ?_ ?_; rotate_left; (focus (intro w' hx; go_simp; first | done | with_reducible rfl)); simp only [Act.put, List.setIfInBounds_toArray, List.set_cons_zero, List.set_cons_succ])
              refine wpE_done ?_
              go_wp2_with fail
              go_roundw
              case rel => exact ⟨j + 1, by omega, by go_num, hxd.trans hx5, by rw [HT.out, HB.out]; simp only [Bool.false_eq_true, if_false, List.append_nil]; rw [HM.out]; exact owns_later hod hx5⟩
              case measure => simp [intOf]; omega
              | true =>
              rw [hcv] at kV
              have HB : Hid (cvB (c, m) k ((pa, pn), u) = true) := by show _ = _; unfold cvB cov; simp only [hcv, hpe]; simp
              clear hcv hpk
              go_wp2_with fail
              refine wp_region_eager [(0, false), (1, false), (2, false), (3, false), (4, false), (5, false), (6, false), (7, false), (8, false), (9, false), (10, false), (11, false), (12, false), (13, false), (14, false), (15, false), (16, false), (17, false), (18, false), (19, true), (20, false)] (by kernel_rfl) (by kernel_rfl) rfl (by kernel_rfl) (fun _ _ _ _ _ h => h) ?_
              have hxd : Ext W0 wr.drew := hx3.drew
              have z0 := fun W h => X0 W (hxd.trans h)
              have z1 := fun W h => Y0 W (hxd.trans h)
              have z2 := fun W h => Y1 W (hxd.trans h)
              have z3 := fun W h => Q0 W (hxd.trans h)
              have z4 := fun W h => Q1 W (hxd.trans h)
              have hod : OwnP wr.drew W0.heap.size u5 M := owns_later ho3 (Ext.refl wr).drew
              clear x0 ho3
              generalize wr.drew = W at *
              iterate 19 (refine wpE_read (v := ?_) rfl (by rfl) ?_ ?_; rotate_left; (focus (intro w' hx; go_simp; first | done | with_reducible rfl)); simp only [Act.put, List.setIfInBounds_toArray, List.set_cons_zero, List.set_cons_succ])
              (refine wpE_call rfl (by rfl) (fun K hK => ?_); go_simp; first
                | (go_at_call 32; refine (kV _).mono ?_; rintro e w5 ⟨rfl, hx5⟩; refine hK _ _ hx5 ?_; clear hK K))
              iterate 1 (refine wpE_read (v := ?_) rfl (by rfl) ?_ ?_; rotate_left; (focus (intro w' hx; go_simp; first | done | with_reducible rfl)); simp only [Act.put, List.setIfInBounds_toArray, List.set_cons_zero, List.set_cons_succ])
              refine wpE_done ?_
              have hB : Ext w5 (w5.alloc (.cells #[.int .u32 pa, .int .i64 pn] 32)) := (Ext.refl w5).alloc _
              have hoA : OwnP (w5.alloc (.cells #[.int .u32 pa, .int .i64 pn] 32)) W0.heap.size u5 M := owns_later hod (hx5.trans hB)
              have HU : Hid _ := heap_new w5 (.cells #[.int .u32 pa, .int .i64 pn] 32)
              have hxA : Ext W0 (w5.alloc (.cells #[.int .u32 pa, .int .i64 pn] 32)) := (hxd.trans hx5).trans hB
              have i0 := z0 w5 hx5
              have i1 := z1 w5 hx5
              have i2 := z2 w5 hx5
              clear hod
              go_wp2_with (at_builtin; refine append_px rfl (.tmp 46) (.tmp 54) rfl W0.heap.size u5 M rfl hoA w5.heap.size 1 pa pn rfl HU.out (by omega) hxA.size ?_; intro v' w6 hown' hgrow)
              have hx6 := grown_ext hxA hoA hgrow
              clear hgrow
              go_roundw
              case rel => exact ⟨j + 1, by omega, by go_num, hx6, by rw [HT.out, HB.out]; simp only [if_true]; rw [← List.append_assoc, List.map_append, HM.out]; exact hown'⟩
              case measure => simp [intOf]; omega
            · have hpe : (pn == (k : Int)) = false := by rw [beq_eq_false_iff_ne]; exact hpk
              have HB : Hid (cvB (c, m) k ((pa, pn), u) = false) := by show _ = _; unfold cvB; simp only [hpe]; rfl
              clear hpk kV
              go_wp2_with fail
              refine wp_region_eager [(0, false), (1, false), (2, false), (3, false), (4, false), (5, false), (6, false), (7, false), (8, false), (9, false), (10, false), (11, false), (12, false), (13, false), (14, false), (15, false), (16, false), (17, false), (18, false), (19, true), (20, false)] (by kernel_rfl) (by kernel_rfl) rfl (by kernel_rfl) (fun _ _ _ _ _ h => h) ?_
              have hxd : Ext W0 wr.drew := hx3.drew
              have z0 := fun W h => X0 W (hxd.trans h)
              have z1 := fun W h => Y0 W (hxd.trans h)
              have z2 := fun W h => Y1 W (hxd.trans h)
              have z3 := fun W h => Q0 W (hxd.trans h)
              have z4 := fun W h => Q1 W (hxd.trans h)
              have hod : OwnP wr.drew W0.heap.size u5 M := owns_later ho3 (Ext.refl wr).drew
              clear x0 ho3
              generalize wr.drew = W at *
              iterate 11 (refine wpE_read (v := ?_) rfl (by rfl) ?_ ?_; rotate_left; (focus (intro w' hx; go_simp; first | done | with_reducible rfl)); simp only [Act.put, List.setIfInBounds_toArray, List.set_cons_zero, List.set_cons_succ])
              iterate 9 (rw [wpE_skip_eq _ rfl (by rfl)]; simp only [Act.put, List.setIfInBounds_toArray, List.set_cons_zero, List.set_cons_succ])
              iterate 1 (refine wpE_read (v := ?_) rfl (by rfl) ?_ ?_; rotate_left; (focus (intro w' hx; go_simp; first | done | with_reducible rfl)); simp only [Act.put, List.setIfInBounds_toArray, List.set_cons_zero, List.set_cons_succ])
              refine wpE_done ?_
              go_wp2_with fail
              go_roundw
              case rel => exact ⟨j + 1, by omega, by go_num, hxd, by rw [HT.out, HB.out]; simp only [Bool.false_eq_true, if_false, List.append_nil]; rw [HM.out]; exact hod⟩
              case measure => simp [intOf]; omega
          · obtain rfl : j = L.length := by omega
            go_wp2_with fail
            go_roundw
            case rel => exact ⟨k + 1, by omega, by go_num, hx3, by rw [rowsN_succ]; rw [List.take_length] at ho3; exact ho3⟩
            case measure => simp [intOf]; omega
  · have hvf : isV c m = false := by simpa using hvp
    rw [hvf] at kI
    have hcv : covL L (c, m) = [] := by unfold covL; rw [if_neg (by simpa using hvf)]
    rw [hcv]
    have q0 : (w.alloc (.cells #[.int .u32 c, .int .i64 m] 32)).cell? ⟨w.heap.size, 0, none⟩ = some (.int .u32 c) := by rw [heap_cell HR.out]; rfl
    have q1 : (w.alloc (.cells #[.int .u32 c, .int .i64 m] 32)).cell? ⟨w.heap.size, 1, none⟩ = some (.int .i64 m) := by rw [heap_cell HR.out]; rfl
    clear hX hcell h hs hv hvp hvf hcv
    go_enter Try.func26, Try.ntmps26
    go_wp2_with fail
    go_loopw [5, 6] (fun v n wr => v = .slice none 0 0 ∧ n = .int .i64 0 ∧ wr = w.alloc (.cells #[.int .u32 c, .int .i64 m] 32)) (fun _ _ _ => 0)
    case atStart => exact ⟨rfl, rfl, rfl⟩
    case round =>
      obtain ⟨rfl, rfl, rfl⟩ := hrel
      go_wp2_with (go_at_call 37; refine (kI _).mono ?_; rintro e w2 ⟨rfl, hx2⟩)
      go_ret
      exact ⟨_, rfl, by simpa using OwnP.nil _ _, hA.trans hx2⟩
end Go.Proofs.Ytgcnnblngmomhaa.Tri
