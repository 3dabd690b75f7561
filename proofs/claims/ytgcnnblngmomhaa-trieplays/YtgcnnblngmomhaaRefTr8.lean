/- The document's Nodes. -/
import Derived.Test.YtgcnnblngmomhaaRefTr7
import Derived.Deep.DeepCutAuto
namespace Go.Proofs.Ytgcnnblngmomhaa.Tri
open Go.RowKit Go.Proofs.Ytgcnnblngmomhaa
set_option linter.unusedVariables false

theorem two_new (w : World) (o1 o2 : Obj) : Ext w ((w.alloc o1).alloc o2).drew ∧ ((w.alloc o1).alloc o2).drew.heap[w.heap.size]? = some o1 ∧ ((w.alloc o1).alloc o2).drew.heap[w.heap.size + 1]? = some o2 := by
  refine ⟨(((Ext.refl w).alloc o1).alloc o2).drew, ?_, ?_⟩
  · show ((w.heap.push o1).push o2)[w.heap.size]? = some o1
    rw [Array.getElem?_push_lt (by simp)]; simp
  · show ((w.heap.push o1).push o2)[w.heap.size + 1]? = some o2
    have h := Array.getElem?_push_size (xs := w.heap.push o1) (x := o2)
    rw [Array.size_push] at h
    exact h

theorem set2 {w : World} {g : Nat} {x y : Value} {t : TypeId} (h : w.heap[g]? = some (.cells #[x, y] t (0, 0))) (u0 u1 : Value) : ((w.setCell ⟨g, 0, none⟩ u0).setCell ⟨g, 1, none⟩ u1).heap[g]? = some (.cells #[u0, u1] t (0, 0)) := by
  rw [heap_set (heap_set h _)]; simp

theorem pair_step (f : PX → PX → Bool) {L : Row} {k : Nat} {x y : PX × Int} (hx : L[k]? = some x) (hy : L[k + 1]? = some y) :
    pairN f ((L.map (·.1)).take (k + 1 + 1)) = pairN f ((L.map (·.1)).take (k + 1)) + (if f x.1 y.1 = true then 1 else 0) := by
  have h1 : (L.map (·.1)).take (k + 1) = (L.map (·.1)).take k ++ [x.1] := by
    rw [List.take_add_one, List.getElem?_map, hx]; rfl
  have h2 : (L.map (·.1)).take (k + 1 + 1) = (L.map (·.1)).take k ++ x.1 :: y.1 :: [] := by
    rw [List.take_add_one, h1, List.getElem?_map, hy]; simp
  rw [h2, h1, pairN_mid]
  simp [pairN]

theorem nodes_same {L : Row} {k N r : Nat} {x y : PX × Int} (hx : L[k]? = some x) (hy : L[k + 1]? = some y) (h : N ≤ L.length + k ∧ N = L.length + pairN (forkB L) ((L.map (·.1)).take (k + 1)) ∧ r = L.length + 1 - k) (hf : forkB L x.1 y.1 = false) :
    N ≤ L.length + (k + 1) ∧ N = L.length + pairN (forkB L) ((L.map (·.1)).take (k + 1 + 1)) ∧ L.length - k = L.length + 1 - (k + 1) := by
  have := pair_step (forkB L) hx hy
  rw [hf] at this
  simp only [Bool.false_eq_true, if_false] at this
  refine ⟨by omega, by rw [this]; exact h.2.1, by omega⟩

theorem nodes_more {L : Row} {k N r : Nat} {x y : PX × Int} (hx : L[k]? = some x) (hy : L[k + 1]? = some y) (h : N ≤ L.length + k ∧ N = L.length + pairN (forkB L) ((L.map (·.1)).take (k + 1)) ∧ r = L.length + 1 - k) (hf : forkB L x.1 y.1 = true) :
    N + 1 ≤ L.length + (k + 1) ∧ N + 1 = L.length + pairN (forkB L) ((L.map (·.1)).take (k + 1 + 1)) ∧ L.length - k = L.length + 1 - (k + 1) := by
  have := pair_step (forkB L) hx hy
  rw [hf] at this
  simp only [if_true] at this
  refine ⟨by omega, by rw [this]; omega, by omega⟩

theorem fork_val (L : Row) {a an b bn : Int} {z : Nat} (hz : lzV a b = (z : Int)) : forkB L (a, an) (b, bn) = if bn ≤ (z : Int) ∨ coversV a an b bn = true then false else !(foundB L (normV b z, (z : Int))) && belowB L (normV (normV b z) ((z : Int) + 1), (z : Int) + 1) && belowB L (normV b z + 2 ^ (31 - (z : Int)).toNat, (z : Int) + 1) := by
  unfold forkB forkP lowP highP cov
  simp only [hz]

theorem fork_len {a an b bn : Int} (ha : Vp (a, an)) (hb : Vp (b, bn)) : ∃ z : Nat, lzV a b = (z : Int) ∧ z ≤ 32 ∧ (∀ q : Nat, q < z → hasV a ((q : Int) + 1) b = true) ∧ (z < 32 → hasV a ((z : Int) + 1) b = false) := by
  obtain ⟨A, N, e, hN, hA, hAm⟩ := ha
  obtain ⟨B, M, e', hM, hB, hBm⟩ := hb
  cases e
  cases e'
  have hl := lz_bd hA hB
  obtain ⟨z, hz⟩ := Int.eq_ofNat_of_zero_le hl.1
  have hs := lz_spec hA hB
  rw [hz] at hs hl
  refine ⟨z, hz, by omega, fun q hq => ?_, fun h => ?_⟩
  · have := (hs (q + 1) (by omega)).1 (by omega)
    unfold hasV
    rw [show ((q : Int) + 1) = ((q + 1 : Nat) : Int) by omega, sizeN_nat (q + 1) (by omega), Int.toNat_natCast, Int.toNat_natCast]
    exact decide_eq_true this
  · have : ¬ _ := fun e => absurd ((hs (z + 1) (by omega)).2 e) (by omega)
    unfold hasV
    rw [show ((z : Int) + 1) = ((z + 1 : Nat) : Int) by omega, sizeN_nat (z + 1) (by omega), Int.toNat_natCast, Int.toNat_natCast]
    exact decide_eq_false this

theorem fork_high {b : Int} (b0 : 0 ≤ b) (b1 : b ≤ 4294967295) {z : Nat} (hz : z < 32) : bits .or .u32 (normV b z) (bits .andNot .u32 (maskV ((z : Int) + 1)) (maskV (z : Int))) = normV b z + 2 ^ (31 - (z : Int)).toNat ∧ 0 ≤ normV b z + 2 ^ (31 - (z : Int)).toNat ∧ normV b z + 2 ^ (31 - (z : Int)).toNat ≤ 4294967295 := by
  have hb := normV_bd b z b0 b1
  obtain ⟨f, hf⟩ := Int.eq_ofNat_of_zero_le hb.1
  have hm : f % 2 ^ (32 - z) = 0 := by
    have : normV b z = ((b.toNat / 2 ^ (32 - z) * 2 ^ (32 - z) : Nat) : Int) := by unfold normV; rw [sizeN_nat z (by omega)]
    have e : f = b.toNat / 2 ^ (32 - z) * 2 ^ (32 - z) := by omega
    rw [e]; exact Nat.mul_mod_left _ _
  rw [hf] at hb ⊢
  have hf' : f < 4294967296 := by omega
  have h := high_or (f := f) (z := z) (by omega) hf' hm
  exact ⟨h.1, h.2.2, by omega⟩

set_option maxRecDepth 4000 in
set_option maxHeartbeats 4000000 in
theorem refNodes_any (xb : Nat) (L : Row) (F : List Nat) (w : World) (h : RefAt w xb L F) (hv : ∀ x ∈ L, Vp x.1) (hl : L.length ≤ 1000000) :
    Calls Try.prog 39 #[.pointer (some ⟨xb, 0, none⟩)] w fun e w' => e = .returned (.int .i64 (nodesL L : Int)) ∧ Ext w w' := by
  have HRA : Hid (RefAt w xb L F) := h
  obtain ⟨ap, cp, ai, ci, hX, hcell⟩ := h.open
  have HX : Hid _ := hX
  have HC : Hid _ := hcell
  have HV : Hid (∀ x ∈ L, Vp x.1) := hv
  clear hX hcell h hv
  have X0 : ∀ W, Ext w W → W.cell? ⟨xb, 0, none⟩ = some (.slice ap L.length cp) := fun W h => by rw [heap_cell (h.heap HX.out)]; rfl
  have HCC : Hid (∀ (b j : Nat) (v : Value), w.cell? ⟨b, j, none⟩ = some v → ∀ W, Ext w W → W.cell? ⟨b, j, none⟩ = some v) := fun b j v hv W h => by rw [h.below.cell (p := ⟨b, j, none⟩) (block_lt hv)]; exact hv
  have x0 := X0 w (Ext.refl w)
  go_enter Try.func39, Try.ntmps39
  go_wp2_with fail
  clear x0
  go_loopg [3, 4] (L.length + 1) (fun r n i wr => ∃ k N : Nat, k ≤ L.length ∧ i = .int .i64 (k : Int) ∧ n = .int .i64 (N : Int) ∧ Ext w wr ∧ N ≤ 2000000 ∧ Hid (N ≤ L.length + k ∧ N = L.length + pairN (forkB L) ((L.map (·.1)).take (k + 1)) ∧ r = L.length + 1 - k))
  case atStart =>
    refine ⟨0, L.length, Nat.zero_le _, rfl, rfl, Ext.refl _, by omega, ⟨Nat.le_refl _, ?_, rfl⟩⟩
    cases L <;> rfl
  case round =>
    obtain ⟨k, N, hk, rfl, rfl, hx, hN, HG⟩ := hrel
    have x0 := X0 wr hx
    by_cases hlt : k + 1 < L.length
    · obtain ⟨⟨⟨a, an⟩, u⟩, hxa⟩ : ∃ x, L[k]? = some x := ⟨_, List.getElem?_eq_getElem (by omega)⟩
      obtain ⟨⟨⟨b, bn⟩, u'⟩, hxb⟩ : ∃ x, L[k + 1]? = some x := ⟨_, List.getElem?_eq_getElem hlt⟩
      obtain ⟨gp, gi, rfl, rfl, y0, y1, -⟩ := HC.out k _ hxa
      obtain ⟨gp', gi', e1, -, y2, y3, -⟩ := HC.out (k + 1) _ hxb
      cases e1
      simp only at y0 y1 y2 y3
      have Y0 := HCC.out _ _ _ y0
      have Y1 := HCC.out _ _ _ y1
      have Y2 := HCC.out _ _ _ y2
      have Y3 := HCC.out _ _ _ y3
      clear y0 y1 y2 y3
      have HVa : Hid (Vp (a, an)) := HV.out _ (List.mem_of_getElem? hxa)
      have HVb : Hid (Vp (b, bn)) := HV.out _ (List.mem_of_getElem? hxb)
      have HXa : Hid (L[k]? = some ((a, an), u)) := hxa
      have HXb : Hid (L[k + 1]? = some ((b, bn), u')) := hxb
      have hki : (k : Int) + 1 < (L.length : Int) := by omega
      have hw1 : IntKind.i64.wrap ((k : Int) + 1) = (k : Int) + 1 := by rw [IntKind.wrap_i64]; omega
      have HO : Hid (k ≤ L.length ∧ k + 1 < L.length ∧ L.length ≤ 1000000) := ⟨hk, hlt, hl⟩
      clear hxa hxb hk
      go_wp2_with fail
      go_cut [5, 6] from 18 to 110 (fun v5 v6 wx => ∃ g5 g6, v5 = .pointer (some ⟨g5, 0, none⟩) ∧ v6 = .pointer (some ⟨g6, 0, none⟩) ∧ Ext wr wx ∧ wx.heap[g5]? = some (.cells #[.int .u32 a, .int .i64 an] 32) ∧ wx.heap[g6]? = some (.cells #[.int .u32 b, .int .i64 bn] 32))
      case first =>
        have hk0 : k < L.length := by omega
        have h01 : (0 : Int) ≤ (k : Int) + 1 := by omega
        have hxZ : Ext w (wr.alloc (.cells #[.int .u32 0, .int .i64 0] 32)) := hx.alloc _
        have hxA : Ext w (wr.alloc (.cells #[.int .u32 a, .int .i64 an] 32)) := hx.alloc _
        have hxZZ : Ext w ((wr.alloc (.cells #[.int .u32 0, .int .i64 0] 32)).alloc (.cells #[.int .u32 0, .int .i64 0] 32)) := hxZ.alloc _
        have hxZA : Ext w ((wr.alloc (.cells #[.int .u32 0, .int .i64 0] 32)).alloc (.cells #[.int .u32 a, .int .i64 an] 32)) := hxZ.alloc _
        have hxAZ : Ext w ((wr.alloc (.cells #[.int .u32 a, .int .i64 an] 32)).alloc (.cells #[.int .u32 0, .int .i64 0] 32)) := hxA.alloc _
        have q00 := X0 _ hx
        have q01 := Y0 _ hx
        have q02 := Y1 _ hx
        have q03 := Y2 _ hx
        have q04 := Y3 _ hx
        have q10 := X0 _ hxZ
        have q11 := Y0 _ hxZ
        have q12 := Y1 _ hxZ
        have q13 := Y2 _ hxZ
        have q14 := Y3 _ hxZ
        have q20 := X0 _ hxA
        have q21 := Y0 _ hxA
        have q22 := Y1 _ hxA
        have q23 := Y2 _ hxA
        have q24 := Y3 _ hxA
        have q30 := X0 _ hxZZ
        have q31 := Y0 _ hxZZ
        have q32 := Y1 _ hxZZ
        have q33 := Y2 _ hxZZ
        have q34 := Y3 _ hxZZ
        have q40 := X0 _ hxZA
        have q41 := Y0 _ hxZA
        have q42 := Y1 _ hxZA
        have q43 := Y2 _ hxZA
        have q44 := Y3 _ hxZA
        have q50 := X0 _ hxAZ
        have q51 := Y0 _ hxAZ
        have q52 := Y1 _ hxAZ
        have q53 := Y2 _ hxAZ
        have q54 := Y3 _ hxAZ
        go_region
        all_goals (try go_wp2_with fail)
        all_goals go_meet
        all_goals (first
          | exact ⟨_, _, rfl, rfl, (two_new wr _ _).1, (two_new wr _ _).2.1, (two_new wr _ _).2.2⟩
          | exact ⟨_, _, rfl, rfl, (two_new wr _ _).1, (two_new wr _ _).2.2, (two_new wr _ _).2.1⟩)
      case rest =>
        obtain ⟨g5, g6, rfl, rfl, hxc, h5, h6⟩ := hcut
        have HA : Hid (∀ W, Ext wc W → W.cell? ⟨g5, 0, none⟩ = some (.int .u32 a) ∧ W.cell? ⟨g5, 1, none⟩ = some (.int .i64 an) ∧ W.cell? ⟨g6, 0, none⟩ = some (.int .u32 b) ∧ W.cell? ⟨g6, 1, none⟩ = some (.int .i64 bn)) := fun W h => ⟨by rw [heap_cell (h.heap h5)]; rfl, by rw [heap_cell (h.heap h5)]; rfl, by rw [heap_cell (h.heap h6)]; rfl, by rw [heap_cell (h.heap h6)]; rfl⟩
        have hba := HVa.out.bd
        have hbb := HVb.out.bd
        simp only at hba hbb
        obtain ⟨z, hz, hz32, hlo, hhi⟩ := fork_len HVa.out HVb.out
        have hfk := fork_val L (an := an) (bn := bn) hz
        have HF : Hid _ := hfk
        have HLO : Hid _ := hlo
        have HHI : Hid _ := hhi
        have hxw : Ext w wc := hx.trans hxc
        clear h5 h6 hfk hlo hhi X0 Y0 Y1 Y2 Y3 x0 hw1 hz HVa HVb
        go_wp2_with fail
        go_loopg [7] (z + 1) (fun r l wr => ∃ q : Nat, q ≤ z ∧ l = .int .i64 (q : Int) ∧ Ext wc wr ∧ Hid (r = z + 1 - q))
        case atStart => exact ⟨0, Nat.zero_le _, rfl, Ext.refl _, rfl⟩
        case round =>
          obtain ⟨q, hq, rfl, hx2, HR⟩ := hrel
          have hxd : Ext wc wr.drew := hx2.drew
          have c0 := fun W h => (HA.out W (hxd.trans h)).1
          have c2 := fun W h => (HA.out W (hxd.trans h)).2.2.1
          by_cases hqz : q < z
          · have hh := u32_has a ((q : Int) + 1) b hba.1 hba.2.1 hbb.1 hbb.2.1
            rw [HLO.out q hqz] at hh
            have kM := fun w => refMask_any ((q : Int) + 1) w
            generalize maskV ((q : Int) + 1) = mq at *
            have hw2 : IntKind.i64.wrap ((q : Int) + 1) = (q : Int) + 1 := by rw [IntKind.wrap_i64]; omega
            have h32 : (q : Int) < 32 := by omega
            go_wp2_with fail
            refine wp_region_eager [(0, false), (1, false), (2, false), (3, false), (4, false), (5, false), (6, false), (7, false), (8, false), (9, false), (10, true), (11, false), (12, false), (13, false)] (by kernel_rfl) (by kernel_rfl) rfl (by kernel_rfl) (fun _ _ _ _ _ h => h) ?_
            generalize wr.drew = W at *
            iterate 10 (refine wpE_read (v := ?_) rfl (by rfl) ?_ ?_; rotate_left; (focus (intro w' hx; go_simp; first | done | with_reducible rfl)); simp only [Act.put, List.setIfInBounds_toArray, List.set_cons_zero, List.set_cons_succ])
            (refine wpE_call rfl (by rfl) (fun K hK => ?_); go_simp; first
              | (go_at_call 45; refine (kM _).mono ?_; rintro e w5 ⟨rfl, rfl⟩; refine hK _ _ (Ext.refl _) ?_; clear hK K))
            iterate 3 (refine wpE_read (v := ?_) rfl (by rfl) ?_ ?_; rotate_left; (focus (intro w' hx; go_simp; first | done | with_reducible rfl)); simp only [Act.put, List.setIfInBounds_toArray, List.set_cons_zero, List.set_cons_succ])
            refine wpE_done ?_
            go_wp2_with fail
            go_roundg (z - q)
            case measure => have := HR.out; omega
            case rel => exact ⟨q + 1, by omega, by go_num, hxd, (by omega : z - q = z + 1 - (q + 1))⟩
          · obtain rfl : q = z := by omega
            clear hqz hq HLO HR
            have hb0 := hbb.1
            have hb1 := hbb.2.1
            by_cases h32 : q = 32
            · subst h32
              go_wp2_with fail
              refine wp_region_eager [(0, false), (1, false), (2, false), (3, false), (4, false), (5, false), (6, false), (7, false), (8, false), (9, false), (10, true), (11, false), (12, false), (13, false)] (by kernel_rfl) (by kernel_rfl) rfl (by kernel_rfl) (fun _ _ _ _ _ h => h) ?_
              have hc2 := c2 _ (Ext.refl _)
              generalize wr.drew = W at *
              iterate 3 (refine wpE_read (v := ?_) rfl (by rfl) ?_ ?_; rotate_left; (focus (intro w' hx; go_simp; first | done | with_reducible rfl)); simp only [Act.put, List.setIfInBounds_toArray, List.set_cons_zero, List.set_cons_succ])
              iterate 10 (rw [wpE_skip_eq _ rfl (by rfl)]; simp only [Act.put, List.setIfInBounds_toArray, List.set_cons_zero, List.set_cons_succ])
              (refine wpE_read (v := ?_) rfl (by rfl) ?_ ?_; rotate_left; (focus (intro w' hx; go_simp; first | done | with_reducible rfl)); simp only [Act.put, List.setIfInBounds_toArray, List.set_cons_zero, List.set_cons_succ])
              refine wpE_done ?_
              go_wp2_with fail
              go_at_call 30
              refine (refNorm_any b 32 _ hb0 hb1).mono ?_
              rintro e w1 ⟨rfl, hx1⟩
              have hx8 : Ext wc (w1.alloc (.cells #[.int .u32 (normV b 32), .int .i64 (holdV 32)] 32)) := (hxd.trans hx1).alloc _
              obtain ⟨-, -, -, d3⟩ := HA.out _ hx8
              have hge : bn ≤ 32 := hbb.2.2.2
              have hv0 : forkB L (a, an) (b, bn) = false := by rw [HF.out, if_pos (.inl (by simpa using hge))]
              go_wp2_with fail
              go_roundg (L.length - k)
              case measure => have := HG.out.2.2; omega
              case rel => exact ⟨k + 1, N, by omega, by go_num, rfl, hxw.trans hx8, by omega, nodes_same HXa.out HXb.out HG.out hv0⟩
            · have hq32 : q < 32 := by omega
              have h32i : (q : Int) < 32 := by omega
              have hh := u32_has a ((q : Int) + 1) b hba.1 hba.2.1 hbb.1 hbb.2.1
              rw [HHI.out hq32] at hh
              have kM := fun w => refMask_any ((q : Int) + 1) w
              have kM0 := fun w => refMask_any (q : Int) w
              have hHI := fork_high hb0 hb1 hq32
              have hmb := maskV_bd ((q : Int) + 1)
              have hmb0 := maskV_bd (q : Int)
              generalize maskV ((q : Int) + 1) = mq at *
              generalize maskV (q : Int) = m0 at *
              have hw2 : IntKind.i64.wrap ((q : Int) + 1) = (q : Int) + 1 := by rw [IntKind.wrap_i64]; omega
              have hho : holdV (q : Int) = (q : Int) := holdV_nat q hz32
              have hho1 : holdV ((q : Int) + 1) = (q : Int) + 1 := by have := holdV_nat (q + 1) (by omega); push_cast at this; exact this
              go_wp2_with fail
              refine wp_region_eager [(0, false), (1, false), (2, false), (3, false), (4, false), (5, false), (6, false), (7, false), (8, false), (9, false), (10, true), (11, false), (12, false), (13, false)] (by kernel_rfl) (by kernel_rfl) rfl (by kernel_rfl) (fun _ _ _ _ _ h => h) ?_
              have hc2 := c2 _ (Ext.refl _)
              generalize wr.drew = W at *
              iterate 10 (refine wpE_read (v := ?_) rfl (by rfl) ?_ ?_; rotate_left; (focus (intro w' hx; go_simp; first | done | with_reducible rfl)); simp only [Act.put, List.setIfInBounds_toArray, List.set_cons_zero, List.set_cons_succ])
              (refine wpE_call rfl (by rfl) (fun K hK => ?_); go_simp; first
                | (go_at_call 45; refine (kM _).mono ?_; rintro e w5 ⟨rfl, rfl⟩; refine hK _ _ (Ext.refl _) ?_; clear hK K))
              iterate 3 (refine wpE_read (v := ?_) rfl (by rfl) ?_ ?_; rotate_left; (focus (intro w' hx; go_simp; first | done | with_reducible rfl)); simp only [Act.put, List.setIfInBounds_toArray, List.set_cons_zero, List.set_cons_succ])
              refine wpE_done ?_
              clear c0 c2 hh
              go_wp2_with fail
              go_at_call 30
              have kN := refNorm_any b (q : Int) w5 hb0 hb1
              rw [hho] at kN
              have hfb := normV_bd b (q : Int) hb0 hb1
              have kN2 := fun W => refNorm_any (normV b (q : Int)) ((q : Int) + 1) W hfb.1 hfb.2
              rw [hho1] at kN2
              have hlb := normV_bd (normV b (q : Int)) ((q : Int) + 1) hfb.1 hfb.2
              obtain ⟨hhi, hh0, hh1⟩ := hHI
              have kP := fun W (h : Ext w W) => place_any xb L F (normV b (q : Int)) (q : Int) W (HRA.out.ext h) hl
              have kL := fun W (h : Ext w W) => below_any xb L F (normV (normV b (q : Int)) ((q : Int) + 1)) ((q : Int) + 1) W (HRA.out.ext h) HV.out hl hlb.1 hlb.2
              have kH := fun W (h : Ext w W) => below_any xb L F (normV b (q : Int) + 2 ^ (31 - (q : Int)).toNat) ((q : Int) + 1) W (HRA.out.ext h) HV.out hl hh0 hh1
              generalize normV (normV b (q : Int)) ((q : Int) + 1) = la at *
              generalize normV b (q : Int) + 2 ^ (31 - (q : Int)).toNat = ha at *
              generalize normV b (q : Int) = fa at *
              generalize foundB L (fa, (q : Int)) = fo at *
              generalize placeN L (fa, (q : Int)) = pl at *
              generalize belowB L (la, (q : Int) + 1) = bl at *
              generalize belowB L (ha, (q : Int) + 1) = bh at *
              refine kN.mono ?_
              rintro e w1 ⟨rfl, hx1⟩
              have hx8 : Ext wc (w1.alloc (.cells #[.int .u32 fa, .int .i64 (q : Int)] 32)) := (hxd.trans hx1).alloc _
              have H8 : Hid _ := heap_new w1 (.cells #[.int .u32 fa, .int .i64 (q : Int)] 32)
              obtain ⟨d0, d1, d2, d3⟩ := HA.out _ hx8
              have kC := fun w => refCovers_any a an b bn w hba.1 hba.2.1 hbb.1 hbb.2.1
              clear kN hc2
              by_cases hge : bn ≤ (q : Int)
              · have hv0 : forkB L (a, an) (b, bn) = false := by rw [HF.out, if_pos (.inl hge)]
                go_wp2_with fail
                go_roundg (L.length - k)
                case measure => have := HG.out.2.2; omega
                case rel => exact ⟨k + 1, N, by omega, by go_num, rfl, hxw.trans hx8, by omega, nodes_same HXa.out HXb.out HG.out hv0⟩
              · have hgt : (q : Int) < bn := by omega
                go_wp2_with fail
                go_at_call 32
                have hF2 : forkB L (a, an) (b, bn) = if coversV a an b bn = true then false else !fo && bl && bh := by
                  rw [HF.out]
                  by_cases hc : coversV a an b bn = true
                  · rw [if_pos (.inr hc), if_pos hc]
                  · rw [if_neg (by rintro (h | h); omega; exact hc h), if_neg hc]
                have HF2 : Hid _ := hF2
                clear hF2
                generalize coversV a an b bn = cv at *
                refine (kC _).mono ?_
                rintro e w3 ⟨rfl, hx3⟩
                have hw3 : Ext w w3 := (hxw.trans hx8).trans hx3
                cases cv with
                | true =>
                  have hv0 : forkB L (a, an) (b, bn) = false := by rw [HF2.out]; rfl
                  go_wp2_with fail
                  go_roundg (L.length - k)
                  case measure => have := HG.out.2.2; omega
                  case rel => exact ⟨k + 1, N, by omega, by go_num, rfl, hw3, by omega, nodes_same HXa.out HXb.out HG.out hv0⟩
                | false =>
                  have hF3 : forkB L (a, an) (b, bn) = (!fo && bl && bh) := by rw [HF2.out]; rfl
                  have HF3 : Hid _ := hF3
                  clear hF3
                  have e0 : w3.cell? ⟨w1.heap.size, 0, none⟩ = some (.int .u32 fa) := by rw [heap_cell (hx3.heap H8.out)]; rfl
                  have e1 : w3.cell? ⟨w1.heap.size, 1, none⟩ = some (.int .i64 (q : Int)) := by rw [heap_cell (hx3.heap H8.out)]; rfl
                  clear d0 d1 d2 d3 HF2 kC
                  go_wp2_with fail
                  go_at_call 34
                  refine (kP _ hw3).mono ?_
                  rintro e w4 ⟨rfl, hx4⟩
                  have hw4 : Ext w w4 := hw3.trans hx4
                  replace e0 : w4.cell? ⟨w1.heap.size, 0, none⟩ = some (.int .u32 fa) := by rw [heap_cell ((hx3.trans hx4).heap H8.out)]; rfl
                  replace e1 : w4.cell? ⟨w1.heap.size, 1, none⟩ = some (.int .i64 (q : Int)) := by rw [heap_cell ((hx3.trans hx4).heap H8.out)]; rfl
                  clear kP
                  go_wp2_with fail
                  go_at_call 30
                  refine (kN2 _).mono ?_
                  rintro e w7 ⟨rfl, hx5⟩
                  have hxF : Ext w7 (w7.alloc (.cells #[.int .u32 la, .int .i64 ((q : Int) + 1)] 32)) := (Ext.refl w7).alloc _
                  have hw6 : Ext w (w7.alloc (.cells #[.int .u32 la, .int .i64 ((q : Int) + 1)] 32)) := (hw4.trans hx5).trans hxF
                  have H11 : Hid _ := heap_new w7 (.cells #[.int .u32 la, .int .i64 ((q : Int) + 1)] 32)
                  have H8' : Hid _ := ((hx3.trans hx4).trans (hx5.trans hxF)).heap H8.out
                  clear e0 e1 kN2
                  go_wp2_with fail
                  generalize hW6 : w7.alloc (.cells #[.int .u32 la, .int .i64 ((q : Int) + 1)] 32) = W6 at *
                  clear hW6 hxF hx5 hx4 hx3 H8 hw4 hw3 hx8 hx1
                  refine wp_region_makeN W6.heap.size W6.heap.size (Nat.le_refl _) [(0, 0), (1, 0), (2, 0), (3, 0), (5, 0), (9, 0), (10, 0), (12, 3), (4, 1), (6, 1), (7, 0), (8, 0), (11, 0), (12, 2), (13, 4)] (by kernel_rfl) (by kernel_rfl) rfl (by kernel_rfl) (fun _ _ _ _ _ => Iff.rfl) ?_
                  have e0 : ∀ w', ExtN W6.heap.size W6.drew w' → w'.cell? ⟨w1.heap.size, 0, none⟩ = some (.int .u32 fa) := fun w' h => by rw [heap_cell (h.heap (heap_lt H8'.out) H8'.out)]; rfl
                  have hxd6 : Ext W6 W6.drew := (Ext.refl W6).drew
                  generalize W6.drew = W7 at *
                  iterate 7 (refine wpW_read (v := ?_) rfl (by rfl) ?_ ?_; rotate_left; (focus (intro w' hx; go_simp; first | done | with_reducible rfl)); simp only [Act.put, List.setIfInBounds_toArray, List.set_cons_zero, List.set_cons_succ])
                  (refine wpW_say _ (fun g => .pointer (some ⟨g, 0, none⟩)) rfl (by rfl) (fun w' => by go_simp; first | done | with_reducible rfl) ?_)
                  refine wpW_call rfl (by rfl) (fun W8 hx8 K hK => ?_); go_simp; (go_at_call 45; refine (kM _).mono ?_; rintro e w' ⟨rfl, hw⟩; obtain rfl := hw.symm; clear hw; refine hK _ _ (Ext.refl _) ?_; clear hK K)
                  refine wpW_call rfl (by rfl) (fun W8b hx8b K hK => ?_); go_simp; (go_at_call 45; refine (kM0 _).mono ?_; rintro e w' ⟨rfl, hw⟩; obtain rfl := hw.symm; clear hw; refine hK _ _ (Ext.refl _) ?_; clear hK K)
                  iterate 3 (refine wpW_read (v := ?_) rfl (by rfl) ?_ ?_; rotate_left; (focus (intro w' hx; go_simp; first | done | with_reducible rfl)); simp only [Act.put, List.setIfInBounds_toArray, List.set_cons_zero, List.set_cons_succ])
                  refine wpW_make _ (fun g => .pointer (some ⟨g, 0, none⟩)) rfl (by rfl) (fun w' => by go_simp; first | done | with_reducible rfl) ?_; simp only [Act.put, List.setIfInBounds_toArray, List.set_cons_zero, List.set_cons_succ]; intro W9 g hx9 hBg hg9
                  have f0 : ∀ k, W9.frozen? ⟨g, k, none⟩ = false := fun k => heap_frozen hg9
                  have d0 : W9.cell? ⟨g, 0, none⟩ = some (.int .u32 0) := by rw [heap_cell hg9]; rfl
                  have d1 : W9.cell? ⟨g, 1, none⟩ = some (.int .i64 0) := by rw [heap_cell hg9]; rfl
                  have HG9 : Hid _ := hg9
                  clear hg9
                  refine wpW_last rfl (by rfl) (fun K hK => ?_)
                  go_simp
                  have hn9 : ExtN W6.heap.size W9 ((W9.setCell ⟨g, 0, none⟩ (.int .u32 ha)).setCell ⟨g, 1, none⟩ (.int .i64 ((q : Int) + 1))) := ((ExtN.refl _ W9).setCell (p := ⟨g, 0, none⟩) hBg _).setCell (p := ⟨g, 1, none⟩) hBg _
                  refine hK _ _ hn9 ?_
                  clear hK K
                  have hV : Ext W6 ((W9.setCell ⟨g, 0, none⟩ (.int .u32 ha)).setCell ⟨g, 1, none⟩ (.int .i64 ((q : Int) + 1))) := ExtN.ext (hxd6.trans (hx8.trans (hx8b.trans hx9))) hn9 (Nat.le_refl _)
                  have H12 : Hid _ := set2 HG9.out (.int .u32 ha) (.int .i64 ((q : Int) + 1))
                  refine wpW_done ?_
                  clear hn9 f0 d0 d1 e0 hx9 hx8 hx8b hxd6 HG9 hhi
                  generalize ((W9.setCell ⟨g, 0, none⟩ (.int .u32 ha)).setCell ⟨g, 1, none⟩ (.int .i64 ((q : Int) + 1))) = V at *
                  have hwV : Ext w V := hw6.trans hV
                  have l0 : V.cell? ⟨w7.heap.size, 0, none⟩ = some (.int .u32 la) := by rw [heap_cell (hV.heap H11.out)]; rfl
                  have l1 : V.cell? ⟨w7.heap.size, 1, none⟩ = some (.int .i64 ((q : Int) + 1)) := by rw [heap_cell (hV.heap H11.out)]; rfl
                  cases fo with
                  | true =>
                    have hv0 : forkB L (a, an) (b, bn) = false := by rw [HF3.out]; rfl
                    go_wp2_with fail
                    go_roundg (L.length - k)
                    case measure => have := HG.out.2.2; omega
                    case rel => exact ⟨k + 1, N, by omega, by go_num, rfl, hwV, by omega, nodes_same HXa.out HXb.out HG.out hv0⟩
                  | false =>
                    go_wp2_with fail
                    go_at_call 53
                    refine (kL V hwV).mono ?_
                    rintro e w8 ⟨rfl, hx8⟩
                    have hw8 : Ext w w8 := hwV.trans hx8
                    have m0' : w8.cell? ⟨g, 0, none⟩ = some (.int .u32 ha) := by rw [heap_cell (hx8.heap H12.out)]; rfl
                    have m1' : w8.cell? ⟨g, 1, none⟩ = some (.int .i64 ((q : Int) + 1)) := by rw [heap_cell (hx8.heap H12.out)]; rfl
                    cases bl with
                    | false =>
                      have hv0 : forkB L (a, an) (b, bn) = false := by rw [HF3.out]; rfl
                      go_wp2_with fail
                      go_roundg (L.length - k)
                      case measure => have := HG.out.2.2; omega
                      case rel => exact ⟨k + 1, N, by omega, by go_num, rfl, hw8, by omega, nodes_same HXa.out HXb.out HG.out hv0⟩
                    | true =>
                      go_wp2_with fail
                      go_at_call 53
                      refine (kH w8 hw8).mono ?_
                      rintro e w9 ⟨rfl, hx9⟩
                      have hw9 : Ext w w9 := hw8.trans hx9
                      cases bh with
                      | false =>
                        have hv0 : forkB L (a, an) (b, bn) = false := by rw [HF3.out]; rfl
                        go_wp2_with fail
                        go_roundg (L.length - k)
                        case measure => have := HG.out.2.2; omega
                        case rel => exact ⟨k + 1, N, by omega, by go_num, rfl, hw9, by omega, nodes_same HXa.out HXb.out HG.out hv0⟩
                      | true =>
                        have hv0 : forkB L (a, an) (b, bn) = true := by rw [HF3.out]; rfl
                        have hwN : IntKind.i64.wrap ((N : Int) + 1) = (N : Int) + 1 := by rw [IntKind.wrap_i64]; omega
                        go_wp2_with fail
                        go_roundg (L.length - k)
                        case measure => have := HG.out.2.2; omega
                        case rel => exact ⟨k + 1, N + 1, by omega, by go_num, by go_num, hw9, by have := HG.out.1; omega, nodes_more HXa.out HXb.out HG.out hv0⟩
    · go_wp2_with fail
      go_ret
      have e : nodesL L = N := by
        rw [HG.out.2.1, List.take_of_length_le (by rw [List.length_map]; omega)]; rfl
      rw [e]
      exact ⟨rfl, hx⟩
end Go.Proofs.Ytgcnnblngmomhaa.Tri
