/- The document's below, Nodes. -/
import Derived.Test.YtgcnnblngmomhaaRefTr6
namespace Go.Proofs.Ytgcnnblngmomhaa.Tri
open Go.RowKit Go.Proofs.Ytgcnnblngmomhaa
set_option linter.unusedVariables false

set_option maxHeartbeats 1000000 in
theorem below_any (xb : Nat) (L : Row) (F : List Nat) (c m : Int) (w : World) (h : RefAt w xb L F) (hv : ∀ x ∈ L, Vp x.1) (hl : L.length ≤ 1000000) (c0 : 0 ≤ c) (c1 : c ≤ 4294967295) :
    Calls Try.prog 53 #[.pointer (some ⟨xb, 0, none⟩), .agg #[.int .u32 c, .int .i64 m]] w fun e w' => e = .returned (.bool (belowB L (c, m))) ∧ Ext w w' := by
  obtain ⟨ap, cp, ai, ci, hX, hcell⟩ := h.open
  have HX : Hid _ := hX
  have HC : Hid _ := hcell
  have HV : Hid (∀ x ∈ L, Vp x.1) := hv
  have hA : Ext w (w.alloc (.cells #[.int .u32 c, .int .i64 m] 32)) := (Ext.refl w).alloc _
  have HR : Hid _ := heap_new w (.cells #[.int .u32 c, .int .i64 m] 32)
  clear hX hcell h hv
  go_enter Try.func53, Try.ntmps53
  go_wp2_with fail
  generalize hW0 : w.alloc (.cells #[.int .u32 c, .int .i64 m] 32) = W0 at *
  clear hW0
  have cc : ∀ {b j : Nat} {v : Value}, W0.cell? ⟨b, j, none⟩ = some v → ∀ W, Ext W0 W → W.cell? ⟨b, j, none⟩ = some v := fun {b j v} hv W h => by rw [h.below.cell (p := ⟨b, j, none⟩) (block_lt hv)]; exact hv
  have Q0 : ∀ W, Ext W0 W → W.cell? ⟨w.heap.size, 0, none⟩ = some (.int .u32 c) := cc (by rw [heap_cell HR.out]; rfl)
  have Q1 : ∀ W, Ext W0 W → W.cell? ⟨w.heap.size, 1, none⟩ = some (.int .i64 m) := cc (by rw [heap_cell HR.out]; rfl)
  have X0 : ∀ W, Ext W0 W → W.cell? ⟨xb, 0, none⟩ = some (.slice ap L.length cp) := cc (by rw [heap_cell (hA.heap HX.out)]; rfl)
  have HCC : Hid (∀ (b j : Nat) (v : Value), w.cell? ⟨b, j, none⟩ = some v → ∀ W, Ext W0 W → W.cell? ⟨b, j, none⟩ = some v) := fun b j v hv W h => by rw [(hA.trans h).below.cell (p := ⟨b, j, none⟩) (block_lt hv)]; exact hv
  clear cc
  go_loopw [5] (fun i wr => ∃ k : Nat, k ≤ L.length ∧ i = .int .i64 (k : Int) ∧ Ext W0 wr ∧ Hid (∀ x ∈ L.take k, cov (c, m) x.1 = false)) (fun i _ => L.length - (intOf i).toNat)
  case atStart => exact ⟨0, Nat.zero_le _, rfl, Ext.refl _, fun x hx => by simp at hx⟩
  case round =>
    obtain ⟨k, hk, rfl, hx, HK⟩ := hrel
    have x0 := X0 wr hx
    by_cases hlt : k < L.length
    · obtain ⟨⟨⟨pa, pn⟩, u⟩, hxk⟩ : ∃ x, L[k]? = some x := ⟨_, List.getElem?_eq_getElem hlt⟩
      obtain ⟨gp, gi, rfl, rfl, y0, y1, -⟩ := HC.out k _ hxk
      simp only at y0 y1
      have hbx := (HV.out _ (List.mem_of_getElem? hxk)).bd
      simp only at hbx
      have kV := fun w => refCovers_any c m pa pn w c0 c1 hbx.1 hbx.2.1
      have hki : (k : Int) < (L.length : Int) := by omega
      have Y0 := HCC.out _ _ _ y0
      have Y1 := HCC.out _ _ _ y1
      have HX' : Hid (L[k]? = some ((pa, pn), u)) := hxk
      clear y0 y1 hxk
      cases hcv : coversV c m pa pn with
      | false =>
        rw [hcv] at kV
        have HV2 : Hid (cov (c, m) (pa, pn) = false) := hcv
        clear hcv
        go_wp2_with fail
        refine wp_region_eager [(0, false), (1, false), (2, false), (3, false), (4, false), (5, false), (6, false), (7, false), (8, true)] (by kernel_rfl) (by kernel_rfl) rfl (by kernel_rfl) (fun _ _ _ _ _ h => h) ?_
        have hxd : Ext W0 wr.drew := hx.drew
        have z0 := fun W h => X0 W (hxd.trans h)
        have z1 := fun W h => Y0 W (hxd.trans h)
        have z2 := fun W h => Y1 W (hxd.trans h)
        have z3 := fun W h => Q0 W (hxd.trans h)
        have z4 := fun W h => Q1 W (hxd.trans h)
        clear x0 X0 Q0 Q1 Y0 Y1
        generalize wr.drew = W at *
        iterate 8 (refine wpE_read (v := ?_) rfl (by rfl) ?_ ?_; rotate_left; (focus (intro w' hx; go_simp; first | done | with_reducible rfl)); simp only [Act.put, List.setIfInBounds_toArray, List.set_cons_zero, List.set_cons_succ])
        (refine wpE_call rfl (by rfl) (fun K hK => ?_); go_simp; first
          | (go_at_call 32; refine (kV _).mono ?_; rintro e w5 ⟨rfl, hx5⟩; refine hK _ _ hx5 ?_; clear hK K))
        refine wpE_done ?_
        go_wp2_with fail
        go_roundw
        case rel =>
          refine ⟨k + 1, by omega, by go_num, hxd.trans hx5, fun x hx => ?_⟩
          rw [List.take_add_one, HX'.out] at hx
          rcases List.mem_append.1 hx with h | h
          · exact HK.out x h
          · have : x = ((pa, pn), u) := by simpa using h
            rw [this]; exact HV2.out
        case measure => simp [intOf]; omega
      | true =>
        rw [hcv] at kV
        have HV2 : Hid (cov (c, m) (pa, pn) = true) := hcv
        clear hcv
        go_wp2_with fail
        refine wp_region_eager [(0, false), (1, false), (2, false), (3, false), (4, false), (5, false), (6, false), (7, false), (8, true)] (by kernel_rfl) (by kernel_rfl) rfl (by kernel_rfl) (fun _ _ _ _ _ h => h) ?_
        have hxd : Ext W0 wr.drew := hx.drew
        have z0 := fun W h => X0 W (hxd.trans h)
        have z1 := fun W h => Y0 W (hxd.trans h)
        have z2 := fun W h => Y1 W (hxd.trans h)
        have z3 := fun W h => Q0 W (hxd.trans h)
        have z4 := fun W h => Q1 W (hxd.trans h)
        clear x0 X0 Q0 Q1 Y0 Y1
        generalize wr.drew = W at *
        iterate 8 (refine wpE_read (v := ?_) rfl (by rfl) ?_ ?_; rotate_left; (focus (intro w' hx; go_simp; first | done | with_reducible rfl)); simp only [Act.put, List.setIfInBounds_toArray, List.set_cons_zero, List.set_cons_succ])
        (refine wpE_call rfl (by rfl) (fun K hK => ?_); go_simp; first
          | (go_at_call 32; refine (kV _).mono ?_; rintro e w5 ⟨rfl, hx5⟩; refine hK _ _ hx5 ?_; clear hK K))
        refine wpE_done ?_
        go_wp2_with fail
        go_ret
        have : belowB L (c, m) = true := List.any_eq_true.2 ⟨_, List.mem_of_getElem? HX'.out, HV2.out⟩
        rw [this]
        exact ⟨rfl, (hA.trans hxd).trans hx5⟩
    · obtain rfl : k = L.length := by omega
      go_wp2_with fail
      go_ret
      have : belowB L (c, m) = false := by
        unfold belowB
        rw [List.any_eq_false]
        intro x hx
        have := HK.out x (by rw [List.take_length]; exact hx)
        rw [this]; simp
      rw [this]
      exact ⟨rfl, hA.trans hx⟩

/-! Numbers. -/

theorem andNot_mask : ∀ z : Fin 32, bits .andNot .u32 (maskV ((z.val : Int) + 1)) (maskV (z.val : Int)) = 2 ^ (31 - z.val) := by decide +kernel

theorem high_or {f z : Nat} (hz : z ≤ 31) (hf : f < 4294967296) (hm : f % 2 ^ (32 - z) = 0) : bits .or .u32 (f : Int) (bits .andNot .u32 (maskV ((z : Int) + 1)) (maskV (z : Int))) = (f : Int) + 2 ^ (31 - (z : Int)).toNat ∧ (f : Int) + 2 ^ (31 - (z : Int)).toNat < 4294967296 ∧ 0 ≤ (f : Int) + 2 ^ (31 - (z : Int)).toNat := by
  have h1 := andNot_mask ⟨z, by omega⟩
  simp only at h1
  rw [h1]
  have e : (31 - (z : Int)).toNat = 31 - z := by omega
  rw [e]
  have hlt : (2 : Nat) ^ (31 - z) < 2 ^ (32 - z) := Nat.pow_lt_pow_right (by decide) (by omega)
  have hd := Nat.div_add_mod f (2 ^ (32 - z))
  rw [hm, Nat.add_zero] at hd
  have hdiv : 2 ^ (32 - z) * 2 ^ z = 4294967296 := by rw [← Nat.pow_add, show 32 - z + z = 32 by omega]
  have hsum : f + 2 ^ (32 - z) ≤ 4294967296 := by
    have hpos := Nat.two_pow_pos (32 - z)
    generalize 2 ^ (32 - z) = X at *
    generalize 2 ^ z = Y at *
    generalize f / X = q at *
    have hq : q < Y := by
      rcases Nat.lt_or_ge q Y with h | h
      · exact h
      · have := Nat.mul_le_mul_left X h
        omega
    have := Nat.mul_le_mul_left X (show q + 1 ≤ Y from hq)
    rw [Nat.mul_add, Nat.mul_one] at this
    omega
  have hc : ((2 : Int) ^ (31 - z)) = ((2 ^ (31 - z) : Nat) : Int) := by push_cast; rfl
  rw [hc]
  have hb : f + 2 ^ (31 - z) < 4294967296 := Nat.lt_of_lt_of_le (Nat.add_lt_add_left hlt f) hsum
  have h0 : (0 : Int) ≤ ((2 ^ (31 - z) : Nat) : Int) := Int.natCast_nonneg _
  have hb' : (f : Int) + ((2 ^ (31 - z) : Nat) : Int) < 4294967296 := by omega
  have hl' : ((2 ^ (31 - z) : Nat) : Int) < 2 ^ (32 - z) := by exact_mod_cast hlt
  have hm' : (f : Int) % 2 ^ (32 - z) = 0 := by exact_mod_cast hm
  have hf0 : (0 : Int) ≤ (f : Int) := Int.natCast_nonneg _
  have hf1 : (f : Int) < 4294967296 := by omega
  generalize ((2 ^ (31 - z) : Nat) : Int) = g at *
  refine ⟨?_, hb', by omega⟩
  exact bits_join .u32 32 (by decide) wrapsU32 (32 - z) (f : Int) g hf0 hm' hf1 h0 hl' (by omega)
end Go.Proofs.Ytgcnnblngmomhaa.Tri
