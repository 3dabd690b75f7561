/- slices.Delete of one way, slices.Clone; New, All, Copy, Is, Add, Del. -/
import Derived.Test.YtbchfmadmcppkaaRib3
namespace Go.Proofs.Ytbchfmadmcppkaa.Rb
set_option maxRecDepth 100000
open Go.RowKit Go.Proofs.Ytbchfmadmcppkaa
set_option linter.unusedVariables false
set_option linter.unusedSimpArgs false

theorem cut_row {cur : List Value} {L : List Rt} {i c : Nat} (hi : i < L.length) (hc : L.length ≤ c) (hs : cur.length = c * 6) (ht : cur.take (L.length * 6) = rtCs L) (cur1 : List Value)
    (h1 : cur1 = cur.take (i * 6) ++ rtCs (L.drop (i + 1)) ++ cur.drop (i * 6 + (rtCs (L.drop (i + 1))).length)) :
    cur1.length = c * 6 ∧ cur1.take ((L.length - 1) * 6) = rtCs (L.take i ++ L.drop (i + 1)) := by
  have hl : (rtCs (L.drop (i + 1))).length = (L.length - (i + 1)) * 6 := by rw [rtCs_length, List.length_drop]
  have e1 : cur.take (i * 6) = rtCs (L.take i) := by
    rw [← rtCs_take, ← ht, List.take_take, Nat.min_eq_left (by omega)]
  have l2 : (rtCs (L.take i)).length = i * 6 := by rw [rtCs_length, List.length_take, Nat.min_eq_left (by omega)]
  rw [e1] at h1
  constructor
  · rw [h1]
    simp only [List.length_append, hl, l2, List.length_drop, hs]
    omega
  · rw [h1, rtCs_append]
    refine List.take_left' ?_
    simp only [List.length_append, hl, l2]
    omega

set_option maxHeartbeats 1000000 in
theorem delete_any (v : Value) (L : List Rt) (i : Nat) (w : World) (hO : OwnR w 0 v L) (hi : i < L.length) (hl : L.length ≤ 100000) :
    Calls Try.prog 42 #[v, .int .i64 (i : Nat), .int .i64 ((i : Int) + 1)] w (RowAns w v (L.take i ++ L.drop (i + 1))) := by
  obtain ⟨g, c, cur, rfl, -, hg, h1, h2, h3, h4⟩ := hO.block (by omega)
  obtain ⟨n, hn⟩ : ∃ n, n = L.length := ⟨_, rfl⟩
  have hcl : (rtCs (L.drop (i + 1))).length = (n - (i + 1)) * 6 := by rw [rtCs_length, List.length_drop, hn]
  have hcell : ∀ (j : Nat) (u : Value), (rtCs (L.drop (i + 1)))[j]? = some u → cur.toList[(i + 1) * 6 + j]? = some u := fun j u hj => by
    rw [← rtCs_drop, List.getElem?_drop, ← h4, List.getElem?_take] at hj
    split at hj
    · exact hj
    · cases hj
  obtain ⟨cur1, hcur1⟩ : ∃ cur1, cur1 = cur.toList.take (i * 6) ++ rtCs (L.drop (i + 1)) ++ cur.toList.drop (i * 6 + (rtCs (L.drop (i + 1))).length) := ⟨_, rfl⟩
  obtain ⟨f1, f2⟩ := cut_row hi h1 (by simpa using h3) h4 cur1 hcur1
  obtain ⟨W1, hW1⟩ : ∃ W1, W1 = w.drew.setRow g cur1.toArray := ⟨_, rfl⟩
  obtain ⟨P1, hP1⟩ : ∃ P1 : Option Addr, P1 = if c = i + 1 then some ⟨g, 0, none⟩ else some ⟨g, (i + 1) * 6, none⟩ := ⟨_, rfl⟩
  have ap : ∀ ty sc, (Builtin.append_ #[33, 33] ty #[.slice (some ⟨g, 0, none⟩) i c, .slice P1 (n - (i + 1)) sc]).run Try.prog w.drew = .ok (.slice (some ⟨g, 0, none⟩) (n - 1) c) W1 := fun ty sc => by
    rw [hW1, hcur1]
    have hsum : i + (n - (i + 1)) = n - 1 := by omega
    by_cases e : c = i + 1
    · obtain rfl : P1 = some ⟨g, 0, none⟩ := by rw [hP1, if_pos e]
      have hM : L.drop (i + 1) = [] := List.drop_eq_nil_of_le (by omega)
      have := run_append_rt w.drew ty g i c g 0 (n - (i + 1)) sc cur 27 (rtCs (L.drop (i + 1))) hg hcl (fun j u hj => by rw [hM] at hj; simp [rtCs] at hj) (by omega) (by rw [hcl, h3]; omega) (fun u hu => rtCs_cell hu)
      rw [this, hsum]
    · obtain rfl : P1 = some ⟨g, (i + 1) * 6, none⟩ := by rw [hP1, if_neg e]
      have := run_append_rt w.drew ty g i c g ((i + 1) * 6) (n - (i + 1)) sc cur 27 (rtCs (L.drop (i + 1))) hg hcl (fun j u hj => by show w.cell? _ = _; rw [heap_cell hg, ← Array.getElem?_toList]; exact hcell j u hj) (by omega) (by rw [hcl, h3]; omega) (fun u hu => rtCs_cell hu)
      rw [this, hsum]
  have hg1 : W1.heap[g]? = some (.cells cur1.toArray 27 (0, 0)) := by rw [hW1]; exact setRow_heap w.drew g cur _ _ _ hg
  have hx1 : ExtX g w.drew W1 := by rw [hW1]; exact ⟨rfl, rfl, rfl, by simp [World.setRow], fun k hk hx => setRow_other w.drew g k _ hx⟩
  have hS1 : ExtS [g] w W1 := by rw [hW1]; exact ExtS.trans ((Ext.refl w).drew.toS _) (extS_row w.drew g _)
  obtain ⟨cur2, cl, k1, k2⟩ := run_clear_rt W1 33 g ((n - 1) * 6) (c - (n - 1)) cur1.toArray _ hg1 (by rw [List.size_toArray, f1]; omega)
  have cl' : ∀ ty, (Builtin.clear_ #[33] ty #[.slice (some ⟨g, (n - 1) * 6, none⟩) 1 (c - (n - 1))]).run Try.prog W1 = .ok (.tuple #[]) (W1.setRow g cur2) := fun ty => cl
  obtain ⟨W2, hW2⟩ : ∃ W2, W2 = W1.setRow g cur2 := ⟨_, rfl⟩
  rw [← hW2] at cl'
  have hg2 : W2.heap[g]? = some (.cells cur2 27 (0, 0)) := by rw [hW2]; exact setRow_heap W1 g _ _ _ _ hg1
  have hS2 : ExtS [g] w W2 := by rw [hW2]; exact ExtS.trans hS1 (extS_row W1 g _)
  have HF : Hid (cur2.size = c * 6 ∧ cur2.toList.take ((n - 1) * 6) = rtCs (L.take i ++ L.drop (i + 1))) := ⟨by rw [k1, List.size_toArray, f1], by rw [k2, List.toList_toArray, hn]; exact f2⟩
  have HG : Hid _ := hg2
  have HS : Hid _ := hS2
  have HC : Hid (c ≤ maxLen) := h2
  have HN : Hid _ := hn
  have hin : i < n := by omega
  have h1' : n ≤ c := by omega
  have hl' : n ≤ 100000 := by omega
  have hc63 : c ≤ 9223372036854775807 := by unfold maxLen at h2; omega
  have P1' : (if c = i + 1 then (some ⟨g, 0, none⟩ : Option Addr) else some ⟨g, (i + 1) * 6, none⟩) = P1 := hP1.symm
  rw [← hn]
  clear hS1 hS2 hg1 hg2 hcur1 hcell hcl h3 h4 hg hl hi h1 h2 hW1 hn cl hO k1 k2 f1 f2 hW2 hP1
  have z2 : ¬ (c = n - 1) := by omega
  have z3 : ¬ ((i : Int) = (i : Int) + 1) := by omega
  have z4 : ((i : Int) + 1).toNat = i + 1 := by omega
  have z6 : (i : Int) ≤ (i : Int) + 1 := by omega
  have z7 : (i : Int) + 1 ≤ (n : Int) := by omega
  have z8 : (n : Int) ≤ (c : Int) := by omega
  have z9 : (0 : Int) ≤ (i : Int) + 1 := by omega
  have z10 : (i : Int) ≤ (c : Int) := by omega
  have z11 : n - (n - 1) = 1 := by omega
  have z12 : ((n - 1 : Nat) : Int) ≤ (n : Int) := by omega
  go_enter Try.func42, Try.ntmps42
  go_wp2_with fail
  refine wp_region_eagerX g [(0, false), (1, false), (2, false), (3, false), (4, false), (5, false), (6, true), (7, false)] (by kernel_rfl) (by kernel_rfl) rfl (by kernel_rfl) (fun _ _ _ _ _ h => h) ?_
  iterate 6 (refine wpE_read (v := ?_) rfl (by rfl) ?_ ?_; rotate_left; (focus (intro w' hx; go_simp; first | done | with_reducible rfl)); simp only [Act.put, List.setIfInBounds_toArray, List.set_cons_zero, List.set_cons_succ])
  refine wpE_call rfl (by rfl) (fun K hK => ?_)
  refine wp_app_is (.tmp 22) (.tmp 25) 33 rfl _ _ rfl rfl (ap _ _) ?_
  refine hK _ _ hx1 ?_
  clear hK K ap
  simp only [Act.put, List.setIfInBounds_toArray, List.set_cons_zero, List.set_cons_succ]
  iterate 1 (refine wpE_read (v := ?_) rfl (by rfl) ?_ ?_; rotate_left; (focus (intro w' hx; go_simp; first | done | with_reducible rfl)); simp only [Act.put, List.setIfInBounds_toArray, List.set_cons_zero, List.set_cons_succ])
  refine wpE_done ?_
  go_wp2_with fail
  go_ret
  refine ⟨_, rfl, ?_, HS.out.mono (by simp [blks, Value.ownBlock]), fun x hx => .inl hx⟩
  have hlen : (L.take i ++ L.drop (i + 1)).length = n - 1 := by
    rw [HN.out] at *
    simp only [List.length_append, List.length_take, List.length_drop]; omega
  have := ownR_of (w := W2) (B := 0) (g := g) (c := c) (cur := cur2) (L := L.take i ++ L.drop (i + 1)) (Nat.zero_le _) HG.out (by rw [hlen]; omega) HC.out HF.out.1 (by rw [hlen]; exact HF.out.2)
  rw [hlen] at this
  exact this
end Go.Proofs.Ytbchfmadmcppkaa.Rb
