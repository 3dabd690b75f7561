/- Package match: One's region of 76 operations, the four tests. (Made by tools/made/one15.py.) -/
import Derived.Test.YtdkmakjjcfkfaaaMa4
namespace Go.Proofs.Ytdkmakjjcfkfaaa.Ma
open Go.RowKit Go.Proofs.Ytdkmakjjcfkfaaa Go.Proofs.Ytdkmakjjcfkfaaa.Ru
set_option linter.unusedVariables false
set_option linter.unusedSimpArgs false
set_option maxRecDepth 100000

set_option maxHeartbeats 4000000 in
theorem stage1 (Q : Exit → Act → World → Prop) (E : Act → World → Prop) (W : World) (cr ck : List Value) (p : Option Addr) (n c b : Nat) (iface : ByteArray) (on : ByteArray) (z1 z2 : Bool)  (h3 : ∀ w', Ext W w' → w'.cell? ⟨b, 3, none⟩ = some (.string on)) (t1 : (on.toList.isEmpty = z1)) (t2 : (on.toList == iface.toList) = z2)
    (h : ∀ u9 u10 u11 u12 u13 u14 u15 u16 u17 : Value, WpH Ext Try.prog ops10.toArray Q E (sch10.drop 10) { tmps := List.toArray (.agg cr.toArray :: .slice p n c :: .string iface :: .agg ck.toArray :: .pointer (some ⟨b, 0, none⟩) :: undef :: undef :: .pointer (some ⟨b + 1, 0, none⟩) :: .bool false :: u9 :: u10 :: u11 :: u12 :: u13 :: u14 :: u15 :: u16 :: u17 :: .bool (z1 || z2) :: undef :: undef :: undef :: undef :: undef :: undef :: undef :: undef :: undef :: undef :: undef :: undef :: undef :: undef :: undef :: undef :: undef :: undef :: undef :: undef :: undef :: undef :: undef :: undef :: undef :: undef :: undef :: undef :: undef :: undef :: undef :: undef :: undef :: undef :: undef :: undef :: undef :: undef :: undef :: undef :: undef :: undef :: undef :: undef :: undef :: undef :: undef :: undef :: undef :: undef :: undef :: undef :: undef :: undef :: undef :: undef :: undef :: undef :: undef :: undef :: undef :: undef :: undef :: undef :: undef :: []), defers := [] } W) :
    WpH Ext Try.prog ops10.toArray Q E (sch10) { tmps := List.toArray (.agg cr.toArray :: .slice p n c :: .string iface :: .agg ck.toArray :: .pointer (some ⟨b, 0, none⟩) :: undef :: undef :: .pointer (some ⟨b + 1, 0, none⟩) :: .bool false :: undef :: undef :: undef :: undef :: undef :: undef :: undef :: undef :: undef :: undef :: undef :: undef :: undef :: undef :: undef :: undef :: undef :: undef :: undef :: undef :: undef :: undef :: undef :: undef :: undef :: undef :: undef :: undef :: undef :: undef :: undef :: undef :: undef :: undef :: undef :: undef :: undef :: undef :: undef :: undef :: undef :: undef :: undef :: undef :: undef :: undef :: undef :: undef :: undef :: undef :: undef :: undef :: undef :: undef :: undef :: undef :: undef :: undef :: undef :: undef :: undef :: undef :: undef :: undef :: undef :: undef :: undef :: undef :: undef :: undef :: undef :: undef :: undef :: undef :: undef :: []), defers := [] } W := by
  have HH : Hid _ := h
  clear h
  unfold sch10
  simp only [List.drop_succ_cons, List.drop_zero]
  cases z1 with
  | true =>
    iterate 4 (refine wpH_read (v := ?_) rfl (by rfl) ?_ ?_; rotate_left; (focus (intro w' hx; go_simp; first | done | with_reducible rfl)); simp only [Act.put, List.setIfInBounds_toArray, List.set_cons_zero, List.set_cons_succ])
    iterate 4 (refine wpH_skip rfl (by rfl) ?_; simp only [Act.put, List.setIfInBounds_toArray, List.set_cons_zero, List.set_cons_succ])
    iterate 2 (refine wpH_read (v := ?_) rfl (by rfl) ?_ ?_; rotate_left; (focus (intro w' hx; go_simp; first | done | with_reducible rfl)); simp only [Act.put, List.setIfInBounds_toArray, List.set_cons_zero, List.set_cons_succ])
    have h := HH.out
    unfold sch10 at h
    simp only [List.drop_succ_cons, List.drop_zero, Bool.false_or, Bool.true_or, Bool.true_and, Bool.false_and] at h
    exact h _ _ _ _ _ _ _ _ _
  | false =>
    iterate 10 (refine wpH_read (v := ?_) rfl (by rfl) ?_ ?_; rotate_left; (focus (intro w' hx; go_simp; first | done | with_reducible rfl)); simp only [Act.put, List.setIfInBounds_toArray, List.set_cons_zero, List.set_cons_succ])
    have h := HH.out
    unfold sch10 at h
    simp only [List.drop_succ_cons, List.drop_zero, Bool.false_or, Bool.true_or, Bool.true_and, Bool.false_and] at h
    exact h _ _ _ _ _ _ _ _ _

set_option maxHeartbeats 4000000 in
theorem stage2 (Q : Exit → Act → World → Prop) (E : Act → World → Prop) (W : World) (cr ck : List Value) (p : Option Addr) (n c b : Nat) (iface : ByteArray) (x : Int) (y : Int) (s z1 z2 : Bool) (u9 u10 u11 u12 u13 u14 u15 u16 u17 : Value)  (h4 : ∀ w', Ext W w' → w'.cell? ⟨b, 4, none⟩ = some (.int .i64 x)) (q6 : ∀ w', Ext W w' → w'.cell? ⟨b + 1, 6, none⟩ = some (.int .i64 y)) (t1 : (x == 0) = z1) (t2 : (x == y) = z2)
    (h : ∀ u9 u10 u11 u12 u13 u14 u15 u16 u17 u18 u19 u20 u21 u22 u23 u24 u25 u26 u27 u28 u29 u30 : Value, WpH Ext Try.prog ops10.toArray Q E (sch10.drop 23) { tmps := List.toArray (.agg cr.toArray :: .slice p n c :: .string iface :: .agg ck.toArray :: .pointer (some ⟨b, 0, none⟩) :: undef :: undef :: .pointer (some ⟨b + 1, 0, none⟩) :: .bool false :: u9 :: u10 :: u11 :: u12 :: u13 :: u14 :: u15 :: u16 :: u17 :: u18 :: u19 :: u20 :: u21 :: u22 :: u23 :: u24 :: u25 :: u26 :: u27 :: u28 :: u29 :: u30 :: .bool (s && (z1 || z2)) :: undef :: undef :: undef :: undef :: undef :: undef :: undef :: undef :: undef :: undef :: undef :: undef :: undef :: undef :: undef :: undef :: undef :: undef :: undef :: undef :: undef :: undef :: undef :: undef :: undef :: undef :: undef :: undef :: undef :: undef :: undef :: undef :: undef :: undef :: undef :: undef :: undef :: undef :: undef :: undef :: undef :: undef :: undef :: undef :: undef :: undef :: undef :: undef :: undef :: undef :: undef :: undef :: []), defers := [] } W) :
    WpH Ext Try.prog ops10.toArray Q E (sch10.drop 10) { tmps := List.toArray (.agg cr.toArray :: .slice p n c :: .string iface :: .agg ck.toArray :: .pointer (some ⟨b, 0, none⟩) :: undef :: undef :: .pointer (some ⟨b + 1, 0, none⟩) :: .bool false :: u9 :: u10 :: u11 :: u12 :: u13 :: u14 :: u15 :: u16 :: u17 :: .bool s :: undef :: undef :: undef :: undef :: undef :: undef :: undef :: undef :: undef :: undef :: undef :: undef :: undef :: undef :: undef :: undef :: undef :: undef :: undef :: undef :: undef :: undef :: undef :: undef :: undef :: undef :: undef :: undef :: undef :: undef :: undef :: undef :: undef :: undef :: undef :: undef :: undef :: undef :: undef :: undef :: undef :: undef :: undef :: undef :: undef :: undef :: undef :: undef :: undef :: undef :: undef :: undef :: undef :: undef :: undef :: undef :: undef :: undef :: undef :: undef :: undef :: undef :: undef :: undef :: undef :: []), defers := [] } W := by
  have HH : Hid _ := h
  clear h
  unfold sch10
  simp only [List.drop_succ_cons, List.drop_zero]
  cases s with
  | false =>
    iterate 11 (refine wpH_skip rfl (by rfl) ?_; simp only [Act.put, List.setIfInBounds_toArray, List.set_cons_zero, List.set_cons_succ])
    iterate 2 (refine wpH_read (v := ?_) rfl (by rfl) ?_ ?_; rotate_left; (focus (intro w' hx; go_simp; first | done | with_reducible rfl)); simp only [Act.put, List.setIfInBounds_toArray, List.set_cons_zero, List.set_cons_succ])
    have h := HH.out
    unfold sch10 at h
    simp only [List.drop_succ_cons, List.drop_zero, Bool.false_or, Bool.true_or, Bool.true_and, Bool.false_and] at h
    exact h _ _ _ _ _ _ _ _ _ _ _ _ _ _ _ _ _ _ _ _ _ _
  | true =>
    cases z1 with
    | true =>
      iterate 4 (refine wpH_read (v := ?_) rfl (by rfl) ?_ ?_; rotate_left; (focus (intro w' hx; go_simp; first | done | with_reducible rfl)); simp only [Act.put, List.setIfInBounds_toArray, List.set_cons_zero, List.set_cons_succ])
      iterate 6 (refine wpH_skip rfl (by rfl) ?_; simp only [Act.put, List.setIfInBounds_toArray, List.set_cons_zero, List.set_cons_succ])
      iterate 3 (refine wpH_read (v := ?_) rfl (by rfl) ?_ ?_; rotate_left; (focus (intro w' hx; go_simp; first | done | with_reducible rfl)); simp only [Act.put, List.setIfInBounds_toArray, List.set_cons_zero, List.set_cons_succ])
      have h := HH.out
      unfold sch10 at h
      simp only [List.drop_succ_cons, List.drop_zero, Bool.false_or, Bool.true_or, Bool.true_and, Bool.false_and] at h
      exact h _ _ _ _ _ _ _ _ _ _ _ _ _ _ _ _ _ _ _ _ _ _
    | false =>
      iterate 13 (refine wpH_read (v := ?_) rfl (by rfl) ?_ ?_; rotate_left; (focus (intro w' hx; go_simp; first | done | with_reducible rfl)); simp only [Act.put, List.setIfInBounds_toArray, List.set_cons_zero, List.set_cons_succ])
      have h := HH.out
      unfold sch10 at h
      simp only [List.drop_succ_cons, List.drop_zero, Bool.false_or, Bool.true_or, Bool.true_and, Bool.false_and] at h
      exact h _ _ _ _ _ _ _ _ _ _ _ _ _ _ _ _ _ _ _ _ _ _

set_option maxHeartbeats 4000000 in
theorem stage3 (Q : Exit → Act → World → Prop) (E : Act → World → Prop) (W : World) (cr ck : List Value) (p : Option Addr) (n c b : Nat) (iface : ByteArray) (f : Int) (x : Int) (y : Int) (s z1 z2 : Bool) (u9 u10 u11 u12 u13 u14 u15 u16 u17 u18 u19 u20 u21 u22 u23 u24 u25 u26 u27 u28 u29 u30 : Value)  (h8 : ∀ w', Ext W w' → w'.cell? ⟨b, 18, none⟩ = some (.int .i64 x)) (h7 : ∀ w', Ext W w' → w'.cell? ⟨b, 17, none⟩ = some (.int .i64 y)) (qe : ∀ w', Ext W w' → w'.cell? ⟨b + 1, 14, none⟩ = some (.int .i64 f)) (t1 : (x == 0) = z1) (t2 : (bits .and .i64 f x == y) = z2)
    (h : ∀ u9 u10 u11 u12 u13 u14 u15 u16 u17 u18 u19 u20 u21 u22 u23 u24 u25 u26 u27 u28 u29 u30 u31 u32 u33 u34 u35 u36 u37 u38 u39 u40 u41 u42 u43 u44 u45 : Value, WpH Ext Try.prog ops10.toArray Q E (sch10.drop 38) { tmps := List.toArray (.agg cr.toArray :: .slice p n c :: .string iface :: .agg ck.toArray :: .pointer (some ⟨b, 0, none⟩) :: undef :: undef :: .pointer (some ⟨b + 1, 0, none⟩) :: .bool false :: u9 :: u10 :: u11 :: u12 :: u13 :: u14 :: u15 :: u16 :: u17 :: u18 :: u19 :: u20 :: u21 :: u22 :: u23 :: u24 :: u25 :: u26 :: u27 :: u28 :: u29 :: u30 :: u31 :: u32 :: u33 :: u34 :: u35 :: u36 :: u37 :: u38 :: u39 :: u40 :: u41 :: u42 :: u43 :: u44 :: u45 :: .bool (s && (z1 || z2)) :: undef :: undef :: undef :: undef :: undef :: undef :: undef :: undef :: undef :: undef :: undef :: undef :: undef :: undef :: undef :: undef :: undef :: undef :: undef :: undef :: undef :: undef :: undef :: undef :: undef :: undef :: undef :: undef :: undef :: undef :: undef :: undef :: undef :: undef :: undef :: undef :: undef :: []), defers := [] } W) :
    WpH Ext Try.prog ops10.toArray Q E (sch10.drop 23) { tmps := List.toArray (.agg cr.toArray :: .slice p n c :: .string iface :: .agg ck.toArray :: .pointer (some ⟨b, 0, none⟩) :: undef :: undef :: .pointer (some ⟨b + 1, 0, none⟩) :: .bool false :: u9 :: u10 :: u11 :: u12 :: u13 :: u14 :: u15 :: u16 :: u17 :: u18 :: u19 :: u20 :: u21 :: u22 :: u23 :: u24 :: u25 :: u26 :: u27 :: u28 :: u29 :: u30 :: .bool s :: undef :: undef :: undef :: undef :: undef :: undef :: undef :: undef :: undef :: undef :: undef :: undef :: undef :: undef :: undef :: undef :: undef :: undef :: undef :: undef :: undef :: undef :: undef :: undef :: undef :: undef :: undef :: undef :: undef :: undef :: undef :: undef :: undef :: undef :: undef :: undef :: undef :: undef :: undef :: undef :: undef :: undef :: undef :: undef :: undef :: undef :: undef :: undef :: undef :: undef :: undef :: undef :: []), defers := [] } W := by
  have HH : Hid _ := h
  clear h
  unfold sch10
  simp only [List.drop_succ_cons, List.drop_zero]
  cases s with
  | false =>
    iterate 13 (refine wpH_skip rfl (by rfl) ?_; simp only [Act.put, List.setIfInBounds_toArray, List.set_cons_zero, List.set_cons_succ])
    iterate 2 (refine wpH_read (v := ?_) rfl (by rfl) ?_ ?_; rotate_left; (focus (intro w' hx; go_simp; first | done | with_reducible rfl)); simp only [Act.put, List.setIfInBounds_toArray, List.set_cons_zero, List.set_cons_succ])
    have h := HH.out
    unfold sch10 at h
    simp only [List.drop_succ_cons, List.drop_zero, Bool.false_or, Bool.true_or, Bool.true_and, Bool.false_and] at h
    exact h _ _ _ _ _ _ _ _ _ _ _ _ _ _ _ _ _ _ _ _ _ _ _ _ _ _ _ _ _ _ _ _ _ _ _ _ _
  | true =>
    cases z1 with
    | true =>
      iterate 4 (refine wpH_read (v := ?_) rfl (by rfl) ?_ ?_; rotate_left; (focus (intro w' hx; go_simp; first | done | with_reducible rfl)); simp only [Act.put, List.setIfInBounds_toArray, List.set_cons_zero, List.set_cons_succ])
      iterate 8 (refine wpH_skip rfl (by rfl) ?_; simp only [Act.put, List.setIfInBounds_toArray, List.set_cons_zero, List.set_cons_succ])
      iterate 3 (refine wpH_read (v := ?_) rfl (by rfl) ?_ ?_; rotate_left; (focus (intro w' hx; go_simp; first | done | with_reducible rfl)); simp only [Act.put, List.setIfInBounds_toArray, List.set_cons_zero, List.set_cons_succ])
      have h := HH.out
      unfold sch10 at h
      simp only [List.drop_succ_cons, List.drop_zero, Bool.false_or, Bool.true_or, Bool.true_and, Bool.false_and] at h
      exact h _ _ _ _ _ _ _ _ _ _ _ _ _ _ _ _ _ _ _ _ _ _ _ _ _ _ _ _ _ _ _ _ _ _ _ _ _
    | false =>
      iterate 15 (refine wpH_read (v := ?_) rfl (by rfl) ?_ ?_; rotate_left; (focus (intro w' hx; go_simp; first | done | with_reducible rfl)); simp only [Act.put, List.setIfInBounds_toArray, List.set_cons_zero, List.set_cons_succ])
      have h := HH.out
      unfold sch10 at h
      simp only [List.drop_succ_cons, List.drop_zero, Bool.false_or, Bool.true_or, Bool.true_and, Bool.false_and] at h
      exact h _ _ _ _ _ _ _ _ _ _ _ _ _ _ _ _ _ _ _ _ _ _ _ _ _ _ _ _ _ _ _ _ _ _ _ _ _

set_option maxHeartbeats 4000000 in
theorem stage4 (Q : Exit → Act → World → Prop) (E : Act → World → Prop) (W : World) (cr ck : List Value) (p : Option Addr) (n c b : Nat) (iface : ByteArray) (x : Int) (y : Int) (s z1 z2 : Bool) (u9 u10 u11 u12 u13 u14 u15 u16 u17 u18 u19 u20 u21 u22 u23 u24 u25 u26 u27 u28 u29 u30 u31 u32 u33 u34 u35 u36 u37 u38 u39 u40 u41 u42 u43 u44 u45 : Value)  (h9 : ∀ w', Ext W w' → w'.cell? ⟨b, 19, none⟩ = some (.int .i64 x)) (qf : ∀ w', Ext W w' → w'.cell? ⟨b + 1, 15, none⟩ = some (.int .i64 y)) (t1 : (x == -1) = z1) (t2 : (x == y) = z2)
    (h : ∀ u9 u10 u11 u12 u13 u14 u15 u16 u17 u18 u19 u20 u21 u22 u23 u24 u25 u26 u27 u28 u29 u30 u31 u32 u33 u34 u35 u36 u37 u38 u39 u40 u41 u42 u43 u44 u45 u46 u47 u48 u49 u50 u51 u52 u53 u54 u55 u56 u57 : Value, WpH Ext Try.prog ops10.toArray Q E (sch10.drop 50) { tmps := List.toArray (.agg cr.toArray :: .slice p n c :: .string iface :: .agg ck.toArray :: .pointer (some ⟨b, 0, none⟩) :: undef :: undef :: .pointer (some ⟨b + 1, 0, none⟩) :: .bool false :: u9 :: u10 :: u11 :: u12 :: u13 :: u14 :: u15 :: u16 :: u17 :: u18 :: u19 :: u20 :: u21 :: u22 :: u23 :: u24 :: u25 :: u26 :: u27 :: u28 :: u29 :: u30 :: u31 :: u32 :: u33 :: u34 :: u35 :: u36 :: u37 :: u38 :: u39 :: u40 :: u41 :: u42 :: u43 :: u44 :: u45 :: u46 :: u47 :: u48 :: u49 :: u50 :: u51 :: u52 :: u53 :: u54 :: u55 :: u56 :: u57 :: .bool (s && (z1 || z2)) :: undef :: undef :: undef :: undef :: undef :: undef :: undef :: undef :: undef :: undef :: undef :: undef :: undef :: undef :: undef :: undef :: undef :: undef :: undef :: undef :: undef :: undef :: undef :: undef :: undef :: []), defers := [] } W) :
    WpH Ext Try.prog ops10.toArray Q E (sch10.drop 38) { tmps := List.toArray (.agg cr.toArray :: .slice p n c :: .string iface :: .agg ck.toArray :: .pointer (some ⟨b, 0, none⟩) :: undef :: undef :: .pointer (some ⟨b + 1, 0, none⟩) :: .bool false :: u9 :: u10 :: u11 :: u12 :: u13 :: u14 :: u15 :: u16 :: u17 :: u18 :: u19 :: u20 :: u21 :: u22 :: u23 :: u24 :: u25 :: u26 :: u27 :: u28 :: u29 :: u30 :: u31 :: u32 :: u33 :: u34 :: u35 :: u36 :: u37 :: u38 :: u39 :: u40 :: u41 :: u42 :: u43 :: u44 :: u45 :: .bool s :: undef :: undef :: undef :: undef :: undef :: undef :: undef :: undef :: undef :: undef :: undef :: undef :: undef :: undef :: undef :: undef :: undef :: undef :: undef :: undef :: undef :: undef :: undef :: undef :: undef :: undef :: undef :: undef :: undef :: undef :: undef :: undef :: undef :: undef :: undef :: undef :: undef :: []), defers := [] } W := by
  have HH : Hid _ := h
  clear h
  unfold sch10
  simp only [List.drop_succ_cons, List.drop_zero]
  cases s with
  | false =>
    iterate 10 (refine wpH_skip rfl (by rfl) ?_; simp only [Act.put, List.setIfInBounds_toArray, List.set_cons_zero, List.set_cons_succ])
    iterate 2 (refine wpH_read (v := ?_) rfl (by rfl) ?_ ?_; rotate_left; (focus (intro w' hx; go_simp; first | done | with_reducible rfl)); simp only [Act.put, List.setIfInBounds_toArray, List.set_cons_zero, List.set_cons_succ])
    have h := HH.out
    unfold sch10 at h
    simp only [List.drop_succ_cons, List.drop_zero, Bool.false_or, Bool.true_or, Bool.true_and, Bool.false_and] at h
    exact h _ _ _ _ _ _ _ _ _ _ _ _ _ _ _ _ _ _ _ _ _ _ _ _ _ _ _ _ _ _ _ _ _ _ _ _ _ _ _ _ _ _ _ _ _ _ _ _ _
  | true =>
    cases z1 with
    | true =>
      iterate 4 (refine wpH_read (v := ?_) rfl (by rfl) ?_ ?_; rotate_left; (focus (intro w' hx; go_simp; first | done | with_reducible rfl)); simp only [Act.put, List.setIfInBounds_toArray, List.set_cons_zero, List.set_cons_succ])
      iterate 5 (refine wpH_skip rfl (by rfl) ?_; simp only [Act.put, List.setIfInBounds_toArray, List.set_cons_zero, List.set_cons_succ])
      iterate 3 (refine wpH_read (v := ?_) rfl (by rfl) ?_ ?_; rotate_left; (focus (intro w' hx; go_simp; first | done | with_reducible rfl)); simp only [Act.put, List.setIfInBounds_toArray, List.set_cons_zero, List.set_cons_succ])
      have h := HH.out
      unfold sch10 at h
      simp only [List.drop_succ_cons, List.drop_zero, Bool.false_or, Bool.true_or, Bool.true_and, Bool.false_and] at h
      exact h _ _ _ _ _ _ _ _ _ _ _ _ _ _ _ _ _ _ _ _ _ _ _ _ _ _ _ _ _ _ _ _ _ _ _ _ _ _ _ _ _ _ _ _ _ _ _ _ _
    | false =>
      iterate 12 (refine wpH_read (v := ?_) rfl (by rfl) ?_ ?_; rotate_left; (focus (intro w' hx; go_simp; first | done | with_reducible rfl)); simp only [Act.put, List.setIfInBounds_toArray, List.set_cons_zero, List.set_cons_succ])
      have h := HH.out
      unfold sch10 at h
      simp only [List.drop_succ_cons, List.drop_zero, Bool.false_or, Bool.true_or, Bool.true_and, Bool.false_and] at h
      exact h _ _ _ _ _ _ _ _ _ _ _ _ _ _ _ _ _ _ _ _ _ _ _ _ _ _ _ _ _ _ _ _ _ _ _ _ _ _ _ _ _ _ _ _ _ _ _ _ _
end Go.Proofs.Ytdkmakjjcfkfaaa.Ma
