/- Package match: One's region of 76 operations, One. (Made by tools/made/one15.py.) -/
import Derived.Test.YtdkmakjjcfkfaaaMa5
namespace Go.Proofs.Ytdkmakjjcfkfaaa.Ma
open Go.RowKit Go.Proofs.Ytdkmakjjcfkfaaa Go.Proofs.Ytdkmakjjcfkfaaa.Ru
set_option linter.unusedVariables false
set_option linter.unusedSimpArgs false
set_option maxRecDepth 100000

set_option maxHeartbeats 8000000 in
theorem one_any (r : RuleV) (p : Option Addr) (n c : Nat) (T : List NmV) (iface : ByteArray) (k : PkV) (w : World) (hR : RdN w p n T) (hr : RuOk r) (hk : PkOk k) :
    Calls Try.prog 10 #[.agg (ruleL r).toArray, .slice p n c, .string iface, .agg (pkL k).toArray] w fun e w' => e = .returned (.bool (oneV r T iface k)) ∧ Ext w w' := by
  obtain ⟨W, hW⟩ : ∃ W, (w.alloc (.cells (ruleL r).toArray 43)).alloc (.cells (pkL k).toArray 30) = W := ⟨_, rfl⟩
  have hx0 : Ext w W := hW ▸ ((Ext.refl w).alloc _).alloc _
  have h12 := heap_two w (.cells (ruleL r).toArray 43) (.cells (pkL k).toArray 30)
  rw [hW] at h12
  have hP : PkAt W (w.heap.size + 1) k := pkAt h12.2
  obtain ⟨-, -, p3, p4, p5, p11, p17, p18, p19⟩ := ruAt (range_box h12.1)
  simp only [Nat.zero_add] at p3 p4 p5 p11 p17 p18 p19
  obtain ⟨pa, q6, q7, q8, -, -, qc, qd, qe, qf⟩ := hP
  have c1 := fun w => port_any k k.sp w
  have c2 := fun w => port_any k k.dp w
  generalize hpv1 : portV k k.sp = v1 at *
  generalize hpv2 : portV k k.dp = v2 at *
  have d1 := fun w h => side_any r.src p n c T k.sa v1 w h hr.s0 hr.s1 hk.s0 hk.s1
  have d2 := fun w h => side_any r.dst p n c T k.da v2 w h hr.d0 hr.d1 hk.d0 hk.d1
  unfold oneV onV protoV flagV typeV
  rw [hpv1, hpv2]
  have HR : Hid (∀ w', Ext W w' → RdN w' p n T) := fun w' h => (hR.ext hx0).ext h
  have HP : Hid _ := pa
  have H5 : Hid _ := p5
  have H11 : Hid _ := p11
  have l5 := sideL_len r.src
  have l11 := sideL_len r.dst
  have lk := pkL_len k
  generalize sideV r.src T k.sa v1 = t1 at *
  generalize sideV r.dst T k.da v2 = t2 at *
  clear hpv1 hpv2 h12 hR hr hk pa p5 p11
  generalize ruleL r = cr at *
  generalize pkL k = ck at *
  generalize sideL r.src = cs at *
  generalize sideL r.dst = ct at *
  have he : (r.on.toList == []) = r.on.toList.isEmpty := by cases r.on.toList <;> rfl
  rw [he]
  clear he
  generalize hz1 : r.on.toList.isEmpty = z1 at *
  generalize hz2 : (r.on.toList == iface.toList) = z2 at *
  generalize hz3 : (r.proto == 0) = z3 at *
  generalize hz4 : (r.proto == k.proto) = z4 at *
  generalize hz5 : (r.mask == 0) = z5 at *
  generalize hz6 : (bits .and .i64 k.flags r.mask == r.set) = z6 at *
  generalize hz7 : (r.type == -1) = z7 at *
  generalize hz8 : (r.type == k.type) = z8 at *
  have hD := (Ext.refl W).drew
  have HE : Hid (∀ w', Ext W.drew w' → Ext W w') := fun w' h => hD.trans h
  replace p3 := later p3 hD
  replace p4 := later p4 hD
  replace p17 := later p17 hD
  replace p18 := later p18 hD
  replace p19 := later p19 hD
  replace q6 := later q6 hD
  replace q7 := later q7 hD
  replace q8 := later q8 hD
  replace qc := later qc hD
  replace qd := later qd hD
  replace qe := later qe hD
  replace qf := later qf hD
  clear hD
  obtain ⟨s, hs⟩ : ∃ s, ((((z1 || z2) && (z3 || z4)) && (z5 || z6)) && (z7 || z8)) = s := ⟨_, rfl⟩
  rw [hs]
  go_enter Try.func10, Try.ntmps10
  go_wp2
  refine region10 (fun _ _ _ _ _ h => h) ?_
  refine stage1 _ _ _ cr ck p n c w.heap.size iface r.on z1 z2 p3 hz1 hz2 ?_
  intro u9 u10 u11 u12 u13 u14 u15 u16 u17
  refine stage2 _ _ _ cr ck p n c w.heap.size iface r.proto k.proto _ z3 z4 u9 u10 u11 u12 u13 u14 u15 u16 u17 p4 q6 hz3 hz4 ?_
  clear u9 u10 u11 u12 u13 u14 u15 u16 u17
  intro u9 u10 u11 u12 u13 u14 u15 u16 u17 u18 u19 u20 u21 u22 u23 u24 u25 u26 u27 u28 u29 u30
  refine stage3 _ _ _ cr ck p n c w.heap.size iface k.flags r.mask r.set _ z5 z6 u9 u10 u11 u12 u13 u14 u15 u16 u17 u18 u19 u20 u21 u22 u23 u24 u25 u26 u27 u28 u29 u30 p18 p17 qe hz5 hz6 ?_
  clear u9 u10 u11 u12 u13 u14 u15 u16 u17 u18 u19 u20 u21 u22 u23 u24 u25 u26 u27 u28 u29 u30
  intro u9 u10 u11 u12 u13 u14 u15 u16 u17 u18 u19 u20 u21 u22 u23 u24 u25 u26 u27 u28 u29 u30 u31 u32 u33 u34 u35 u36 u37 u38 u39 u40 u41 u42 u43 u44 u45
  refine stage4 _ _ _ cr ck p n c w.heap.size iface r.type k.type _ z7 z8 u9 u10 u11 u12 u13 u14 u15 u16 u17 u18 u19 u20 u21 u22 u23 u24 u25 u26 u27 u28 u29 u30 u31 u32 u33 u34 u35 u36 u37 u38 u39 u40 u41 u42 u43 u44 u45 p19 qf hz7 hz8 ?_
  clear u9 u10 u11 u12 u13 u14 u15 u16 u17 u18 u19 u20 u21 u22 u23 u24 u25 u26 u27 u28 u29 u30 u31 u32 u33 u34 u35 u36 u37 u38 u39 u40 u41 u42 u43 u44 u45
  intro u9 u10 u11 u12 u13 u14 u15 u16 u17 u18 u19 u20 u21 u22 u23 u24 u25 u26 u27 u28 u29 u30 u31 u32 u33 u34 u35 u36 u37 u38 u39 u40 u41 u42 u43 u44 u45 u46 u47 u48 u49 u50 u51 u52 u53 u54 u55 u56 u57
  clear hz1 hz2 hz3 hz4 hz5 hz6 hz7 hz8 p3 p4 p17 p18 p19 q6 qe qf
  rw [hs]
  clear hs
  simp only [sch10, List.drop_succ_cons, List.drop_zero]
  cases s with
  | false =>
    iterate 11 (refine wpH_skip rfl (by rfl) ?_; simp only [Act.put, List.setIfInBounds_toArray, List.set_cons_zero, List.set_cons_succ])
    iterate 2 (refine wpH_read (v := ?_) rfl (by rfl) ?_ ?_; rotate_left; (focus (intro w' hx; go_simp; first | done | with_reducible rfl)); simp only [Act.put, List.setIfInBounds_toArray, List.set_cons_zero, List.set_cons_succ])
    iterate 11 (refine wpH_skip rfl (by rfl) ?_; simp only [Act.put, List.setIfInBounds_toArray, List.set_cons_zero, List.set_cons_succ])
    iterate 2 (refine wpH_read (v := ?_) rfl (by rfl) ?_ ?_; rotate_left; (focus (intro w' hx; go_simp; first | done | with_reducible rfl)); simp only [Act.put, List.setIfInBounds_toArray, List.set_cons_zero, List.set_cons_succ])
    refine wpH_done ?_
    go_wp2
    go_ret
    exact ⟨rfl, hx0.trans (HE.out _ (Ext.refl _))⟩
  | true =>
    (refine wpH_read (v := ?_) rfl (by rfl) ?_ ?_; rotate_left; (focus (intro w' hx; go_simp; first | done | with_reducible rfl)); simp only [Act.put, List.setIfInBounds_toArray, List.set_cons_zero, List.set_cons_succ])
    (refine wpH_read rfl (by rfl) (fun w' hx => exec_range 36 _ rfl w.heap.size 5 _ _ rfl (H5.out _ (HE.out _ hx)) Try.underlying36 rfl (by rw [l5]; exact side_size)) ?_; simp only [Act.put, List.setIfInBounds_toArray, List.set_cons_zero, List.set_cons_succ])
    iterate 4 (refine wpH_read (v := ?_) rfl (by rfl) ?_ ?_; rotate_left; (focus (intro w' hx; go_simp; first | done | with_reducible rfl)); simp only [Act.put, List.setIfInBounds_toArray, List.set_cons_zero, List.set_cons_succ])
    (refine wpH_read rfl (by rfl) (fun w' hx => exec_range 30 _ rfl (w.heap.size + 1) 0 _ _ rfl (HP.out _ (HE.out _ hx)) Try.underlying30 rfl (by rw [lk]; exact pk_size)) ?_; simp only [Act.put, List.setIfInBounds_toArray, List.set_cons_zero, List.set_cons_succ])
    iterate 2 (refine wpH_read (v := ?_) rfl (by rfl) ?_ ?_; rotate_left; (focus (intro w' hx; go_simp; first | done | with_reducible rfl)); simp only [Act.put, List.setIfInBounds_toArray, List.set_cons_zero, List.set_cons_succ])
    (refine wpH_call rfl (by rfl) (fun K hK => ?_); go_simp; go_at_call 19; refine (c1 _).mono ?_; rintro e w1 ⟨rfl, hx1⟩; refine hK _ _ hx1 ?_; clear hK K; replace HE := ext_next HE hx1; replace q7 := later q7 hx1; replace q8 := later q8 hx1; replace qc := later qc hx1; replace qd := later qd hx1; clear hx1)
    (refine wpH_call rfl (by rfl) (fun K hK => ?_); go_simp; go_at_call 14; refine (d1 _ (HR.out _ (HE.out _ (Ext.refl _)))).mono ?_; rintro e w1 ⟨rfl, hx1⟩; refine hK _ _ hx1 ?_; clear hK K; replace HE := ext_next HE hx1; replace q7 := later q7 hx1; replace q8 := later q8 hx1; replace qc := later qc hx1; replace qd := later qd hx1; clear hx1)
    cases t1 with
    | false =>
      iterate 2 (refine wpH_read (v := ?_) rfl (by rfl) ?_ ?_; rotate_left; (focus (intro w' hx; go_simp; first | done | with_reducible rfl)); simp only [Act.put, List.setIfInBounds_toArray, List.set_cons_zero, List.set_cons_succ])
      iterate 11 (refine wpH_skip rfl (by rfl) ?_; simp only [Act.put, List.setIfInBounds_toArray, List.set_cons_zero, List.set_cons_succ])
      iterate 2 (refine wpH_read (v := ?_) rfl (by rfl) ?_ ?_; rotate_left; (focus (intro w' hx; go_simp; first | done | with_reducible rfl)); simp only [Act.put, List.setIfInBounds_toArray, List.set_cons_zero, List.set_cons_succ])
      refine wpH_done ?_
      go_wp2
      go_ret
      exact ⟨rfl, hx0.trans (HE.out _ (Ext.refl _))⟩
    | true =>
      iterate 2 (refine wpH_read (v := ?_) rfl (by rfl) ?_ ?_; rotate_left; (focus (intro w' hx; go_simp; first | done | with_reducible rfl)); simp only [Act.put, List.setIfInBounds_toArray, List.set_cons_zero, List.set_cons_succ])
      (refine wpH_read (v := ?_) rfl (by rfl) ?_ ?_; rotate_left; (focus (intro w' hx; go_simp; first | done | with_reducible rfl)); simp only [Act.put, List.setIfInBounds_toArray, List.set_cons_zero, List.set_cons_succ])
      (refine wpH_read rfl (by rfl) (fun w' hx => exec_range 36 _ rfl w.heap.size 11 _ _ rfl (H11.out _ (HE.out _ hx)) Try.underlying36 rfl (by rw [l11]; exact side_size)) ?_; simp only [Act.put, List.setIfInBounds_toArray, List.set_cons_zero, List.set_cons_succ])
      iterate 4 (refine wpH_read (v := ?_) rfl (by rfl) ?_ ?_; rotate_left; (focus (intro w' hx; go_simp; first | done | with_reducible rfl)); simp only [Act.put, List.setIfInBounds_toArray, List.set_cons_zero, List.set_cons_succ])
      (refine wpH_read rfl (by rfl) (fun w' hx => exec_range 30 _ rfl (w.heap.size + 1) 0 _ _ rfl (HP.out _ (HE.out _ hx)) Try.underlying30 rfl (by rw [lk]; exact pk_size)) ?_; simp only [Act.put, List.setIfInBounds_toArray, List.set_cons_zero, List.set_cons_succ])
      iterate 2 (refine wpH_read (v := ?_) rfl (by rfl) ?_ ?_; rotate_left; (focus (intro w' hx; go_simp; first | done | with_reducible rfl)); simp only [Act.put, List.setIfInBounds_toArray, List.set_cons_zero, List.set_cons_succ])
      (refine wpH_call rfl (by rfl) (fun K hK => ?_); go_simp; go_at_call 19; refine (c2 _).mono ?_; rintro e w1 ⟨rfl, hx1⟩; refine hK _ _ hx1 ?_; clear hK K; replace HE := ext_next HE hx1; replace q7 := later q7 hx1; replace q8 := later q8 hx1; replace qc := later qc hx1; replace qd := later qd hx1; clear hx1)
      (refine wpH_call rfl (by rfl) (fun K hK => ?_); go_simp; go_at_call 14; refine (d2 _ (HR.out _ (HE.out _ (Ext.refl _)))).mono ?_; rintro e w1 ⟨rfl, hx1⟩; refine hK _ _ hx1 ?_; clear hK K; replace HE := ext_next HE hx1; replace q7 := later q7 hx1; replace q8 := later q8 hx1; replace qc := later qc hx1; replace qd := later qd hx1; clear hx1)
      iterate 2 (refine wpH_read (v := ?_) rfl (by rfl) ?_ ?_; rotate_left; (focus (intro w' hx; go_simp; first | done | with_reducible rfl)); simp only [Act.put, List.setIfInBounds_toArray, List.set_cons_zero, List.set_cons_succ])
      refine wpH_done ?_
      go_wp2
      go_ret
      exact ⟨rfl, hx0.trans (HE.out _ (Ext.refl _))⟩
end Go.Proofs.Ytdkmakjjcfkfaaa.Ma
