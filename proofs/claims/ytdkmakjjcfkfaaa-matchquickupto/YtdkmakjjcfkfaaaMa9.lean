/- The document's One, Last. (Made by tools/made/one15d.py.) -/
import Derived.Test.YtdkmakjjcfkfaaaMa8
import Derived.Deep.CutBlock
import Derived.Deep.CutRange
namespace Go.Proofs.Ytdkmakjjcfkfaaa.Ma
open Go.RowKit Go.Proofs.Ytdkmakjjcfkfaaa Go.Proofs.Ytdkmakjjcfkfaaa.Ru
set_option linter.unusedVariables false
set_option linter.unusedSimpArgs false
set_option maxRecDepth 100000

set_option maxHeartbeats 8000000 in
theorem refOne_any (r : RuleV) (p : Option Addr) (n c : Nat) (T : List NmV) (iface : ByteArray) (k : PkV) (w : World) (hR : RdN w p n T) (hr : RuOk r) (hk : PkOk k) :
    Calls Try.prog 11 #[.agg (ruleL r).toArray, .slice p n c, .string iface, .agg (pkL k).toArray] w fun e w' => e = .returned (.bool (oneV r T iface k)) ∧ Ext w w' := by
  obtain ⟨W, hW⟩ : ∃ W, (w.alloc (.cells (ruleL r).toArray 43)).alloc (.cells (pkL k).toArray 30) = W := ⟨_, rfl⟩
  have hx0 : Ext w W := hW ▸ ((Ext.refl w).alloc _).alloc _
  have h12 := heap_two w (.cells (ruleL r).toArray 43) (.cells (pkL k).toArray 30)
  rw [hW] at h12
  have hP : PkAt W (w.heap.size + 1) k := pkAt h12.2
  obtain ⟨-, -, p3, p4, p5, p11, p17, p18, p19⟩ := ruAt (range_box h12.1)
  simp only [Nat.zero_add] at p3 p4 p5 p11 p17 p18 p19
  obtain ⟨-, q6, q7, q8, -, -, qc, qd, qe, qf⟩ := hP
  obtain ⟨v1, hpv1⟩ : ∃ v1, portV k k.sp = v1 := ⟨_, rfl⟩
  obtain ⟨v2, hpv2⟩ : ∃ v2, portV k k.dp = v2 := ⟨_, rfl⟩
  have d1 := fun w h => refSide_any r.src p n c T k.sa v1 w h hr.s0 hr.s1 hk.s0 hk.s1
  have d2 := fun w h => refSide_any r.dst p n c T k.da v2 w h hr.d0 hr.d1 hk.d0 hk.d1
  unfold oneV onV protoV flagV typeV
  rw [hpv1, hpv2]
  unfold portV at hpv1 hpv2
  have HV1 : Hid _ := hpv1
  have HV2 : Hid _ := hpv2
  have HR : Hid (∀ w', Ext W w' → RdN w' p n T) := fun w' h => (hR.ext hx0).ext h
  have H5 : Hid _ := p5
  have H11 : Hid _ := p11
  have l5 := sideL_len r.src
  have l11 := sideL_len r.dst
  have lk := pkL_len k
  generalize sideV r.src T k.sa v1 = t1 at *
  generalize sideV r.dst T k.da v2 = t2 at *
  clear hpv1 hpv2 h12 hR hr hk p5 p11
  generalize ruleL r = cr at *
  generalize pkL k = ck at *
  generalize sideL r.src = cs at *
  generalize sideL r.dst = ct at *
  obtain ⟨f1, e1⟩ : ∃ z, (k.proto == 6) = z := ⟨_, rfl⟩
  obtain ⟨f2, e2⟩ : ∃ z, (k.proto == 17) = z := ⟨_, rfl⟩
  rw [e1, e2] at HV1 HV2
  have n1 : (k.proto != 6) = !f1 := by rw [bne, e1]
  have n2 : (k.proto != 17) = !f2 := by rw [bne, e2]
  obtain ⟨z1, hz1⟩ : ∃ z, (r.on.toList == []) = z := ⟨_, rfl⟩
  obtain ⟨z2, hz2⟩ : ∃ z, (r.on.toList == iface.toList) = z := ⟨_, rfl⟩
  obtain ⟨z3, hz3⟩ : ∃ z, (r.proto == 0) = z := ⟨_, rfl⟩
  obtain ⟨z4, hz4⟩ : ∃ z, (r.proto == k.proto) = z := ⟨_, rfl⟩
  obtain ⟨z5, hz5⟩ : ∃ z, (r.mask == 0) = z := ⟨_, rfl⟩
  obtain ⟨z6, hz6⟩ : ∃ z, (bits .and .i64 k.flags r.mask == r.set) = z := ⟨_, rfl⟩
  obtain ⟨z7, hz7⟩ : ∃ z, (r.type == -1) = z := ⟨_, rfl⟩
  obtain ⟨z8, hz8⟩ : ∃ z, (r.type == k.type) = z := ⟨_, rfl⟩
  rw [hz1, hz2, hz3, hz4, hz5, hz6, hz7, hz8]
  have m3 : (r.proto != 0) = !z3 := by rw [bne, hz3]
  have m4 : (r.proto != k.proto) = !z4 := by rw [bne, hz4]
  have m5 : (r.mask != 0) = !z5 := by rw [bne, hz5]
  have m6 : (bits .and .i64 k.flags r.mask != r.set) = !z6 := by rw [bne, hz6]
  have m7 : (r.type != -1) = !z7 := by rw [bne, hz7]
  have m8 : (r.type != k.type) = !z8 := by rw [bne, hz8]
  clear hz3 hz4 hz5 hz6 hz7 hz8 e1 e2
  go_enter Try.func11, Try.ntmps11
  go_wp2
  refine wp_region_eager [(0, false), (1, false), (2, false), (3, false), (4, false), (5, false)] (by kernel_rfl) (by kernel_rfl) rfl (by kernel_rfl) (fun _ _ _ _ _ h => h) (WpH.out ?_)
  have hD : Ext W W.drew := (Ext.refl W).drew
  generalize W.drew = W1 at *
  replace q6 := later q6 hD
  replace q7 := later q7 hD
  replace q8 := later q8 hD
  replace qc := later qc hD
  replace qd := later qd hD
  replace qe := later qe hD
  replace qf := later qf hD
  replace p3 := later p3 hD
  replace p4 := later p4 hD
  replace p17 := later p17 hD
  replace p18 := later p18 hD
  replace p19 := later p19 hD
  iterate 6 (refine wpH_read (v := ?_) rfl (by rfl) ?_ ?_; rotate_left; (focus (intro w' hx; go_simp; first | done | with_reducible rfl)); simp only [Act.put, List.setIfInBounds_toArray, List.set_cons_zero, List.set_cons_succ])
  refine wpH_done ?_
  have q8x := q8
  replace q6 := q6 W1 (Ext.refl W1)
  replace q7 := q7 W1 (Ext.refl W1)
  replace q8 := q8 W1 (Ext.refl W1)
  replace qc := qc W1 (Ext.refl W1)
  replace qd := qd W1 (Ext.refl W1)
  replace qe := qe W1 (Ext.refl W1)
  replace qf := qf W1 (Ext.refl W1)
  replace p3 := p3 W1 (Ext.refl W1)
  replace p4 := p4 W1 (Ext.refl W1)
  replace p17 := p17 W1 (Ext.refl W1)
  replace p18 := p18 W1 (Ext.refl W1)
  replace p19 := p19 W1 (Ext.refl W1)
  go_upto_region 2 with fail
  go_cut [24] from 11 to 24 (fun v24 wx => v24 = .bool (!(f1 || f2)) ∧ wx = W1)
  case first =>
    clear hz1 hz2 m3 m4 m5 m6 m7 m8
    cases f1 with
    | true =>
      rw [Bool.not_true] at n1
      go_wp2_with fail
      go_meet
      exact ⟨rfl, rfl⟩
    | false =>
      rw [Bool.not_false] at n1
      go_wp2_with fail
      go_meet
      exact ⟨rfl, rfl⟩
  case rest =>
    obtain ⟨rfl, rfl⟩ := hcut
    go_upto_if 24 with fail
    go_cut [9, 10] from 11 to 24 (fun v9 v10 wx => v9 = .int .i64 v1 ∧ v10 = .int .i64 v2 ∧ wx = wc)
    case first =>
      clear hz1 hz2 m3 m4 m5 m6 m7 m8 n1 n2
      cases hf : f1 || f2 with
      | true =>
        have y1 := HV1.out
        have y2 := HV2.out
        rw [hf, if_pos rfl] at y1 y2
        subst y1 y2
        go_wp2_with fail
        go_meet
        exact ⟨rfl, rfl, rfl⟩
      | false =>
        have y1 := HV1.out
        have y2 := HV2.out
        rw [hf, if_neg (by decide)] at y1 y2
        subst y1 y2
        go_wp2_with fail
        go_meet
        exact ⟨rfl, rfl, rfl⟩
    case rest =>
      obtain ⟨rfl, rfl, rfl⟩ := hcut
      clear HV1 HV2 n1 n2
      go_upto_block 0 with fail
      go_cut [9, 10] from 25 to 69 (fun v9 v10 wx => ((z1 || z2) && (z3 || z4) && (z5 || z6) && (z7 || z8)) = true ∧ v9 = .int .i64 v1 ∧ v10 = .int .i64 v2 ∧ wx = wc)
      case first =>
        cases z1 with
        | true =>
          cases z3 with
          | true =>
            rw [Bool.not_true] at m3
            cases z5 with
            | true =>
              rw [Bool.not_true] at m5
              cases z7 with
              | true =>
                rw [Bool.not_true] at m7
                go_wp2_with fail
                go_meet
                exact ⟨rfl, rfl, rfl, rfl⟩
              | false =>
                rw [Bool.not_false] at m7
                cases z8 with
                | true =>
                  rw [Bool.not_true] at m8
                  go_wp2_with fail
                  go_meet
                  exact ⟨rfl, rfl, rfl, rfl⟩
                | false =>
                  rw [Bool.not_false] at m8
                  go_wp2_with fail
                  go_ret
                  exact ⟨by simp, hx0.trans hD⟩
            | false =>
              rw [Bool.not_false] at m5
              cases z6 with
              | true =>
                rw [Bool.not_true] at m6
                cases z7 with
                | true =>
                  rw [Bool.not_true] at m7
                  go_wp2_with fail
                  go_meet
                  exact ⟨rfl, rfl, rfl, rfl⟩
                | false =>
                  rw [Bool.not_false] at m7
                  cases z8 with
                  | true =>
                    rw [Bool.not_true] at m8
                    go_wp2_with fail
                    go_meet
                    exact ⟨rfl, rfl, rfl, rfl⟩
                  | false =>
                    rw [Bool.not_false] at m8
                    go_wp2_with fail
                    go_ret
                    exact ⟨by simp, hx0.trans hD⟩
              | false =>
                rw [Bool.not_false] at m6
                go_wp2_with fail
                go_ret
                exact ⟨by simp, hx0.trans hD⟩
          | false =>
            rw [Bool.not_false] at m3
            cases z4 with
            | true =>
              rw [Bool.not_true] at m4
              cases z5 with
              | true =>
                rw [Bool.not_true] at m5
                cases z7 with
                | true =>
                  rw [Bool.not_true] at m7
                  go_wp2_with fail
                  go_meet
                  exact ⟨rfl, rfl, rfl, rfl⟩
                | false =>
                  rw [Bool.not_false] at m7
                  cases z8 with
                  | true =>
                    rw [Bool.not_true] at m8
                    go_wp2_with fail
                    go_meet
                    exact ⟨rfl, rfl, rfl, rfl⟩
                  | false =>
                    rw [Bool.not_false] at m8
                    go_wp2_with fail
                    go_ret
                    exact ⟨by simp, hx0.trans hD⟩
              | false =>
                rw [Bool.not_false] at m5
                cases z6 with
                | true =>
                  rw [Bool.not_true] at m6
                  cases z7 with
                  | true =>
                    rw [Bool.not_true] at m7
                    go_wp2_with fail
                    go_meet
                    exact ⟨rfl, rfl, rfl, rfl⟩
                  | false =>
                    rw [Bool.not_false] at m7
                    cases z8 with
                    | true =>
                      rw [Bool.not_true] at m8
                      go_wp2_with fail
                      go_meet
                      exact ⟨rfl, rfl, rfl, rfl⟩
                    | false =>
                      rw [Bool.not_false] at m8
                      go_wp2_with fail
                      go_ret
                      exact ⟨by simp, hx0.trans hD⟩
                | false =>
                  rw [Bool.not_false] at m6
                  go_wp2_with fail
                  go_ret
                  exact ⟨by simp, hx0.trans hD⟩
            | false =>
              rw [Bool.not_false] at m4
              go_wp2_with fail
              go_ret
              exact ⟨by simp, hx0.trans hD⟩
        | false =>
          cases z2 with
          | true =>
            cases z3 with
            | true =>
              rw [Bool.not_true] at m3
              cases z5 with
              | true =>
                rw [Bool.not_true] at m5
                cases z7 with
                | true =>
                  rw [Bool.not_true] at m7
                  go_wp2_with fail
                  go_meet
                  exact ⟨rfl, rfl, rfl, rfl⟩
                | false =>
                  rw [Bool.not_false] at m7
                  cases z8 with
                  | true =>
                    rw [Bool.not_true] at m8
                    go_wp2_with fail
                    go_meet
                    exact ⟨rfl, rfl, rfl, rfl⟩
                  | false =>
                    rw [Bool.not_false] at m8
                    go_wp2_with fail
                    go_ret
                    exact ⟨by simp, hx0.trans hD⟩
              | false =>
                rw [Bool.not_false] at m5
                cases z6 with
                | true =>
                  rw [Bool.not_true] at m6
                  cases z7 with
                  | true =>
                    rw [Bool.not_true] at m7
                    go_wp2_with fail
                    go_meet
                    exact ⟨rfl, rfl, rfl, rfl⟩
                  | false =>
                    rw [Bool.not_false] at m7
                    cases z8 with
                    | true =>
                      rw [Bool.not_true] at m8
                      go_wp2_with fail
                      go_meet
                      exact ⟨rfl, rfl, rfl, rfl⟩
                    | false =>
                      rw [Bool.not_false] at m8
                      go_wp2_with fail
                      go_ret
                      exact ⟨by simp, hx0.trans hD⟩
                | false =>
                  rw [Bool.not_false] at m6
                  go_wp2_with fail
                  go_ret
                  exact ⟨by simp, hx0.trans hD⟩
            | false =>
              rw [Bool.not_false] at m3
              cases z4 with
              | true =>
                rw [Bool.not_true] at m4
                cases z5 with
                | true =>
                  rw [Bool.not_true] at m5
                  cases z7 with
                  | true =>
                    rw [Bool.not_true] at m7
                    go_wp2_with fail
                    go_meet
                    exact ⟨rfl, rfl, rfl, rfl⟩
                  | false =>
                    rw [Bool.not_false] at m7
                    cases z8 with
                    | true =>
                      rw [Bool.not_true] at m8
                      go_wp2_with fail
                      go_meet
                      exact ⟨rfl, rfl, rfl, rfl⟩
                    | false =>
                      rw [Bool.not_false] at m8
                      go_wp2_with fail
                      go_ret
                      exact ⟨by simp, hx0.trans hD⟩
                | false =>
                  rw [Bool.not_false] at m5
                  cases z6 with
                  | true =>
                    rw [Bool.not_true] at m6
                    cases z7 with
                    | true =>
                      rw [Bool.not_true] at m7
                      go_wp2_with fail
                      go_meet
                      exact ⟨rfl, rfl, rfl, rfl⟩
                    | false =>
                      rw [Bool.not_false] at m7
                      cases z8 with
                      | true =>
                        rw [Bool.not_true] at m8
                        go_wp2_with fail
                        go_meet
                        exact ⟨rfl, rfl, rfl, rfl⟩
                      | false =>
                        rw [Bool.not_false] at m8
                        go_wp2_with fail
                        go_ret
                        exact ⟨by simp, hx0.trans hD⟩
                  | false =>
                    rw [Bool.not_false] at m6
                    go_wp2_with fail
                    go_ret
                    exact ⟨by simp, hx0.trans hD⟩
              | false =>
                rw [Bool.not_false] at m4
                go_wp2_with fail
                go_ret
                exact ⟨by simp, hx0.trans hD⟩
          | false =>
            go_wp2_with fail
            go_ret
            exact ⟨by simp, hx0.trans hD⟩
      case rest =>
        obtain ⟨HS, rfl, rfl, rfl⟩ := hcut
        replace HS : Hid _ := HS
        clear m3 m4 m5 m6 m7 m8 hz1 hz2
        have hr5 := H5.out wc hD
        have HR1 := HR.out wc hD
        cases t1 with
        | false =>
          go_wp2_with (refine wpl_range (by rfl) 36 _ rfl w.heap.size 5 _ _ rfl hr5 Try.underlying36 rfl (by rw [l5]; exact side_size) ?_)
          go_at_call 15
          refine (d1 _ HR1).mono ?_
          rintro e w1 ⟨rfl, hx1⟩
          have HX : Hid (Ext w w1) := hx0.trans (hD.trans hx1)
          clear q6 q7 q8 qc qd qe qf p3 p4 p17 p18 p19 q8x HR1 hr5 l5 l11 lk hW d1 d2 hD hx0 hx1 HR H5 H11
          go_wp2_with fail
          go_ret
          exact ⟨by rw [HS.out]; rfl, HX.out⟩
        | true =>
          go_wp2_with (refine wpl_range (by rfl) 36 _ rfl w.heap.size 5 _ _ rfl hr5 Try.underlying36 rfl (by rw [l5]; exact side_size) ?_)
          go_at_call 15
          refine (d1 _ HR1).mono ?_
          rintro e w1 ⟨rfl, hx1⟩
          have HX : Hid (Ext w w1) := hx0.trans (hD.trans hx1)
          have q8w := q8x w1 hx1
          have hr11 := H11.out w1 (hD.trans hx1)
          have HR2 := HR.out w1 (hD.trans hx1)
          clear q6 q7 q8 qc qd qe qf p3 p4 p17 p18 p19 q8x HR1 hr5 l5 lk hW d1 hD hx0 hx1 HR H5 H11
          go_wp2_with (refine wpl_range (by rfl) 36 _ rfl w.heap.size 11 _ _ rfl hr11 Try.underlying36 rfl (by rw [l11]; exact side_size) ?_)
          go_at_call 15
          refine (d2 _ HR2).mono ?_
          rintro e w2 ⟨rfl, hx2⟩
          clear q8w hr11 HR2 l11 d2
          go_wp2_with fail
          go_ret
          exact ⟨by rw [HS.out]; rfl, HX.out.trans hx2⟩
end Go.Proofs.Ytdkmakjjcfkfaaa.Ma
