/- For every bytes, two messages and number, the law IcmpTells returns true: any bytes as a message, or the error; any message as bytes, or the error; whether two are one; what is quoted; kinds; no condition. -/
import Derived.Test.YtllnphbeoaobdaaRows
import Derived.Test.YtllnphbeoaobdaaIcmp2
import Derived.Test.YtllnphbeoaobdaaIcmp1
import Derived.Test.YtllnphbeoaobdaaIcmp3
import Derived.Test.YtllnphbeoaobdaaIcmp5
import Derived.Test.YtllnphbeoaobdaaIcmp5R
import Derived.Test.YtllnphbeoaobdaaIcmp6
import Derived.Test.YtllnphbeoaobdaaIcmp7
import Derived.Test.YtllnphbeoaobdaaIcmp8
import Derived.Test.YtllnphbeoaobdaaFrame
import Derived.WalkKit
import Derived.ProofKit
import Derived.OpenShut
import Derived.ShutString
import Derived.ChangeOld
import Derived.Deep.DeepHandedRow
import Derived.Lib.LaidTab
import Derived.Lib.SmallJoins
import Derived.LaidMore
import Derived.Stop.LaidErr
import Derived.ChangeMaps5
namespace Go.Proofs.Ytllnphbeoaobdaa.icmpTells
open Go.ChangeShapes Go.WideShapes Go.ChangeAt Go.RowKit Go.ChangeMaps
set_option linter.unusedVariables false

theorem own : ownKnob Try.prog.godebug = none := by kernel_rfl
theorem laidOut : laidOutB Try.prog = true := by kernel_rfl

theorem arr4 {α : Type} {cs : Array α} (h : cs.size = 4) : ∃ c0 c1 c2 c3, cs = #[c0, c1, c2, c3] := by
  obtain ⟨l⟩ := cs
  match l, h with
  | [c0, c1, c2, c3], _ => exact ⟨c0, c1, c2, c3, rfl⟩

set_option maxHeartbeats 4000000 in
theorem walk (a0 : Option Addr) (len0 cap0 : Nat) (zs0 : List Int) (a10 : Int) (a11 : Int) (a12 : Int) (a13 : Option Addr) (len13 cap13 : Nat) (zs13 : List Int) (a20 : Int) (a21 : Int) (a22 : Int) (a23 : Option Addr) (len23 cap23 : Nat) (zs23 : List Int) (a3 : Int) (w : World) (row0 : IsRow .u8 w a0 len0 cap0 zs0) (w10 : (Lit.int .i64 a10).wf = true) (w11 : (Lit.int .i64 a11).wf = true) (w12 : (Lit.int .u32 a12).wf = true) (row13 : IsRow .u8 w a13 len13 cap13 zs13) (w20 : (Lit.int .i64 a20).wf = true) (w21 : (Lit.int .i64 a21).wf = true) (w22 : (Lit.int .u32 a22).wf = true) (row23 : IsRow .u8 w a23 len23 cap23 zs23) (w3 : (Lit.int .i64 a3).wf = true) (hsh : w.ShapedOpen Try.prog) :
    Calls Try.prog 3 #[.slice a0 len0 cap0, .agg #[.int .i64 a10, .int .i64 a11, .int .u32 a12, .slice a13 len13 cap13], .agg #[.int .i64 a20, .int .i64 a21, .int .u32 a22, .slice a23 len23 cap23], .int .i64 a3] w fun e w' => e = .returned (.bool true) ∧ Below w.heap.size w w' := by
  have rb := row0.bytes
  have hle := row0.le
  have z0 := row0.nil_cap
  have br := bounds_u32 w12
  have r3 := row13.bytes
  have z3 := row13.nil_cap
  have r4 := row23.bytes
  have hx0 : Ext w ((w.alloc (.cells #[.int .i64 a10, .int .i64 a11, .int .u32 a12, .slice a13 len13 cap13] 25)).alloc (.cells #[.int .i64 a20, .int .i64 a21, .int .u32 a22, .slice a23 len23 cap23] 25)) := ((Ext.refl w).alloc _).alloc _
  by_cases h2000 : 2000 < len0 ∨ 1500 < len13 ∨ 1500 < len23
  · rcases (by omega : 2000 < len0 ∨ (len0 ≤ 2000 ∧ 1500 < len13) ∨ (len0 ≤ 2000 ∧ len13 ≤ 1500 ∧ 1500 < len23)) with h | ⟨h, h'⟩ | ⟨h, h', h''⟩
    all_goals
      clear h2000
      go_enter Try.func3, Try.ntmps3
      go_wp2
      go_ret
      exact ⟨rfl, hx0⟩
  have n0 : len0 ≤ 2000 := by omega
  have n3 : len13 ≤ 1500 := by omega
  have n4 : len23 ≤ 1500 := by omega
  clear h2000
  have hA := ((Ext.refl (w.alloc (.cells #[.int .i64 a10, .int .i64 a11, .int .u32 a12, .slice a13 len13 cap13] 25))).alloc (.cells #[.int .i64 a20, .int .i64 a21, .int .u32 a22, .slice a23 len23 cap23] 25)).heap (heap_new' w (.cells #[.int .i64 a10, .int .i64 a11, .int .u32 a12, .slice a13 len13 cap13] 25))
  have hB := heap_new' (w.alloc (.cells #[.int .i64 a10, .int .i64 a11, .int .u32 a12, .slice a13 len13 cap13] 25)) (.cells #[.int .i64 a20, .int .i64 a21, .int .u32 a22, .slice a23 len23 cap23] 25)
  rw [show (w.alloc (.cells #[.int .i64 a10, .int .i64 a11, .int .u32 a12, .slice a13 len13 cap13] 25)).heap.size = w.heap.size + 1 by simp] at hB
  obtain ⟨x0, x1, x2, x3⟩ := box_msgE hA
  obtain ⟨y0, y1, y2, y3⟩ := box_msgE hB
  clear hA hB
  have tok1 : Hid True := trivial
  have go : ∀ (M : Nat) (Y : List Int) (er : Int)
      (cb : ∀ w, Bytes w a13 len13 (zs13.take len13) → Calls Try.prog 10 #[.agg #[.int .i64 a10, .int .i64 a11, .int .u32 a12, .slice a13 len13 cap13]] w fun e w' => ∃ q c, e = .returned (.tuple #[.slice q M c, .int .i64 er]) ∧ Bytes w' q M Y ∧ Ext w w')
      (cc : ∀ w, Bytes w a13 len13 (zs13.take len13) → Calls Try.prog 11 #[.agg #[.int .i64 a10, .int .i64 a11, .int .u32 a12, .slice a13 len13 cap13]] w fun e w' => ∃ q c, e = .returned (.tuple #[.slice q M c, .int .i64 er]) ∧ Bytes w' q M Y ∧ Ext w w'),
      Calls Try.prog 3 #[.slice a0 len0 cap0, .agg #[.int .i64 a10, .int .i64 a11, .int .u32 a12, .slice a13 len13 cap13], .agg #[.int .i64 a20, .int .i64 a21, .int .u32 a22, .slice a23 len23 cap23], .int .i64 a3] w fun e w' => e = .returned (.bool true) ∧ Below w.heap.size w w' := by
    intro M Y er cb cc
    generalize zs0.take len0 = xs at *
    have c1 := fun W h => Icmp.parse_any a0 len0 cap0 xs W h hle (by omega)
    have c2 := fun W h => Icmp.refParse_any a0 len0 cap0 xs W h hle (by omega)
    have HR : Hid (∀ w e w', Icmp.ParseAns w xs e w' → ∃ v, e = .returned (.tuple #[v, .int .i64 (Icmp.lookV xs)]) ∧ Icmp.IsMsg w' v (Icmp.packV xs) ∧ Ext w w') := fun w e w' h => h
    have cs := fun g1 m1 e1 f1 l1 d1 W h1 h2 => Icmp.refSame_any (Icmp.packV xs) (Icmp.packV xs) g1 m1 e1 f1 l1 d1 W h1 h2
    rw [Icmp.sameV_self] at cs
    have c3 := fun w h1 h2 => Icmp.same_any ⟨a10, a11, a12, zs13.take len13⟩ ⟨a20, a21, a22, zs23.take len23⟩ a13 len13 cap13 a23 len23 cap23 w h1 h2
    have c4 := fun w h1 h2 => Icmp.refSame_any ⟨a10, a11, a12, zs13.take len13⟩ ⟨a20, a21, a22, zs23.take len23⟩ a13 len13 cap13 a23 len23 cap23 w h1 h2
    obtain ⟨QN, hQN⟩ : ∃ n, Icmp.quoteN xs = n := ⟨_, rfl⟩
    obtain ⟨QV, hQV⟩ : ∃ n, Icmp.quoteV xs = n := ⟨_, rfl⟩
    have c5 := fun w h => Icmp.quote_any a0 len0 cap0 xs w h hle z0 (by omega) QN hQN QV hQV
    have c6 := fun w h => Icmp.refQuote_any a0 len0 cap0 xs w h hle z0 (by omega) QN hQN QV hQV
    have c7 := fun w => Icmp.bad_any a3 w
    have c8 := fun w => Icmp.refBad_any a3 w
    have c9 := fun w => Icmp.query_any a3 w
    have c10 := fun w => Icmp.refQuery_any a3 w
    generalize Icmp.badV a3 = TB at *
    generalize Icmp.queryV a3 = TQ at *
    generalize Icmp.sameV ⟨a10, a11, a12, zs13.take len13⟩ ⟨a20, a21, a22, zs23.take len23⟩ = SM at *
    generalize Icmp.packV xs = p at *
    generalize Icmp.lookV xs = el at *
    generalize Icmp.ParseAns = PA at *
    clear hQN hQV
    obtain ⟨p0, p1, p2, p3⟩ := p
    dsimp only at *
    go_enter Try.func3, Try.ntmps3
    go_wp2_with (first
      | (go_at_call 8; refine (c1 _ (rb.below hx0)).mono ?_; intro e w1 hRd; obtain ⟨v, rfl, ⟨⟨g1, m1, e1, rfl, hg1, _, _⟩⟩, hx1⟩ := HR.out _ _ _ hRd; clear hRd; have hxa : Ext w1 (w1.alloc (.cells #[.int .i64 p0, .int .i64 p1, .int .u32 p2, .slice g1 m1 e1] 25)) := (Ext.refl _).alloc _; have hx1a := hx1.trans hxa; have hy1 := hx0.trans hx1a)
      | (go_at_call 9; refine (c2 _ (rb.below hy1)).mono ?_; intro e w2 hRd; obtain ⟨v, rfl, ⟨⟨f1, l1, d1, rfl, hf1, _, _⟩⟩, hx2⟩ := HR.out _ _ _ hRd; clear hRd; have hx2b : Ext w2 (w2.alloc (.cells #[.int .i64 p0, .int .i64 p1, .int .u32 p2, .slice f1 l1 d1] 25)) := (Ext.refl _).alloc _; have hx2a := hx2.trans hx2b; have hx02 := hx1a.trans hx2a; have hy2 := hx0.trans hx02)
      | (go_at_call 10; refine (cb _ (r3.below hy2)).mono ?_; rintro e w3 ⟨q3, c3', rfl, hb3, hx3⟩; have hx03 := hx02.trans hx3; have hy3 := hx0.trans hx03)
      | (go_at_call 11; refine (cc _ (r3.below hy3)).mono ?_; rintro e w4 ⟨q4, c4', rfl, hb4, hx4⟩))
    have hx4d : Ext w4 w4.drew := (Ext.refl _).drew
    have hX := (hx03.trans hx4).trans hx4d
    have hYX := hx0.trans hX
    have sA := (hb3.below (hx4.trans hx4d)).conv c3'
    have sB := (hb4.below hx4d).conv c4'
    generalize strOfNums Y = SY at *
    have hk := hx2a.trans (hx3.trans (hx4.trans hx4d))
    have hl := hx3.trans (hx4.trans hx4d)
    obtain ⟨k0, k1, k2, k3⟩ := box_msgE (hk.heap (heap_new' w1 (.cells #[.int .i64 p0, .int .i64 p1, .int .u32 p2, .slice g1 m1 e1] 25)))
    obtain ⟨j0, j1, j2, j3⟩ := box_msgE (hl.heap (heap_new' w2 (.cells #[.int .i64 p0, .int .i64 p1, .int .u32 p2, .slice f1 l1 d1] 25)))
    have hg1' := hg1.below (hxa.trans hk)
    have hf1' := hf1.below (hx2b.trans hl)
    replace x0 := fun w' h => x0 w' (hX.trans h)
    replace x1 := fun w' h => x1 w' (hX.trans h)
    replace x2 := fun w' h => x2 w' (hX.trans h)
    replace x3 := fun w' h => x3 w' (hX.trans h)
    replace y0 := fun w' h => y0 w' (hX.trans h)
    replace y1 := fun w' h => y1 w' (hX.trans h)
    replace y2 := fun w' h => y2 w' (hX.trans h)
    replace y3 := fun w' h => y3 w' (hX.trans h)
    have hC : ∀ (q : Option Addr) (c : Nat) (W : World), Bytes W q QN QV → ∀ w', Ext W w' → Sem.run Try.prog (convert 22 9 (.slice q QN c)) w' = .ok (.string (strOfNums QV)) w' := fun q c W h => h.conv c
    generalize strOfNums QV = SQ at *
    have HC : Hid _ := hC
    refine wp_region_eager [(0, false), (1, false), (2, true), (3, false), (4, false), (5, false), (6, false), (7, false), (8, false), (9, false), (10, false), (11, false), (12, false), (13, false), (14, false), (15, false), (16, false), (17, false), (18, false), (19, false), (20, false), (21, false), (22, false), (24, false), (25, false), (23, true), (26, true), (27, false), (28, false), (29, false), (30, false), (33, false), (31, true), (32, false), (34, true), (35, false), (36, false), (37, false), (38, false), (39, false), (41, false), (40, true), (42, true), (43, false), (44, false), (45, false), (46, false), (48, false), (47, true), (49, true), (50, false), (51, false), (52, false), (53, true), (54, false), (55, false)] (by kernel_rfl) (by kernel_rfl) rfl (by kernel_rfl) (fun _ _ _ _ _ h => h) ?_
    clear hx1 hxa hx1a hy1 hx2 hx2a hx2b hx02 hy2 hx3 hx03 hy3 hx4 hx4d hb3 hb4 cb cc c1 c2 hX hk hl hg1 hf1 hx0 hC
    generalize w4.drew = V at *
    repeat (first
      | (refine wpE_read (v := ?_) rfl (by rfl) ?_ ?_; rotate_left; (focus (intro w' hx; go_simp; first | done | with_reducible rfl)); simp only [Act.put, List.setIfInBounds_toArray, List.set_cons_zero, List.set_cons_succ])
      | (refine wpE_call rfl (by rfl) (fun K hK => ?_); go_simp; first
          | (go_at_call 12; clear tok1 k0 k1 k2 k3 j0 j1 j2 j3; refine (cs g1 m1 e1 f1 l1 d1 _ hg1' hf1').mono ?_; rintro e w6 ⟨rfl, hx6⟩; refine hK _ _ hx6 ?_; clear hK K; replace hYX := hYX.trans hx6; replace x0 := fun w' h => x0 w' (hx6.trans h); replace x1 := fun w' h => x1 w' (hx6.trans h); replace x2 := fun w' h => x2 w' (hx6.trans h); replace x3 := fun w' h => x3 w' (hx6.trans h); replace y0 := fun w' h => y0 w' (hx6.trans h); replace y1 := fun w' h => y1 w' (hx6.trans h); replace y2 := fun w' h => y2 w' (hx6.trans h); replace y3 := fun w' h => y3 w' (hx6.trans h); replace sA := fun w' h => sA w' (hx6.trans h); replace sB := fun w' h => sB w' (hx6.trans h); clear hx6)
          | (go_at_call 13; refine (c3 _ (r3.below hYX) (r4.below hYX)).mono ?_; rintro e w7 ⟨rfl, hx7⟩; refine hK _ _ hx7 ?_; clear hK K; replace hYX := hYX.trans hx7; replace x0 := fun w' h => x0 w' (hx7.trans h); replace x1 := fun w' h => x1 w' (hx7.trans h); replace x2 := fun w' h => x2 w' (hx7.trans h); replace x3 := fun w' h => x3 w' (hx7.trans h); replace y0 := fun w' h => y0 w' (hx7.trans h); replace y1 := fun w' h => y1 w' (hx7.trans h); replace y2 := fun w' h => y2 w' (hx7.trans h); replace y3 := fun w' h => y3 w' (hx7.trans h); clear hx7)
          | (go_at_call 12; refine (c4 _ (r3.below hYX) (r4.below hYX)).mono ?_; rintro e w8 ⟨rfl, hx8⟩; refine hK _ _ hx8 ?_; clear hK K; replace hYX := hYX.trans hx8; clear hx8)
          | (go_at_call 14; refine (c5 _ (rb.below hYX)).mono ?_; rintro e w11 ⟨q11, c11, rfl, hb11, hx11⟩; refine hK _ _ hx11 ?_; clear hK K; replace hYX := hYX.trans hx11; have sC := HC.out q11 c11 _ hb11; clear hx11 hb11)
          | (go_at_call 15; refine (c6 _ (rb.below hYX)).mono ?_; rintro e w12 ⟨q12, c12, rfl, hb12, hx12⟩; refine hK _ _ hx12 ?_; clear hK K; replace hYX := hYX.trans hx12; have sD := HC.out q12 c12 _ hb12; clear hx12 hb12)
          | (go_at_call 16; refine (c7 _).mono ?_; rintro e w13 ⟨rfl, rfl⟩; refine hK _ _ (Ext.refl _) ?_; clear hK K)
          | (go_at_call 17; refine (c8 _).mono ?_; rintro e w14 ⟨rfl, rfl⟩; refine hK _ _ (Ext.refl _) ?_; clear hK K)
          | (go_at_call 18; refine (c9 _).mono ?_; rintro e w15 ⟨rfl, rfl⟩; refine hK _ _ (Ext.refl _) ?_; clear hK K)
          | (go_at_call 19; refine (c10 _).mono ?_; rintro e w16 ⟨rfl, rfl⟩; refine hK _ _ (Ext.refl _) ?_; clear hK K)
          | (go_at_call 20; refine (Icmp.known_any _).mono ?_; rintro e w10 ⟨rfl, rfl⟩; refine hK _ _ (Ext.refl _) ?_; clear hK K)))
    refine wpE_done ?_
    go_wp2
    go_ret
    exact ⟨rfl, hYX⟩
  have l3 : (⟨a10, a11, a12, zs13.take len13⟩ : Icmp.MSGv).data.length = len13 := r3.length
  by_cases his : Icmp.isV ⟨a10, a11, a12, zs13.take len13⟩ = true
  · have hp := (Icmp.isV_iff _).1 his
    obtain ⟨N, hN⟩ : ∃ N, 8 + len13 = N := ⟨_, rfl⟩
    refine go N (Icmp.buildV ⟨a10, a11, a12, zs13.take len13⟩) 0 (fun w h => ?_) (fun w h => ?_)
    · refine (Icmp.build_good ⟨a10, a11, a12, zs13.take len13⟩ a13 len13 cap13 w h z3 hp br.1 br.2 N hN).mono ?_
      rintro e w' ⟨q, c, rfl, ho, hx⟩
      exact ⟨q, c, rfl, (owns_slice ho (Icmp.build_ok ⟨br.1, br.2, r3.ok⟩ hp)).1, hx⟩
    · exact Icmp.refBuild_good ⟨a10, a11, a12, zs13.take len13⟩ a13 len13 cap13 w h z3 hp br.1 br.2 N hN
  · rw [Bool.not_eq_true] at his
    refine go 0 [] 1 (fun w h => ?_) (fun w h => ?_)
    · refine (Icmp.build_bad ⟨a10, a11, a12, zs13.take len13⟩ a13 len13 cap13 w l3 his).mono ?_
      rintro e w' ⟨rfl, hx⟩
      exact ⟨none, 0, rfl, bytes_nil w', hx⟩
    · refine (Icmp.refBuild_bad ⟨a10, a11, a12, zs13.take len13⟩ a13 len13 cap13 w l3 his).mono ?_
      rintro e w' ⟨rfl, hx⟩
      exact ⟨none, 0, rfl, bytes_nil w', hx⟩

theorem contract (H : Type) (enc : TypeId × Value → H) (W : World) (base : Nat) (args : Array Value) (ds gs : List (DataW H)) (before : List MemPlace)
    (hval : ∀ (j : Nat) t v, Try.f3.params[j]? = some t → args[j]? = some v → Value.okWide Try.prog W .any base t v)
    (hW : DataW.Whole enc Try.prog Try.f3.params.toList Rows.icmpTellsSpec.vars false W args.toList ds gs before) (hsh : W.ShapedOpen Try.prog) :
    Calls Try.prog 3 args W fun e W' => ∃ v, e = .returned v ∧ Rows.icmpTellsSpec.post enc Try.prog Try.f3 false true false false W args v W' := by
  have hW' := hW
  obtain ⟨p, q, hA0, hV, rfl, hfz, hnd⟩ := hW
  have hA : DataW.TrodAll enc Try.prog W 0 (fun _ => true) true Try.f3.params.toList args.toList ds p := hA0
  rw [Try.params3] at hA hval
  obtain ⟨v0, vs0, d0, ds0, p0, q0, hargs, rfl, rfl, h0, r0⟩ := trodAll_cons hA
  obtain ⟨v1, vs1, d1, ds1, p1, q1, rfl, rfl, rfl, h1, r1⟩ := trodAll_cons r0
  obtain ⟨v2, vs2, d2, ds2, p2, q2, rfl, rfl, rfl, h2, r2⟩ := trodAll_cons r1
  obtain ⟨v3, vs3, d3, ds3, p3, q3, rfl, rfl, rfl, h3, r3⟩ := trodAll_cons r2
  obtain ⟨rfl, rfl, rfl⟩ := trodAll_nil r3
  obtain rfl : args = #[v0, v1, v2, v3] := by cases args; simp_all
  obtain ⟨rfl, rfl⟩ := trodVars_none hV
  have k0 := h0
  have lt0 : ∀ x ∈ p0, x.block < W.heap.size := by obtain ⟨m, hm⟩ := k0; exact DataW.trod_lt m _ _ _ hm
  obtain ⟨b0, l0, c0, rfl⟩ := okWide_slice Try.underlying22 (hval 0 22 v0 rfl rfl)
  obtain ⟨fu0, hf0⟩ := h0
  obtain ⟨a0, len0, cap0, zs0, ce0, row0⟩ := open_rowI Try.underlying22 Try.underlying5 (by kernel_rfl) (fun _ => rfl) hf0
  obtain ⟨rfl, rfl, rfl⟩ : a0 = b0 ∧ len0 = l0 ∧ cap0 = c0 := by simpa [Value.cells, eq_comm] using ce0
  have k1 := h1
  have lt1 : ∀ x ∈ p1, x.block < W.heap.size := by obtain ⟨m, hm⟩ := k1; exact DataW.trod_lt m _ _ _ hm
  obtain ⟨cs1, rfl, hs1⟩ := okWide_struct Try.underlying25 (hval 1 25 v1 rfl rfl)
  obtain ⟨u1a, u1b, u1c, u1d, rfl⟩ := arr4 (hs1.trans (by kernel_rfl))
  obtain ⟨fu1, hf1⟩ := h1
  obtain ⟨_, _, e1⟩ := field_at Try.underlying25 hf1 0 rfl 1 (by kernel_rfl)
  obtain ⟨a10, c2, _, w10⟩ := DataW.trod_int Try.underlying3 e1
  obtain rfl : u1a = .int .i64 a10 := by simpa [Value.cells] using c2
  obtain ⟨_, _, e3⟩ := field_at Try.underlying25 hf1 1 rfl 1 (by kernel_rfl)
  obtain ⟨a11, c4, _, w11⟩ := DataW.trod_int Try.underlying3 e3
  obtain rfl : u1b = .int .i64 a11 := by simpa [Value.cells] using c4
  obtain ⟨_, _, e5⟩ := field_at Try.underlying25 hf1 2 rfl 1 (by kernel_rfl)
  obtain ⟨a12, c6, _, w12⟩ := DataW.trod_int Try.underlying23 e5
  obtain rfl : u1c = .int .u32 a12 := by simpa [Value.cells] using c6
  obtain ⟨_, _, e7⟩ := field_at Try.underlying25 hf1 3 rfl 1 (by kernel_rfl)
  obtain ⟨a13, len13, cap13, zs13, c8, row13⟩ := open_rowI Try.underlying22 Try.underlying5 (by kernel_rfl) (fun _ => rfl) e7
  obtain rfl : u1d = .slice a13 len13 cap13 := by simpa [Value.cells] using c8
  have k2 := h2
  have lt2 : ∀ x ∈ p2, x.block < W.heap.size := by obtain ⟨m, hm⟩ := k2; exact DataW.trod_lt m _ _ _ hm
  obtain ⟨cs2, rfl, hs2⟩ := okWide_struct Try.underlying25 (hval 2 25 v2 rfl rfl)
  obtain ⟨u2a, u2b, u2c, u2d, rfl⟩ := arr4 (hs2.trans (by kernel_rfl))
  obtain ⟨fu2, hf2⟩ := h2
  obtain ⟨_, _, e9⟩ := field_at Try.underlying25 hf2 0 rfl 1 (by kernel_rfl)
  obtain ⟨a20, c10, _, w20⟩ := DataW.trod_int Try.underlying3 e9
  obtain rfl : u2a = .int .i64 a20 := by simpa [Value.cells] using c10
  obtain ⟨_, _, e11⟩ := field_at Try.underlying25 hf2 1 rfl 1 (by kernel_rfl)
  obtain ⟨a21, c12, _, w21⟩ := DataW.trod_int Try.underlying3 e11
  obtain rfl : u2b = .int .i64 a21 := by simpa [Value.cells] using c12
  obtain ⟨_, _, e13⟩ := field_at Try.underlying25 hf2 2 rfl 1 (by kernel_rfl)
  obtain ⟨a22, c14, _, w22⟩ := DataW.trod_int Try.underlying23 e13
  obtain rfl : u2c = .int .u32 a22 := by simpa [Value.cells] using c14
  obtain ⟨_, _, e15⟩ := field_at Try.underlying25 hf2 3 rfl 1 (by kernel_rfl)
  obtain ⟨a23, len23, cap23, zs23, c16, row23⟩ := open_rowI Try.underlying22 Try.underlying5 (by kernel_rfl) (fun _ => rfl) e15
  obtain rfl : u2d = .slice a23 len23 cap23 := by simpa [Value.cells] using c16
  obtain ⟨a3, rfl, rfl, rfl, w3⟩ := open_int Try.underlying3 (hval 3 3 v3 rfl rfl) h3
  clear hA0
  refine (walk a0 len0 cap0 zs0 a10 a11 a12 a13 len13 cap13 zs13 a20 a21 a22 a23 len23 cap23 zs23 a3 W row0 w10 w11 w12 row13 w20 w21 w22 row23 w3 hsh).mono fun e W' ⟨he, bel⟩ => ?_
  subst he
  exact ⟨_, rfl, _, _, _, [], _, [], hW', trodAll_mk1 (shut_bool Try.underlying4 _), (trodAll_cons_mk (Below.trod laidOut (by kernel_rfl) (of_decide_eq_true (by kernel_rfl)) k0 bel lt0) (trodAll_cons_mk (Below.trod laidOut (by kernel_rfl) (of_decide_eq_true (by kernel_rfl)) k1 bel lt1) (trodAll_cons_mk (Below.trod laidOut (by kernel_rfl) (of_decide_eq_true (by kernel_rfl)) k2 bel lt2) (trodAll_cons_mk (shut_int Try.underlying3 w3) trodAll_mk0)))), rfl, bel.frame _, fun h => by cases h⟩

theorem laid_met (os : Os) : laidMet Try.prog Rows.icmpTellsRow.laid ((World.doorLaid Try.prog 24 os).forCall (fun _ _ => 0) ⟨#[], #[.slice none 0 0, .agg #[.int .i64 0, .int .i64 0, .int .u32 0, .slice none 0 0], .agg #[.int .i64 0, .int .i64 0, .int .u32 0, .slice none 0 0], .int .i64 0], []⟩).memory :=
  laidMet_of_run' 8 (by kernel_rfl) (by kernel_rfl)
theorem reads (os : Os) {H : Type} (enc : TypeId × Value → H) : ∃ places, DataW.whole enc Try.prog ((World.doorLaid Try.prog 24 os).forCall (fun _ _ => 0) ⟨#[], #[.slice none 0 0, .agg #[.int .i64 0, .int .i64 0, .int .u32 0, .slice none 0 0], .agg #[.int .i64 0, .int .i64 0, .int .u32 0, .slice none 0 0], .int .i64 0], []⟩).memory Try.f3.params.toList Rows.icmpTellsSpec.vars false (#[.slice none 0 0, .agg #[.int .i64 0, .int .i64 0, .int .u32 0, .slice none 0 0], .agg #[.int .i64 0, .int .i64 0, .int .u32 0, .slice none 0 0], .int .i64 0] : Array Value).toList 8 = some ([.nil, .agg [.lit (.int .i64 0), .lit (.int .i64 0), .lit (.int .u32 0), .nil], .agg [.lit (.int .i64 0), .lit (.int .i64 0), .lit (.int .u32 0), .nil], .lit (.int .i64 0)], [], places) :=
  ⟨[], by kernel_rfl⟩

set_option maxRecDepth 100000 in
theorem lifted (os : Os) (started : os.Started) (H : Type) (enc : TypeId × Value → H) (F : Stop.Interp) :
    ReturnsInHanded {} Try.checked os 3 .any ((OpenSpec.ofChange Rows.icmpTellsSpec).preRow enc Try.prog Try.f3 Rows.icmpTellsRow.domain false Rows.icmpTellsRow.laid) (((OpenSpec.ofChange Rows.icmpTellsSpec).at F).post enc Try.prog Try.f3 false true false false) := by
  obtain ⟨places, hx⟩ := reads os enc
  refine returnsInHanded_of_row (C := Try.checked) (s := (OpenSpec.ofChange Rows.icmpTellsSpec)) own started (by kernel_rfl) Try.func3
    (witness_row_at (enc := enc) (C := Try.checked) false (World.doorLaid Try.prog 24 os) #[.slice none 0 0, .agg #[.int .i64 0, .int .i64 0, .int .u32 0, .slice none 0 0], .agg #[.int .i64 0, .int .i64 0, .int .u32 0, .slice none 0 0], .int .i64 0] rfl (by kernel_rfl) (by kernel_rfl) (by kernel_rfl)
      (OpenSpec.preRow_of_cond 8 hx (by kernel_rfl) (fun k hk => by cases hk) (by kernel_rfl) (laid_met os))) ?_
  intro W base args ds gs before hval hW _ hcond _ hL hsh _
  exact contract H enc W base args ds gs before hval hW hsh

theorem said : Rows.IcmpTellsSaid :=
  OpenClaim.holds_of_cond 3 Try.f3 rfl rfl rfl rfl rfl rfl rfl ⟨rfl, rfl, rfl, rfl, rfl⟩ rfl rfl rfl rfl rfl (by kernel_rfl) Try.func3 (by kernel_rfl)
    (of_decide_eq_true (by kernel_rfl)) (by unfold Func.isWrapper; first | (rw [if_pos (by decide +kernel)]; kernel_rfl) | (rw [if_neg (by decide +kernel)]; exact ⟨rfl, rfl⟩))
    (fun os started H enc _ F => by rw [OpenClaim.pre_eq_preRow]; exact lifted os started H enc F)

end Go.Proofs.Ytllnphbeoaobdaa.icmpTells

namespace Go.Proofs.Ytllnphbeoaobdaa
theorem icmpTells_holds : Rows.IcmpTellsSaid := icmpTells.said
#print axioms icmpTells_holds
end Go.Proofs.Ytllnphbeoaobdaa
