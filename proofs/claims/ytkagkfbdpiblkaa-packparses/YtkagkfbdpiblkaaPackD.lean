/- Two of what is looked at, field by field (chapter 8): the document's Same. -/
import Derived.Test.YtkagkfbdpiblkaaPackB
import Derived.Test.YtkagkfbdpiblkaaPack7
import Derived.Test.YtkagkfbdpiblkaaIp2R
namespace Go.Proofs.Ytkagkfbdpiblkaa.Pack
open Go.RowKit
set_option linter.unusedVariables false
set_option maxRecDepth 100000

set_option maxHeartbeats 8000000 in
theorem refPackSame0 (p0 p1 : Int) (p2 p3 : Bool) (p4 p5 p6 p7 p8 : Int) (p9 pa : List Int) (a1 : Option Addr) (n1 c1 : Nat) (a2 : Option Addr) (n2 c2 : Nat) (m0 m1 m2 m3 m4 m5 : Int) (kp : Option Addr) (i1 : Option KEYv) (q0 q1 : Int) (q2 q3 : Bool) (q4 q5 q6 q7 q8 : Int) (q9 qa : List Int) (b1 : Option Addr) (r1 d1 : Nat) (b2 : Option Addr) (r2 d2 : Nat) (o0 o1 o2 o3 o4 o5 : Int) (kq : Option Addr) (i2 : Option KEYv) (w : World)
    (hp1 : Bytes w a1 n1 p9) (hp2 : Bytes w a2 n2 pa) (hq1 : Bytes w b1 r1 q9) (hq2 : Bytes w b2 r2 qa) (hk1 : IsKey w kp i1) (hk2 : IsKey w kq i2) :
    Calls Try.prog 10 #[.agg #[.int .i64 p0, .int .i64 p1, .bool p2, .bool p3, .int .i64 p4, .int .i64 p5, .int .i64 p6, .int .u32 p7, .int .u32 p8, .slice a1 n1 c1, .slice a2 n2 c2, .int .i64 m0, .int .i64 m1, .int .i64 m2, .int .i64 m3, .int .i64 m4, .int .i64 m5, .pointer kp], .agg #[.int .i64 q0, .int .i64 q1, .bool q2, .bool q3, .int .i64 q4, .int .i64 q5, .int .i64 q6, .int .u32 q7, .int .u32 q8, .slice b1 r1 d1, .slice b2 r2 d2, .int .i64 o0, .int .i64 o1, .int .i64 o2, .int .i64 o3, .int .i64 o4, .int .i64 o5, .pointer kq]] w fun e w' => e = .returned (.bool (sameP ⟨⟨p0, p1, p2, p3, p4, p5, p6, p7, p8, p9, pa⟩, m0, m1, m2, m3, m4, m5, i1⟩ ⟨⟨q0, q1, q2, q3, q4, q5, q6, q7, q8, q9, qa⟩, o0, o1, o2, o3, o4, o5, i2⟩)) ∧ Ext w w' := by
  obtain ⟨H1, H2⟩ := two_new w (.cells #[.int .i64 p0, .int .i64 p1, .bool p2, .bool p3, .int .i64 p4, .int .i64 p5, .int .i64 p6, .int .u32 p7, .int .u32 p8, .slice a1 n1 c1, .slice a2 n2 c2, .int .i64 m0, .int .i64 m1, .int .i64 m2, .int .i64 m3, .int .i64 m4, .int .i64 m5, .pointer kp] 28) (.cells #[.int .i64 q0, .int .i64 q1, .bool q2, .bool q3, .int .i64 q4, .int .i64 q5, .int .i64 q6, .int .u32 q7, .int .u32 q8, .slice b1 r1 d1, .slice b2 r2 d2, .int .i64 o0, .int .i64 o1, .int .i64 o2, .int .i64 o3, .int .i64 o4, .int .i64 o5, .pointer kq] 28)
  have hx0 := ((Ext.refl w).alloc (.cells #[.int .i64 p0, .int .i64 p1, .bool p2, .bool p3, .int .i64 p4, .int .i64 p5, .int .i64 p6, .int .u32 p7, .int .u32 p8, .slice a1 n1 c1, .slice a2 n2 c2, .int .i64 m0, .int .i64 m1, .int .i64 m2, .int .i64 m3, .int .i64 m4, .int .i64 m5, .pointer kp] 28)).alloc (.cells #[.int .i64 q0, .int .i64 q1, .bool q2, .bool q3, .int .i64 q4, .int .i64 q5, .int .i64 q6, .int .u32 q7, .int .u32 q8, .slice b1 r1 d1, .slice b2 r2 d2, .int .i64 o0, .int .i64 o1, .int .i64 o2, .int .i64 o3, .int .i64 o4, .int .i64 o5, .pointer kq] 28)
  have cS := fun w h1 h2 h3 h4 => refSame_any ⟨p0, p1, p2, p3, p4, p5, p6, p7, p8, p9, pa⟩ ⟨q0, q1, q2, q3, q4, q5, q6, q7, q8, q9, qa⟩ a1 n1 c1 a2 n2 c2 b1 r1 d1 b2 r2 d2 w h1 h2 h3 h4
  obtain ⟨R, hR⟩ : ∃ R, sameP ⟨⟨p0, p1, p2, p3, p4, p5, p6, p7, p8, p9, pa⟩, m0, m1, m2, m3, m4, m5, i1⟩ ⟨⟨q0, q1, q2, q3, q4, q5, q6, q7, q8, q9, qa⟩, o0, o1, o2, o3, o4, o5, i2⟩ = R := ⟨_, rfl⟩
  have HR : Hid ((sameV ⟨p0, p1, p2, p3, p4, p5, p6, p7, p8, p9, pa⟩ ⟨q0, q1, q2, q3, q4, q5, q6, q7, q8, q9, qa⟩ && ((m0 == o0 && (m1 == o1 && (m2 == o2 && (m3 == o3 && (m4 == o4 && m5 == o5))))) && innerSame i1 i2)) = R) := hR
  rw [hR]
  clear hR
  generalize sameV ⟨p0, p1, p2, p3, p4, p5, p6, p7, p8, p9, pa⟩ ⟨q0, q1, q2, q3, q4, q5, q6, q7, q8, q9, qa⟩ = S at *
  dsimp only at cS
  go_enter Try.func10, Try.ntmps10
  iterate 9 (first | go_values | go_skip | go_guarded | go_step | go_upon | go_in | go_simp)
  generalize ((w.alloc (.cells #[.int .i64 p0, .int .i64 p1, .bool p2, .bool p3, .int .i64 p4, .int .i64 p5, .int .i64 p6, .int .u32 p7, .int .u32 p8, .slice a1 n1 c1, .slice a2 n2 c2, .int .i64 m0, .int .i64 m1, .int .i64 m2, .int .i64 m3, .int .i64 m4, .int .i64 m5, .pointer kp] 28)).alloc (.cells #[.int .i64 q0, .int .i64 q1, .bool q2, .bool q3, .int .i64 q4, .int .i64 q5, .int .i64 q6, .int .u32 q7, .int .u32 q8, .slice b1 r1 d1, .slice b2 r2 d2, .int .i64 o0, .int .i64 o1, .int .i64 o2, .int .i64 o3, .int .i64 o4, .int .i64 o5, .pointer kq] 28)) = W at *
  have e1 := hp1.below hx0
  have e2 := hp2.below hx0
  have e3 := hq1.below hx0
  have e4 := hq2.below hx0
  have K1 : Hid _ := H1
  have K2 : Hid _ := H2
  go_wp2
  have hVe : Ext W W.drew := (Ext.refl W).drew
  have t1 := hVe.heap H1
  have t2 := hVe.heap H2
  have hk1' := IsKey.later (o := i1) hk1 (hx0.trans hVe)
  have hk2' := IsKey.later (o := i2) hk2 (hx0.trans hVe)
  have HVe : Hid _ := hVe
  clear hk1 hk2 hp1 hp2 hq1 hq2
  have eg := key_guard
  have HRT := HR
  cases i1 with
  | none =>
    obtain rfl : kp = none := hk1'
    cases i2 with
    | none =>
      obtain rfl : kq = none := hk2'
      have HR : Hid ((S && ((m0 == o0 && (m1 == o1 && (m2 == o2 && (m3 == o3 && (m4 == o4 && m5 == o5))))) && true)) = R) := HR.out
      obtain ⟨x0, x1, x2, x3, x4, x5, x6, x7, x8, x9, xa, xb, xc, xd, xe, xf, xg, xh⟩ := box_pkt (x := w.heap.size + 2) H1 (by omega) W (ExtX.refl _ _)
      obtain ⟨y0, y1, y2, y3, y4, y5, y6, y7, y8, y9, ya, yb, yc, yd, ye, yf, yg, yh⟩ := box_pkt (x := w.heap.size + 2) H2 (by omega) W (ExtX.refl _ _)
      clear t1 t2 H1 H2
      go_region
      generalize W.drew = V at *
      clear x0 x1 x2 x3 x4 x5 x6 x7 x8 x9 xa xb xc xd xe xf xg xh y0 y1 y2 y3 y4 y5 y6 y7 y8 y9 ya yb yc yd ye yf yg yh
      obtain ⟨x0, x1, x2, x3, x4, x5, x6, x7, x8, x9, xa, xb, xc, xd, xe, xf, xg, xh⟩ := box_pkt (x := w.heap.size + 2) (hVe.heap K1.out) (by omega) V (ExtX.refl _ _)
      obtain ⟨y0, y1, y2, y3, y4, y5, y6, y7, y8, y9, ya, yb, yc, yd, ye, yf, yg, yh⟩ := box_pkt (x := w.heap.size + 2) (hVe.heap K2.out) (by omega) V (ExtX.refl _ _)
      go_wp2_with (first
        | (go_at_call 33; refine (cS _ (e1.below hVe) (e2.below hVe) (e3.below hVe) (e4.below hVe)).mono ?_; rintro e w1 ⟨rfl, hx1⟩; clear x0 x1 x2 x3 x4 x5 x6 x7 x8 x9 xa xb xc xd xe xf xg xh y0 y1 y2 y3 y4 y5 y6 y7 y8 y9 ya yb yc yd ye yf yg yh; obtain ⟨x0, x1, x2, x3, x4, x5, x6, x7, x8, x9, xa, xb, xc, xd, xe, xf, xg, xh⟩ := box_pkt (x := w.heap.size + 2) ((hVe.trans hx1).heap K1.out) (by omega) w1 (ExtX.refl _ _); obtain ⟨y0, y1, y2, y3, y4, y5, y6, y7, y8, y9, ya, yb, yc, yd, ye, yf, yg, yh⟩ := box_pkt (x := w.heap.size + 2) ((hVe.trans hx1).heap K2.out) (by omega) w1 (ExtX.refl _ _); have hX1 := (hx0.trans hVe).trans hx1))
      all_goals
        go_ret
        refine ⟨congrArg (fun b => Ending.returned (Value.bool b)) (?_ : _ = R), hX1⟩
        rw [← HR.out]
        simp_all
    | some k2 =>
      obtain ⟨kb, ko, rfl, kk⟩ := hk2'
      have HR : Hid ((S && ((m0 == o0 && (m1 == o1 && (m2 == o2 && (m3 == o3 && (m4 == o4 && m5 == o5))))) && false)) = R) := HR.out
      obtain ⟨x0, x1, x2, x3, x4, x5, x6, x7, x8, x9, xa, xb, xc, xd, xe, xf, xg, xh⟩ := box_pkt (x := w.heap.size + 2) H1 (by omega) W (ExtX.refl _ _)
      obtain ⟨y0, y1, y2, y3, y4, y5, y6, y7, y8, y9, ya, yb, yc, yd, ye, yf, yg, yh⟩ := box_pkt (x := w.heap.size + 2) H2 (by omega) W (ExtX.refl _ _)
      clear t1 t2 H1 H2
      go_region
      go_wp2
      go_ret
      refine ⟨congrArg (fun b => Ending.returned (Value.bool b)) (?_ : _ = R), hx0.trans hVe⟩
      rw [← HR.out]
      simp
  | some k1 =>
    obtain ⟨kb, ko, rfl, kk⟩ := hk1'
    cases i2 with
    | none =>
      obtain rfl : kq = none := hk2'
      have HR : Hid ((S && ((m0 == o0 && (m1 == o1 && (m2 == o2 && (m3 == o3 && (m4 == o4 && m5 == o5))))) && false)) = R) := HR.out
      obtain ⟨x0, x1, x2, x3, x4, x5, x6, x7, x8, x9, xa, xb, xc, xd, xe, xf, xg, xh⟩ := box_pkt (x := w.heap.size + 2) H1 (by omega) W (ExtX.refl _ _)
      obtain ⟨y0, y1, y2, y3, y4, y5, y6, y7, y8, y9, ya, yb, yc, yd, ye, yf, yg, yh⟩ := box_pkt (x := w.heap.size + 2) H2 (by omega) W (ExtX.refl _ _)
      clear t1 t2 H1 H2
      go_region
      go_wp2
      go_ret
      refine ⟨congrArg (fun b => Ending.returned (Value.bool b)) (?_ : _ = R), hx0.trans hVe⟩
      rw [← HR.out]
      simp
    | some k2 =>
      obtain ⟨lb, lo, rfl, ll⟩ := hk2'
      have nq := fun w => neq_key k1 k2 w
      have HR : Hid ((S && ((m0 == o0 && (m1 == o1 && (m2 == o2 && (m3 == o3 && (m4 == o4 && m5 == o5))))) && keySame k1 k2)) = R) := HR.out
      obtain ⟨v0, v1, v2, v3, v4⟩ := key_reads kk
      obtain ⟨u0, u1, u2, u3, u4⟩ := key_reads ll
      generalize keySame k1 k2 = I at *
      obtain ⟨s0, s1, s2, s3, s4⟩ := k1
      obtain ⟨t0, t1', t2', t3, t4⟩ := k2
      dsimp only at *
      clear kk ll
      refine wp_region_eager [(0, false), (1, false), (2, false), (3, false), (4, false), (5, false), (6, false), (7, false), (8, false), (9, false), (10, false), (11, false), (12, false), (13, false), (14, false), (15, false), (16, false), (17, false), (18, false), (19, false), (20, false), (21, false), (22, false)] (by kernel_rfl) (by kernel_rfl) rfl (by kernel_rfl) (fun _ _ _ _ _ h => h) ?_
      generalize W.drew = V at *
      have z1 : ∀ w', Ext V w' → w'.cell? ⟨w.heap.size, 17, none⟩ = some (.pointer (some ⟨kb, ko, none⟩)) := fun w' h => heap_cell (k := 17) (h.heap t1)
      have z2 : ∀ w', Ext V w' → w'.cell? ⟨w.heap.size + 1, 17, none⟩ = some (.pointer (some ⟨lb, lo, none⟩)) := fun w' h => heap_cell (k := 17) (h.heap t2)
      cases I with
      | false =>
        clear t1 t2 H1 H2
        iterate 23 (refine wpE_read (v := ?_) rfl (by rfl) ?_ ?_; rotate_left; (focus (intro w' hx; go_simp; first | done | with_reducible rfl)); simp only [Act.put, List.setIfInBounds_toArray, List.set_cons_zero, List.set_cons_succ])
        refine wpE_done ?_
        go_wp2
        go_ret
        refine ⟨congrArg (fun b => Ending.returned (Value.bool b)) (?_ : _ = R), hx0.trans hVe⟩
        rw [← HR.out]
        simp
      | true =>
        have T1 : Hid _ := t1
        have T2 : Hid _ := t2
        clear t1 t2 H1 H2
        iterate 23 (refine wpE_read (v := ?_) rfl (by rfl) ?_ ?_; rotate_left; (focus (intro w' hx; go_simp; first | done | with_reducible rfl)); simp only [Act.put, List.setIfInBounds_toArray, List.set_cons_zero, List.set_cons_succ])
        refine wpE_done ?_
        clear v0 v1 v2 v3 v4 u0 u1 u2 u3 u4
        obtain ⟨x0, x1, x2, x3, x4, x5, x6, x7, x8, x9, xa, xb, xc, xd, xe, xf, xg, xh⟩ := box_pkt (x := w.heap.size + 2) T1.out (by omega) V (ExtX.refl _ _)
        obtain ⟨y0, y1, y2, y3, y4, y5, y6, y7, y8, y9, ya, yb, yc, yd, ye, yf, yg, yh⟩ := box_pkt (x := w.heap.size + 2) T2.out (by omega) V (ExtX.refl _ _)
        go_wp2_with (first
          | (go_at_call 33; refine (cS _ (e1.below hVe) (e2.below hVe) (e3.below hVe) (e4.below hVe)).mono ?_; rintro e w1 ⟨rfl, hx1⟩; clear x0 x1 x2 x3 x4 x5 x6 x7 x8 x9 xa xb xc xd xe xf xg xh y0 y1 y2 y3 y4 y5 y6 y7 y8 y9 ya yb yc yd ye yf yg yh; obtain ⟨x0, x1, x2, x3, x4, x5, x6, x7, x8, x9, xa, xb, xc, xd, xe, xf, xg, xh⟩ := box_pkt (x := w.heap.size + 2) ((hVe.trans hx1).heap K1.out) (by omega) w1 (ExtX.refl _ _); obtain ⟨y0, y1, y2, y3, y4, y5, y6, y7, y8, y9, ya, yb, yc, yd, ye, yf, yg, yh⟩ := box_pkt (x := w.heap.size + 2) ((hVe.trans hx1).heap K2.out) (by omega) w1 (ExtX.refl _ _); have hX1 := (hx0.trans hVe).trans hx1))
        all_goals
          go_ret
          refine ⟨congrArg (fun b => Ending.returned (Value.bool b)) (?_ : _ = R), hX1⟩
          rw [← HR.out]
          simp_all

/-- The document's Same, of any two. -/
theorem refPackSame_any (v1 v2 : Value) (p q : PKTv) (w : World) (h1 : IsPkt w v1 p) (h2 : IsPkt w v2 q) : Calls Try.prog 10 #[v1, v2] w fun e w' => e = .returned (.bool (sameP p q)) ∧ Ext w w' := by
  obtain ⟨a1, n1, c1, a2, n2, c2, kp, rfl, x1, x2, x3⟩ := h1
  obtain ⟨b1, r1, d1, b2, r2, d2, kq, rfl, y1, y2, y3⟩ := h2
  obtain ⟨⟨p0, p1, p2, p3, p4, p5, p6, p7, p8, p9, pa⟩, m0, m1, m2, m3, m4, m5, i1⟩ := p
  obtain ⟨⟨q0, q1, q2, q3, q4, q5, q6, q7, q8, q9, qa⟩, o0, o1, o2, o3, o4, o5, i2⟩ := q
  exact refPackSame0 p0 p1 p2 p3 p4 p5 p6 p7 p8 p9 pa a1 n1 c1 a2 n2 c2 m0 m1 m2 m3 m4 m5 kp i1 q0 q1 q2 q3 q4 q5 q6 q7 q8 q9 qa b1 r1 d1 b2 r2 d2 o0 o1 o2 o3 o4 o5 kq i2 w x1 x2 y1 y2 x3 y3

end Go.Proofs.Ytkagkfbdpiblkaa.Pack
