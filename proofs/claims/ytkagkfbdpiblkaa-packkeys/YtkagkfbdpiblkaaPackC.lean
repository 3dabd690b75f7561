/- Two of what is looked at, field by field (chapter 8): pack.Same. -/
import Derived.Test.YtkagkfbdpiblkaaPackB
import Derived.Test.YtkagkfbdpiblkaaPack7
import Derived.Test.YtkagkfbdpiblkaaIp2
namespace Go.Proofs.Ytkagkfbdpiblkaa.Pack
open Go.RowKit
set_option linter.unusedVariables false
set_option maxRecDepth 100000

set_option maxHeartbeats 8000000 in
theorem packSame0 (p0 p1 : Int) (p2 p3 : Bool) (p4 p5 p6 p7 p8 : Int) (p9 pa : List Int) (a1 : Option Addr) (n1 c1 : Nat) (a2 : Option Addr) (n2 c2 : Nat) (m0 m1 m2 m3 m4 m5 : Int) (kp : Option Addr) (i1 : Option KEYv) (q0 q1 : Int) (q2 q3 : Bool) (q4 q5 q6 q7 q8 : Int) (q9 qa : List Int) (b1 : Option Addr) (r1 d1 : Nat) (b2 : Option Addr) (r2 d2 : Nat) (o0 o1 o2 o3 o4 o5 : Int) (kq : Option Addr) (i2 : Option KEYv) (w : World)
    (hp1 : Bytes w a1 n1 p9) (hp2 : Bytes w a2 n2 pa) (hq1 : Bytes w b1 r1 q9) (hq2 : Bytes w b2 r2 qa) (hk1 : IsKey w kp i1) (hk2 : IsKey w kq i2) :
    Calls Try.prog 19 #[.agg #[.int .i64 p0, .int .i64 p1, .bool p2, .bool p3, .int .i64 p4, .int .i64 p5, .int .i64 p6, .int .u32 p7, .int .u32 p8, .slice a1 n1 c1, .slice a2 n2 c2, .int .i64 m0, .int .i64 m1, .int .i64 m2, .int .i64 m3, .int .i64 m4, .int .i64 m5, .pointer kp], .agg #[.int .i64 q0, .int .i64 q1, .bool q2, .bool q3, .int .i64 q4, .int .i64 q5, .int .i64 q6, .int .u32 q7, .int .u32 q8, .slice b1 r1 d1, .slice b2 r2 d2, .int .i64 o0, .int .i64 o1, .int .i64 o2, .int .i64 o3, .int .i64 o4, .int .i64 o5, .pointer kq]] w fun e w' => e = .returned (.bool (sameP ⟨⟨p0, p1, p2, p3, p4, p5, p6, p7, p8, p9, pa⟩, m0, m1, m2, m3, m4, m5, i1⟩ ⟨⟨q0, q1, q2, q3, q4, q5, q6, q7, q8, q9, qa⟩, o0, o1, o2, o3, o4, o5, i2⟩)) ∧ Ext w w' := by
  obtain ⟨H1, H2⟩ := two_new w (.cells #[.int .i64 p0, .int .i64 p1, .bool p2, .bool p3, .int .i64 p4, .int .i64 p5, .int .i64 p6, .int .u32 p7, .int .u32 p8, .slice a1 n1 c1, .slice a2 n2 c2, .int .i64 m0, .int .i64 m1, .int .i64 m2, .int .i64 m3, .int .i64 m4, .int .i64 m5, .pointer kp] 28) (.cells #[.int .i64 q0, .int .i64 q1, .bool q2, .bool q3, .int .i64 q4, .int .i64 q5, .int .i64 q6, .int .u32 q7, .int .u32 q8, .slice b1 r1 d1, .slice b2 r2 d2, .int .i64 o0, .int .i64 o1, .int .i64 o2, .int .i64 o3, .int .i64 o4, .int .i64 o5, .pointer kq] 28)
  have hx0 := ((Ext.refl w).alloc (.cells #[.int .i64 p0, .int .i64 p1, .bool p2, .bool p3, .int .i64 p4, .int .i64 p5, .int .i64 p6, .int .u32 p7, .int .u32 p8, .slice a1 n1 c1, .slice a2 n2 c2, .int .i64 m0, .int .i64 m1, .int .i64 m2, .int .i64 m3, .int .i64 m4, .int .i64 m5, .pointer kp] 28)).alloc (.cells #[.int .i64 q0, .int .i64 q1, .bool q2, .bool q3, .int .i64 q4, .int .i64 q5, .int .i64 q6, .int .u32 q7, .int .u32 q8, .slice b1 r1 d1, .slice b2 r2 d2, .int .i64 o0, .int .i64 o1, .int .i64 o2, .int .i64 o3, .int .i64 o4, .int .i64 o5, .pointer kq] 28)
  have cS := fun w h1 h2 h3 h4 => same_any ⟨p0, p1, p2, p3, p4, p5, p6, p7, p8, p9, pa⟩ ⟨q0, q1, q2, q3, q4, q5, q6, q7, q8, q9, qa⟩ a1 n1 c1 a2 n2 c2 b1 r1 d1 b2 r2 d2 w h1 h2 h3 h4
  obtain ⟨R, hR⟩ : ∃ R, sameP ⟨⟨p0, p1, p2, p3, p4, p5, p6, p7, p8, p9, pa⟩, m0, m1, m2, m3, m4, m5, i1⟩ ⟨⟨q0, q1, q2, q3, q4, q5, q6, q7, q8, q9, qa⟩, o0, o1, o2, o3, o4, o5, i2⟩ = R := ⟨_, rfl⟩
  have HR : Hid ((sameV ⟨p0, p1, p2, p3, p4, p5, p6, p7, p8, p9, pa⟩ ⟨q0, q1, q2, q3, q4, q5, q6, q7, q8, q9, qa⟩ && ((m0 == o0 && (m1 == o1 && (m2 == o2 && (m3 == o3 && (m4 == o4 && m5 == o5))))) && innerSame i1 i2)) = R) := hR
  rw [hR]
  clear hR
  generalize sameV ⟨p0, p1, p2, p3, p4, p5, p6, p7, p8, p9, pa⟩ ⟨q0, q1, q2, q3, q4, q5, q6, q7, q8, q9, qa⟩ = S at *
  dsimp only at cS
  have cI := fun w h1 h2 => sameInner_any kp kq i1 i2 w h1 h2
  generalize innerSame i1 i2 = I at *
  go_enter Try.func19, Try.ntmps19
  iterate 9 (first | go_values | go_skip | go_guarded | go_step | go_upon | go_in | go_simp)
  generalize ((w.alloc (.cells #[.int .i64 p0, .int .i64 p1, .bool p2, .bool p3, .int .i64 p4, .int .i64 p5, .int .i64 p6, .int .u32 p7, .int .u32 p8, .slice a1 n1 c1, .slice a2 n2 c2, .int .i64 m0, .int .i64 m1, .int .i64 m2, .int .i64 m3, .int .i64 m4, .int .i64 m5, .pointer kp] 28)).alloc (.cells #[.int .i64 q0, .int .i64 q1, .bool q2, .bool q3, .int .i64 q4, .int .i64 q5, .int .i64 q6, .int .u32 q7, .int .u32 q8, .slice b1 r1 d1, .slice b2 r2 d2, .int .i64 o0, .int .i64 o1, .int .i64 o2, .int .i64 o3, .int .i64 o4, .int .i64 o5, .pointer kq] 28)) = W at *
  have e1 := hp1.below hx0
  have e2 := hp2.below hx0
  have e3 := hq1.below hx0
  have e4 := hq2.below hx0
  have K1 : Hid _ := H1
  have K2 : Hid _ := H2
  obtain ⟨x0, x1, x2, x3, x4, x5, x6, x7, x8, x9, xa, xb, xc, xd, xe, xf, xg, xh⟩ := box_pkt (x := w.heap.size + 2) H1 (by omega) W (ExtX.refl _ _)
  obtain ⟨y0, y1, y2, y3, y4, y5, y6, y7, y8, y9, ya, yb, yc, yd, ye, yf, yg, yh⟩ := box_pkt (x := w.heap.size + 2) H2 (by omega) W (ExtX.refl _ _)
  have HK1 : Hid _ := hk1
  have HK2 : Hid _ := hk2
  clear H1 H2 hp1 hp2 hq1 hq2 hk1 hk2
  go_wp2_with (first
    | (go_at_call 34; refine (cS _ e1 e2 e3 e4).mono ?_; rintro e w1 ⟨rfl, hx1⟩; clear x0 x1 x2 x3 x4 x5 x6 x7 x8 x9 xa xb xc xd xe xf xg xh y0 y1 y2 y3 y4 y5 y6 y7 y8 y9 ya yb yc yd ye yf yg yh; obtain ⟨x0, x1, x2, x3, x4, x5, x6, x7, x8, x9, xa, xb, xc, xd, xe, xf, xg, xh⟩ := box_pkt (x := w.heap.size + 2) (hx1.heap K1.out) (by omega) w1 (ExtX.refl _ _); obtain ⟨y0, y1, y2, y3, y4, y5, y6, y7, y8, y9, ya, yb, yc, yd, ye, yf, yg, yh⟩ := box_pkt (x := w.heap.size + 2) (hx1.heap K2.out) (by omega) w1 (ExtX.refl _ _); have hX1 := hx0.trans hx1)
    | (go_at_call 35; refine (cI _ (IsKey.later (o := i1) HK1.out hX1) (IsKey.later (o := i2) HK2.out hX1)).mono ?_; rintro e w2 ⟨rfl, hx2⟩))
  all_goals
    go_ret
    refine ⟨congrArg (fun b => Ending.returned (Value.bool b)) (?_ : _ = R), (by first | exact hX1.trans hx2 | exact hX1)⟩
    rw [← HR.out]
    simp_all

/-- pack.Same, of any two. -/
theorem packSame_any (v1 v2 : Value) (p q : PKTv) (w : World) (h1 : IsPkt w v1 p) (h2 : IsPkt w v2 q) : Calls Try.prog 19 #[v1, v2] w fun e w' => e = .returned (.bool (sameP p q)) ∧ Ext w w' := by
  obtain ⟨a1, n1, c1, a2, n2, c2, kp, rfl, x1, x2, x3⟩ := h1
  obtain ⟨b1, r1, d1, b2, r2, d2, kq, rfl, y1, y2, y3⟩ := h2
  obtain ⟨⟨p0, p1, p2, p3, p4, p5, p6, p7, p8, p9, pa⟩, m0, m1, m2, m3, m4, m5, i1⟩ := p
  obtain ⟨⟨q0, q1, q2, q3, q4, q5, q6, q7, q8, q9, qa⟩, o0, o1, o2, o3, o4, o5, i2⟩ := q
  exact packSame0 p0 p1 p2 p3 p4 p5 p6 p7 p8 p9 pa a1 n1 c1 a2 n2 c2 m0 m1 m2 m3 m4 m5 kp i1 q0 q1 q2 q3 q4 q5 q6 q7 q8 q9 qa b1 r1 d1 b2 r2 d2 o0 o1 o2 o3 o4 o5 kq i2 w x1 x2 y1 y2 x3 y3

end Go.Proofs.Ytkagkfbdpiblkaa.Pack
