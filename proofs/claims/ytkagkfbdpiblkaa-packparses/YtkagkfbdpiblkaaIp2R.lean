/- What the document's own Same answers of any two packets (chapter 4). -/
import Derived.Test.YtkagkfbdpiblkaaIp3
namespace Go.Proofs.Ytkagkfbdpiblkaa
open Go.RowKit
set_option linter.unusedVariables false
set_option maxRecDepth 100000

set_option maxHeartbeats 4000000 in
theorem refSame_any (p q : IPv) (a1 : Option Addr) (n1 c1 : Nat) (a2 : Option Addr) (n2 c2 : Nat) (b1 : Option Addr) (m1 d1 : Nat) (b2 : Option Addr) (m2 d2 : Nat) (w : World)
    (hp1 : Bytes w a1 n1 p.opts) (hp2 : Bytes w a2 n2 p.data) (hq1 : Bytes w b1 m1 q.opts) (hq2 : Bytes w b2 m2 q.data) :
    Calls Try.prog 33 #[.agg #[.int .i64 p.tos, .int .i64 p.id, .bool p.df, .bool p.mf, .int .i64 p.off, .int .i64 p.ttl, .int .i64 p.proto, .int .u32 p.src, .int .u32 p.dst, .slice a1 n1 c1, .slice a2 n2 c2], .agg #[.int .i64 q.tos, .int .i64 q.id, .bool q.df, .bool q.mf, .int .i64 q.off, .int .i64 q.ttl, .int .i64 q.proto, .int .u32 q.src, .int .u32 q.dst, .slice b1 m1 d1, .slice b2 m2 d2]] w fun e w' => e = .returned (.bool (sameV p q)) ∧ Ext w w' := by
  obtain ⟨p0, p1, p2, p3, p4, p5, p6, p7, p8, p9, pa⟩ := p
  obtain ⟨q0, q1, q2, q3, q4, q5, q6, q7, q8, q9, qa⟩ := q
  dsimp only at *
  have hx : Ext w ((w.alloc (.cells #[.int .i64 p0, .int .i64 p1, .bool p2, .bool p3, .int .i64 p4, .int .i64 p5, .int .i64 p6, .int .u32 p7, .int .u32 p8, .slice a1 n1 c1, .slice a2 n2 c2] 25)).alloc (.cells #[.int .i64 q0, .int .i64 q1, .bool q2, .bool q3, .int .i64 q4, .int .i64 q5, .int .i64 q6, .int .u32 q7, .int .u32 q8, .slice b1 m1 d1, .slice b2 m2 d2] 25)) := ((Ext.refl w).alloc _).alloc _
  have hA : ((w.alloc (.cells #[.int .i64 p0, .int .i64 p1, .bool p2, .bool p3, .int .i64 p4, .int .i64 p5, .int .i64 p6, .int .u32 p7, .int .u32 p8, .slice a1 n1 c1, .slice a2 n2 c2] 25)).alloc (.cells #[.int .i64 q0, .int .i64 q1, .bool q2, .bool q3, .int .i64 q4, .int .i64 q5, .int .i64 q6, .int .u32 q7, .int .u32 q8, .slice b1 m1 d1, .slice b2 m2 d2] 25)).heap[w.heap.size]? = some (.cells #[.int .i64 p0, .int .i64 p1, .bool p2, .bool p3, .int .i64 p4, .int .i64 p5, .int .i64 p6, .int .u32 p7, .int .u32 p8, .slice a1 n1 c1, .slice a2 n2 c2] 25 (0, 0)) := ((Ext.refl (w.alloc (.cells #[.int .i64 p0, .int .i64 p1, .bool p2, .bool p3, .int .i64 p4, .int .i64 p5, .int .i64 p6, .int .u32 p7, .int .u32 p8, .slice a1 n1 c1, .slice a2 n2 c2] 25))).alloc _).heap (heap_new' w _)
  have hB : ((w.alloc (.cells #[.int .i64 p0, .int .i64 p1, .bool p2, .bool p3, .int .i64 p4, .int .i64 p5, .int .i64 p6, .int .u32 p7, .int .u32 p8, .slice a1 n1 c1, .slice a2 n2 c2] 25)).alloc (.cells #[.int .i64 q0, .int .i64 q1, .bool q2, .bool q3, .int .i64 q4, .int .i64 q5, .int .i64 q6, .int .u32 q7, .int .u32 q8, .slice b1 m1 d1, .slice b2 m2 d2] 25)).heap[w.heap.size + 1]? = some (.cells #[.int .i64 q0, .int .i64 q1, .bool q2, .bool q3, .int .i64 q4, .int .i64 q5, .int .i64 q6, .int .u32 q7, .int .u32 q8, .slice b1 m1 d1, .slice b2 m2 d2] 25 (0, 0)) := by
    have := heap_new' (w.alloc (.cells #[.int .i64 p0, .int .i64 p1, .bool p2, .bool p3, .int .i64 p4, .int .i64 p5, .int .i64 p6, .int .u32 p7, .int .u32 p8, .slice a1 n1 c1, .slice a2 n2 c2] 25)) (.cells #[.int .i64 q0, .int .i64 q1, .bool q2, .bool q3, .int .i64 q4, .int .i64 q5, .int .i64 q6, .int .u32 q7, .int .u32 q8, .slice b1 m1 d1, .slice b2 m2 d2] 25)
    rwa [show (w.alloc (.cells #[.int .i64 p0, .int .i64 p1, .bool p2, .bool p3, .int .i64 p4, .int .i64 p5, .int .i64 p6, .int .u32 p7, .int .u32 p8, .slice a1 n1 c1, .slice a2 n2 c2] 25)).heap.size = w.heap.size + 1 by simp] at this
  obtain ⟨x0, x1, x2, x3, x4, x5, x6, x7, x8, x9, xa⟩ := box_ip (x := w.heap.size + 2) hA (by omega) _ (ExtX.refl _ _)
  obtain ⟨y0, y1, y2, y3, y4, y5, y6, y7, y8, y9, ya⟩ := box_ip (x := w.heap.size + 2) hB (by omega) _ (ExtX.refl _ _)
  clear hA hB
  obtain ⟨R, hR⟩ : ∃ R, sameV ⟨p0, p1, p2, p3, p4, p5, p6, p7, p8, p9, pa⟩ ⟨q0, q1, q2, q3, q4, q5, q6, q7, q8, q9, qa⟩ = R := ⟨_, rfl⟩
  have HR : Hid ((p0 == q0 && p1 == q1 && p2 == q2 && p3 == q3 && p4 == q4 && p5 == q5 && p6 == q6 && p7 == q7 && p8 == q8 && ((strOfNums p9).toList == (strOfNums q9).toList && (strOfNums pa).toList == (strOfNums qa).toList)) = R) := hR
  rw [hR]
  clear hR
  have t1 := hp1.conv c1 _ hx
  have t2 := hq1.conv d1 _ hx
  have t3 := hp2.conv c2 _ hx
  have t4 := hq2.conv d2 _ hx
  clear hp1 hp2 hq1 hq2
  generalize strOfNums p9 = s1 at *
  generalize strOfNums q9 = s2 at *
  generalize strOfNums pa = s3 at *
  generalize strOfNums qa = s4 at *
  go_enter Try.func33, Try.ntmps33
  iterate 9 (first | go_values | go_skip | go_guarded | go_step | go_upon | go_in | go_simp)
  generalize ((w.alloc (.cells #[.int .i64 p0, .int .i64 p1, .bool p2, .bool p3, .int .i64 p4, .int .i64 p5, .int .i64 p6, .int .u32 p7, .int .u32 p8, .slice a1 n1 c1, .slice a2 n2 c2] 25)).alloc (.cells #[.int .i64 q0, .int .i64 q1, .bool q2, .bool q3, .int .i64 q4, .int .i64 q5, .int .i64 q6, .int .u32 q7, .int .u32 q8, .slice b1 m1 d1, .slice b2 m2 d2] 25)) = W at *
  go_wp2
  all_goals
    go_ret
    refine ⟨congrArg (fun b => Ending.returned (Value.bool b)) (?_ : _ = R), hx⟩
    rw [← HR.out]
    simp_all

end Go.Proofs.Ytkagkfbdpiblkaa
