/- What icmp.Same answers of any two messages (chapter 7). -/
import Derived.Test.YtllnphbeoaobdaaIcmpP
import Derived.Test.YtllnphbeoaobdaaBoxMsg
namespace Go.Proofs.Ytllnphbeoaobdaa.Icmp
open Go.RowKit
set_option linter.unusedVariables false

set_option maxHeartbeats 4000000 in
theorem same_any (p q : MSGv) (a1 : Option Addr) (n1 c1 : Nat) (b1 : Option Addr) (m1 d1 : Nat) (w : World)
    (hp1 : Bytes w a1 n1 p.data) (hq1 : Bytes w b1 m1 q.data) :
    Calls Try.prog 13 #[.agg #[.int .i64 p.type, .int .i64 p.code, .int .u32 p.rest, .slice a1 n1 c1], .agg #[.int .i64 q.type, .int .i64 q.code, .int .u32 q.rest, .slice b1 m1 d1]] w fun e w' => e = .returned (.bool (sameV p q)) ∧ Ext w w' := by
  obtain ⟨p0, p1, p2, p3⟩ := p
  obtain ⟨q0, q1, q2, q3⟩ := q
  dsimp only at *
  have hx : Ext w ((w.alloc (.cells #[.int .i64 p0, .int .i64 p1, .int .u32 p2, .slice a1 n1 c1] 25)).alloc (.cells #[.int .i64 q0, .int .i64 q1, .int .u32 q2, .slice b1 m1 d1] 25)) := ((Ext.refl w).alloc _).alloc _
  have hA : ((w.alloc (.cells #[.int .i64 p0, .int .i64 p1, .int .u32 p2, .slice a1 n1 c1] 25)).alloc (.cells #[.int .i64 q0, .int .i64 q1, .int .u32 q2, .slice b1 m1 d1] 25)).heap[w.heap.size]? = some (.cells #[.int .i64 p0, .int .i64 p1, .int .u32 p2, .slice a1 n1 c1] 25 (0, 0)) := ((Ext.refl (w.alloc (.cells #[.int .i64 p0, .int .i64 p1, .int .u32 p2, .slice a1 n1 c1] 25))).alloc _).heap (heap_new' w _)
  have hB : ((w.alloc (.cells #[.int .i64 p0, .int .i64 p1, .int .u32 p2, .slice a1 n1 c1] 25)).alloc (.cells #[.int .i64 q0, .int .i64 q1, .int .u32 q2, .slice b1 m1 d1] 25)).heap[w.heap.size + 1]? = some (.cells #[.int .i64 q0, .int .i64 q1, .int .u32 q2, .slice b1 m1 d1] 25 (0, 0)) := by
    have := heap_new' (w.alloc (.cells #[.int .i64 p0, .int .i64 p1, .int .u32 p2, .slice a1 n1 c1] 25)) (.cells #[.int .i64 q0, .int .i64 q1, .int .u32 q2, .slice b1 m1 d1] 25)
    rwa [show (w.alloc (.cells #[.int .i64 p0, .int .i64 p1, .int .u32 p2, .slice a1 n1 c1] 25)).heap.size = w.heap.size + 1 by simp] at this
  obtain ⟨x0, x1, x2, x3⟩ := box_msg (x := w.heap.size + 2) hA (by omega) _ (ExtX.refl _ _)
  obtain ⟨y0, y1, y2, y3⟩ := box_msg (x := w.heap.size + 2) hB (by omega) _ (ExtX.refl _ _)
  clear hA hB
  obtain ⟨R, hR⟩ : ∃ R, sameV ⟨p0, p1, p2, p3⟩ ⟨q0, q1, q2, q3⟩ = R := ⟨_, rfl⟩
  have HR : Hid ((p0 == q0 && p1 == q1 && p2 == q2 && (strOfNums p3).toList == (strOfNums q3).toList) = R) := hR
  rw [hR]
  clear hR
  have k0p := hp1.below hx
  have k0q := hq1.below hx
  have c1' := fun w h h' => equal_any a1 n1 c1 b1 m1 d1 p3 q3 w h h'
  generalize ((strOfNums p3).toList == (strOfNums q3).toList) = E1 at *
  clear hp1 hq1
  go_enter Try.func13, Try.ntmps13
  iterate 9 (first | go_values | go_skip | go_guarded | go_step | go_upon | go_in | go_simp)
  generalize ((w.alloc (.cells #[.int .i64 p0, .int .i64 p1, .int .u32 p2, .slice a1 n1 c1] 25)).alloc (.cells #[.int .i64 q0, .int .i64 q1, .int .u32 q2, .slice b1 m1 d1] 25)) = W at *
  go_wp2_with (first | (go_at_call 33; refine (c1' _ k0p k0q).mono ?_; rintro e w1 ⟨rfl, rfl⟩))
  all_goals
    go_ret
    refine ⟨congrArg (fun b => Ending.returned (Value.bool b)) (?_ : _ = R), hx⟩
    rw [← HR.out]
    simp_all

end Go.Proofs.Ytllnphbeoaobdaa.Icmp
