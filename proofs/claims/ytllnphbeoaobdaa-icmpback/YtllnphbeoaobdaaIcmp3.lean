/- What icmp.Build answers of any message (chapter 7). -/
import Derived.Test.YtllnphbeoaobdaaIcmp2
import Derived.Test.YtllnphbeoaobdaaBoxMsg
import Derived.Test.YtllnphbeoaobdaaOfL
namespace Go.Proofs.Ytllnphbeoaobdaa.Icmp
open Go.RowKit
set_option linter.unusedVariables false

/-- What Build answers. -/
def BuildAns (w : World) (p : MSGv) (n : Nat) (e : Ending) (w' : World) : Prop := ∃ q c, e = .returned (.tuple #[.slice q n c, .int .i64 0]) ∧
  w'.ownsRow w.heap.size 5 1 (.slice q n c) n ((buildV p).map (Value.int .u8)) ∧ Ext w w'

set_option maxHeartbeats 1000000 in
theorem build_bad (p : MSGv) (a1 : Option Addr) (n1 c1 : Nat) (w : World) (h1 : p.data.length = n1) (hv : isV p = false) :
    Calls Try.prog 10 #[.agg #[.int .i64 p.type, .int .i64 p.code, .int .u32 p.rest, .slice a1 n1 c1]] w fun e w' => e = .returned (.tuple #[.slice none 0 0, .int .i64 1]) ∧ Ext w w' := by
  unfold isV at hv
  rw [decide_eq_false_iff_not, h1] at hv
  obtain ⟨p0, p1, p2, p3⟩ := p
  dsimp only at *
  clear h1
  have hx : Ext w (w.alloc (.cells #[.int .i64 p0, .int .i64 p1, .int .u32 p2, .slice a1 n1 c1] 25)) := (Ext.refl w).alloc _
  have tok1 : Hid True := trivial
  by_cases hA : 0 ≤ p0 ∧ p0 ≤ 255
  · have cA := fun w => byte_is p0 w hA
    by_cases hB : 0 ≤ p1 ∧ p1 ≤ 255
    · have cB := fun w => byte_is p1 w hB
      have hC : 65000 < n1 := by omega
      have hC' : (65000 : Int) < (n1 : Int) := by omega
      clear hv hA hB
      go_enter Try.func10, Try.ntmps10
      go_wp2_with (first
        | (go_at_call 26; clear tok1; refine (cA _).mono ?_; rintro e w1 ⟨rfl, rfl⟩)
        | (go_at_call 26; refine (cB _).mono ?_; rintro e w2 ⟨rfl, rfl⟩))
      go_ret2
      exact ⟨rfl, hx⟩
    · have cB := fun w => byte_not p1 w hB
      clear hv hA hB
      go_enter Try.func10, Try.ntmps10
      go_wp2_with (first
        | (go_at_call 26; clear tok1; refine (cA _).mono ?_; rintro e w1 ⟨rfl, rfl⟩)
        | (go_at_call 26; refine (cB _).mono ?_; rintro e w2 ⟨rfl, rfl⟩))
      go_ret2
      exact ⟨rfl, hx⟩
  · have cA := fun w => byte_not p0 w hA
    clear hv hA
    go_enter Try.func10, Try.ntmps10
    go_wp2_with (go_at_call 26; refine (cA _).mono ?_; rintro e w1 ⟨rfl, rfl⟩)
    go_ret2
    exact ⟨rfl, hx⟩

theorem bytesOk_two {a b : Int} (h1 : 0 ≤ a) (h2 : a ≤ 255) (h3 : 0 ≤ b) (h4 : b ≤ 255) : BytesOk [a, b] := two_ok h1 h2 h3 h4

set_option maxHeartbeats 2000000 in
theorem build_good (p : MSGv) (a1 : Option Addr) (n1 c1 : Nat) (w : World) (h1 : Bytes w a1 n1 p.data) (z1 : a1 = none → c1 = 0)
    (hp : Fits p) (r0 : 0 ≤ p.rest) (r1 : p.rest ≤ 4294967295) (N : Nat) (hN : 8 + n1 = N) : Calls Try.prog 10 #[.agg #[.int .i64 p.type, .int .i64 p.code, .int .u32 p.rest, .slice a1 n1 c1]] w (BuildAns w p N) := by
  have l1 := h1.length
  have hall := hp.all
  rw [l1] at hall
  have f : Fine p := ⟨r0, r1, h1.ok⟩
  have HP : Hid (∀ e w', BuildAns w p N e w' ↔ ∃ q c, e = .returned (.tuple #[.slice q N c, .int .i64 0]) ∧
    w'.ownsRow w.heap.size 5 1 (.slice q N c) N ((buildV p).map (Value.int .u8)) ∧ Ext w w') := fun e w' => Iff.rfl
  generalize BuildAns w p N = Ans at *
  have hck := check_bd f hp
  have HC : Hid (buildV p = [p.type, p.code] ++ ([checkV p / 256 % 256, checkV p % 256] ++ (restV p.rest ++ p.data))) := (rfl : _ = _)
  have HK : Hid (ofV ([p.type, p.code] ++ (restV p.rest ++ p.data)) = checkV p) := (rfl : _ = _)
  have oX : BytesOk ([p.type, p.code] ++ (restV p.rest ++ p.data)) := sumX_ok f hp
  have lX : ([p.type, p.code] ++ (restV p.rest ++ p.data)).length = 6 + n1 := by rw [← l1]; exact sumX_len p
  have lY := build_len p
  rw [l1, hN] at lY
  have c4 := fun w => put32_new p.rest w r0 r1
  have HR : [p.rest / 16777216, p.rest / 65536 % 256, p.rest / 256 % 256, p.rest % 256] = restV p.rest := rfl
  rw [HR] at c4
  obtain ⟨t0, t1, u0, u1, _⟩ := hp
  clear f HR
  generalize checkV p = ck at *
  generalize buildV p = Y at *
  generalize restV p.rest = R at *
  obtain ⟨p0, p1, p2, p3⟩ := p
  dsimp only at *
  have hx0 : Ext w (w.alloc (.cells #[.int .i64 p0, .int .i64 p1, .int .u32 p2, .slice a1 n1 c1] 25)) := (Ext.refl w).alloc _
  obtain ⟨b0, b1, b2, b3⟩ := box_msgE (heap_new' w (.cells #[.int .i64 p0, .int .i64 p1, .int .u32 p2, .slice a1 n1 c1] 25))
  have cA := fun w => byte_is p0 w ⟨t0, t1⟩
  have cB := fun w => byte_is p1 w ⟨u0, u1⟩
  have tok1 : Hid True := trivial
  have hall' : (n1 : Int) ≤ 65000 := by omega
  have v0 : IntKind.u8.wrap p0 = p0 := by rw [IntKind.wrap_u8]; omega
  have v1 : IntKind.u8.wrap p1 = p1 := by rw [IntKind.wrap_u8]; omega
  have hxA : Ext (w.alloc (.cells #[.int .i64 p0, .int .i64 p1, .int .u32 p2, .slice a1 n1 c1] 25)) ((w.alloc (.cells #[.int .i64 p0, .int .i64 p1, .int .u32 p2, .slice a1 n1 c1] 25)).alloc (.cells #[.int .u8 p0, .int .u8 p1] 5)) := (Ext.refl _).alloc _
  have bA : Bytes ((w.alloc (.cells #[.int .i64 p0, .int .i64 p1, .int .u32 p2, .slice a1 n1 c1] 25)).alloc (.cells #[.int .u8 p0, .int .u8 p1] 5)) (some ⟨(w.alloc (.cells #[.int .i64 p0, .int .i64 p1, .int .u32 p2, .slice a1 n1 c1] 25)).heap.size, 0, none⟩) 2 [p0, p1] := Bytes.new _ _ [p0, p1] (two_ok t0 t1 u0 u1) (by simp)
  rw [show (w.alloc (.cells #[.int .i64 p0, .int .i64 p1, .int .u32 p2, .slice a1 n1 c1] 25)).heap.size = w.heap.size + 1 by simp] at bA
  have hxx := Ext.refl (w.alloc (.cells #[.int .i64 p0, .int .i64 p1, .int .u32 p2, .slice a1 n1 c1] 25))
  go_enter Try.func10, Try.ntmps10
  go_wp2_with (first
    | (go_at_call 26; clear tok1; refine (cA _).mono ?_; rintro e w1 ⟨rfl, rfl⟩)
    | (go_at_call 26; refine (cB _).mono ?_; rintro e w2 ⟨rfl, rfl⟩)
    | (go_at_call 27; refine (c4 _).mono ?_; rintro e w4 ⟨q4, rfl, hq4, hx4⟩; have hX4 := hxA.trans hx4; have bA4 := bA.below hx4; have h14 := h1.below (hx0.trans hX4))
    | (go_at_call 29; have hx5 : Ext w4 (w4.alloc (.cells #[.slice (some ⟨w.heap.size + 1, 0, none⟩) 2 2, .slice q4 4 4, .slice a1 n1 c1] 22)) := (Ext.refl _).alloc _; have k1 := bA4.below hx5; have k2 := hq4.below hx5; have k3 := h14.below hx5; have co := ofL_any w4.heap.size 3 [.slice (some ⟨w.heap.size + 1, 0, none⟩) 2 2, .slice q4 4 4, .slice a1 n1 c1] [[p0, p1], R, p3] (w4.alloc (.cells #[.slice (some ⟨w.heap.size + 1, 0, none⟩) 2 2, .slice q4 4 4, .slice a1 n1 c1] 22)) (heap_new' w4 (.cells #[.slice (some ⟨w.heap.size + 1, 0, none⟩) 2 2, .slice q4 4 4, .slice a1 n1 c1] 22)) rfl (by omega) (fun i hi => by
        match i, hi with
        | 0, _ => exact ⟨_, _, _, rfl, k1, by simp⟩
        | 1, _ => exact ⟨_, _, _, rfl, k2, k2.has (by omega) _⟩
        | 2, _ => exact ⟨_, _, _, rfl, k3, z1⟩) ([p0, p1] ++ (R ++ p3)) (6 + n1) (by simp) lX (by omega) oX; rw [HK.out] at co; refine co.mono ?_; clear co; rintro e w6 ⟨rfl, hw6⟩; rw [← hw6] at k1 k2 k3 hx5; have hX6 := hX4.trans hx5; clear hx5 hx4 hw6 bA4 hq4 h14)
    | (go_at_call 28; refine (put16_new _ _ (by omega) (by omega)).mono ?_; rintro e w7 ⟨q7, rfl, hq7, hx7⟩; have hX7 := hX6.trans hx7; replace k1 := k1.below hx7; replace k2 := k2.below hx7; replace k3 := k3.below hx7)
    | (go_at_call 24; have hx8 : Ext w7 (w7.alloc (.cells #[.slice (some ⟨w.heap.size + 1, 0, none⟩) 2 2, .slice q7 2 2, .slice q4 4 4, .slice a1 n1 c1] 22)) := (Ext.refl _).alloc _; replace k1 := k1.below hx8; replace k2 := k2.below hx8; replace k3 := k3.below hx8; have k7 := hq7.below hx8; refine (joinL_own w7.heap.size 4 [.slice (some ⟨w.heap.size + 1, 0, none⟩) 2 2, .slice q7 2 2, .slice q4 4 4, .slice a1 n1 c1] [[p0, p1], [ck / 256 % 256, ck % 256], R, p3] (w7.alloc (.cells #[.slice (some ⟨w.heap.size + 1, 0, none⟩) 2 2, .slice q7 2 2, .slice q4 4 4, .slice a1 n1 c1] 22)) (heap_new' w7 (.cells #[.slice (some ⟨w.heap.size + 1, 0, none⟩) 2 2, .slice q7 2 2, .slice q4 4 4, .slice a1 n1 c1] 22)) rfl (by omega) (fun i hi => by
        match i, hi with
        | 0, _ => exact ⟨_, _, _, rfl, k1, by simp⟩
        | 1, _ => exact ⟨_, _, _, rfl, k7, k7.has (by omega) _⟩
        | 2, _ => exact ⟨_, _, _, rfl, k2, k2.has (by omega) _⟩
        | 3, _ => exact ⟨_, _, _, rfl, k3, z1⟩) Y N (by rw [HC.out]; simp) lY (by omega)).mono ?_; rintro e w9 ⟨qY, dY, rfl, hoY, hx9⟩; have hX8 := hx0.trans (hX7.trans hx8); clear k1 k2 k3 k7))
  exact (HP.out _ _).2 ⟨qY, dY, rfl, owns_base hoY hX8.size, hX8.trans hx9⟩

end Go.Proofs.Ytllnphbeoaobdaa.Icmp
