/- What the document's own Build answers of any message (chapter 7). -/
import Derived.Test.YtkagkfbdpiblkaaIcmpP
import Derived.Test.YtkagkfbdpiblkaaBoxMsg
import Derived.Test.YtkagkfbdpiblkaaRef2
namespace Go.Proofs.Ytkagkfbdpiblkaa.Icmp
open Go.RowKit
set_option linter.unusedVariables false

/-- What the document's own Build answers. -/
def RefBuildAns (w : World) (p : MSGv) (n : Nat) (e : Ending) (w' : World) : Prop := ∃ q c, e = .returned (.tuple #[.slice q n c, .int .i64 0]) ∧ Bytes w' q n (buildV p) ∧ Ext w w'

/-- The same, as a row of the caller's own. -/
def RefBuildOwn (w : World) (p : MSGv) (n : Nat) (e : Ending) (w' : World) : Prop := ∃ q c, e = .returned (.tuple #[.slice q n c, .int .i64 0]) ∧ w'.ownsRow w.heap.size 5 1 (.slice q n c) n ((buildV p).map (Value.int .u8)) ∧ Ext w w'

set_option maxHeartbeats 1000000 in
theorem refBuild_bad (p : MSGv) (a1 : Option Addr) (n1 c1 : Nat) (w : World) (h1 : p.data.length = n1) (hv : isV p = false) :
    Calls Try.prog 22 #[.agg #[.int .i64 p.type, .int .i64 p.code, .int .u32 p.rest, .slice a1 n1 c1]] w fun e w' => e = .returned (.tuple #[.slice none 0 0, .int .i64 1]) ∧ Ext w w' := by
  unfold isV at hv
  rw [decide_eq_false_iff_not, h1] at hv
  obtain ⟨p0, p1, p2, p3⟩ := p
  dsimp only at *
  clear h1
  have hx : Ext w (w.alloc (.cells #[.int .i64 p0, .int .i64 p1, .int .u32 p2, .slice a1 n1 c1] 49)) := (Ext.refl w).alloc _
  have go : ∀ (h : p0 < 0 ∨ (0 ≤ p0 ∧ 255 < p0) ∨ (0 ≤ p0 ∧ p0 ≤ 255 ∧ p1 < 0) ∨ (0 ≤ p0 ∧ p0 ≤ 255 ∧ 0 ≤ p1 ∧ 255 < p1) ∨ (0 ≤ p0 ∧ p0 ≤ 255 ∧ 0 ≤ p1 ∧ p1 ≤ 255 ∧ (65000 : Int) < (n1 : Int))),
      Calls Try.prog 22 #[.agg #[.int .i64 p0, .int .i64 p1, .int .u32 p2, .slice a1 n1 c1]] w fun e w' => e = .returned (.tuple #[.slice none 0 0, .int .i64 1]) ∧ Ext w w' := by
    intro h
    clear hv
    rcases h with h | ⟨h, h2⟩ | ⟨h, h2, h3⟩ | ⟨h, h2, h3, h4⟩ | ⟨h, h2, h3, h4, h5⟩
    all_goals
      go_enter Try.func22, Try.ntmps22
      go_wp2
      go_ret2
      exact ⟨rfl, hx⟩
  exact go (by omega)

set_option maxRecDepth 100000 in
set_option maxHeartbeats 4000000 in
theorem refBuild_own (p : MSGv) (a1 : Option Addr) (n1 c1 : Nat) (w : World) (h1 : Bytes w a1 n1 p.data) (z1 : a1 = none → c1 = 0)
    (hp : Fits p) (r0 : 0 ≤ p.rest) (r1 : p.rest ≤ 4294967295) (N : Nat) (hN : 8 + n1 = N) : Calls Try.prog 22 #[.agg #[.int .i64 p.type, .int .i64 p.code, .int .u32 p.rest, .slice a1 n1 c1]] w (RefBuildOwn w p N) := by
  have l1 := h1.length
  have hall := hp.all
  rw [l1] at hall
  have f : Fine p := ⟨r0, r1, h1.ok⟩
  have HP : Hid (∀ e w', RefBuildOwn w p N e w' ↔ ∃ q c, e = .returned (.tuple #[.slice q N c, .int .i64 0]) ∧ w'.ownsRow w.heap.size 5 1 (.slice q N c) N ((buildV p).map (Value.int .u8)) ∧ Ext w w') := fun e w' => Iff.rfl
  generalize RefBuildOwn w p N = Ans at *
  have hck := check_bd f hp
  have okB := build_ok f hp
  obtain ⟨fs, fl, fo, fp⟩ := ref_form f hp
  rw [l1, hN] at fl
  have HX : Hid (([p.type, p.code, 0, 0] ++ restV p.rest) ++ p.data = refX p) := (rfl : _ = _)
  have HS : Hid _ := fs
  have HPt : Hid _ := fp
  have c4 := fun w => refPut32_new p.rest w r0 r1
  have HR : [p.rest / 16777216, p.rest / 65536 % 256, p.rest / 256 % 256, p.rest % 256] = restV p.rest := rfl
  rw [HR] at c4
  obtain ⟨t0, t1, u0, u1, _⟩ := hp
  clear fs fp HR f
  generalize refX p = XX at *
  generalize checkV p = ck at *
  generalize buildV p = Y at *
  generalize restV p.rest = R at *
  obtain ⟨p0, p1, p2, p3⟩ := p
  dsimp only at *
  have hx0 : Ext w (w.alloc (.cells #[.int .i64 p0, .int .i64 p1, .int .u32 p2, .slice a1 n1 c1] 49)) := (Ext.refl w).alloc _
  obtain ⟨b0, b1, b2, b3⟩ := box_msgE (heap_new' w (.cells #[.int .i64 p0, .int .i64 p1, .int .u32 p2, .slice a1 n1 c1] 49))
  obtain ⟨i0, hi, hz0, hz1, hz2⟩ := info_parts Try.infoByte
  have HN : Hid _ := hN
  have hall' : (n1 : Int) ≤ 65000 := by omega
  have v0 : IntKind.u8.wrap p0 = p0 := by rw [IntKind.wrap_u8]; omega
  have v1 : IntKind.u8.wrap p1 = p1 := by rw [IntKind.wrap_u8]; omega
  have cput : ∀ (w : World), Calls Try.prog 36 #[.int .i64 ck] w fun e w' => e = .returned (.slice (some ⟨w.heap.size, 0, none⟩) 2 2) ∧ w' = w.alloc (.cells #[.int .u8 (ck / 256 % 256), .int .u8 (ck % 256)] 5) := fun w => refPut16_any ck w (by omega) (by omega)
  generalize ck / 256 % 256 = x at *
  generalize ck % 256 = y at *
  have hsz : w.heap.size + 1 ≤ (w.alloc (.cells #[.int .i64 p0, .int .i64 p1, .int .u32 p2, .slice a1 n1 c1] 49)).heap.size := by simp
  go_enter Try.func22, Try.ntmps22
  go_wp2
  have hX : Ext (w.alloc (.cells #[.int .i64 p0, .int .i64 p1, .int .u32 p2, .slice a1 n1 c1] 49)) (w.alloc (.cells #[.int .i64 p0, .int .i64 p1, .int .u32 p2, .slice a1 n1 c1] 49)).drew := (Ext.refl _).drew
  refine wp_region_make (w.heap.size + 1) hsz [(0, 0), (1, 0), (2, 0), (3, 0), (4, 0), (5, 0), (7, 0), (8, 0), (6, 3), (9, 1), (6, 2), (10, 1), (11, 0)] (by kernel_rfl) (by kernel_rfl) rfl (by kernel_rfl) (fun _ _ _ _ _ => Iff.rfl) ?_
  have hszW : w.heap.size + 1 ≤ (w.alloc (.cells #[.int .i64 p0, .int .i64 p1, .int .u32 p2, .slice a1 n1 c1] 49)).drew.heap.size := hsz
  have hs0 : (w.alloc (.cells #[.int .i64 p0, .int .i64 p1, .int .u32 p2, .slice a1 n1 c1] 49)).heap.size = w.heap.size + 1 := by simp
  clear hsz
  generalize (w.alloc (.cells #[.int .i64 p0, .int .i64 p1, .int .u32 p2, .slice a1 n1 c1] 49)).drew = W at *
  generalize (w.alloc (.cells #[.int .i64 p0, .int .i64 p1, .int .u32 p2, .slice a1 n1 c1] 49)) = W0 at *
  have x0 := fun w' h => b0 w' (hX.trans h)
  have x1 := fun w' h => b1 w' (hX.trans h)
  have x2 := fun w' h => b2 w' (hX.trans h)
  iterate 8 (refine wpW_read (v := ?_) rfl (by rfl) ?_ ?_; rotate_left; (focus (intro w' hx; go_simp; first | done | with_reducible rfl)); simp only [Act.put, List.setIfInBounds_toArray, List.set_cons_zero, List.set_cons_succ])
  clear x0 x1 x2
  (refine wpW_say _ (fun g => .slice (some ⟨g, 0, none⟩) 4 4) rfl (by rfl) (fun w' => by go_simp; first | done | with_reducible rfl) ?_)
  refine wpW_call rfl (by rfl) (fun W1 hx1 K hK => ?_); go_simp; (go_at_call 37; refine (c4 _).mono ?_; rintro e W2 ⟨q4, rfl, hq4, hx2⟩; refine hK _ _ hx2 ?_; clear hK K)
  refine wpW_make _ (fun g => .slice (some ⟨g, 0, none⟩) 4 4) rfl (by rfl) (fun w' => by go_simp; first | done | with_reducible rfl) ?_; simp only [Act.put, List.setIfInBounds_toArray, List.set_cons_zero, List.set_cons_succ]; intro W3 g hx3 hB3 hg3
  refine wpW_call rfl (by rfl) (fun W4 hx4 K hK => ?_)
  have y4 := hx3.trans hx4
  have hX4 : Ext W0 W4 := hX.trans (hx1.trans (hx2.trans y4))
  refine wp_append_full (.tmp 36) (.tmp 39) 22 rfl 5 i0 (.int .u8 0) Try.underlying22 hi hz0 hz1 hz2 rfl g 4 [p0, p1, 0, 0] rfl (hx4.heap hg3) rfl q4 4 4 R rfl (hq4.below y4) (hq4.has (by omega) _) (by omega) (w.heap.size + 1) hB3 ?_
  intro v5 W5 ho5 hx5
  refine hK _ _ hx5 ?_
  clear hK K
  simp only [Act.put, List.setIfInBounds_toArray, List.set_cons_zero, List.set_cons_succ]
  (refine wpW_read (v := ?_) rfl (by rfl) ?_ ?_; rotate_left; (focus (intro w' hx; go_simp; first | done | with_reducible rfl)); simp only [Act.put, List.setIfInBounds_toArray, List.set_cons_zero, List.set_cons_succ])
  refine wpW_done ?_
  have hX5 := hX4.trans hx5
  have hs5 : w.heap.size + 1 ≤ W5.heap.size := by have := (hx1.trans (hx2.trans (y4.trans hx5))).size; omega
  clear hX hx1 hx2 hx3 hx4 hx5 y4 hX4 hg3 hB3 hq4 hszW
  rw [← hs0] at ho5 hs5
  go_wp2_with (first
    | (at_builtin; refine append_bytes rfl (.tmp 41) (.tmp 43) 22 rfl W0.heap.size 5 i0 (.int .u8 0) Try.underlying22 hi hz0 hz1 hz2 rfl _ _ _ rfl ho5 a1 n1 c1 _ rfl (h1.below (hx0.trans hX5)) z1 (by omega) hs5 ?_; intro v6 W6 ho6' hg6; have hX6 := grown_ext hX5 ho5 hg6; have ho6 : W6.ownsRow W0.heap.size 5 1 v6 N (XX.map (Value.int .u8)) := (by rw [← HX.out]; have e : 4 + 4 + n1 = N := (by have := HN.out; omega); rw [← e]; exact ho6'); clear ho6' hg6 ho5; obtain ⟨g, c5, rfl, hO⟩ := OwnB.of_owns ho6 (by omega) fo)
    | (go_at_call 38; have co := refOf_any _ N c5 _ W6 hO.bytes (by omega); rw [HS.out] at co; refine co.mono ?_; clear co; rintro e W7 ⟨rfl, rfl⟩; have m16 := hO.cell (k := 2) (by omega); have m17 := hO.cell (k := 3) (by omega); have f16 := hO.frozen 2; have f17 := hO.frozen 3; have hgw := hO.lt; have hgne : g ≠ W7.heap.size := (by omega))
    | (go_at_call 36; refine (cput _).mono ?_; rintro e W8 ⟨rfl, rfl⟩))
  have b16 : (2 : Int) < (N : Int) := by omega
  have b17 : (3 : Int) < (N : Int) := by omega
  go_region
  have hoz := owns_later (owns_put 3 y (owns_put 2 x ho6 (by omega)) (by omega)) (((Ext.refl _).alloc (.cells #[.int .u8 x, .int .u8 y] 5)).drew)
  have hXz := ((ExtX.ext (hx0.trans hX6) (((ExtX.refl g W7).setCell (p := ⟨g, 2, none⟩) rfl (.int .u8 x)).setCell (p := ⟨g, 3, none⟩) rfl (.int .u8 y)) (by have := hO.base; omega)).alloc (.cells #[.int .u8 x, .int .u8 y] 5)).drew
  rw [HPt.out] at hoz
  have oY := owns_base hoz hx0.size
  clear m16 m17 f16 f17 hgw hgne hoz
  generalize (((W7.setCell ⟨g, 2, none⟩ (.int .u8 x)).setCell ⟨g, 3, none⟩ (.int .u8 y)).alloc (.cells #[.int .u8 x, .int .u8 y] 5)).drew = Vz at oY hXz ⊢
  go_wp2
  exact (HP.out _ _).2 ⟨_, _, rfl, oY, hXz⟩

theorem refBuild_good (p : MSGv) (a1 : Option Addr) (n1 c1 : Nat) (w : World) (h1 : Bytes w a1 n1 p.data) (z1 : a1 = none → c1 = 0)
    (hp : Fits p) (r0 : 0 ≤ p.rest) (r1 : p.rest ≤ 4294967295) (N : Nat) (hN : 8 + n1 = N) : Calls Try.prog 22 #[.agg #[.int .i64 p.type, .int .i64 p.code, .int .u32 p.rest, .slice a1 n1 c1]] w (RefBuildAns w p N) :=
  (refBuild_own p a1 n1 c1 w h1 z1 hp r0 r1 N hN).mono fun e w' ⟨q, c, he, ho, hx⟩ => ⟨q, c, he, (owns_slice ho (build_ok ⟨r0, r1, h1.ok⟩ hp)).1, hx⟩

end Go.Proofs.Ytkagkfbdpiblkaa.Icmp
