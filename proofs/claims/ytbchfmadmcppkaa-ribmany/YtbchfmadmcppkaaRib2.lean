/- Where a way stands: slices.BinarySearchFunc; a Rib in memory, find. -/
import Derived.Test.YtbchfmadmcppkaaRib1
import Derived.Test.YtbchfmadmcppkaaRowR
import Derived.Test.YtbchfmadmcppkaaSkip
import Derived.Deep.LoopGhost
namespace Go.Proofs.Ytbchfmadmcppkaa.Rb
set_option maxRecDepth 100000
open Go.RowKit Go.Proofs.Ytbchfmadmcppkaa
set_option linter.unusedVariables false
set_option linter.unusedSimpArgs false

/-- What a search between lo and hi knows. -/
def LoHi (L : List Rt) (f : Rt → Bool) (lo hi : Nat) : Prop := (∀ j x, j < lo → L[j]? = some x → f x = true) ∧ ∀ x, L[hi]? = some x → f x = false

theorem LoHi.start (L : List Rt) (f : Rt → Bool) (n : Nat) (hn : L.length = n) : LoHi L f 0 n := ⟨fun j x hj => by omega, fun x hx => by rw [List.getElem?_eq_none (by omega)] at hx; cases hx⟩

theorem LoHi.stop {L : List Rt} {f : Rt → Bool} {p : Nat} (h : LoHi L f p p) (hp : p ≤ L.length) : twN f L = p := twN_unique f L p hp h.1 h.2

theorem LoHi.up {L : List Rt} {f : Rt → Bool} {lo hi k : Nat} {x : Rt} (h : LoHi L f lo hi) (hm : ∀ (i j : Nat) (y z : Rt), i ≤ j → L[i]? = some y → L[j]? = some z → f z = true → f y = true) (hx : L[k]? = some x) (hf : f x = true) : LoHi L f (k + 1) hi :=
  ⟨fun j y hj hy => hm j k y x (by omega) hy hx hf, h.2⟩

theorem LoHi.down {L : List Rt} {f : Rt → Bool} {lo hi k : Nat} {x : Rt} (h : LoHi L f lo hi) (hx : L[k]? = some x) (hf : f x = false) : LoHi L f lo k :=
  ⟨h.1, fun y hy => by rw [hx] at hy; cases hy; exact hf⟩

theorem Srt.mono {L : List Rt} (h : Srt L) (r : Rt) : ∀ (i j : Nat) (y z : Rt), i ≤ j → L[i]? = some y → L[j]? = some z → ltB z r = true → ltB y r = true := fun i j y z hij hy hz hf => by
  rcases Nat.lt_or_ge i j with hlt | hge
  · exact ltB_trans (h.get hy hz hlt) hf
  · obtain rfl : i = j := by omega
    rw [hy] at hz; cases hz; exact hf

set_option maxHeartbeats 1000000 in
theorem bsearch_any (p : Option Addr) (n c : Nat) (L : List Rt) (r : Rt) (w : World) (hR : Rd w p n c L) (hs : Srt L) (hn : n ≤ 1000000) :
    Calls Try.prog 53 #[.slice p n c, (.agg #[.int .i64 r.t, .int .u32 r.a, .int .i64 r.l, .int .i64 r.i, .int .u32 r.g, .int .i64 r.m]), .func (.func 54) #[] #[]] w fun e w' => e = .returned (.tuple #[.int .i64 (posR L r : Nat), .bool (hereB L r)]) ∧ Ext w w' := by
  have hA : Ext w (w.alloc (.cells #[.int .i64 r.t, .int .u32 r.a, .int .i64 r.l, .int .i64 r.i, .int .u32 r.g, .int .i64 r.m] 27)) := (Ext.refl w).alloc _
  have HQ : Hid _ := box_rtE (heap_new w (.cells #[.int .i64 r.t, .int .u32 r.a, .int .i64 r.l, .int .i64 r.i, .int .u32 r.g, .int .i64 r.m] 27))
  have HR : Hid (Rd w p n c L) := hR
  have HL : Hid (L.length = n) := hR.len
  have HM : Hid _ := hs.mono r
  have co := fun x w => order_any x r w
  clear hR hs
  go_enter Try.func53, Try.ntmps53
  go_wp2_with fail
  generalize hW0 : (w.alloc (.cells #[.int .i64 r.t, .int .u32 r.a, .int .i64 r.l, .int .i64 r.i, .int .u32 r.g, .int .i64 r.m] 27)) = W0 at *
  clear hW0
  go_loopg [9, 10] n (fun kx s9 s10 wr => ∃ lo hi : Nat, s9 = .int .i64 lo ∧ s10 = .int .i64 hi ∧ lo ≤ hi ∧ hi ≤ n ∧ hi - lo ≤ kx ∧ Ext W0 wr ∧ Hid (LoHi L (fun x => ltB x r) lo hi))
  case atStart => exact ⟨0, n, rfl, rfl, Nat.zero_le _, Nat.le_refl _, by omega, Ext.refl _, LoHi.start L _ n HL.out⟩
  case round =>
    obtain ⟨lo, hi, rfl, rfl, hlh, hin, hkx, hx, HI⟩ := hrel
    obtain ⟨a0, a1, a2, a3, a4, a5⟩ := HQ.out
    have hd := hx.drew
    have t0 := fun w' h => a0 w' (hd.trans h)
    have t1 := fun w' h => a1 w' (hd.trans h)
    have t2 := fun w' h => a2 w' (hd.trans h)
    have t3 := fun w' h => a3 w' (hd.trans h)
    have t4 := fun w' h => a4 w' (hd.trans h)
    have t5 := fun w' h => a5 w' (hd.trans h)
    clear a0 a1 a2 a3 a4 a5
    by_cases hlt : lo < hi
    · obtain ⟨x, hxk⟩ : ∃ x, L[(lo + hi) / 2]? = some x := ⟨_, List.getElem?_eq_getElem (by rw [HL.out]; omega)⟩
      obtain ⟨b, off, rfl, hb, g0, g1, g2, g3, g4, g5⟩ := (HR.out.ext (hA.trans hd)).cell hxk
      have HX : Hid _ := hxk
      have x0 : ∀ w', Ext wr.drew w' → w'.cell? ⟨b, off + (lo + hi) / 2 * 6, none⟩ = some (.int .i64 x.t) := fun w' h => by rw [h.below.cell (p := ⟨b, off + (lo + hi) / 2 * 6, none⟩) hb]; exact g0
      have x1 : ∀ w', Ext wr.drew w' → w'.cell? ⟨b, off + (lo + hi) / 2 * 6 + 1, none⟩ = some (.int .u32 x.a) := fun w' h => by rw [h.below.cell (p := ⟨b, off + (lo + hi) / 2 * 6 + 1, none⟩) hb]; exact g1
      have x2 : ∀ w', Ext wr.drew w' → w'.cell? ⟨b, off + (lo + hi) / 2 * 6 + 2, none⟩ = some (.int .i64 x.l) := fun w' h => by rw [h.below.cell (p := ⟨b, off + (lo + hi) / 2 * 6 + 2, none⟩) hb]; exact g2
      have x3 : ∀ w', Ext wr.drew w' → w'.cell? ⟨b, off + (lo + hi) / 2 * 6 + 3, none⟩ = some (.int .i64 x.i) := fun w' h => by rw [h.below.cell (p := ⟨b, off + (lo + hi) / 2 * 6 + 3, none⟩) hb]; exact g3
      have x4 : ∀ w', Ext wr.drew w' → w'.cell? ⟨b, off + (lo + hi) / 2 * 6 + 4, none⟩ = some (.int .u32 x.g) := fun w' h => by rw [h.below.cell (p := ⟨b, off + (lo + hi) / 2 * 6 + 4, none⟩) hb]; exact g4
      have x5 : ∀ w', Ext wr.drew w' → w'.cell? ⟨b, off + (lo + hi) / 2 * 6 + 5, none⟩ = some (.int .i64 x.m) := fun w' h => by rw [h.below.cell (p := ⟨b, off + (lo + hi) / 2 * 6 + 5, none⟩) hb]; exact g5
      clear hxk g0 g1 g2 g3 g4 g5
      have cx := fun w => co x w
      have ho := ordR_lt x r
      generalize ordR x r = z at cx ho
      have HO : Hid _ := ho
      clear ho co
      have hii : (lo : Int) < (hi : Int) := by omega
      have hhn : (hi : Int) ≤ (n : Int) := by omega
      have hm0 : (0 : Int) ≤ ((lo : Int) + (hi : Int)) / 2 := by omega
      have hm1 : ((lo : Int) + (hi : Int)) / 2 < (n : Int) := by omega
      have hm2 : (((lo : Int) + (hi : Int)) / 2).toNat = (lo + hi) / 2 := by omega
      by_cases hz : z < 0
      · go_wp2_with fail
        refine wp_region_eager [(0, false), (1, false), (2, false), (3, false), (4, false), (5, false), (6, true), (7, false)] (by kernel_rfl) (by kernel_rfl) rfl (by kernel_rfl) (fun _ _ _ _ _ h => h) ?_
        generalize wr.drew = W at *
        repeat (first
          | (refine wpE_read (v := ?_) rfl (by rfl) ?_ ?_; rotate_left; (focus (intro w' hx; go_simp; first | done | with_reducible rfl)); simp only [Act.put, List.setIfInBounds_toArray, List.set_cons_zero, List.set_cons_succ])
          | (refine wpE_call rfl (by rfl) (fun K hK => ?_); go_simp; first
              | (go_at_call 54; refine (cx _).mono ?_; rintro e w1 ⟨rfl, hx1⟩; refine hK _ _ hx1 ?_; clear hK K)))
        refine wpE_done ?_
        go_wp2_with fail
        go_roundg (hi - ((lo + hi) / 2 + 1))
        case measure => omega
        case rel => exact ⟨(lo + hi) / 2 + 1, hi, by rw [show ((lo : Int) + (hi : Int)) / 2 + 1 = (((lo + hi) / 2 + 1 : Nat) : Int) by omega], rfl, by omega, hin, Nat.le_refl _, hd.trans hx1, HI.out.up HM.out HX.out (HO.out.1 hz)⟩
      · go_wp2_with fail
        refine wp_region_eager [(0, false), (1, false), (2, false), (3, false), (4, false), (5, false), (6, true), (7, false)] (by kernel_rfl) (by kernel_rfl) rfl (by kernel_rfl) (fun _ _ _ _ _ h => h) ?_
        generalize wr.drew = W at *
        repeat (first
          | (refine wpE_read (v := ?_) rfl (by rfl) ?_ ?_; rotate_left; (focus (intro w' hx; go_simp; first | done | with_reducible rfl)); simp only [Act.put, List.setIfInBounds_toArray, List.set_cons_zero, List.set_cons_succ])
          | (refine wpE_call rfl (by rfl) (fun K hK => ?_); go_simp; first
              | (go_at_call 54; refine (cx _).mono ?_; rintro e w1 ⟨rfl, hx1⟩; refine hK _ _ hx1 ?_; clear hK K)))
        refine wpE_done ?_
        go_wp2_with fail
        go_roundg ((lo + hi) / 2 - lo)
        case measure => omega
        case rel => exact ⟨lo, (lo + hi) / 2, rfl, by rw [show ((lo : Int) + (hi : Int)) / 2 = (((lo + hi) / 2 : Nat) : Int) by omega], by omega, by omega, Nat.le_refl _, hd.trans hx1, HI.out.down HX.out (by
          cases h : ltB x r
          · rfl
          · exact absurd (HO.out.2 h) (by omega))⟩
    · obtain rfl : hi = lo := by omega
      have hp : posR L r = hi := HI.out.stop (by rw [HL.out]; exact hin)
      have hh := here_at L r
      rw [hp] at hh
      have HP : Hid _ := hp
      clear hp
      by_cases hlt2 : hi < n
      · obtain ⟨x, hxk⟩ : ∃ x, L[hi]? = some x := ⟨_, List.getElem?_eq_getElem (by rw [HL.out]; omega)⟩
        obtain ⟨b, off, rfl, hb, g0, g1, g2, g3, g4, g5⟩ := (HR.out.ext (hA.trans hd)).cell hxk
        rw [hxk] at hh
        dsimp only at hh
        have x0 : ∀ w', Ext wr.drew w' → w'.cell? ⟨b, off + hi * 6, none⟩ = some (.int .i64 x.t) := fun w' h => by rw [h.below.cell (p := ⟨b, off + hi * 6, none⟩) hb]; exact g0
        have x1 : ∀ w', Ext wr.drew w' → w'.cell? ⟨b, off + hi * 6 + 1, none⟩ = some (.int .u32 x.a) := fun w' h => by rw [h.below.cell (p := ⟨b, off + hi * 6 + 1, none⟩) hb]; exact g1
        have x2 : ∀ w', Ext wr.drew w' → w'.cell? ⟨b, off + hi * 6 + 2, none⟩ = some (.int .i64 x.l) := fun w' h => by rw [h.below.cell (p := ⟨b, off + hi * 6 + 2, none⟩) hb]; exact g2
        have x3 : ∀ w', Ext wr.drew w' → w'.cell? ⟨b, off + hi * 6 + 3, none⟩ = some (.int .i64 x.i) := fun w' h => by rw [h.below.cell (p := ⟨b, off + hi * 6 + 3, none⟩) hb]; exact g3
        have x4 : ∀ w', Ext wr.drew w' → w'.cell? ⟨b, off + hi * 6 + 4, none⟩ = some (.int .u32 x.g) := fun w' h => by rw [h.below.cell (p := ⟨b, off + hi * 6 + 4, none⟩) hb]; exact g4
        have x5 : ∀ w', Ext wr.drew w' → w'.cell? ⟨b, off + hi * 6 + 5, none⟩ = some (.int .i64 x.m) := fun w' h => by rw [h.below.cell (p := ⟨b, off + hi * 6 + 5, none⟩) hb]; exact g5
        clear hxk g0 g1 g2 g3 g4 g5
        have cx := fun w => co x w
        generalize ordR x r = z at cx hh
        have HH : Hid _ := hh
        clear hh co
        have hhn : (hi : Int) < (n : Int) := by omega
        go_wp2_with fail
        refine wp_region_eager [(0, false), (1, false), (2, false), (3, false), (4, false), (5, false), (6, false), (7, false), (8, false), (9, false), (10, false), (11, true), (12, false), (13, false), (14, false), (15, false)] (by kernel_rfl) (by kernel_rfl) rfl (by kernel_rfl) (fun _ _ _ _ _ h => h) ?_
        generalize wr.drew = W at *
        repeat (first
          | (refine wpE_read (v := ?_) rfl (by rfl) ?_ ?_; rotate_left; (focus (intro w' hx; go_simp; first | done | with_reducible rfl)); simp only [Act.put, List.setIfInBounds_toArray, List.set_cons_zero, List.set_cons_succ])
          | (refine wpE_call rfl (by rfl) (fun K hK => ?_); go_simp; first
              | (go_at_call 54; refine (cx _).mono ?_; rintro e w1 ⟨rfl, hx1⟩; refine hK _ _ hx1 ?_; clear hK K)))
        refine wpE_done ?_
        go_wp2_with fail
        go_ret2
        rw [HH.out, HP.out]
        exact ⟨rfl, hA.trans (hd.trans hx1)⟩
      · obtain rfl : hi = n := by omega
        rw [List.getElem?_eq_none (by rw [HL.out]; exact Nat.le_refl _)] at hh
        dsimp only at hh
        have HH : Hid _ := hh
        clear hh
        go_wp2_with fail
        refine wp_region_eager [(0, false), (1, false), (2, false), (3, false), (4, false), (5, false), (6, false), (7, false), (8, false), (9, false), (10, false), (11, true), (12, false), (13, false), (14, false), (15, false)] (by kernel_rfl) (by kernel_rfl) rfl (by kernel_rfl) (fun _ _ _ _ _ h => h) ?_
        generalize wr.drew = W at *
        iterate 5 (refine wpE_read (v := ?_) rfl (by rfl) ?_ ?_; rotate_left; (focus (intro w' hx; go_simp; first | done | with_reducible rfl)); simp only [Act.put, List.setIfInBounds_toArray, List.set_cons_zero, List.set_cons_succ])
        iterate 8 (rw [wpE_skip_eq _ rfl (by rfl)]; simp only [Act.put, List.setIfInBounds_toArray, List.set_cons_zero, List.set_cons_succ])
        iterate 3 (refine wpE_read (v := ?_) rfl (by rfl) ?_ ?_; rotate_left; (focus (intro w' hx; go_simp; first | done | with_reducible rfl)); simp only [Act.put, List.setIfInBounds_toArray, List.set_cons_zero, List.set_cons_succ])
        refine wpE_done ?_
        go_wp2_with fail
        go_ret2
        rw [HH.out, HP.out]
        exact ⟨rfl, hA.trans hd⟩

/-- A Rib (of the type ty) of the ways L, in the blocks F. -/
def RibAt (ty : TypeId) (w : World) (rb : Nat) (L : List Rt) (F : List Nat) : Prop := ∃ v, F = rb :: blks v ∧ w.heap[rb]? = some (.cells #[v] ty (0, 0)) ∧ OwnR w 0 v L

theorem RibAt.later {ty : TypeId} {w w' : World} {rb : Nat} {L : List Rt} {F G : List Nat} (h : RibAt ty w rb L F) (hx : ExtS G w w') (hd : ∀ x ∈ F, x ∉ G) : RibAt ty w' rb L F := by
  obtain ⟨v, rfl, h1, h2⟩ := h
  exact ⟨v, rfl, hx.heap (hd rb (by simp)) h1, h2.later hx fun g hg => hd g (by simp [hg])⟩

theorem RibAt.ext {ty : TypeId} {w w' : World} {rb : Nat} {L : List Rt} {F : List Nat} (h : RibAt ty w rb L F) (hx : Ext w w') : RibAt ty w' rb L F := h.later (hx.toS []) (by simp)

theorem RibAt.lt {ty : TypeId} {w : World} {rb : Nat} {L : List Rt} {F : List Nat} (h : RibAt ty w rb L F) : ∀ x ∈ F, x < w.heap.size := by
  obtain ⟨v, rfl, h1, h2⟩ := h
  intro x hx
  rcases List.mem_cons.1 hx with rfl | hx
  · exact heap_lt h1
  · exact (h2.lt x hx).2

theorem find_any (rb : Nat) (L : List Rt) (F : List Nat) (r : Rt) (w : World) (h : RibAt 60 w rb L F) (hs : Srt L) (hn : L.length ≤ 1000000) :
    Calls Try.prog 40 #[.pointer (some ⟨rb, 0, none⟩), (.agg #[.int .i64 r.t, .int .u32 r.a, .int .i64 r.l, .int .i64 r.i, .int .u32 r.g, .int .i64 r.m])] w fun e w' => e = .returned (.tuple #[.int .i64 (posR L r : Nat), .bool (hereB L r)]) ∧ Ext w w' := by
  obtain ⟨v, -, hX, hO⟩ := h
  obtain ⟨p, c, rfl, hc1, -, hR⟩ := hO.slice
  have hA : Ext w (w.alloc (.cells #[.int .i64 r.t, .int .u32 r.a, .int .i64 r.l, .int .i64 r.i, .int .u32 r.g, .int .i64 r.m] 27)) := (Ext.refl w).alloc _
  have hd := hA.drew
  have HQ : Hid _ := box_rtE (heap_new w (.cells #[.int .i64 r.t, .int .u32 r.a, .int .i64 r.l, .int .i64 r.i, .int .u32 r.g, .int .i64 r.m] 27))
  have v0 : ∀ w', Ext (w.alloc (.cells #[.int .i64 r.t, .int .u32 r.a, .int .i64 r.l, .int .i64 r.i, .int .u32 r.g, .int .i64 r.m] 27)).drew w' → w'.cell? ⟨rb, 0, none⟩ = some (.slice p L.length c) := fun w' h => by rw [heap_cell ((hd.trans h).heap hX)]; rfl
  have cb := fun w' (hx : Ext w w') => bsearch_any p L.length c L r w' (hR.ext hx) hs hn
  clear hO hX hR hs
  obtain ⟨a0, a1, a2, a3, a4, a5⟩ := HQ.out
  have hdd : Ext (w.alloc (.cells #[.int .i64 r.t, .int .u32 r.a, .int .i64 r.l, .int .i64 r.i, .int .u32 r.g, .int .i64 r.m] 27)) (w.alloc (.cells #[.int .i64 r.t, .int .u32 r.a, .int .i64 r.l, .int .i64 r.i, .int .u32 r.g, .int .i64 r.m] 27)).drew := (Ext.refl _).drew
  have t0 := fun w' h => a0 w' (hdd.trans h)
  have t1 := fun w' h => a1 w' (hdd.trans h)
  have t2 := fun w' h => a2 w' (hdd.trans h)
  have t3 := fun w' h => a3 w' (hdd.trans h)
  have t4 := fun w' h => a4 w' (hdd.trans h)
  have t5 := fun w' h => a5 w' (hdd.trans h)
  clear a0 a1 a2 a3 a4 a5 hdd HQ
  generalize posR L r = k at *
  generalize hereB L r = hb at *
  go_enter Try.func40, Try.ntmps40
  go_wp2_with fail
  refine wp_region_eager [(0, false), (1, false), (2, false), (3, false), (4, false), (5, true), (6, false), (7, false), (8, false), (9, false)] (by kernel_rfl) (by kernel_rfl) rfl (by kernel_rfl) (fun _ _ _ _ _ h => h) ?_
  generalize (w.alloc (.cells #[.int .i64 r.t, .int .u32 r.a, .int .i64 r.l, .int .i64 r.i, .int .u32 r.g, .int .i64 r.m] 27)).drew = W at *
  repeat (first
    | (refine wpE_read (v := ?_) rfl (by rfl) ?_ ?_; rotate_left; (focus (intro w' hx; go_simp; first | done | with_reducible rfl)); simp only [Act.put, List.setIfInBounds_toArray, List.set_cons_zero, List.set_cons_succ])
    | (refine wpE_call rfl (by rfl) (fun K hK => ?_); go_simp; first
        | (go_at_call 53; refine (cb _ hd).mono ?_; rintro e w1 ⟨rfl, hx1⟩; refine hK _ _ hx1 ?_; clear hK K)))
  refine wpE_done ?_
  go_wp2_with fail
  go_ret2
  exact ⟨rfl, hd.trans hx1⟩
end Go.Proofs.Ytbchfmadmcppkaa.Rb
