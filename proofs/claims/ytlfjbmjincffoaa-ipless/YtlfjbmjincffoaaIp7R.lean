/- What the document's own Less answers at any bytes (chapter 4). -/
import Derived.Test.YtlfjbmjincffoaaIpL
import Derived.Test.YtlfjbmjincffoaaIp3
import Derived.Test.YtlfjbmjincffoaaIp5
namespace Go.Proofs.Ytlfjbmjincffoaa
open Go.RowKit
set_option linter.unusedVariables false

theorem refLess_bad (a : Option Addr) (len cap : Nat) (xs : List Int) (w : World) (h : Bytes w a len xs) (hcap : len ≤ cap) (hn : len ≤ 1000000) (hv : lookV xs ≠ 0) :
    Calls Try.prog 23 #[.slice a len cap] w fun e w' => e = .returned (.slice none 0 0) ∧ Ext w w' := by
  have c1 := fun w h => refLook_any a len cap xs w h hcap hn
  have hne : (lookV xs == 0) = false := by simpa using hv
  have hne2 : (lookV xs != 0) = true := by simpa using hv
  generalize lookV xs = er at *
  clear hv
  go_enter Try.func23, Try.ntmps23
  go_wp2_with (go_at_call 29; refine (c1 _ h).mono ?_; rintro e w1 ⟨rfl, rfl⟩)
  go_ret
  exact ⟨rfl, Ext.refl _⟩

theorem refLess_none (a : Option Addr) (len cap : Nat) (xs : List Int) (w : World) (h : Bytes w a len xs) (hcap : len ≤ cap) (hn : len ≤ 1000000) (L : Looks xs) (h8 : byteV xs 8 = 0) :
    Calls Try.prog 23 #[.slice a len cap] w fun e w' => e = .returned (.slice none 0 0) ∧ Ext w w' := by
  have c1 := fun w h => refLook_any a len cap xs w h hcap hn
  have hv := (looks_iff xs).2 L
  rw [hv] at c1
  have hl := h.length
  have l1 := L.len
  obtain ⟨b, off, rfl, hc⟩ := h.cell (k := 8) (by omega)
  have x8 : byteV xs 8 = xs[8]?.getD 0 := byteV_nat xs 8
  rw [← x8, h8] at hc
  have l1' : 20 ≤ len := by omega
  have l8 : (8 : Int) < (len : Int) := by omega
  clear hv x8
  go_enter Try.func23, Try.ntmps23
  go_wp2_with (go_at_call 29; refine (c1 _ h).mono ?_; rintro e w1 ⟨rfl, rfl⟩)
  go_ret
  exact ⟨rfl, Ext.refl _⟩

/-- What Less answers of a packet. -/
def RefLessAns (w : World) (xs : List Int) (n : Nat) (e : Ending) (w' : World) : Prop := ∃ q c, e = .returned (.slice q n c) ∧ Bytes w' q n (lessV xs) ∧ Ext w w'

set_option maxHeartbeats 1000000 in
theorem refLess_good (a : Option Addr) (len cap : Nat) (xs : List Int) (w : World) (h : Bytes w a len xs) (hcap : len ≤ cap) (hn : len ≤ 1000000) (L : Looks xs) (h8 : byteV xs 8 ≠ 0) (n : Nat) (hall : get16V xs 2 = n) :
    Calls Try.prog 23 #[.slice a len cap] w (RefLessAns w xs n) := by
  have c1 := fun w h => refLook_any a len cap xs w h hcap hn
  have hv := (looks_iff xs).2 L
  rw [hv] at c1
  have hl := h.length
  have l1 := L.len; have l2 := L.head; have l3 := L.all; have l4 := L.whole
  rw [hall] at l3 l4
  have HP : Hid (∀ e w', RefLessAns w xs n e w' ↔ ∃ q c, e = .returned (.slice q n c) ∧ Bytes w' q n (lessV xs) ∧ Ext w w') := fun e w' => Iff.rfl
  generalize RefLessAns w xs n = Ans at *
  obtain ⟨b, off, rfl, hc⟩ := h.cell (k := 8) (by omega)
  have x8 : byteV xs 8 = xs[8]?.getD 0 := byteV_nat xs 8
  rw [← x8] at hc
  have hne : (byteV xs 8 == 0) = false := by simpa using h8
  have b8 := h.ok.byteV 8
  have e16 : get16V xs 8 = byteV xs 8 * 256 + byteV xs 9 := rfl
  have b9 := h.ok.byteV 9
  have hcb := lessC_bd xs
  have ca := fun w h => refGet16_any (some ⟨b, off, none⟩) len cap xs 2 w h (by omega) (by omega)
  rw [hall] at ca
  have hr := fun w' (hx : Ext w w') => (h.below hx).take (n := n) (by omega)
  have okX : BytesOk (xs.take n) := fun x hx => h.ok x (List.mem_of_mem_take hx)
  have lX : (xs.take n).length = n := by rw [List.length_take]; omega
  have X8 : (xs.take n)[8]?.getD 0 = byteV xs 8 := by rw [List.getElem?_take, if_pos (by omega)]; exact x8.symm
  have ok1 := okX.set 8 (v := byteV xs 8 - 1) (by omega) (by omega)
  have z8 : get16V (xs.take n) 8 = get16V xs 8 := get16V_take xs n 8 (by omega)
  have z8' : get16V ((xs.take n).set 8 (byteV xs 8 - 1)) 8 = get16V xs 8 - 256 := by
    have q1 : byteV ((xs.take n).set 8 (byteV xs 8 - 1)) 8 = byteV xs 8 - 1 := by
      have := byteV_nat ((xs.take n).set 8 (byteV xs 8 - 1)) 8
      rw [List.getElem?_set_self (by omega)] at this; exact this
    have q2 : byteV ((xs.take n).set 8 (byteV xs 8 - 1)) 9 = byteV xs 9 := by
      have := byteV_nat ((xs.take n).set 8 (byteV xs 8 - 1)) 9
      rw [List.getElem?_set_ne (by omega), List.getElem?_take, if_pos (by omega)] at this
      exact this.trans (byteV_nat xs 9).symm
    show byteV _ 8 * 256 + byteV _ (8 + 1) = _
    rw [show (8 : Int) + 1 = 9 from rfl, q1, q2, e16]; omega
  have z10 : get16V ((xs.take n).set 8 (byteV xs 8 - 1)) 10 = get16V xs 10 :=
    get16V_congr (xs := (xs.take n).set 8 (byteV xs 8 - 1)) (ys := xs) (i := 10) (by rw [List.getElem?_set_ne (by omega), List.getElem?_take, if_pos (by omega)]) (by rw [List.getElem?_set_ne (by omega), List.getElem?_take, if_pos (by omega)])
  have g1 := fun q c w h => refGet16_any q n c (xs.take n) 8 w h (by omega) (by omega)
  rw [z8] at g1
  have g2 := fun q c w h => refGet16_any q n c ((xs.take n).set 8 (byteV xs 8 - 1)) 10 w h (by omega) (by omega)
  rw [z10] at g2
  have g3 := fun q c w h => refGet16_any q n c ((xs.take n).set 8 (byteV xs 8 - 1)) 8 w h (by omega) (by omega)
  rw [z8'] at g3
  have cu := fun w => refUpdate_any (get16V xs 10) (get16V xs 8) (get16V xs 8 - 256) w
  change ∀ w, Calls _ _ _ w fun e w' => e = .returned (.int .i64 (lessC xs)) ∧ w' = w at cu
  have hY : (((xs.take n).set 8 (byteV xs 8 - 1)).set 10 (lessC xs / 256 % 256)).set 11 (lessC xs % 256) = lessV xs := by unfold lessV; rw [hall, Int.toNat_natCast]
  have l1' : 20 ≤ len := by omega
  have l8 : (8 : Int) < (len : Int) := by omega
  have cn : (n : Int) ≤ (cap : Int) := by omega
  have n20 : 20 ≤ n := by omega
  have n20' : (20 : Int) ≤ (n : Int) := by omega
  have n1e6 : n ≤ 1000000 := by omega
  generalize lessV xs = Y at *
  generalize lessC xs = lc at *
  generalize get16V xs 8 = u8 at *
  generalize get16V xs 10 = u10 at *
  generalize byteV xs 8 = t8 at *
  obtain ⟨t7, ht7⟩ : ∃ t7, t8 - 1 = t7 := ⟨_, rfl⟩
  rw [ht7] at ok1 g2 g3 hY
  have ht7b : 0 ≤ t7 ∧ t7 ≤ 255 := by omega
  generalize xs.take n = X at *
  obtain ⟨i0, hi, hz0, hz1, hz2⟩ := info_parts Try.infoByte
  have HY : Hid _ := hY
  clear hv x8 e16 z8 z8' z10 hY hall l3 l2 b9
  have tok1 : Hid True := trivial
  have tok2 : Hid True := trivial
  have hxe : Ext w (w.alloc (.cells #[] 5)) := (Ext.refl w).alloc _
  have hoe := own_empty w
  have hre := hr _ hxe
  go_enter Try.func23, Try.ntmps23
  go_wp2_with (first
    | (go_at_call 29; refine (c1 _ h).mono ?_; rintro e w1 ⟨rfl, rfl⟩)
    | (go_at_call 41; clear tok1; refine (ca _ (h.below hxe)).mono ?_; rintro e w2 ⟨rfl, rfl⟩)
    | (at_builtin; refine append_bytes rfl (.tmp 15) (.tmp 19) 22 rfl _ 5 i0 (.int .u8 0) Try.underlying22 hi hz0 hz1 hz2 rfl _ _ _ rfl hoe (some ⟨b, off, none⟩) n cap _ rfl hre (by simp) (by omega) hxe.size ?_; intro v3 w3 ho3 hgr3; have hx3 := grown_ext hxe hoe hgr3; rw [Nat.zero_add, List.nil_append] at ho3; obtain ⟨g, c3, rfl, hO⟩ := OwnB.of_owns ho3 (by omega) okX; have hb3 := hO.bytes; have hcell := hO.cell (k := 8) (by omega); rw [X8] at hcell; have hfr := hO.frozen 8; clear hgr3 ho3)
    | (go_at_call 41; clear tok2; refine (g1 _ c3 _ hb3).mono ?_; rintro e w4 ⟨rfl, rfl⟩))
  have hO5 := hO.set (k := 8) ht7b.1 ht7b.2
  have hx5 : Ext w1 (w4.setCell ⟨g, 8, none⟩ (.int .u8 t7)) := ExtX.ext hx3 ((ExtX.refl g w4).setCell rfl _) hO.base
  clear hcell hfr hb3 hO hx3
  generalize (w4.setCell ⟨g, 8, none⟩ (.int .u8 t7)) = w5 at hO5 hx5 ⊢
  have hb5 := hO5.bytes
  have hgw : g < w5.heap.size := hO5.lt
  have hgne : g ≠ w5.heap.size := by omega
  have m10 := hO5.cell (k := 10) (by omega)
  have m11 := hO5.cell (k := 11) (by omega)
  have f10 := hO5.frozen 10
  have f11 := hO5.frozen 11
  have tok3 : Hid True := trivial
  go_wp2_with (first
    | (go_at_call 41; clear tok3; refine (g2 _ c3 _ hb5).mono ?_; rintro e w6 ⟨rfl, rfl⟩)
    | (go_at_call 41; refine (g3 _ c3 _ hb5).mono ?_; rintro e w7 ⟨rfl, rfl⟩)
    | (go_at_call 42; refine (cu _).mono ?_; rintro e w8 ⟨rfl, rfl⟩)
    | (go_at_call 36; refine (refPut16_any _ _ (by omega) (by omega)).mono ?_; rintro e w9 ⟨rfl, rfl⟩))
  go_region
  have hO6 := ((hO5.set (k := 10) (v := lc / 256 % 256) (by omega) (by omega)).set (k := 11) (v := lc % 256) (by omega) (by omega)).later (((Ext.refl _).alloc (.cells #[.int .u8 (lc / 256 % 256), .int .u8 (lc % 256)] 5)).drew)
  rw [HY.out] at hO6
  have hx6 := ((ExtX.ext hx5 (((ExtX.refl g w8).setCell (p := ⟨g, 10, none⟩) rfl (.int .u8 (lc / 256 % 256))).setCell (p := ⟨g, 11, none⟩) rfl (.int .u8 (lc % 256))) hO5.base).alloc (.cells #[.int .u8 (lc / 256 % 256), .int .u8 (lc % 256)] 5)).drew
  clear m10 m11 f10 f11
  go_wp2
  exact (HP.out _ _).2 ⟨_, _, rfl, hO6.bytes, hx6⟩

end Go.Proofs.Ytlfjbmjincffoaa
