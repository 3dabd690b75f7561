/- RuF, RuG, RuH, RuI: in one text. -/
import Derived.Test.YtbmmgjmmooakpaaGreatDoorRuP6
import Derived.Test.YtbmmgjmmooakpaaGreatDoorRu2
import Derived.Test.YtbmmgjmmooakpaaGreatDoorRefP
import Derived.Test.YtbmmgjmmooakpaaGreatDoorGrow3
import Derived.Deep.Cut
import Derived.Test.YtbmmgjmmooakpaaGreatDoorRu3
import Derived.Test.YtbmmgjmmooakpaaGreatDoorRvF
namespace Go.Proofs.YtbmmgjmmooakpaaGreatDoor.Ru
open Go.RowKit
set_option linter.unusedVariables false
set_option maxRecDepth 100000

theorem Tryz.infoByte : (Tryz.prog.info? 5).map (fun i => (i.zero, i.size, i.bytes)) = some (some (.int .u8 0), 1, 1) := by kernel_rfl

theorem info_byte : ∃ i, Tryz.prog.info? 5 = some i ∧ i.zero = some (.int .u8 0) ∧ i.size = 1 ∧ i.bytes = 1 := by
  obtain ⟨i, hi, h⟩ := Option.map_eq_some_iff.1 Tryz.infoByte
  simp only [Prod.mk.injEq] at h
  exact ⟨i, hi, h⟩

theorem endText_any (s : SideV) (w : World) (hs : SideOk s) (hE : endB s = true) (htb : Tab w) :
    Calls Tryz.prog 65 #[(.agg #[.bool s.any, .string s.table, .int .u32 s.a, .int .i64 s.n, .int .i64 s.low, .int .i64 s.high])] w fun e w' => e = .returned (.string (endT s)) ∧ Ext w w' := by
  have c1 := fun w h => printPrefix_any s.a s.n w hs.a0 hs.a1 h
  have zt := table_small hE
  have he := empT s.table
  unfold endT
  obtain ⟨any, tab, a, n, lo, hi⟩ := s
  dsimp only at *
  obtain ⟨W, hW⟩ : ∃ W, w.alloc (.cells #[.bool any, .string tab, .int .u32 a, .int .i64 n, .int .i64 lo, .int .i64 hi] 28) = W := ⟨_, rfl⟩
  have hx0 : Ext w W := hW ▸ (Ext.refl w).alloc _
  have b0 : ∀ w', Ext W w' → w'.cell? ⟨w.heap.size, 0, none⟩ = some (.bool any) := hW ▸ boxK w #[.bool any, .string tab, .int .u32 a, .int .i64 n, .int .i64 lo, .int .i64 hi] 28 0
  have b1 : ∀ w', Ext W w' → w'.cell? ⟨w.heap.size, 1, none⟩ = some (.string tab) := hW ▸ boxK w #[.bool any, .string tab, .int .u32 a, .int .i64 n, .int .i64 lo, .int .i64 hi] 28 1
  have b2 : ∀ w', Ext W w' → w'.cell? ⟨w.heap.size, 2, none⟩ = some (.int .u32 a) := hW ▸ boxK w #[.bool any, .string tab, .int .u32 a, .int .i64 n, .int .i64 lo, .int .i64 hi] 28 2
  have b3 : ∀ w', Ext W w' → w'.cell? ⟨w.heap.size, 3, none⟩ = some (.int .i64 n) := hW ▸ boxK w #[.bool any, .string tab, .int .u32 a, .int .i64 n, .int .i64 lo, .int .i64 hi] 28 3
  have hv := Ext.refl W
  have htW := htb.later hx0
  clear hs hE htb
  cases any with
  | true =>
    rw [if_pos rfl]
    clear he
    go_enter Tryz.func65, Tryz.ntmps65
    go_wp2
    go_ret
    exact ⟨rfl, hx0⟩
  | false =>
    rw [if_neg (by decide)]
    by_cases ht : tab = txt []
    · rw [if_pos ht]
      rw [decide_eq_true ht] at he
      have hem : tab.toList.isEmpty = true := by rw [← he]; cases tab.toList <;> rfl
      generalize printPB a n = T at *
      clear ht he
      go_enter Tryz.func65, Tryz.ntmps65
      go_wp2_with (go_at_call 87; refine (c1 _ htW).mono ?_; rintro e w1 ⟨rfl, hx1⟩)
      go_ret
      exact ⟨rfl, hx0.trans hx1⟩
    · rw [if_neg ht]
      rw [decide_eq_false ht] at he
      have hem : tab.toList.isEmpty = false := by rw [← he]; cases tab.toList <;> rfl
      clear ht he
      go_enter Tryz.func65, Tryz.ntmps65
      go_wp2
      go_ret
      exact ⟨rfl, hx0⟩

theorem portsText_any (s : SideV) (w : World) (h2 : portsB s = true) (htb : Tab w) :
    Calls Tryz.prog 67 #[.agg #[.int .i64 s.low, .int .i64 s.high]] w fun e w' => e = .returned (.string (portsT s)) ∧ Ext w w' := by
  have hp : 0 ≤ s.low ∧ s.low ≤ 65535 ∧ 0 ≤ s.high ∧ s.high ≤ 65535 := by
    unfold portsB inB at h2; simp only [Bool.and_eq_true, decide_eq_true_eq] at h2; omega
  have c1 := fun w h => itoa_any s.low w hp.1 (by omega) h
  have c2 := fun w h => itoa_any s.high w hp.2.2.1 (by omega) h
  have z1 := decB_size5 s.low (by omega)
  have z2 := decB_size5 s.high (by omega)
  unfold portsT
  generalize s.low = lo at *
  generalize s.high = hi at *
  obtain ⟨W, hW⟩ : ∃ W, w.alloc (.cells #[.int .i64 lo, .int .i64 hi] 26) = W := ⟨_, rfl⟩
  have hx0 : Ext w W := hW ▸ (Ext.refl w).alloc _
  have b0 : ∀ w', Ext W w' → w'.cell? ⟨w.heap.size, 0, none⟩ = some (.int .i64 lo) := hW ▸ boxK w #[.int .i64 lo, .int .i64 hi] 26 0
  have b1 : ∀ w', Ext W w' → w'.cell? ⟨w.heap.size, 1, none⟩ = some (.int .i64 hi) := hW ▸ boxK w #[.int .i64 lo, .int .i64 hi] 26 1
  have hv := Ext.refl W
  have htW := htb.later hx0
  clear h2 hp htb
  by_cases hl : lo = hi
  · subst hl
    rw [if_pos rfl]
    generalize decB lo = d at *
    clear c2
    go_enter Tryz.func67, Tryz.ntmps67
    go_wp2_with (go_at_call 38; refine (c1 _ htW).mono ?_; rintro e w1 ⟨rfl, hx1⟩; replace hv := hv.trans hx1; clear hx1)
    go_ret
    exact ⟨rfl, hx0.trans hv⟩
  · rw [if_neg hl]
    have hne : (lo == hi) = false := by simpa using hl
    generalize decB lo = d1 at *
    generalize decB hi = d2 at *
    have tok : Hid True := trivial
    clear hl
    go_enter Tryz.func67, Tryz.ntmps67
    go_wp2_with (first
      | (go_at_call 38; clear tok; refine (c1 _ htW).mono ?_; rintro e w1 ⟨rfl, hx1⟩; replace hv := hv.trans hx1; have htv := htW.later hx1; clear hx1)
      | (go_at_call 38; refine (c2 _ htv).mono ?_; rintro e w2 ⟨rfl, hx1⟩; replace hv := hv.trans hx1; clear hx1))
    go_ret
    exact ⟨rfl, hx0.trans hv⟩

/-- Letters as numbers. -/
def numL (l : List UInt8) : List Int := l.map fun c => (c.toNat : Int)

theorem numL_ok (l : List UInt8) : BytesOk (numL l) := by
  intro x hx
  obtain ⟨c, _, rfl⟩ := List.mem_map.1 hx
  have := c.toNat_lt
  omega

theorem numL_txt (l : List UInt8) : strOfNums (numL l) = txt l := by
  apply list_inj
  rw [strOfNums_data, list_txt, numL, List.map_map]
  conv => rhs; rw [← List.map_id l]
  apply List.map_congr_left
  intro c _
  simp

set_option maxHeartbeats 2000000 in
theorem flagsText_any (n : Nat) (w : World) (hn : n < 64) :
    Calls Tryz.prog 37 #[.int .i64 (n : Int)] w fun e w' => e = .returned (.string (txt (lettersP n))) ∧ Ext w w' := by
  by_cases h0 : n = 0
  · subst h0
    clear hn
    go_enter Tryz.func37, Tryz.ntmps37
    go_wp2
    go_ret
    exact ⟨rfl, Ext.refl _⟩
  have hE := encL_all n hn
  rw [if_neg h0] at hE
  have HE : Hid _ := hE
  have hnz : ((n : Int) == 0) = false := by rw [beq_eq_false_iff_ne]; omega
  obtain ⟨i0, hi, hz0, hz1, hz2⟩ := info_byte
  have HI : Hid _ := hi
  clear hE hi h0
  go_enter Tryz.func37, Tryz.ntmps37
  go_wp2
  go_loopw [3, 7] (fun v i wr => ∃ k : Nat, k ≤ 6 ∧ i = .int .i64 k ∧ wr.ownsRow w.heap.size 5 1 v (encL n k).length ((numL (encL n k)).map (Value.int .u8)) ∧ Ext w wr) (fun _ i _ => 6 - (intOf i).toNat)
  case atStart => exact ⟨0, Nat.zero_le _, rfl, by simpa [encL, numL] using World.ownsRow_nil _ _ _ _, Ext.refl _⟩
  case round =>
    obtain ⟨k, hk, rfl, hown, hx⟩ := hrel
    by_cases hlt : k < 6
    · have hl := encL_len n k
      have hbase := hx.size
      rcases (by omega : k = 0 ∨ k = 1 ∨ k = 2 ∨ k = 3 ∨ k = 4 ∨ k = 5) with rfl | rfl | rfl | rfl | rfl | rfl
      · have hb : bits .and .i64 (n : Int) 1 = (((n) % 2 : Nat) : Int) := i64_and1 (n)
        by_cases hq : (n) % 2 = 1
        · have hst : encL n 1 = encL n 0 ++ [70] := by show encL n 0 ++ _ = _; rw [if_pos (by simpa using hq)]; rfl
          rw [hq] at hb
          have hb2 : (bits .and .i64 (n : Int) 1 == 1) = true := by rw [hb]; rfl
          have HST : Hid _ := hst
          have ho := hown.alloc (.cells #[.int .u8 70] 5)
          have hu : (wr.alloc (.cells #[.int .u8 70] 5)).cell? ⟨wr.heap.size, 0, none⟩ = some (.int .u8 70) := by rw [heap_cell (heap_new wr (.cells #[.int .u8 70] 5))]; rfl
          have hxa : Ext w (wr.alloc (.cells #[.int .u8 70] 5)) := hx.alloc _
          have HU : Hid _ := hu
          clear hst hq hb hlt hk hown hu
          go_wp2_with (at_builtin; refine append_one rfl (.tmp 15) (.tmp 18) 74 rfl w.heap.size 5 i0 (.int .u8 0) 1 Tryz.underlying74 HI.out hz0 hz1 hz2 rfl _ _ _ rfl ho wr.heap.size 1 (.int .u8 70) rfl HU.out rfl (by unfold maxLen; omega) (by omega) hxa.size ?_; intro v' w1 hown' hgrow)
          have hx1 := grown_ext hxa ho hgrow
          clear HU ho hgrow hxa
          go_wp2
          go_roundw
          case rel => exact ⟨1, by omega, rfl, by rw [HST.out]; simpa [numL] using hown', hx1⟩
          case measure => simp [intOf]
        · have hst : encL n 1 = encL n 0 := by show encL n 0 ++ _ = _; rw [if_neg (by simpa using hq), List.append_nil]
          rw [show (n) % 2 = 0 by omega] at hb
          have hb2 : (bits .and .i64 (n : Int) 1 == 1) = false := by rw [hb]; rfl
          have HST : Hid _ := hst
          clear hst hq hb hl hlt hk
          go_wp2
          go_roundw
          case rel => exact ⟨1, by omega, rfl, by rw [HST.out]; exact hown, hx⟩
          case measure => simp [intOf]
      · have hb : bits .and .i64 ((n : Int) / 2) 1 = (((n / 2) % 2 : Nat) : Int) := i64_and1 (n / 2)
        by_cases hq : (n / 2) % 2 = 1
        · have hst : encL n 2 = encL n 1 ++ [83] := by show encL n 1 ++ _ = _; rw [if_pos (by simpa using hq)]; rfl
          rw [hq] at hb
          have hb2 : (bits .and .i64 ((n : Int) / 2) 1 == 1) = true := by rw [hb]; rfl
          have HST : Hid _ := hst
          have ho := hown.alloc (.cells #[.int .u8 83] 5)
          have hu : (wr.alloc (.cells #[.int .u8 83] 5)).cell? ⟨wr.heap.size, 0, none⟩ = some (.int .u8 83) := by rw [heap_cell (heap_new wr (.cells #[.int .u8 83] 5))]; rfl
          have hxa : Ext w (wr.alloc (.cells #[.int .u8 83] 5)) := hx.alloc _
          have HU : Hid _ := hu
          clear hst hq hb hlt hk hown hu
          go_wp2_with (at_builtin; refine append_one rfl (.tmp 15) (.tmp 18) 74 rfl w.heap.size 5 i0 (.int .u8 0) 1 Tryz.underlying74 HI.out hz0 hz1 hz2 rfl _ _ _ rfl ho wr.heap.size 1 (.int .u8 83) rfl HU.out rfl (by unfold maxLen; omega) (by omega) hxa.size ?_; intro v' w1 hown' hgrow)
          have hx1 := grown_ext hxa ho hgrow
          clear HU ho hgrow hxa
          go_wp2
          go_roundw
          case rel => exact ⟨2, by omega, rfl, by rw [HST.out]; simpa [numL] using hown', hx1⟩
          case measure => simp [intOf]
        · have hst : encL n 2 = encL n 1 := by show encL n 1 ++ _ = _; rw [if_neg (by simpa using hq), List.append_nil]
          rw [show (n / 2) % 2 = 0 by omega] at hb
          have hb2 : (bits .and .i64 ((n : Int) / 2) 1 == 1) = false := by rw [hb]; rfl
          have HST : Hid _ := hst
          clear hst hq hb hl hlt hk
          go_wp2
          go_roundw
          case rel => exact ⟨2, by omega, rfl, by rw [HST.out]; exact hown, hx⟩
          case measure => simp [intOf]
      · have hb : bits .and .i64 ((n : Int) / 4) 1 = (((n / 4) % 2 : Nat) : Int) := i64_and1 (n / 4)
        by_cases hq : (n / 4) % 2 = 1
        · have hst : encL n 3 = encL n 2 ++ [82] := by show encL n 2 ++ _ = _; rw [if_pos (by simpa using hq)]; rfl
          rw [hq] at hb
          have hb2 : (bits .and .i64 ((n : Int) / 4) 1 == 1) = true := by rw [hb]; rfl
          have HST : Hid _ := hst
          have ho := hown.alloc (.cells #[.int .u8 82] 5)
          have hu : (wr.alloc (.cells #[.int .u8 82] 5)).cell? ⟨wr.heap.size, 0, none⟩ = some (.int .u8 82) := by rw [heap_cell (heap_new wr (.cells #[.int .u8 82] 5))]; rfl
          have hxa : Ext w (wr.alloc (.cells #[.int .u8 82] 5)) := hx.alloc _
          have HU : Hid _ := hu
          clear hst hq hb hlt hk hown hu
          go_wp2_with (at_builtin; refine append_one rfl (.tmp 15) (.tmp 18) 74 rfl w.heap.size 5 i0 (.int .u8 0) 1 Tryz.underlying74 HI.out hz0 hz1 hz2 rfl _ _ _ rfl ho wr.heap.size 1 (.int .u8 82) rfl HU.out rfl (by unfold maxLen; omega) (by omega) hxa.size ?_; intro v' w1 hown' hgrow)
          have hx1 := grown_ext hxa ho hgrow
          clear HU ho hgrow hxa
          go_wp2
          go_roundw
          case rel => exact ⟨3, by omega, rfl, by rw [HST.out]; simpa [numL] using hown', hx1⟩
          case measure => simp [intOf]
        · have hst : encL n 3 = encL n 2 := by show encL n 2 ++ _ = _; rw [if_neg (by simpa using hq), List.append_nil]
          rw [show (n / 4) % 2 = 0 by omega] at hb
          have hb2 : (bits .and .i64 ((n : Int) / 4) 1 == 1) = false := by rw [hb]; rfl
          have HST : Hid _ := hst
          clear hst hq hb hl hlt hk
          go_wp2
          go_roundw
          case rel => exact ⟨3, by omega, rfl, by rw [HST.out]; exact hown, hx⟩
          case measure => simp [intOf]
      · have hb : bits .and .i64 ((n : Int) / 8) 1 = (((n / 8) % 2 : Nat) : Int) := i64_and1 (n / 8)
        by_cases hq : (n / 8) % 2 = 1
        · have hst : encL n 4 = encL n 3 ++ [80] := by show encL n 3 ++ _ = _; rw [if_pos (by simpa using hq)]; rfl
          rw [hq] at hb
          have hb2 : (bits .and .i64 ((n : Int) / 8) 1 == 1) = true := by rw [hb]; rfl
          have HST : Hid _ := hst
          have ho := hown.alloc (.cells #[.int .u8 80] 5)
          have hu : (wr.alloc (.cells #[.int .u8 80] 5)).cell? ⟨wr.heap.size, 0, none⟩ = some (.int .u8 80) := by rw [heap_cell (heap_new wr (.cells #[.int .u8 80] 5))]; rfl
          have hxa : Ext w (wr.alloc (.cells #[.int .u8 80] 5)) := hx.alloc _
          have HU : Hid _ := hu
          clear hst hq hb hlt hk hown hu
          go_wp2_with (at_builtin; refine append_one rfl (.tmp 15) (.tmp 18) 74 rfl w.heap.size 5 i0 (.int .u8 0) 1 Tryz.underlying74 HI.out hz0 hz1 hz2 rfl _ _ _ rfl ho wr.heap.size 1 (.int .u8 80) rfl HU.out rfl (by unfold maxLen; omega) (by omega) hxa.size ?_; intro v' w1 hown' hgrow)
          have hx1 := grown_ext hxa ho hgrow
          clear HU ho hgrow hxa
          go_wp2
          go_roundw
          case rel => exact ⟨4, by omega, rfl, by rw [HST.out]; simpa [numL] using hown', hx1⟩
          case measure => simp [intOf]
        · have hst : encL n 4 = encL n 3 := by show encL n 3 ++ _ = _; rw [if_neg (by simpa using hq), List.append_nil]
          rw [show (n / 8) % 2 = 0 by omega] at hb
          have hb2 : (bits .and .i64 ((n : Int) / 8) 1 == 1) = false := by rw [hb]; rfl
          have HST : Hid _ := hst
          clear hst hq hb hl hlt hk
          go_wp2
          go_roundw
          case rel => exact ⟨4, by omega, rfl, by rw [HST.out]; exact hown, hx⟩
          case measure => simp [intOf]
      · have hb : bits .and .i64 ((n : Int) / 16) 1 = (((n / 16) % 2 : Nat) : Int) := i64_and1 (n / 16)
        by_cases hq : (n / 16) % 2 = 1
        · have hst : encL n 5 = encL n 4 ++ [65] := by show encL n 4 ++ _ = _; rw [if_pos (by simpa using hq)]; rfl
          rw [hq] at hb
          have hb2 : (bits .and .i64 ((n : Int) / 16) 1 == 1) = true := by rw [hb]; rfl
          have HST : Hid _ := hst
          have ho := hown.alloc (.cells #[.int .u8 65] 5)
          have hu : (wr.alloc (.cells #[.int .u8 65] 5)).cell? ⟨wr.heap.size, 0, none⟩ = some (.int .u8 65) := by rw [heap_cell (heap_new wr (.cells #[.int .u8 65] 5))]; rfl
          have hxa : Ext w (wr.alloc (.cells #[.int .u8 65] 5)) := hx.alloc _
          have HU : Hid _ := hu
          clear hst hq hb hlt hk hown hu
          go_wp2_with (at_builtin; refine append_one rfl (.tmp 15) (.tmp 18) 74 rfl w.heap.size 5 i0 (.int .u8 0) 1 Tryz.underlying74 HI.out hz0 hz1 hz2 rfl _ _ _ rfl ho wr.heap.size 1 (.int .u8 65) rfl HU.out rfl (by unfold maxLen; omega) (by omega) hxa.size ?_; intro v' w1 hown' hgrow)
          have hx1 := grown_ext hxa ho hgrow
          clear HU ho hgrow hxa
          go_wp2
          go_roundw
          case rel => exact ⟨5, by omega, rfl, by rw [HST.out]; simpa [numL] using hown', hx1⟩
          case measure => simp [intOf]
        · have hst : encL n 5 = encL n 4 := by show encL n 4 ++ _ = _; rw [if_neg (by simpa using hq), List.append_nil]
          rw [show (n / 16) % 2 = 0 by omega] at hb
          have hb2 : (bits .and .i64 ((n : Int) / 16) 1 == 1) = false := by rw [hb]; rfl
          have HST : Hid _ := hst
          clear hst hq hb hl hlt hk
          go_wp2
          go_roundw
          case rel => exact ⟨5, by omega, rfl, by rw [HST.out]; exact hown, hx⟩
          case measure => simp [intOf]
      · have hb : bits .and .i64 ((n : Int) / 32) 1 = (((n / 32) % 2 : Nat) : Int) := i64_and1 (n / 32)
        by_cases hq : (n / 32) % 2 = 1
        · have hst : encL n 6 = encL n 5 ++ [85] := by show encL n 5 ++ _ = _; rw [if_pos (by simpa using hq)]; rfl
          rw [hq] at hb
          have hb2 : (bits .and .i64 ((n : Int) / 32) 1 == 1) = true := by rw [hb]; rfl
          have HST : Hid _ := hst
          have ho := hown.alloc (.cells #[.int .u8 85] 5)
          have hu : (wr.alloc (.cells #[.int .u8 85] 5)).cell? ⟨wr.heap.size, 0, none⟩ = some (.int .u8 85) := by rw [heap_cell (heap_new wr (.cells #[.int .u8 85] 5))]; rfl
          have hxa : Ext w (wr.alloc (.cells #[.int .u8 85] 5)) := hx.alloc _
          have HU : Hid _ := hu
          clear hst hq hb hlt hk hown hu
          go_wp2_with (at_builtin; refine append_one rfl (.tmp 15) (.tmp 18) 74 rfl w.heap.size 5 i0 (.int .u8 0) 1 Tryz.underlying74 HI.out hz0 hz1 hz2 rfl _ _ _ rfl ho wr.heap.size 1 (.int .u8 85) rfl HU.out rfl (by unfold maxLen; omega) (by omega) hxa.size ?_; intro v' w1 hown' hgrow)
          have hx1 := grown_ext hxa ho hgrow
          clear HU ho hgrow hxa
          go_wp2
          go_roundw
          case rel => exact ⟨6, by omega, rfl, by rw [HST.out]; simpa [numL] using hown', hx1⟩
          case measure => simp [intOf]
        · have hst : encL n 6 = encL n 5 := by show encL n 5 ++ _ = _; rw [if_neg (by simpa using hq), List.append_nil]
          rw [show (n / 32) % 2 = 0 by omega] at hb
          have hb2 : (bits .and .i64 ((n : Int) / 32) 1 == 1) = false := by rw [hb]; rfl
          have HST : Hid _ := hst
          clear hst hq hb hl hlt hk
          go_wp2
          go_roundw
          case rel => exact ⟨6, by omega, rfl, by rw [HST.out]; exact hown, hx⟩
          case measure => simp [intOf]
    · obtain rfl : k = 6 := by omega
      rw [HE.out] at hown
      obtain ⟨a, c, rfl, hby, _⟩ := owns_bytes hown (numL_ok _)
      have hcv := hby.string (P := Tryz.prog) c 74 5 9 Tryz.underlying74 Tryz.underlying5 Tryz.underlying9
      rw [numL_txt] at hcv
      generalize (lettersP n).length = m at *
      obtain ⟨T, hT⟩ : ∃ T, txt (lettersP n) = T := ⟨_, rfl⟩
      rw [hT] at hcv
      have HT : Hid _ := hT
      clear hown hby hlt hk hT
      go_wp2
      go_ret
      exact ⟨by rw [HT.out]; rfl, hx⟩
end Go.Proofs.YtbmmgjmmooakpaaGreatDoor.Ru

namespace Go.Proofs.YtbmmgjmmooakpaaGreatDoor.Ru
open Go.RowKit
set_option linter.unusedVariables false
set_option maxRecDepth 100000

/-- A row of words of the call's own: its blocks lie from N on. -/
def OwnW (N : Nat) (w : World) (v : Value) (L : WL) : Prop := w.ownsRow N 9 1 v L.length (L.map Value.string)

theorem OwnW.none (N : Nat) (w : World) : OwnW N w (.slice none 0 0) [] := World.ownsRow_nil _ _ _ _

theorem OwnW.later {N : Nat} {w w' : World} {v : Value} {L : WL} (h : OwnW N w v L) (hx : Ext w w') : OwnW N w' v L := by
  obtain ⟨hl, h⟩ := h
  refine ⟨hl, ?_⟩
  rcases h with h | ⟨g, cap, cur, rfl, hb, hg, hr⟩
  · exact .inl h
  · exact .inr ⟨g, cap, cur, rfl, hb, by rw [hx.block g (heap_lt hg)]; exact hg, hr⟩

theorem OwnW.slice {N : Nat} {w : World} {v : Value} {L : WL} (h : OwnW N w v L) : ∃ a c, v = .slice a L.length c := by
  obtain ⟨hl, h⟩ := h
  rcases h with ⟨h1, h2⟩ | ⟨g, c, _, h, _⟩
  · exact ⟨Option.none, 0, by rw [h1, h2]⟩
  · exact ⟨_, _, h⟩

/-- w' is W with new blocks behind; of those from N on only blocks of words may have been written. -/
structure ExtW (N : Nat) (W w' : World) : Prop where
  os : w'.os = W.os
  tape : w'.tape = W.tape
  output : w'.output = W.output
  size : W.heap.size ≤ w'.heap.size
  block : ∀ k, k < W.heap.size → (k < N ∨ ∀ cs p, W.heap[k]? ≠ some (.cells cs 9 p)) → w'.heap[k]? = W.heap[k]?

theorem ExtW.refl (N : Nat) (W : World) : ExtW N W W := ⟨rfl, rfl, rfl, Nat.le_refl _, fun _ _ _ => rfl⟩
theorem ExtW.trans {N : Nat} {A B C : World} (h : ExtW N A B) (k : ExtW N B C) : ExtW N A C :=
  ⟨k.os.trans h.os, k.tape.trans h.tape, k.output.trans h.output, Nat.le_trans h.size k.size, fun i hi hx => by
    have h1 := h.block i hi hx
    rw [← h1]
    exact k.block i (Nat.lt_of_lt_of_le hi h.size) (hx.imp id (fun q => by rw [h1]; exact q))⟩
theorem ExtW.of {A B : World} (h : Ext A B) (N : Nat) : ExtW N A B := ⟨h.os, h.tape, h.output, h.size, fun k hk _ => h.block k hk⟩
theorem ExtW.ext {N : Nat} {A B C : World} (h : Ext A B) (k : ExtW N B C) (hN : A.heap.size ≤ N) : Ext A C :=
  ⟨k.os.trans h.os, k.tape.trans h.tape, k.output.trans h.output, Nat.le_trans h.size k.size, fun i hi => (k.block i (Nat.lt_of_lt_of_le hi h.size) (.inl (Nat.lt_of_lt_of_le hi hN))).trans (h.block i hi)⟩
theorem ExtW.heap {N : Nat} {A B : World} (h : ExtW N A B) {b : Nat} {cs : Array Value} {t : TypeId} {p : Nat × Nat} (k : A.heap[b]? = some (.cells cs t p)) (ht : t ≠ 9) : B.heap[b]? = some (.cells cs t p) :=
  (h.block b (heap_lt k) (.inr fun cs' p' e => by rw [k] at e; cases e; exact ht rfl)).trans k
theorem ExtW.tab {N : Nat} {A B : World} (h : ExtW N A B) (ht : Tab A) (hN : ∀ C, Ext C A → True) (hx : ∃ C, Ext C A ∧ C.heap.size ≤ N ∧ Tab C) : Tab B := by
  obtain ⟨C, h1, h2, h3⟩ := hx
  exact h3.later (ExtW.ext h1 h h2)

/-- A row that grew in place, or anew. -/
theorem grown_W {N : Nat} {w w' : World} {v : Value} {n : Nat} {ys : List Value} (hown : w.ownsRow N 9 1 v n ys) (hg : w.grownBy w' v.ownBlock) : ExtW N w w' :=
  ⟨hg.os, hg.tape, hg.output, hg.size, fun k hk hx => hg.block k hk (fun e => by
    have := (hown.lt k e.symm).1
    rcases hx with hx | hx
    · omega
    · obtain ⟨hl, h⟩ := hown
      rcases h with ⟨h, _⟩ | ⟨g, cap, cur, h, _, hc, _⟩
      · rw [h] at e; simp [Value.ownBlock] at e
      · rw [h] at e
        simp [Value.ownBlock] at e
        subst e
        exact hx _ _ hc)⟩

/-- What a step on a row of words answers. -/
def WordsAns (N : Nat) (L : WL) (w : World) (e : Ending) (w' : World) : Prop := ∃ v, e = .returned v ∧ OwnW N w' v L ∧ ExtW N w w'

/-- Words that stand in a block, one by one. -/
def LitW (w : World) (g : Nat) (ws : WL) : Prop := ∀ (j : Nat) (x : ByteArray), ws[j]? = some x → w.cell? ⟨g, j, none⟩ = some (.string x)

theorem append_words {P : Program} {w : World} {o : Oper} {a : Act} {K : Act → World → Prop} {Q : Exit → Act → World → Prop} (s x : Operand) (t : TypeId)
    (ho : o.op = .call { callee := .builtin .append, args := #[s, x], argTypes := #[t, t] })
    (N : Nat) (i : TypeInfo) (ht : P.underlying t = some (.slice 9)) (hi : P.info? 9 = some i) (hz : i.zero = some (.string ⟨#[]⟩)) (hsize : i.size = 1) (hby : i.bytes = 16)
    (v : Value) (L : WL) (hs : a.eval s = v) (hown : OwnW N w v L)
    (g m c : Nat) (ws : WL) (hx : a.eval x = .slice (some ⟨g, 0, none⟩) m c) (hm : m = ws.length) (hw : LitW w g ws) (hsm : L.length + ws.length ≤ 1000) (hN : N ≤ w.heap.size)
    (h : ∀ v' w', OwnW N w' v' (L ++ ws) → ExtW N w w' → K (a.put o.dst v') w') : o.wp P a w K Q := by
  subst hm
  refine wp_append_own w s x t ho N 9 i (.string ⟨#[]⟩) 1 16 ht hi hz hsize hby rfl (by omega) v L.length (L.map Value.string) hs hown ⟨g, 0, none⟩ ws.length c (ws.map Value.string) hx (by simp) ?_ ?_ (by unfold maxLen; omega) (by omega) hN ?_
  · intro j u hj
    rw [List.getElem?_map] at hj
    obtain ⟨y, hy, rfl⟩ := Option.map_eq_some_iff.1 hj
    have := hw j y hy
    by_cases h0 : j = 0
    · subst h0; simpa [Addr.add] using this
    · simpa [Addr.add, h0] using this
  · intro u hu
    obtain ⟨y, _, rfl⟩ := List.mem_map.1 hu
    rfl
  · intro v' w' h2 h3 _
    exact h v' w' (by unfold OwnW; rw [List.length_append, List.map_append]; exact h2) (grown_W hown h3)

theorem when_any (N : Nat) (v : Value) (L : WL) (st : Bool) (g : Nat) (ws : WL) (c : Nat) (w : World) (hown : OwnW N w v L) (hw : LitW w g ws) (hs : L.length + ws.length ≤ 1000) (hN : N ≤ w.heap.size) :
    Calls Tryz.prog 34 #[v, .bool st, .slice (some ⟨g, 0, none⟩) ws.length c] w (WordsAns N (L ++ optW st ws) w) := by
  obtain ⟨i0, hi, hz0, hz1, hz2⟩ := info_text
  have HI : Hid _ := hi
  have HW : Hid (LitW w g ws) := hw
  have HO : Hid (OwnW N w v L) := hown
  obtain ⟨m, hm⟩ : ∃ m, ws.length = m := ⟨_, rfl⟩
  rw [hm]
  have HM : Hid _ := hm
  have HS : Hid (L.length + ws.length ≤ 1000) := hs
  have HN : Hid (N ≤ w.heap.size) := hN
  clear hi hm hw hown hs hN
  cases st with
  | false =>
    have HA : Hid (∀ w', w' = w → WordsAns N (L ++ optW false ws) w (.returned v) w') := fun w' h => by
      subst h; exact ⟨v, rfl, by rw [show L ++ optW false ws = L by simp [optW]]; exact HO.out, ExtW.refl _ _⟩
    generalize WordsAns N (L ++ optW false ws) w = An at *
    go_enter Tryz.func34, Tryz.ntmps34
    go_wp2
    exact HA.out _ rfl
  | true =>
    have HA : Hid (∀ v' w', OwnW N w' v' (L ++ ws) → ExtW N w w' → WordsAns N (L ++ optW true ws) w (.returned v') w') := fun v' w' h1 h2 => ⟨v', rfl, h1, h2⟩
    generalize WordsAns N (L ++ optW true ws) w = An at *
    go_enter Tryz.func34, Tryz.ntmps34
    go_wp2_with (at_builtin; refine wpList_want rfl fun K hK => append_words (.tmp 10) (.tmp 11) 43 rfl N i0 Tryz.underlying43 HI.out hz0 hz1 hz2 _ L rfl HO.out g _ _ ws rfl HM.out.symm HW.out HS.out HN.out ?_; intro v' w1 ho hx1; refine hK _ _ ?_)
    exact HA.out _ _ ho hx1
end Go.Proofs.YtbmmgjmmooakpaaGreatDoor.Ru

namespace Go.Proofs.YtbmmgjmmooakpaaGreatDoor.Ru
open Go.RowKit
set_option linter.unusedVariables false
set_option maxRecDepth 100000

theorem lit_new (w : World) (ws : WL) (t : TypeId) : LitW (w.alloc (.cells (ws.map Value.string).toArray t)) w.heap.size ws := fun j x hj => by
  rw [heap_cell (heap_new w _)]
  simp [hj]

theorem ports_neq (a n : Int) (w : World) {al : Bool} (h : (a == 0 && n == 65535) = al) : (binOp .neq 26 (.agg #[.int .i64 a, .int .i64 n]) (.agg #[.int .i64 0, .int .i64 65535])).run Tryz.prog w = .ok (.bool (!al)) w := by
  rw [neq_ports, h]

theorem side_size2 : 28 ≠ 9 := by decide
theorem pin_size2 : 30 ≠ 9 := by decide
theorem rule_size2 : 32 ≠ 9 := by decide

set_option maxHeartbeats 2000000 in
theorem sideW_any (N : Nat) (v : Value) (L : WL) (t : ByteArray) (s : SideV) (w : World) (hown : OwnW N w v L) (hL : L.length ≤ 900) (hN : N ≤ w.heap.size) (hs : SideOk s) (hE : endB s = true) (hp : portsB s = true) (htb : ∀ w', ExtW N w w' → Tab w') :
    Calls Tryz.prog 36 #[v, .string t, (.agg #[.bool s.any, .string s.table, .int .u32 s.a, .int .i64 s.n, .int .i64 s.low, .int .i64 s.high])] w (WordsAns N (L ++ sideW t s) w) := by
  have c1 := fun w h => endText_any s w hs hE h
  have c2 := fun w => all_any w
  have c3 := fun w h => portsText_any s w hp h
  have c4 := fun N v L st g ws c w h1 h2 h3 h4 => when_any N v L st g ws c w h1 h2 h3 h4
  obtain ⟨al, hal⟩ : ∃ al, (s.low == 0 && s.high == 65535) = al := ⟨_, rfl⟩
  have hen := fun w => ports_neq s.low s.high w hal
  have hsd : sideW t s = t :: endT s :: optW (!al) [tPort, portsT s] := by rw [← hal]; rfl
  rw [hsd]
  generalize endT s = T at *
  generalize portsT s = P at *
  clear hal hsd hp hs hE
  obtain ⟨any, tab, a, n, lo, hi⟩ := s
  dsimp only at *
  obtain ⟨W, hW⟩ : ∃ W, w.alloc (.cells #[.bool any, .string tab, .int .u32 a, .int .i64 n, .int .i64 lo, .int .i64 hi] 28) = W := ⟨_, rfl⟩
  have hx0 : Ext w W := hW ▸ (Ext.refl w).alloc _
  have hb : W.heap[w.heap.size]? = some (.cells #[.bool any, .string tab, .int .u32 a, .int .i64 n, .int .i64 lo, .int .i64 hi] 28 (0, 0)) := hW ▸ heap_new w _
  have hbk : ∀ w', ExtW N W w' → w'.heap[w.heap.size]? = some (.cells #[.bool any, .string tab, .int .u32 a, .int .i64 n, .int .i64 lo, .int .i64 hi] 28 (0, 0)) := fun w' h => h.heap hb side_size2
  have b0 : W.cell? ⟨w.heap.size, 0, none⟩ = some (.bool any) := heap_cell hb
  have b1 : W.cell? ⟨w.heap.size, 1, none⟩ = some (.string tab) := heap_cell hb
  have b2 : W.cell? ⟨w.heap.size, 2, none⟩ = some (.int .u32 a) := heap_cell hb
  have b3 : W.cell? ⟨w.heap.size, 3, none⟩ = some (.int .i64 n) := heap_cell hb
  have b4 : W.cell? ⟨w.heap.size, 4, none⟩ = some (.int .i64 lo) := heap_cell hb
  have b5 : W.cell? ⟨w.heap.size, 5, none⟩ = some (.int .i64 hi) := heap_cell hb
  have HB : Hid _ := hbk
  have HT : Hid (∀ w', ExtW N W w' → Tab w') := fun w' h => htb w' ((ExtW.of hx0 N).trans h)
  have HO : Hid (OwnW N W v L) := hown.later hx0
  have HN : Hid (N ≤ W.heap.size) := Nat.le_trans hN hx0.size
  have HL : Hid (L.length ≤ 900) := hL
  have HA : Hid (∀ v' w', OwnW N w' v' ((L ++ [t, T]) ++ optW (!al) [tPort, P]) → ExtW N W w' → WordsAns N (L ++ (t :: T :: optW (!al) [tPort, P])) w (.returned v') w') := fun v' w' h1 h2 =>
    ⟨v', rfl, by rw [show L ++ (t :: T :: optW (!al) [tPort, P]) = (L ++ [t, T]) ++ optW (!al) [tPort, P] by simp]; exact h1, (ExtW.of hx0 N).trans h2⟩
  generalize WordsAns N _ w = An at *
  obtain ⟨i0, hi, hz0, hz1, hz2⟩ := info_text
  have HI : Hid _ := hi
  clear hi hb hbk htb hown hN hL hx0
  go_enter Tryz.func36, Tryz.ntmps36
  go_upto_region 2 with (first
    | (go_at_call 65; refine (c1 _ (HT.out _ (ExtW.refl N W))).mono ?_; rintro e w1 ⟨rfl, hx1⟩; have hxa := hx1.alloc (.cells #[.string t, .string T] 9); have HX1 : Hid _ := hxa; clear b0 b1 b2 b3 b4 b5)
    | (at_builtin; refine wpList_want rfl fun K hK => append_words (.tmp 7) (.tmp 11) 43 rfl N i0 Tryz.underlying43 HI.out hz0 hz1 hz2 _ L rfl (HO.out.later HX1.out) w1.heap.size _ _ [t, T] rfl rfl (lit_new w1 [t, T] _) (by have := HL.out; simp; omega) (Nat.le_trans HN.out HX1.out.size) ?_; intro v2 w2 ho2 hx2; refine hK _ _ ?_; clear hK K))
  have hX2 : ExtW N W w2 := (ExtW.of HX1.out N).trans hx2
  have hXD : ExtW N W w2.drew := hX2.trans (ExtW.of (Ext.refl w2).drew N)
  have hoD : OwnW N w2.drew v2 (L ++ [t, T]) := ho2.later (Ext.refl w2).drew
  refine wp_region_eagerR (ExtW N) (ExtW.refl N) (fun _ _ _ h k => ExtW.trans h k) [(0, false), (1, false), (2, false), (5, false), (6, false), (3, true), (4, false), (7, true), (8, true), (9, true), (10, false)] (by kernel_rfl) (by kernel_rfl) rfl (by kernel_rfl) (fun _ _ _ _ _ h => h) ?_
  generalize w2.drew = WD at *
  have y4 : ∀ w', ExtW N WD w' → w'.cell? ⟨w.heap.size, 4, none⟩ = some (.int .i64 lo) := fun w' h => heap_cell (HB.out _ (hXD.trans h))
  have y5 : ∀ w', ExtW N WD w' → w'.cell? ⟨w.heap.size, 5, none⟩ = some (.int .i64 hi) := fun w' h => heap_cell (HB.out _ (hXD.trans h))
  have HOD : Hid (OwnW N WD v2 (L ++ [t, T])) := hoD
  have HXD : Hid (ExtW N W WD) := hXD
  have HND : Hid (N ≤ WD.heap.size) := Nat.le_trans HN.out hXD.size
  clear hX2 hx2 ho2 hoD hXD HX1 hxa c1
  iterate 5 (refine wpE_read (v := ?_) rfl (by rfl) ?_ ?_; rotate_left; (focus (intro w' hx; go_simp; first | done | with_reducible rfl)); simp only [Act.put, List.setIfInBounds_toArray, List.set_cons_zero, List.set_cons_succ])
  (refine wpE_call rfl (by rfl) (fun K hK => ?_); go_simp)
  go_at_call 66
  refine (c2 _).mono ?_
  rintro e w3 ⟨rfl, hx3⟩
  refine hK _ _ (ExtW.of hx3 N) ?_
  clear hK K c2
  (refine wpE_read (v := ?_) rfl (by rfl) ?_ ?_; rotate_left; (focus (intro w' hx; go_simp; first | done | with_reducible rfl)); simp only [Act.put, List.setIfInBounds_toArray, List.set_cons_zero, List.set_cons_succ])
  (refine wpE_call rfl (by rfl) (fun K hK => ?_); go_simp)
  go_at_call 67
  refine (c3 _ (HT.out _ (HXD.out.trans (ExtW.of hx3 N)))).mono ?_
  rintro e w4 ⟨rfl, hx4⟩
  refine hK _ _ (ExtW.of hx4 N) ?_
  clear hK K c3
  (refine wpE_call rfl (by rfl) (fun K hK => ?_); go_simp)
  have hx5 := (hx3.trans hx4).alloc (.cells #[.string tPort, .string P] 9)
  refine hK _ _ (ExtW.of ((Ext.refl w4).alloc _) N) ?_
  clear hK K
  (refine wpE_call rfl (by rfl) (fun K hK => ?_); go_simp)
  go_at_call 34
  refine (c4 N v2 (L ++ [t, T]) (!al) w4.heap.size [tPort, P] _ _ (HOD.out.later hx5) (lit_new w4 [tPort, P] _) (by have := HL.out; simp; omega) (Nat.le_trans HND.out hx5.size)).mono ?_
  rintro e w6 ⟨v6, rfl, ho6, hx6⟩
  refine hK _ _ hx6 ?_
  clear hK K c4
  (refine wpE_read (v := ?_) rfl (by rfl) ?_ ?_; rotate_left; (focus (intro w' hx; go_simp; first | done | with_reducible rfl)); simp only [Act.put, List.setIfInBounds_toArray, List.set_cons_zero, List.set_cons_succ])
  refine wpE_done ?_
  go_wp2
  exact HA.out _ _ ho6 ((HXD.out.trans (ExtW.of hx5 N)).trans hx6)

set_option maxHeartbeats 2000000 in
theorem pinW_any (N : Nat) (v : Value) (L : WL) (t : ByteArray) (p : PinV) (w : World) (hown : OwnW N w v L) (hL : L.length ≤ 900) (hN : N ≤ w.heap.size) (hs : PinOk p) (htb : ∀ w', ExtW N w w' → Tab w') :
    Calls Tryz.prog 39 #[v, .string t, (.agg #[.bool p.on, .string p.iface, .int .u32 p.gate])] w (WordsAns N (L ++ pinW t p) w) := by
  have c1 := fun w h => print_any p.gate w hs.g0 hs.g1 h
  have c4 := fun N v L st g ws c w h1 h2 h3 h4 => when_any N v L st g ws c w h1 h2 h3 h4
  unfold pinW
  generalize printB p.gate = G at *
  clear hs
  obtain ⟨on, ifc, g⟩ := p
  dsimp only at *
  obtain ⟨W, hW⟩ : ∃ W, w.alloc (.cells #[.bool on, .string ifc, .int .u32 g] 30) = W := ⟨_, rfl⟩
  have hx0 : Ext w W := hW ▸ (Ext.refl w).alloc _
  have hb : W.heap[w.heap.size]? = some (.cells #[.bool on, .string ifc, .int .u32 g] 30 (0, 0)) := hW ▸ heap_new w _
  have HA : Hid (∀ v' w', OwnW N w' v' (L ++ optW on [t, ifc, G]) → ExtW N W w' → WordsAns N (L ++ optW on [t, ifc, G]) w (.returned v') w') := fun v' w' h1 h2 => ⟨v', rfl, h1, (ExtW.of hx0 N).trans h2⟩
  generalize WordsAns N _ w = An at *
  have HB : Hid (∀ w', Ext W w' → w'.heap[w.heap.size]? = some (.cells #[.bool on, .string ifc, .int .u32 g] 30 (0, 0))) := fun w' h => h.heap hb
  have HT : Hid (Tab W.drew) := htb _ ((ExtW.of hx0 N).trans (ExtW.of (Ext.refl W).drew N))
  have HO : Hid (OwnW N W.drew v L) := hown.later (hx0.trans (Ext.refl W).drew)
  have HN : Hid (N ≤ W.drew.heap.size) := Nat.le_trans hN (hx0.trans (Ext.refl W).drew).size
  have HL : Hid (L.length ≤ 900) := hL
  have HX : Hid (ExtW N W W.drew) := ExtW.of (Ext.refl W).drew N
  have y0 : ∀ w', Ext W.drew w' → w'.cell? ⟨w.heap.size, 0, none⟩ = some (.bool on) := fun w' h => heap_cell (HB.out _ ((Ext.refl W).drew.trans h))
  have y1 : ∀ w', Ext W.drew w' → w'.cell? ⟨w.heap.size, 1, none⟩ = some (.string ifc) := fun w' h => heap_cell (HB.out _ ((Ext.refl W).drew.trans h))
  have y2 : ∀ w', Ext W.drew w' → w'.cell? ⟨w.heap.size, 2, none⟩ = some (.int .u32 g) := fun w' h => heap_cell (HB.out _ ((Ext.refl W).drew.trans h))
  have hbW : ∀ w', ExtW N W.drew w' → w'.heap[w.heap.size]? = some (.cells #[.bool on, .string ifc, .int .u32 g] 30 (0, 0)) := fun w' h => h.heap (HB.out _ (Ext.refl W).drew) pin_size2
  have z0 : ∀ w', ExtW N W.drew w' → w'.cell? ⟨w.heap.size, 0, none⟩ = some (.bool on) := fun w' h => heap_cell (hbW _ h)
  have z1 : ∀ w', ExtW N W.drew w' → w'.cell? ⟨w.heap.size, 1, none⟩ = some (.string ifc) := fun w' h => heap_cell (hbW _ h)
  have z2 : ∀ w', ExtW N W.drew w' → w'.cell? ⟨w.heap.size, 2, none⟩ = some (.int .u32 g) := fun w' h => heap_cell (hbW _ h)
  clear hb htb hown hN hL hx0 hbW y0 y1 y2
  go_enter Tryz.func39, Tryz.ntmps39
  go_upto_region 1 with fail
  refine wp_region_eagerR (ExtW N) (ExtW.refl N) (fun _ _ _ h k => ExtW.trans h k) [(0, false), (1, false), (2, false), (3, false), (4, false), (5, false), (6, false), (7, false), (8, true), (9, true), (10, true), (11, false)] (by kernel_rfl) (by kernel_rfl) rfl (by kernel_rfl) (fun _ _ _ _ _ h => h) ?_
  generalize W.drew = WD at *
  iterate 8 (refine wpE_read (v := ?_) rfl (by rfl) ?_ ?_; rotate_left; (focus (intro w' hx; go_simp; first | done | with_reducible rfl)); simp only [Act.put, List.setIfInBounds_toArray, List.set_cons_zero, List.set_cons_succ])
  (refine wpE_call rfl (by rfl) (fun K hK => ?_); go_simp)
  go_at_call 69
  refine (c1 _ HT.out).mono ?_
  rintro e w4 ⟨rfl, hx4⟩
  refine hK _ _ (ExtW.of hx4 N) ?_
  clear hK K c1
  (refine wpE_call rfl (by rfl) (fun K hK => ?_); go_simp)
  have hx5 := hx4.alloc (.cells #[.string t, .string ifc, .string G] 9)
  refine hK _ _ (ExtW.of ((Ext.refl w4).alloc _) N) ?_
  clear hK K
  (refine wpE_call rfl (by rfl) (fun K hK => ?_); go_simp)
  go_at_call 34
  refine (c4 N v L on w4.heap.size [t, ifc, G] _ _ (HO.out.later hx5) (lit_new w4 [t, ifc, G] _) (by have := HL.out; simp; omega) (Nat.le_trans HN.out hx5.size)).mono ?_
  rintro e w6 ⟨v6, rfl, ho6, hx6⟩
  refine hK _ _ hx6 ?_
  clear hK K c4
  (refine wpE_read (v := ?_) rfl (by rfl) ?_ ?_; rotate_left; (focus (intro w' hx; go_simp; first | done | with_reducible rfl)); simp only [Act.put, List.setIfInBounds_toArray, List.set_cons_zero, List.set_cons_succ])
  refine wpE_done ?_
  go_wp2
  exact HA.out _ _ ho6 ((HX.out.trans (ExtW.of hx5 N)).trans hx6)
end Go.Proofs.YtbmmgjmmooakpaaGreatDoor.Ru

namespace Go.Proofs.YtbmmgjmmooakpaaGreatDoor.Ru
open Go.RowKit
set_option linter.unusedVariables false
set_option maxRecDepth 100000

theorem owns_words {N : Nat} {w : World} {v : Value} {L : WL} (h : OwnW N w v L) (h0 : 0 < L.length) :
    ∃ g c, v = .slice (some ⟨g, 0, none⟩) L.length c ∧ g < w.heap.size ∧ L.length ≤ c ∧ ∀ (j : Nat) x, L[j]? = some x → w.cell? ⟨g, 0 + j, none⟩ = some (.string x) := by
  obtain ⟨hl, h⟩ := h
  rcases h with ⟨h1, h2⟩ | ⟨g, cap, cur, rfl, hb, hg, hn, hm, hcs, hc⟩
  · omega
  · refine ⟨g, cap, rfl, heap_lt hg, hn, fun j x hj => ?_⟩
    have hjl := (List.getElem?_eq_some_iff.1 hj).1
    rw [heap_cell hg, Nat.zero_add, ← Array.getElem?_toList]
    have : (cur.toList.take (L.length * 1))[j]? = (L.map Value.string)[j]? := by rw [hc]
    rw [List.getElem?_take, if_pos (by omega)] at this
    rw [this, List.getElem?_map, hj]; rfl

theorem type_word {t : Int} (h : -1 ≤ t) : optW (t != -1) [tType, txt (Lib.itoa t)] = optW (!(t == -1)) [tType, decB t] := by
  by_cases h1 : t = -1
  · subst h1; rfl
  · have : txt (Lib.itoa t) = decB t := by
      unfold Lib.itoa decB txt
      rw [if_neg (by omega)]
    rw [this]; rfl

theorem act_word (p : Bool) : ([] ++ optW p [tPass]) ++ optW (!p) [tBlock] = [if p then tPass else tBlock] := by cases p <;> rfl

set_option maxHeartbeats 40000000 in
theorem rPrintGood_any (r : RuleV) (w : World) (hr : RuleOk r) (hI : isR r = true) (hs : Std w) : Calls Tryz.prog 16 #[(.agg #[.bool r.pass, .bool r.ret, .bool r.quick, .string r.on, .int .i64 r.proto, .bool r.src.any, .string r.src.table, .int .u32 r.src.a, .int .i64 r.src.n, .int .i64 r.src.low, .int .i64 r.src.high, .bool r.dst.any, .string r.dst.table, .int .u32 r.dst.a, .int .i64 r.dst.n, .int .i64 r.dst.low, .int .i64 r.dst.high, .int .i64 r.set, .int .i64 r.mask, .int .i64 r.type, .bool r.keep, .bool r.rt.on, .string r.rt.iface, .int .u32 r.rt.gate, .bool r.rp.on, .string r.rp.iface, .int .u32 r.rp.gate, .int .i64 r.table])] w fun e w' => e = .returned (.string (printR r)) ∧ Ext w w' := by
  have c0 := fun w => isRule_any r w hr
  rw [hI] at c0
  have hg := good_of hI hr
  obtain ⟨L0, hL0⟩ : ∃ L : WL, [] = L := ⟨_, rfl⟩
  have z0 : L0.length ≤ 0 := by rw [← hL0]; simp
  obtain ⟨L1, hL1⟩ : ∃ L, L0 ++ optW r.pass [tPass] = L := ⟨_, rfl⟩
  have z1 : L1.length ≤ 1 := by rw [← hL1]; have := opt_len r.pass [tPass]; simp only [List.length_append, List.length_cons, List.length_nil] at *; omega
  obtain ⟨L2, hL2⟩ : ∃ L, L1 ++ optW (!r.pass) [tBlock] = L := ⟨_, rfl⟩
  have z2 : L2.length ≤ 2 := by rw [← hL2]; have := opt_len (!r.pass) [tBlock]; simp only [List.length_append, List.length_cons, List.length_nil] at *; omega
  obtain ⟨L3, hL3⟩ : ∃ L, L2 ++ optW r.ret [tReturn] = L := ⟨_, rfl⟩
  have z3 : L3.length ≤ 3 := by rw [← hL3]; have := opt_len r.ret [tReturn]; simp only [List.length_append, List.length_cons, List.length_nil] at *; omega
  obtain ⟨L4, hL4⟩ : ∃ L, L3 ++ optW r.quick [tQuick] = L := ⟨_, rfl⟩
  have z4 : L4.length ≤ 4 := by rw [← hL4]; have := opt_len r.quick [tQuick]; simp only [List.length_append, List.length_cons, List.length_nil] at *; omega
  obtain ⟨L5, hL5⟩ : ∃ L, L4 ++ optW (!decide (r.on = txt [])) [tOn, r.on] = L := ⟨_, rfl⟩
  have z5 : L5.length ≤ 6 := by rw [← hL5]; have := opt_len (!decide (r.on = txt [])) [tOn, r.on]; simp only [List.length_append, List.length_cons, List.length_nil] at *; omega
  obtain ⟨L6, hL6⟩ : ∃ L, L5 ++ optW (r.proto != 0) [tProto, protoT r.proto] = L := ⟨_, rfl⟩
  have z6 : L6.length ≤ 8 := by rw [← hL6]; have := opt_len (r.proto != 0) [tProto, protoT r.proto]; simp only [List.length_append, List.length_cons, List.length_nil] at *; omega
  obtain ⟨L7, hL7⟩ : ∃ L, L6 ++ sideW tFrom r.src = L := ⟨_, rfl⟩
  have z7 : L7.length ≤ 12 := by rw [← hL7]; unfold sideW; have := opt_len (!allB r.src) [tPort, portsT r.src]; simp only [List.length_append, List.length_cons, List.length_nil] at *; omega
  obtain ⟨L8, hL8⟩ : ∃ L, L7 ++ sideW tTo r.dst = L := ⟨_, rfl⟩
  have z8 : L8.length ≤ 16 := by rw [← hL8]; unfold sideW; have := opt_len (!allB r.dst) [tPort, portsT r.dst]; simp only [List.length_append, List.length_cons, List.length_nil] at *; omega
  obtain ⟨L9, hL9⟩ : ∃ L, L8 ++ optW (r.mask != 0) [tFlags, flagsT r.set r.mask] = L := ⟨_, rfl⟩
  have z9 : L9.length ≤ 18 := by rw [← hL9]; have := opt_len (r.mask != 0) [tFlags, flagsT r.set r.mask]; simp only [List.length_append, List.length_cons, List.length_nil] at *; omega
  obtain ⟨L10, hL10⟩ : ∃ L, L9 ++ optW (r.type != -1) [tType, txt (Lib.itoa r.type)] = L := ⟨_, rfl⟩
  have z10 : L10.length ≤ 20 := by rw [← hL10]; have := opt_len (r.type != -1) [tType, txt (Lib.itoa r.type)]; simp only [List.length_append, List.length_cons, List.length_nil] at *; omega
  obtain ⟨L11, hL11⟩ : ∃ L, L10 ++ optW r.keep [tKeep] = L := ⟨_, rfl⟩
  have z11 : L11.length ≤ 21 := by rw [← hL11]; have := opt_len r.keep [tKeep]; simp only [List.length_append, List.length_cons, List.length_nil] at *; omega
  obtain ⟨L12, hL12⟩ : ∃ L, L11 ++ pinW tRouteTo r.rt = L := ⟨_, rfl⟩
  have z12 : L12.length ≤ 24 := by rw [← hL12]; unfold pinW; have := opt_len r.rt.on [tRouteTo, r.rt.iface, printB r.rt.gate]; simp only [List.length_append, List.length_cons, List.length_nil] at *; omega
  obtain ⟨L13, hL13⟩ : ∃ L, L12 ++ pinW tReplyTo r.rp = L := ⟨_, rfl⟩
  have z13 : L13.length ≤ 27 := by rw [← hL13]; unfold pinW; have := opt_len r.rp.on [tReplyTo, r.rp.iface, printB r.rp.gate]; simp only [List.length_append, List.length_cons, List.length_nil] at *; omega
  obtain ⟨L14, hL14⟩ : ∃ L, L13 ++ optW (r.table != 0) [tTable, decB r.table] = L := ⟨_, rfl⟩
  have z14 : L14.length ≤ 29 := by rw [← hL14]; have := opt_len (r.table != 0) [tTable, decB r.table]; simp only [List.length_append, List.length_cons, List.length_nil] at *; omega
  have hall : L14 = ruleW r := by
    rw [← hL14, ← hL13, ← hL12, ← hL11, ← hL10, ← hL9, ← hL8, ← hL7, ← hL6, ← hL5, ← hL4, ← hL3, ← hL2, ← hL1, ← hL0, act_word, type_word hg.t0]
    unfold ruleW tl12 tl11 tl10 tl9 tl8 tl7 tl6 tl5 tl4 tl3 tl2 tl1 actT
    simp only [List.append_assoc, List.cons_append, List.nil_append, List.append_nil]
    rfl
  have hsz := join_len _ (rule_words hg)
  have hln := rule_len r
  have hpr : printR r = ⟨(Lib.join (L14.map (·.data.toList)) (⟨#[32]⟩ : ByteArray).data.toList).toArray⟩ := by rw [hall]; rfl
  rw [← hall] at hsz
  have hne : 0 < L14.length := by rw [hall]; unfold ruleW; simp
  obtain ⟨R, hRR⟩ : ∃ R : ByteArray, (⟨(Lib.join (L14.map (·.data.toList)) (⟨#[32]⟩ : ByteArray).data.toList).toArray⟩ : ByteArray) = R := ⟨_, rfl⟩
  rw [hpr, hRR]
  have HRR : Hid _ := hRR
  clear hRR
  have hp0 := hg.p0
  have hp1 := hg.p1
  have hs0 := hg.s0
  have hs1 := hg.s1
  have hm0 := hg.m0
  have hm1 := hg.m1
  have ht0 := hg.t0
  have ht1 := hg.t1
  have hb0 := hg.b0
  have hb1 := hg.b1
  have hsp := hg.srcP
  have hes := hg.src
  have hed := hg.dst
  have hdp := hg.dstP
  have cP := fun w h => protoText_any r.proto w ⟨by omega, by omega⟩ h
  have cS := fun N v L w h1 h2 h3 h4 => sideW_any N v L tFrom r.src w h1 h2 h3 hr.src hes hsp h4
  have cD := fun N v L w h1 h2 h3 h4 => sideW_any N v L tTo r.dst w h1 h2 h3 hr.dst hed hdp h4
  have cR := fun N v L w h1 h2 h3 h4 => pinW_any N v L tRouteTo r.rt w h1 h2 h3 hr.rt h4
  have cQ := fun N v L w h1 h2 h3 h4 => pinW_any N v L tReplyTo r.rp w h1 h2 h3 hr.rp h4
  have cF := fun w => flagsText_any r.set.toNat w (by omega)
  have cM := fun w => flagsText_any r.mask.toNat w (by omega)
  rw [Int.toNat_of_nonneg hm0] at cM
  rw [Int.toNat_of_nonneg hs0] at cF
  have cT := fun w h => itoaAll_any r.type w (by omega) (by omega) h
  have cB := fun w h => itoa_any r.table w hb0 (by omega) h
  have zM := (letters_word r.mask.toNat (by omega)).2
  have zF := (letters_word r.set.toNat (by omega)).2
  rw [← txt_size] at zM zF
  have he := empT r.on
  generalize decide (r.on = txt []) = zo at *
  unfold flagsT at *
  generalize txt (lettersP r.mask.toNat) = fM at *
  generalize txt (lettersP r.set.toNat) = fS at *
  generalize protoT r.proto = pT at *
  generalize txt (Lib.itoa r.type) = dT at *
  generalize decB r.table = dB at *
  have H0 : Hid _ := hL0
  have H1 : Hid _ := hL1
  have H2 : Hid _ := hL2
  have H3 : Hid _ := hL3
  have H4 : Hid _ := hL4
  have H5 : Hid _ := hL5
  have H6 : Hid _ := hL6
  have H7 : Hid _ := hL7
  have H8 : Hid _ := hL8
  have H9 : Hid _ := hL9
  have H10 : Hid _ := hL10
  have H11 : Hid _ := hL11
  have H12 : Hid _ := hL12
  have H13 : Hid _ := hL13
  have H14 : Hid _ := hL14
  have HSZ : Hid _ := hsz
  clear hall hsz hpr hg hr hI hln hp0 hp1 hs0 hs1 hm0 hm1 ht0 ht1 hb0 hb1 hsp hdp hes hed hL0 hL1 hL2 hL3 hL4 hL5 hL6 hL7 hL8 hL9 hL10 hL11 hL12 hL13 hL14
  obtain ⟨pass, ret, quick, on, proto, ⟨sany, stab, sa, sn, slo, shi⟩, ⟨dany, dtab, da, dn, dlo, dhi⟩, set, mask, type, keep, ⟨ton, tif, tg⟩, ⟨pon, pif, pg⟩, table⟩ := r
  dsimp only at *
  obtain ⟨W, hW⟩ : ∃ W, w.alloc (.cells #[.bool pass, .bool ret, .bool quick, .string on, .int .i64 proto, .bool sany, .string stab, .int .u32 sa, .int .i64 sn, .int .i64 slo, .int .i64 shi, .bool dany, .string dtab, .int .u32 da, .int .i64 dn, .int .i64 dlo, .int .i64 dhi, .int .i64 set, .int .i64 mask, .int .i64 type, .bool keep, .bool ton, .string tif, .int .u32 tg, .bool pon, .string pif, .int .u32 pg, .int .i64 table] 32) = W := ⟨_, rfl⟩
  have hx0 : Ext w W := hW ▸ (Ext.refl w).alloc _
  have hb : W.heap[w.heap.size]? = some (.cells #[.bool pass, .bool ret, .bool quick, .string on, .int .i64 proto, .bool sany, .string stab, .int .u32 sa, .int .i64 sn, .int .i64 slo, .int .i64 shi, .bool dany, .string dtab, .int .u32 da, .int .i64 dn, .int .i64 dlo, .int .i64 dhi, .int .i64 set, .int .i64 mask, .int .i64 type, .bool keep, .bool ton, .string tif, .int .u32 tg, .bool pon, .string pif, .int .u32 pg, .int .i64 table] 32 (0, 0)) := hW ▸ heap_new w _
  have hN : w.heap.size ≤ W.heap.size := hx0.size
  obtain ⟨N, hNN⟩ : ∃ N, w.heap.size = N := ⟨_, rfl⟩
  have HB : Hid (∀ w', ExtW N W w' → w'.heap[w.heap.size]? = some (.cells #[.bool pass, .bool ret, .bool quick, .string on, .int .i64 proto, .bool sany, .string stab, .int .u32 sa, .int .i64 sn, .int .i64 slo, .int .i64 shi, .bool dany, .string dtab, .int .u32 da, .int .i64 dn, .int .i64 dlo, .int .i64 dhi, .int .i64 set, .int .i64 mask, .int .i64 type, .bool keep, .bool ton, .string tif, .int .u32 tg, .bool pon, .string pif, .int .u32 pg, .int .i64 table] 32 (0, 0))) := fun w' h => h.heap hb rule_size2
  have HT : Hid (∀ w', ExtW N W w' → Tab w') := fun w' h => hs.tab.later (ExtW.ext hx0 h (by omega))
  have HE : Hid (∀ w', ExtW N W w' → Ext w w') := fun w' h => ExtW.ext hx0 h (by omega)
  have HN : Hid (∀ w', ExtW N W w' → N ≤ w'.heap.size) := fun w' h => Nat.le_trans (by omega) h.size
  have x0 : ∀ w', ExtW N W w' → w'.cell? ⟨w.heap.size, 0, none⟩ = some (.bool pass) := fun w' h => heap_cell (HB.out w' h)
  have x1 : ∀ w', ExtW N W w' → w'.cell? ⟨w.heap.size, 1, none⟩ = some (.bool ret) := fun w' h => heap_cell (HB.out w' h)
  have x2 : ∀ w', ExtW N W w' → w'.cell? ⟨w.heap.size, 2, none⟩ = some (.bool quick) := fun w' h => heap_cell (HB.out w' h)
  have x3 : ∀ w', ExtW N W w' → w'.cell? ⟨w.heap.size, 3, none⟩ = some (.string on) := fun w' h => heap_cell (HB.out w' h)
  have x4 : ∀ w', ExtW N W w' → w'.cell? ⟨w.heap.size, 4, none⟩ = some (.int .i64 proto) := fun w' h => heap_cell (HB.out w' h)
  have x5 : ∀ w', ExtW N W w' → w'.cell? ⟨w.heap.size, 5, none⟩ = some (.bool sany) := fun w' h => heap_cell (HB.out w' h)
  have x6 : ∀ w', ExtW N W w' → w'.cell? ⟨w.heap.size, 6, none⟩ = some (.string stab) := fun w' h => heap_cell (HB.out w' h)
  have x7 : ∀ w', ExtW N W w' → w'.cell? ⟨w.heap.size, 7, none⟩ = some (.int .u32 sa) := fun w' h => heap_cell (HB.out w' h)
  have x8 : ∀ w', ExtW N W w' → w'.cell? ⟨w.heap.size, 8, none⟩ = some (.int .i64 sn) := fun w' h => heap_cell (HB.out w' h)
  have x9 : ∀ w', ExtW N W w' → w'.cell? ⟨w.heap.size, 9, none⟩ = some (.int .i64 slo) := fun w' h => heap_cell (HB.out w' h)
  have x10 : ∀ w', ExtW N W w' → w'.cell? ⟨w.heap.size, 10, none⟩ = some (.int .i64 shi) := fun w' h => heap_cell (HB.out w' h)
  have x11 : ∀ w', ExtW N W w' → w'.cell? ⟨w.heap.size, 11, none⟩ = some (.bool dany) := fun w' h => heap_cell (HB.out w' h)
  have x12 : ∀ w', ExtW N W w' → w'.cell? ⟨w.heap.size, 12, none⟩ = some (.string dtab) := fun w' h => heap_cell (HB.out w' h)
  have x13 : ∀ w', ExtW N W w' → w'.cell? ⟨w.heap.size, 13, none⟩ = some (.int .u32 da) := fun w' h => heap_cell (HB.out w' h)
  have x14 : ∀ w', ExtW N W w' → w'.cell? ⟨w.heap.size, 14, none⟩ = some (.int .i64 dn) := fun w' h => heap_cell (HB.out w' h)
  have x15 : ∀ w', ExtW N W w' → w'.cell? ⟨w.heap.size, 15, none⟩ = some (.int .i64 dlo) := fun w' h => heap_cell (HB.out w' h)
  have x16 : ∀ w', ExtW N W w' → w'.cell? ⟨w.heap.size, 16, none⟩ = some (.int .i64 dhi) := fun w' h => heap_cell (HB.out w' h)
  have x17 : ∀ w', ExtW N W w' → w'.cell? ⟨w.heap.size, 17, none⟩ = some (.int .i64 set) := fun w' h => heap_cell (HB.out w' h)
  have x18 : ∀ w', ExtW N W w' → w'.cell? ⟨w.heap.size, 18, none⟩ = some (.int .i64 mask) := fun w' h => heap_cell (HB.out w' h)
  have x19 : ∀ w', ExtW N W w' → w'.cell? ⟨w.heap.size, 19, none⟩ = some (.int .i64 type) := fun w' h => heap_cell (HB.out w' h)
  have x20 : ∀ w', ExtW N W w' → w'.cell? ⟨w.heap.size, 20, none⟩ = some (.bool keep) := fun w' h => heap_cell (HB.out w' h)
  have x21 : ∀ w', ExtW N W w' → w'.cell? ⟨w.heap.size, 21, none⟩ = some (.bool ton) := fun w' h => heap_cell (HB.out w' h)
  have x22 : ∀ w', ExtW N W w' → w'.cell? ⟨w.heap.size, 22, none⟩ = some (.string tif) := fun w' h => heap_cell (HB.out w' h)
  have x23 : ∀ w', ExtW N W w' → w'.cell? ⟨w.heap.size, 23, none⟩ = some (.int .u32 tg) := fun w' h => heap_cell (HB.out w' h)
  have x24 : ∀ w', ExtW N W w' → w'.cell? ⟨w.heap.size, 24, none⟩ = some (.bool pon) := fun w' h => heap_cell (HB.out w' h)
  have x25 : ∀ w', ExtW N W w' → w'.cell? ⟨w.heap.size, 25, none⟩ = some (.string pif) := fun w' h => heap_cell (HB.out w' h)
  have x26 : ∀ w', ExtW N W w' → w'.cell? ⟨w.heap.size, 26, none⟩ = some (.int .u32 pg) := fun w' h => heap_cell (HB.out w' h)
  have x27 : ∀ w', ExtW N W w' → w'.cell? ⟨w.heap.size, 27, none⟩ = some (.int .i64 table) := fun w' h => heap_cell (HB.out w' h)
  have hX := ExtW.refl N W
  clear hs hx0 hb hN hNN
  go_enter Tryz.func16, Tryz.ntmps16
  go_upto_region 3 with (first
    | (go_at_call 18; refine (c0 _).mono ?_; rintro e w1 ⟨rfl, hx1⟩; replace hX := hX.trans (ExtW.of hx1 N); clear hx1 c0)
    | (refine wpl_load (by rfl) 32 _ rfl w.heap.size _ _ _ rfl (HB.out _ hX) Tryz.underlying32 rfl rule_size ?_))
  go_cut [3] from 4 (fun v wx => OwnW N wx v L1 ∧ ExtW N W wx)
  case first => as_aux_lemma =>
    have ho : OwnW N w1 (.slice none 0 0) L0 := by rw [← H0.out]; exact OwnW.none N w1
    clear cP cS cD cR cQ cF cM cT cB
    have HX : Hid (ExtW N W w1) := hX
    have HO : Hid (OwnW N w1 (.slice none 0 0) L0) := ho
    clear ho
    go_wp2_with (go_at_call 34; refine (when_any N (.slice none 0 0) L0 pass w1.heap.size [tPass] _ _ (HO.out.later ((Ext.refl w1).alloc _)) (lit_new w1 [tPass] _) (by simp; omega) (HN.out _ (HX.out.trans (ExtW.of ((Ext.refl w1).alloc _) N)))).mono ?_; rintro e w2 ⟨v2, rfl, ho2, hx2⟩)
    go_meet
    case rel => exact ⟨H1.out ▸ ho2, (HX.out.trans (ExtW.of ((Ext.refl w1).alloc _) N)).trans hx2⟩
  obtain ⟨hoc, hXc⟩ := hcut
  clear hX
  have hX := hXc
  have ho := hoc
  clear hXc hoc
  go_upto_region 4 with fail
  go_cut [3] from 4 (fun v wx => OwnW N wx v L2 ∧ ExtW N W wx)
  case first => as_aux_lemma =>
    clear cP cS cD cR cQ cF cM cT cB
    have HX : Hid (ExtW N W wc) := hX
    have HO : Hid (OwnW N wc u3 L1) := ho
    clear ho
    go_wp2_with (go_at_call 34; refine (when_any N u3 L1 (!pass) wc.heap.size [tBlock] _ _ (HO.out.later ((Ext.refl wc).alloc _)) (lit_new wc [tBlock] _) (by simp; omega) (HN.out _ (HX.out.trans (ExtW.of ((Ext.refl wc).alloc _) N)))).mono ?_; rintro e w2 ⟨v2, rfl, ho2, hx2⟩)
    go_meet
    case rel => exact ⟨H2.out ▸ ho2, (HX.out.trans (ExtW.of ((Ext.refl wc).alloc _) N)).trans hx2⟩
  obtain ⟨hoc, hXc⟩ := hcut
  clear hX ho
  have hX := hXc
  have ho := hoc
  clear hXc hoc
  go_upto_region 5 with fail
  go_cut [3] from 4 (fun v wx => OwnW N wx v L3 ∧ ExtW N W wx)
  case first => as_aux_lemma =>
    clear cP cS cD cR cQ cF cM cT cB
    have HX : Hid (ExtW N W wc) := hX
    have HO : Hid (OwnW N wc u3 L2) := ho
    clear ho
    go_wp2_with (go_at_call 34; refine (when_any N u3 L2 ret wc.heap.size [tReturn] _ _ (HO.out.later ((Ext.refl wc).alloc _)) (lit_new wc [tReturn] _) (by simp; omega) (HN.out _ (HX.out.trans (ExtW.of ((Ext.refl wc).alloc _) N)))).mono ?_; rintro e w2 ⟨v2, rfl, ho2, hx2⟩)
    go_meet
    case rel => exact ⟨H3.out ▸ ho2, (HX.out.trans (ExtW.of ((Ext.refl wc).alloc _) N)).trans hx2⟩
  obtain ⟨hoc, hXc⟩ := hcut
  clear hX ho
  have hX := hXc
  have ho := hoc
  clear hXc hoc
  go_upto_region 6 with fail
  go_cut [3] from 4 (fun v wx => OwnW N wx v L4 ∧ ExtW N W wx)
  case first => as_aux_lemma =>
    clear cP cS cD cR cQ cF cM cT cB
    have HX : Hid (ExtW N W wc) := hX
    have HO : Hid (OwnW N wc u3 L3) := ho
    clear ho
    go_wp2_with (go_at_call 34; refine (when_any N u3 L3 quick wc.heap.size [tQuick] _ _ (HO.out.later ((Ext.refl wc).alloc _)) (lit_new wc [tQuick] _) (by simp; omega) (HN.out _ (HX.out.trans (ExtW.of ((Ext.refl wc).alloc _) N)))).mono ?_; rintro e w2 ⟨v2, rfl, ho2, hx2⟩)
    go_meet
    case rel => exact ⟨H4.out ▸ ho2, (HX.out.trans (ExtW.of ((Ext.refl wc).alloc _) N)).trans hx2⟩
  obtain ⟨hoc, hXc⟩ := hcut
  clear hX ho
  have hX := hXc
  have ho := hoc
  clear hXc hoc
  go_upto_region 7 with fail
  go_cut [3] from 4 (fun v wx => OwnW N wx v L5 ∧ ExtW N W wx)
  case first => as_aux_lemma =>
    clear cP cS cD cR cQ cF cM cT cB
    have HX : Hid (ExtW N W wc) := hX
    have HO : Hid (OwnW N wc u3 L4) := ho
    clear ho
    go_wp2_with (go_at_call 34; refine (when_any N u3 L4 (!zo) wc.heap.size [tOn, on] _ _ (HO.out.later ((Ext.refl wc).alloc _)) (lit_new wc [tOn, on] _) (by simp; omega) (HN.out _ (HX.out.trans (ExtW.of ((Ext.refl wc).alloc _) N)))).mono ?_; rintro e w2 ⟨v2, rfl, ho2, hx2⟩)
    go_meet
    case rel => exact ⟨H5.out ▸ ho2, (HX.out.trans (ExtW.of ((Ext.refl wc).alloc _) N)).trans hx2⟩
  obtain ⟨hoc, hXc⟩ := hcut
  clear hX ho
  have hX := hXc
  have ho := hoc
  clear hXc hoc
  go_upto_region 8 with fail
  go_cut [3] from 4 (fun v wx => OwnW N wx v L6 ∧ ExtW N W wx)
  case first => as_aux_lemma =>
    clear cS cD cR cQ cF cM cT cB
    have HX : Hid (ExtW N W wc) := hX
    have HO : Hid (OwnW N wc u3 L5) := ho
    clear ho
    have HL : Hid (L5 ++ optW (proto != 0) [tProto, pT] = L6) := H6.out
    have hXD : ExtW N W wc.drew := hX.trans (ExtW.of (Ext.refl wc).drew N)
    have HOD : Hid (OwnW N wc.drew u3 L5) := HO.out.later (Ext.refl wc).drew
    refine wp_region_eagerR (ExtW N) (ExtW.refl N) (fun _ _ _ h k => ExtW.trans h k) [(0, false), (1, false), (2, false), (3, false), (4, false), (5, false), (6, true), (7, true), (8, true), (9, false)] (by kernel_rfl) (by kernel_rfl) rfl (by kernel_rfl) (fun _ _ _ _ _ h => h) ?_
    generalize wc.drew = WD at *
    replace x4 : ∀ w', ExtW N WD w' → w'.cell? ⟨w.heap.size, 4, none⟩ = some (.int .i64 proto) := fun w' h => x4 w' (hXD.trans h)
    have HXD : Hid (ExtW N W WD) := hXD
    clear hXD
    iterate 6 (refine wpE_read (v := ?_) rfl (by rfl) ?_ ?_; rotate_left; (focus (intro w' hx; go_simp; first | done | with_reducible rfl)); simp only [Act.put, List.setIfInBounds_toArray, List.set_cons_zero, List.set_cons_succ])
    (refine wpE_call rfl (by rfl) (fun K hK => ?_); go_simp)
    go_at_call 35
    refine (cP _ (HT.out _ HXD.out)).mono ?_
    rintro e w4 ⟨rfl, hx4⟩
    refine hK _ _ (ExtW.of hx4 N) ?_
    clear hK K
    (refine wpE_call rfl (by rfl) (fun K hK => ?_); go_simp)
    have hx5 := hx4.alloc (.cells #[.string tProto, .string pT] 9)
    refine hK _ _ (ExtW.of ((Ext.refl w4).alloc _) N) ?_
    clear hK K
    (refine wpE_call rfl (by rfl) (fun K hK => ?_); go_simp)
    go_at_call 34
    refine (when_any N u3 L5 (proto != 0) w4.heap.size [tProto, pT] _ _ (HOD.out.later hx5) (lit_new w4 [tProto, pT] _) (by simp; omega) (HN.out _ (HXD.out.trans (ExtW.of hx5 N)))).mono ?_
    rintro e w6 ⟨v6, rfl, ho6, hx6⟩
    refine hK _ _ hx6 ?_
    clear hK K
    (refine wpE_read (v := ?_) rfl (by rfl) ?_ ?_; rotate_left; (focus (intro w' hx; go_simp; first | done | with_reducible rfl)); simp only [Act.put, List.setIfInBounds_toArray, List.set_cons_zero, List.set_cons_succ])
    refine wpE_done ?_
    go_wp2
    go_meet
    case rel => exact ⟨HL.out ▸ ho6, (HXD.out.trans (ExtW.of hx5 N)).trans hx6⟩
  obtain ⟨hoc, hXc⟩ := hcut
  clear hX ho
  have hX := hXc
  have ho := hoc
  clear hXc hoc
  go_upto_region 9 with fail
  go_cut [3] from 4 (fun v wx => OwnW N wx v L7 ∧ ExtW N W wx)
  case first => as_aux_lemma =>
    clear cP cD cR cQ cF cM cT cB
    have HX : Hid (ExtW N W wc) := hX
    have HO : Hid (OwnW N wc u3 L6) := ho
    clear ho
    go_wp2_with (go_at_call 36; refine (cS N u3 L6 wc HO.out (by omega) (HN.out _ HX.out) (fun w' h => HT.out _ (HX.out.trans h))).mono ?_; rintro e w2 ⟨v2, rfl, ho2, hx2⟩)
    go_meet
    case rel => exact ⟨H7.out ▸ ho2, HX.out.trans hx2⟩
  obtain ⟨hoc, hXc⟩ := hcut
  clear hX ho
  have hX := hXc
  have ho := hoc
  clear hXc hoc
  go_upto_region 10 with fail
  go_cut [3] from 4 (fun v wx => OwnW N wx v L8 ∧ ExtW N W wx)
  case first => as_aux_lemma =>
    clear cP cS cR cQ cF cM cT cB
    have HX : Hid (ExtW N W wc) := hX
    have HO : Hid (OwnW N wc u3 L7) := ho
    clear ho
    go_wp2_with (go_at_call 36; refine (cD N u3 L7 wc HO.out (by omega) (HN.out _ HX.out) (fun w' h => HT.out _ (HX.out.trans h))).mono ?_; rintro e w2 ⟨v2, rfl, ho2, hx2⟩)
    go_meet
    case rel => exact ⟨H8.out ▸ ho2, HX.out.trans hx2⟩
  obtain ⟨hoc, hXc⟩ := hcut
  clear hX ho
  have hX := hXc
  have ho := hoc
  clear hXc hoc
  go_upto_region 11 with fail
  go_cut [3] from 4 (fun v wx => OwnW N wx v L9 ∧ ExtW N W wx)
  case first => as_aux_lemma =>
    clear cP cS cD cR cQ cT cB
    have HX : Hid (ExtW N W wc) := hX
    have HO : Hid (OwnW N wc u3 L8) := ho
    clear ho
    have l2 : (⟨#[47]⟩ : ByteArray).size = 1 := rfl
    obtain ⟨X1, g1⟩ : ∃ X, fS ++ ⟨#[47]⟩ = X := ⟨_, rfl⟩
    obtain ⟨X2, g2⟩ : ∃ X, X1 ++ fM = X := ⟨_, rfl⟩
    have y1 : X1.size = fS.size + 1 := by rw [← g1, ByteArray.size_append, l2]
    have s1 := fun w => add_texts2 fS ⟨#[47]⟩ (by omega) w
    have s2 := fun w => add_texts2 X1 fM (by omega) w
    rw [g1] at s1; rw [g2] at s2
    have HL : Hid (L8 ++ optW (mask != 0) [tFlags, X2] = L9) := by rw [← g2, ← g1]; exact H9.out
    clear g1 g2 y1
    have hXD : ExtW N W wc.drew := hX.trans (ExtW.of (Ext.refl wc).drew N)
    have HOD : Hid (OwnW N wc.drew u3 L8) := HO.out.later (Ext.refl wc).drew
    refine wp_region_eagerR (ExtW N) (ExtW.refl N) (fun _ _ _ h k => ExtW.trans h k) [(0, false), (1, false), (2, false), (3, false), (4, false), (5, false), (8, false), (9, false), (6, true), (7, false), (10, true), (11, false), (12, true), (13, true), (14, false)] (by kernel_rfl) (by kernel_rfl) rfl (by kernel_rfl) (fun _ _ _ _ _ h => h) ?_
    generalize wc.drew = WD at *
    replace x17 : ∀ w', ExtW N WD w' → w'.cell? ⟨w.heap.size, 17, none⟩ = some (.int .i64 set) := fun w' h => x17 w' (hXD.trans h)
    replace x18 : ∀ w', ExtW N WD w' → w'.cell? ⟨w.heap.size, 18, none⟩ = some (.int .i64 mask) := fun w' h => x18 w' (hXD.trans h)
    have HXD : Hid (ExtW N W WD) := hXD
    clear hXD
    iterate 8 (refine wpE_read (v := ?_) rfl (by rfl) ?_ ?_; rotate_left; (focus (intro w' hx; go_simp; first | done | with_reducible rfl)); simp only [Act.put, List.setIfInBounds_toArray, List.set_cons_zero, List.set_cons_succ])
    (refine wpE_call rfl (by rfl) (fun K hK => ?_); go_simp)
    go_at_call 37
    refine (cF _).mono ?_
    rintro e w3 ⟨rfl, hx3⟩
    refine hK _ _ (ExtW.of hx3 N) ?_
    clear hK K
    (refine wpE_read (v := ?_) rfl (by rfl) ?_ ?_; rotate_left; (focus (intro w' hx; go_simp; first | done | with_reducible rfl)); simp only [Act.put, List.setIfInBounds_toArray, List.set_cons_zero, List.set_cons_succ])
    (refine wpE_call rfl (by rfl) (fun K hK => ?_); go_simp)
    go_at_call 37
    refine (cM _).mono ?_
    rintro e w4 ⟨rfl, hx4⟩
    refine hK _ _ (ExtW.of hx4 N) ?_
    clear hK K
    (refine wpE_read (v := ?_) rfl (by rfl) ?_ ?_; rotate_left; (focus (intro w' hx; go_simp; first | done | with_reducible rfl)); simp only [Act.put, List.setIfInBounds_toArray, List.set_cons_zero, List.set_cons_succ])
    replace hx4 := hx3.trans hx4
    (refine wpE_call rfl (by rfl) (fun K hK => ?_); go_simp)
    have hx5 := hx4.alloc (.cells #[.string tFlags, .string X2] 9)
    refine hK _ _ (ExtW.of ((Ext.refl w4).alloc _) N) ?_
    clear hK K
    (refine wpE_call rfl (by rfl) (fun K hK => ?_); go_simp)
    go_at_call 34
    refine (when_any N u3 L8 (mask != 0) w4.heap.size [tFlags, X2] _ _ (HOD.out.later hx5) (lit_new w4 [tFlags, X2] _) (by simp; omega) (HN.out _ (HXD.out.trans (ExtW.of hx5 N)))).mono ?_
    rintro e w6 ⟨v6, rfl, ho6, hx6⟩
    refine hK _ _ hx6 ?_
    clear hK K
    (refine wpE_read (v := ?_) rfl (by rfl) ?_ ?_; rotate_left; (focus (intro w' hx; go_simp; first | done | with_reducible rfl)); simp only [Act.put, List.setIfInBounds_toArray, List.set_cons_zero, List.set_cons_succ])
    refine wpE_done ?_
    go_wp2
    go_meet
    case rel => exact ⟨HL.out ▸ ho6, (HXD.out.trans (ExtW.of hx5 N)).trans hx6⟩
  obtain ⟨hoc, hXc⟩ := hcut
  clear hX ho
  have hX := hXc
  have ho := hoc
  clear hXc hoc
  go_upto_region 12 with fail
  go_cut [3] from 4 (fun v wx => OwnW N wx v L10 ∧ ExtW N W wx)
  case first => as_aux_lemma =>
    clear cP cS cD cR cQ cF cM cB
    have HX : Hid (ExtW N W wc) := hX
    have HO : Hid (OwnW N wc u3 L9) := ho
    clear ho
    have HL : Hid (L9 ++ optW (type != -1) [tType, dT] = L10) := H10.out
    have hXD : ExtW N W wc.drew := hX.trans (ExtW.of (Ext.refl wc).drew N)
    have HOD : Hid (OwnW N wc.drew u3 L9) := HO.out.later (Ext.refl wc).drew
    refine wp_region_eagerR (ExtW N) (ExtW.refl N) (fun _ _ _ h k => ExtW.trans h k) [(0, false), (1, false), (2, false), (3, false), (4, false), (5, false), (6, true), (7, true), (8, true), (9, false)] (by kernel_rfl) (by kernel_rfl) rfl (by kernel_rfl) (fun _ _ _ _ _ h => h) ?_
    generalize wc.drew = WD at *
    replace x19 : ∀ w', ExtW N WD w' → w'.cell? ⟨w.heap.size, 19, none⟩ = some (.int .i64 type) := fun w' h => x19 w' (hXD.trans h)
    have HXD : Hid (ExtW N W WD) := hXD
    clear hXD
    iterate 6 (refine wpE_read (v := ?_) rfl (by rfl) ?_ ?_; rotate_left; (focus (intro w' hx; go_simp; first | done | with_reducible rfl)); simp only [Act.put, List.setIfInBounds_toArray, List.set_cons_zero, List.set_cons_succ])
    (refine wpE_call rfl (by rfl) (fun K hK => ?_); go_simp)
    go_at_call 38
    refine (cT _ (HT.out _ HXD.out)).mono ?_
    rintro e w4 ⟨rfl, hx4⟩
    refine hK _ _ (ExtW.of hx4 N) ?_
    clear hK K
    (refine wpE_call rfl (by rfl) (fun K hK => ?_); go_simp)
    have hx5 := hx4.alloc (.cells #[.string tType, .string dT] 9)
    refine hK _ _ (ExtW.of ((Ext.refl w4).alloc _) N) ?_
    clear hK K
    (refine wpE_call rfl (by rfl) (fun K hK => ?_); go_simp)
    go_at_call 34
    refine (when_any N u3 L9 (type != -1) w4.heap.size [tType, dT] _ _ (HOD.out.later hx5) (lit_new w4 [tType, dT] _) (by simp; omega) (HN.out _ (HXD.out.trans (ExtW.of hx5 N)))).mono ?_
    rintro e w6 ⟨v6, rfl, ho6, hx6⟩
    refine hK _ _ hx6 ?_
    clear hK K
    (refine wpE_read (v := ?_) rfl (by rfl) ?_ ?_; rotate_left; (focus (intro w' hx; go_simp; first | done | with_reducible rfl)); simp only [Act.put, List.setIfInBounds_toArray, List.set_cons_zero, List.set_cons_succ])
    refine wpE_done ?_
    go_wp2
    go_meet
    case rel => exact ⟨HL.out ▸ ho6, (HXD.out.trans (ExtW.of hx5 N)).trans hx6⟩
  obtain ⟨hoc, hXc⟩ := hcut
  clear hX ho
  have hX := hXc
  have ho := hoc
  clear hXc hoc
  go_upto_region 13 with fail
  go_cut [3] from 4 (fun v wx => OwnW N wx v L11 ∧ ExtW N W wx)
  case first => as_aux_lemma =>
    clear cP cS cD cR cQ cF cM cT cB
    have HX : Hid (ExtW N W wc) := hX
    have HO : Hid (OwnW N wc u3 L10) := ho
    clear ho
    go_wp2_with (go_at_call 34; refine (when_any N u3 L10 keep wc.heap.size [tKeep] _ _ (HO.out.later ((Ext.refl wc).alloc _)) (lit_new wc [tKeep] _) (by simp; omega) (HN.out _ (HX.out.trans (ExtW.of ((Ext.refl wc).alloc _) N)))).mono ?_; rintro e w2 ⟨v2, rfl, ho2, hx2⟩)
    go_meet
    case rel => exact ⟨H11.out ▸ ho2, (HX.out.trans (ExtW.of ((Ext.refl wc).alloc _) N)).trans hx2⟩
  obtain ⟨hoc, hXc⟩ := hcut
  clear hX ho
  have hX := hXc
  have ho := hoc
  clear hXc hoc
  go_upto_region 14 with fail
  go_cut [3] from 4 (fun v wx => OwnW N wx v L12 ∧ ExtW N W wx)
  case first => as_aux_lemma =>
    clear cP cS cD cQ cF cM cT cB
    have HX : Hid (ExtW N W wc) := hX
    have HO : Hid (OwnW N wc u3 L11) := ho
    clear ho
    go_wp2_with (go_at_call 39; refine (cR N u3 L11 wc HO.out (by omega) (HN.out _ HX.out) (fun w' h => HT.out _ (HX.out.trans h))).mono ?_; rintro e w2 ⟨v2, rfl, ho2, hx2⟩)
    go_meet
    case rel => exact ⟨H12.out ▸ ho2, HX.out.trans hx2⟩
  obtain ⟨hoc, hXc⟩ := hcut
  clear hX ho
  have hX := hXc
  have ho := hoc
  clear hXc hoc
  go_upto_region 15 with fail
  go_cut [3] from 4 (fun v wx => OwnW N wx v L13 ∧ ExtW N W wx)
  case first => as_aux_lemma =>
    clear cP cS cD cR cF cM cT cB
    have HX : Hid (ExtW N W wc) := hX
    have HO : Hid (OwnW N wc u3 L12) := ho
    clear ho
    go_wp2_with (go_at_call 39; refine (cQ N u3 L12 wc HO.out (by omega) (HN.out _ HX.out) (fun w' h => HT.out _ (HX.out.trans h))).mono ?_; rintro e w2 ⟨v2, rfl, ho2, hx2⟩)
    go_meet
    case rel => exact ⟨H13.out ▸ ho2, HX.out.trans hx2⟩
  obtain ⟨hoc, hXc⟩ := hcut
  clear hX ho
  have hX := hXc
  have ho := hoc
  clear hXc hoc
  go_upto_region 16 with fail
  go_cut [3] from 4 (fun v wx => OwnW N wx v L14 ∧ ExtW N W wx)
  case first => as_aux_lemma =>
    clear cP cS cD cR cQ cF cM cT
    have HX : Hid (ExtW N W wc) := hX
    have HO : Hid (OwnW N wc u3 L13) := ho
    clear ho
    have HL : Hid (L13 ++ optW (table != 0) [tTable, dB] = L14) := H14.out
    have hXD : ExtW N W wc.drew := hX.trans (ExtW.of (Ext.refl wc).drew N)
    have HOD : Hid (OwnW N wc.drew u3 L13) := HO.out.later (Ext.refl wc).drew
    refine wp_region_eagerR (ExtW N) (ExtW.refl N) (fun _ _ _ h k => ExtW.trans h k) [(0, false), (1, false), (2, false), (3, false), (4, false), (5, false), (6, true), (7, true), (8, true), (9, false)] (by kernel_rfl) (by kernel_rfl) rfl (by kernel_rfl) (fun _ _ _ _ _ h => h) ?_
    generalize wc.drew = WD at *
    replace x27 : ∀ w', ExtW N WD w' → w'.cell? ⟨w.heap.size, 27, none⟩ = some (.int .i64 table) := fun w' h => x27 w' (hXD.trans h)
    have HXD : Hid (ExtW N W WD) := hXD
    clear hXD
    iterate 6 (refine wpE_read (v := ?_) rfl (by rfl) ?_ ?_; rotate_left; (focus (intro w' hx; go_simp; first | done | with_reducible rfl)); simp only [Act.put, List.setIfInBounds_toArray, List.set_cons_zero, List.set_cons_succ])
    (refine wpE_call rfl (by rfl) (fun K hK => ?_); go_simp)
    go_at_call 38
    refine (cB _ (HT.out _ HXD.out)).mono ?_
    rintro e w4 ⟨rfl, hx4⟩
    refine hK _ _ (ExtW.of hx4 N) ?_
    clear hK K
    (refine wpE_call rfl (by rfl) (fun K hK => ?_); go_simp)
    have hx5 := hx4.alloc (.cells #[.string tTable, .string dB] 9)
    refine hK _ _ (ExtW.of ((Ext.refl w4).alloc _) N) ?_
    clear hK K
    (refine wpE_call rfl (by rfl) (fun K hK => ?_); go_simp)
    go_at_call 34
    refine (when_any N u3 L13 (table != 0) w4.heap.size [tTable, dB] _ _ (HOD.out.later hx5) (lit_new w4 [tTable, dB] _) (by simp; omega) (HN.out _ (HXD.out.trans (ExtW.of hx5 N)))).mono ?_
    rintro e w6 ⟨v6, rfl, ho6, hx6⟩
    refine hK _ _ hx6 ?_
    clear hK K
    (refine wpE_read (v := ?_) rfl (by rfl) ?_ ?_; rotate_left; (focus (intro w' hx; go_simp; first | done | with_reducible rfl)); simp only [Act.put, List.setIfInBounds_toArray, List.set_cons_zero, List.set_cons_succ])
    refine wpE_done ?_
    go_wp2
    go_meet
    case rel => exact ⟨HL.out ▸ ho6, (HXD.out.trans (ExtW.of hx5 N)).trans hx6⟩
  obtain ⟨hoc, hXc⟩ := hcut
  clear hX ho
  have hX := hXc
  have ho := hoc
  clear hXc hoc
  obtain ⟨g, cap, rfl, hgl, hcap, hcl⟩ := owns_words ho hne
  have cJ := Tryz.strings_Join g 0 cap L14 ⟨#[32]⟩ wc hcl hgl (by omega) hcap (by have := HSZ.out; show (Lib.join _ [32]).length ≤ _; omega)
  rw [HRR.out] at cJ
  have HX : Hid (Ext w wc) := HE.out _ hX
  clear hcl hgl hcap ho cP cS cD cR cQ cF cM cT cB
  go_wp2_with (go_at_call 40; refine cJ.mono ?_; rintro e w2 ⟨rfl, hx2⟩)
  go_ret
  exact ⟨rfl, HX.out.trans hx2⟩

theorem rPrint_any (r : RuleV) (w : World) (hr : RuleOk r) (hs : Std w) : Calls Tryz.prog 16 #[(.agg #[.bool r.pass, .bool r.ret, .bool r.quick, .string r.on, .int .i64 r.proto, .bool r.src.any, .string r.src.table, .int .u32 r.src.a, .int .i64 r.src.n, .int .i64 r.src.low, .int .i64 r.src.high, .bool r.dst.any, .string r.dst.table, .int .u32 r.dst.a, .int .i64 r.dst.n, .int .i64 r.dst.low, .int .i64 r.dst.high, .int .i64 r.set, .int .i64 r.mask, .int .i64 r.type, .bool r.keep, .bool r.rt.on, .string r.rt.iface, .int .u32 r.rt.gate, .bool r.rp.on, .string r.rp.iface, .int .u32 r.rp.gate, .int .i64 r.table])] w fun e w' => e = .returned (.string (printE r)) ∧ Ext w w' := by
  unfold printE
  cases hI : isR r with
  | true => rw [if_pos rfl]; exact rPrintGood_any r w hr hI hs
  | false =>
    have c0 := fun w => isRule_any r w hr
    rw [hI] at c0
    rw [if_neg (by decide)]
    clear hI hr hs
    obtain ⟨pass, ret, quick, on, proto, ⟨sany, stab, sa, sn, slo, shi⟩, ⟨dany, dtab, da, dn, dlo, dhi⟩, set, mask, type, keep, ⟨ton, tif, tg⟩, ⟨pon, pif, pg⟩, table⟩ := r
    dsimp only at *
    obtain ⟨W, hW⟩ : ∃ W, w.alloc (.cells #[.bool pass, .bool ret, .bool quick, .string on, .int .i64 proto, .bool sany, .string stab, .int .u32 sa, .int .i64 sn, .int .i64 slo, .int .i64 shi, .bool dany, .string dtab, .int .u32 da, .int .i64 dn, .int .i64 dlo, .int .i64 dhi, .int .i64 set, .int .i64 mask, .int .i64 type, .bool keep, .bool ton, .string tif, .int .u32 tg, .bool pon, .string pif, .int .u32 pg, .int .i64 table] 32) = W := ⟨_, rfl⟩
    have hx0 : Ext w W := hW ▸ (Ext.refl w).alloc _
    have HB : Hid (W.heap[w.heap.size]? = some (.cells #[.bool pass, .bool ret, .bool quick, .string on, .int .i64 proto, .bool sany, .string stab, .int .u32 sa, .int .i64 sn, .int .i64 slo, .int .i64 shi, .bool dany, .string dtab, .int .u32 da, .int .i64 dn, .int .i64 dlo, .int .i64 dhi, .int .i64 set, .int .i64 mask, .int .i64 type, .bool keep, .bool ton, .string tif, .int .u32 tg, .bool pon, .string pif, .int .u32 pg, .int .i64 table] 32 (0, 0))) := hW ▸ heap_new w _
    go_enter Tryz.func16, Tryz.ntmps16
    go_wp2_with (first
      | (go_at_call 18; refine (c0 _).mono ?_; rintro e w1 ⟨rfl, hx1⟩)
      | (refine wpl_load (by rfl) 32 _ rfl w.heap.size _ _ _ rfl HB.out Tryz.underlying32 rfl rule_size ?_))
    go_ret
    exact ⟨rfl, hx0.trans hx1⟩
end Go.Proofs.YtbmmgjmmooakpaaGreatDoor.Ru
