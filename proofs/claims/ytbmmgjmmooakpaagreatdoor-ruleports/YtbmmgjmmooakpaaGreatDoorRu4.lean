/- The document's tests of chapter 14: names, ends, pins; whether a rule may be; whether two are one. -/
import Derived.Test.YtbmmgjmmooakpaaGreatDoorRu2
import Derived.Test.YtbmmgjmmooakpaaGreatDoorRef3
import Derived.Deep.DeepCutAuto
import Derived.Deep.CutRange
namespace Go.Proofs.YtbmmgjmmooakpaaGreatDoor.Ru
open Go.RowKit
set_option linter.unusedVariables false
set_option maxRecDepth 100000

theorem refName_any (s : ByteArray) (w : World) (hs : s.size ≤ 9223372036854775807) :
    Calls Tryz.prog 13 #[.string s] w fun e w' => e = .returned (.bool (nameB s)) ∧ w' = w := by
  have HB : Hid (∀ k (hk : k < s.size), nameC (s[k]'hk) = false → nameB s = false) := fun k hk h => nameB_bad hk h
  have HG : Hid ((s.data.toList.take s.size).all nameC = true → nameB s = (decide (1 ≤ s.size) && decide (s.size ≤ 8))) := fun h => by
    rw [List.take_of_length_le (by rw [text_len]; exact Nat.le_refl _)] at h
    unfold nameB; rw [h, Bool.and_true]
  have HS : Hid (∀ k (hk : k < s.size), (s.data.toList.take k).all nameC = true → nameC (s[k]'hk) = true → (s.data.toList.take (k + 1)).all nameC = true) := fun k hk h1 h2 => name_step hk h1 h2
  generalize nameB s = b at *
  go_enter Tryz.func13, Tryz.ntmps13
  go_wp2
  go_loop [3] (fun i => ∃ k : Nat, k ≤ s.size ∧ i = .int .i64 k ∧ Hid ((s.data.toList.take k).all nameC = true)) (fun i => s.size - (intOf i).toNat)
  case atStart => exact ⟨0, Nat.zero_le _, rfl, (rfl : (List.take 0 s.data.toList).all nameC = true)⟩
  case round =>
    obtain ⟨k, hk, rfl, HK⟩ := hrel
    by_cases hlt : k < s.size
    · obtain ⟨c, hc⟩ : ∃ c : Nat, (s[k]'hlt).toNat = c := ⟨_, rfl⟩
      have hn : nameC (s[k]'hlt) = ((decide (97 ≤ c) && decide (c ≤ 122)) || (decide (48 ≤ c) && decide (c ≤ 57))) := by unfold nameC; rw [hc]
      have HN : Hid _ := hn
      clear hn
      have ways : (97 ≤ c ∧ c ≤ 122) ∨ (48 ≤ c ∧ c ≤ 57) ∨ c < 48 ∨ (57 < c ∧ c < 97) ∨ 122 < c := by omega
      rcases ways with ⟨h1, h2⟩ | ⟨h1, h2⟩ | h1 | ⟨h1, h2⟩ | h1
      · have HX' : Hid _ := HS.out k hlt HK.out (by rw [HN.out]; simp [h1, h2])
        go_wp2
        go_round
        case rel => exact ⟨k + 1, by omega, by go_num, HX'⟩
        case measure => simp [intOf]; omega
      · have HX' : Hid _ := HS.out k hlt HK.out (by rw [HN.out]; simp [h1, h2])
        have h3 : c < 97 := by omega
        go_wp2
        go_round
        case rel => exact ⟨k + 1, by omega, by go_num, HX'⟩
        case measure => simp [intOf]; omega
      · obtain rfl := HB.out k hlt (by rw [HN.out]; simp; omega)
        have h3 : c < 97 := by omega
        go_wp2
        go_ret
        exact ⟨rfl, rfl⟩
      · obtain rfl := HB.out k hlt (by rw [HN.out]; simp; omega)
        have h3 : ¬ c < 48 := by omega
        go_wp2
        go_ret
        exact ⟨rfl, rfl⟩
      · obtain rfl := HB.out k hlt (by rw [HN.out]; simp; omega)
        have h3 : ¬ c < 97 := by omega
        have h4 : ¬ c < 48 := by omega
        have h5 : 57 < c := by omega
        go_wp2
        go_ret
        exact ⟨rfl, rfl⟩
    · obtain rfl : k = s.size := by omega
      have hb := HG.out HK.out
      clear HS HB HG HK hlt
      by_cases e1 : 1 ≤ s.size
      · rw [decide_eq_true e1, Bool.true_and] at hb
        subst hb
        go_wp2
        go_ret
        have e3 : ((s.size : Int) ≤ 8) = (s.size ≤ 8) := by rw [eq_iff_iff]; omega
        exact ⟨by simp [e3], rfl⟩
      · rw [decide_eq_false e1, Bool.false_and] at hb
        subst hb
        go_wp2
        go_ret
        exact ⟨rfl, rfl⟩

theorem refAll_any (s : SideV) (w : World) : Calls Tryz.prog 74 #[.agg #[.int .i64 s.low, .int .i64 s.high]] w fun e w' => e = .returned (.bool (allB s)) ∧ Ext w w' := by
  unfold allB
  obtain ⟨any, tab, a, n, lo, hi⟩ := s
  dsimp only
  obtain ⟨W, hW⟩ : ∃ W, w.alloc (.cells #[.int .i64 lo, .int .i64 hi] 26) = W := ⟨_, rfl⟩
  have hx0 : Ext w W := hW ▸ (Ext.refl w).alloc _
  have x0 : ∀ w', Ext W w' → w'.cell? ⟨w.heap.size, 0, none⟩ = some (.int .i64 lo) := hW ▸ boxK w #[.int .i64 lo, .int .i64 hi] 26 0
  have x1 : ∀ w', Ext W w' → w'.cell? ⟨w.heap.size, 1, none⟩ = some (.int .i64 hi) := hW ▸ boxK w #[.int .i64 lo, .int .i64 hi] 26 1
  have hv := Ext.refl W
  generalize h1 : (lo == 0) = b1 at *
  generalize h2 : (hi == 65535) = b2 at *
  cases b1
  all_goals (
    go_enter Tryz.func74, Tryz.ntmps74
    go_wp2
    go_ret
    exact ⟨rfl, hx0⟩)

theorem refPin_any (p : PinV) (w : World) (hp : PinOk p) : Calls Tryz.prog 52 #[(.agg #[.bool p.on, .string p.iface, .int .u32 p.gate])] w fun e w' => e = .returned (.bool (pinB p)) ∧ Ext w w' := by
  have hs := hp.iface
  clear hp
  have eq := fun w => eql_pin p pin0 w
  obtain ⟨on, i, g⟩ := p
  unfold pinB
  simp only [pin0, pinQ] at eq
  dsimp only at *
  have eg := pin_guard
  have c1 := fun w => refName_any i w hs
  generalize nameB i = b1 at *
  simp only [show txt [] = (⟨#[]⟩ : ByteArray) from rfl] at eq ⊢
  generalize decide (i = (⟨#[]⟩ : ByteArray)) = z at *
  obtain ⟨W, hW⟩ : ∃ W, w.alloc (.cells #[.bool on, .string i, .int .u32 g] 30) = W := ⟨_, rfl⟩
  have hx0 : Ext w W := hW ▸ (Ext.refl w).alloc _
  have x0 : ∀ w', Ext W w' → w'.cell? ⟨w.heap.size, 0, none⟩ = some (.bool on) := hW ▸ boxK w #[.bool on, .string i, .int .u32 g] 30 0
  have x1 : ∀ w', Ext W w' → w'.cell? ⟨w.heap.size, 1, none⟩ = some (.string i) := hW ▸ boxK w #[.bool on, .string i, .int .u32 g] 30 1
  have x2 : ∀ w', Ext W w' → w'.cell? ⟨w.heap.size, 2, none⟩ = some (.int .u32 g) := hW ▸ boxK w #[.bool on, .string i, .int .u32 g] 30 2
  have hv := Ext.refl W
  cases on
  all_goals (
    go_enter Tryz.func52, Tryz.ntmps52
    go_wp2_with (go_at_call 13; refine (c1 _).mono ?_; rintro e w1 ⟨rfl, rfl⟩)
    go_ret
    exact ⟨by simp, hx0⟩)

set_option maxHeartbeats 1000000 in
theorem refSide_any (s : SideV) (p : Bool) (w : World) (hs : SideOk s) :
    Calls Tryz.prog 51 #[(.agg #[.bool s.any, .string s.table, .int .u32 s.a, .int .i64 s.n, .int .i64 s.low, .int .i64 s.high]), .bool p] w fun e w' => e = .returned (.bool (endB s && (portsB s && (allB s || p)))) ∧ Ext w w' := by
  obtain ⟨h1, h2, h3⟩ := hs
  have c0 := fun w => refAll_any s w
  generalize allB s = q at *
  obtain ⟨any, tab, a, n, lo, hi⟩ := s
  unfold endB nothingB portsB inB
  dsimp only at *
  have c1 := fun w => refName_any tab w h1
  have c2 := fun w => refIs_any a n w h2 h3
  have eq := fun w => eql_prefix a n 0 0 w
  have eg := eq_guard
  have he := empT tab
  generalize nameB tab = b1 at *
  generalize isV a n = b2 at *
  generalize (a == 0 && n == 0) = b3 at *
  have hcs : ∀ k w', Ext (w.alloc (.cells #[.bool any, .string tab, .int .u32 a, .int .i64 n, .int .i64 lo, .int .i64 hi] 28)) w' → w'.cell? ⟨w.heap.size, k, none⟩ = _ := boxK w _ _
  obtain ⟨W, hW⟩ : ∃ W, w.alloc (.cells #[.bool any, .string tab, .int .u32 a, .int .i64 n, .int .i64 lo, .int .i64 hi] 28) = W := ⟨_, rfl⟩
  rw [hW] at hcs
  have hx0 : Ext w W := hW ▸ (Ext.refl w).alloc _
  have x0 : ∀ w', Ext W w' → w'.cell? ⟨w.heap.size, 0, none⟩ = some (.bool any) := hcs 0
  have x1 : ∀ w', Ext W w' → w'.cell? ⟨w.heap.size, 1, none⟩ = some (.string tab) := hcs 1
  have x2 : ∀ w', Ext W w' → w'.cell? ⟨w.heap.size, 2, none⟩ = some (.int .u32 a) := hcs 2
  have x3 : ∀ w', Ext W w' → w'.cell? ⟨w.heap.size, 3, none⟩ = some (.int .i64 n) := hcs 3
  have x4 : ∀ w', Ext W w' → w'.cell? ⟨w.heap.size, 4, none⟩ = some (.int .i64 lo) := hcs 4
  have x5 : ∀ w', Ext W w' → w'.cell? ⟨w.heap.size, 5, none⟩ = some (.int .i64 hi) := hcs 5
  have hv := Ext.refl W
  clear hcs h1 h2 h3
  by_cases g1 : lo < 0
  · rw [show decide (0 ≤ lo) = false from decide_eq_false (by omega)]
    simp only [Bool.false_and, Bool.and_false]
    go_enter Tryz.func51, Tryz.ntmps51
    go_wp2
    go_ret
    exact ⟨rfl, hx0⟩
  by_cases g2 : 65535 < hi
  · rw [show decide (hi ≤ 65535) = false from decide_eq_false (by omega)]
    simp only [Bool.false_and, Bool.and_false]
    go_enter Tryz.func51, Tryz.ntmps51
    go_wp2
    go_ret
    exact ⟨rfl, hx0⟩
  by_cases g3 : hi < lo
  · rw [show decide (lo ≤ hi) = false from decide_eq_false (by omega)]
    simp only [Bool.false_and, Bool.and_false]
    go_enter Tryz.func51, Tryz.ntmps51
    go_wp2
    go_ret
    exact ⟨rfl, hx0⟩
  rw [show decide (0 ≤ lo) = true from decide_eq_true (by omega), show decide (hi ≤ 65535) = true from decide_eq_true (by omega), show decide (lo ≤ hi) = true from decide_eq_true (by omega), show decide (lo ≤ 65535) = true from decide_eq_true (by omega)]
  simp only [Bool.true_and]
  have k1 : 0 ≤ lo := by omega
  have k2 : hi ≤ 65535 := by omega
  have k3 : lo ≤ hi := by omega
  clear g1 g2 g3
  have ways : (p = false ∧ q = false) ∨ (p = false ∧ q = true) ∨ p = true := by cases p <;> cases q <;> simp
  rcases ways with ⟨rfl, rfl⟩ | ⟨rfl, rfl⟩ | rfl
  · simp only [Bool.or_false, Bool.and_false]
    go_enter Tryz.func51, Tryz.ntmps51
    go_wp2_with (go_at_call 74; refine (c0 _).mono ?_; rintro e w1 ⟨rfl, hx1⟩; replace hv := hv.trans hx1; clear hx1)
    go_ret
    exact ⟨rfl, hx0.trans hv⟩
  all_goals (
    simp only [Bool.true_or, Bool.or_true, Bool.and_true]
    cases any with
    | true =>
      rw [if_pos rfl]
      generalize decide (tab = txt []) = z at *
      cases z
      all_goals (
        go_enter Tryz.func51, Tryz.ntmps51
        go_wp2_with (go_at_call 74; refine (c0 _).mono ?_; rintro e w1 ⟨rfl, hx1⟩; replace hv := hv.trans hx1; clear hx1)
        go_ret
        exact ⟨by simp, hx0.trans hv⟩)
    | false =>
      rw [if_neg (by decide)]
      by_cases g : tab = txt []
      · rw [if_pos g]
        rw [decide_eq_true g] at he
        clear g
        go_enter Tryz.func51, Tryz.ntmps51
        go_wp2_with (first | (go_at_call 74; refine (c0 _).mono ?_; rintro e w1 ⟨rfl, hx1⟩; replace hv := hv.trans hx1; clear hx1) | (go_at_call 77; refine (c2 _).mono ?_; rintro e w1 ⟨rfl, hx1⟩; replace hv := hv.trans hx1; clear hx1))
        go_ret
        exact ⟨by simp, hx0.trans hv⟩
      · rw [if_neg g]
        rw [decide_eq_false g] at he
        clear g
        cases b1
        all_goals (
          go_enter Tryz.func51, Tryz.ntmps51
          go_wp2_with (first | (go_at_call 74; refine (c0 _).mono ?_; rintro e w1 ⟨rfl, hx1⟩; replace hv := hv.trans hx1; clear hx1) | (go_at_call 13; refine (c1 _).mono ?_; rintro e w1 ⟨rfl, rfl⟩))
          go_ret
          exact ⟨by simp, hx0.trans hv⟩))
end Go.Proofs.YtbmmgjmmooakpaaGreatDoor.Ru
