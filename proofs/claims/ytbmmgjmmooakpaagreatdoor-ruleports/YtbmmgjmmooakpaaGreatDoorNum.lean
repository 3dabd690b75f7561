/- A text of digits as a number: addr.number and the document's castellanref3.Num, for every text. -/
import Derived.Test.YtbmmgjmmooakpaaGreatDoorTextP
import Derived.Test.YtbmmgjmmooakpaaGreatDoorGrow
import Derived.Test.YtbmmgjmmooakpaaGreatDoorProg
namespace Go.Proofs.YtbmmgjmmooakpaaGreatDoor
set_option maxRecDepth 100000
open Go.RowKit
set_option linter.unusedVariables false

theorem text_len (s : ByteArray) : s.data.toList.length = s.size := Array.length_toList

theorem text_at (s : ByteArray) (k : Nat) (h : k < s.size) : s.data.toList[k]'(by rw [text_len]; exact h) = s[k]'h := by
  rw [Array.getElem_toList]; rfl

theorem text_at? (s : ByteArray) (k : Nat) (h : k < s.size) : s.data.toList[k]? = some (s[k]'h) := by
  rw [List.getElem?_eq_getElem (by rw [text_len]; exact h), text_at s k h]

theorem numB_empty (top : Nat) : numB [] top = false := by simp [numB]

theorem numB_nought {l : List UInt8} (top : Nat) (h : 1 < l.length) (h0 : l[0]? = some 48) : numB l top = false := by
  unfold numB; simp [h, h0]

theorem numB_nodigit {l : List UInt8} (top k : Nat) (h : k < l.length) (hd : digB l[k] = false) : numB l top = false := by
  have : l.all digB = false := by
    rw [Bool.eq_false_iff]
    intro ha
    rw [List.all_eq_true.1 ha _ (List.getElem_mem h)] at hd
    cases hd
  unfold numB; simp [this]

theorem numB_over {l : List UInt8} {top k : Nat} (h : top < valN (l.take k)) : numB l top = false := by
  have := valN_take_le l k
  unfold numB
  rw [show decide (valN l ≤ top) = false from decide_eq_false (by omega)]
  simp

theorem numB_whole {l : List UInt8} {top : Nat} (h0 : l ≠ []) (h1 : ¬ (1 < l.length ∧ l[0]? = some 48)) (h2 : l.all digB = true) (h3 : valN l ≤ top) : numB l top = true := by
  unfold numB
  rw [h2, decide_eq_true h3]
  by_cases hl : 1 < l.length
  · have hn : (l[0]? == some 48) = false := by rw [beq_eq_false_iff_ne]; exact fun e => h1 ⟨hl, e⟩
    simp [hl, hn, h0]
  · simp [hl, h0]

theorem all_take {l : List UInt8} {k : Nat} (hk : k < l.length) (h : (l.take k).all digB = true) (hd : digB l[k] = true) : (l.take (k + 1)).all digB = true := by
  rw [List.take_succ_eq_append_getElem hk, List.all_append, h]; simp [hd]

theorem number_any (s : ByteArray) (top : Int) (w : World) (t0 : 0 ≤ top) (t1 : top ≤ 1000000) (hs : s.size ≤ 1000000) :
    Calls Tryz.prog 104 #[.string s, .int .i64 top] w fun e w' => e = .returned (.tuple #[.int .i64 (if numB s.data.toList top.toNat then (valN s.data.toList : Int) else 0), .bool (numB s.data.toList top.toNat)]) ∧ w' = w := by
  have hl := text_len s
  have hb := ByteArray.toList_eq (bs := s)
  by_cases g0 : s.size = 0
  · have e0 : s.data.toList = [] := List.eq_nil_of_length_eq_zero (by omega)
    have e1 : s.toList = [] := hb.trans e0
    rw [e0, numB_empty]
    clear hb hl e0
    go_enter Tryz.func104, Tryz.ntmps104
    go_wp2
    go_ret2
    exact ⟨rfl, rfl⟩
  have e1 : (s.toList == []) = false := by rw [hb, beq_eq_false_iff_ne]; intro e; rw [e] at hl; simp at hl; omega
  have hp : 0 < s.size := by omega
  obtain ⟨c0, hc0⟩ : ∃ c : Nat, (s[0]'hp).toNat = c := ⟨_, rfl⟩
  clear hb
  by_cases g1 : 1 < s.size ∧ c0 = 48
  · obtain ⟨g1, rfl⟩ := g1
    rw [numB_nought top.toNat (by omega) (by rw [text_at? s 0 hp]; congr 1; exact UInt8.toNat_inj.1 hc0)]
    clear hl
    go_enter Tryz.func104, Tryz.ntmps104
    go_wp2
    go_ret2
    exact ⟨rfl, rfl⟩
  · have hw : s.data.toList.all digB = true → valN s.data.toList ≤ top.toNat → numB s.data.toList top.toNat = true := fun h2 h3 => numB_whole (by intro e; rw [e] at hl; simp at hl; omega)
      (fun ⟨h4, h5⟩ => g1 ⟨by omega, by rw [text_at? s 0 hp] at h5; rw [← hc0, Option.some.inj h5]; rfl⟩) h2 h3
    obtain ⟨l, hll⟩ : ∃ l, s.data.toList = l := ⟨_, rfl⟩
    have hat : ∀ k (h : k < s.size), l[k]? = some (s[k]'h) := fun k h => by rw [← hll]; exact text_at? s k h
    rw [hll] at hw hl ⊢
    obtain ⟨T, hT⟩ : ∃ T, top.toNat = T := ⟨_, rfl⟩
    have hT2 : (T : Int) = top := by omega
    rw [hT] at hw ⊢
    generalize hn : numB l T = b at *
    generalize hv : (if b = true then (valN l : Int) else 0) = v at *
    have HW : Hid _ := hw
    have HN : Hid _ := hn
    have HV : Hid _ := hv
    have HL : Hid _ := hl
    have HA : Hid _ := hat
    have gg : s.size = 1 ∨ (1 < s.size ∧ ((c0 : Int) == 48) = false) := by
      by_cases g2 : s.size = 1
      · exact .inl g2
      · exact .inr ⟨by omega, by rw [beq_eq_false_iff_ne]; intro e; exact g1 ⟨by omega, by omega⟩⟩
    clear hw hn g1 hl hv hT hll hat
    subst hT2
    rcases gg with gg | ⟨gg, ge⟩
    all_goals (
      go_enter Tryz.func104, Tryz.ntmps104
      go_wp2
      clear hc0
      try clear ge
      go_loop [6, 22] (fun n i => ∃ k m : Nat, k ≤ s.size ∧ i = .int .i64 k ∧ n = .int .i64 m ∧ m ≤ T ∧ Hid ((l.take k).all digB = true ∧ valN (l.take k) = m)) (fun _ i => s.size - (intOf i).toNat)
      case atStart => exact ⟨0, 0, Nat.zero_le _, rfl, rfl, Nat.zero_le _, by simp, by simp [valN]⟩
      case round =>
        obtain ⟨k, m, hk, rfl, rfl, hm, HK⟩ := hrel
        by_cases hlt : k < s.size
        · obtain ⟨c, hc⟩ : ∃ c : Nat, (s[k]'hlt).toNat = c := ⟨_, rfl⟩
          have hkl : k < l.length := by rw [HL.out]; exact hlt
          have hlk : l[k] = s[k]'hlt := by have h1 := HA.out k hlt; rw [List.getElem?_eq_getElem hkl] at h1; exact Option.some.inj h1
          have hnd : (c < 48 ∨ 57 < c) → b = false := fun h => HN.out.symm.trans (numB_nodigit T k hkl (by rw [hlk]; unfold digB; rw [hc]; simp; omega))
          have hov : 48 ≤ c → T < 10 * m + (c - 48) → b = false := fun h0 h => HN.out.symm.trans (numB_over (k := k + 1) (by rw [valN_take l k hkl, hlk, hc, HK.out.2]; exact h))
          have hgo : 48 ≤ c → c ≤ 57 → (l.take (k + 1)).all digB = true ∧ valN (l.take (k + 1)) = 10 * m + (c - 48) := fun h1 h2 =>
            ⟨all_take hkl HK.out.1 (by rw [hlk]; unfold digB; rw [hc]; simp; omega), by rw [valN_take l k hkl, hlk, hc, HK.out.2]⟩
          have HG : Hid _ := hgo
          have hv0 : b = false → v = 0 := fun h => by have := HV.out; rw [h] at this; simpa using this.symm
          clear hgo hlk hkl
          by_cases h1 : c < 48
          · obtain rfl := hnd (.inl h1)
            obtain rfl := hv0 rfl
            clear hnd hov hv0
            go_wp2
            go_ret2
            exact ⟨rfl, rfl⟩
          by_cases h2 : 57 < c
          · obtain rfl := hnd (.inr h2)
            obtain rfl := hv0 rfl
            clear hnd hov hv0
            have h3 : 48 ≤ c := by omega
            clear h1
            go_wp2
            go_ret2
            exact ⟨rfl, rfl⟩
          have h3 : 48 ≤ c := by omega
          have h4 : c ≤ 57 := by omega
          clear h1 h2
          by_cases h5 : T < 10 * m + (c - 48)
          · obtain rfl := hov h3 h5
            obtain rfl := hv0 rfl
            clear hnd hov hv0
            have h6 : (T : Int) < 10 * m + (c - 48) := by omega
            clear h5
            go_wp2
            go_ret2
            exact ⟨rfl, rfl⟩
          · have h6 : 10 * (m : Int) + (c - 48) ≤ T := by omega
            clear hnd hov hv0
            go_wp2
            go_round
            case rel => exact ⟨k + 1, 10 * m + (c - 48), by omega, by go_num, by congr 1; omega, by omega, HG.out h3 h4⟩
            case measure => simp [intOf]; omega
        · obtain rfl : k = s.size := by omega
          have e2 := HK.out
          rw [List.take_of_length_le (by rw [HL.out]; exact Nat.le_refl _)] at e2
          obtain rfl := HW.out e2.1 (by rw [e2.2]; exact hm)
          have hv0 : v = (m : Int) := by have := HV.out; rw [e2.2] at this; simpa using this.symm
          subst hv0
          clear HW HN HV HK e2
          go_wp2
          go_ret2
          exact ⟨rfl, rfl⟩)

theorem numB_long {l : List UInt8} {top : Nat} (h : 9 < l.length) (ht : top ≤ 1000000) : numB l top = false := by
  rw [Bool.eq_false_iff]
  intro hn
  have hv := numB_le hn
  have ha := numB_all hn
  match l, h with
  | c :: r, h =>
    have hd := List.all_eq_true.1 ha c (by simp)
    have hc : 49 ≤ c.toNat := by
      simp only [digB, Bool.and_eq_true, decide_eq_true_eq] at hd
      rcases Nat.lt_or_ge c.toNat 49 with h1 | h1
      · have e : c = 48 := UInt8.toNat_inj.1 (by show c.toNat = 48; omega)
        rw [numB_nought top (by simp at h ⊢; omega) (by rw [e]; rfl)] at hn
        cases hn
      · exact h1
    have h2 := valN_big r c hc
    have h3 : 10 ^ 9 ≤ 10 ^ r.length := Nat.pow_le_pow_right (by decide) (by simp at h; omega)
    omega

theorem valN_lt : ∀ (k : Nat) (l : List UInt8), l.length = k → l.all digB = true → valN l < 10 ^ k := by
  intro k
  induction k with
  | zero => intro l hl _; rw [List.eq_nil_of_length_eq_zero hl]; decide
  | succ k ih =>
    intro l hl ha
    have hk : k < l.length := by omega
    have e : l = l.take k ++ [l[k]] := by rw [← List.take_succ_eq_append_getElem hk, List.take_of_length_le (by omega)]
    have ha' := ha
    rw [e, List.all_append, Bool.and_eq_true] at ha
    have h1 := ih (l.take k) (by simp; omega) ha.1
    have h2 : valN l = 10 * valN (l.take k) + (l[k].toNat - 48) := by
      have := valN_take l k hk
      rwa [List.take_of_length_le (by omega)] at this
    have h3 := List.all_eq_true.1 ha' l[k] (List.getElem_mem hk)
    simp only [digB, Bool.and_eq_true, decide_eq_true_eq] at h3
    rw [Nat.pow_succ]
    omega

/-- What Num answers: whether the text is a number, and, if so, which. -/
def NumAns (l : List UInt8) (b : Bool) (e : Ending) : Prop := ∃ v : Int, e = .returned (.tuple #[.int .i64 v, .bool b]) ∧ (b = true → v = (valN l : Int))

theorem refNum_any (s : ByteArray) (top : Int) (w : World) (t0 : 0 ≤ top) (t1 : top ≤ 1000000) (hs : s.size ≤ 1000000) :
    Calls Tryz.prog 63 #[.string s, .int .i64 top] w fun e w' => NumAns s.data.toList (numB s.data.toList top.toNat) e ∧ w' = w := by
  have hl := text_len s
  by_cases g0 : s.size = 0
  · have e0 : s.data.toList = [] := List.eq_nil_of_length_eq_zero (by omega)
    rw [e0, numB_empty]
    clear hl e0
    go_enter Tryz.func63, Tryz.ntmps63
    go_wp2
    go_ret2
    exact ⟨⟨0, rfl, fun h => by cases h⟩, rfl⟩
  by_cases g9 : 9 < s.size
  · rw [numB_long (by omega) (by omega)]
    clear hl
    go_enter Tryz.func63, Tryz.ntmps63
    go_wp2
    go_ret2
    exact ⟨⟨0, rfl, fun h => by cases h⟩, rfl⟩
  have hp : 0 < s.size := by omega
  have h9 : s.size ≤ 9 := by omega
  clear g9 g0
  obtain ⟨c0, hc0⟩ : ∃ c : Nat, (s[0]'hp).toNat = c := ⟨_, rfl⟩
  by_cases g1 : 1 < s.size ∧ c0 = 48
  · obtain ⟨g1, rfl⟩ := g1
    rw [numB_nought top.toNat (by omega) (by rw [text_at? s 0 hp]; congr 1; exact UInt8.toNat_inj.1 hc0)]
    clear hl
    go_enter Tryz.func63, Tryz.ntmps63
    go_wp2
    go_ret2
    exact ⟨⟨0, rfl, fun h => by cases h⟩, rfl⟩
  · have hw : s.data.toList.all digB = true → valN s.data.toList ≤ top.toNat → numB s.data.toList top.toNat = true := fun h2 h3 => numB_whole (by intro e; rw [e] at hl; simp at hl; omega)
      (fun ⟨h4, h5⟩ => g1 ⟨by omega, by rw [text_at? s 0 hp] at h5; rw [← hc0, Option.some.inj h5]; rfl⟩) h2 h3
    obtain ⟨l, hll⟩ : ∃ l, s.data.toList = l := ⟨_, rfl⟩
    have hat : ∀ k (h : k < s.size), l[k]? = some (s[k]'h) := fun k h => by rw [← hll]; exact text_at? s k h
    rw [hll] at hw hl ⊢
    obtain ⟨T, hT⟩ : ∃ T, top.toNat = T := ⟨_, rfl⟩
    have hT2 : (T : Int) = top := by omega
    rw [hT] at hw ⊢
    generalize hn : numB l T = b at *
    have HW : Hid _ := hw
    have HN : Hid _ := hn
    have HL : Hid _ := hl
    have HA : Hid _ := hat
    have gg : s.size = 1 ∨ (1 < s.size ∧ ((c0 : Int) == 48) = false) := by
      by_cases g2 : s.size = 1
      · exact .inl g2
      · exact .inr ⟨by omega, by rw [beq_eq_false_iff_ne]; intro e; exact g1 ⟨by omega, by omega⟩⟩
    clear hw hn g1 hl hT hll hat
    subst hT2
    rcases gg with gg | ⟨gg, ge⟩
    all_goals (
      go_enter Tryz.func63, Tryz.ntmps63
      go_wp2
      clear hc0
      try clear ge
      go_loop [6, 7] (fun n i => ∃ k m : Nat, k ≤ s.size ∧ i = .int .i64 k ∧ n = .int .i64 m ∧ m ≤ 999999999 ∧ Hid ((l.take k).all digB = true ∧ valN (l.take k) = m)) (fun _ i => s.size - (intOf i).toNat)
      case atStart => exact ⟨0, 0, Nat.zero_le _, rfl, rfl, Nat.zero_le _, by simp, by simp [valN]⟩
      case round =>
        obtain ⟨k, m, hk, rfl, rfl, hm, HK⟩ := hrel
        by_cases hlt : k < s.size
        · obtain ⟨c, hc⟩ : ∃ c : Nat, (s[k]'hlt).toNat = c := ⟨_, rfl⟩
          have hkl : k < l.length := by rw [HL.out]; exact hlt
          have hlk : l[k] = s[k]'hlt := by have h1 := HA.out k hlt; rw [List.getElem?_eq_getElem hkl] at h1; exact Option.some.inj h1
          have hnd : (c < 48 ∨ 57 < c) → b = false := fun h => HN.out.symm.trans (numB_nodigit T k hkl (by rw [hlk]; unfold digB; rw [hc]; simp; omega))
          have hgo : 48 ≤ c → c ≤ 57 → (l.take (k + 1)).all digB = true ∧ valN (l.take (k + 1)) = 10 * m + (c - 48) := fun h1 h2 =>
            ⟨all_take hkl HK.out.1 (by rw [hlk]; unfold digB; rw [hc]; simp; omega), by rw [valN_take l k hkl, hlk, hc, HK.out.2]⟩
          have hbd : 48 ≤ c → c ≤ 57 → 10 * m + (c - 48) ≤ 999999999 := fun h1 h2 => by
            have h3 := hgo h1 h2
            have h4 := valN_lt (k + 1) _ (by simp; omega) h3.1
            have h5 : 10 ^ (k + 1) ≤ 10 ^ 9 := Nat.pow_le_pow_right (by decide) (by omega)
            rw [h3.2] at h4
            omega
          have HG : Hid _ := hgo
          clear hgo hlk hkl
          by_cases h1 : c < 48
          · obtain rfl := hnd (.inl h1)
            clear hnd hbd
            go_wp2
            go_ret2
            exact ⟨⟨0, rfl, fun h => by cases h⟩, rfl⟩
          by_cases h2 : 57 < c
          · obtain rfl := hnd (.inr h2)
            clear hnd hbd
            have h3 : 48 ≤ c := by omega
            clear h1
            go_wp2
            go_ret2
            exact ⟨⟨0, rfl, fun h => by cases h⟩, rfl⟩
          have h3 : 48 ≤ c := by omega
          have h4 : c ≤ 57 := by omega
          have h6 := hbd h3 h4
          clear h1 h2 hnd hbd
          go_wp2
          go_round
          case rel => exact ⟨k + 1, 10 * m + (c - 48), by omega, by go_num, by congr 1; omega, h6, HG.out h3 h4⟩
          case measure => simp [intOf]; omega
        · obtain rfl : k = s.size := by omega
          have e2 := HK.out
          rw [List.take_of_length_le (by rw [HL.out]; exact Nat.le_refl _)] at e2
          by_cases h7 : m ≤ T
          · obtain rfl := HW.out e2.1 (by rw [e2.2]; exact h7)
            have E2 : Hid _ := e2.2
            have h8 : (m : Int) ≤ T := by omega
            clear HW HN HK e2
            go_wp2
            go_ret2
            exact ⟨⟨m, rfl, fun _ => by rw [E2.out]⟩, rfl⟩
          · obtain rfl : b = false := HN.out.symm.trans (numB_over (k := l.length) (by rw [List.take_of_length_le (Nat.le_refl _), e2.2]; omega))
            have h8 : decide (m ≤ T) = false := decide_eq_false h7
            clear HW HN HK e2 h7
            go_wp2
            go_ret2
            exact ⟨⟨m, rfl, fun h => by cases h⟩, rfl⟩)
end Go.Proofs.YtbmmgjmmooakpaaGreatDoor
