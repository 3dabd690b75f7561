/- The document's flags and protocols as texts. -/
import Derived.Test.YtbmmgjmmooakpaaGreatDoorRv1
import Derived.Test.YtbmmgjmmooakpaaGreatDoorRuL
import Derived.Test.YtbmmgjmmooakpaaGreatDoorRu8
import Derived.Test.YtbmmgjmmooakpaaGreatDoorRefT
namespace Go.Proofs.YtbmmgjmmooakpaaGreatDoor.Ru
open Go.RowKit
set_option linter.unusedVariables false
set_option maxRecDepth 100000

theorem protoT_dec {n : Int} (h0 : 0 ≤ n) (h1 : n ≠ 1) (h6 : n ≠ 6) (h7 : n ≠ 17) : protoT n = decB n := by
  unfold protoT
  rw [if_neg h1, if_neg h6, if_neg h7]
  unfold Lib.itoa decB txt
  rw [if_neg (by omega)]

theorem refProto_any (n : Int) (w : World) (h0 : 0 ≤ n) (hn : n ≤ 99999) :
    Calls Tryz.prog 41 #[.int .i64 n] w fun e w' => e = .returned (.string (protoT n)) ∧ Ext w w' := by
  by_cases h1 : n = 1
  · subst h1
    go_enter Tryz.func41, Tryz.ntmps41
    go_wp2
    go_ret
    exact ⟨rfl, Ext.refl _⟩
  by_cases h6 : n = 6
  · subst h6
    go_enter Tryz.func41, Tryz.ntmps41
    go_wp2
    go_ret
    exact ⟨rfl, Ext.refl _⟩
  by_cases h7 : n = 17
  · subst h7
    go_enter Tryz.func41, Tryz.ntmps41
    go_wp2
    go_ret
    exact ⟨rfl, Ext.refl _⟩
  rw [protoT_dec h0 h1 h6 h7]
  have c1 := fun w => dec_any n w h0 hn
  generalize decB n = T at *
  go_enter Tryz.func41, Tryz.ntmps41
  go_wp2_with (go_at_call 22; refine (c1 _).mono ?_; rintro e w1 ⟨rfl, hx⟩)
  go_ret
  exact ⟨rfl, hx⟩

/-- The letters of the first k flags. -/
def encL (n : Nat) : Nat → List UInt8
  | 0 => []
  | k + 1 => encL n k ++ (if n / 2 ^ k % 2 = 1 then [lc k] else [])

theorem encL_all : ∀ n, n < 64 → encL n 6 = if n = 0 then [] else lettersP n := by decide

theorem encL_len (n : Nat) : ∀ k, (encL n k).length ≤ k
  | 0 => by simp [encL]
  | k + 1 => by
    have := encL_len n k
    unfold encL
    split <;> simp <;> omega

theorem txt_append (a b : List UInt8) : txt a ++ txt b = txt (a ++ b) := by
  apply list_inj
  rw [list_txt, ByteArray.data_append]
  simp [txt]

theorem i64_and1 (n : Nat) : bits .and .i64 (n : Int) 1 = ((n % 2 : Nat) : Int) := by
  have h1 : (BitVec.ofInt 64 1).toNat = 2 ^ 1 - 1 := by decide
  have key : (BitVec.ofInt 64 (n : Int) &&& BitVec.ofInt 64 1).toNat = ((n : Int) % ((2 ^ 64 : Nat) : Int)).toNat % 2 ^ 1 := by
    rw [BitVec.toNat_and, BitVec.toNat_ofInt, h1, Nat.and_two_pow_sub_one_eq_mod]
  show IntKind.i64.wrap ((BitVec.ofInt 64 (n : Int) &&& BitVec.ofInt 64 1).toNat : Nat) = _
  rw [key, IntKind.wrap_i64]
  omega

theorem refLetters_any (n : Nat) (w : World) (hn : n < 64) :
    Calls Tryz.prog 43 #[.int .i64 (n : Int)] w fun e w' => e = .returned (.string (txt (lettersP n))) ∧ w' = w := by
  have hE := encL_all n hn
  have HE : Hid _ := hE
  clear hE
  go_enter Tryz.func43, Tryz.ntmps43
  go_wp2
  go_loop [3, 4] (fun t i => ∃ k : Nat, k ≤ 6 ∧ i = .int .i64 k ∧ t = .string (txt (encL n k))) (fun _ i => 6 - (intOf i).toNat)
  case atStart => exact ⟨0, Nat.zero_le _, rfl, rfl⟩
  case round =>
    obtain ⟨k, hk, rfl, rfl⟩ := hrel
    by_cases hlt : k < 6
    · have hl := encL_len n k
      have hla := letter_at k hlt
      rcases (by omega : k = 0 ∨ k = 1 ∨ k = 2 ∨ k = 3 ∨ k = 4 ∨ k = 5) with rfl | rfl | rfl | rfl | rfl | rfl
      · have ha := add_texts (txt (encL n 0)) (txt [lc 0]) (by rw [txt_size]; omega) (by rw [txt_size]; simp)
        simp only [Nat.reduceAdd] at hla
        have hb : bits .and .i64 (n : Int) 1 = ((n % 2 : Nat) : Int) := i64_and1 n
        by_cases hq : n % 2 = 1
        · have hst : encL n 1 = encL n 0 ++ [lc 0] := by show encL n 0 ++ _ = _; rw [if_pos (by simpa using hq)]
          rw [hq] at hb
          have hb2 : (bits .and .i64 (n : Int) 1 == 1) = true := by rw [hb]; rfl
          have HST : Hid _ := hst
          clear hst hq hb hl hlt hk
          go_wp2
          go_round
          case rel => exact ⟨1, by omega, rfl, by rw [HST.out, txt_append]⟩
          case measure => simp [intOf]
        · have hst : encL n 1 = encL n 0 := by show encL n 0 ++ _ = _; rw [if_neg (by simpa using hq), List.append_nil]
          rw [show n % 2 = 0 by omega] at hb
          have hb2 : (bits .and .i64 (n : Int) 1 == 1) = false := by rw [hb]; rfl
          have HST : Hid _ := hst
          clear hst hq hb hl hlt hk
          go_wp2
          go_round
          case rel => exact ⟨1, by omega, rfl, by rw [HST.out]⟩
          case measure => simp [intOf]
      · have ha := add_texts (txt (encL n 1)) (txt [lc 1]) (by rw [txt_size]; omega) (by rw [txt_size]; simp)
        simp only [Nat.reduceAdd] at hla
        have hb : bits .and .i64 ((n : Int) / 2) 1 = (((n / 2) % 2 : Nat) : Int) := i64_and1 (n / 2)
        by_cases hq : (n / 2) % 2 = 1
        · have hst : encL n 2 = encL n 1 ++ [lc 1] := by show encL n 1 ++ _ = _; rw [if_pos (by simpa using hq)]
          rw [hq] at hb
          have hb2 : (bits .and .i64 ((n : Int) / 2) 1 == 1) = true := by rw [hb]; rfl
          have HST : Hid _ := hst
          clear hst hq hb hl hlt hk
          go_wp2
          go_round
          case rel => exact ⟨2, by omega, rfl, by rw [HST.out, txt_append]⟩
          case measure => simp [intOf]
        · have hst : encL n 2 = encL n 1 := by show encL n 1 ++ _ = _; rw [if_neg (by simpa using hq), List.append_nil]
          rw [show (n / 2) % 2 = 0 by omega] at hb
          have hb2 : (bits .and .i64 ((n : Int) / 2) 1 == 1) = false := by rw [hb]; rfl
          have HST : Hid _ := hst
          clear hst hq hb hl hlt hk
          go_wp2
          go_round
          case rel => exact ⟨2, by omega, rfl, by rw [HST.out]⟩
          case measure => simp [intOf]
      · have ha := add_texts (txt (encL n 2)) (txt [lc 2]) (by rw [txt_size]; omega) (by rw [txt_size]; simp)
        simp only [Nat.reduceAdd] at hla
        have hb : bits .and .i64 ((n : Int) / 4) 1 = (((n / 4) % 2 : Nat) : Int) := i64_and1 (n / 4)
        by_cases hq : (n / 4) % 2 = 1
        · have hst : encL n 3 = encL n 2 ++ [lc 2] := by show encL n 2 ++ _ = _; rw [if_pos (by simpa using hq)]
          rw [hq] at hb
          have hb2 : (bits .and .i64 ((n : Int) / 4) 1 == 1) = true := by rw [hb]; rfl
          have HST : Hid _ := hst
          clear hst hq hb hl hlt hk
          go_wp2
          go_round
          case rel => exact ⟨3, by omega, rfl, by rw [HST.out, txt_append]⟩
          case measure => simp [intOf]
        · have hst : encL n 3 = encL n 2 := by show encL n 2 ++ _ = _; rw [if_neg (by simpa using hq), List.append_nil]
          rw [show (n / 4) % 2 = 0 by omega] at hb
          have hb2 : (bits .and .i64 ((n : Int) / 4) 1 == 1) = false := by rw [hb]; rfl
          have HST : Hid _ := hst
          clear hst hq hb hl hlt hk
          go_wp2
          go_round
          case rel => exact ⟨3, by omega, rfl, by rw [HST.out]⟩
          case measure => simp [intOf]
      · have ha := add_texts (txt (encL n 3)) (txt [lc 3]) (by rw [txt_size]; omega) (by rw [txt_size]; simp)
        simp only [Nat.reduceAdd] at hla
        have hb : bits .and .i64 ((n : Int) / 8) 1 = (((n / 8) % 2 : Nat) : Int) := i64_and1 (n / 8)
        by_cases hq : (n / 8) % 2 = 1
        · have hst : encL n 4 = encL n 3 ++ [lc 3] := by show encL n 3 ++ _ = _; rw [if_pos (by simpa using hq)]
          rw [hq] at hb
          have hb2 : (bits .and .i64 ((n : Int) / 8) 1 == 1) = true := by rw [hb]; rfl
          have HST : Hid _ := hst
          clear hst hq hb hl hlt hk
          go_wp2
          go_round
          case rel => exact ⟨4, by omega, rfl, by rw [HST.out, txt_append]⟩
          case measure => simp [intOf]
        · have hst : encL n 4 = encL n 3 := by show encL n 3 ++ _ = _; rw [if_neg (by simpa using hq), List.append_nil]
          rw [show (n / 8) % 2 = 0 by omega] at hb
          have hb2 : (bits .and .i64 ((n : Int) / 8) 1 == 1) = false := by rw [hb]; rfl
          have HST : Hid _ := hst
          clear hst hq hb hl hlt hk
          go_wp2
          go_round
          case rel => exact ⟨4, by omega, rfl, by rw [HST.out]⟩
          case measure => simp [intOf]
      · have ha := add_texts (txt (encL n 4)) (txt [lc 4]) (by rw [txt_size]; omega) (by rw [txt_size]; simp)
        simp only [Nat.reduceAdd] at hla
        have hb : bits .and .i64 ((n : Int) / 16) 1 = (((n / 16) % 2 : Nat) : Int) := i64_and1 (n / 16)
        by_cases hq : (n / 16) % 2 = 1
        · have hst : encL n 5 = encL n 4 ++ [lc 4] := by show encL n 4 ++ _ = _; rw [if_pos (by simpa using hq)]
          rw [hq] at hb
          have hb2 : (bits .and .i64 ((n : Int) / 16) 1 == 1) = true := by rw [hb]; rfl
          have HST : Hid _ := hst
          clear hst hq hb hl hlt hk
          go_wp2
          go_round
          case rel => exact ⟨5, by omega, rfl, by rw [HST.out, txt_append]⟩
          case measure => simp [intOf]
        · have hst : encL n 5 = encL n 4 := by show encL n 4 ++ _ = _; rw [if_neg (by simpa using hq), List.append_nil]
          rw [show (n / 16) % 2 = 0 by omega] at hb
          have hb2 : (bits .and .i64 ((n : Int) / 16) 1 == 1) = false := by rw [hb]; rfl
          have HST : Hid _ := hst
          clear hst hq hb hl hlt hk
          go_wp2
          go_round
          case rel => exact ⟨5, by omega, rfl, by rw [HST.out]⟩
          case measure => simp [intOf]
      · have ha := add_texts (txt (encL n 5)) (txt [lc 5]) (by rw [txt_size]; omega) (by rw [txt_size]; simp)
        simp only [Nat.reduceAdd] at hla
        have hb : bits .and .i64 ((n : Int) / 32) 1 = (((n / 32) % 2 : Nat) : Int) := i64_and1 (n / 32)
        by_cases hq : (n / 32) % 2 = 1
        · have hst : encL n 6 = encL n 5 ++ [lc 5] := by show encL n 5 ++ _ = _; rw [if_pos (by simpa using hq)]
          rw [hq] at hb
          have hb2 : (bits .and .i64 ((n : Int) / 32) 1 == 1) = true := by rw [hb]; rfl
          have HST : Hid _ := hst
          clear hst hq hb hl hlt hk
          go_wp2
          go_round
          case rel => exact ⟨6, by omega, rfl, by rw [HST.out, txt_append]⟩
          case measure => simp [intOf]
        · have hst : encL n 6 = encL n 5 := by show encL n 5 ++ _ = _; rw [if_neg (by simpa using hq), List.append_nil]
          rw [show (n / 32) % 2 = 0 by omega] at hb
          have hb2 : (bits .and .i64 ((n : Int) / 32) 1 == 1) = false := by rw [hb]; rfl
          have HST : Hid _ := hst
          clear hst hq hb hl hlt hk
          go_wp2
          go_round
          case rel => exact ⟨6, by omega, rfl, by rw [HST.out]⟩
          case measure => simp [intOf]
    · obtain rfl : k = 6 := by omega
      have hem : (txt (encL n 6)).toList.isEmpty = decide (n = 0) := by
        rw [ByteArray.toList_eq, list_txt, HE.out]
        by_cases h0 : n = 0
        · subst h0; rfl
        · rw [if_neg h0, decide_eq_false h0]
          cases hl : lettersP n with
          | nil =>
            exfalso
            have := (letters_all n hn (by omega)).1
            rw [hl] at this
            have h2 : sts [] 6 = ([], 0) := by decide
            rw [h2] at this
            exact h0 (Prod.mk.inj this).2.symm
          | cons => rfl
      have hem2 : ((txt (encL n 6)).toList == []) = decide (n = 0) := by rw [← hem]; cases (txt (encL n 6)).toList <;> rfl
      by_cases h0 : n = 0
      · rw [decide_eq_true h0] at hem hem2
        subst h0
        clear hlt hk
        go_wp2
        go_ret
        exact ⟨rfl, rfl⟩
      · rw [decide_eq_false h0] at hem hem2
        have HR : Hid (encL n 6 = lettersP n) := by have := HE.out; rw [if_neg h0] at this; exact this
        clear hlt hk h0
        go_wp2
        go_ret
        exact ⟨by rw [HR.out]; rfl, rfl⟩

/-- What the document's flags answers. -/
def DFlAns (s : ByteArray) (q : Nat) (L : WL) (b : Bool) (w : World) (e : Ending) (w' : World) : Prop :=
  ∃ (v : Nat) (g : Bool), e = .returned (.int .i64 (v : Int)) ∧ v < 64 ∧ g = (lettersOf s.data.toList).isSome ∧ (g = true → lettersOf s.data.toList = some v) ∧ RAt w' q L (b || !g) ∧ ExtX q w w'

theorem flag_end {s : List UInt8} {n : Nat} (hn : n < 64) (h : ∀ j, j < 64 → lettersP j = s → n = j) : decide (lettersP n = s) = (lettersOf s).isSome ∧ (decide (lettersP n = s) = true → lettersOf s = some n) := by
  by_cases he : lettersP n = s
  · have := lettersOf_P n hn
    rw [he] at this
    rw [decide_eq_true he, this]; simp
  · rw [decide_eq_false he]
    cases hf : lettersOf s with
    | none => simp
    | some m =>
      obtain ⟨hm, h2⟩ := find_letters hf
      have := h m hm h2
      subst this
      exact absurd h2 he

theorem txt_eq (l : List UInt8) (s : ByteArray) : decide (txt l = s) = decide (l = s.data.toList) := by
  by_cases h : l = s.data.toList
  · rw [decide_eq_true h, decide_eq_true (by rw [h, txt_list])]
  · rw [decide_eq_false h, decide_eq_false (fun e => h (by rw [← e, list_txt]))]

set_option maxHeartbeats 1000000 in
theorem dflags_any (s : ByteArray) (q : Nat) (L : WL) (b : Bool) (w : World) (h : RAt w q L b) :
    Calls Tryz.prog 30 #[.pointer (some ⟨q, 0, none⟩), .string s] w (DFlAns s q L b w) := by
  have HA : Hid (∀ (v : Nat) (g : Bool) w', v < 64 → g = (lettersOf s.data.toList).isSome → (g = true → lettersOf s.data.toList = some v) → RAt w' q L (b || !g) → ExtX q w w' → DFlAns s q L b w (.returned (.int .i64 (v : Int))) w') := fun v g w' h1 h2 h3 h4 h5 => ⟨v, g, rfl, h1, h2, h3, h4, h5⟩
  generalize DFlAns s q L b w = An at *
  have c1 := fun n w hn => refLetters_any n w hn
  have he := fun n => eqT (txt (lettersP n)) s
  have HT : Hid (∀ n, ((txt (lettersP n)).toList == s.toList) = decide (lettersP n = s.data.toList)) := fun n => by rw [he n, txt_eq]
  have H : Hid (RAt w q L b) := h
  obtain ⟨a, n, c, h1, h2, h3, h4, h5, h6⟩ := h
  obtain ⟨d0, d1, f0, f1⟩ := cells_two' h1
  clear h1 h2 h3 h4 h5 h6 he
  go_enter Tryz.func30, Tryz.ntmps30
  go_wp2
  go_loop [5, 6] (fun n i => ∃ k m : Nat, k ≤ 64 ∧ i = .int .i64 k ∧ n = .int .i64 m ∧ m < 64 ∧ Hid (∀ j, j < k → lettersP j = s.data.toList → m = j)) (fun _ i => 64 - (intOf i).toNat)
  case atStart => exact ⟨0, 0, Nat.zero_le _, rfl, rfl, by omega, fun j hj => absurd hj (Nat.not_lt_zero _)⟩
  case round =>
    obtain ⟨k, m, hk, rfl, rfl, hm, HK⟩ := hrel
    by_cases hlt : k < 64
    · have he := HT.out k
      by_cases hq : lettersP k = s.data.toList
      · rw [decide_eq_true hq] at he
        have HN : Hid (∀ j, j < k + 1 → lettersP j = s.data.toList → k = j) := fun j hj h2 => by
          have h3 := lettersOf_P j (by omega)
          have h4 := lettersOf_P k hlt
          rw [h2] at h3; rw [hq, h3] at h4
          exact (Option.some.inj h4).symm
        clear hq HK
        go_wp2_with (go_at_call 43; refine (c1 k _ hlt).mono ?_; rintro e w1 ⟨rfl, rfl⟩)
        go_round
        case rel => exact ⟨k + 1, k, by omega, by go_num, rfl, by omega, HN⟩
        case measure => simp [intOf]; omega
      · rw [decide_eq_false hq] at he
        have HN : Hid (∀ j, j < k + 1 → lettersP j = s.data.toList → m = j) := fun j hj h2 => by
          rcases Nat.lt_or_ge j k with h3 | h3
          · exact HK.out j h3 h2
          · obtain rfl : j = k := by omega
            exact absurd h2 hq
        clear hq HK
        go_wp2_with (go_at_call 43; refine (c1 k _ hlt).mono ?_; rintro e w1 ⟨rfl, rfl⟩)
        go_round
        case rel => exact ⟨k + 1, m, by omega, by go_num, rfl, hm, HN⟩
        case measure => simp [intOf]; omega
    · obtain rfl : k = 64 := by omega
      have hq := flag_end hm HK.out
      have he := HT.out m
      have hne : ((txt (lettersP m)).toList != s.toList) = !decide (lettersP m = s.data.toList) := by unfold bne; rw [he]
      have HQ : Hid _ := hq
      have hm2 : m < 64 := hm
      generalize hg : decide (lettersP m = s.data.toList) = g at *
      clear hlt hk HK hq hg
      cases g with
      | true =>
        go_wp2_with (go_at_call 43; refine (c1 m _ hm2).mono ?_; rintro e w1 ⟨rfl, rfl⟩)
        exact HA.out m true _ hm HQ.out.1 (fun _ => HQ.out.2 trivial) (by rw [Bool.not_true, Bool.or_false]; exact H.out) (ExtX.refl _ _)
      | false =>
        go_wp2_with (go_at_call 43; refine (c1 m _ hm2).mono ?_; rintro e w1 ⟨rfl, rfl⟩)
        exact HA.out m false _ hm HQ.out.1 HQ.out.2 (by rw [Bool.not_false, Bool.or_true]; exact RAt.set H.out (putX _ _ _ _) (fun a n c h => heap_set h (k := 1) (.bool true))) (putX _ _ _ _)
end Go.Proofs.YtbmmgjmmooakpaaGreatDoor.Ru
