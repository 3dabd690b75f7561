/- RuQ, RuR: in one text. -/
import Derived.Test.YtbmmgjmmooakpaaGreatDoorRuP6
import Derived.Test.YtbmmgjmmooakpaaGreatDoorRuD
import Derived.Test.YtbmmgjmmooakpaaGreatDoorRuK
namespace Go.Proofs.YtbmmgjmmooakpaaGreatDoor.Ru
open Go.RowKit
set_option linter.unusedVariables false
set_option maxRecDepth 100000

def sideA : SideV := ⟨true, txt [], 0, 0, 0, 65535⟩
/-- pass proto tcp from any to any flags set/mask -/
def ruleF (s m : Int) : RuleV := ⟨true, false, false, txt [], 6, sideA, sideA, s, m, -1, false, pin0, pin0, 0⟩

theorem nil_small : (txt []).size ≤ 9223372036854775807 := by decide
theorem sideA_ok : SideOk sideA := ⟨by decide, by decide, by decide⟩
theorem pin0_ok : PinOk pin0 := ⟨by decide, by decide, by decide⟩
theorem nil_on : (decide (txt [] = txt []) || nameB (txt [])) = true := by decide
theorem sideA_end : endB sideA = true := by decide
theorem sideA_ports : portsB sideA = true := by decide
theorem pin0_is : pinB pin0 = true := by decide

theorem ruleF_ok {s m : Int} (hs : 0 ≤ s ∧ s ≤ 63) : RuleOk (ruleF s m) :=
  ⟨nil_small, by show _ ≤ s; omega, by show s ≤ _; omega, sideA_ok, sideA_ok, pin0_ok, pin0_ok⟩

theorem ruleF_good {s m : Int} (hs : 0 ≤ s ∧ s ≤ 63) (hm : 1 ≤ m ∧ m ≤ 63) : Good (ruleF s m) :=
  ⟨nil_on, by show (0 : Int) ≤ 6; omega, by show (6 : Int) ≤ 255; omega, sideA_end, sideA_ports, sideA_end, sideA_ports, hs.1, hs.2, by show 0 ≤ m; omega, hm.2, fun h => by have h' : m = 0 := h; omega, by show (-1 : Int) ≤ -1; omega, by show (-1 : Int) ≤ 255; omega, pin0_is, pin0_is, by show (0 : Int) ≤ 0; omega, by show (0 : Int) ≤ 3; omega⟩

theorem ruleF_is {s m : Int} (hs : 0 ≤ s ∧ s ≤ 63) (hm : 1 ≤ m ∧ m ≤ 63) : isR (ruleF s m) = (andNot s m == 0) := by
  have e : isR (ruleF s m) = (true && (true && (true && (true && (true && (flagsB (ruleF s m) && (true && (true && (true && true))))))))) := by rfl
  rw [e]
  unfold flagsB inB
  show (true && (true && (true && (true && (true && ((if (6 : Int) = 6 then (decide (0 ≤ m) && decide (m ≤ 63)) && andNot s m == 0 else s == 0 && m == 0) && (true && (true && (true && true))))))))) = _
  rw [if_pos rfl, decide_eq_true (show 0 ≤ m by omega), decide_eq_true hm.2]
  simp

theorem ruleF_words (s m : Int) (hm : 1 ≤ m) : ruleW (ruleF s m) = [tPass, tProto, tTcp, tFrom, tAny, tTo, tAny, tFlags, flagsT s m] := by
  have e : (!(m == 0)) = true := by simp; omega
  show tPass :: (optW false [tReturn] ++ (optW false [tQuick] ++ (optW (!decide (txt [] = txt [])) [tOn, txt []] ++ (optW (!((6 : Int) == 0)) [tProto, protoT 6] ++ (sideW tFrom sideA ++ (sideW tTo sideA ++ (optW (!(m == 0)) [tFlags, flagsT s m] ++ (optW (!((-1 : Int) == -1)) [tType, decB (-1)] ++ (optW false [tKeep] ++ (pinW tRouteTo pin0 ++ (pinW tReplyTo pin0 ++ (optW (!((0 : Int) == 0)) [tTable, decB 0] ++ [])))))))))))) = _
  rw [e]
  rfl

/-- What the text of flags is read as. -/
theorem flags_text {s m : Int} (hs : 0 ≤ s ∧ s ≤ 63) (hm : 1 ≤ m ∧ m ≤ 63) : parseR (printR (ruleF s m)) = if (andNot s m == 0) = true then some (ruleF s m) else none := by
  unfold parseR printR
  rw [join_words _ (rule_words (ruleF_good hs hm)), rule_back (ruleF_good hs hm) (ruleF_ok hs)]
  simp only [ruleF_is hs hm]

/-- The text itself. -/
theorem flags_printed {s m : Int} (hm : 1 ≤ m) : printR (ruleF s m) = ⟨#[112, 97, 115, 115, 32, 112, 114, 111, 116, 111, 32, 116, 99, 112, 32, 102, 114, 111, 109, 32, 97, 110, 121, 32, 116, 111, 32, 97, 110, 121, 32, 102, 108, 97, 103, 115, 32]⟩ ++ txt (lettersP s.toNat) ++ ⟨#[47]⟩ ++ txt (lettersP m.toNat) := by
  unfold printR
  rw [ruleF_words s m hm]
  apply list_inj
  unfold flagsT
  simp [ByteArray.data_append, txt, Lib.join, List.intercalate]
end Go.Proofs.YtbmmgjmmooakpaaGreatDoor.Ru

namespace Go.Proofs.YtbmmgjmmooakpaaGreatDoor.Ru
open Go.RowKit
set_option linter.unusedVariables false
set_option maxRecDepth 100000


theorem flags_size {n k : Nat} (hn : n < 64) (hk : k < 64) (hk1 : 1 ≤ k) : (printR (ruleF n k)).size ≤ 1000000 := by
  have h1 := join_len _ (rule_words (ruleF_good (s := n) (m := k) (by omega) (by omega)))
  have h2 := rule_len (ruleF n k)
  unfold printR
  rw [txt_size]
  omega


set_option maxHeartbeats 40000000 in
theorem law_flags (s m : Int) (w : World) (hs : Std w) :
    Calls Tryz.prog 7 #[.int .i64 s, .int .i64 m] w fun e w' => e = .returned (.bool true) ∧ Ext w w' := by
  have c9 := fun w h => known14_any w h
  by_cases h : s < 0
  · have e1 : decide (s < 0) = true := decide_eq_true h
    clear h
    go_enter Tryz.func7, Tryz.ntmps7
    go_wp2_with (go_at_call 14; refine (c9 _ hs).mono ?_; rintro e w1 ⟨rfl, hx1⟩)
    go_ret
    exact ⟨rfl, hx1⟩
  have g1 : 0 ≤ s := by omega
  have e1 : decide (s < 0) = false := decide_eq_false h
  clear h
  by_cases h : 63 < s
  · have e2 : decide (63 < s) = true := decide_eq_true h
    clear h
    go_enter Tryz.func7, Tryz.ntmps7
    go_wp2_with (go_at_call 14; refine (c9 _ hs).mono ?_; rintro e w1 ⟨rfl, hx1⟩)
    go_ret
    exact ⟨rfl, hx1⟩
  have g2 : s ≤ 63 := by omega
  have e2 : decide (63 < s) = false := decide_eq_false h
  clear h
  by_cases h : m < 1
  · have e3 : decide (m < 1) = true := decide_eq_true h
    clear h
    go_enter Tryz.func7, Tryz.ntmps7
    go_wp2_with (go_at_call 14; refine (c9 _ hs).mono ?_; rintro e w1 ⟨rfl, hx1⟩)
    go_ret
    exact ⟨rfl, hx1⟩
  have g3 : 1 ≤ m := by omega
  have e3 : decide (m < 1) = false := decide_eq_false h
  clear h
  by_cases h : 63 < m
  · have e4 : decide (63 < m) = true := decide_eq_true h
    clear h
    go_enter Tryz.func7, Tryz.ntmps7
    go_wp2_with (go_at_call 14; refine (c9 _ hs).mono ?_; rintro e w1 ⟨rfl, hx1⟩)
    go_ret
    exact ⟨rfl, hx1⟩
  have g4 : m ≤ 63 := by omega
  have e4 : decide (63 < m) = false := decide_eq_false h
  clear h
  obtain ⟨n, rfl⟩ := Int.eq_ofNat_of_zero_le g1
  obtain ⟨k, rfl⟩ := Int.eq_ofNat_of_zero_le (show 0 ≤ m by omega)
  have hn : n < 64 := by omega
  have hk : k < 64 := by omega
  have hk1 : 1 ≤ k := by omega
  have c1 := fun w h => rparse_any (printR (ruleF n k)) w (flags_size hn hk hk1) h
  have hp := flags_text (s := n) (m := k) (by omega) (by omega)
  have hpr := flags_printed (s := n) (m := k) (by omega)
  rw [Int.toNat_natCast, Int.toNat_natCast] at hpr
  have hE := encL_all n hn
  have hF := encL_all k hk
  rw [if_neg (by omega)] at hF
  have zS := (letters_word n hn).2
  have zT := (letters_word k hk).2
  rw [← txt_size] at zS zT
  have hE0 : ((txt (encL n 6)).toList == []) = decide (n = 0) := by
    rw [empT, hE]
    by_cases h : n = 0
    · rw [if_pos h, decide_eq_true h, decide_eq_true rfl]
    · rw [if_neg h, decide_eq_false h]
      refine decide_eq_false fun e => ?_
      have e2 := txt_inj e
      have : ∀ n, n < 64 → lettersP n ≠ [] := by decide
      exact this n hn e2
  have hSt : decide (n = 0) = true → txt (lettersP n) = ⟨#[45]⟩ := fun h => by
    have := of_decide_eq_true h
    subst this; rfl
  have hSf : decide (n = 0) = false → txt (encL n 6) = txt (lettersP n) := fun h => by rw [hE, if_neg (of_decide_eq_false h)]
  obtain ⟨z, hz⟩ : ∃ z, decide (n = 0) = z := ⟨_, rfl⟩
  rw [hz] at hE0 hSt hSf
  obtain ⟨S0, hS0⟩ : ∃ S, txt (encL n 6) = S := ⟨_, rfl⟩
  rw [hS0] at hE0 hSf
  have zS0 : S0.size ≤ 6 := by rw [← hS0, txt_size]; exact encL_len n 6
  obtain ⟨S, hS⟩ : ∃ S, txt (lettersP n) = S := ⟨_, rfl⟩
  obtain ⟨T, hT⟩ : ∃ T, txt (lettersP k) = T := ⟨_, rfl⟩
  rw [hS] at hpr zS hSt hSf
  rw [hT] at hpr zT
  obtain ⟨X, hX⟩ : ∃ X, printR (ruleF n k) = X := ⟨_, rfl⟩
  rw [hX] at c1 hp hpr
  have HF : Hid _ := hF
  have HP : Hid (parseR X = if (andNot n k == 0) = true then some (ruleF n k) else none) := hp
  have HPR : Hid (X = _) := hpr
  have HST : Hid (z = true → S = ⟨#[45]⟩) := hSt
  have HSF : Hid (z = false → S0 = S) := hSf
  have HS0 : Hid (txt (encL n 6) = S0) := hS0
  have HE0 : Hid ((S0.toList == []) = z) := hE0
  have HS : Hid (txt (lettersP n) = S) := hS
  have HT : Hid (txt (lettersP k) = T) := hT
  have HH : Hid (Std w) := hs
  have HN : Hid (n < 64 ∧ k < 64 ∧ 1 ≤ k) := ⟨hn, hk, hk1⟩
  clear hE hF hp hpr hX hS hT hSt hSf hS0 hE0 hs hz
  go_enter Tryz.func7, Tryz.ntmps7
  go_wp2
  go_loop [5, 6, 7] (fun t u i => ∃ j : Nat, j ≤ 6 ∧ i = .int .i64 j ∧ t = .string (txt (encL n j)) ∧ u = .string (txt (encL k j))) (fun _ _ i => 6 - (intOf i).toNat)
  case atStart => exact ⟨0, Nat.zero_le _, rfl, rfl, rfl⟩
  case round =>
    obtain ⟨j, hj, rfl, rfl, rfl⟩ := hrel
    by_cases hlt : j < 6
    · have hl := encL_len n j
      have hl2 := encL_len k j
      have hla := letter_at j hlt
      clear c1 c9 g1 g2 g3 g4 e1 e2 e3 e4
      rcases (by omega : j = 0 ∨ j = 1 ∨ j = 2 ∨ j = 3 ∨ j = 4 ∨ j = 5) with rfl | rfl | rfl | rfl | rfl | rfl
      · have ha := add_texts (txt (encL n 0)) (txt [lc 0]) (by rw [txt_size]; omega) (by rw [txt_size]; simp)
        have ha2 := add_texts (txt (encL k 0)) (txt [lc 0]) (by rw [txt_size]; omega) (by rw [txt_size]; simp)
        simp only [Nat.reduceAdd] at hla
        have hb : bits .and .i64 (n : Int) 1 = (((n) % 2 : Nat) : Int) := i64_and1 (n)
        have hc : bits .and .i64 (k : Int) 1 = (((k) % 2 : Nat) : Int) := i64_and1 (k)
        by_cases hp : n % 2 = 1
        · have sp : encL n 1 = encL n 0 ++ [lc 0] := by show encL n 0 ++ _ = _; rw [if_pos (by simpa using hp)]
          rw [hp] at hb
          have hb2 : (bits .and .i64 (n : Int) 1 == 1) = true := by rw [hb]; rfl
          by_cases hq : k % 2 = 1
          · have sq : encL k 1 = encL k 0 ++ [lc 0] := by show encL k 0 ++ _ = _; rw [if_pos (by simpa using hq)]
            rw [hq] at hc
            have hc2 : (bits .and .i64 (k : Int) 1 == 1) = true := by rw [hc]; rfl
            have HSP : Hid _ := sp
            have HSQ : Hid _ := sq
            clear sp sq hp hq hb hc hl hl2 hlt hj
            go_wp2
            go_round
            case rel => exact ⟨1, by omega, rfl, by rw [HSP.out, txt_append], by rw [HSQ.out, txt_append]⟩
            case measure => simp [intOf]
          · have sq : encL k 1 = encL k 0 := by show encL k 0 ++ _ = _; rw [if_neg (by simpa using hq), List.append_nil]
            rw [show k % 2 = 0 by omega] at hc
            have hc2 : (bits .and .i64 (k : Int) 1 == 1) = false := by rw [hc]; rfl
            have HSP : Hid _ := sp
            have HSQ : Hid _ := sq
            clear sp sq hp hq hb hc hl hl2 hlt hj
            go_wp2
            go_round
            case rel => exact ⟨1, by omega, rfl, by rw [HSP.out, txt_append], by rw [HSQ.out]⟩
            case measure => simp [intOf]
        · have sp : encL n 1 = encL n 0 := by show encL n 0 ++ _ = _; rw [if_neg (by simpa using hp), List.append_nil]
          rw [show n % 2 = 0 by omega] at hb
          have hb2 : (bits .and .i64 (n : Int) 1 == 1) = false := by rw [hb]; rfl
          by_cases hq : k % 2 = 1
          · have sq : encL k 1 = encL k 0 ++ [lc 0] := by show encL k 0 ++ _ = _; rw [if_pos (by simpa using hq)]
            rw [hq] at hc
            have hc2 : (bits .and .i64 (k : Int) 1 == 1) = true := by rw [hc]; rfl
            have HSP : Hid _ := sp
            have HSQ : Hid _ := sq
            clear sp sq hp hq hb hc hl hl2 hlt hj
            go_wp2
            go_round
            case rel => exact ⟨1, by omega, rfl, by rw [HSP.out], by rw [HSQ.out, txt_append]⟩
            case measure => simp [intOf]
          · have sq : encL k 1 = encL k 0 := by show encL k 0 ++ _ = _; rw [if_neg (by simpa using hq), List.append_nil]
            rw [show k % 2 = 0 by omega] at hc
            have hc2 : (bits .and .i64 (k : Int) 1 == 1) = false := by rw [hc]; rfl
            have HSP : Hid _ := sp
            have HSQ : Hid _ := sq
            clear sp sq hp hq hb hc hl hl2 hlt hj
            go_wp2
            go_round
            case rel => exact ⟨1, by omega, rfl, by rw [HSP.out], by rw [HSQ.out]⟩
            case measure => simp [intOf]
      · have ha := add_texts (txt (encL n 1)) (txt [lc 1]) (by rw [txt_size]; omega) (by rw [txt_size]; simp)
        have ha2 := add_texts (txt (encL k 1)) (txt [lc 1]) (by rw [txt_size]; omega) (by rw [txt_size]; simp)
        simp only [Nat.reduceAdd] at hla
        have hb : bits .and .i64 ((n : Int) / 2) 1 = ((((n / 2)) % 2 : Nat) : Int) := i64_and1 ((n / 2))
        have hc : bits .and .i64 ((k : Int) / 2) 1 = ((((k / 2)) % 2 : Nat) : Int) := i64_and1 ((k / 2))
        by_cases hp : (n / 2) % 2 = 1
        · have sp : encL n 2 = encL n 1 ++ [lc 1] := by show encL n 1 ++ _ = _; rw [if_pos (by simpa using hp)]
          rw [hp] at hb
          have hb2 : (bits .and .i64 ((n : Int) / 2) 1 == 1) = true := by rw [hb]; rfl
          by_cases hq : (k / 2) % 2 = 1
          · have sq : encL k 2 = encL k 1 ++ [lc 1] := by show encL k 1 ++ _ = _; rw [if_pos (by simpa using hq)]
            rw [hq] at hc
            have hc2 : (bits .and .i64 ((k : Int) / 2) 1 == 1) = true := by rw [hc]; rfl
            have HSP : Hid _ := sp
            have HSQ : Hid _ := sq
            clear sp sq hp hq hb hc hl hl2 hlt hj
            go_wp2
            go_round
            case rel => exact ⟨2, by omega, rfl, by rw [HSP.out, txt_append], by rw [HSQ.out, txt_append]⟩
            case measure => simp [intOf]
          · have sq : encL k 2 = encL k 1 := by show encL k 1 ++ _ = _; rw [if_neg (by simpa using hq), List.append_nil]
            rw [show (k / 2) % 2 = 0 by omega] at hc
            have hc2 : (bits .and .i64 ((k : Int) / 2) 1 == 1) = false := by rw [hc]; rfl
            have HSP : Hid _ := sp
            have HSQ : Hid _ := sq
            clear sp sq hp hq hb hc hl hl2 hlt hj
            go_wp2
            go_round
            case rel => exact ⟨2, by omega, rfl, by rw [HSP.out, txt_append], by rw [HSQ.out]⟩
            case measure => simp [intOf]
        · have sp : encL n 2 = encL n 1 := by show encL n 1 ++ _ = _; rw [if_neg (by simpa using hp), List.append_nil]
          rw [show (n / 2) % 2 = 0 by omega] at hb
          have hb2 : (bits .and .i64 ((n : Int) / 2) 1 == 1) = false := by rw [hb]; rfl
          by_cases hq : (k / 2) % 2 = 1
          · have sq : encL k 2 = encL k 1 ++ [lc 1] := by show encL k 1 ++ _ = _; rw [if_pos (by simpa using hq)]
            rw [hq] at hc
            have hc2 : (bits .and .i64 ((k : Int) / 2) 1 == 1) = true := by rw [hc]; rfl
            have HSP : Hid _ := sp
            have HSQ : Hid _ := sq
            clear sp sq hp hq hb hc hl hl2 hlt hj
            go_wp2
            go_round
            case rel => exact ⟨2, by omega, rfl, by rw [HSP.out], by rw [HSQ.out, txt_append]⟩
            case measure => simp [intOf]
          · have sq : encL k 2 = encL k 1 := by show encL k 1 ++ _ = _; rw [if_neg (by simpa using hq), List.append_nil]
            rw [show (k / 2) % 2 = 0 by omega] at hc
            have hc2 : (bits .and .i64 ((k : Int) / 2) 1 == 1) = false := by rw [hc]; rfl
            have HSP : Hid _ := sp
            have HSQ : Hid _ := sq
            clear sp sq hp hq hb hc hl hl2 hlt hj
            go_wp2
            go_round
            case rel => exact ⟨2, by omega, rfl, by rw [HSP.out], by rw [HSQ.out]⟩
            case measure => simp [intOf]
      · have ha := add_texts (txt (encL n 2)) (txt [lc 2]) (by rw [txt_size]; omega) (by rw [txt_size]; simp)
        have ha2 := add_texts (txt (encL k 2)) (txt [lc 2]) (by rw [txt_size]; omega) (by rw [txt_size]; simp)
        simp only [Nat.reduceAdd] at hla
        have hb : bits .and .i64 ((n : Int) / 4) 1 = ((((n / 4)) % 2 : Nat) : Int) := i64_and1 ((n / 4))
        have hc : bits .and .i64 ((k : Int) / 4) 1 = ((((k / 4)) % 2 : Nat) : Int) := i64_and1 ((k / 4))
        by_cases hp : (n / 4) % 2 = 1
        · have sp : encL n 3 = encL n 2 ++ [lc 2] := by show encL n 2 ++ _ = _; rw [if_pos (by simpa using hp)]
          rw [hp] at hb
          have hb2 : (bits .and .i64 ((n : Int) / 4) 1 == 1) = true := by rw [hb]; rfl
          by_cases hq : (k / 4) % 2 = 1
          · have sq : encL k 3 = encL k 2 ++ [lc 2] := by show encL k 2 ++ _ = _; rw [if_pos (by simpa using hq)]
            rw [hq] at hc
            have hc2 : (bits .and .i64 ((k : Int) / 4) 1 == 1) = true := by rw [hc]; rfl
            have HSP : Hid _ := sp
            have HSQ : Hid _ := sq
            clear sp sq hp hq hb hc hl hl2 hlt hj
            go_wp2
            go_round
            case rel => exact ⟨3, by omega, rfl, by rw [HSP.out, txt_append], by rw [HSQ.out, txt_append]⟩
            case measure => simp [intOf]
          · have sq : encL k 3 = encL k 2 := by show encL k 2 ++ _ = _; rw [if_neg (by simpa using hq), List.append_nil]
            rw [show (k / 4) % 2 = 0 by omega] at hc
            have hc2 : (bits .and .i64 ((k : Int) / 4) 1 == 1) = false := by rw [hc]; rfl
            have HSP : Hid _ := sp
            have HSQ : Hid _ := sq
            clear sp sq hp hq hb hc hl hl2 hlt hj
            go_wp2
            go_round
            case rel => exact ⟨3, by omega, rfl, by rw [HSP.out, txt_append], by rw [HSQ.out]⟩
            case measure => simp [intOf]
        · have sp : encL n 3 = encL n 2 := by show encL n 2 ++ _ = _; rw [if_neg (by simpa using hp), List.append_nil]
          rw [show (n / 4) % 2 = 0 by omega] at hb
          have hb2 : (bits .and .i64 ((n : Int) / 4) 1 == 1) = false := by rw [hb]; rfl
          by_cases hq : (k / 4) % 2 = 1
          · have sq : encL k 3 = encL k 2 ++ [lc 2] := by show encL k 2 ++ _ = _; rw [if_pos (by simpa using hq)]
            rw [hq] at hc
            have hc2 : (bits .and .i64 ((k : Int) / 4) 1 == 1) = true := by rw [hc]; rfl
            have HSP : Hid _ := sp
            have HSQ : Hid _ := sq
            clear sp sq hp hq hb hc hl hl2 hlt hj
            go_wp2
            go_round
            case rel => exact ⟨3, by omega, rfl, by rw [HSP.out], by rw [HSQ.out, txt_append]⟩
            case measure => simp [intOf]
          · have sq : encL k 3 = encL k 2 := by show encL k 2 ++ _ = _; rw [if_neg (by simpa using hq), List.append_nil]
            rw [show (k / 4) % 2 = 0 by omega] at hc
            have hc2 : (bits .and .i64 ((k : Int) / 4) 1 == 1) = false := by rw [hc]; rfl
            have HSP : Hid _ := sp
            have HSQ : Hid _ := sq
            clear sp sq hp hq hb hc hl hl2 hlt hj
            go_wp2
            go_round
            case rel => exact ⟨3, by omega, rfl, by rw [HSP.out], by rw [HSQ.out]⟩
            case measure => simp [intOf]
      · have ha := add_texts (txt (encL n 3)) (txt [lc 3]) (by rw [txt_size]; omega) (by rw [txt_size]; simp)
        have ha2 := add_texts (txt (encL k 3)) (txt [lc 3]) (by rw [txt_size]; omega) (by rw [txt_size]; simp)
        simp only [Nat.reduceAdd] at hla
        have hb : bits .and .i64 ((n : Int) / 8) 1 = ((((n / 8)) % 2 : Nat) : Int) := i64_and1 ((n / 8))
        have hc : bits .and .i64 ((k : Int) / 8) 1 = ((((k / 8)) % 2 : Nat) : Int) := i64_and1 ((k / 8))
        by_cases hp : (n / 8) % 2 = 1
        · have sp : encL n 4 = encL n 3 ++ [lc 3] := by show encL n 3 ++ _ = _; rw [if_pos (by simpa using hp)]
          rw [hp] at hb
          have hb2 : (bits .and .i64 ((n : Int) / 8) 1 == 1) = true := by rw [hb]; rfl
          by_cases hq : (k / 8) % 2 = 1
          · have sq : encL k 4 = encL k 3 ++ [lc 3] := by show encL k 3 ++ _ = _; rw [if_pos (by simpa using hq)]
            rw [hq] at hc
            have hc2 : (bits .and .i64 ((k : Int) / 8) 1 == 1) = true := by rw [hc]; rfl
            have HSP : Hid _ := sp
            have HSQ : Hid _ := sq
            clear sp sq hp hq hb hc hl hl2 hlt hj
            go_wp2
            go_round
            case rel => exact ⟨4, by omega, rfl, by rw [HSP.out, txt_append], by rw [HSQ.out, txt_append]⟩
            case measure => simp [intOf]
          · have sq : encL k 4 = encL k 3 := by show encL k 3 ++ _ = _; rw [if_neg (by simpa using hq), List.append_nil]
            rw [show (k / 8) % 2 = 0 by omega] at hc
            have hc2 : (bits .and .i64 ((k : Int) / 8) 1 == 1) = false := by rw [hc]; rfl
            have HSP : Hid _ := sp
            have HSQ : Hid _ := sq
            clear sp sq hp hq hb hc hl hl2 hlt hj
            go_wp2
            go_round
            case rel => exact ⟨4, by omega, rfl, by rw [HSP.out, txt_append], by rw [HSQ.out]⟩
            case measure => simp [intOf]
        · have sp : encL n 4 = encL n 3 := by show encL n 3 ++ _ = _; rw [if_neg (by simpa using hp), List.append_nil]
          rw [show (n / 8) % 2 = 0 by omega] at hb
          have hb2 : (bits .and .i64 ((n : Int) / 8) 1 == 1) = false := by rw [hb]; rfl
          by_cases hq : (k / 8) % 2 = 1
          · have sq : encL k 4 = encL k 3 ++ [lc 3] := by show encL k 3 ++ _ = _; rw [if_pos (by simpa using hq)]
            rw [hq] at hc
            have hc2 : (bits .and .i64 ((k : Int) / 8) 1 == 1) = true := by rw [hc]; rfl
            have HSP : Hid _ := sp
            have HSQ : Hid _ := sq
            clear sp sq hp hq hb hc hl hl2 hlt hj
            go_wp2
            go_round
            case rel => exact ⟨4, by omega, rfl, by rw [HSP.out], by rw [HSQ.out, txt_append]⟩
            case measure => simp [intOf]
          · have sq : encL k 4 = encL k 3 := by show encL k 3 ++ _ = _; rw [if_neg (by simpa using hq), List.append_nil]
            rw [show (k / 8) % 2 = 0 by omega] at hc
            have hc2 : (bits .and .i64 ((k : Int) / 8) 1 == 1) = false := by rw [hc]; rfl
            have HSP : Hid _ := sp
            have HSQ : Hid _ := sq
            clear sp sq hp hq hb hc hl hl2 hlt hj
            go_wp2
            go_round
            case rel => exact ⟨4, by omega, rfl, by rw [HSP.out], by rw [HSQ.out]⟩
            case measure => simp [intOf]
      · have ha := add_texts (txt (encL n 4)) (txt [lc 4]) (by rw [txt_size]; omega) (by rw [txt_size]; simp)
        have ha2 := add_texts (txt (encL k 4)) (txt [lc 4]) (by rw [txt_size]; omega) (by rw [txt_size]; simp)
        simp only [Nat.reduceAdd] at hla
        have hb : bits .and .i64 ((n : Int) / 16) 1 = ((((n / 16)) % 2 : Nat) : Int) := i64_and1 ((n / 16))
        have hc : bits .and .i64 ((k : Int) / 16) 1 = ((((k / 16)) % 2 : Nat) : Int) := i64_and1 ((k / 16))
        by_cases hp : (n / 16) % 2 = 1
        · have sp : encL n 5 = encL n 4 ++ [lc 4] := by show encL n 4 ++ _ = _; rw [if_pos (by simpa using hp)]
          rw [hp] at hb
          have hb2 : (bits .and .i64 ((n : Int) / 16) 1 == 1) = true := by rw [hb]; rfl
          by_cases hq : (k / 16) % 2 = 1
          · have sq : encL k 5 = encL k 4 ++ [lc 4] := by show encL k 4 ++ _ = _; rw [if_pos (by simpa using hq)]
            rw [hq] at hc
            have hc2 : (bits .and .i64 ((k : Int) / 16) 1 == 1) = true := by rw [hc]; rfl
            have HSP : Hid _ := sp
            have HSQ : Hid _ := sq
            clear sp sq hp hq hb hc hl hl2 hlt hj
            go_wp2
            go_round
            case rel => exact ⟨5, by omega, rfl, by rw [HSP.out, txt_append], by rw [HSQ.out, txt_append]⟩
            case measure => simp [intOf]
          · have sq : encL k 5 = encL k 4 := by show encL k 4 ++ _ = _; rw [if_neg (by simpa using hq), List.append_nil]
            rw [show (k / 16) % 2 = 0 by omega] at hc
            have hc2 : (bits .and .i64 ((k : Int) / 16) 1 == 1) = false := by rw [hc]; rfl
            have HSP : Hid _ := sp
            have HSQ : Hid _ := sq
            clear sp sq hp hq hb hc hl hl2 hlt hj
            go_wp2
            go_round
            case rel => exact ⟨5, by omega, rfl, by rw [HSP.out, txt_append], by rw [HSQ.out]⟩
            case measure => simp [intOf]
        · have sp : encL n 5 = encL n 4 := by show encL n 4 ++ _ = _; rw [if_neg (by simpa using hp), List.append_nil]
          rw [show (n / 16) % 2 = 0 by omega] at hb
          have hb2 : (bits .and .i64 ((n : Int) / 16) 1 == 1) = false := by rw [hb]; rfl
          by_cases hq : (k / 16) % 2 = 1
          · have sq : encL k 5 = encL k 4 ++ [lc 4] := by show encL k 4 ++ _ = _; rw [if_pos (by simpa using hq)]
            rw [hq] at hc
            have hc2 : (bits .and .i64 ((k : Int) / 16) 1 == 1) = true := by rw [hc]; rfl
            have HSP : Hid _ := sp
            have HSQ : Hid _ := sq
            clear sp sq hp hq hb hc hl hl2 hlt hj
            go_wp2
            go_round
            case rel => exact ⟨5, by omega, rfl, by rw [HSP.out], by rw [HSQ.out, txt_append]⟩
            case measure => simp [intOf]
          · have sq : encL k 5 = encL k 4 := by show encL k 4 ++ _ = _; rw [if_neg (by simpa using hq), List.append_nil]
            rw [show (k / 16) % 2 = 0 by omega] at hc
            have hc2 : (bits .and .i64 ((k : Int) / 16) 1 == 1) = false := by rw [hc]; rfl
            have HSP : Hid _ := sp
            have HSQ : Hid _ := sq
            clear sp sq hp hq hb hc hl hl2 hlt hj
            go_wp2
            go_round
            case rel => exact ⟨5, by omega, rfl, by rw [HSP.out], by rw [HSQ.out]⟩
            case measure => simp [intOf]
      · have ha := add_texts (txt (encL n 5)) (txt [lc 5]) (by rw [txt_size]; omega) (by rw [txt_size]; simp)
        have ha2 := add_texts (txt (encL k 5)) (txt [lc 5]) (by rw [txt_size]; omega) (by rw [txt_size]; simp)
        simp only [Nat.reduceAdd] at hla
        have hb : bits .and .i64 ((n : Int) / 32) 1 = ((((n / 32)) % 2 : Nat) : Int) := i64_and1 ((n / 32))
        have hc : bits .and .i64 ((k : Int) / 32) 1 = ((((k / 32)) % 2 : Nat) : Int) := i64_and1 ((k / 32))
        by_cases hp : (n / 32) % 2 = 1
        · have sp : encL n 6 = encL n 5 ++ [lc 5] := by show encL n 5 ++ _ = _; rw [if_pos (by simpa using hp)]
          rw [hp] at hb
          have hb2 : (bits .and .i64 ((n : Int) / 32) 1 == 1) = true := by rw [hb]; rfl
          by_cases hq : (k / 32) % 2 = 1
          · have sq : encL k 6 = encL k 5 ++ [lc 5] := by show encL k 5 ++ _ = _; rw [if_pos (by simpa using hq)]
            rw [hq] at hc
            have hc2 : (bits .and .i64 ((k : Int) / 32) 1 == 1) = true := by rw [hc]; rfl
            have HSP : Hid _ := sp
            have HSQ : Hid _ := sq
            clear sp sq hp hq hb hc hl hl2 hlt hj
            go_wp2
            go_round
            case rel => exact ⟨6, by omega, rfl, by rw [HSP.out, txt_append], by rw [HSQ.out, txt_append]⟩
            case measure => simp [intOf]
          · have sq : encL k 6 = encL k 5 := by show encL k 5 ++ _ = _; rw [if_neg (by simpa using hq), List.append_nil]
            rw [show (k / 32) % 2 = 0 by omega] at hc
            have hc2 : (bits .and .i64 ((k : Int) / 32) 1 == 1) = false := by rw [hc]; rfl
            have HSP : Hid _ := sp
            have HSQ : Hid _ := sq
            clear sp sq hp hq hb hc hl hl2 hlt hj
            go_wp2
            go_round
            case rel => exact ⟨6, by omega, rfl, by rw [HSP.out, txt_append], by rw [HSQ.out]⟩
            case measure => simp [intOf]
        · have sp : encL n 6 = encL n 5 := by show encL n 5 ++ _ = _; rw [if_neg (by simpa using hp), List.append_nil]
          rw [show (n / 32) % 2 = 0 by omega] at hb
          have hb2 : (bits .and .i64 ((n : Int) / 32) 1 == 1) = false := by rw [hb]; rfl
          by_cases hq : (k / 32) % 2 = 1
          · have sq : encL k 6 = encL k 5 ++ [lc 5] := by show encL k 5 ++ _ = _; rw [if_pos (by simpa using hq)]
            rw [hq] at hc
            have hc2 : (bits .and .i64 ((k : Int) / 32) 1 == 1) = true := by rw [hc]; rfl
            have HSP : Hid _ := sp
            have HSQ : Hid _ := sq
            clear sp sq hp hq hb hc hl hl2 hlt hj
            go_wp2
            go_round
            case rel => exact ⟨6, by omega, rfl, by rw [HSP.out], by rw [HSQ.out, txt_append]⟩
            case measure => simp [intOf]
          · have sq : encL k 6 = encL k 5 := by show encL k 5 ++ _ = _; rw [if_neg (by simpa using hq), List.append_nil]
            rw [show (k / 32) % 2 = 0 by omega] at hc
            have hc2 : (bits .and .i64 ((k : Int) / 32) 1 == 1) = false := by rw [hc]; rfl
            have HSP : Hid _ := sp
            have HSQ : Hid _ := sq
            clear sp sq hp hq hb hc hl hl2 hlt hj
            go_wp2
            go_round
            case rel => exact ⟨6, by omega, rfl, by rw [HSP.out], by rw [HSQ.out]⟩
            case measure => simp [intOf]
    · obtain rfl : j = 6 := by omega
      rw [HF.out, HT.out, HS0.out]
      have ez := HE0.out
      go_upto_if 54 with fail
      go_cut [5] from 10 (fun v wx => v = .string S ∧ wx = w)
      case first => as_aux_lemma =>
        cases z
        · go_wp2
          go_meet
          case rel => exact ⟨congrArg Value.string (HSF.out (by first | rfl | trivial)), rfl⟩
        · go_wp2
          go_meet
          case rel => exact ⟨congrArg Value.string (HST.out (by first | rfl | trivial)).symm, rfl⟩
      obtain ⟨rfl, rfl⟩ := hcut
      obtain ⟨an, han⟩ : ∃ a, bits .andNot .i64 (n : Int) (k : Int) = a := ⟨_, rfl⟩
      have hp := HP.out
      rw [show andNot n k = an from han] at hp
      have HX : Hid (X = _) := HPR.out
      clear hlt hj
      by_cases hz : an = 0
      · rw [hz, if_pos (by rfl)] at hp
        rw [parseRE_some hp] at c1
        obtain ⟨⟨pass, ret, quick, on, proto, ⟨sany, stab, sa, sn, slo, shi⟩, ⟨dany, dtab, da, dn, dlo, dhi⟩, set, mask, type, keep, ⟨ton, tif, tg⟩, ⟨pon, pif, pg⟩, table⟩, hr⟩ : ∃ r, ruleF n k = r := ⟨_, rfl⟩
        have hset : set = n := by have := congrArg RuleV.set hr; exact this.symm
        have hmask : mask = k := by have := congrArg RuleV.mask hr; exact this.symm
        have hq1 : (set == (n : Int)) = true := by rw [hset]; simp
        have hq2 : (mask == (k : Int)) = true := by rw [hmask]; simp
        clear hset hmask
        rw [hr] at c1
        dsimp only at c1
        rw [HX.out] at c1
        subst hz
        clear hp hr
        go_wp2_with (first
          | (go_at_call 9; refine (c1 _ HH.out).mono ?_; rintro e w1 ⟨rfl, hx1⟩)
          | (refine wpl_store (by rfl) 32 _ _ rfl rfl 28 w1.heap.size #[.bool pass, .bool ret, .bool quick, .string on, .int .i64 proto, .bool sany, .string stab, .int .u32 sa, .int .i64 sn, .int .i64 slo, .int .i64 shi, .bool dany, .string dtab, .int .u32 da, .int .i64 dn, .int .i64 dlo, .int .i64 dhi, .int .i64 set, .int .i64 mask, .int .i64 type, .bool keep, .bool ton, .string tif, .int .u32 tg, .bool pon, .string pif, .int .u32 pg, .int .i64 table] _ _ rfl rfl (heap_new w1 _) rule_size rfl rfl (by simp [Value.oneCell']) ?_; intro w2 hy k2; have hx2 : Ext wc w2 := ExtX.ext (Ext.alloc hx1 (.cells #[.bool false, .bool false, .bool false, .string ⟨#[]⟩, .int .i64 0, .bool false, .string ⟨#[]⟩, .int .u32 0, .int .i64 0, .int .i64 0, .int .i64 0, .bool false, .string ⟨#[]⟩, .int .u32 0, .int .i64 0, .int .i64 0, .int .i64 0, .int .i64 0, .int .i64 0, .int .i64 0, .bool false, .bool false, .string ⟨#[]⟩, .int .u32 0, .bool false, .string ⟨#[]⟩, .int .u32 0, .int .i64 0] 32)) hy hx1.size; have K2 : Hid _ := k2; have y17 : w2.cell? ⟨w1.heap.size, 17, none⟩ = some (.int .i64 set) := heap_cell k2; have y18 : w2.cell? ⟨w1.heap.size, 18, none⟩ = some (.int .i64 mask) := heap_cell k2; clear hy k2)
          | (go_at_call 14; refine (c9 _ (HH.out.later hx2)).mono ?_; rintro e w3 ⟨rfl, hx3⟩))
        go_ret
        exact ⟨rfl, hx2.trans hx3⟩
      · have hne : (an != 0) = true := by simpa using hz
        rw [if_neg (by simpa using hz)] at hp
        rw [parseRE_none hp] at c1
        obtain ⟨⟨pass, ret, quick, on, proto, ⟨sany, stab, sa, sn, slo, shi⟩, ⟨dany, dtab, da, dn, dlo, dhi⟩, set, mask, type, keep, ⟨ton, tif, tg⟩, ⟨pon, pif, pg⟩, table⟩, hr⟩ : ∃ r, rule0 = r := ⟨_, rfl⟩
        rw [hr] at c1
        dsimp only at c1
        rw [HX.out] at c1
        clear hp hr hz
        go_wp2_with (first
          | (go_at_call 9; refine (c1 _ HH.out).mono ?_; rintro e w1 ⟨rfl, hx1⟩)
          | (refine wpl_store (by rfl) 32 _ _ rfl rfl 28 w1.heap.size #[.bool pass, .bool ret, .bool quick, .string on, .int .i64 proto, .bool sany, .string stab, .int .u32 sa, .int .i64 sn, .int .i64 slo, .int .i64 shi, .bool dany, .string dtab, .int .u32 da, .int .i64 dn, .int .i64 dlo, .int .i64 dhi, .int .i64 set, .int .i64 mask, .int .i64 type, .bool keep, .bool ton, .string tif, .int .u32 tg, .bool pon, .string pif, .int .u32 pg, .int .i64 table] _ _ rfl rfl (heap_new w1 _) rule_size rfl rfl (by simp [Value.oneCell']) ?_; intro w2 hy k2; have hx2 : Ext wc w2 := ExtX.ext (Ext.alloc hx1 (.cells #[.bool false, .bool false, .bool false, .string ⟨#[]⟩, .int .i64 0, .bool false, .string ⟨#[]⟩, .int .u32 0, .int .i64 0, .int .i64 0, .int .i64 0, .bool false, .string ⟨#[]⟩, .int .u32 0, .int .i64 0, .int .i64 0, .int .i64 0, .int .i64 0, .int .i64 0, .int .i64 0, .bool false, .bool false, .string ⟨#[]⟩, .int .u32 0, .bool false, .string ⟨#[]⟩, .int .u32 0, .int .i64 0] 32)) hy hx1.size; have K2 : Hid _ := k2; have y17 : w2.cell? ⟨w1.heap.size, 17, none⟩ = some (.int .i64 set) := heap_cell k2; have y18 : w2.cell? ⟨w1.heap.size, 18, none⟩ = some (.int .i64 mask) := heap_cell k2; clear hy k2)
          | (go_at_call 14; refine (c9 _ (HH.out.later hx2)).mono ?_; rintro e w3 ⟨rfl, hx3⟩))
        go_ret
        exact ⟨rfl, hx2.trans hx3⟩
end Go.Proofs.YtbmmgjmmooakpaaGreatDoor.Ru
