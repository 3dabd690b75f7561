/- RuQ, RuT, RuS: in one text. -/
import Derived.Test.YtbmmgjmmooakpaaGreatDoorRuP6
import Derived.Test.YtbmmgjmmooakpaaGreatDoorRuD
import Derived.Test.YtbmmgjmmooakpaaGreatDoorRuK
namespace Go.Proofs.YtbmmgjmmooakpaaGreatDoor.Ru
open Go.RowKit
set_option linter.unusedVariables false
set_option maxRecDepth 100000

def sideA : SideV := ⟨true, txt [], 0, 0, 0, 65535⟩
/-- pass proto tcp from any to any flags set/mask -/
def ruleF (s m : Int) : RuleV := ⟨true, false, false, txt [], 6, sideA, sideA, s, m, -1, false, pin0, pin0, 0⟩

theorem nil_small : (txt []).size ≤ 9223372036854775807 := by decide
theorem sideA_ok : SideOk sideA := ⟨by decide, by decide, by decide⟩
theorem pin0_ok : PinOk pin0 := ⟨by decide, by decide, by decide⟩
theorem nil_on : (decide (txt [] = txt []) || nameB (txt [])) = true := by decide
theorem sideA_end : endB sideA = true := by decide
theorem sideA_ports : portsB sideA = true := by decide
theorem pin0_is : pinB pin0 = true := by decide

theorem ruleF_ok {s m : Int} (hs : 0 ≤ s ∧ s ≤ 63) : RuleOk (ruleF s m) :=
  ⟨nil_small, by show _ ≤ s; omega, by show s ≤ _; omega, sideA_ok, sideA_ok, pin0_ok, pin0_ok⟩

theorem ruleF_good {s m : Int} (hs : 0 ≤ s ∧ s ≤ 63) (hm : 1 ≤ m ∧ m ≤ 63) : Good (ruleF s m) :=
  ⟨nil_on, by show (0 : Int) ≤ 6; omega, by show (6 : Int) ≤ 255; omega, sideA_end, sideA_ports, sideA_end, sideA_ports, hs.1, hs.2, by show 0 ≤ m; omega, hm.2, fun h => by have h' : m = 0 := h; omega, by show (-1 : Int) ≤ -1; omega, by show (-1 : Int) ≤ 255; omega, pin0_is, pin0_is, by show (0 : Int) ≤ 0; omega, by show (0 : Int) ≤ 3; omega⟩

theorem ruleF_is {s m : Int} (hs : 0 ≤ s ∧ s ≤ 63) (hm : 1 ≤ m ∧ m ≤ 63) : isR (ruleF s m) = (andNot s m == 0) := by
  have e : isR (ruleF s m) = (true && (true && (true && (true && (true && (flagsB (ruleF s m) && (true && (true && (true && true))))))))) := by rfl
  rw [e]
  unfold flagsB inB
  show (true && (true && (true && (true && (true && ((if (6 : Int) = 6 then (decide (0 ≤ m) && decide (m ≤ 63)) && andNot s m == 0 else s == 0 && m == 0) && (true && (true && (true && true))))))))) = _
  rw [if_pos rfl, decide_eq_true (show 0 ≤ m by omega), decide_eq_true hm.2]
  simp

theorem ruleF_words (s m : Int) (hm : 1 ≤ m) : ruleW (ruleF s m) = [tPass, tProto, tTcp, tFrom, tAny, tTo, tAny, tFlags, flagsT s m] := by
  have e : (!(m == 0)) = true := by simp; omega
  show tPass :: (optW false [tReturn] ++ (optW false [tQuick] ++ (optW (!decide (txt [] = txt [])) [tOn, txt []] ++ (optW (!((6 : Int) == 0)) [tProto, protoT 6] ++ (sideW tFrom sideA ++ (sideW tTo sideA ++ (optW (!(m == 0)) [tFlags, flagsT s m] ++ (optW (!((-1 : Int) == -1)) [tType, decB (-1)] ++ (optW false [tKeep] ++ (pinW tRouteTo pin0 ++ (pinW tReplyTo pin0 ++ (optW (!((0 : Int) == 0)) [tTable, decB 0] ++ [])))))))))))) = _
  rw [e]
  rfl

/-- What the text of flags is read as. -/
theorem flags_text {s m : Int} (hs : 0 ≤ s ∧ s ≤ 63) (hm : 1 ≤ m ∧ m ≤ 63) : parseR (printR (ruleF s m)) = if (andNot s m == 0) = true then some (ruleF s m) else none := by
  unfold parseR printR
  rw [join_words _ (rule_words (ruleF_good hs hm)), rule_back (ruleF_good hs hm) (ruleF_ok hs)]
  simp only [ruleF_is hs hm]

/-- The text itself. -/
theorem flags_printed {s m : Int} (hm : 1 ≤ m) : printR (ruleF s m) = ⟨#[112, 97, 115, 115, 32, 112, 114, 111, 116, 111, 32, 116, 99, 112, 32, 102, 114, 111, 109, 32, 97, 110, 121, 32, 116, 111, 32, 97, 110, 121, 32, 102, 108, 97, 103, 115, 32]⟩ ++ txt (lettersP s.toNat) ++ ⟨#[47]⟩ ++ txt (lettersP m.toNat) := by
  unfold printR
  rw [ruleF_words s m hm]
  apply list_inj
  unfold flagsT
  simp [ByteArray.data_append, txt, Lib.join, List.intercalate]
end Go.Proofs.YtbmmgjmmooakpaaGreatDoor.Ru

namespace Go.Proofs.YtbmmgjmmooakpaaGreatDoor.Ru
open Go.RowKit
set_option linter.unusedVariables false
set_option maxRecDepth 100000

def sideP (l h : Int) : SideV := ⟨true, txt [], 0, 0, l, h⟩
/-- block proto p from any port l:h to any -/
def ruleP (l h p : Int) : RuleV := ⟨false, false, false, txt [], p, sideP l h, sideA, 0, 0, -1, false, pin0, pin0, 0⟩

def wordsP (l h p : Int) : WL := [tBlock, tProto, protoT p, tFrom, tAny, tPort, portsT (sideP l h), tTo, tAny]

theorem numIn_top {n : Int} (h0 : 0 ≤ n) : numIn (decB n) 0 65535 = decide (n ≤ 65535) := by
  by_cases h : n ≤ 65535
  · rw [decide_eq_true h]; exact numIn_dec (by omega) h0 h
  · rw [decide_eq_false h, Bool.eq_false_iff]
    intro g
    have := (numIn_bd g (by decide)).2
    rw [valT_dec h0] at this
    exact h this

theorem portsOf_any {l h : Int} (l0 : 0 ≤ l) (h0 : 0 ≤ h) : portsOf (portsT (sideP l h)) = if (decide (l ≤ 65535) && decide (h ≤ 65535)) = true then some (l, h) else none := by
  have e : ∀ n : Int, (decB n).data.toList = Lib.decDigits n.toNat := fun n => by unfold decB; simp
  have hn : ∀ n : Int, 58 ∉ (decB n).data.toList := fun n => by rw [e]; exact digits_no (by decide) (digits_num _).1
  unfold portsT
  show portsOf (if l = h then decB l else decB l ++ ⟨#[58]⟩ ++ decB h) = _
  by_cases hl : l = h
  · subst hl
    rw [if_pos rfl, ports_one (hn _), numIn_top l0, valT_dec l0, Bool.and_self]
  · rw [if_neg hl, ports_two (A := decB l) (B := decB h) (by simp [ByteArray.data_append]) (hn _), numIn_top l0, numIn_top h0, valT_dec l0, valT_dec h0]
    have : (l == h) = false := by simpa using hl
    rw [this]
    simp

theorem dec5_word {n : Int} (h : n ≤ 99999) : (decB n).size ≤ 5 := decB_size5 n h

theorem portsP_word {l h : Int} (hl : l ≤ 99999) (hh : h ≤ 99999) : wordOk (portsT (sideP l h)) := by
  unfold portsT
  show wordOk (if l = h then decB l else decB l ++ ⟨#[58]⟩ ++ decB h)
  by_cases he : l = h
  · rw [if_pos he]; exact dec_word hl
  · rw [if_neg he]
    have := decB_size5 l hl
    have := decB_size5 h hh
    exact word_cat (by decide) (dec_word hl).2.1 (dec_word hh).2.1 (by omega)

theorem wordsP_ok {l h p : Int} (hl : l ≤ 99999) (hh : h ≤ 99999) (p0 : 1 ≤ p) (p1 : p ≤ 255) : ∀ x ∈ wordsP l h p, wordOk x := by
  intro x hx
  unfold wordsP at hx
  simp only [List.mem_cons, List.not_mem_nil, or_false] at hx
  rcases hx with rfl | rfl | rfl | rfl | rfl | rfl | rfl | rfl | rfl
  · exact word_kw (by decide)
  · exact word_kw (by decide)
  · exact proto_word (by omega) p1
  · exact word_kw (by decide)
  · exact word_kw (by decide)
  · exact word_kw (by decide)
  · exact portsP_word hl hh
  · exact word_kw (by decide)
  · exact word_kw (by decide)

/-- Whether these ports may be. -/
def mayP (l h p : Int) : Bool := decide (l ≤ h) && (decide (h ≤ 65535) && ((p == 6 || p == 17) || (l == 0 && h == 65535)))

theorem ruleP_is {l h p : Int} (l0 : 0 ≤ l) (p0 : 1 ≤ p) (p1 : p ≤ 255) : isR (ruleP l h p) = mayP l h p := by
  have e : isR (ruleP l h p) = (true && (true && (inB p 0 255 && ((true && ((inB l 0 65535 && inB h l 65535) && ((l == 0 && h == 65535) || (p == 6 || p == 17)))) && ((true && (true && (true || (p == 6 || p == 17)))) && (flagsB (ruleP l h p) && (true && (true && (true && true))))))))) := by rfl
  have f : flagsB (ruleP l h p) = true := by
    unfold flagsB
    show (if p = 6 then inB 0 0 63 && andNot 0 0 == 0 else ((0 : Int) == 0 && (0 : Int) == 0)) = true
    by_cases h6 : p = 6
    · rw [if_pos h6]; decide
    · rw [if_neg h6]; decide
  rw [e, f]
  unfold inB mayP
  rw [decide_eq_true (show 0 ≤ p by omega), decide_eq_true p1, decide_eq_true l0]
  generalize (p == 6 || p == 17) = b
  generalize (l == 0 && h == 65535) = c
  by_cases g1 : l ≤ h
  · by_cases g2 : h ≤ 65535
    · rw [decide_eq_true g1, decide_eq_true g2, decide_eq_true (show l ≤ 65535 by omega)]
      cases b <;> cases c <;> rfl
    · rw [decide_eq_false g2]; simp
  · rw [decide_eq_false g1]; simp

theorem sWord_no {t : ByteArray} {L : WL} (h : isW t L = false) : sWord t L = some (false, L) := by
  unfold sWord aftW; rw [h]; rfl

theorem ruleP_read {l h p : Int} (l0 : 0 ≤ l) (h0 : 0 ≤ h) (p0 : 1 ≤ p) (p1 : p ≤ 255) :
    sRule true (wordsP l h p) = if (decide (l ≤ 65535) && decide (h ≤ 65535)) = true then some (ruleP l h p, []) else none := by
  have hw : wordsP l h p = tBlock :: (tProto :: protoT p :: (tFrom :: tAny :: tPort :: portsT (sideP l h) :: (sideW tTo sideA ++ []))) := rfl
  have a1 : sAct (wordsP l h p) = some (false, tProto :: protoT p :: (tFrom :: tAny :: tPort :: portsT (sideP l h) :: (sideW tTo sideA ++ []))) := by
    rw [hw]; unfold sAct
    rw [isW_cons, isW_cons, if_neg (by decide), if_pos (by decide)]; rfl
  generalize hR : (sideW tTo sideA ++ [] : WL) = R at *
  have iP : ∀ t L, tProto ≠ t → isW t (tProto :: L) = false := fun t L h => by rw [isW_cons, decide_eq_false h]
  have a2 : ∀ L, sWord tReturn (tProto :: L) = some (false, tProto :: L) := fun L => sWord_no (iP _ _ (by decide))
  have a3 : ∀ L, sWord tQuick (tProto :: L) = some (false, tProto :: L) := fun L => sWord_no (iP _ _ (by decide))
  have a4 : ∀ L, sOn true (tProto :: L) = some (txt [], tProto :: L) := fun L => by unfold sOn; rw [iP _ _ (by decide)]; rfl
  have a5 : ∀ L, sProto (tProto :: protoT p :: L) = some (p, L) := fun L => by
    unfold sProto
    rw [isW_cons, if_pos (by decide)]
    simp [sHead, protoOf_back p0 p1]
  have a6 : sSide true tFrom (tFrom :: tAny :: tPort :: portsT (sideP l h) :: R) = (portsOf (portsT (sideP l h))).map fun q => (withPorts ⟨true, txt [], 0, 0, 0, 0⟩ q, R) := by
    unfold sSide sMust
    rw [isW_cons, if_pos (by decide)]
    simp only [Option.bind_some, List.tail_cons, sEnd, sHead, show endOf true tAny = some ⟨true, txt [], 0, 0, 0, 0⟩ from rfl, Option.map_some]
    unfold sPorts
    rw [isW_cons, if_pos (by decide)]
    simp only [List.tail_cons, sHead, Option.bind_some]
    cases portsOf (portsT (sideP l h)) <;> rfl
  have a7 : sSide true tTo R = some (sideA, []) := by rw [← hR]; exact side_back sideA_end sideA_ports sideA_ok isW_nil
  have n1 : ∀ t, isW t [] = false := fun t => isW_nil
  have a8 : sFlags [] = some ((0, 0), []) := by unfold sFlags; rw [n1]; rfl
  have a9 : sNumber tType 0 255 (-1) [] = some (-1, []) := by unfold sNumber; rw [n1]; rfl
  have a10 : sWord tKeep [] = some (false, []) := sWord_no (n1 _)
  have a11 : sPin true tRouteTo [] = some (pin0, []) := by unfold sPin; rw [n1]; rfl
  have a12 : sPin true tReplyTo [] = some (pin0, []) := by unfold sPin; rw [n1]; rfl
  have a13 : sNumber tTable 1 3 0 [] = some (0, []) := by unfold sNumber; rw [n1]; rfl
  rw [portsOf_any l0 h0] at a6
  unfold sRule
  cases hq : (decide (l ≤ 65535) && decide (h ≤ 65535)) with
  | false =>
    rw [hq, if_neg (by decide)] at a6
    simp only [a1, a2, a3, a4, a5, a6, Option.bind_some, Option.map_none, Option.bind_none]
    rfl
  | true =>
    rw [hq, if_pos rfl] at a6
    simp only [a1, a2, a3, a4, a5, a6, a7, a8, a9, a10, a11, a12, a13, Option.bind_some, Option.map_some]
    rfl

theorem ports_text {l h p : Int} (l0 : 0 ≤ l) (h0 : 0 ≤ h) (l1 : l ≤ 99999) (h1 : h ≤ 99999) (p0 : 1 ≤ p) (p1 : p ≤ 255) {X : ByteArray} (hX : wordsB X = wordsP l h p) :
    (parseR X).isSome = mayP l h p := by
  unfold parseR
  rw [hX, ruleP_read l0 h0 p0 p1]
  cases hq : (decide (l ≤ 65535) && decide (h ≤ 65535)) with
  | false =>
    rw [if_neg (by decide)]
    symm
    show mayP l h p = false
    simp only [Bool.and_eq_false_iff, decide_eq_false_iff_not] at hq
    unfold mayP
    by_cases g1 : l ≤ h
    · rw [decide_eq_false (show ¬ h ≤ 65535 by omega)]; simp
    · rw [decide_eq_false g1]; simp
  | true =>
    rw [if_pos rfl]
    show (if isR (ruleP l h p) = true then some (ruleP l h p) else none).isSome = _
    rw [ruleP_is l0 p0 p1]
    cases mayP l h p <;> rfl

/-- The text's words. -/
theorem ports_words {l h p : Int} (l1 : l ≤ 99999) (h1 : h ≤ 99999) (p0 : 1 ≤ p) (p1 : p ≤ 255) :
    wordsB (⟨#[98, 108, 111, 99, 107, 32, 112, 114, 111, 116, 111, 32]⟩ ++ protoT p ++ ⟨#[32, 102, 114, 111, 109, 32, 97, 110, 121, 32, 112, 111, 114, 116, 32]⟩ ++ portsT (sideP l h) ++ ⟨#[32, 116, 111, 32, 97, 110, 121]⟩) = wordsP l h p := by
  have e : (⟨#[98, 108, 111, 99, 107, 32, 112, 114, 111, 116, 111, 32]⟩ ++ protoT p ++ ⟨#[32, 102, 114, 111, 109, 32, 97, 110, 121, 32, 112, 111, 114, 116, 32]⟩ ++ portsT (sideP l h) ++ ⟨#[32, 116, 111, 32, 97, 110, 121]⟩ : ByteArray) = txt (Lib.join ((wordsP l h p).map (·.data.toList)) [32]) := by
    apply list_inj
    unfold wordsP
    simp [ByteArray.data_append, txt, Lib.join, List.intercalate]
  rw [e]
  exact join_words _ (wordsP_ok l1 h1 p0 p1)
end Go.Proofs.YtbmmgjmmooakpaaGreatDoor.Ru

namespace Go.Proofs.YtbmmgjmmooakpaaGreatDoor.Ru
open Go.RowKit
set_option linter.unusedVariables false
set_option maxRecDepth 100000

theorem parseRE_form2 (s : ByteArray) : ∃ (r : RuleV) (er : Int), parseRE s = .returned (.tuple #[(.agg #[.bool r.pass, .bool r.ret, .bool r.quick, .string r.on, .int .i64 r.proto, .bool r.src.any, .string r.src.table, .int .u32 r.src.a, .int .i64 r.src.n, .int .i64 r.src.low, .int .i64 r.src.high, .bool r.dst.any, .string r.dst.table, .int .u32 r.dst.a, .int .i64 r.dst.n, .int .i64 r.dst.low, .int .i64 r.dst.high, .int .i64 r.set, .int .i64 r.mask, .int .i64 r.type, .bool r.keep, .bool r.rt.on, .string r.rt.iface, .int .u32 r.rt.gate, .bool r.rp.on, .string r.rp.iface, .int .u32 r.rp.gate, .int .i64 r.table]), .int .i64 er]) ∧ (er == 0) = (parseR s).isSome := by
  cases h : parseR s with
  | none => exact ⟨_, _, parseRE_none h, rfl⟩
  | some r => exact ⟨_, _, parseRE_some h, rfl⟩

theorem proto_steps (p : Int) : (if (p == 17) = true then tUdp else if (p == 6) = true then tTcp else if (p == 1) = true then tIcmp else decB p) = protoT p ∨ p < 0 := by
  by_cases h0 : p < 0
  · exact .inr h0
  left
  by_cases h1 : p = 1
  · subst h1; rfl
  by_cases h6 : p = 6
  · subst h6; rfl
  by_cases h7 : p = 17
  · subst h7; rfl
  rw [if_neg (by simpa using h7), if_neg (by simpa using h6), if_neg (by simpa using h1), protoT_dec (by omega) h1 h6 h7]

set_option maxHeartbeats 40000000 in
theorem law_ports (l h p : Int) (w : World) (hs : Std w) :
    Calls Tryz.prog 8 #[.int .i64 l, .int .i64 h, .int .i64 p] w fun e w' => e = .returned (.bool true) ∧ Ext w w' := by
  have c9 := fun w h => known14_any w h
  by_cases hh : l < 0
  · have e1 : decide (l < 0) = true := decide_eq_true hh
    clear hh
    go_enter Tryz.func8, Tryz.ntmps8
    go_wp2_with (go_at_call 14; refine (c9 _ hs).mono ?_; rintro e w1 ⟨rfl, hx1⟩)
    go_ret
    exact ⟨rfl, hx1⟩
  have g1 : 0 ≤ l := by omega
  have e1 : decide (l < 0) = false := decide_eq_false hh
  clear hh
  by_cases hh : 99999 < l
  · have e2 : decide (99999 < l) = true := decide_eq_true hh
    clear hh
    go_enter Tryz.func8, Tryz.ntmps8
    go_wp2_with (go_at_call 14; refine (c9 _ hs).mono ?_; rintro e w1 ⟨rfl, hx1⟩)
    go_ret
    exact ⟨rfl, hx1⟩
  have g2 : l ≤ 99999 := by omega
  have e2 : decide (99999 < l) = false := decide_eq_false hh
  clear hh
  by_cases hh : h < 0
  · have e3 : decide (h < 0) = true := decide_eq_true hh
    clear hh
    go_enter Tryz.func8, Tryz.ntmps8
    go_wp2_with (go_at_call 14; refine (c9 _ hs).mono ?_; rintro e w1 ⟨rfl, hx1⟩)
    go_ret
    exact ⟨rfl, hx1⟩
  have g3 : 0 ≤ h := by omega
  have e3 : decide (h < 0) = false := decide_eq_false hh
  clear hh
  by_cases hh : 99999 < h
  · have e4 : decide (99999 < h) = true := decide_eq_true hh
    clear hh
    go_enter Tryz.func8, Tryz.ntmps8
    go_wp2_with (go_at_call 14; refine (c9 _ hs).mono ?_; rintro e w1 ⟨rfl, hx1⟩)
    go_ret
    exact ⟨rfl, hx1⟩
  have g4 : h ≤ 99999 := by omega
  have e4 : decide (99999 < h) = false := decide_eq_false hh
  clear hh
  by_cases hh : p < 1
  · have e5 : decide (p < 1) = true := decide_eq_true hh
    clear hh
    go_enter Tryz.func8, Tryz.ntmps8
    go_wp2_with (go_at_call 14; refine (c9 _ hs).mono ?_; rintro e w1 ⟨rfl, hx1⟩)
    go_ret
    exact ⟨rfl, hx1⟩
  have g5 : 1 ≤ p := by omega
  have e5 : decide (p < 1) = false := decide_eq_false hh
  clear hh
  by_cases hh : 255 < p
  · have e6 : decide (255 < p) = true := decide_eq_true hh
    clear hh
    go_enter Tryz.func8, Tryz.ntmps8
    go_wp2_with (go_at_call 14; refine (c9 _ hs).mono ?_; rintro e w1 ⟨rfl, hx1⟩)
    go_ret
    exact ⟨rfl, hx1⟩
  have g6 : p ≤ 255 := by omega
  have e6 : decide (255 < p) = false := decide_eq_false hh
  clear hh
  have hT := ports_text (X := _) g1 g3 g2 g4 g5 g6 (ports_words g2 g4 g5 g6)
  have hps := (proto_steps p).resolve_right (by omega)
  have zN := (proto_word (show 0 ≤ p by omega) g6).2.2
  have zS := (portsP_word g2 g4).2.2
  have z0 := decB_size5 p (by omega)
  have zL := decB_size5 l g2
  have zH := decB_size5 h g4
  have cP := fun w => dec_any p w (by omega) (by omega)
  have cL := fun w => dec_any l w g1 g2
  have cH := fun w => dec_any h w g3 g4
  have hSd : portsT (sideP l h) = if (h != l) = true then decB l ++ ⟨#[58]⟩ ++ decB h else decB l := by
    unfold portsT
    show (if l = h then _ else _) = _
    by_cases e : l = h
    · subst e
      rw [if_pos rfl, show (l != l) = false by simp]
      rfl
    · have e2 : (h != l) = true := by simpa using fun e2 => e e2.symm
      rw [if_neg e, e2]
      rfl
  obtain ⟨X, hX⟩ : ∃ X : ByteArray, ⟨#[98, 108, 111, 99, 107, 32, 112, 114, 111, 116, 111, 32]⟩ ++ protoT p ++ ⟨#[32, 102, 114, 111, 109, 32, 97, 110, 121, 32, 112, 111, 114, 116, 32]⟩ ++ portsT (sideP l h) ++ ⟨#[32, 116, 111, 32, 97, 110, 121]⟩ = X := ⟨_, rfl⟩
  have zX : X.size ≤ 1000000 := by
    rw [← hX]
    simp only [ByteArray.size_append]
    have e1 : (⟨#[98, 108, 111, 99, 107, 32, 112, 114, 111, 116, 111, 32]⟩ : ByteArray).size = 12 := rfl
    have e2 : (⟨#[32, 102, 114, 111, 109, 32, 97, 110, 121, 32, 112, 111, 114, 116, 32]⟩ : ByteArray).size = 15 := rfl
    have e3 : (⟨#[32, 116, 111, 32, 97, 110, 121]⟩ : ByteArray).size = 7 := rfl
    omega
  rw [hX] at hT
  have c1 := fun w h => rparse_any X w zX h
  have c2 := fun w => dparse_any X w zX
  obtain ⟨r, er, hE, hM⟩ := parseRE_form2 X
  rw [hE] at c1 c2
  rw [hT] at hM
  unfold mayP at hM
  have c3 := fun w => refSame_any r r w
  rw [ruleQ_refl] at c3
  have HS : Hid (∀ w', Ext w w' → Std w') := fun w' h => hs.later h
  clear hE hT hs zX
  obtain ⟨pass, ret, quick, on, proto, ⟨sany, stab, sa, sn, slo, shi⟩, ⟨dany, dtab, da, dn, dlo, dhi⟩, set, mask, type, keep, ⟨ton, tif, tg⟩, ⟨pon, pif, pg⟩, table⟩ := r
  dsimp only at *
  generalize portsT (sideP l h) = S at *
  generalize protoT p = N3 at *
  generalize decB p = N0 at *
  generalize decB l = dl at *
  generalize decB h = dh at *
  obtain ⟨b1, hb1⟩ : ∃ b, (p == 1) = b := ⟨_, rfl⟩
  obtain ⟨b6, hb6⟩ : ∃ b, (p == 6) = b := ⟨_, rfl⟩
  obtain ⟨b7, hb7⟩ : ∃ b, (p == 17) = b := ⟨_, rfl⟩
  obtain ⟨bn, hbn⟩ : ∃ b, (h != l) = b := ⟨_, rfl⟩
  obtain ⟨bl, hbl⟩ : ∃ b, (l == 0) = b := ⟨_, rfl⟩
  obtain ⟨bh, hbh⟩ : ∃ b, (h == 65535) = b := ⟨_, rfl⟩
  obtain ⟨d1, hd1⟩ : ∃ b, decide (l ≤ h) = b := ⟨_, rfl⟩
  obtain ⟨d2, hd2⟩ : ∃ b, decide (h ≤ 65535) = b := ⟨_, rfl⟩
  rw [hb7, hb6, hb1] at hps
  rw [hbn] at hSd
  rw [hd1, hd2, hb6, hb7, hbl, hbh] at hM
  obtain ⟨N1, hN1⟩ : ∃ N, (if b1 = true then tIcmp else N0) = N := ⟨_, rfl⟩
  rw [hN1] at hps
  obtain ⟨N2, hN2⟩ : ∃ N, (if b6 = true then tTcp else N1) = N := ⟨_, rfl⟩
  rw [hN2] at hps
  have H1 : Hid _ := hN1
  have H2 : Hid _ := hN2
  have H3 : Hid _ := hps
  have HD : Hid (S = if bn = true then dl ++ ⟨#[58]⟩ ++ dh else dl) := hSd
  have HX : Hid _ := hX
  have HM : Hid _ := hM
  have hv := Ext.refl w
  have tokP : Hid True := trivial
  clear hN1 hN2 hps hSd hX hM
  go_enter Tryz.func8, Tryz.ntmps8
  go_upto_if 42 with (go_at_call 22; refine (cP _).mono ?_; rintro e w1 ⟨rfl, hx1⟩; replace hv := hv.trans hx1; clear hx1)
  go_cut [7] from 16 (fun v wx => v = .string N1 ∧ Ext w wx)
  case first => as_aux_lemma =>
    cases b1
    · go_wp2
      go_meet
      case rel => exact ⟨congrArg Value.string H1.out, hv⟩
    · go_wp2
      go_meet
      case rel => exact ⟨congrArg Value.string H1.out, hv⟩
  obtain ⟨rfl, hvc⟩ := hcut
  clear hv
  have hv := hvc
  clear hvc
  go_upto_if 44 with fail
  go_cut [7] from 16 (fun v wx => v = .string N2 ∧ Ext w wx)
  case first => as_aux_lemma =>
    cases b6
    · go_wp2
      go_meet
      case rel => exact ⟨congrArg Value.string H2.out, hv⟩
    · go_wp2
      go_meet
      case rel => exact ⟨congrArg Value.string H2.out, hv⟩
  obtain ⟨rfl, hvc⟩ := hcut
  clear hv
  have hv := hvc
  clear hvc
  go_upto_if 46 with fail
  go_cut [7] from 16 (fun v wx => v = .string N3 ∧ Ext w wx)
  case first => as_aux_lemma =>
    cases b7
    · go_wp2
      go_meet
      case rel => exact ⟨congrArg Value.string H3.out, hv⟩
    · go_wp2
      go_meet
      case rel => exact ⟨congrArg Value.string H3.out, hv⟩
  obtain ⟨rfl, hvc⟩ := hcut
  clear hv
  have hv := hvc
  clear hvc
  go_upto_if 51 with (go_at_call 22; refine (cL _).mono ?_; rintro e w1 ⟨rfl, hx1⟩; replace hv := hv.trans hx1; clear hx1)
  go_cut [8] from 16 (fun v wx => v = .string S ∧ Ext w wx)
  case first => as_aux_lemma =>
    cases bn
    · go_wp2
      go_meet
      case rel => exact ⟨congrArg Value.string HD.out.symm, hv⟩
    · go_wp2_with (go_at_call 22; refine (cH _).mono ?_; rintro e w1 ⟨rfl, hx1⟩; replace hv := hv.trans hx1; clear hx1)
      go_meet
      case rel => exact ⟨congrArg Value.string HD.out.symm, hv⟩
  obtain ⟨rfl, hvc⟩ := hcut
  clear hv
  have hv := hvc
  clear hvc
  go_upto_region 14 with fail
  rw [HX.out]
  have HV : Hid (Ext w wc) := hv
  clear cP cL cH
  go_upto_region 16 with (first
    | (go_at_call 9; refine (c1 _ (HS.out _ HV.out)).mono ?_; rintro e w1 ⟨rfl, hq⟩; have hx1 := Ext.trans HV.out hq; clear hq)
    | (refine wpl_store (by rfl) 32 _ _ rfl rfl 28 w1.heap.size #[.bool pass, .bool ret, .bool quick, .string on, .int .i64 proto, .bool sany, .string stab, .int .u32 sa, .int .i64 sn, .int .i64 slo, .int .i64 shi, .bool dany, .string dtab, .int .u32 da, .int .i64 dn, .int .i64 dlo, .int .i64 dhi, .int .i64 set, .int .i64 mask, .int .i64 type, .bool keep, .bool ton, .string tif, .int .u32 tg, .bool pon, .string pif, .int .u32 pg, .int .i64 table] _ _ rfl rfl (heap_new w1 _) rule_size rfl rfl (by simp [Value.oneCell']) ?_; intro w2 hy k2; have hx2 : Ext w w2 := ExtX.ext (Ext.alloc hx1 (.cells #[.bool false, .bool false, .bool false, .string ⟨#[]⟩, .int .i64 0, .bool false, .string ⟨#[]⟩, .int .u32 0, .int .i64 0, .int .i64 0, .int .i64 0, .bool false, .string ⟨#[]⟩, .int .u32 0, .int .i64 0, .int .i64 0, .int .i64 0, .int .i64 0, .int .i64 0, .int .i64 0, .bool false, .bool false, .string ⟨#[]⟩, .int .u32 0, .bool false, .string ⟨#[]⟩, .int .u32 0, .int .i64 0] 32)) hy hx1.size; have K1 : Hid _ := k2; clear hy k2)
    | (go_at_call 10; refine (c2 _).mono ?_; rintro e w3 ⟨rfl, hq⟩; have hx3 := hx2.trans hq; replace K1 := hq.heap K1.out; have K1 : Hid _ := K1; clear hq)
    | (refine wpl_store (by rfl) 32 _ _ rfl rfl 28 w3.heap.size #[.bool pass, .bool ret, .bool quick, .string on, .int .i64 proto, .bool sany, .string stab, .int .u32 sa, .int .i64 sn, .int .i64 slo, .int .i64 shi, .bool dany, .string dtab, .int .u32 da, .int .i64 dn, .int .i64 dlo, .int .i64 dhi, .int .i64 set, .int .i64 mask, .int .i64 type, .bool keep, .bool ton, .string tif, .int .u32 tg, .bool pon, .string pif, .int .u32 pg, .int .i64 table] _ _ rfl rfl (heap_new w3 _) rule_size rfl rfl (by simp [Value.oneCell']) ?_; intro w4 hy k2; have hx4 : Ext w w4 := ExtX.ext (Ext.alloc hx3 (.cells #[.bool false, .bool false, .bool false, .string ⟨#[]⟩, .int .i64 0, .bool false, .string ⟨#[]⟩, .int .u32 0, .int .i64 0, .int .i64 0, .int .i64 0, .bool false, .string ⟨#[]⟩, .int .u32 0, .int .i64 0, .int .i64 0, .int .i64 0, .int .i64 0, .int .i64 0, .int .i64 0, .bool false, .bool false, .string ⟨#[]⟩, .int .u32 0, .bool false, .string ⟨#[]⟩, .int .u32 0, .int .i64 0] 32)) hy hx3.size; have K2 : Hid _ := k2; replace K1 := (ExtX.ext ((Ext.refl w3).alloc (.cells #[.bool false, .bool false, .bool false, .string ⟨#[]⟩, .int .i64 0, .bool false, .string ⟨#[]⟩, .int .u32 0, .int .i64 0, .int .i64 0, .int .i64 0, .bool false, .string ⟨#[]⟩, .int .u32 0, .int .i64 0, .int .i64 0, .int .i64 0, .int .i64 0, .int .i64 0, .int .i64 0, .bool false, .bool false, .string ⟨#[]⟩, .int .u32 0, .bool false, .string ⟨#[]⟩, .int .u32 0, .int .i64 0] 32)) hy (Nat.le_refl _)).heap K1.out; have K1 : Hid _ := K1; clear hy k2))
  go_cut [14] from 16 (fun v wx => v = .bool (bl && bh) ∧ wx = w4)
  case first => as_aux_lemma =>
    cases bl
    · go_wp2
      go_meet
      case rel => exact ⟨rfl, rfl⟩
    · go_wp2
      go_meet
      case rel => exact ⟨rfl, rfl⟩
  obtain ⟨rfl, rfl⟩ := hcut
  obtain ⟨al, hal⟩ : ∃ a, (bl && bh) = a := ⟨_, rfl⟩
  have hM := HM.out
  rw [hal] at hM ⊢
  have HM2 : Hid _ := hM
  clear hM HM hal
  go_upto_region 17 with fail
  go_cut [15] from 16 (fun v wx => v = .bool (d1 && (d2 && ((b6 || b7) || al))) ∧ wx = wc)
  case first => as_aux_lemma =>
    cases d1 <;> cases d2 <;> cases b6 <;> cases b7 <;> cases al <;> (go_wp2; go_meet; exact ⟨rfl, rfl⟩)
  obtain ⟨rfl, rfl⟩ := hcut
  have hM := HM2.out
  generalize (d1 && (d2 && ((b6 || b7) || al))) = M at *
  clear HM2
  go_wp2_with (first
    | (refine wpl_load (by rfl) 32 _ rfl w1.heap.size _ _ _ rfl K1.out Tryz.underlying32 rfl rule_size ?_)
    | (refine wpl_load (by rfl) 32 _ rfl w3.heap.size _ _ _ rfl K2.out Tryz.underlying32 rfl rule_size ?_)
    | (go_at_call 11; refine (c3 _).mono ?_; rintro e w5 ⟨rfl, hq⟩; have hx5 := hx4.trans hq; clear hq)
    | (go_at_call 14; refine (c9 _ (HS.out _ hx5)).mono ?_; rintro e w6 ⟨rfl, hq⟩; have hx6 := hx5.trans hq; clear hq))
  go_ret
  exact ⟨rfl, hx6⟩
end Go.Proofs.YtbmmgjmmooakpaaGreatDoor.Ru
