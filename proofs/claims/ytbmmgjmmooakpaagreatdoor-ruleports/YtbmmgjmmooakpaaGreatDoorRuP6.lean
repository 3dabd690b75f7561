/- Plain: a rule as words, and the words read back as the rule. -/
import Derived.Test.YtbmmgjmmooakpaaGreatDoorRuP5
import Derived.Test.YtbmmgjmmooakpaaGreatDoorRuA
import Derived.Test.YtbmmgjmmooakpaaGreatDoorRuB
import Derived.Test.YtbmmgjmmooakpaaGreatDoorRv2
import Derived.Test.YtbmmgjmmooakpaaGreatDoorBack
import Derived.Lib.Join
namespace Go.Proofs.YtbmmgjmmooakpaaGreatDoor.Ru
open Go.RowKit
set_option linter.unusedVariables false

/-- Words, if they are to stand there. -/
def optW (c : Bool) (l : WL) : WL := if c then l else []

def endT (s : SideV) : ByteArray := if s.any then tAny else if s.table = txt [] then printPB s.a s.n else tLt ++ s.table ++ tGt
def portsT (s : SideV) : ByteArray := if s.low = s.high then decB s.low else decB s.low ++ ⟨#[58]⟩ ++ decB s.high
def sideW (t : ByteArray) (s : SideV) : WL := t :: endT s :: optW (!allB s) [tPort, portsT s]
def flagsT (s m : Int) : ByteArray := txt (lettersP s.toNat) ++ ⟨#[47]⟩ ++ txt (lettersP m.toNat)
def pinW (t : ByteArray) (p : PinV) : WL := optW p.on [t, p.iface, printB p.gate]

def tl1 (r : RuleV) : WL := optW (!(r.table == 0)) [tTable, decB r.table] ++ []
def tl2 (r : RuleV) : WL := pinW tReplyTo r.rp ++ tl1 r
def tl3 (r : RuleV) : WL := pinW tRouteTo r.rt ++ tl2 r
def tl4 (r : RuleV) : WL := optW r.keep [tKeep] ++ tl3 r
def tl5 (r : RuleV) : WL := optW (!(r.type == -1)) [tType, decB r.type] ++ tl4 r
def tl6 (r : RuleV) : WL := optW (!(r.mask == 0)) [tFlags, flagsT r.set r.mask] ++ tl5 r
def tl7 (r : RuleV) : WL := sideW tTo r.dst ++ tl6 r
def tl8 (r : RuleV) : WL := sideW tFrom r.src ++ tl7 r
def tl9 (r : RuleV) : WL := optW (!(r.proto == 0)) [tProto, protoT r.proto] ++ tl8 r
def tl10 (r : RuleV) : WL := optW (!decide (r.on = txt [])) [tOn, r.on] ++ tl9 r
def tl11 (r : RuleV) : WL := optW r.quick [tQuick] ++ tl10 r
def tl12 (r : RuleV) : WL := optW r.ret [tReturn] ++ tl11 r

def actT (r : RuleV) : ByteArray := if r.pass then tPass else tBlock
def ruleW (r : RuleV) : WL := actT r :: tl12 r

/-- A rule as a text. -/
def printR (r : RuleV) : ByteArray := txt (Lib.join ((ruleW r).map (·.data.toList)) [32])

/-! ## Words that may be words -/

def wordOk (x : ByteArray) : Prop := x.data.toList ≠ [] ∧ 32 ∉ x.data.toList ∧ x.size ≤ 40

theorem mem_opt {c : Bool} {l : WL} {x : ByteArray} (h : x ∈ optW c l) : x ∈ l ∧ c = true := by
  unfold optW at h
  cases c
  · simp at h
  · exact ⟨by simpa using h, rfl⟩

theorem dec_word {n : Int} (h : n ≤ 99999) : wordOk (decB n) := by
  have h1 : (decB n).data.toList = Lib.decDigits n.toNat := by unfold decB; simp
  refine ⟨?_, ?_, Nat.le_trans (decB_size5 n h) (by decide)⟩
  · rw [h1]; exact (digits_num _).2.2.1
  · rw [h1]; exact digits_no (by decide) (digits_num _).1

theorem name_word {x : ByteArray} (h : nameB x = true) : wordOk x := by
  have h1 := nameB_size h
  refine ⟨fun e => ?_, nameB_no h (by decide), by omega⟩
  have := text_len x
  rw [e] at this
  simp at this
  omega

theorem word_cat {a b : ByteArray} {c : UInt8} (hc : c ≠ 32) (ha : 32 ∉ a.data.toList) (hb : 32 ∉ b.data.toList) (hs : a.size + b.size ≤ 39) : wordOk (a ++ ⟨#[c]⟩ ++ b) := by
  have e : (a ++ ⟨#[c]⟩ ++ b).data.toList = a.data.toList ++ c :: b.data.toList := by simp [ByteArray.data_append]
  refine ⟨?_, ?_, ?_⟩
  · rw [e]; simp
  · rw [e]
    simp only [List.mem_append, List.mem_cons, not_or]
    exact ⟨ha, fun h => hc h.symm, hb⟩
  · rw [ByteArray.size_append, ByteArray.size_append]
    show a.size + 1 + b.size ≤ 40
    omega

theorem printB_word (a : Int) : wordOk (printB a) := by
  have h := printB_list a
  have hn := fun u => digits_no (c := 32) (by decide) (digits_num u).1
  refine ⟨?_, ?_, Nat.le_trans (printB_size a) (by decide)⟩
  · rw [h]; simp
  · rw [h]
    simp only [List.mem_append, List.mem_cons, not_or]
    exact ⟨hn _, by decide, hn _, by decide, hn _, by decide, hn _⟩

theorem isV_bd {a n : Int} (h : isV a n = true) : 0 ≤ n ∧ n ≤ 32 := by
  unfold isV holdV at h
  simp only [Bool.and_eq_true, beq_iff_eq] at h
  have h2 := h.2
  split at h2
  · omega
  · split at h2 <;> omega

theorem end_word {s : SideV} (h : endB s = true) : wordOk (endT s) := by
  unfold endB at h
  unfold endT
  by_cases ha : s.any = true
  · rw [if_pos ha]; unfold wordOk; decide
  rw [if_neg ha] at h ⊢
  by_cases ht : s.table = txt []
  · rw [if_pos ht] at h ⊢
    have hn := isV_bd h
    unfold printPB
    rw [if_neg (by omega)]
    have := decB_size s.n (by omega)
    have := printB_size s.a
    exact word_cat (by decide) (printB_word _).2.1 (dec_word (by omega)).2.1 (by omega)
  · rw [if_neg ht] at h ⊢
    simp only [Bool.and_eq_true] at h
    have h1 := nameB_size h.1
    have e : (tLt ++ s.table ++ tGt).data.toList = 60 :: (s.table.data.toList ++ [62]) := by simp [ByteArray.data_append]
    refine ⟨by rw [e]; simp, ?_, ?_⟩
    · rw [e]
      simp only [List.mem_append, List.mem_cons, List.not_mem_nil, not_or, or_false]
      exact ⟨by decide, nameB_no h.1 (by decide), by decide⟩
    · rw [ByteArray.size_append, ByteArray.size_append]
      show 1 + s.table.size + 1 ≤ 40
      omega

theorem ports_word {s : SideV} (h : portsB s = true) : wordOk (portsT s) := by
  unfold portsB inB at h
  simp only [Bool.and_eq_true, decide_eq_true_eq] at h
  unfold portsT
  split
  · exact dec_word (by omega)
  · have := decB_size5 s.low (by omega)
    have := decB_size5 s.high (by omega)
    exact word_cat (by decide) (dec_word (by omega)).2.1 (dec_word (by omega)).2.1 (by omega)

theorem letters_word : ∀ n, n < 64 → 32 ∉ lettersP n ∧ (lettersP n).length ≤ 6 := by decide

theorem flags_word {s m : Int} (hs : 0 ≤ s ∧ s ≤ 63) (hm : 0 ≤ m ∧ m ≤ 63) : wordOk (flagsT s m) := by
  have h1 := letters_word s.toNat (by omega)
  have h2 := letters_word m.toNat (by omega)
  refine word_cat (by decide) (by rw [list_txt]; exact h1.1) (by rw [list_txt]; exact h2.1) ?_
  rw [txt_size, txt_size]; omega

theorem proto_word {n : Int} (h0 : 0 ≤ n) (h : n ≤ 255) : wordOk (protoT n) := by
  by_cases h1 : n = 1
  · subst h1; unfold wordOk; decide
  by_cases h6 : n = 6
  · subst h6; unfold wordOk; decide
  by_cases h7 : n = 17
  · subst h7; unfold wordOk; decide
  rw [protoT_dec h0 h1 h6 h7]
  exact dec_word (by omega)

/-- What is known of a rule that may be. -/
structure Good (r : RuleV) : Prop where
  on : (decide (r.on = txt []) || nameB r.on) = true
  p0 : 0 ≤ r.proto
  p1 : r.proto ≤ 255
  src : endB r.src = true
  srcP : portsB r.src = true
  dst : endB r.dst = true
  dstP : portsB r.dst = true
  s0 : 0 ≤ r.set
  s1 : r.set ≤ 63
  m0 : 0 ≤ r.mask
  m1 : r.mask ≤ 63
  sm : r.mask = 0 → r.set = 0
  t0 : -1 ≤ r.type
  t1 : r.type ≤ 255
  rt : pinB r.rt = true
  rp : pinB r.rp = true
  b0 : 0 ≤ r.table
  b1 : r.table ≤ 3

theorem table_small {s : SideV} (h : endB s = true) : s.table.size ≤ 8 := by
  unfold endB at h
  by_cases ha : s.any = true
  · rw [if_pos ha] at h
    simp only [Bool.and_eq_true, decide_eq_true_eq] at h
    rw [h.1, txt_size]; simp
  · rw [if_neg ha] at h
    by_cases ht : s.table = txt []
    · rw [ht, txt_size]; simp
    · rw [if_neg ht] at h
      simp only [Bool.and_eq_true] at h
      exact (nameB_size h.1).2

theorem iface_small {p : PinV} (h : pinB p = true) : p.iface.size ≤ 8 := by
  unfold pinB at h
  by_cases ha : p.on = true
  · rw [if_pos ha] at h
    exact (nameB_size h).2
  · rw [if_neg ha] at h
    simp only [Bool.and_eq_true, decide_eq_true_eq] at h
    rw [h.1, txt_size]; simp

theorem on_small {x : ByteArray} (h : (decide (x = txt []) || nameB x) = true) : x.size ≤ 8 := by
  by_cases hx : x = txt []
  · rw [hx, txt_size]; simp
  · rw [decide_eq_false hx, Bool.false_or] at h
    exact (nameB_size h).2

theorem good_of {r : RuleV} (h : isR r = true) (hr : RuleOk r) : Good r := by
  unfold isR sideB at h
  simp only [Bool.and_eq_true] at h
  obtain ⟨_, h2, h3, ⟨h4, h5, _⟩, ⟨h6, h7, _⟩, h8, h9, h10, h11, h12⟩ := h
  unfold inB at h3 h12
  simp only [Bool.and_eq_true, decide_eq_true_eq] at h3 h12
  have hf : (0 ≤ r.set ∧ r.set ≤ 63) ∧ (0 ≤ r.mask ∧ r.mask ≤ 63) ∧ (r.mask = 0 → r.set = 0) := by
    unfold flagsB inB at h8
    split at h8
    · simp only [Bool.and_eq_true, decide_eq_true_eq, beq_iff_eq] at h8
      have := andNot_small r.set r.mask hr.s0 hr.s1 h8.1.1 h8.1.2 h8.2
      omega
    · simp only [Bool.and_eq_true, beq_iff_eq] at h8
      omega
  have ht : -1 ≤ r.type ∧ r.type ≤ 255 := by
    unfold typeB inB at h9
    simp only [Bool.and_eq_true, Bool.or_eq_true, decide_eq_true_eq, beq_iff_eq] at h9
    omega
  exact ⟨h2, h3.1, h3.2, h4, h5, h6, h7, hf.1.1, hf.1.2, hf.2.1.1, hf.2.1.2, hf.2.2, ht.1, ht.2, h10, h11, h12.1, h12.2⟩

theorem pin_words {t x : ByteArray} {p : PinV} (ht : wordOk t) (hp : pinB p = true) (h : x ∈ pinW t p) : wordOk x := by
  obtain ⟨h, hc⟩ := mem_opt h
  unfold pinB at hp
  rw [if_pos hc] at hp
  simp only [List.mem_cons, List.not_mem_nil, or_false] at h
  rcases h with rfl | rfl | rfl
  · exact ht
  · exact name_word hp
  · exact printB_word _

theorem side_words {t x : ByteArray} {s : SideV} (ht : wordOk t) (h1 : endB s = true) (h2 : portsB s = true) (h : x ∈ sideW t s) : wordOk x := by
  unfold sideW at h
  simp only [List.mem_cons] at h
  rcases h with rfl | rfl | h
  · exact ht
  · exact end_word h1
  · have := (mem_opt h).1
    simp only [List.mem_cons, List.not_mem_nil, or_false] at this
    rcases this with rfl | rfl
    · unfold wordOk; decide
    · exact ports_word h2

theorem opt_words {c : Bool} {l : WL} {x : ByteArray} (hl : c = true → ∀ y ∈ l, wordOk y) (h : x ∈ optW c l) : wordOk x := by
  have := mem_opt h
  exact hl this.2 _ this.1

theorem kw_word {l : WL} (h : ∀ y ∈ l, (!y.data.toList.isEmpty && (!y.data.toList.contains 32 && decide (y.size ≤ 40))) = true) : ∀ y ∈ l, wordOk y := fun y hy => by
  have := h y hy
  simp only [Bool.and_eq_true, Bool.not_eq_true', decide_eq_true_eq, List.isEmpty_eq_false_iff, List.contains_eq_mem, decide_eq_false_iff_not] at this
  exact this

theorem word_kw {x : ByteArray} (h : (!x.data.toList.isEmpty && (!x.data.toList.contains 32 && decide (x.size ≤ 40))) = true) : wordOk x := kw_word (l := [x]) (by simpa using h) x (by simp)

theorem rule_words {r : RuleV} (h : Good r) : ∀ x ∈ ruleW r, wordOk x := by
  intro x hx
  have two : ∀ {a b : ByteArray}, wordOk a → wordOk b → ∀ y ∈ [a, b], wordOk y := by
    intro a b ha hb y hy
    simp only [List.mem_cons, List.not_mem_nil, or_false] at hy
    rcases hy with rfl | rfl
    · exact ha
    · exact hb
  have one : ∀ {a : ByteArray}, wordOk a → ∀ y ∈ [a], wordOk y := by
    intro a ha y hy
    simp only [List.mem_cons, List.not_mem_nil, or_false] at hy
    subst hy; exact ha
  simp only [ruleW, tl12, tl11, tl10, tl9, tl8, tl7, tl6, tl5, tl4, tl3, tl2, tl1, List.mem_cons, List.mem_append, List.append_nil] at hx
  rcases hx with rfl | hx | hx | hx | hx | hx | hx | hx | hx | hx | hx | hx | hx
  · unfold actT; split <;> exact word_kw (by decide)
  · exact opt_words (fun _ => one (word_kw (by decide))) hx
  · exact opt_words (fun _ => one (word_kw (by decide))) hx
  · refine opt_words (fun hc => two (word_kw (by decide)) ?_) hx
    have := h.on
    rw [Bool.not_eq_true'] at hc
    rw [hc, Bool.false_or] at this
    exact name_word this
  · exact opt_words (fun _ => two (word_kw (by decide)) (proto_word h.p0 h.p1)) hx
  · exact side_words (word_kw (by decide)) h.src h.srcP hx
  · exact side_words (word_kw (by decide)) h.dst h.dstP hx
  · exact opt_words (fun _ => two (word_kw (by decide)) (flags_word ⟨h.s0, h.s1⟩ ⟨h.m0, h.m1⟩)) hx
  · exact opt_words (fun _ => two (word_kw (by decide)) (dec_word (by have := h.t1; omega))) hx
  · exact opt_words (fun _ => one (word_kw (by decide))) hx
  · exact pin_words (word_kw (by decide)) h.rt hx
  · exact pin_words (word_kw (by decide)) h.rp hx
  · exact opt_words (fun _ => two (word_kw (by decide)) (dec_word (by have := h.b1; omega))) hx

theorem opt_len (c : Bool) (l : WL) : (optW c l).length ≤ l.length := by
  unfold optW; cases c
  · simp
  · simp

theorem rule_len (r : RuleV) : (ruleW r).length ≤ 29 := by
  simp only [ruleW, tl12, tl11, tl10, tl9, tl8, tl7, tl6, tl5, tl4, tl3, tl2, tl1, sideW, pinW, List.length_cons, List.length_append, List.length_nil]
  have h1 := opt_len (!(r.table == 0)) [tTable, decB r.table]
  have h2 := opt_len r.rp.on [tReplyTo, r.rp.iface, printB r.rp.gate]
  have h3 := opt_len r.rt.on [tRouteTo, r.rt.iface, printB r.rt.gate]
  have h4 := opt_len r.keep [tKeep]
  have h5 := opt_len (!(r.type == -1)) [tType, decB r.type]
  have h6 := opt_len (!(r.mask == 0)) [tFlags, flagsT r.set r.mask]
  have h7 := opt_len (!allB r.dst) [tPort, portsT r.dst]
  have h8 := opt_len (!allB r.src) [tPort, portsT r.src]
  have h9 := opt_len (!(r.proto == 0)) [tProto, protoT r.proto]
  have h10 := opt_len (!decide (r.on = txt [])) [tOn, r.on]
  have h11 := opt_len r.quick [tQuick]
  have h12 := opt_len r.ret [tReturn]
  simp only [List.length_cons, List.length_nil] at h1 h2 h3 h4 h5 h6 h7 h8 h9 h10 h11 h12
  omega

/-! ## A joined text's words -/

theorem join_words : ∀ (L : WL), (∀ x ∈ L, wordOk x) → wordsB (txt (Lib.join (L.map (·.data.toList)) [32])) = L
  | [], _ => rfl
  | [x], h => by
    have hx := h x (by simp)
    unfold wordsB
    rw [list_txt, List.map_cons, List.map_nil, Lib.join_one, words_one hx.2.1 hx.1]
    simp [txt_list]
  | x :: y :: r, h => by
    have hx := h x (by simp)
    have ih := join_words (y :: r) (fun z hz => h z (by simp [hz]))
    have e : Lib.join ((x :: y :: r).map (·.data.toList)) [32] = x.data.toList ++ 32 :: Lib.join ((y :: r).map (·.data.toList)) [32] := by
      simp [Lib.join, List.intercalate]
    unfold wordsB at ih ⊢
    rw [list_txt] at ih ⊢
    rw [e, words_at hx.2.1 hx.1, List.map_cons, ih, txt_list]

theorem join_len : ∀ (L : WL), (∀ x ∈ L, wordOk x) → (Lib.join (L.map (·.data.toList)) [32]).length ≤ 41 * L.length
  | [], _ => by simp [Lib.join, List.intercalate]
  | [x], h => by
    have hx := (h x (by simp)).2.2
    rw [List.map_cons, List.map_nil, Lib.join_one, text_len]
    simp; omega
  | x :: y :: r, h => by
    have hx := (h x (by simp)).2.2
    have ih := join_len (y :: r) (fun z hz => h z (by simp [hz]))
    have e : Lib.join ((x :: y :: r).map (·.data.toList)) [32] = x.data.toList ++ 32 :: Lib.join ((y :: r).map (·.data.toList)) [32] := by
      simp [Lib.join, List.intercalate]
    rw [e, List.length_append, List.length_cons, text_len]
    simp only [List.length_cons] at ih ⊢
    omega

/-! ## Read back -/

theorem isW_opt {t k : ByteArray} {c : Bool} {l R : WL} : isW t (optW c (k :: l) ++ R) = if c = true then decide (k = t) else isW t R := by
  unfold optW
  cases c
  · rfl
  · rw [if_pos rfl, if_pos rfl]; unfold isW
    simp

theorem isW_cons {t k : ByteArray} {R : WL} : isW t (k :: R) = decide (k = t) := by unfold isW; simp
theorem isW_nil {t : ByteArray} : isW t [] = false := by unfold isW; simp

theorem word_back {t : ByteArray} {c : Bool} {R : WL} (h : isW t R = false) : sWord t (optW c [t] ++ R) = some (c, R) := by
  unfold sWord aftW
  rw [isW_opt]
  cases c
  · simp [h, optW]
  · simp [optW]

theorem on_back {x : ByteArray} {R : WL} (hx : (decide (x = txt []) || nameB x) = true) (h : isW tOn R = false) : sOn true (optW (!decide (x = txt [])) [tOn, x] ++ R) = some (x, R) := by
  unfold sOn
  rw [isW_opt]
  by_cases h0 : x = txt []
  · subst h0; simp [h, optW]
  · rw [decide_eq_false h0, Bool.false_or] at hx
    rw [decide_eq_false h0]
    simp [optW, sName, sHead, hx]

theorem valT_dec {n : Int} (h0 : 0 ≤ n) : valT (decB n) = n := by
  unfold valT decB
  simp only [(digits_num _).2.1]
  omega

theorem numIn_dec {n low high : Int} (h0 : 0 ≤ low) (h1 : low ≤ n) (h2 : n ≤ high) : numIn (decB n) low high = true := by
  have e : (decB n).data.toList = Lib.decDigits n.toNat := by unfold decB; simp
  unfold numIn
  rw [e, numB_digits _ _ (by omega), (digits_num _).2.1, decide_eq_true (by omega)]
  rfl

theorem number_back {t : ByteArray} {low high wo n : Int} {R : WL} (h0 : 0 ≤ low) (h1 : n ≠ wo → low ≤ n) (h2 : n ≤ high) (h : isW t R = false) : sNumber t low high wo (optW (!(n == wo)) [t, decB n] ++ R) = some (n, R) := by
  unfold sNumber
  rw [isW_opt]
  by_cases hw : n = wo
  · subst hw; simp [h, optW]
  · have h3 := h1 hw
    rw [show (n == wo) = false by simpa using hw]
    simp [optW, sNum, sHead, numIn_dec h0 h3 h2, valT_dec (show 0 ≤ n by omega)]

theorem protoOf_back {n : Int} (h0 : 1 ≤ n) (h1 : n ≤ 255) : protoOf (protoT n) = some n := by
  by_cases g1 : n = 1
  · subst g1; rfl
  by_cases g6 : n = 6
  · subst g6; rfl
  by_cases g7 : n = 17
  · subst g7; rfl
  rw [protoT_dec (by omega) g1 g6 g7]
  have hd : ∀ c ∈ (decB n).data.toList, digB c = true := by
    have e : (decB n).data.toList = Lib.decDigits n.toNat := by unfold decB; simp
    rw [e]; exact List.all_eq_true.1 (digits_num _).1
  unfold protoOf
  rw [if_neg (fun e => by have := hd 105 (by rw [e]; decide); exact absurd this (by decide)), if_neg (fun e => by have := hd 116 (by rw [e]; decide); exact absurd this (by decide)),
    if_neg (fun e => by have := hd 117 (by rw [e]; decide); exact absurd this (by decide)), numIn_dec (by omega) h0 h1, valT_dec (by omega)]
  rw [if_pos]
  simp [g1, g6, g7]

theorem proto_back {n : Int} {R : WL} (h0 : 0 ≤ n) (h1 : n ≤ 255) (h : isW tProto R = false) : sProto (optW (!(n == 0)) [tProto, protoT n] ++ R) = some (n, R) := by
  unfold sProto
  rw [isW_opt]
  by_cases hw : n = 0
  · subst hw; simp [h, optW]
  · rw [show (n == 0) = false by simpa using hw]
    simp [optW, sHead, protoOf_back (show 1 ≤ n by omega) h1]

theorem endOf_back {s : SideV} (h : endB s = true) (hs : SideOk s) : endOf true (endT s) = some ⟨s.any, s.table, s.a, s.n, 0, 0⟩ := by
  obtain ⟨any, tab, a, n, lo, hi⟩ := s
  have a0 := hs.a0
  have a1 := hs.a1
  dsimp only at a0 a1
  unfold endB nothingB at h
  unfold endT
  dsimp only at h ⊢
  cases any with
  | true =>
    rw [if_pos rfl] at h ⊢
    simp only [Bool.and_eq_true, decide_eq_true_eq, beq_iff_eq] at h
    obtain ⟨rfl, rfl, rfl⟩ := h
    rfl
  | false =>
    rw [if_neg (by decide)] at h ⊢
    by_cases ht : tab = txt []
    · rw [if_pos ht] at h ⊢
      subst ht
      have hn := isV_bd h
      have hp := parse_printP a n a0 a1 hn.1 hn.2
      have hd : (printPB a n).data.toList = (printB a).data.toList ++ 47 :: Lib.decDigits n.toNat := by
        unfold printPB
        rw [if_neg (by omega)]
        unfold decB
        simp [ByteArray.data_append]
      have hf : ∃ c m, (printPB a n).data.toList = c :: m ∧ digB c = true := by
        rw [hd, printB_list]
        have h1 := digits_num (a / 16777216 % 256).toNat
        cases hq : Lib.decDigits (a / 16777216 % 256).toNat with
        | nil => exact absurd hq h1.2.2.1
        | cons c m =>
          refine ⟨c, _, rfl, ?_⟩
          have := h1.1
          rw [hq, List.all_cons, Bool.and_eq_true] at this
          exact this.1
      obtain ⟨c, m, hc, hdc⟩ := hf
      have hna : printPB a n ≠ tAny := fun e => by
        rw [e] at hc
        have : c = 97 := by simpa using (List.cons.inj hc).1.symm
        rw [this] at hdc; exact absurd hdc (by decide)
      have hnl : Lib.hasPrefix (printPB a n).data.toList [60] = false := by
        rw [hc]
        have : ((60 : UInt8) == c) = false := beq_eq_false_iff_ne.2 fun e => by rw [← e] at hdc; exact absurd hdc (by decide)
        show ((60 : UInt8) == c && _) = false
        rw [this]; rfl
      rw [pfx_case hna hnl, hp]
      simp only [Option.map_some, Option.some.injEq, SideV.mk.injEq, true_and, and_true]
      omega
    · rw [if_neg ht] at h ⊢
      simp only [Bool.and_eq_true, beq_iff_eq] at h
      obtain ⟨hn, rfl, rfl⟩ := h
      have e : (tLt ++ tab ++ tGt).data.toList = 60 :: (tab.data.toList ++ [62]) := by simp [ByteArray.data_append]
      have hc := tab_case e
      have hsf : Lib.hasSuffix (tab.data.toList ++ [62]) [62] = true := by
        unfold Lib.hasSuffix; simp [List.isSuffixOf_iff_suffix]
      have htr : Lib.trimSuffix (tab.data.toList ++ [62]) [62] = tab.data.toList := by
        unfold Lib.trimSuffix; rw [if_pos hsf]; simp
      rw [hsf, htr, txt_list, hn] at hc
      exact hc.2 rfl

theorem portsOf_back {s : SideV} (h : portsB s = true) : portsOf (portsT s) = some (s.low, s.high) := by
  unfold portsB inB at h
  simp only [Bool.and_eq_true, decide_eq_true_eq] at h
  have e : ∀ n : Int, (decB n).data.toList = Lib.decDigits n.toNat := fun n => by unfold decB; simp
  have hn : ∀ n : Int, 58 ∉ (decB n).data.toList := fun n => by rw [e]; exact digits_no (by decide) (digits_num _).1
  unfold portsT
  split
  · rename_i hl
    rw [ports_one (hn _), numIn_dec (by omega) (by omega) (by omega), if_pos rfl, valT_dec (by omega), hl]
  · rename_i hl
    rw [ports_two (A := decB s.low) (B := decB s.high) (by simp [ByteArray.data_append]) (hn _), numIn_dec (by omega) (by omega) (by omega), numIn_dec (by omega) (by omega) (by omega), valT_dec (by omega), valT_dec (by omega), if_pos]
    simpa using hl

theorem side_back {t : ByteArray} {s : SideV} {R : WL} (h1 : endB s = true) (h2 : portsB s = true) (hs : SideOk s) (h : isW tPort R = false) : sSide true t (sideW t s ++ R) = some (s, R) := by
  unfold sSide sMust sideW
  rw [List.cons_append, List.cons_append, isW_cons, if_pos (by simp)]
  simp only [Option.bind_some, List.tail_cons, sEnd, sHead, endOf_back h1 hs, Option.map_some]
  unfold sPorts
  rw [isW_opt]
  cases ha : allB s with
  | true =>
    unfold allB at ha
    simp only [Bool.and_eq_true, beq_iff_eq] at ha
    obtain ⟨any, tab, a, n, lo, hi⟩ := s
    dsimp only at ha
    obtain ⟨rfl, rfl⟩ := ha
    simp [h, optW, withPorts]
  | false =>
    simp [optW, sHead, portsOf_back h2, withPorts]

theorem flagsOf_back {s m : Int} (hs : 0 ≤ s ∧ s ≤ 63) (hm : 1 ≤ m ∧ m ≤ 63) : flagsOf (flagsT s m) = some (s, m) := by
  have h1 := lettersOf_P s.toNat (by omega)
  have h2 := lettersOf_P m.toNat (by omega)
  have hA := letters_slash s.toNat (by omega)
  have hB := letters_slash m.toNat (by omega)
  unfold flagsOf flagsT
  rw [show (txt (lettersP s.toNat) ++ ⟨#[47]⟩ ++ txt (lettersP m.toNat)).data.toList = lettersP s.toNat ++ 47 :: lettersP m.toNat by simp [ByteArray.data_append, txt], split_at hA, split_none hB]
  simp only [h1, h2, Option.bind_some]
  rw [if_neg (by omega)]
  simp only [Option.some.injEq, Prod.mk.injEq]
  omega

theorem flags_back {s m : Int} {R : WL} (hs : 0 ≤ s ∧ s ≤ 63) (hm : 0 ≤ m ∧ m ≤ 63) (h0 : m = 0 → s = 0) (h : isW tFlags R = false) : sFlags (optW (!(m == 0)) [tFlags, flagsT s m] ++ R) = some ((s, m), R) := by
  unfold sFlags
  rw [isW_opt]
  by_cases hw : m = 0
  · have := h0 hw
    subst hw; subst this; simp [h, optW]
  · rw [show (m == 0) = false by simpa using hw]
    simp [optW, sHead, flagsOf_back hs (show 1 ≤ m ∧ m ≤ 63 by omega)]

theorem pin_back {t : ByteArray} {p : PinV} {R : WL} (hp : pinB p = true) (ho : PinOk p) (h : isW t R = false) : sPin true t (pinW t p ++ R) = some (p, R) := by
  obtain ⟨on, iface, g⟩ := p
  have g0 := ho.g0
  have g1 := ho.g1
  unfold pinB at hp
  unfold sPin pinW
  rw [isW_opt]
  dsimp only at hp g0 g1 ⊢
  cases on with
  | false =>
    simp only [if_neg (show ¬ false = true by decide), Bool.and_eq_true, decide_eq_true_eq, beq_iff_eq] at hp
    obtain ⟨rfl, rfl⟩ := hp
    simp [h, optW, pin0]
  | true =>
    rw [if_pos rfl] at hp
    simp [optW, sName, sHead, hp, sGate, parse_print g g0 g1]
    omega

theorem rule_back {r : RuleV} (h : Good r) (hr : RuleOk r) : sRule true (ruleW r) = some (r, []) := by
  have k : ∀ a b : ByteArray, a ≠ b → decide (a = b) = false := fun a b h => decide_eq_false h
  have a1 : sAct (ruleW r) = some (r.pass, tl12 r) := by
    unfold sAct ruleW actT
    rw [isW_cons, isW_cons]
    cases r.pass
    · rw [if_neg (by decide), if_pos (by decide)]; rfl
    · rw [if_pos (by decide)]; rfl
  have i1 : ∀ t, tTable ≠ t → isW t (tl1 r) = false := fun t g1 => by
    show isW t (optW _ _ ++ []) = false
    rw [isW_opt, decide_eq_false g1, isW_nil]; simp
  have i2 : ∀ t, tTable ≠ t → tReplyTo ≠ t → isW t (tl2 r) = false := fun t g1 g2 => by
    show isW t (optW _ _ ++ _) = false
    rw [isW_opt, decide_eq_false g2, i1 t g1]; simp
  have i3 : ∀ t, tTable ≠ t → tReplyTo ≠ t → tRouteTo ≠ t → isW t (tl3 r) = false := fun t g1 g2 g3 => by
    show isW t (optW _ _ ++ _) = false
    rw [isW_opt, decide_eq_false g3, i2 t g1 g2]; simp
  have i4 : ∀ t, tTable ≠ t → tReplyTo ≠ t → tRouteTo ≠ t → tKeep ≠ t → isW t (tl4 r) = false := fun t g1 g2 g3 g4 => by
    show isW t (optW _ _ ++ _) = false
    rw [isW_opt, decide_eq_false g4, i3 t g1 g2 g3]; simp
  have i5 : ∀ t, tTable ≠ t → tReplyTo ≠ t → tRouteTo ≠ t → tKeep ≠ t → tType ≠ t → isW t (tl5 r) = false := fun t g1 g2 g3 g4 g5 => by
    show isW t (optW _ _ ++ _) = false
    rw [isW_opt, decide_eq_false g5, i4 t g1 g2 g3 g4]; simp
  have i6 : ∀ t, tTable ≠ t → tReplyTo ≠ t → tRouteTo ≠ t → tKeep ≠ t → tType ≠ t → tFlags ≠ t → isW t (tl6 r) = false := fun t g1 g2 g3 g4 g5 g6 => by
    show isW t (optW _ _ ++ _) = false
    rw [isW_opt, decide_eq_false g6, i5 t g1 g2 g3 g4 g5]; simp
  have i7 : ∀ t, tTo ≠ t → isW t (tl7 r) = false := fun t g => by
    show isW t (tTo :: _) = false
    rw [isW_cons, decide_eq_false g]
  have i8 : ∀ t, tFrom ≠ t → isW t (tl8 r) = false := fun t g => by
    show isW t (tFrom :: _) = false
    rw [isW_cons, decide_eq_false g]
  have i9 : ∀ t, tFrom ≠ t → tProto ≠ t → isW t (tl9 r) = false := fun t g1 g2 => by
    show isW t (optW _ _ ++ _) = false
    rw [isW_opt, decide_eq_false g2, i8 t g1]; simp
  have i10 : ∀ t, tFrom ≠ t → tProto ≠ t → tOn ≠ t → isW t (tl10 r) = false := fun t g1 g2 g3 => by
    show isW t (optW _ _ ++ _) = false
    rw [isW_opt, decide_eq_false g3, i9 t g1 g2]; simp
  have i11 : ∀ t, tFrom ≠ t → tProto ≠ t → tOn ≠ t → tQuick ≠ t → isW t (tl11 r) = false := fun t g1 g2 g3 g4 => by
    show isW t (optW _ _ ++ _) = false
    rw [isW_opt, decide_eq_false g4, i10 t g1 g2 g3]; simp
  have b12 : sWord tReturn (tl12 r) = some (r.ret, tl11 r) := word_back (i11 tReturn (by decide) (by decide) (by decide) (by decide))
  have b11 : sWord tQuick (tl11 r) = some (r.quick, tl10 r) := word_back (i10 tQuick (by decide) (by decide) (by decide))
  have b10 : sOn true (tl10 r) = some (r.on, tl9 r) := on_back h.on (i9 tOn (by decide) (by decide))
  have b9 : sProto (tl9 r) = some (r.proto, tl8 r) := proto_back h.p0 h.p1 (i8 tProto (by decide))
  have b8 : sSide true tFrom (tl8 r) = some (r.src, tl7 r) := side_back h.src h.srcP hr.src (i7 tPort (by decide))
  have b7 : sSide true tTo (tl7 r) = some (r.dst, tl6 r) := side_back h.dst h.dstP hr.dst (i6 tPort (by decide) (by decide) (by decide) (by decide) (by decide) (by decide))
  have b6 : sFlags (tl6 r) = some ((r.set, r.mask), tl5 r) := flags_back ⟨h.s0, h.s1⟩ ⟨h.m0, h.m1⟩ h.sm (i5 tFlags (by decide) (by decide) (by decide) (by decide) (by decide))
  have b5 : sNumber tType 0 255 (-1) (tl5 r) = some (r.type, tl4 r) := number_back (by omega) (fun g => by have := h.t0; omega) h.t1 (i4 tType (by decide) (by decide) (by decide) (by decide))
  have b4 : sWord tKeep (tl4 r) = some (r.keep, tl3 r) := word_back (i3 tKeep (by decide) (by decide) (by decide))
  have b3 : sPin true tRouteTo (tl3 r) = some (r.rt, tl2 r) := pin_back h.rt hr.rt (i2 tRouteTo (by decide) (by decide))
  have b2 : sPin true tReplyTo (tl2 r) = some (r.rp, tl1 r) := pin_back h.rp hr.rp (i1 tReplyTo (by decide))
  have b1 : sNumber tTable 1 3 0 (tl1 r) = some (r.table, []) := number_back (by omega) (fun g => by have := h.b0; omega) h.b1 isW_nil
  unfold sRule
  simp only [a1, b12, b11, b10, b9, b8, b7, b6, b5, b4, b3, b2, b1, Option.bind_some]

theorem print_back {r : RuleV} (h : isR r = true) (hr : RuleOk r) : parseR (printR r) = some r := by
  have hg := good_of h hr
  unfold parseR printR
  rw [join_words _ (rule_words hg), rule_back hg hr]
  simp only [h, if_true]

theorem printR_words {r : RuleV} (h : isR r = true) (hr : RuleOk r) : wordsB (printR r) = ruleW r := join_words _ (rule_words (good_of h hr))

theorem printR_size {r : RuleV} (h : isR r = true) (hr : RuleOk r) : (printR r).size ≤ 1200 := by
  have h1 := join_len _ (rule_words (good_of h hr))
  have h2 := rule_len r
  unfold printR
  rw [txt_size]
  omega

/-- A text of the same words is the same rule. -/
theorem parseR_words {s t : ByteArray} (h : wordsB s = wordsB t) : parseR s = parseR t := by unfold parseR; rw [h]
end Go.Proofs.YtbmmgjmmooakpaaGreatDoor.Ru
