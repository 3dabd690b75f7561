/- Plain: a text's words between blanks; texts of digits as numbers, as strconv.Atoi and Itoa have them; names. -/
import Derived.Test.YtbmmgjmmooakpaaGreatDoorTextP
import Derived.Test.YtbmmgjmmooakpaaGreatDoorNum
import Derived.Test.YtbmmgjmmooakpaaGreatDoorAddrT
import Derived.Lib.AtoiAll
import Derived.Lib.TrimByte
namespace Go.Proofs.YtbmmgjmmooakpaaGreatDoor.Ru
open Go.RowKit
set_option linter.unusedVariables false

def txt (l : List UInt8) : ByteArray := ⟨l.toArray⟩

theorem list_txt (l : List UInt8) : (txt l).data.toList = l := by simp [txt]

theorem txt_list (s : ByteArray) : txt s.data.toList = s := by cases s; simp [txt]

theorem txt_size (l : List UInt8) : (txt l).size = l.length := by simp [txt, ByteArray.size]

theorem list_inj {a b : ByteArray} (h : a.data.toList = b.data.toList) : a = b := by rw [← txt_list a, ← txt_list b, h]

theorem eqT (a b : ByteArray) : (a.toList == b.toList) = decide (a = b) := by
  rw [ByteArray.toList_eq, ByteArray.toList_eq, Bool.eq_iff_iff]
  simp only [beq_iff_eq, decide_eq_true_eq]
  exact ⟨list_inj, fun h => by rw [h]⟩

theorem txt_inj {a b : List UInt8} (h : txt a = txt b) : a = b := by rw [← list_txt a, ← list_txt b, h]

/-- What stands between blanks. -/
def wordsL (l : List UInt8) : List (List UInt8) := (splitL 32 l).filter fun x => !x.isEmpty

def wordsB (s : ByteArray) : List ByteArray := (wordsL s.data.toList).map txt

theorem words_nil : wordsL [] = [] := rfl

theorem words_blank (l : List UInt8) : wordsL (32 :: l) = wordsL l := by simp [wordsL, splitL]

theorem words_at {a b : List UInt8} (h : 32 ∉ a) (h0 : a ≠ []) : wordsL (a ++ 32 :: b) = a :: wordsL b := by
  unfold wordsL; rw [split_at h, List.filter_cons_of_pos (by simpa using h0)]

theorem words_one {a : List UInt8} (h : 32 ∉ a) (h0 : a ≠ []) : wordsL a = [a] := by
  unfold wordsL; rw [split_none h, List.filter_cons_of_pos (by simpa using h0)]; rfl

theorem words_trim (l : List UInt8) : wordsL (Lib.trimLeftB l 32) = wordsL l := by
  unfold Lib.trimLeftB
  induction l with
  | nil => rfl
  | cons c l ih =>
    by_cases h : c = 32
    · subst h; rw [List.dropWhile_cons_of_pos (by simp), ih, words_blank]
    · rw [List.dropWhile_cons_of_neg (by simpa using h)]

theorem trim_head (l b : List UInt8) : Lib.trimLeftB l 32 ≠ 32 :: b := by
  unfold Lib.trimLeftB
  intro h
  have h1 := List.head?_dropWhile_not (· == (32 : UInt8)) l
  rw [h] at h1
  simp at h1

theorem trim_len (l : List UInt8) : (Lib.trimLeftB l 32).length ≤ l.length := by
  unfold Lib.trimLeftB; exact (List.dropWhile_suffix _).length_le

/-- The first word n, and the rest r, of the words L. -/
structure Ws (n r : ByteArray) (L : List ByteArray) : Prop where
  r_small : r.size ≤ 1000000
  n_small : n.size ≤ 1000000
  words : (n = txt [] ∧ L = [] ∧ wordsB r = []) ∨ (n ≠ txt [] ∧ L = n :: wordsB r)

theorem take_words (r : ByteArray) (hr : r.size ≤ 1000000) :
    Ws (txt (Lib.cut (Lib.trimLeftB r.data.toList 32) [32]).1) (txt (Lib.cut (Lib.trimLeftB r.data.toList 32) [32]).2.1) (wordsB r) := by
  have h1 := words_trim r.data.toList
  have h2 := trim_len r.data.toList
  have h3 := trim_head r.data.toList
  have h4 : r.data.toList.length = r.size := text_len r
  unfold wordsB
  generalize Lib.trimLeftB r.data.toList 32 = t at *
  rcases cut_split 32 t with ⟨a, b, e, ha, hc⟩ | ⟨ha, hc⟩
  · have h0 : a ≠ [] := fun h => h3 b (by rw [e, h]; rfl)
    have hl : a.length + (b.length + 1) = t.length := by rw [e]; simp
    rw [hc]
    dsimp only
    refine ⟨by rw [txt_size]; omega, by rw [txt_size]; omega, .inr ⟨fun h => h0 (txt_inj h), ?_⟩⟩
    unfold wordsB
    rw [← h1, e, words_at ha h0, List.map_cons, list_txt]
  · rw [hc]
    dsimp only
    refine ⟨by rw [txt_size]; simp, by rw [txt_size]; omega, ?_⟩
    by_cases h0 : t = []
    · subst h0
      exact .inl ⟨rfl, by rw [← h1]; rfl, rfl⟩
    · refine .inr ⟨fun h => h0 (txt_inj h), ?_⟩
      rw [← h1, words_one ha h0]; rfl

/-! ## Digits -/

theorem digits_val : ∀ (k : Nat) (l : List UInt8), l.length = k → l ≠ [] → l.all digB = true → ¬ (1 < l.length ∧ l[0]? = some 48) → Lib.decDigits (valN l) = l := by
  intro k
  induction k with
  | zero => intro l hl h0 _ _; exact absurd (List.eq_nil_of_length_eq_zero hl) h0
  | succ k ih =>
    intro l hl h0 ha hz
    obtain ⟨m, c, rfl⟩ : ∃ m c, l = m ++ [c] := ⟨l.dropLast, l.getLast h0, (List.dropLast_concat_getLast h0).symm⟩
    rw [List.all_append, Bool.and_eq_true] at ha
    have hc : 48 ≤ c.toNat ∧ c.toNat ≤ 57 := by simpa [digB] using ha.2
    rw [valN_snoc]
    by_cases hm : m = []
    · subst hm
      rw [show valN [] = 0 from rfl, Lib.decDigits, dif_pos (by omega)]
      simp only [List.nil_append, List.cons.injEq, and_true]
      apply UInt8.toNat_inj.1
      rw [UInt8.toNat_ofNat']
      omega
    · obtain ⟨d, r, rfl⟩ := List.exists_cons_of_ne_nil hm
      have hd := List.all_eq_true.1 ha.1 d (by simp)
      have hd' : 48 ≤ d.toNat ∧ d.toNat ≤ 57 := by simpa [digB] using hd
      have hne : d ≠ 48 := fun e => hz ⟨by simp, by simp [e]⟩
      have h49 : 49 ≤ d.toNat := by
        rcases Nat.lt_or_ge d.toNat 49 with h | h
        · exact absurd (UInt8.toNat_inj.1 (show d.toNat = (48 : UInt8).toNat by show d.toNat = 48; omega)) hne
        · exact h
      have hb := valN_big r d h49
      have hp : 1 ≤ 10 ^ r.length := Nat.one_le_pow _ _ (by decide)
      have hi := ih (d :: r) (by simpa using hl) (by simp) ha.1 (by rintro ⟨_, h⟩; exact hne (by simpa using h))
      rw [Lib.decDigits, dif_neg (by omega), show (10 * valN (d :: r) + (c.toNat - 48)) / 10 = valN (d :: r) by omega, show (10 * valN (d :: r) + (c.toNat - 48)) % 10 = c.toNat - 48 by omega, hi]
      simp only [List.append_cancel_left_eq, List.cons.injEq, and_true]
      apply UInt8.toNat_inj.1
      rw [UInt8.toNat_ofNat']
      omega

theorem numB_back {l : List UInt8} {top : Nat} (h : numB l top = true) : Lib.decDigits (valN l) = l := by
  have ha := numB_all h
  have h0 : l ≠ [] := by intro e; subst e; rw [numB_empty] at h; cases h
  refine digits_val l.length l rfl h0 ha fun ⟨h1, h2⟩ => ?_
  rw [numB_nought top h1 h2] at h; cases h

theorem uint_val : ∀ (l : List UInt8) (acc : Nat), l.all digB = true → l.foldl (fun n c => 10 * n + (c.toNat - 48)) acc ≤ 1000000 → Lib.parseUint10 acc l = .ok (l.foldl (fun n c => 10 * n + (c.toNat - 48)) acc)
  | [], acc, _, _ => rfl
  | c :: r, acc, ha, h => by
    simp only [List.all_cons, Bool.and_eq_true] at ha
    have hc : 48 ≤ c.toNat ∧ c.toNat ≤ 57 := by simpa [digB] using ha.1
    have hg := foldl_ge r (10 * acc + (c.toNat - 48))
    simp only [List.foldl_cons] at h ⊢
    rw [Lib.parseUint10, if_pos hc, if_neg (by omega), if_neg (by omega), show acc * 10 + (c.toNat - 48) = 10 * acc + (c.toNat - 48) by omega]
    exact uint_val r _ ha.2 h

theorem atoi_num {l : List UInt8} {top : Nat} (h : numB l top = true) (ht : top ≤ 1000000) : Lib.atoiAll l = .ok (valN l : Int) := by
  have ha := numB_all h
  have hv := numB_le h
  match l, h, ha, hv with
  | [], h, _, _ => rw [numB_empty] at h; cases h
  | c :: r, h, ha, hv =>
    have hc := List.all_eq_true.1 ha c (by simp)
    have hc' : 48 ≤ c.toNat ∧ c.toNat ≤ 57 := by simpa [digB] using hc
    have hu : Lib.parseMag (c :: r) = .ok (valN (c :: r)) := by
      unfold Lib.parseMag
      rw [if_neg (by simp)]
      exact uint_val (c :: r) 0 ha (by show valN (c :: r) ≤ _; omega)
    unfold Lib.atoiAll
    simp only []
    rw [if_neg (by omega), hu]
    simp only []
    rw [if_neg (by omega), if_neg (by omega), if_neg (by omega)]

theorem atoi_bd {l : List UInt8} {v : Int} (h : Lib.atoiAll l = .ok v) : -9223372036854775808 ≤ v ∧ v ≤ 9223372036854775807 := by
  match l, h with
  | [], h => cases h
  | c :: r, h =>
    simp only [Lib.atoiAll] at h
    generalize Lib.parseMag (if c.toNat = 43 ∨ c.toNat = 45 then r else c :: r) = m at h
    match m, h with
    | .syntax, h => cases h
    | .range, h => cases h
    | .ok u, h =>
      simp only [] at h
      split at h
      · cases h
      · split at h
        · cases h
        · injection h with h
          by_cases hn : c.toNat = 45
          · rw [if_pos hn] at h; omega
          · rw [if_neg hn] at h; omega

/-- A text is a number from low to high. -/
def numIn (s : ByteArray) (low high : Int) : Bool := numB s.data.toList high.toNat && decide (low ≤ (valN s.data.toList : Int))

/-- The number that a text is. -/
def valT (s : ByteArray) : Int := (valN s.data.toList : Int)

theorem numIn_atoi {s : ByteArray} {low high : Int} (h : numIn s low high = true) (hh : high ≤ 1000000) : Lib.atoiAll s.data.toList = .ok (valT s) := by
  simp only [numIn, Bool.and_eq_true] at h
  exact atoi_num h.1 (by omega)

theorem numIn_ok {s : ByteArray} {low high v : Int} (h : Lib.atoiAll s.data.toList = .ok v) (hl : 0 ≤ low) (h0 : 0 ≤ high) (hh : high ≤ 1000000) :
    numIn s low high = (decide (txt (Lib.itoa v) = s) && (decide (low ≤ v) && decide (v ≤ high))) := by
  rw [Bool.eq_iff_iff]
  simp only [Bool.and_eq_true, decide_eq_true_eq]
  constructor
  · intro hn
    have h1 := numIn_atoi hn hh
    rw [h] at h1
    injection h1 with h1
    simp only [numIn, Bool.and_eq_true, decide_eq_true_eq] at hn
    have h2 := numB_le hn.1
    have h3 : v = (valN s.data.toList : Int) := h1
    refine ⟨?_, by omega, by omega⟩
    rw [h3]
    unfold Lib.itoa
    rw [if_neg (by omega), Int.toNat_natCast, numB_back hn.1, txt_list]
  · rintro ⟨h1, h2, h3⟩
    have e : s.data.toList = Lib.decDigits v.toNat := by
      rw [← h1, list_txt]; unfold Lib.itoa; rw [if_neg (by omega)]
    simp only [numIn, Bool.and_eq_true, decide_eq_true_eq]
    rw [e]
    have h4 := digits_num v.toNat
    exact ⟨numB_digits _ _ (by omega), by rw [h4.2.1]; omega⟩

theorem numIn_val {s : ByteArray} {low high v : Int} (hn : numIn s low high = true) (h : Lib.atoiAll s.data.toList = .ok v) (hh : high ≤ 1000000) : v = valT s := by
  have h1 := numIn_atoi hn hh
  rw [h] at h1
  injection h1

theorem numIn_bd {s : ByteArray} {low high : Int} (hn : numIn s low high = true) (h0 : 0 ≤ high) : low ≤ valT s ∧ valT s ≤ high := by
  simp only [numIn, Bool.and_eq_true, decide_eq_true_eq] at hn
  have := numB_le hn.1
  unfold valT
  omega

/-! ## Names -/

/-- A letter's or a digit's byte. -/
def nameC (c : UInt8) : Bool := (decide (97 ≤ c.toNat) && decide (c.toNat ≤ 122)) || (decide (48 ≤ c.toNat) && decide (c.toNat ≤ 57))

def nameB (s : ByteArray) : Bool := decide (1 ≤ s.size) && decide (s.size ≤ 8) && s.data.toList.all nameC

theorem nameB_size {s : ByteArray} (h : nameB s = true) : 1 ≤ s.size ∧ s.size ≤ 8 := by
  simp only [nameB, Bool.and_eq_true, decide_eq_true_eq] at h; exact h.1

theorem nameB_no {s : ByteArray} (h : nameB s = true) {c : UInt8} (hc : nameC c = false) : c ∉ s.data.toList := fun hm => by
  simp only [nameB, Bool.and_eq_true] at h
  rw [List.all_eq_true.1 h.2 c hm] at hc; cases hc

theorem nameB_bad {s : ByteArray} {k : Nat} (hk : k < s.size) (hc : nameC (s[k]'hk) = false) : nameB s = false := by
  rw [Bool.eq_false_iff]; intro h
  exact nameB_no h hc (by rw [← text_at s k hk]; exact List.getElem_mem _)

theorem nameB_good {s : ByteArray} (h0 : 1 ≤ s.size) (h1 : s.size ≤ 8) (h : s.data.toList.all nameC = true) : nameB s = true := by
  simp [nameB, h0, h1, h]

theorem nameB_long {s : ByteArray} (h : 8 < s.size) : nameB s = false := by
  unfold nameB; rw [show decide (s.size ≤ 8) = false from decide_eq_false (by omega)]; simp

theorem nameB_none {s : ByteArray} (h : s.size < 1) : nameB s = false := by
  unfold nameB; rw [show decide (1 ≤ s.size) = false from decide_eq_false (by omega)]; simp

theorem name_step {s : ByteArray} {k : Nat} (hk : k < s.size) (h : (s.data.toList.take k).all nameC = true) (hc : nameC (s[k]'hk) = true) : (s.data.toList.take (k + 1)).all nameC = true := by
  have hl : k < s.data.toList.length := by rw [text_len]; exact hk
  rw [List.take_succ_eq_append_getElem hl, List.all_append, h, text_at s k hk]; simp [hc]
end Go.Proofs.YtbmmgjmmooakpaaGreatDoor.Ru
