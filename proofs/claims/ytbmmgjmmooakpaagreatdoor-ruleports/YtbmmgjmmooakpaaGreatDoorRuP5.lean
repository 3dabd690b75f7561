/- Plain: the document's reading of a rule is the program's. -/
import Derived.Test.YtbmmgjmmooakpaaGreatDoorRuP4
namespace Go.Proofs.YtbmmgjmmooakpaaGreatDoor.Ru
open Go.RowKit
set_option linter.unusedVariables false

/-- An end and its ports. -/
def sEndP (L : WL) : Option (SideV × WL) := (sEnd false L).bind fun s => (sPorts s.2).bind fun q => some (withPorts s.1 q.1, q.2)

/-- A pin behind its word. -/
def dPin (L : WL) : Option (PinV × WL) := (sName false L).bind fun i => (sGate i.2).bind fun g => some (⟨true, i.1, g.1⟩, g.2)

/-- An interface behind its word: some text. -/
def sOnD (L : WL) : Option (ByteArray × WL) := if isW tOn L = true then (sHead L.tail).bind fun x => if x.1 = txt [] then none else some x else some (txt [], L)

def sPinD (t : ByteArray) (L : WL) : Option (PinV × WL) := if isW t L = true then dPin L.tail else some (pin0, L)

def sRuleD (L : WL) : Option (RuleV × WL) :=
  (sAct L).bind fun pass => (sWord tReturn pass.2).bind fun ret => (sWord tQuick ret.2).bind fun quick => (sOnD quick.2).bind fun on =>
  (sProto on.2).bind fun proto => (sMust tFrom proto.2).bind fun u => (sEndP u.2).bind fun src => (sMust tTo src.2).bind fun v => (sEndP v.2).bind fun dst => (sFlags dst.2).bind fun fl =>
  (sNumber tType 0 255 (-1) fl.2).bind fun ty => (sWord tKeep ty.2).bind fun keep => (sPinD tRouteTo keep.2).bind fun rt => (sPinD tReplyTo rt.2).bind fun rp =>
  (sNumber tTable 1 3 0 rp.2).bind fun tab => some (⟨pass.1, ret.1, quick.1, on.1, proto.1, src.1, dst.1, fl.1.1, fl.1.2, ty.1, keep.1, rt.1, rp.1, tab.1⟩, tab.2)

theorem txt_none : txt [] = (⟨#[]⟩ : ByteArray) := rfl

theorem nameB_ne {x : ByteArray} (h : nameB x = true) : x ≠ txt [] := by
  rintro rfl
  rw [nameB_none (by rw [txt_size]; simp)] at h; cases h

theorem on_to {L : WL} {x : ByteArray × WL} (h : sOn true L = some x) : sOnD L = some x := by
  unfold sOn at h
  unfold sOnD
  by_cases hw : isW tOn L = true
  · rw [if_pos hw] at h ⊢
    unfold sName at h
    obtain ⟨y, h1, h2⟩ := Option.bind_eq_some_iff.1 h
    split at h2
    · rename_i hn
      simp at hn
      cases h2
      rw [h1]
      simp only [Option.bind_some]
      rw [if_neg (nameB_ne hn)]
    · cases h2
  · rw [if_neg hw] at h ⊢
    exact h

theorem on_of {L : WL} {x : ByteArray × WL} (h : sOnD L = some x) (hn : (decide (x.1 = txt []) || nameB x.1) = true) : sOn true L = some x := by
  unfold sOnD at h
  unfold sOn
  by_cases hw : isW tOn L = true
  · rw [if_pos hw] at h ⊢
    unfold sName
    obtain ⟨y, h1, h2⟩ := Option.bind_eq_some_iff.1 h
    split at h2
    · cases h2
    · rename_i hne
      cases h2
      rw [h1]
      simp only [Option.bind_some]
      rw [decide_eq_false hne, Bool.false_or] at hn
      rw [if_pos (by simp [hn])]
  · rw [if_neg hw] at h ⊢
    exact h

theorem end_to {x : ByteArray} {s : SideV} (h : endOf true x = some s) : endOf false x = some s := by
  unfold endOf at h ⊢
  split
  · rename_i ha; rw [if_pos ha] at h; exact h
  · rename_i ha
    rw [if_neg ha] at h
    split
    · rename_i ht
      rw [if_pos ht] at h
      split at h
      · exact h
      · cases h
    · rename_i ht
      rw [if_neg ht] at h
      exact h

theorem inner_ne {x : ByteArray} (h : isTab x = true) : inner x ≠ txt [] := by
  intro he
  have h1 := congrArg ByteArray.size he
  unfold isTab at h
  simp only [Bool.and_eq_true, decide_eq_true_eq] at h
  have := text_len x
  unfold inner at h1
  rw [txt_size, txt_size] at h1
  simp at h1
  omega

theorem end_of {x : ByteArray} {s : SideV} (h : endOf false x = some s) (hn : endB s = true) : endOf true x = some s := by
  unfold endOf at h ⊢
  split
  · rename_i ha; rw [if_pos ha] at h; exact h
  · rename_i ha
    rw [if_neg ha] at h
    split
    · rename_i ht
      rw [if_pos ht] at h
      simp at h
      subst h
      unfold endB at hn
      simp only [Bool.false_eq_true, if_false] at hn
      rw [if_neg (inner_ne ht)] at hn
      simp only [Bool.and_eq_true] at hn
      rw [if_pos (by simp [hn.1])]
    · rename_i ht
      rw [if_neg ht] at h
      exact h

theorem sEnd_to {L : WL} {x : SideV × WL} (h : sEnd true L = some x) : sEnd false L = some x := by
  unfold sEnd at h ⊢
  obtain ⟨y, h1, h2⟩ := Option.bind_eq_some_iff.1 h
  obtain ⟨s, h3, h4⟩ := Option.map_eq_some_iff.1 h2
  rw [h1]
  simp only [Option.bind_some]
  rw [end_to h3]
  exact congrArg some h4

theorem sEnd_of {L : WL} {x : SideV × WL} (h : sEnd false L = some x) (hn : endB x.1 = true) : sEnd true L = some x := by
  unfold sEnd at h ⊢
  obtain ⟨y, h1, h2⟩ := Option.bind_eq_some_iff.1 h
  obtain ⟨s, h3, h4⟩ := Option.map_eq_some_iff.1 h2
  rw [h1]
  simp only [Option.bind_some]
  subst h4
  rw [end_of h3 hn]; rfl

theorem side_to {t : ByteArray} {L : WL} {x : SideV × WL} (h : sSide true t L = some x) : ∃ u, sMust t L = some u ∧ sEndP u.2 = some x := by
  unfold sSide at h
  obtain ⟨u, h1, h2⟩ := Option.bind_eq_some_iff.1 h
  obtain ⟨s, h3, h4⟩ := Option.bind_eq_some_iff.1 h2
  refine ⟨u, h1, ?_⟩
  unfold sEndP
  rw [sEnd_to h3]
  exact h4

theorem side_of {t : ByteArray} {L : WL} {u : Unit × WL} {x : SideV × WL} (h1 : sMust t L = some u) (h : sEndP u.2 = some x) (hn : endB x.1 = true) : sSide true t L = some x := by
  unfold sEndP at h
  obtain ⟨s, h3, h4⟩ := Option.bind_eq_some_iff.1 h
  obtain ⟨q, h5, h6⟩ := Option.bind_eq_some_iff.1 h4
  unfold sSide
  rw [h1]
  simp only [Option.bind_some]
  rw [sEnd_of h3 (by cases h6; exact hn)]
  exact h4

theorem name_to {L : WL} {x : ByteArray × WL} (h : sName true L = some x) : sName false L = some x ∧ nameB x.1 = true := by
  unfold sName at h ⊢
  obtain ⟨y, h1, h2⟩ := Option.bind_eq_some_iff.1 h
  split at h2
  · rename_i hn
    simp at hn
    cases h2
    rw [h1]
    exact ⟨by simp, hn⟩
  · cases h2

theorem name_of {L : WL} {x : ByteArray × WL} (h : sName false L = some x) (hn : nameB x.1 = true) : sName true L = some x := by
  unfold sName at h ⊢
  obtain ⟨y, h1, h2⟩ := Option.bind_eq_some_iff.1 h
  simp at h2
  subst h2
  rw [h1]
  simp [hn]

theorem pin_to {t : ByteArray} {L : WL} {x : PinV × WL} (h : sPin true t L = some x) : sPinD t L = some x := by
  unfold sPin at h
  unfold sPinD
  by_cases hw : isW t L = true
  · rw [if_pos hw] at h ⊢
    obtain ⟨i, h1, h2⟩ := Option.bind_eq_some_iff.1 h
    unfold dPin
    rw [(name_to h1).1]
    exact h2
  · rw [if_neg hw] at h ⊢
    exact h

theorem pin_of {t : ByteArray} {L : WL} {x : PinV × WL} (h : sPinD t L = some x) (hn : pinB x.1 = true) : sPin true t L = some x := by
  unfold sPinD at h
  unfold sPin
  by_cases hw : isW t L = true
  · rw [if_pos hw] at h ⊢
    unfold dPin at h
    obtain ⟨i, h1, h2⟩ := Option.bind_eq_some_iff.1 h
    obtain ⟨g, h3, h4⟩ := Option.bind_eq_some_iff.1 h2
    rw [name_of h1 (by cases h4; exact hn)]
    exact h2
  · rw [if_neg hw] at h ⊢
    exact h

theorem rule_to {L : WL} {x : RuleV × WL} (h : sRule true L = some x) : sRuleD L = some x := by
  simp only [sRule, Option.bind_eq_some_iff] at h
  obtain ⟨pass, h1, ret, h2, quick, h3, on, h4, proto, h5, src, h6, dst, h7, fl, h8, ty, h9, keep, h10, rt, h11, rp, h12, tab, h13, h14⟩ := h
  obtain ⟨u, g1, g2⟩ := side_to h6
  obtain ⟨v, g3, g4⟩ := side_to h7
  simp only [sRuleD, Option.bind_eq_some_iff]
  exact ⟨pass, h1, ret, h2, quick, h3, on, on_to h4, proto, h5, u, g1, src, g2, v, g3, dst, g4, fl, h8, ty, h9, keep, h10, rt, pin_to h11, rp, pin_to h12, tab, h13, h14⟩

theorem rule_of {L : WL} {x : RuleV × WL} (h : sRuleD L = some x) (hr : isR x.1 = true) : sRule true L = some x := by
  simp only [sRuleD, Option.bind_eq_some_iff] at h
  obtain ⟨pass, h1, ret, h2, quick, h3, on, h4, proto, h5, u, g1, src, g2, v, g3, dst, g4, fl, h8, ty, h9, keep, h10, rt, h11, rp, h12, tab, h13, h14⟩ := h
  have h15 := h14
  cases h15
  simp only [isR, sideB, Bool.and_eq_true] at hr
  obtain ⟨_, e1, _, ⟨e2, _⟩, ⟨e3, _⟩, _, _, e4, e5, _⟩ := hr
  simp only [sRule, Option.bind_eq_some_iff]
  exact ⟨pass, h1, ret, h2, quick, h3, on, on_of h4 e1, proto, h5, src, side_of g1 g2 e2, dst, side_of g3 g4 e3, fl, h8, ty, h9, keep, h10, rt, pin_of h11 e4, rp, pin_of h12 e5, tab, h13, h14⟩

/-- A text as a rule, as the document reads it. -/
theorem parseR_D (s : ByteArray) : parseR s = (match sRuleD (wordsB s) with | some (r, []) => if isR r = true then some r else none | _ => none) := by
  unfold parseR
  match h : sRule true (wordsB s) with
  | some (r, []) => rw [rule_to h]
  | some (r, x :: M) => rw [rule_to h]
  | none =>
    match h2 : sRuleD (wordsB s) with
    | none => rfl
    | some (r, x :: M) => rfl
    | some (r, []) =>
      by_cases hr : isR r = true
      · rw [rule_of h2 hr] at h; cases h
      · simp only; rw [if_neg hr]

theorem parseD_bad {s : ByteArray} (h : sRuleD (wordsB s) = none) : parseR s = none := by rw [parseR_D, h]
theorem parseD_more {s : ByteArray} {r : RuleV} {L : WL} (h : sRuleD (wordsB s) = some (r, L)) (hL : L ≠ []) : parseR s = none := by
  rw [parseR_D, h]
  cases L with
  | nil => exact absurd rfl hL
  | cons => rfl
theorem parseD_all {s : ByteArray} {r : RuleV} (h : sRuleD (wordsB s) = some (r, [])) : parseR s = if isR r = true then some r else none := by rw [parseR_D, h]
end Go.Proofs.YtbmmgjmmooakpaaGreatDoor.Ru
