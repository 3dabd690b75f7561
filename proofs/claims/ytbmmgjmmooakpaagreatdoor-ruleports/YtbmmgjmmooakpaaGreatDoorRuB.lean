/- Package rule's words: flags and pins. -/
import Derived.Test.YtbmmgjmmooakpaaGreatDoorRuA
import Derived.Test.YtbmmgjmmooakpaaGreatDoorRuL
namespace Go.Proofs.YtbmmgjmmooakpaaGreatDoor.Ru
open Go.RowKit
set_option linter.unusedVariables false
set_option maxRecDepth 100000

theorem or_pow : ∀ k, k < 6 → ∀ F : Nat, F < 2 ^ k → bits .or .i64 (F : Int) ((2 ^ k : Nat) : Int) = ((F + 2 ^ k : Nat) : Int) := by decide



/-- What letters answers. -/
def LetAns (s : ByteArray) (p : Nat) (L : WL) (b : Bool) (w : World) (e : Ending) (w' : World) : Prop :=
  ∃ (v : Nat) (g : Bool), e = .returned (.int .i64 (v : Int)) ∧ v < 64 ∧ g = (lettersOf s.data.toList).isSome ∧ (g = true → lettersOf s.data.toList = some v) ∧ WAt w' p L (b || !g) ∧ ExtX p w w'

set_option maxHeartbeats 2000000 in
theorem wletters_any (s : ByteArray) (p : Nat) (L : WL) (b : Bool) (w : World) (hz : s.size ≤ 1000000) (h : WAt w p L b) :
    Calls Tryz.prog 84 #[.pointer (some ⟨p, 0, none⟩), .string s] w (LetAns s p L b w) := by
  have HA : Hid (∀ (v : Nat) (g : Bool) w', v < 64 → g = (lettersOf s.data.toList).isSome → (g = true → lettersOf s.data.toList = some v) → WAt w' p L (b || !g) → ExtX p w w' → LetAns s p L b w (.returned (.int .i64 (v : Int))) w') := fun v g w' h1 h2 h3 h4 h5 => ⟨v, g, rfl, h1, h2, h3, h4, h5⟩
  generalize LetAns s p L b w = An at *
  have eq : (s.toList == [45]) = decide (s = txt [45]) := by have := eqT s (txt [45]); rwa [show (txt [45]).toList = [45] by rw [ByteArray.toList_eq, list_txt]] at this
  have HW : Hid (WAt w p L b) := h
  clear h
  by_cases h0 : s = txt [45]
  · rw [decide_eq_true h0] at eq
    have HL : Hid (lettersOf s.data.toList = some 0) := by rw [h0, list_txt]; exact lettersOf_P 0 (by omega)
    clear h0
    go_enter Tryz.func84, Tryz.ntmps84
    go_wp2
    exact HA.out 0 true _ (by omega) (by rw [HL.out]; rfl) (fun _ => HL.out) (by rw [Bool.not_true, Bool.or_false]; exact HW.out) (ExtX.refl _ _)
  · rw [decide_eq_false h0] at eq
    have hq := letters_strip s.data.toList (fun e => h0 (by rw [← txt_list s, e]))
    have hne : s.toList.isEmpty = !decide (s.data.toList ≠ []) := by
      rw [ByteArray.toList_eq]
      generalize s.data.toList = l
      cases l <;> simp
    obtain ⟨S, hS⟩ : ∃ S, s.data.toList = S := ⟨_, rfl⟩
    have hlen : S.length ≤ 1000000 := by rw [← hS, text_len]; exact hz
    rw [hS] at hq hne HA
    have HQ : Hid _ := hq
    have HS : Hid (s = txt S) := (show s = txt S by rw [← hS, txt_list])
    have c5 := fun g b w h => must_any g p L b w h
    obtain ⟨g0, hg0⟩ : ∃ g, (!decide (S ≠ [])) = g := ⟨_, rfl⟩
    rw [hg0] at hne
    have HG : Hid (decide (S ≠ []) = !g0) := (show decide (S ≠ []) = !g0 by rw [← hg0, Bool.not_not])
    clear hq h0 hS hg0 hz
    go_enter Tryz.func84, Tryz.ntmps84
    go_wp2_with (go_at_call 55; refine (c5 (!g0) _ _ HW.out).mono ?_; rintro e w1 ⟨rfl, hW1, hx1⟩)
    clear eq hne
    go_loop [1, 5, 15] (fun t f i => ∃ k : Nat, k ≤ 6 ∧ i = .int .i64 k ∧ t = .string (txt (sts S k).1) ∧ f = .int .i64 ((sts S k).2 : Nat)) (fun _ _ i => 6 - (intOf i).toNat)
    case atStart => exact ⟨0, Nat.zero_le _, rfl, by rw [HS.out]; rfl, rfl⟩
    case round =>
      obtain ⟨k, hk, rfl, rfl, rfl⟩ := hrel
      by_cases hlt : k < 6
      · have hF := sts_lt S k
        have hst : sts S (k + 1) = st k (sts S k) := rfl
        have hla := letter_at k hlt
        have c1 := fun w => Tryz.strings_CutPrefix (txt (sts S k).1) (txt [lc k]) w
        rw [list_txt, list_txt] at c1
        unfold st at hst
        have hor := or_pow k hlt (sts S k).2 hF
        generalize sts S k = x at *
        obtain ⟨l, F⟩ := x
        dsimp only at *
        cases hp : Lib.hasPrefix l [lc k] with
        | true =>
          have ht : (⟨(Lib.trimPrefix l [lc k]).toArray⟩ : ByteArray) = txt l.tail := by
            unfold Lib.trimPrefix; rw [if_pos hp]; simp [txt]
          rw [hp, if_pos rfl] at hst
          rw [ht, hp] at c1
          have HT : Hid _ := hst
          clear hp ht hst
          generalize txt [lc k] = C at *
          generalize hTT : txt l.tail = T at *
          have HTT : Hid _ := hTT
          clear hTT
          generalize txt l = T0 at *
          rcases (by omega : k = 0 ∨ k = 1 ∨ k = 2 ∨ k = 3 ∨ k = 4 ∨ k = 5) with rfl | rfl | rfl | rfl | rfl | rfl
          · simp only [Nat.reduceAdd, Nat.reducePow] at hla hor hF
            go_wp2_with (go_at_call 101; refine (c1 _).mono ?_; rintro e w2 ⟨rfl, hw⟩; obtain rfl := hw.symm; clear hw)
            go_round
            case rel => exact ⟨1, by omega, rfl, by rw [show sts S 1 = _ from HT.out]; exact congrArg Value.string HTT.out.symm, by rw [show sts S 1 = _ from HT.out]; exact congrArg (Value.int .i64) hor⟩
            case measure => simp [intOf]
          · simp only [Nat.reduceAdd, Nat.reducePow] at hla hor hF
            go_wp2_with (go_at_call 101; refine (c1 _).mono ?_; rintro e w2 ⟨rfl, hw⟩; obtain rfl := hw.symm; clear hw)
            go_round
            case rel => exact ⟨2, by omega, rfl, by rw [show sts S 2 = _ from HT.out]; exact congrArg Value.string HTT.out.symm, by rw [show sts S 2 = _ from HT.out]; exact congrArg (Value.int .i64) hor⟩
            case measure => simp [intOf]
          · simp only [Nat.reduceAdd, Nat.reducePow] at hla hor hF
            go_wp2_with (go_at_call 101; refine (c1 _).mono ?_; rintro e w2 ⟨rfl, hw⟩; obtain rfl := hw.symm; clear hw)
            go_round
            case rel => exact ⟨3, by omega, rfl, by rw [show sts S 3 = _ from HT.out]; exact congrArg Value.string HTT.out.symm, by rw [show sts S 3 = _ from HT.out]; exact congrArg (Value.int .i64) hor⟩
            case measure => simp [intOf]
          · simp only [Nat.reduceAdd, Nat.reducePow] at hla hor hF
            go_wp2_with (go_at_call 101; refine (c1 _).mono ?_; rintro e w2 ⟨rfl, hw⟩; obtain rfl := hw.symm; clear hw)
            go_round
            case rel => exact ⟨4, by omega, rfl, by rw [show sts S 4 = _ from HT.out]; exact congrArg Value.string HTT.out.symm, by rw [show sts S 4 = _ from HT.out]; exact congrArg (Value.int .i64) hor⟩
            case measure => simp [intOf]
          · simp only [Nat.reduceAdd, Nat.reducePow] at hla hor hF
            go_wp2_with (go_at_call 101; refine (c1 _).mono ?_; rintro e w2 ⟨rfl, hw⟩; obtain rfl := hw.symm; clear hw)
            go_round
            case rel => exact ⟨5, by omega, rfl, by rw [show sts S 5 = _ from HT.out]; exact congrArg Value.string HTT.out.symm, by rw [show sts S 5 = _ from HT.out]; exact congrArg (Value.int .i64) hor⟩
            case measure => simp [intOf]
          · simp only [Nat.reduceAdd, Nat.reducePow] at hla hor hF
            go_wp2_with (go_at_call 101; refine (c1 _).mono ?_; rintro e w2 ⟨rfl, hw⟩; obtain rfl := hw.symm; clear hw)
            go_round
            case rel => exact ⟨6, by omega, rfl, by rw [show sts S 6 = _ from HT.out]; exact congrArg Value.string HTT.out.symm, by rw [show sts S 6 = _ from HT.out]; exact congrArg (Value.int .i64) hor⟩
            case measure => simp [intOf]
        | false =>
          have ht : (⟨(Lib.trimPrefix l [lc k]).toArray⟩ : ByteArray) = txt l := by
            unfold Lib.trimPrefix; rw [if_neg (by rw [hp]; decide)]; rfl
          rw [hp, if_neg (by decide)] at hst
          rw [ht, hp] at c1
          have HT : Hid _ := hst
          clear hp ht hst hor
          generalize txt [lc k] = C at *
          generalize hTT : txt l = T at *
          have HTT : Hid _ := hTT
          clear hTT
          rcases (by omega : k = 0 ∨ k = 1 ∨ k = 2 ∨ k = 3 ∨ k = 4 ∨ k = 5) with rfl | rfl | rfl | rfl | rfl | rfl
          · simp only [Nat.reduceAdd, Nat.reducePow] at hla hF
            go_wp2_with (go_at_call 101; refine (c1 _).mono ?_; rintro e w2 ⟨rfl, hw⟩; obtain rfl := hw.symm; clear hw)
            go_round
            case rel => exact ⟨1, by omega, rfl, by rw [show sts S 1 = _ from HT.out]; exact congrArg Value.string HTT.out.symm, by rw [show sts S 1 = _ from HT.out]⟩
            case measure => simp [intOf]
          · simp only [Nat.reduceAdd, Nat.reducePow] at hla hF
            go_wp2_with (go_at_call 101; refine (c1 _).mono ?_; rintro e w2 ⟨rfl, hw⟩; obtain rfl := hw.symm; clear hw)
            go_round
            case rel => exact ⟨2, by omega, rfl, by rw [show sts S 2 = _ from HT.out]; exact congrArg Value.string HTT.out.symm, by rw [show sts S 2 = _ from HT.out]⟩
            case measure => simp [intOf]
          · simp only [Nat.reduceAdd, Nat.reducePow] at hla hF
            go_wp2_with (go_at_call 101; refine (c1 _).mono ?_; rintro e w2 ⟨rfl, hw⟩; obtain rfl := hw.symm; clear hw)
            go_round
            case rel => exact ⟨3, by omega, rfl, by rw [show sts S 3 = _ from HT.out]; exact congrArg Value.string HTT.out.symm, by rw [show sts S 3 = _ from HT.out]⟩
            case measure => simp [intOf]
          · simp only [Nat.reduceAdd, Nat.reducePow] at hla hF
            go_wp2_with (go_at_call 101; refine (c1 _).mono ?_; rintro e w2 ⟨rfl, hw⟩; obtain rfl := hw.symm; clear hw)
            go_round
            case rel => exact ⟨4, by omega, rfl, by rw [show sts S 4 = _ from HT.out]; exact congrArg Value.string HTT.out.symm, by rw [show sts S 4 = _ from HT.out]⟩
            case measure => simp [intOf]
          · simp only [Nat.reduceAdd, Nat.reducePow] at hla hF
            go_wp2_with (go_at_call 101; refine (c1 _).mono ?_; rintro e w2 ⟨rfl, hw⟩; obtain rfl := hw.symm; clear hw)
            go_round
            case rel => exact ⟨5, by omega, rfl, by rw [show sts S 5 = _ from HT.out]; exact congrArg Value.string HTT.out.symm, by rw [show sts S 5 = _ from HT.out]⟩
            case measure => simp [intOf]
          · simp only [Nat.reduceAdd, Nat.reducePow] at hla hF
            go_wp2_with (go_at_call 101; refine (c1 _).mono ?_; rintro e w2 ⟨rfl, hw⟩; obtain rfl := hw.symm; clear hw)
            go_round
            case rel => exact ⟨6, by omega, rfl, by rw [show sts S 6 = _ from HT.out]; exact congrArg Value.string HTT.out.symm, by rw [show sts S 6 = _ from HT.out]⟩
            case measure => simp [intOf]
      · obtain rfl : k = 6 := by omega
        have hF := sts_lt S 6
        have hem : (txt (sts S 6).1).toList.isEmpty = decide ((sts S 6).1 = []) := by
          rw [ByteArray.toList_eq, list_txt]
          generalize (sts S 6).1 = l
          cases l <;> simp
        have hem2 : ((txt (sts S 6).1).toList == []) = decide ((sts S 6).1 = []) := by
          rw [ByteArray.toList_eq, list_txt]
          generalize (sts S 6).1 = l
          cases l <;> simp
        have HF : Hid ((sts S 6).2 < 64) := hF
        generalize decide ((sts S 6).1 = []) = ge at *
        generalize (sts S 6).2 = F at *
        generalize txt (sts S 6).1 = T at *
        clear hF hlt hk hlen
        go_wp2_with (go_at_call 55; refine (c5 ge _ _ hW1).mono ?_; rintro e w2 ⟨rfl, hW2, hx2⟩)
        have hq := HQ.out
        rw [HG.out] at hq
        exact HA.out F (!g0 && ge) _ HF.out hq.1 (fun h => hq.2 (by rw [← hq.1]; exact h)) (by rw [Bool.not_and, ← Bool.or_assoc]; exact hW2) (hx1.trans hx2)

theorem letters_slash : ∀ n, n < 64 → (47 : UInt8) ∉ lettersP n := by decide

theorem lettersOf_slash {l : List UInt8} (h : 47 ∈ l) : lettersOf l = none := by
  cases hf : lettersOf l with
  | none => rfl
  | some n =>
    obtain ⟨hn, he⟩ := find_letters hf
    rw [← he] at h
    exact absurd h (letters_slash n hn)

theorem flags_two {x A B : ByteArray} (hx : x.data.toList = A.data.toList ++ 47 :: B.data.toList) (hA : 47 ∉ A.data.toList) :
    flagsOf x = (lettersOf A.data.toList).bind fun s => (lettersOf B.data.toList).bind fun m => if m = 0 then none else some ((s : Int), (m : Int)) := by
  unfold flagsOf
  rw [hx, split_at hA]
  by_cases hB : 47 ∈ B.data.toList
  · rw [lettersOf_slash hB]
    obtain ⟨y, z, e, hy⟩ : ∃ y z, B.data.toList = y ++ 47 :: z ∧ 47 ∉ y := by
      rcases index_split 47 B.data.toList with ⟨y, z, e, hy, _⟩ | ⟨hy, _⟩
      · exact ⟨y, z, e, hy⟩
      · exact absurd hB hy
    rw [e, split_at hy]
    cases hz : splitL 47 z with
    | nil => exact absurd hz (split_ne_nil _ _)
    | cons => simp
  · rw [split_none hB]

theorem flags_one {x : ByteArray} (h : 47 ∉ x.data.toList) : flagsOf x = none := by
  unfold flagsOf; rw [split_none h]

theorem flags_nil : flagsOf (txt []) = none := flags_one (by rw [list_txt]; simp)

/-- Both parts of a word as flags. -/
theorem flags_ok {o1 o2 : Option Nat} {v1 v2 : Nat} {g1 g2 : Bool} (h1 : g1 = o1.isSome) (h2 : g2 = o2.isSome) (k1 : g1 = true → o1 = some v1) (k2 : g2 = true → o2 = some v2) :
    (g1 && (g2 && !((v2 : Int) == 0))) = (o1.bind fun s => o2.bind fun m => if m = 0 then none else some ((s : Int), (m : Int))).isSome ∧
    ((g1 && (g2 && !((v2 : Int) == 0))) = true → (o1.bind fun s => o2.bind fun m => if m = 0 then none else some ((s : Int), (m : Int))) = some ((v1 : Int), (v2 : Int))) := by
  cases g1 with
  | false =>
    have : o1 = none := by cases o1 with
      | none => rfl
      | some => simp at h1
    rw [this]; simp
  | true =>
    rw [k1 rfl]
    cases g2 with
    | false =>
      have : o2 = none := by cases o2 with
        | none => rfl
        | some => simp at h2
      rw [this]; simp
    | true =>
      rw [k2 rfl]
      by_cases h0 : v2 = 0
      · subst h0; simp
      · have : ((v2 : Int) == 0) = false := by simp; omega
        simp [h0]

def encF (q : Int × Int) : Value := .tuple #[.int .i64 q.1, .int .i64 q.2]
def okF (q : Int × Int) : Prop := (0 ≤ q.1 ∧ q.1 ≤ 63) ∧ (0 ≤ q.2 ∧ q.2 ≤ 63)

set_option maxHeartbeats 1000000 in
theorem wflags_any (p : Nat) (L : WL) (b : Bool) (w : World) (h : WAt w p L b) (hs : Std w) (hp : Abv p) :
    Calls Tryz.prog 59 #[.pointer (some ⟨p, 0, none⟩)] w (Ans encF okF (sFlags L) p b w) := by
  have c1 := maybe_any tFlags p L b w (by decide) h hs
  unfold aftW at c1
  have HA : Hid (∀ v b' L' w', okF v → Stp (sFlags L) b v b' L' → WAt w' p L' b' → ExtX p w w' → Ans encF okF (sFlags L) p b w (.returned (encF v)) w') := fun v b' L' w' h1 h2 h3 h4 => ⟨v, b', L', rfl, h1, h2, h3, h4⟩
  unfold sFlags at *
  generalize Ans encF okF _ p b w = An at *
  have HS : Hid (Std w) := hs
  have hX := tail_size h
  clear h hs
  cases hq : isW tFlags L with
  | false =>
    rw [hq, if_neg (by decide)] at c1
    rw [hq, if_neg (by decide)] at HA
    clear hq hX
    go_enter Tryz.func59, Tryz.ntmps59
    go_wp2_with (go_at_call 54; refine c1.mono ?_; rintro e w1 ⟨rfl, hW, hx⟩)
    exact HA.out (0, 0) _ _ _ ⟨⟨by decide, by decide⟩, by decide, by decide⟩ Stp.some hW hx
  | true =>
    rw [hq, if_pos rfl] at c1
    rw [hq, if_pos rfl] at HA
    have HL : Hid (∀ v g b', g = (flagsOf (headW L.tail)).isSome → (g = true → flagsOf (headW L.tail) = some v) → b' = (b || !g) → Stp ((sHead L.tail).bind fun x => (flagsOf x.1).map fun v => (v, x.2)) b v b' L.tail.tail) :=
      fun v g b' h1 h2 h3 => by subst h3; exact head_stp flags_nil h1 h2
    generalize ((sHead L.tail).bind fun x => (flagsOf x.1).map fun v => (v, x.2)) = O at *
    have c2 := fun w h hs => take_any p L.tail b w h hs
    have c5 := fun g b w h => must_any g p L.tail.tail b w h
    clear hq
    generalize headW L.tail = x at *
    have ways : ∃ (A B : ByteArray) (tw : Bool), A.size ≤ 1000000 ∧ B.size ≤ 1000000 ∧ (∀ w, Max w → Calls Tryz.prog 78 #[.string x, .string ⟨#[47]⟩] w fun e w' => e = .returned (.tuple #[.string A, .string B, .bool tw]) ∧ Ext w w') ∧
        flagsOf x = (lettersOf A.data.toList).bind fun s => (lettersOf B.data.toList).bind fun m => if m = 0 then none else some ((s : Int), (m : Int)) := by
      rcases cut_text x 47 hX with ⟨A, B, e1, e2, hA, hB, cc⟩ | ⟨e2, cc⟩
      · exact ⟨A, B, true, hA, hB, cc, flags_two e1 e2⟩
      · refine ⟨x, ⟨#[]⟩, false, hX, by decide, cc, ?_⟩
        rw [flags_one e2, show lettersOf (⟨#[]⟩ : ByteArray).data.toList = none by decide]
        cases lettersOf x.data.toList <;> rfl
    obtain ⟨A, B, tw, hA, hB, cc, hR⟩ := ways
    have c3 := fun b w h => wletters_any A p L.tail.tail b w hA h
    have c4 := fun b w h => wletters_any B p L.tail.tail b w hB h
    generalize flagsOf x = R at *
    have HR : Hid _ := hR
    have tok : Hid True := trivial
    clear hX hR hA hB
    go_enter Tryz.func59, Tryz.ntmps59
    go_wp2_with (first
      | (go_at_call 54; refine c1.mono ?_; rintro e w1 ⟨rfl, hW, hx⟩; clear c1)
      | (go_at_call 53; refine (c2 _ hW (HS.out.laterX hx hp)).mono ?_; rintro e w2 ⟨rfl, hW2, hx2⟩; clear c2; have hs2 := (HS.out.laterX hx hp).laterX hx2 hp; replace hx2 := hx.trans hx2; clear hx hW HS)
      | (go_at_call 78; refine (cc _ hs2.max).mono ?_; rintro e w3 ⟨rfl, hx3⟩; clear cc hs2; replace hx2 := hx2.trans (hx3.but p); replace hW2 := hW2.later hx3; clear hx3)
      | (go_at_call 84; clear tok; refine (c3 b _ hW2).mono ?_; rintro e w3 ⟨v1, g1, rfl, hb1, hg1, hv1, hW3, hx3⟩; have H1 : Hid (v1 < 64 ∧ g1 = (lettersOf A.data.toList).isSome ∧ (g1 = true → lettersOf A.data.toList = some v1)) := ⟨hb1, hg1, hv1⟩; clear hb1 hg1 hv1; replace hx2 := hx2.trans hx3; clear hx3 hW2)
      | (go_at_call 84; refine (c4 _ _ hW3).mono ?_; rintro e w4 ⟨v2, g2, rfl, hb2, hg2, hv2, hW4, hx4⟩; have H2 : Hid (v2 < 64 ∧ g2 = (lettersOf B.data.toList).isSome ∧ (g2 = true → lettersOf B.data.toList = some v2)) := ⟨hb2, hg2, hv2⟩; clear hb2 hg2 hv2; replace hx2 := hx2.trans hx4; clear hx4 hW3)
      | (go_at_call 55; refine (c5 _ _ _ hW4).mono ?_; rintro e w5 ⟨rfl, hW5, hx5⟩; replace hx2 := hx2.trans hx5; clear hx5 hW4))
    have hq := flags_ok H1.out.2.1 H2.out.2.1 H1.out.2.2 H2.out.2.2
    rw [← HR.out] at hq
    exact HA.out ((v1 : Int), (v2 : Int)) _ _ _ ⟨⟨by have := H1.out.1; dsimp only; omega, by have := H1.out.1; dsimp only; omega⟩, by have := H2.out.1; dsimp only; omega, by have := H2.out.1; dsimp only; omega⟩
      (HL.out ((v1 : Int), (v2 : Int)) _ _ hq.1 hq.2 (by simp only [Bool.or_assoc, Bool.not_and]; rfl)) hW5 hx2

theorem name_stp {L : WL} {b : Bool} : Stp (sName true L) b (headW L) (b || !nameB (headW L)) L.tail := by
  refine Stp.ask (fun h => ?_) (fun h => ?_)
  · cases L with
    | nil => rw [headW_nil, nameB_none (by rw [txt_size]; simp)] at h; cases h
    | cons x r =>
      unfold sName sHead
      simp only [Option.bind_some, Bool.not_true, Bool.false_or]
      rw [if_pos (show nameB x = true from h)]; rfl
  · cases L with
    | nil => rfl
    | cons x r =>
      unfold sName sHead
      simp only [Option.bind_some, Bool.not_true, Bool.false_or]
      rw [if_neg (by rw [show nameB x = false from h]; decide)]

theorem parseV_nil : parseV (txt []).data.toList = none := by decide

theorem gate_stp {L : WL} {b : Bool} {v : Nat} {o : Option Nat} (ho : parseV (headW L).data.toList = o) (hv : o.isSome = true → o = some v) : Stp (sGate L) b (v : Int) (b || !o.isSome) L.tail := by
  subst ho
  refine Stp.ask (fun h => ?_) (fun h => ?_)
  · cases L with
    | nil => rw [headW_nil, parseV_nil] at h; cases h
    | cons x r =>
      have h2 := hv h
      unfold headW at h2
      simp only [List.headD_cons] at h2
      simp [sGate, sHead, h2]
  · cases L with
    | nil => rfl
    | cons x r =>
      unfold headW at h
      simp only [List.headD_cons, Option.isSome_eq_false_iff, Option.isNone_iff_eq_none] at h
      simp [sGate, sHead, h]

def encN (q : PinV) : Value := (.agg #[.bool q.on, .string q.iface, .int .u32 q.gate])

set_option maxHeartbeats 1000000 in
theorem wpin_any (t : ByteArray) (p : Nat) (L : WL) (b : Bool) (w : World) (ht : t ≠ txt []) (h : WAt w p L b) (hs : Std w) (hp : Abv p) :
    Calls Tryz.prog 61 #[.pointer (some ⟨p, 0, none⟩), .string t] w (Ans encN PinOk (sPin true t L) p b w) := by
  obtain ⟨W, hW⟩ : ∃ W, w.alloc (.cells #[.bool false, .string ⟨#[]⟩, .int .u32 0] 30) = W := ⟨_, rfl⟩
  have hx0 : Ext w W := hW ▸ (Ext.refl w).alloc _
  have h0 : W.heap[w.heap.size]? = some (.cells #[.bool false, .string ⟨#[]⟩, .int .u32 0] 30 (0, 0)) := hW ▸ heap_new w _
  have hpl := h.lt
  have c1 := maybe_any t p L b W ht (h.later hx0) (hs.later hx0)
  unfold aftW at c1
  have HA : Hid (∀ v b' L' w' w5, PinOk v → Stp (sPin true t L) b v b' L' → WAt w' p L' b' → ExtX p W w' → ExtX w.heap.size w' w5 → Ans encN PinOk (sPin true t L) p b w (.returned (encN v)) w5) := fun v b' L' w' w5 h1 h2 h3 h4 h5 =>
    ⟨v, b', L', rfl, h1, h2, h3.laterX h5 (by omega), extX_own ((hx0.but p).trans h4) h5 (Nat.le_refl _)⟩
  have HH : Hid (∀ w', ExtX p W w' → w'.heap[w.heap.size]? = some (.cells #[.bool false, .string ⟨#[]⟩, .int .u32 0] 30 (0, 0))) := fun w' hx => extX_heap hx (by omega) h0
  unfold sPin at *
  generalize Ans encN PinOk _ p b w = An at *
  have HX : Hid (∀ w', ExtX p W w' → Std w') := fun w' hx => (hs.later hx0).laterX hx hp
  have HZ : Hid (∀ w, WAt w p L.tail b → (headW L.tail).size ≤ 1000000 ∧ (headW L.tail.tail).size ≤ 1000000) := fun w h => ⟨headW_size h, tail_size h⟩
  clear h hs h0 hx0 hpl ht
  cases hq : isW t L with
  | false =>
    rw [hq, if_neg (by decide)] at c1
    rw [hq, if_neg (by decide)] at HA
    clear hq
    go_enter Tryz.func61, Tryz.ntmps61
    go_wp2_with (first
      | (go_at_call 54; refine c1.mono ?_; rintro e w1 ⟨rfl, hW1, hx⟩; clear c1)
      | (refine wpl_store (by rfl) 30 _ _ rfl rfl 3 w.heap.size #[.bool false, .string ⟨#[]⟩, .int .u32 0] _ _ rfl rfl (HH.out _ hx) pin_size rfl rfl (by simp [Value.oneCell']) ?_; intro w5 hx5 k5))
    exact bodyPost_ret (results_one Tryz.results61 _ rfl k5 Tryz.underlying30 rfl pin_size) rfl (HA.out pin0 _ _ _ _ ⟨by simp [pin0, txt_size], by simp [pin0], by simp [pin0]⟩ Stp.some hW1 hx hx5)
  | true =>
    rw [hq, if_pos rfl] at c1
    rw [hq, if_pos rfl] at HA
    clear hq
    have c2 := fun w h hs => wname_any p L.tail b w h hs
    have hn : Stp (sName true L.tail) b (headW L.tail) (b || !nameB (headW L.tail)) L.tail.tail := name_stp
    have hg := fun b v o ho hv => gate_stp (L := L.tail.tail) (b := b) (v := v) (o := o) ho hv
    obtain ⟨o, ho⟩ : ∃ o, parseV (headW L.tail.tail).data.toList = o := ⟨_, rfl⟩
    have HN : Hid _ := hn
    have hpe : parseE (headW L.tail.tail).data.toList = .returned (.tuple #[.int .u32 ((o.getD 0 : Nat) : Int), .int .i64 (if o.isSome = true then 0 else 2)]) := by
      unfold parseE; rw [ho]; cases o <;> rfl
    have hbd : o.getD 0 < 4294967296 := by
      cases o with
      | none => simp
      | some a => exact parseV_bd ho
    have c3 := fun b w h hs => take_any p L.tail.tail b w h hs
    have c4 := fun w hz h => parse_any (headW L.tail.tail) w hz h
    rw [hpe] at c4
    have c5 := fun g b w h => must_any g p L.tail.tail.tail b w h
    have hv : o.isSome = true → o = some (o.getD 0) := by cases o <;> simp
    have HG : Hid (∀ b, Stp (sGate L.tail.tail) b ((o.getD 0 : Nat) : Int) (b || !o.isSome) L.tail.tail.tail) := fun b => hg b _ _ ho hv
    have HB : Hid _ := hbd
    generalize o.getD 0 = a at *
    generalize headW L.tail = x at *
    clear hn hg hpe hbd hv ho
    obtain ⟨er, her⟩ : ∃ er : Int, (if o.isSome = true then (0 : Int) else 2) = er := ⟨_, rfl⟩
    rw [her] at c4
    have hee : (er == 0) = o.isSome := by rw [← her]; cases o.isSome <;> rfl
    generalize o.isSome = g at *
    clear her
    go_enter Tryz.func61, Tryz.ntmps61
    go_wp2_with (first
      | (go_at_call 54; refine c1.mono ?_; rintro e w1 ⟨rfl, hW1, hx⟩; clear c1)
      | (go_at_call 56; have hz := HZ.out _ hW1; have HZ2 : Hid _ := hz; clear hz; refine (c2 _ hW1 (HX.out _ hx)).mono ?_; rintro e w2 ⟨rfl, hW2, hx2⟩; replace hx := hx.trans hx2; clear hx2 c2 hW1)
      | (go_at_call 53; refine (c3 _ _ hW2 (HX.out _ hx)).mono ?_; rintro e w3 ⟨rfl, hW3, hx3⟩; replace hx := hx.trans hx3; clear hx3 c3 hW2)
      | (go_at_call 85; refine (c4 _ HZ2.out.2 (HX.out _ hx).max).mono ?_; rintro e w4 ⟨rfl, hx4⟩; replace hx := hx.trans (hx4.but p); replace hW3 := hW3.later hx4; clear hx4 c4)
      | (go_at_call 55; refine (c5 g _ _ hW3).mono ?_; rintro e w5 ⟨rfl, hW5, hx5⟩; replace hx := hx.trans hx5; clear hx5 hW3)
      | (refine wpl_store (by rfl) 30 _ _ rfl rfl 3 w.heap.size #[.bool true, .string x, .int .u32 (a : Int)] _ _ rfl rfl (HH.out _ hx) pin_size rfl rfl (by simp [Value.oneCell']) ?_; intro w5 hx5 k5))
    exact bodyPost_ret (results_one Tryz.results61 _ rfl k5 Tryz.underlying30 rfl pin_size) rfl (HA.out ⟨true, x, (a : Int)⟩ _ _ _ _ ⟨Nat.le_trans HZ2.out.1 (by decide), by dsimp only; omega, by have := HB.out; dsimp only; omega⟩
      (Stp.bind HN.out (Stp.bind (HG.out _) Stp.some)) hW5 hx hx5)
end Go.Proofs.YtbmmgjmmooakpaaGreatDoor.Ru
