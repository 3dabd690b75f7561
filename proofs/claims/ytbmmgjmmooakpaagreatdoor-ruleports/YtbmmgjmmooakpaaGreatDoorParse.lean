/- addr.Parse and addr.ParsePrefix, for every text of at most 1000000 bytes: what the document's plain reading of the text says. -/
import Derived.Test.YtbmmgjmmooakpaaGreatDoorNum
import Derived.Test.YtbmmgjmmooakpaaGreatDoorShelf
namespace Go.Proofs.YtbmmgjmmooakpaaGreatDoor
set_option maxRecDepth 100000
open Go.RowKit
set_option linter.unusedVariables false

/-- The library's variable that strings.Cut reads holds some number. -/
def Max (w : World) : Prop := ∃ m : Int, w.cell? ⟨1, 0, none⟩ = some (.int .i64 m)

theorem Max.later {w w' : World} (h : Max w) (hx : Ext w w') : Max w' := by
  obtain ⟨m, hm⟩ := h
  exact ⟨m, by rw [hx.below.cell (p := ⟨1, 0, none⟩) (block_lt hm)]; exact hm⟩

theorem max_of_shaped {w : World} (h : w.ShapedOpen Tryz.prog) : Max w := Tryz.laysM145.s1_3 w h

theorem ext_drewN (w : World) (n : Nat) : Ext w (w.drewN n) := ⟨rfl, rfl, rfl, Nat.le_refl _, fun _ _ => rfl⟩

theorem cut_any (s : ByteArray) (c : UInt8) (w : World) (hs : s.size ≤ 1000000) (hm : Max w) :
    Calls Tryz.prog 78 #[.string s, .string ⟨#[c]⟩] w fun e w' => e = .returned (.tuple #[.string ⟨(Lib.cut s.data.toList [c]).1.toArray⟩, .string ⟨(Lib.cut s.data.toList [c]).2.1.toArray⟩, .bool (Lib.cut s.data.toList [c]).2.2]) ∧ Ext w w' := by
  obtain ⟨m, hm⟩ := hm
  refine (Tryz.strings_Cut s ⟨#[c]⟩ m w (by omega) hm).mono ?_
  rintro e w' ⟨rfl, n, rfl⟩
  exact ⟨rfl, ext_drewN w n⟩

theorem cut_text (t : ByteArray) (c : UInt8) (ht : t.size ≤ 1000000) :
    (∃ A B : ByteArray, t.data.toList = A.data.toList ++ c :: B.data.toList ∧ c ∉ A.data.toList ∧ A.size ≤ 1000000 ∧ B.size ≤ 1000000 ∧
      ∀ w, Max w → Calls Tryz.prog 78 #[.string t, .string ⟨#[c]⟩] w fun e w' => e = .returned (.tuple #[.string A, .string B, .bool true]) ∧ Ext w w') ∨
    (c ∉ t.data.toList ∧ ∀ w, Max w → Calls Tryz.prog 78 #[.string t, .string ⟨#[c]⟩] w fun e w' => e = .returned (.tuple #[.string t, .string ⟨#[]⟩, .bool false]) ∧ Ext w w') := by
  have hl := text_len t
  rcases cut_split c t.data.toList with ⟨a, b, h1, h2, h3⟩ | ⟨h2, h3⟩
  · have h4 : a.length + (b.length + 1) = t.size := by rw [← hl, h1]; simp
    refine .inl ⟨⟨a.toArray⟩, ⟨b.toArray⟩, by simpa using h1, by simpa using h2, by show a.toArray.size ≤ _; simp; omega, by show b.toArray.size ≤ _; simp; omega, fun w hm => ?_⟩
    have := cut_any t c w ht hm
    rw [h3] at this
    exact this
  · refine .inr ⟨h2, fun w hm => ?_⟩
    have := cut_any t c w ht hm
    rw [h3] at this
    exact this

theorem number_good (A : ByteArray) (top : Nat) (h : numB A.data.toList top = true) (ht : top ≤ 1000000) (hs : A.size ≤ 1000000) (w : World) :
    Calls Tryz.prog 104 #[.string A, .int .i64 top] w fun e w' => e = .returned (.tuple #[.int .i64 (valN A.data.toList : Nat), .bool true]) ∧ w' = w := by
  have := number_any A top w (by omega) (by omega) hs
  rw [Int.toNat_natCast, h] at this
  simpa using this

theorem number_bad (A : ByteArray) (top : Nat) (h : numB A.data.toList top = false) (ht : top ≤ 1000000) (hs : A.size ≤ 1000000) (w : World) :
    Calls Tryz.prog 104 #[.string A, .int .i64 top] w fun e w' => e = .returned (.tuple #[.int .i64 0, .bool false]) ∧ w' = w := by
  have := number_any A top w (by omega) (by omega) hs
  rw [Int.toNat_natCast, h] at this
  simpa using this

/-- What Parse answers. -/
def parseE (l : List UInt8) : Ending :=
  match parseV l with
  | some a => .returned (.tuple #[.int .u32 a, .int .i64 0])
  | none => .returned (.tuple #[.int .u32 0, .int .i64 2])

/-- Where Parse stands behind k parts. -/
def ParseAt (L l : List UInt8) (k m : Nat) : Prop :=
  (k < 4 ∧ m < 256 ^ k ∧ (splitL 46 L).length = k + (splitL 46 l).length ∧ accP (splitL 46 L) 0 = accP (splitL 46 l) m) ∨ (k = 4 ∧ parseV L = some m)

theorem parse_start (L : List UInt8) : ParseAt L L 0 0 := .inl ⟨by omega, by decide, by omega, rfl⟩

theorem parse_wrong {L l a b : List UInt8} {k m : Nat} (hk : k < 4) (h : ParseAt L l k m) (hl : l = a ++ 46 :: b) (hn : 46 ∉ a) (hb : numB a 255 = false) : parseV L = none := by
  rcases h with ⟨_, _, h1, h2⟩ | ⟨h1, _⟩
  · rw [hl, split_at hn, accP, hb] at h2
    unfold parseV; split
    · rw [h2]; rfl
    · rfl
  · omega

theorem parse_wrong' {L l : List UInt8} {k m : Nat} (hk : k < 4) (h : ParseAt L l k m) (hn : 46 ∉ l) (hb : numB l 255 = false) : parseV L = none := by
  rcases h with ⟨_, _, h1, h2⟩ | ⟨h1, _⟩
  · rw [split_none hn, accP, hb] at h2
    unfold parseV; split
    · rw [h2]; rfl
    · rfl
  · omega

theorem parse_many {L l a b : List UInt8} {m : Nat} (h : ParseAt L l 3 m) (hl : l = a ++ 46 :: b) (hn : 46 ∉ a) : parseV L = none := by
  rcases h with ⟨_, _, h1, h2⟩ | ⟨h1, _⟩
  · rw [hl, split_at hn] at h1
    have := split_len 46 b
    unfold parseV; rw [if_neg (by simp at h1; omega)]
  · omega

theorem parse_few {L l : List UInt8} {k m : Nat} (hk : k < 3) (h : ParseAt L l k m) (hn : 46 ∉ l) : parseV L = none := by
  rcases h with ⟨_, _, h1, h2⟩ | ⟨h1, _⟩
  · rw [split_none hn] at h1
    unfold parseV; rw [if_neg (by simp at h1; omega)]
  · omega

theorem parse_bd {L l : List UInt8} {k m : Nat} (hk : k < 4) (h : ParseAt L l k m) : m < 16777216 := by
  rcases h with ⟨_, h1, _, _⟩ | ⟨h1, _⟩
  · have : 256 ^ k ≤ 256 ^ 3 := Nat.pow_le_pow_right (by decide) (by omega)
    omega
  · omega

theorem parse_step {L l a b : List UInt8} {k m : Nat} (hk : k < 3) (h : ParseAt L l k m) (hl : l = a ++ 46 :: b) (hn : 46 ∉ a) (hb : numB a 255 = true) : ParseAt L b (k + 1) (m * 256 + valN a) := by
  rcases h with ⟨_, h0, h1, h2⟩ | ⟨h1, _⟩
  · have hv := numB_le hb
    rw [hl, split_at hn] at h1 h2
    rw [accP, hb] at h2
    refine .inl ⟨by omega, ?_, by simp at h1; omega, h2⟩
    rw [Nat.pow_succ]; omega
  · omega

theorem parse_end {L l : List UInt8} {m : Nat} (h : ParseAt L l 3 m) (hn : 46 ∉ l) (hb : numB l 255 = true) : ParseAt L [] 4 (m * 256 + valN l) := by
  rcases h with ⟨_, h0, h1, h2⟩ | ⟨h1, _⟩
  · rw [split_none hn] at h1 h2
    rw [accP, hb] at h2
    refine .inr ⟨rfl, ?_⟩
    unfold parseV; rw [if_pos (by simpa using h1), h2]; rfl
  · omega

theorem parse_any (s : ByteArray) (w : World) (hs : s.size ≤ 1000000) (hm : Max w) :
    Calls Tryz.prog 85 #[.string s] w fun e w' => e = parseE s.data.toList ∧ Ext w w' := by
  obtain ⟨L, hL⟩ : ∃ L, s.data.toList = L := ⟨_, rfl⟩
  rw [hL]
  generalize hE : parseE L = E
  have HE : Hid _ := hE
  have HL : Hid _ := hL
  clear hE hL
  have hbad : parseV L = none → E = .returned (.tuple #[.int .u32 0, .int .i64 2]) := fun h => by rw [← HE.out]; unfold parseE; rw [h]
  have hgood : ∀ m, parseV L = some m → E = .returned (.tuple #[.int .u32 m, .int .i64 0]) := fun m h => by rw [← HE.out]; unfold parseE; rw [h]
  have HB : Hid _ := hbad
  have HG : Hid _ := hgood
  clear hbad hgood
  go_enter Tryz.func85, Tryz.ntmps85
  go_wp2
  go_loopw [0, 4, 11] (fun t a i wr => ∃ (k m : Nat) (T : ByteArray), t = .string T ∧ a = .int .u32 m ∧ i = .int .i64 k ∧ k ≤ 4 ∧ T.size ≤ 1000000 ∧ Ext w wr ∧ Hid (ParseAt L T.data.toList k m)) (fun _ _ i _ => 4 - (intOf i).toNat)
  case atStart => exact ⟨0, 0, s, rfl, rfl, rfl, by omega, hs, Ext.refl _, by rw [HL.out]; exact parse_start L⟩
  case round =>
    obtain ⟨k, m, T, rfl, rfl, rfl, hk, hT, hx, HP⟩ := hrel
    by_cases hlt : k < 4
    · have hM := hm.later hx
      have hmb := parse_bd hlt HP.out
      rcases cut_text T 46 hT with ⟨A, B, h1, h2, hA, hB, c1⟩ | ⟨h2, c1⟩
      · cases hb : numB A.data.toList 255 with
        | false =>
          have c2 := fun w => number_bad A 255 hb (by omega) hA w
          obtain rfl := HB.out (parse_wrong hlt HP.out h1 h2 hb)
          clear h1 h2 hb HP
          go_wp2_with (first
            | (go_at_call 78; refine (c1 _ hM).mono ?_; rintro e w1 ⟨rfl, hx1⟩)
            | (go_at_call 104; refine (c2 _).mono ?_; rintro e w2 ⟨rfl, rfl⟩))
          go_ret2
          exact ⟨rfl, hx.trans hx1⟩
        | true =>
          have c2 := fun w => number_good A 255 hb (by omega) hA w
          have hv := numB_le hb
          obtain ⟨v, hvv⟩ : ∃ v, valN A.data.toList = v := ⟨_, rfl⟩
          simp only [hvv] at c2 hv
          by_cases h3 : k < 3
          · have HS : Hid (ParseAt L B.data.toList (k + 1) (m * 256 + v)) := by rw [← hvv]; exact parse_step h3 HP.out h1 h2 hb
            have h5 : decide ((k : Int) < 3) = true := decide_eq_true (by omega)
            have ho : bits .or .u32 ((m : Int) * 256) (v : Int) = (m : Int) * 256 + v := u32_or8' m v (by omega) (by omega) (by omega) (by omega)
            clear h1 h2 hb HP hvv
            go_wp2_with (first
            | (go_at_call 78; refine (c1 _ hM).mono ?_; rintro e w1 ⟨rfl, hx1⟩)
            | (go_at_call 104; refine (c2 _).mono ?_; rintro e w2 ⟨rfl, rfl⟩))
            go_roundw
            case rel => exact ⟨k + 1, m * 256 + v, B, rfl, by simp, by go_num, by omega, hB, hx.trans hx1, HS⟩
            case measure => simp [intOf]; omega
          · obtain rfl : k = 3 := by omega
            obtain rfl := HB.out (parse_many HP.out h1 h2)
            clear h1 h2 hb HP hvv h3
            go_wp2_with (first
            | (go_at_call 78; refine (c1 _ hM).mono ?_; rintro e w1 ⟨rfl, hx1⟩)
            | (go_at_call 104; refine (c2 _).mono ?_; rintro e w2 ⟨rfl, rfl⟩))
            go_ret2
            exact ⟨rfl, hx.trans hx1⟩
      · cases hb : numB T.data.toList 255 with
        | false =>
          have c2 := fun w => number_bad T 255 hb (by omega) hT w
          obtain rfl := HB.out (parse_wrong' hlt HP.out h2 hb)
          clear h2 hb HP
          go_wp2_with (first
            | (go_at_call 78; refine (c1 _ hM).mono ?_; rintro e w1 ⟨rfl, hx1⟩)
            | (go_at_call 104; refine (c2 _).mono ?_; rintro e w2 ⟨rfl, rfl⟩))
          go_ret2
          exact ⟨rfl, hx.trans hx1⟩
        | true =>
          have c2 := fun w => number_good T 255 hb (by omega) hT w
          have hv := numB_le hb
          obtain ⟨v, hvv⟩ : ∃ v, valN T.data.toList = v := ⟨_, rfl⟩
          simp only [hvv] at c2 hv
          by_cases h3 : k < 3
          · obtain rfl := HB.out (parse_few h3 HP.out h2)
            have h5 : decide ((k : Int) < 3) = true := decide_eq_true (by omega)
            clear h2 hb HP hvv
            go_wp2_with (first
            | (go_at_call 78; refine (c1 _ hM).mono ?_; rintro e w1 ⟨rfl, hx1⟩)
            | (go_at_call 104; refine (c2 _).mono ?_; rintro e w2 ⟨rfl, rfl⟩))
            go_ret2
            exact ⟨rfl, hx.trans hx1⟩
          · obtain rfl : k = 3 := by omega
            have HS : Hid (ParseAt L (ByteArray.mk #[]).data.toList 4 (m * 256 + v)) := by rw [← hvv]; exact parse_end HP.out h2 hb
            have ho : bits .or .u32 ((m : Int) * 256) (v : Int) = (m : Int) * 256 + v := u32_or8' m v (by omega) (by omega) (by omega) (by omega)
            clear h2 hb HP h3 hvv
            go_wp2_with (first
            | (go_at_call 78; refine (c1 _ hM).mono ?_; rintro e w1 ⟨rfl, hx1⟩)
            | (go_at_call 104; refine (c2 _).mono ?_; rintro e w2 ⟨rfl, rfl⟩))
            go_roundw
            case rel => exact ⟨4, m * 256 + v, ⟨#[]⟩, rfl, by simp, rfl, Nat.le_refl _, by decide, hx.trans hx1, HS⟩
            case measure => simp [intOf]
    · obtain rfl : k = 4 := by omega
      have hp : parseV L = some m := by
        rcases HP.out with ⟨h1, _⟩ | ⟨_, h1⟩
        · omega
        · exact h1
      obtain rfl := HG.out m hp
      clear hp HP hlt
      go_wp2
      go_ret2
      exact ⟨rfl, hx⟩
end Go.Proofs.YtbmmgjmmooakpaaGreatDoor
