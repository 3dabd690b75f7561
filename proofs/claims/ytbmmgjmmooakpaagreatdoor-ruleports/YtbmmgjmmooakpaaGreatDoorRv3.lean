/- The document's words of a text. -/
import Derived.Test.YtbmmgjmmooakpaaGreatDoorRv1
import Derived.Deep.LoopGhost
namespace Go.Proofs.YtbmmgjmmooakpaaGreatDoor.Ru
open Go.RowKit
set_option linter.unusedVariables false
set_option maxRecDepth 100000

theorem word_step {L : List UInt8} {k e : Nat} (hk : k ≤ e) (he : e ≤ L.length) (hX : 32 ∉ (L.drop k).take (e - k)) (hE : e = L.length ∨ L[e]? = some 32) :
    wordsL (L.drop k) = (if k < e then [(L.drop k).take (e - k)] else []) ++ wordsL (L.drop (e + 1)) := by
  have h1 : L.drop k = (L.drop k).take (e - k) ++ L.drop e := by
    have := (List.take_append_drop (e - k) (L.drop k)).symm
    rwa [List.drop_drop, show k + (e - k) = e by omega] at this
  have hl : ((L.drop k).take (e - k)).length = e - k := by simp; omega
  generalize (L.drop k).take (e - k) = X at *
  rw [h1]
  rcases hE with hE | hE
  · have h2 : L.drop e = [] := List.drop_of_length_le (by omega)
    have h3 : L.drop (e + 1) = [] := List.drop_of_length_le (by omega)
    rw [h2, h3, List.append_nil, words_nil, List.append_nil]
    split
    · exact words_one hX (by rintro rfl; simp at hl; omega)
    · have : X = [] := List.eq_nil_of_length_eq_zero (by omega)
      rw [this]; rfl
  · have hlt : e < L.length := by
      rcases Nat.lt_or_ge e L.length with h | h
      · exact h
      · rw [List.getElem?_eq_none h] at hE; cases hE
    have h2 : L.drop e = 32 :: L.drop (e + 1) := by
      rw [List.drop_eq_getElem_cons hlt]
      rw [List.getElem?_eq_getElem hlt] at hE
      rw [Option.some.inj hE]
    rw [h2]
    split
    · exact words_at hX (by rintro rfl; simp at hl; omega)
    · have : X = [] := List.eq_nil_of_length_eq_zero (by omega)
      rw [this]; exact words_blank _

theorem word_more {L : List UInt8} {k e : Nat} (hk : k ≤ e) (he : e < L.length) (hX : 32 ∉ (L.drop k).take (e - k)) (hE : L[e] ≠ 32) : 32 ∉ (L.drop k).take (e + 1 - k) := by
  rw [take_step L k e hk he]
  simp only [List.mem_append, List.mem_singleton, not_or]
  exact ⟨hX, fun h => hE h.symm⟩

set_option maxHeartbeats 2000000 in
theorem rwords_any (s : ByteArray) (w : World) (hs : s.size ≤ 1000000) :
    Calls Tryz.prog 21 #[.string s] w fun e w' => ∃ v, e = .returned v ∧ w'.ownsRow w.heap.size 9 1 v (wordsL s.data.toList).length ((wordsL s.data.toList).map textV) ∧ Ext w w' := by
  have hl := text_len s
  obtain ⟨L, hL⟩ : ∃ L, s.data.toList = L := ⟨_, rfl⟩
  rw [hL] at hl ⊢
  have hat : ∀ k (h : k < s.size), L[k]? = some (s[k]'h) := fun k h => by rw [← hL]; exact text_at? s k h
  have hex : ∀ f k, k ≤ s.size → f ≤ k → s.extract f k = ⟨((L.drop f).take (k - f)).toArray⟩ := fun f k h1 h2 => by rw [← hL]; exact extract_text s f k h1 h2
  have HA : Hid _ := hat
  have HX : Hid _ := hex
  have HL : Hid _ := hl
  clear hat hex hL hl
  obtain ⟨i0, hi, hz0, hz1, hz2⟩ := info_text
  have HI : Hid _ := hi
  clear hi
  go_enter Tryz.func21, Tryz.ntmps21
  go_wp2_with fail
  go_loopg [3, 4] (s.size + 2) (fun r v i wr => ∃ (k : Nat) (P : List (List UInt8)), i = .int .i64 k ∧ k ≤ s.size + 1 ∧ P.length ≤ k ∧ wr.ownsRow w.heap.size 9 1 v P.length (P.map textV) ∧ Ext w wr ∧ Hid (wordsL L = P ++ wordsL (L.drop k) ∧ r = s.size + 2 - k))
  case atStart => exact ⟨0, [], rfl, Nat.zero_le _, Nat.le_refl _, by simpa using World.ownsRow_nil _ _ _ _, Ext.refl _, (⟨rfl, rfl⟩ : wordsL L = [] ++ wordsL (L.drop 0) ∧ s.size + 2 = s.size + 2 - 0)⟩
  case round =>
    obtain ⟨k, P, rfl, hk, hp, hown, hx, HP⟩ := hrel
    by_cases hlt : k < s.size
    · go_wp2_with fail
      go_loopg [5] (s.size + 1 - k) (fun r i wq => ∃ e : Nat, i = .int .i64 e ∧ k ≤ e ∧ e ≤ s.size ∧ wq = wr ∧ Hid (32 ∉ (L.drop k).take (e - k) ∧ r = s.size + 1 - e))
      case atStart => exact ⟨k, rfl, Nat.le_refl _, by omega, rfl, (⟨by simp, rfl⟩ : 32 ∉ (L.drop k).take (k - k) ∧ s.size + 1 - k = s.size + 1 - k)⟩
      case round =>
        obtain ⟨e, rfl, hke, hes, hw, HQ⟩ := hrel
        obtain rfl := hw
        by_cases he : e < s.size
        · obtain ⟨d, hd⟩ : ∃ d : Nat, (s[e]'he).toNat = d := ⟨_, rfl⟩
          have hel : e < L.length := by rw [HL.out]; exact he
          by_cases hc : d = 32
          · have hLe : L[e]? = some 32 := by
              rw [HA.out e he]; congr 1; exact UInt8.toNat_inj.1 (by rw [hd, hc]; rfl)
            have hS := word_step hke (by rw [HL.out]; exact hes) HQ.out.1 (.inr hLe)
            subst hc
            clear hLe hel
            by_cases hgt : e ≤ k
            · obtain rfl : e = k := by omega
              have hn : wordsL L = P ++ wordsL (L.drop (e + 1)) := by
                rw [HP.out.1, hS, if_neg (by omega)]; rfl
              have HN : Hid (wordsL L = P ++ wordsL (L.drop (e + 1))) := hn
              clear hn
              clear hS
              go_wp2_with fail
              go_roundg (s.size + 2 - (e + 1))
              case measure => have := HP.out.2; omega
              case rel => exact ⟨e + 1, P, by go_num, by omega, by omega, hown, hx, HN.out, rfl⟩
            · have hlt2 : k < e := by omega
              obtain ⟨E, hE⟩ : ∃ E, s.extract k e = E := ⟨_, rfl⟩
              have HS : Hid (Value.string E = textV ((L.drop k).take (e - k))) := by rw [← hE, HX.out k e hes hke]; rfl
              have ho := hown.alloc (.cells #[.string E] 9)
              have hu : (wr.alloc (.cells #[.string E] 9)).cell? ⟨wr.heap.size, 0, none⟩ = some (.string E) := by rw [heap_cell (heap_new wr (.cells #[.string E] 9))]; rfl
              have hxa : Ext w (wr.alloc (.cells #[.string E] 9)) := hx.alloc _
              have HU : Hid _ := hu
              have hn : wordsL L = (P ++ [(L.drop k).take (e - k)]) ++ wordsL (L.drop (e + 1)) := by
                rw [HP.out.1, hS, if_pos hlt2, List.append_assoc]
              have HN : Hid (wordsL L = (P ++ [(L.drop k).take (e - k)]) ++ wordsL (L.drop (e + 1))) := hn
              clear hn
              clear hown hu hS
              go_wp2_with (at_builtin; refine append_one rfl (.tmp 26) (.tmp 31) 43 rfl w.heap.size 9 i0 (.string ⟨#[]⟩) 16 Tryz.underlying43 HI.out hz0 hz1 hz2 rfl _ _ _ rfl ho wr.heap.size 1 (.string E) rfl HU.out rfl (by unfold maxLen; omega) (by omega) hxa.size ?_; intro v' w1 hown' hgrow)
              have hx1 := grown_ext hxa ho hgrow
              clear HU ho hgrow hxa
              go_wp2_with fail
              go_roundg (s.size + 2 - (e + 1))
              case measure => have := HP.out.2; omega
              case rel => exact ⟨e + 1, P ++ [(L.drop k).take (e - k)], by go_num, by omega, by simp; omega, by rw [HS.out] at hown'; simpa using hown', hx1, HN.out, rfl⟩
          · have hne : ((d : Int) == 32) = false := by rw [beq_eq_false_iff_ne]; omega
            have hne2 : ((d : Int) != 32) = true := by unfold bne; rw [hne]; rfl
            have HM : Hid (32 ∉ (L.drop k).take (e + 1 - k)) := word_more hke hel HQ.out.1 (fun h => by
              have h1 := HA.out e he
              rw [List.getElem?_eq_getElem hel] at h1
              rw [← Option.some.inj h1, h] at hd
              exact hc hd.symm)
            clear hc hel
            go_wp2_with fail
            go_roundg (s.size + 1 - (e + 1))
            case measure => have := HQ.out.2; omega
            case rel => exact ⟨e + 1, by go_num, by omega, by omega, rfl, HM.out, rfl⟩
        · obtain rfl : e = s.size := by omega
          have hS := word_step hke (by rw [HL.out]; exact hes) HQ.out.1 (.inl HL.out.symm)
          have hgt : ¬ s.size ≤ k := by omega
          have hlt2 : k < s.size := by omega
          obtain ⟨E, hE⟩ : ∃ E, s.extract k s.size = E := ⟨_, rfl⟩
          have HS : Hid (Value.string E = textV ((L.drop k).take (s.size - k))) := by rw [← hE, HX.out k s.size hes hke]; rfl
          have ho := hown.alloc (.cells #[.string E] 9)
          have hu : (wr.alloc (.cells #[.string E] 9)).cell? ⟨wr.heap.size, 0, none⟩ = some (.string E) := by rw [heap_cell (heap_new wr (.cells #[.string E] 9))]; rfl
          have hxa : Ext w (wr.alloc (.cells #[.string E] 9)) := hx.alloc _
          have HU : Hid _ := hu
          have hn : wordsL L = (P ++ [(L.drop k).take (s.size - k)]) ++ wordsL (L.drop (s.size + 1)) := by
            rw [HP.out.1, hS, if_pos hlt2, List.append_assoc]
          have HN : Hid (wordsL L = (P ++ [(L.drop k).take (s.size - k)]) ++ wordsL (L.drop (s.size + 1))) := hn
          clear hn
          clear hown hu hS
          go_wp2_with (at_builtin; refine append_one rfl (.tmp 26) (.tmp 31) 43 rfl w.heap.size 9 i0 (.string ⟨#[]⟩) 16 Tryz.underlying43 HI.out hz0 hz1 hz2 rfl _ _ _ rfl ho wr.heap.size 1 (.string E) rfl HU.out rfl (by unfold maxLen; omega) (by omega) hxa.size ?_; intro v' w1 hown' hgrow)
          have hx1 := grown_ext hxa ho hgrow
          clear HU ho hgrow hxa
          go_wp2_with fail
          go_roundg (s.size + 2 - (s.size + 1))
          case measure => have := HP.out.2; omega
          case rel => exact ⟨s.size + 1, P ++ [(L.drop k).take (s.size - k)], by go_num, by omega, by simp; omega, by rw [HS.out] at hown'; simpa using hown', hx1, HN.out, rfl⟩
    · have hk2 : L.drop k = [] := List.drop_of_length_le (by rw [HL.out]; omega)
      have hP : P = wordsL L := by rw [HP.out.1, hk2, words_nil, List.append_nil]
      subst hP
      clear HP hk2
      go_wp2_with fail
      go_ret
      exact ⟨_, rfl, hown, hx⟩
end Go.Proofs.YtbmmgjmmooakpaaGreatDoor.Ru
