/- The document's reading of addresses (castellanref3.Parse, ParsePrefix), for every text of at most 1000000 bytes. -/
import Derived.Test.YtbmmgjmmooakpaaGreatDoorRefP
namespace Go.Proofs.YtbmmgjmmooakpaaGreatDoor
set_option maxRecDepth 100000
open Go.RowKit
set_option linter.unusedVariables false

theorem split_part_le (c : UInt8) : ∀ (l p : List UInt8), p ∈ splitL c l → p.length ≤ l.length
  | [], p, h => by simp [splitL] at h; subst h; simp
  | x :: l, p, h => by
    rw [splitL] at h
    split at h
    · rcases List.mem_cons.1 h with rfl | h
      · simp
      · have := split_part_le c l p h; simp; omega
    · split at h
      · simp at h; subst h; simp
      · rename_i q r e
        rcases List.mem_cons.1 h with rfl | h
        · have := split_part_le c l q (by rw [e]; simp); simp; omega
        · have := split_part_le c l p (by rw [e]; simp [h]); simp; omega

theorem owns_texts {w : World} {base : Nat} {v : Value} {n : Nat} {P : List (List UInt8)} (h : w.ownsRow base 9 1 v n (P.map textV)) (hn : 0 < n) :
    ∃ g cap, v = .slice (some ⟨g, 0, none⟩) n cap ∧ Texts w g n P ∧ n ≤ cap := by
  obtain ⟨hl, h⟩ := h
  simp only [List.length_map, Nat.mul_one] at hl
  rcases h with ⟨rfl, rfl⟩ | ⟨g, cap, cur, rfl, hb, hg, hn', hm, hcs, hc⟩
  · omega
  · refine ⟨g, cap, rfl, ⟨hl, fun i hi => ?_⟩, hn'⟩
    have hi' : i < P.length := by omega
    have e2 : cur.toList[i]? = some (textV (P[i]?.getD [])) := by
      have e3 : (cur.toList.take (n * 1))[i]? = (P.map textV)[i]? := by rw [hc]
      rw [List.getElem?_take, if_pos (by omega)] at e3
      rw [e3]; simp [hi']
    have e4 : cur[i]? = some (textV (P[i]?.getD [])) := by simpa using e2
    simp [World.cell?, hg, e4]

theorem split_texts (s : ByteArray) (c : UInt8) (w : World) (hs : s.size ≤ 1000000) :
    Calls Tryz.prog 29 #[.string s, .int .u8 c.toNat] w fun e w' => ∃ g cap, e = .returned (.slice (some ⟨g, 0, none⟩) (splitL c s.data.toList).length cap) ∧ Texts w' g (splitL c s.data.toList).length (splitL c s.data.toList) ∧ Ext w w' := by
  refine (split_any s c w hs).mono ?_
  rintro e w' ⟨v, rfl, hown, hx⟩
  obtain ⟨g, cap, rfl, ht, _⟩ := owns_texts hown (split_len _ _)
  exact ⟨g, cap, rfl, ht, hx⟩

/-- A part as a text. -/
theorem part_text {s : ByteArray} {c : UInt8} {w : World} {g n : Nat} {P : List (List UInt8)} (hs : s.size ≤ 1000000) (hP : P = splitL c s.data.toList) (ht : Texts w g n P) {k : Nat} (hk : k < n) :
    ∃ A : ByteArray, w.cell? ⟨g, k, none⟩ = some (.string A) ∧ P[k]? = some A.data.toList ∧ A.size ≤ 1000000 := by
  have hk' : k < P.length := by rw [ht.1]; exact hk
  have h1 := ht.2 k hk
  rw [List.getElem?_eq_getElem hk'] at h1
  refine ⟨⟨P[k].toArray⟩, h1, by rw [List.getElem?_eq_getElem hk'], ?_⟩
  have h2 : P[k].length ≤ s.data.toList.length := split_part_le c _ _ (by rw [← hP]; exact List.getElem_mem hk')
  rw [text_len] at h2
  show P[k].toArray.size ≤ _
  simp
  omega

theorem accP_step {P : List (List UInt8)} {k m : Nat} {A : ByteArray} (h : P[k]? = some A.data.toList) : accP (P.drop k) m = if numB A.data.toList 255 then accP (P.drop (k + 1)) (m * 256 + valN A.data.toList) else none := by
  obtain ⟨hk, e⟩ := List.getElem?_eq_some_iff.1 h
  rw [List.drop_eq_getElem_cons hk, accP, e]

theorem refNum_good (A : ByteArray) (top : Nat) (h : numB A.data.toList top = true) (ht : top ≤ 1000000) (hs : A.size ≤ 1000000) (w : World) :
    Calls Tryz.prog 63 #[.string A, .int .i64 top] w fun e w' => e = .returned (.tuple #[.int .i64 (valN A.data.toList : Nat), .bool true]) ∧ w' = w := by
  refine (refNum_any A top w (by omega) (by omega) hs).mono ?_
  rintro e w' ⟨⟨v, rfl, hv⟩, rfl⟩
  rw [Int.toNat_natCast, h] at hv ⊢
  rw [hv rfl]
  exact ⟨rfl, rfl⟩

theorem refNum_bad (A : ByteArray) (top : Nat) (h : numB A.data.toList top = false) (ht : top ≤ 1000000) (hs : A.size ≤ 1000000) (w : World) :
    Calls Tryz.prog 63 #[.string A, .int .i64 top] w fun e w' => (∃ v, e = .returned (.tuple #[.int .i64 v, .bool false])) ∧ w' = w := by
  refine (refNum_any A top w (by omega) (by omega) hs).mono ?_
  rintro e w' ⟨⟨v, rfl, hv⟩, rfl⟩
  rw [Int.toNat_natCast, h] at hv ⊢
  exact ⟨⟨v, rfl⟩, rfl⟩

theorem refParse_any (s : ByteArray) (w : World) (hs : s.size ≤ 1000000) :
    Calls Tryz.prog 86 #[.string s] w fun e w' => e = parseE s.data.toList ∧ Ext w w' := by
  have c1 := fun w => split_texts s 46 w hs
  obtain ⟨P, hP⟩ : ∃ P, splitL 46 s.data.toList = P := ⟨_, rfl⟩
  have hbad : parseV s.data.toList = none → parseE s.data.toList = .returned (.tuple #[.int .u32 0, .int .i64 2]) := fun h => by unfold parseE; rw [h]
  have hgood : ∀ m, parseV s.data.toList = some m → parseE s.data.toList = .returned (.tuple #[.int .u32 m, .int .i64 0]) := fun m h => by unfold parseE; rw [h]
  have hpv : parseV s.data.toList = if P.length = 4 then accP P 0 else none := by unfold parseV; rw [hP]
  rw [hP] at c1
  generalize parseE s.data.toList = E at *
  by_cases h4 : P.length = 4
  · rw [if_pos h4] at hpv
    rw [hpv] at hbad hgood
    rw [h4] at c1
    have HB : Hid _ := hbad
    have HG : Hid _ := hgood
    have HP : Hid _ := hP
    have H4 : Hid _ := h4
    clear hbad hgood hpv hP h4
    go_enter Tryz.func86, Tryz.ntmps86
    go_wp2_with (go_at_call 29; refine (c1 _).mono ?_; rintro e w1 ⟨g, cap, rfl, ht, hx⟩; clear c1)
    have HT : Hid _ := ht
    clear ht
    go_loop [5, 6] (fun a i => ∃ k m : Nat, a = .int .u32 m ∧ i = .int .i64 k ∧ k ≤ 4 ∧ Hid (m < 256 ^ k ∧ accP P 0 = accP (P.drop k) m)) (fun _ i => 4 - (intOf i).toNat)
    case atStart => exact ⟨0, 0, rfl, rfl, by omega, by decide, by simp⟩
    case round =>
      obtain ⟨k, m, rfl, rfl, hk, HK⟩ := hrel
      by_cases hlt : k < 4
      · obtain ⟨A, hA, hPk, hAs⟩ := part_text hs HP.out.symm HT.out hlt
        have hst := accP_step (m := m) hPk
        have hmb : m < 16777216 := by
          have h1 := HK.out.1
          have : 256 ^ k ≤ 256 ^ 3 := Nat.pow_le_pow_right (by decide) (by omega)
          omega
        cases hb : numB A.data.toList 255 with
        | false =>
          have c2 := fun w => refNum_bad A 255 hb (by omega) hAs w
          rw [hb] at hst
          obtain rfl := HB.out (HK.out.2.trans hst)
          clear hst hb hPk HK
          go_wp2_with (go_at_call 63; refine (c2 _).mono ?_; rintro e w2 ⟨⟨v, rfl⟩, rfl⟩)
          go_ret2
          exact ⟨rfl, hx⟩
        | true =>
          have c2 := fun w => refNum_good A 255 hb (by omega) hAs w
          have hv := numB_le hb
          rw [hb] at hst
          obtain ⟨v, hvv⟩ : ∃ v, valN A.data.toList = v := ⟨_, rfl⟩
          simp only [hvv] at c2 hv hst
          have HS : Hid (m * 256 + v < 256 ^ (k + 1) ∧ accP P 0 = accP (P.drop (k + 1)) (m * 256 + v)) := ⟨by have h1 := HK.out.1; rw [Nat.pow_succ]; omega, HK.out.2.trans (by simpa using hst)⟩
          have ho : bits .or .u32 ((m : Int) * 256) (v : Int) = (m : Int) * 256 + v := u32_or8' m v (by omega) (by omega) (by omega) (by omega)
          clear hst hb hPk HK hvv
          go_wp2_with (go_at_call 63; refine (c2 _).mono ?_; rintro e w2 ⟨rfl, rfl⟩)
          go_round
          case rel => exact ⟨k + 1, m * 256 + v, by simp, by go_num, by omega, HS⟩
          case measure => simp [intOf]; omega
      · obtain rfl : k = 4 := by omega
        have h1 := HK.out.2
        rw [List.drop_of_length_le (by rw [H4.out]; exact Nat.le_refl _)] at h1
        obtain rfl := HG.out m h1
        clear h1 HK hlt
        go_wp2
        go_ret2
        exact ⟨rfl, hx⟩
  · rw [if_neg h4] at hpv
    obtain rfl := hbad hpv
    clear hgood hpv hP hbad
    obtain ⟨n, hn⟩ : ∃ n, P.length = n := ⟨_, rfl⟩
    rw [hn] at h4 c1
    have hne : ((n : Int) == 4) = false := by rw [beq_eq_false_iff_ne]; omega
    clear hn h4
    go_enter Tryz.func86, Tryz.ntmps86
    go_wp2_with (go_at_call 29; refine (c1 _).mono ?_; rintro e w1 ⟨g, cap, rfl, ht, hx⟩; clear c1 ht)
    go_ret2
    exact ⟨rfl, hx⟩

/-- A prefix out of its parts. -/
def ofParts (P : List (List UInt8)) : Option (Nat × Nat) :=
  match P with
  | [t] => (parseV t).map fun a => (a, 32)
  | [t, b] => if numB b 32 then (parseV t).map fun a => (a, valN b) else none
  | _ => none

theorem ofParts_one (t : List UInt8) : ofParts [t] = (parseV t).map fun a => (a, 32) := rfl

theorem ofParts_two (t b : List UInt8) : ofParts [t, b] = if numB b 32 then (parseV t).map fun a => (a, valN b) else none := rfl

theorem parsePV_parts (l : List UInt8) : parsePV l = ofParts (splitL 47 l) := rfl

theorem refParsePrefix_any (s : ByteArray) (w : World) (hs : s.size ≤ 1000000) :
    Calls Tryz.prog 62 #[.string s] w fun e w' => e = parsePE s.data.toList ∧ Ext w w' := by
  have hx0 : Ext w (w.alloc (.cells #[.int .u32 0, .int .i64 0] 24)) := (Ext.refl w).alloc _
  have hh := heap_new w (.cells #[.int .u32 0, .int .i64 0] 24)
  have HH : Hid _ := hh
  clear hh
  have c1 := fun w => split_texts s 47 w hs
  obtain ⟨P, hP⟩ : ∃ P, splitL 47 s.data.toList = P := ⟨_, rfl⟩
  have hlen := split_len 47 s.data.toList
  have hpv : parsePV s.data.toList = ofParts P := by rw [parsePV_parts, hP]
  have hbad : parsePV s.data.toList = none → parsePE s.data.toList = .returned (.tuple #[.agg #[.int .u32 0, .int .i64 0], .int .i64 2]) := fun h => by unfold parsePE; rw [h]
  have hgood : ∀ a n, parsePV s.data.toList = some (a, n) → parsePE s.data.toList = .returned (.tuple #[.agg #[.int .u32 a, .int .i64 n], .int .i64 0]) := fun a n h => by unfold parsePE; rw [h]
  rw [hP] at c1 hlen
  generalize parsePE s.data.toList = E at *
  generalize parsePV s.data.toList = R at *
  have HP : Hid _ := hP
  clear hP
  by_cases h1 : P.length = 1
  · rw [h1] at c1
    obtain ⟨x, rfl⟩ : ∃ x, P = [x] := List.length_eq_one_iff.1 h1
    clear h1 hlen
    go_enter Tryz.func62, Tryz.ntmps62
    go_wp2_with (go_at_call 29; refine (c1 _).mono ?_; rintro e w1 ⟨g, cap, rfl, ht, hx1⟩; clear c1; obtain ⟨A, hA, hPA, hAs⟩ := part_text hs HP.out.symm ht (k := 0) (by omega))
    obtain rfl : x = A.data.toList := by simpa using hPA
    rw [ofParts_one] at hpv
    clear ht hPA HP
    cases hq : parseV A.data.toList with
    | none =>
      have c2 := fun w => refParse_any A w hAs
      rw [show parseE A.data.toList = .returned (.tuple #[.int .u32 0, .int .i64 2]) by unfold parseE; rw [hq]] at c2
      obtain rfl := hbad (by rw [hpv, hq]; rfl)
      clear hpv hbad hgood hq
      go_wp2_with (first | (go_at_call 86; refine (c2 _).mono ?_; rintro e w2 ⟨rfl, hx2⟩; have k2 := Ext.heap (Ext.trans hx1 hx2) HH.out; have K2 : Hid _ := k2; obtain ⟨d0, d1, f0, f1⟩ := cells_two k2; clear k2))
      obtain ⟨e0, e1⟩ := set_two K2.out (.int .u32 0) (.int .i64 0)
      exact bodyPost_ret (v := .tuple #[.agg #[.int .u32 0, .int .i64 0], .int .i64 2]) (by simp [results, Tryz.results62, go_sem, e0, e1]) rfl ⟨rfl, ext_set2 (Ext.trans hx0 (Ext.trans hx1 hx2)) _ _⟩
    | some a =>
      have c2 := fun w => refParse_any A w hAs
      rw [show parseE A.data.toList = .returned (.tuple #[.int .u32 a, .int .i64 0]) by unfold parseE; rw [hq]] at c2
      have hab := parseV_bd hq
      obtain rfl := hgood a 32 (by rw [hpv, hq]; rfl)
      clear hpv hbad hgood hq
      go_wp2_with (first | (go_at_call 86; refine (c2 _).mono ?_; rintro e w2 ⟨rfl, hx2⟩; have k2 := Ext.heap (Ext.trans hx1 hx2) HH.out; have K2 : Hid _ := k2; obtain ⟨d0, d1, f0, f1⟩ := cells_two k2; clear k2))
      obtain ⟨e0, e1⟩ := set_two K2.out (.int .u32 a) (.int .i64 32)
      exact bodyPost_ret (v := .tuple #[.agg #[.int .u32 a, .int .i64 32], .int .i64 0]) (by simp [results, Tryz.results62, go_sem, e0, e1]) rfl ⟨rfl, ext_set2 (Ext.trans hx0 (Ext.trans hx1 hx2)) _ _⟩
  by_cases h2 : P.length = 2
  · rw [h2] at c1
    obtain ⟨x, y, rfl⟩ : ∃ x y, P = [x, y] := by
      match P, h2 with
      | [x, y], _ => exact ⟨x, y, rfl⟩
    clear h1 h2 hlen
    go_enter Tryz.func62, Tryz.ntmps62
    go_wp2_with (go_at_call 29; refine (c1 _).mono ?_; rintro e w1 ⟨g, cap, rfl, ht, hx1⟩; clear c1; obtain ⟨A, hA, hPA, hAs⟩ := part_text hs HP.out.symm ht (k := 0) (by omega); obtain ⟨B, hB, hPB, hBs⟩ := part_text hs HP.out.symm ht (k := 1) (by omega))
    obtain rfl : x = A.data.toList := by simpa using hPA
    obtain rfl : y = B.data.toList := by simpa using hPB
    rw [ofParts_two] at hpv
    clear ht hPA hPB HP
    cases hn : numB B.data.toList 32 with
    | false =>
      have c3 := fun w => refNum_bad B 32 hn (by omega) hBs w
      obtain rfl := hbad (by rw [hpv, hn]; rfl)
      cases hq : parseV A.data.toList with
      | none =>
        have c2 := fun w => refParse_any A w hAs
        rw [show parseE A.data.toList = .returned (.tuple #[.int .u32 0, .int .i64 2]) by unfold parseE; rw [hq]] at c2
        clear hpv hbad hgood hq hn
        go_wp2_with (first | (go_at_call 63; refine (c3 _).mono ?_; rintro e w3 ⟨⟨v, rfl⟩, rfl⟩) | (go_at_call 86; refine (c2 _).mono ?_; rintro e w2 ⟨rfl, hx2⟩; have k2 := Ext.heap (Ext.trans hx1 hx2) HH.out; have K2 : Hid _ := k2; obtain ⟨d0, d1, f0, f1⟩ := cells_two k2; clear k2))
        obtain ⟨e0, e1⟩ := set_two K2.out (.int .u32 0) (.int .i64 0)
        exact bodyPost_ret (v := .tuple #[.agg #[.int .u32 0, .int .i64 0], .int .i64 2]) (by simp [results, Tryz.results62, go_sem, e0, e1]) rfl ⟨rfl, ext_set2 (Ext.trans hx0 (Ext.trans hx1 hx2)) _ _⟩
      | some a =>
        have c2 := fun w => refParse_any A w hAs
        rw [show parseE A.data.toList = .returned (.tuple #[.int .u32 a, .int .i64 0]) by unfold parseE; rw [hq]] at c2
        have hab := parseV_bd hq
        clear hpv hbad hgood hq hn
        go_wp2_with (first | (go_at_call 63; refine (c3 _).mono ?_; rintro e w3 ⟨⟨v, rfl⟩, rfl⟩) | (go_at_call 86; refine (c2 _).mono ?_; rintro e w2 ⟨rfl, hx2⟩; have k2 := Ext.heap (Ext.trans hx1 hx2) HH.out; have K2 : Hid _ := k2; obtain ⟨d0, d1, f0, f1⟩ := cells_two k2; clear k2))
        obtain ⟨e0, e1⟩ := set_two K2.out (.int .u32 0) (.int .i64 0)
        exact bodyPost_ret (v := .tuple #[.agg #[.int .u32 0, .int .i64 0], .int .i64 2]) (by simp [results, Tryz.results62, go_sem, e0, e1]) rfl ⟨rfl, ext_set2 (Ext.trans hx0 (Ext.trans hx1 hx2)) _ _⟩
    | true =>
      have c3 := fun w => refNum_good B 32 hn (by omega) hBs w
      have hv := numB_le hn
      obtain ⟨v, hvv⟩ : ∃ v, valN B.data.toList = v := ⟨_, rfl⟩
      simp only [hvv] at c3 hv
      cases hq : parseV A.data.toList with
      | none =>
        have c2 := fun w => refParse_any A w hAs
        rw [show parseE A.data.toList = .returned (.tuple #[.int .u32 0, .int .i64 2]) by unfold parseE; rw [hq]] at c2
        obtain rfl := hbad (by rw [hpv, hn, hq]; rfl)
        clear hpv hbad hgood hq hn hvv
        go_wp2_with (first | (go_at_call 63; refine (c3 _).mono ?_; rintro e w3 ⟨rfl, rfl⟩) | (go_at_call 86; refine (c2 _).mono ?_; rintro e w2 ⟨rfl, hx2⟩; have k2 := Ext.heap (Ext.trans hx1 hx2) HH.out; have K2 : Hid _ := k2; obtain ⟨d0, d1, f0, f1⟩ := cells_two k2; clear k2))
        obtain ⟨e0, e1⟩ := set_two K2.out (.int .u32 0) (.int .i64 0)
        exact bodyPost_ret (v := .tuple #[.agg #[.int .u32 0, .int .i64 0], .int .i64 2]) (by simp [results, Tryz.results62, go_sem, e0, e1]) rfl ⟨rfl, ext_set2 (Ext.trans hx0 (Ext.trans hx1 hx2)) _ _⟩
      | some a =>
        have c2 := fun w => refParse_any A w hAs
        rw [show parseE A.data.toList = .returned (.tuple #[.int .u32 a, .int .i64 0]) by unfold parseE; rw [hq]] at c2
        have hab := parseV_bd hq
        obtain rfl := hgood a v (by rw [hpv, hn, hq, hvv]; rfl)
        clear hpv hbad hgood hq hn hvv
        go_wp2_with (first | (go_at_call 63; refine (c3 _).mono ?_; rintro e w3 ⟨rfl, rfl⟩) | (go_at_call 86; refine (c2 _).mono ?_; rintro e w2 ⟨rfl, hx2⟩; have k2 := Ext.heap (Ext.trans hx1 hx2) HH.out; have K2 : Hid _ := k2; obtain ⟨d0, d1, f0, f1⟩ := cells_two k2; clear k2))
        obtain ⟨e0, e1⟩ := set_two K2.out (.int .u32 a) (.int .i64 v)
        exact bodyPost_ret (v := .tuple #[.agg #[.int .u32 a, .int .i64 v], .int .i64 0]) (by simp [results, Tryz.results62, go_sem, e0, e1]) rfl ⟨rfl, ext_set2 (Ext.trans hx0 (Ext.trans hx1 hx2)) _ _⟩
  · obtain ⟨x, y, z, r, rfl⟩ : ∃ x y z r, P = x :: y :: z :: r := by
      match P, hlen, h1, h2 with
      | [], h, _, _ => simp at h
      | [_], _, h, _ => simp at h
      | [_, _], _, _, h => simp at h
      | x :: y :: z :: r, _, _, _ => exact ⟨x, y, z, r, rfl⟩
    obtain ⟨n, hn⟩ : ∃ n, (x :: y :: z :: r).length = n := ⟨_, rfl⟩
    rw [hn] at c1
    have hn3 : 3 ≤ n := by rw [← hn]; simp
    obtain rfl := hbad hpv
    clear h1 h2 hlen hpv hbad hgood hn
    go_enter Tryz.func62, Tryz.ntmps62
    go_wp2_with (go_at_call 29; refine (c1 _).mono ?_; rintro e w1 ⟨g, cap, rfl, ht, hx1⟩; clear c1; obtain ⟨A, hA, hPA, hAs⟩ := part_text hs HP.out.symm ht (k := 0) (by omega))
    clear ht hPA HP
    cases hq : parseV A.data.toList with
    | none =>
      have c2 := fun w => refParse_any A w hAs
      rw [show parseE A.data.toList = .returned (.tuple #[.int .u32 0, .int .i64 2]) by unfold parseE; rw [hq]] at c2
      clear hq
      go_wp2_with (first | (go_at_call 86; refine (c2 _).mono ?_; rintro e w2 ⟨rfl, hx2⟩; have k2 := Ext.heap (Ext.trans hx1 hx2) HH.out; have K2 : Hid _ := k2; obtain ⟨d0, d1, f0, f1⟩ := cells_two k2; clear k2))
      obtain ⟨e0, e1⟩ := set_two K2.out (.int .u32 0) (.int .i64 0)
      exact bodyPost_ret (v := .tuple #[.agg #[.int .u32 0, .int .i64 0], .int .i64 2]) (by simp [results, Tryz.results62, go_sem, e0, e1]) rfl ⟨rfl, ext_set2 (Ext.trans hx0 (Ext.trans hx1 hx2)) _ _⟩
    | some a =>
      have c2 := fun w => refParse_any A w hAs
      rw [show parseE A.data.toList = .returned (.tuple #[.int .u32 a, .int .i64 0]) by unfold parseE; rw [hq]] at c2
      have hab := parseV_bd hq
      clear hq
      go_wp2_with (first | (go_at_call 86; refine (c2 _).mono ?_; rintro e w2 ⟨rfl, hx2⟩; have k2 := Ext.heap (Ext.trans hx1 hx2) HH.out; have K2 : Hid _ := k2; obtain ⟨d0, d1, f0, f1⟩ := cells_two k2; clear k2))
      obtain ⟨e0, e1⟩ := set_two K2.out (.int .u32 0) (.int .i64 0)
      exact bodyPost_ret (v := .tuple #[.agg #[.int .u32 0, .int .i64 0], .int .i64 2]) (by simp [results, Tryz.results62, go_sem, e0, e1]) rfl ⟨rfl, ext_set2 (Ext.trans hx0 (Ext.trans hx1 hx2)) _ _⟩
end Go.Proofs.YtbmmgjmmooakpaaGreatDoor
