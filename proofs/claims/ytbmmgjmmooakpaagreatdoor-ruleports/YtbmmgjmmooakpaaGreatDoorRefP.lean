/- The document's reading of texts (castellanref3): a text's parts, an address and a prefix out of a text; a prefix as a text. -/
import Derived.Test.YtbmmgjmmooakpaaGreatDoorRefT
import Derived.Test.YtbmmgjmmooakpaaGreatDoorParseX
import Derived.Laws.DeepStrings4
namespace Go.Proofs.YtbmmgjmmooakpaaGreatDoor
set_option maxRecDepth 100000
open Go.RowKit
set_option linter.unusedVariables false

theorem refPrintPrefix_any (a n : Int) (w : World) (a0 : 0 ≤ a) (a1 : a ≤ 4294967295) :
    Calls Tryz.prog 73 #[.agg #[.int .u32 a, .int .i64 n]] w fun e w' => e = .returned (.string (printPB a n)) ∧ Ext w w' := by
  have c2 := fun w => refPrint_any a w a0 a1
  have zp := printB_size a
  unfold printPB
  generalize printB a = p at *
  by_cases g0 : n < 0
  · rw [if_pos (.inl g0)]
    go_enter Tryz.func73, Tryz.ntmps73
    go_wp2
    go_ret
    exact ⟨rfl, (Ext.refl w).alloc _⟩
  by_cases g1 : 32 < n
  · rw [if_pos (.inr g1)]
    have g2 : 0 ≤ n := by omega
    clear g0
    go_enter Tryz.func73, Tryz.ntmps73
    go_wp2
    go_ret
    exact ⟨rfl, (Ext.refl w).alloc _⟩
  · rw [if_neg (by omega)]
    have hn : 0 ≤ n ∧ n ≤ 32 := by omega
    have c3 := fun w => dec_any n w hn.1 (by omega)
    have zn := decB_size n (by omega)
    generalize decB n = d at *
    clear g0 g1
    obtain ⟨hx0, hb0, hb1⟩ := boxed2 w (.int .u32 a) (.int .i64 n) 24
    go_enter Tryz.func73, Tryz.ntmps73
    go_wp2
    refine wp_region_eager [(0, false), (1, false), (4, false), (5, false), (2, true), (3, false), (6, true), (7, false), (8, false)] (by kernel_rfl) (by kernel_rfl) rfl (by kernel_rfl) (fun _ _ _ _ _ h => h) ?_
    generalize (w.alloc (.cells #[.int .u32 a, .int .i64 n] 24)).drew = W at *
    have z47 : (ByteArray.mk #[47]).size = 1 := by decide
    have s1 := fun w => add_texts p ⟨#[47]⟩ (by omega) (by omega) w
    have s2 := fun w => add_texts (p ++ ⟨#[47]⟩) d (by rw [ByteArray.size_append]; omega) (by omega) w
    repeat (first
      | (refine wpE_read (v := ?_) rfl (by rfl) ?_ ?_; rotate_left; (focus (intro w' hx; go_simp; first | done | with_reducible rfl)); simp only [Act.put, List.setIfInBounds_toArray, List.set_cons_zero, List.set_cons_succ])
      | (refine wpE_call rfl (by rfl) (fun K hK => ?_); go_simp; first
          | (go_at_call 44; refine (c2 _).mono ?_; rintro e w1 ⟨rfl, hx1⟩; refine hK _ _ hx1 ?_; clear hK K; replace hb0 := fun w' h => hb0 w' (hx1.trans h); replace hb1 := fun w' h => hb1 w' (hx1.trans h); replace hx0 := hx0.trans hx1; clear hx1)
          | (go_at_call 22; refine (c3 _).mono ?_; rintro e w1 ⟨rfl, hx1⟩; refine hK _ _ hx1 ?_; clear hK K; replace hx0 := hx0.trans hx1; clear hx1)))
    refine wpE_done ?_
    go_wp2
    go_ret
    exact ⟨rfl, hx0⟩

theorem Tryz.infoText : (Tryz.prog.info? 9).map (fun i => (i.zero, i.size, i.bytes)) = some (some (.string ⟨#[]⟩), 1, 16) := by kernel_rfl

theorem info_text : ∃ i, Tryz.prog.info? 9 = some i ∧ i.zero = some (.string ⟨#[]⟩) ∧ i.size = 1 ∧ i.bytes = 16 := by
  obtain ⟨i, hi, h⟩ := Option.map_eq_some_iff.1 Tryz.infoText
  simp only [Prod.mk.injEq] at h
  exact ⟨i, hi, h⟩

/-- Texts as values. -/
def textV (p : List UInt8) : Value := .string ⟨p.toArray⟩

theorem extract_text (s : ByteArray) (f k : Nat) (h : k ≤ s.size) (hf : f ≤ k) : s.extract f k = ⟨((s.data.toList.drop f).take (k - f)).toArray⟩ := by
  apply ByteArray.ext
  rw [ByteArray.data_extract]
  apply Array.ext'
  simp

/-- One value more behind a row of the call's own. -/
theorem append_one {P : Program} {w : World} {ops : Array Oper} {rest : List Oper} {o : Oper} {a : Act} {Q : Exit → Act → World → Prop} (hgd : Region.wanted o (yielded ops a.tmps) = true) (s x : Operand) (t : TypeId)
    (ho : o.op = .call { callee := .builtin .append, args := #[s, x], argTypes := #[t, t] })
    (base : Nat) (e : TypeId) (i : TypeInfo) (z : Value) (bytes : Nat) (ht : P.underlying t = some (.slice e)) (hi : P.info? e = some i) (hz : i.zero = some z)
    (hsize : i.size = 1) (hby : i.bytes = bytes) (hzs : z.cells.size = 1)
    (v : Value) (n : Nat) (xs : List Value) (hs : a.eval s = v) (hown : w.ownsRow base e 1 v n xs)
    (g c : Nat) (u : Value) (hx : a.eval x = .slice (some ⟨g, 0, none⟩) 1 c) (hu : w.cell? ⟨g, 0, none⟩ = some u) (h1 : u.oneCell' = true)
    (hsm : n + 1 ≤ maxLen) (hb : (n + 1) * bytes ≤ 140737488355328) (hbase : base ≤ w.heap.size)
    (h : ∀ v' w', w'.ownsRow base e 1 v' (n + 1) (xs ++ [u]) → w.grownBy w' v.ownBlock → wpList P ops Q rest (a.put o.dst v') w') : wpList P ops Q (o :: rest) a w := by
  refine wpList_want hgd fun K hK => wp_append_own w s x t ho base e i z 1 bytes ht hi hz hsize hby hzs (by omega) v n xs hs hown ⟨g, 0, none⟩ 1 c [u] hx rfl ?_ ?_ hsm hb hbase ?_
  · intro j y hj
    match j, hj with
    | 0, hj =>
      obtain rfl : u = y := by simpa using hj
      simpa [Addr.add] using hu
    | j + 1, hj => simp at hj
  · intro y hy
    obtain rfl : y = u := by simpa using hy
    exact h1
  · intro v' w' h2 h3 _
    exact hK _ _ (h v' w' h2 h3)

/-- Where Split stands. -/
def SplitAt (c : UInt8) (L : List UInt8) (k f : Nat) (P : List (List UInt8)) : Prop :=
  (k ≤ L.length ∧ f ≤ k ∧ P.length ≤ f ∧ splitL c L = P ++ splitL c (L.drop f) ∧ c ∉ (L.drop f).take (k - f)) ∨ (k = L.length + 1 ∧ P = splitL c L)

theorem splitAt_start (c : UInt8) (L : List UInt8) : SplitAt c L 0 0 [] := .inl ⟨Nat.zero_le _, Nat.le_refl _, Nat.le_refl _, rfl, by simp⟩

theorem take_step (l : List UInt8) (f k : Nat) (hf : f ≤ k) (hk : k < l.length) : (l.drop f).take (k + 1 - f) = (l.drop f).take (k - f) ++ [l[k]] := by
  rw [show k + 1 - f = (k - f) + 1 by omega, List.take_succ_eq_append_getElem (by simp; omega)]
  congr 2
  simp
  congr 1
  omega

theorem splitAt_other {c : UInt8} {L : List UInt8} {k f : Nat} {P : List (List UInt8)} (hk : k < L.length) (h : SplitAt c L k f P) (hc : L[k] ≠ c) : SplitAt c L (k + 1) f P := by
  rcases h with ⟨h1, h2, h3, h4, h5⟩ | ⟨h1, _⟩
  · refine .inl ⟨by omega, by omega, h3, h4, ?_⟩
    rw [take_step L f k h2 hk]
    simp only [List.mem_append, List.mem_singleton, not_or]
    exact ⟨h5, fun e => hc e.symm⟩
  · omega

theorem splitAt_part {c : UInt8} {L : List UInt8} {k f : Nat} {P : List (List UInt8)} (hk : k < L.length) (h : SplitAt c L k f P) (hc : L[k] = c) : SplitAt c L (k + 1) (k + 1) (P ++ [(L.drop f).take (k - f)]) := by
  rcases h with ⟨h1, h2, h3, h4, h5⟩ | ⟨h1, _⟩
  · refine .inl ⟨by omega, by omega, by simp; omega, ?_, by simp⟩
    have e : L.drop f = (L.drop f).take (k - f) ++ c :: L.drop (k + 1) := by
      have e1 := (List.take_append_drop (k - f) (L.drop f)).symm
      rw [List.drop_drop, show f + (k - f) = k by omega, List.drop_eq_getElem_cons hk, hc] at e1
      exact e1
    rw [h4]
    conv => lhs; rw [e, split_at h5]
    simp
  · omega

theorem splitAt_end {c : UInt8} {L : List UInt8} {f : Nat} {P : List (List UInt8)} (h : SplitAt c L L.length f P) : SplitAt c L (L.length + 1) (L.length + 1) (P ++ [(L.drop f).take (L.length - f)]) := by
  rcases h with ⟨h1, h2, h3, h4, h5⟩ | ⟨h1, _⟩
  · refine .inr ⟨rfl, ?_⟩
    have e : (L.drop f).take (L.length - f) = L.drop f := List.take_of_length_le (by simp)
    rw [e] at h5 ⊢
    rw [h4, split_none h5]
  · omega

theorem splitAt_bd {c : UInt8} {L : List UInt8} {k f : Nat} {P : List (List UInt8)} (hk : k ≤ L.length) (h : SplitAt c L k f P) : f ≤ k ∧ P.length ≤ f := by
  rcases h with ⟨_, h2, h3, _⟩ | ⟨h1, _⟩
  · exact ⟨h2, h3⟩
  · omega

/-- Texts, one behind the other, in a block. -/
def Texts (w : World) (g n : Nat) (P : List (List UInt8)) : Prop := P.length = n ∧ ∀ i, i < n → w.cell? ⟨g, i, none⟩ = some (textV (P[i]?.getD []))

theorem Texts.later {w w' : World} {g n : Nat} {P : List (List UInt8)} (h : Texts w g n P) (hx : Ext w w') : Texts w' g n P :=
  ⟨h.1, fun i hi => by rw [hx.below.cell (p := ⟨g, i, none⟩) (block_lt (h.2 i hi))]; exact h.2 i hi⟩

theorem grown_ext {w wr w1 : World} {e : TypeId} {v : Value} {n : Nat} {ys : List Value} (hx : Ext w wr) (hown : wr.ownsRow w.heap.size e 1 v n ys) (hg : wr.grownBy w1 v.ownBlock) : Ext w w1 :=
  Below.grown hx hg hx.size fun k hk => (hown.lt k hk).1

theorem split_any (s : ByteArray) (c : UInt8) (w : World) (hs : s.size ≤ 1000000) :
    Calls Tryz.prog 29 #[.string s, .int .u8 c.toNat] w fun e w' => ∃ v, e = .returned v ∧ w'.ownsRow w.heap.size 9 1 v (splitL c s.data.toList).length ((splitL c s.data.toList).map textV) ∧ Ext w w' := by
  have hl := text_len s
  obtain ⟨L, hL⟩ : ∃ L, s.data.toList = L := ⟨_, rfl⟩
  rw [hL] at hl ⊢
  have hat : ∀ k (h : k < s.size), L[k]? = some (s[k]'h) := fun k h => by rw [← hL]; exact text_at? s k h
  have hex : ∀ f k, k ≤ s.size → f ≤ k → s.extract f k = ⟨((L.drop f).take (k - f)).toArray⟩ := fun f k h1 h2 => by rw [← hL]; exact extract_text s f k h1 h2
  have HA : Hid _ := hat
  have HX : Hid _ := hex
  have HL : Hid _ := hl
  clear hat hex hL hl
  obtain ⟨q, hq⟩ : ∃ q : Nat, c.toNat = q := ⟨_, rfl⟩
  rw [hq]
  have HQ : Hid _ := hq
  clear hq
  obtain ⟨i0, hi, hz0, hz1, hz2⟩ := info_text
  have HI : Hid _ := hi
  clear hi
  go_enter Tryz.func29, Tryz.ntmps29
  go_wp2
  go_loopw [5, 6, 7] (fun v fr i wr => ∃ (k f : Nat) (P : List (List UInt8)), i = .int .i64 k ∧ fr = .int .i64 f ∧ k ≤ s.size + 1 ∧ wr.ownsRow w.heap.size 9 1 v P.length (P.map textV) ∧ Ext w wr ∧ Hid (SplitAt c L k f P)) (fun _ _ i _ => s.size + 1 - (intOf i).toNat)
  case atStart => exact ⟨0, 0, [], rfl, rfl, Nat.zero_le _, by simpa using World.ownsRow_nil _ _ _ _, Ext.refl _, splitAt_start c L⟩
  case round =>
    obtain ⟨k, f, P, rfl, rfl, hk, hown, hx, HP⟩ := hrel
    by_cases hlt : k ≤ s.size
    · obtain ⟨hf, hp⟩ := splitAt_bd (by rw [HL.out]; exact hlt) HP.out
      have hbase := hx.size
      by_cases hke : k < s.size
      · obtain ⟨d, hd⟩ : ∃ d : Nat, (s[k]'hke).toNat = d := ⟨_, rfl⟩
        by_cases hc : d = q
        · obtain ⟨E, hE⟩ : ∃ E, s.extract f k = E := ⟨_, rfl⟩
          have hlk : k < L.length := by rw [HL.out]; exact hke
          have hck : L[k] = c := by
            have h1 := HA.out k hke
            rw [List.getElem?_eq_getElem hlk] at h1
            rw [Option.some.inj h1]
            exact UInt8.toNat_inj.1 (by rw [hd, HQ.out, hc])
          have HS : Hid (Value.string E = textV ((L.drop f).take (k - f))) := by rw [← hE, HX.out f k (by omega) hf]; rfl
          have HN : Hid (SplitAt c L (k + 1) (k + 1) (P ++ [(L.drop f).take (k - f)])) := splitAt_part hlk HP.out hck
          have hne : ((k : Int) == (s.size : Int)) = false := by rw [beq_eq_false_iff_ne]; omega
          subst hc
          have ho := hown.alloc (.cells #[.string E] 9)
          have hu : (wr.alloc (.cells #[.string E] 9)).cell? ⟨wr.heap.size, 0, none⟩ = some (.string E) := by rw [heap_cell (heap_new wr (.cells #[.string E] 9))]; rfl
          have hxa : Ext w (wr.alloc (.cells #[.string E] 9)) := hx.alloc _
          have HU : Hid _ := hu
          clear HP hown hck hlk hu
          go_wp2_with (at_builtin; refine append_one rfl (.tmp 25) (.tmp 30) 43 rfl w.heap.size 9 i0 (.string ⟨#[]⟩) 16 Tryz.underlying43 HI.out hz0 hz1 hz2 rfl _ _ _ rfl ho wr.heap.size 1 (.string E) rfl HU.out rfl (by unfold maxLen; omega) (by omega) hxa.size ?_; intro v' w1 hown' hgrow)
          have hx1 := grown_ext hxa ho hgrow
          clear HU ho hgrow hxa
          go_wp2
          go_roundw
          case rel => exact ⟨k + 1, k + 1, P ++ [(L.drop f).take (k - f)], by go_num, by go_num, by omega, by rw [HS.out] at hown'; simpa using hown', hx1, HN⟩
          case measure => simp [intOf]; omega
        · have hlk : k < L.length := by rw [HL.out]; exact hke
          have hck : L[k] ≠ c := by
            have h1 := HA.out k hke
            rw [List.getElem?_eq_getElem hlk] at h1
            rw [Option.some.inj h1]
            intro e
            exact hc (by rw [← hd, ← HQ.out, e])
          have HN : Hid (SplitAt c L (k + 1) f P) := splitAt_other hlk HP.out hck
          have hne : ((k : Int) == (s.size : Int)) = false := by rw [beq_eq_false_iff_ne]; omega
          have hdq : ((d : Int) == (q : Int)) = false := by rw [beq_eq_false_iff_ne]; omega
          clear HP hck hlk
          go_wp2
          go_roundw
          case rel => exact ⟨k + 1, f, P, by go_num, rfl, by omega, hown, hx, HN⟩
          case measure => simp [intOf]; omega
      · obtain rfl : k = s.size := by omega
        obtain ⟨E, hE⟩ : ∃ E, s.extract f s.size = E := ⟨_, rfl⟩
        have HS : Hid (Value.string E = textV ((L.drop f).take (L.length - f))) := by rw [← hE, HX.out f s.size (by omega) hf, HL.out]; rfl
        have HN : Hid (SplitAt c L (s.size + 1) (s.size + 1) (P ++ [(L.drop f).take (L.length - f)])) := by
          have h1 := HP.out
          rw [← HL.out] at h1 ⊢
          exact splitAt_end h1
        have ho := hown.alloc (.cells #[.string E] 9)
        have hu : (wr.alloc (.cells #[.string E] 9)).cell? ⟨wr.heap.size, 0, none⟩ = some (.string E) := by rw [heap_cell (heap_new wr (.cells #[.string E] 9))]; rfl
        have hxa : Ext w (wr.alloc (.cells #[.string E] 9)) := hx.alloc _
        have HU : Hid _ := hu
        clear HP hown hu hke
        go_wp2_with (at_builtin; refine append_one rfl (.tmp 25) (.tmp 30) 43 rfl w.heap.size 9 i0 (.string ⟨#[]⟩) 16 Tryz.underlying43 HI.out hz0 hz1 hz2 rfl _ _ _ rfl ho wr.heap.size 1 (.string E) rfl HU.out rfl (by unfold maxLen; omega) (by omega) hxa.size ?_; intro v' w1 hown' hgrow)
        have hx1 := grown_ext hxa ho hgrow
        clear HU ho hgrow hxa
        go_wp2
        go_roundw
        case rel => exact ⟨s.size + 1, s.size + 1, P ++ [(L.drop f).take (L.length - f)], by go_num, by go_num, by omega, by rw [HS.out] at hown'; simpa using hown', hx1, HN⟩
        case measure => simp [intOf]
    · obtain rfl : k = s.size + 1 := by omega
      have hP : P = splitL c L := by
        rcases HP.out with ⟨h1, _⟩ | ⟨_, h1⟩
        · rw [HL.out] at h1; omega
        · exact h1
      subst hP
      clear HP hlt
      go_wp2
      go_ret
      exact ⟨_, rfl, hown, hx⟩
end Go.Proofs.YtbmmgjmmooakpaaGreatDoor
