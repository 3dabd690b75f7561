/- Package addr's texts: an address and a prefix as a text, in every world in which the library's table of powers of ten stands; and law 3's known answers. -/
import Derived.Test.YtbmmgjmmooakpaaGreatDoorAddr
import Derived.Test.YtbmmgjmmooakpaaGreatDoorShelf
import Derived.Laws.Concat
namespace Go.Proofs.YtbmmgjmmooakpaaGreatDoor
set_option maxRecDepth 100000
open Go.RowKit
set_option linter.unusedVariables false

/-- The library's table of powers of ten stands. -/
def Tab (w : World) : Prop := Lib.TabIs Tryz.prog w "internal/strconv.uint64pow10" .u64 Lib.pow10Tab

theorem Tab.later {w w' : World} (h : Tab w) (hx : Ext w w') : Tab w' := by
  have hg : Tryz.prog.globalNamed "internal/strconv.uint64pow10" = some (0) := by kernel_rfl
  unfold Tab Lib.TabIs at h ⊢
  simp only [World.var?, hg, Option.bind_some] at h ⊢
  have hlt : 0 < w.heap.size := by
    rcases Nat.lt_or_ge (0) w.heap.size with hl | hl
    · exact hl
    · rw [Array.getElem?_eq_none hl] at h; simp at h
  rw [hx.block _ hlt]
  exact h

theorem ext_grow (w : World) (k : Nat) (os : Array Obj) : Ext w (Sort.grow (w.drewN k) os) :=
  ⟨rfl, rfl, rfl, by simp [Sort.grow, World.drewN], fun i hi => by
    show (w.heap ++ os)[i]? = _
    rw [Array.getElem?_append_left hi]⟩

/-- A number's digits. -/
def decB (n : Int) : ByteArray := ⟨(Lib.decDigits n.toNat).toArray⟩

theorem digits_len : ∀ (k u : Nat), u < 10 ^ (k + 1) → 1 ≤ (Lib.decDigits u).length ∧ (Lib.decDigits u).length ≤ k + 1
  | 0, u, h => by rw [Lib.decDigits, dif_pos (by simpa using h)]; simp
  | k + 1, u, h => by
    rw [Lib.decDigits]
    split
    · simp
    · have := digits_len k (u / 10) (by rw [Nat.pow_succ] at h; omega)
      simp only [List.length_append, List.length_cons, List.length_nil]
      omega

theorem decB_size (n : Int) (h : n ≤ 255) : (decB n).size ≤ 3 := by
  have := (digits_len 2 n.toNat (by omega)).2
  simpa [decB, ByteArray.size] using this

theorem decB_size5 (n : Int) (h : n ≤ 99999) : (decB n).size ≤ 5 := by
  have := (digits_len 4 n.toNat (by omega)).2
  simpa [decB, ByteArray.size] using this

theorem itoa_any (n : Int) (w : World) (h0 : 0 ≤ n) (h1 : n ≤ 1000000) (ht : Tab w) :
    Calls Tryz.prog 38 #[.int .i64 n] w fun e w' => e = .returned (.string (decB n)) ∧ Ext w w' := by
  refine (Tryz.strconv_Itoa n (by omega) (by omega) w ht).mono ?_
  rintro e w' ⟨rfl, k, os, rfl⟩
  refine ⟨?_, ext_grow _ _ _⟩
  unfold decB Lib.itoa
  rw [if_neg (by omega)]

theorem itoa_small (n : Int) (w : World) (h0 : 0 ≤ n) (h1 : n ≤ 99) :
    Calls Tryz.prog 38 #[.int .i64 n] w fun e w' => e = .returned (.string (decB n)) ∧ w' = w := by
  obtain ⟨k, rfl⟩ := Int.eq_ofNat_of_zero_le h0
  exact Tryz.strconv_Itoa_small k (by omega) w

theorem part_any (a : Int) (w : World) (a0 : 0 ≤ a) (a1 : a ≤ 4294967295) (ht : Tab w) :
    Calls Tryz.prog 89 #[.int .u32 a] w fun e w' => e = .returned (.string (decB (a % 256))) ∧ Ext w w' := by
  have e1 : bits .and .u32 a 255 = a % 256 := bits_mask .u32 32 (by decide) wrapsU32 8 (by decide) a a0 (by omega)
  have c1 := fun w h => itoa_any (a % 256) w (by omega) (by omega) h
  have hb : 0 ≤ a % 256 ∧ a % 256 ≤ 255 := by omega
  generalize a % 256 = n at *
  generalize decB n = s at *
  go_enter Tryz.func89, Tryz.ntmps89
  go_wp2_with (go_at_call 38; refine (c1 _ ht).mono ?_; rintro e w' ⟨rfl, hx⟩)
  go_ret
  exact ⟨rfl, hx⟩

/-- An address as a text. -/
def printB (a : Int) : ByteArray :=
  decB (a / 16777216 % 256) ++ ⟨#[46]⟩ ++ decB (a / 65536 % 256) ++ ⟨#[46]⟩ ++ decB (a / 256 % 256) ++ ⟨#[46]⟩ ++ decB (a % 256)

theorem print_any (a : Int) (w : World) (a0 : 0 ≤ a) (a1 : a ≤ 4294967295) (ht : Tab w) :
    Calls Tryz.prog 69 #[.int .u32 a] w fun e w' => e = .returned (.string (printB a)) ∧ Ext w w' := by
  unfold printB
  have c1 := fun w h => part_any (a / 16777216) w (by omega) (by omega) h
  have c2 := fun w h => part_any (a / 65536) w (by omega) (by omega) h
  have c3 := fun w h => part_any (a / 256) w (by omega) (by omega) h
  have c4 := fun w h => part_any a w (by omega) (by omega) h
  have z1 := decB_size (a / 16777216 % 256) (by omega)
  have z2 := decB_size (a / 65536 % 256) (by omega)
  have z3 := decB_size (a / 256 % 256) (by omega)
  have z4 := decB_size (a % 256) (by omega)
  generalize decB (a / 16777216 % 256) = s1 at *
  generalize decB (a / 65536 % 256) = s2 at *
  generalize decB (a / 256 % 256) = s3 at *
  generalize decB (a % 256) = s4 at *
  have tok1 : Hid True := trivial
  have tok2 : Hid True := trivial
  have tok3 : Hid True := trivial
  have t0 := ht
  go_enter Tryz.func69, Tryz.ntmps69
  go_wp2_with (first
    | (go_at_call 89; clear tok1; refine (c1 _ t0).mono ?_; rintro e w1 ⟨rfl, hx1⟩; have t1 := t0.later hx1)
    | (go_at_call 89; clear tok2; refine (c2 _ t1).mono ?_; rintro e w2 ⟨rfl, hx2⟩; have t2 := t1.later hx2)
    | (go_at_call 89; clear tok3; refine (c3 _ t2).mono ?_; rintro e w3 ⟨rfl, hx3⟩; have t3 := t2.later hx3)
    | (go_at_call 89; refine (c4 _ t3).mono ?_; rintro e w4 ⟨rfl, hx4⟩))
  go_ret
  exact ⟨rfl, ((hx1.trans hx2).trans hx3).trans hx4⟩

theorem printB_known : printB 167772161 = ⟨#[49, 48, 46, 48, 46, 48, 46, 49]⟩ := by
  have e1 : Lib.decDigits 10 = [49, 48] := by rw [Lib.decDigits, dif_neg (by decide), Lib.decDigits, dif_pos (by decide)]; decide
  have e2 : Lib.decDigits 0 = [48] := by rw [Lib.decDigits, dif_pos (by decide)]; decide
  have e3 : Lib.decDigits 1 = [49] := by rw [Lib.decDigits, dif_pos (by decide)]; decide
  unfold printB decB
  rw [show ((167772161 : Int) / 16777216 % 256).toNat = 10 by decide, show ((167772161 : Int) / 65536 % 256).toNat = 0 by decide, show ((167772161 : Int) / 256 % 256).toNat = 0 by decide, show ((167772161 : Int) % 256).toNat = 1 by decide, e1, e2, e3]
  decide

theorem printB_size (a : Int) : (printB a).size ≤ 15 := by
  have z1 := decB_size (a / 16777216 % 256) (by omega)
  have z2 := decB_size (a / 65536 % 256) (by omega)
  have z3 := decB_size (a / 256 % 256) (by omega)
  have z4 := decB_size (a % 256) (by omega)
  unfold printB
  simp only [ByteArray.size_append]
  have : (ByteArray.mk #[46]).size = 1 := by decide
  omega

/-- A prefix as a text. -/
def printPB (a n : Int) : ByteArray := if n < 0 ∨ 32 < n then ⟨#[]⟩ else printB a ++ ⟨#[47]⟩ ++ decB n

theorem add_texts (a b : ByteArray) (ha : a.size ≤ 1000000) (hb : b.size ≤ 1000000) (w : World) : (Op.stringOp .add a b).run Tryz.prog w = .ok (.string (a ++ b)) w :=
  run_string_add w a b (by omega) (by omega)

theorem printPrefix_any (a n : Int) (w : World) (a0 : 0 ≤ a) (a1 : a ≤ 4294967295) (ht : Tab w) :
    Calls Tryz.prog 87 #[.agg #[.int .u32 a, .int .i64 n]] w fun e w' => e = .returned (.string (printPB a n)) ∧ Ext w w' := by
  have c1 := fun w => hold_any n w
  have c2 := fun w h => print_any a w a0 a1 h
  have zp := printB_size a
  unfold printPB
  generalize printB a = p at *
  by_cases g : n < 0 ∨ 32 < n
  · rw [if_pos g]
    have gh : holdV n ≠ n := by have := holdV_bd n; omega
    generalize holdV n = h at *
    obtain ⟨hx0, hb0, hb1⟩ := boxed2 w (.int .u32 a) (.int .i64 n) 24
    have gn : (n == h) = false := by rw [Bool.eq_false_iff]; simp; omega
    clear g gh
    go_enter Tryz.func87, Tryz.ntmps87
    go_wp2
    refine wp_region_eager [(0, false), (1, false), (2, false), (3, false), (4, true), (5, false)] (by kernel_rfl) (by kernel_rfl) rfl (by kernel_rfl) (fun _ _ _ _ _ h => h) ?_
    generalize (w.alloc (.cells #[.int .u32 a, .int .i64 n] 24)).drew = W at *
    repeat (first
      | (refine wpE_read (v := ?_) rfl (by rfl) ?_ ?_; rotate_left; (focus (intro w' hx; go_simp; first | done | with_reducible rfl)); simp only [Act.put, List.setIfInBounds_toArray, List.set_cons_zero, List.set_cons_succ])
      | (refine wpE_call rfl (by rfl) (fun K hK => ?_); go_simp; first
          | (go_at_call 105; refine (c1 _).mono ?_; rintro e w' ⟨rfl, rfl⟩; refine hK _ _ (Ext.refl _) ?_; clear hK K)))
    refine wpE_done ?_
    go_wp2
    go_ret
    exact ⟨rfl, hx0⟩
  · rw [if_neg g]
    have gh : holdV n = n := by unfold holdV; rw [if_neg (by omega), if_neg (by omega)]
    have hn : 0 ≤ n ∧ n ≤ 32 := by omega
    rw [gh] at c1
    have c3 := fun w h => itoa_any n w hn.1 (by omega) h
    have zn := decB_size n (by omega)
    generalize decB n = d at *
    clear gh g
    obtain ⟨hx0, hb0, hb1⟩ := boxed2 w (.int .u32 a) (.int .i64 n) 24
    go_enter Tryz.func87, Tryz.ntmps87
    go_wp2
    refine wp_region_eager [(0, false), (1, false), (2, false), (3, false), (4, true), (5, false)] (by kernel_rfl) (by kernel_rfl) rfl (by kernel_rfl) (fun _ _ _ _ _ h => h) ?_
    generalize (w.alloc (.cells #[.int .u32 a, .int .i64 n] 24)).drew = W at *
    repeat (first
      | (refine wpE_read (v := ?_) rfl (by rfl) ?_ ?_; rotate_left; (focus (intro w' hx; go_simp; first | done | with_reducible rfl)); simp only [Act.put, List.setIfInBounds_toArray, List.set_cons_zero, List.set_cons_succ])
      | (refine wpE_call rfl (by rfl) (fun K hK => ?_); go_simp; first
          | (go_at_call 105; refine (c1 _).mono ?_; rintro e W1 ⟨rfl, rfl⟩; refine hK _ _ (Ext.refl _) ?_; clear hK K)))
    refine wpE_done ?_
    go_wp2
    refine wp_region_eager [(0, false), (1, false), (4, false), (5, false), (2, true), (3, false), (6, true), (7, false), (8, false)] (by kernel_rfl) (by kernel_rfl) rfl (by kernel_rfl) (fun _ _ _ _ _ h => h) ?_
    have hxd : Ext W1 W1.drew := (Ext.refl W1).drew
    replace hb0 := fun w' h => hb0 w' (hxd.trans h)
    replace hb1 := fun w' h => hb1 w' (hxd.trans h)
    replace hx0 := hx0.trans hxd
    clear hxd
    generalize W1.drew = W2 at *
    have t0 := ht.later hx0
    have z47 : (ByteArray.mk #[47]).size = 1 := by decide
    have a1 := fun w => add_texts p ⟨#[47]⟩ (by omega) (by omega) w
    have a2 := fun w => add_texts (p ++ ⟨#[47]⟩) d (by rw [ByteArray.size_append]; omega) (by omega) w
    repeat (first
      | (refine wpE_read (v := ?_) rfl (by rfl) ?_ ?_; rotate_left; (focus (intro w' hx; go_simp; first | done | with_reducible rfl)); simp only [Act.put, List.setIfInBounds_toArray, List.set_cons_zero, List.set_cons_succ])
      | (refine wpE_call rfl (by rfl) (fun K hK => ?_); go_simp; first
          | (go_at_call 69; refine (c2 _ t0).mono ?_; rintro e w1 ⟨rfl, hx1⟩; refine hK _ _ hx1 ?_; clear hK K)
          | (go_at_call 38; refine (c3 _ (t0.later hx1)).mono ?_; rintro e w2 ⟨rfl, hx2⟩; refine hK _ _ hx2 ?_; clear hK K)))
    refine wpE_done ?_
    go_wp2
    go_ret
    exact ⟨rfl, (hx0.trans hx1).trans hx2⟩
end Go.Proofs.YtbmmgjmmooakpaaGreatDoor
