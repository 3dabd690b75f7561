/- Package rule's words: one that is asked for, names, numbers. -/
import Derived.Test.YtbmmgjmmooakpaaGreatDoorRu6
namespace Go.Proofs.YtbmmgjmmooakpaaGreatDoor.Ru
open Go.RowKit
set_option linter.unusedVariables false
set_option maxRecDepth 100000

theorem maybe_any (t : ByteArray) (p : Nat) (L : WL) (b : Bool) (w : World) (ht : t ≠ txt []) (h : WAt w p L b) (hs : Std w) :
    Calls Tryz.prog 54 #[.pointer (some ⟨p, 0, none⟩), .string t] w fun e w' => e = .returned (.bool (isW t L)) ∧ WAt w' p (aftW t L) b ∧ ExtX p w w' := by
  have h' := h
  obtain ⟨n, r, hh, hw⟩ := h
  have hi := hw.is ht
  have he := eqT n t
  rw [hi] at he
  have c1 := take_any p L b w h' hs
  unfold aftW
  obtain ⟨d0, d1, d2, f0, f1, f2⟩ := cells_three hh
  clear hh hw hi hs ht
  cases hq : isW t L with
  | true =>
    rw [if_pos rfl]
    rw [hq] at he
    clear hq h'
    have hne : (n.toList != t.toList) = false := by unfold bne; rw [he]; rfl
    go_enter Tryz.func54, Tryz.ntmps54
    go_wp2_with (go_at_call 53; refine c1.mono ?_; rintro e w1 ⟨rfl, hW, hx⟩)
    go_ret
    exact ⟨rfl, hW, hx⟩
  | false =>
    rw [if_neg (by decide)]
    rw [hq] at he
    clear hq
    have hne : (n.toList != t.toList) = true := by unfold bne; rw [he]; rfl
    have H' : Hid _ := h'
    clear h'
    go_enter Tryz.func54, Tryz.ntmps54
    go_wp2
    go_ret
    exact ⟨rfl, H'.out, ExtX.refl _ _⟩

theorem must_any (ok : Bool) (p : Nat) (L : WL) (b : Bool) (w : World) (h : WAt w p L b) :
    Calls Tryz.prog 55 #[.pointer (some ⟨p, 0, none⟩), .bool ok] w fun e w' => e = .returned (.tuple #[]) ∧ WAt w' p L (b || !ok) ∧ ExtX p w w' := by
  obtain ⟨n, r, hh, hw⟩ := h
  obtain ⟨d0, d1, d2, f0, f1, f2⟩ := cells_three hh
  have HH : Hid _ := hh
  have HW : Hid _ := hw
  clear hh hw
  cases b
  all_goals (
    go_enter Tryz.func55, Tryz.ntmps55
    go_wp2
    go_end0
    exact ⟨rfl, ⟨n, r, heap_set HH.out (k := 2) _, HW.out⟩, putX _ _ _ _⟩)

theorem clone_any (s : ByteArray) (w : World) (hs : s.size ≤ 1000000) :
    Calls Tryz.prog 99 #[.string s] w fun e w' => e = .returned (.string s) ∧ Ext w w' := by
  have c1 := fun w => Tryz.stringslite_Clone s w (by omega)
  go_enter Tryz.func99, Tryz.ntmps99
  go_wp2_with (go_at_call 119; refine (c1 _).mono ?_; rintro e w1 ⟨rfl, hx⟩)
  go_ret
  exact ⟨rfl, hx⟩

theorem named_any (s : ByteArray) (p : Nat) (L : WL) (b : Bool) (w : World) (hz : s.size ≤ 1000000) (h : WAt w p L b) :
    Calls Tryz.prog 80 #[.pointer (some ⟨p, 0, none⟩), .string s] w fun e w' => e = .returned (.string s) ∧ WAt w' p L (b || !nameB s) ∧ ExtX p w w' := by
  have c1 := fun w => name_any s w (by omega)
  have c2 := fun w h => must_any (nameB s) p L b w h
  have c3 := fun w => clone_any s w hz
  generalize nameB s = g at *
  have H : Hid _ := h
  clear h
  go_enter Tryz.func80, Tryz.ntmps80
  go_wp2_with (first
    | (go_at_call 12; refine (c1 _).mono ?_; rintro e w1 ⟨rfl, hw⟩; obtain rfl := hw.symm; clear hw)
    | (go_at_call 55; refine (c2 _ H.out).mono ?_; rintro e w1 ⟨rfl, hW, hx⟩)
    | (go_at_call 99; refine (c3 _).mono ?_; rintro e w2 ⟨rfl, hx2⟩))
  go_ret
  exact ⟨rfl, hW.later hx2, hx.trans (hx2.but p)⟩

theorem headW_size {w : World} {p : Nat} {L : WL} {b : Bool} (h : WAt w p L b) : (headW L).size ≤ 1000000 := by
  obtain ⟨n, r, hh, hw⟩ := h
  rw [← hw.head.1]; exact hw.n_small

theorem wname_any (p : Nat) (L : WL) (b : Bool) (w : World) (h : WAt w p L b) (hs : Std w) :
    Calls Tryz.prog 56 #[.pointer (some ⟨p, 0, none⟩)] w fun e w' => e = .returned (.string (headW L)) ∧ WAt w' p L.tail (b || !nameB (headW L)) ∧ ExtX p w w' := by
  have hz := headW_size h
  have c1 := take_any p L b w h hs
  have c2 := fun w h => named_any (headW L) p L.tail b w hz h
  generalize headW L = x at *
  generalize L.tail = M at *
  clear h hs
  go_enter Tryz.func56, Tryz.ntmps56
  go_wp2_with (first
    | (go_at_call 53; refine c1.mono ?_; rintro e w1 ⟨rfl, hW, hx⟩)
    | (go_at_call 80; refine (c2 _ hW).mono ?_; rintro e w2 ⟨rfl, hW2, hx2⟩))
  go_ret
  exact ⟨rfl, hW2, hx.trans hx2⟩

theorem itoaAll_any (n : Int) (w : World) (h0 : -9223372036854775808 ≤ n) (h1 : n ≤ 9223372036854775807) (ht : Tab w) :
    Calls Tryz.prog 38 #[.int .i64 n] w fun e w' => e = .returned (.string (txt (Lib.itoa n))) ∧ Ext w w' := by
  refine (Tryz.strconv_Itoa n h0 h1 w ht).mono ?_
  rintro e w' ⟨rfl, k, os, rfl⟩
  exact ⟨rfl, ext_grow _ _ _⟩

theorem bytes_ext (w : World) (t : ByteArray) : Ext w (Lib.bytesWorld w 5 t) := by
  unfold Lib.bytesWorld
  have h1 : Ext w (w.drew.alloc (.cells (Lib.bytesCells w 5 t) 5)) := ((Ext.refl w).drew).alloc _
  refine ⟨h1.os, h1.tape, h1.output, by simp [World.freeze], fun k hk => ?_⟩
  rw [← h1.block k hk]
  show (Array.modify _ _ _)[k]? = _
  rw [Array.getElem?_modify, if_neg (by show w.heap.size ≠ k; omega)]

/-- What digits answers. -/
def DigAns (s : ByteArray) (low high : Int) (p : Nat) (L : WL) (b : Bool) (w : World) (e : Ending) (w' : World) : Prop :=
  ∃ v : Int, e = .returned (.int .i64 v) ∧ (-9223372036854775808 ≤ v ∧ v ≤ 9223372036854775807) ∧ (numIn s low high = true → v = valT s) ∧ WAt w' p L (b || !numIn s low high) ∧ ExtX p w w'

theorem digits_any (s : ByteArray) (low high : Int) (p : Nat) (L : WL) (b : Bool) (w : World) (hz : s.size ≤ 1000000) (hl : 0 ≤ low) (hh0 : 0 ≤ high) (hh : high ≤ 1000000) (h : WAt w p L b) (hs : Std w) :
    Calls Tryz.prog 81 #[.pointer (some ⟨p, 0, none⟩), .string s, .int .i64 low, .int .i64 high] w (DigAns s low high p L b w) := by
  have HA : Hid (∀ v g w', (-9223372036854775808 ≤ v ∧ v ≤ 9223372036854775807) → (g = true → v = valT s) → numIn s low high = g → WAt w' p L (b || !g) → ExtX p w w' → DigAns s low high p L b w (.returned (.int .i64 v)) w') := fun v g w' h1 h2 h3 h4 h5 => ⟨v, rfl, h1, by rw [h3]; exact h2, by rw [h3]; exact h4, h5⟩
  generalize DigAns s low high p L b w = Ans at *
  cases ha : Lib.atoiAll s.data.toList with
  | ok v =>
    have hb := atoi_bd ha
    have hn := numIn_ok ha hl hh0 hh
    have hv := fun hn => numIn_val (low := low) hn ha hh
    have c1 := fun w => Tryz.strconv_Atoi_ok s (by omega) v ha w
    have c2 := fun w h => itoaAll_any v w hb.1 hb.2 h
    have c3 := fun w => of_any v low high w
    have he := eqT (txt (Lib.itoa v)) s
    rw [show (decide (low ≤ v) && decide (v ≤ high)) = inB v low high from rfl] at hn
    generalize numIn s low high = g at *
    generalize inB v low high = g2 at *
    generalize decide (txt (Lib.itoa v) = s) = g1 at *
    generalize txt (Lib.itoa v) = T at *
    have c4 := fun g w h => must_any g p L b w h
    have HV : Hid _ := hv
    have HB : Hid _ := hb
    have HN : Hid _ := hn
    have HS : Hid (Std w) := hs
    have HW : Hid (WAt w p L b) := h
    clear ha hl hh hh0 hz hv hb hn hs h
    have hk : ∀ w', (w' = w ∨ ∃ t, w' = Lib.bytesWorld w 5 t) → Ext w w' := by
      rintro w' (rfl | ⟨t, rfl⟩)
      · exact Ext.refl _
      · exact bytes_ext w t
    have HK : Hid _ := hk
    clear hk
    cases g1 <;> cases g2
    all_goals (
      go_enter Tryz.func81, Tryz.ntmps81
      go_wp2_with (first
        | (go_at_call 100; refine (c1 _).mono ?_; rintro e w1 ⟨rfl, hw⟩; have hx1 := HK.out _ hw; clear hw)
        | (go_at_call 38; refine (c2 _ (HS.out.later hx1).tab).mono ?_; rintro e w2 ⟨rfl, hx2⟩; replace hx1 := Ext.trans hx1 hx2; clear hx2)
        | (go_at_call 46; refine (c3 _).mono ?_; rintro e w3 ⟨rfl, hw⟩; obtain rfl := hw.symm; clear hw)
        | (go_at_call 55; refine (c4 _ _ (HW.out.later hx1)).mono ?_; rintro e w4 ⟨rfl, hW, hx4⟩))
      exact HA.out _ _ _ HB.out HV.out rfl (by rw [HN.out]; exact hW) ((hx1.but p).trans hx4))
  | «syntax» =>
    have hn : numIn s low high = false := by
      rw [Bool.eq_false_iff]; intro hn
      rw [numIn_atoi hn hh] at ha; cases ha
    obtain ⟨t, v, hvar⟩ := hs.syn
    have c1 := Tryz.strconv_Atoi_syntax_var s (by omega) ha t v w hvar
    have c4 := fun g w h => must_any g p L b w h
    have HW : Hid (WAt w p L b) := h
    have HN : Hid _ := hn
    clear ha hl hh hh0 hz hn hs hvar h
    go_enter Tryz.func81, Tryz.ntmps81
    go_wp2_with (first
      | (go_at_call 100; refine c1.mono ?_; rintro e w1 ⟨N, rfl, hN1, hN2, hx1⟩; clear hN2)
      | (go_at_call 55; refine (c4 _ _ (HW.out.later hx1)).mono ?_; rintro e w4 ⟨rfl, hW, hx4⟩))
    exact HA.out _ _ _ ⟨by omega, by omega⟩ (fun h => by cases h) HN.out hW ((Ext.but hx1 p).trans hx4)
  | range =>
    have hn : numIn s low high = false := by
      rw [Bool.eq_false_iff]; intro hn
      rw [numIn_atoi hn hh] at ha; cases ha
    obtain ⟨t, v, hvar⟩ := hs.ran
    have c1 := Tryz.strconv_Atoi_range_var s (by omega) ha t v w hvar
    have hb : -9223372036854775808 ≤ Lib.atoiSat s.data.toList ∧ Lib.atoiSat s.data.toList ≤ 9223372036854775807 := by unfold Lib.atoiSat; split <;> omega
    generalize Lib.atoiSat s.data.toList = q at *
    have c4 := fun g w h => must_any g p L b w h
    have HW : Hid (WAt w p L b) := h
    have HN : Hid _ := hn
    have HB : Hid _ := hb
    clear ha hl hh hh0 hz hn hs hvar h hb
    go_enter Tryz.func81, Tryz.ntmps81
    go_wp2_with (first
      | (go_at_call 100; refine c1.mono ?_; rintro e w1 ⟨N, rfl, hN1, hN2, hx1⟩; clear hN2)
      | (go_at_call 55; refine (c4 _ _ (HW.out.later hx1)).mono ?_; rintro e w4 ⟨rfl, hW, hx4⟩))
    exact HA.out _ _ _ HB.out (fun h => by cases h) HN.out hW ((Ext.but hx1 p).trans hx4)

theorem bool_size : (Tryz.prog.info? 4).map (·.size) = some 1 := by kernel_rfl
theorem text_size : (Tryz.prog.info? 9).map (·.size) = some 1 := by kernel_rfl
theorem int_size : (Tryz.prog.info? 3).map (·.size) = some 1 := by kernel_rfl
theorem u32_size : (Tryz.prog.info? 22).map (·.size) = some 1 := by kernel_rfl

/-- What a step answers: a value, the words that are left, and that only block p was written. -/
def Ans {α : Type} (enc : α → Value) (ok : α → Prop) (o : Option (α × WL)) (p : Nat) (b : Bool) (w : World) (e : Ending) (w' : World) : Prop :=
  ∃ v b' L', e = .returned (enc v) ∧ ok v ∧ Stp o b v b' L' ∧ WAt w' p L' b' ∧ ExtX p w w'

def encB (v : Bool) : Value := .bool v
def okT {α : Type} (_ : α) : Prop := True
def encR (r : RuleV) : Value := (.agg #[.bool r.pass, .bool r.ret, .bool r.quick, .string r.on, .int .i64 r.proto, .bool r.src.any, .string r.src.table, .int .u32 r.src.a, .int .i64 r.src.n, .int .i64 r.src.low, .int .i64 r.src.high, .bool r.dst.any, .string r.dst.table, .int .u32 r.dst.a, .int .i64 r.dst.n, .int .i64 r.dst.low, .int .i64 r.dst.high, .int .i64 r.set, .int .i64 r.mask, .int .i64 r.type, .bool r.keep, .bool r.rt.on, .string r.rt.iface, .int .u32 r.rt.gate, .bool r.rp.on, .string r.rp.iface, .int .u32 r.rp.gate, .int .i64 r.table])
def encI (v : Int) : Value := .int .i64 v
def okI (v : Int) : Prop := -9223372036854775808 ≤ v ∧ v ≤ 9223372036854775807

/-- A number behind its word. -/
theorem num_stp {x : ByteArray} {low high v : Int} {L : WL} {b : Bool} (hx : x = headW L) (hv : numIn x low high = true → v = valT x) : Stp (sNum low high L) b v (b || !numIn x low high) L.tail := by
  subst hx
  refine Stp.ask (fun h => ?_) (fun h => ?_)
  · cases L with
    | nil => rw [headW_nil] at h; simp [numIn, list_txt, numB_empty] at h
    | cons x r =>
      unfold sNum sHead
      simp only [Option.bind_some]
      rw [if_pos (show numIn x low high = true from h), hv h]; rfl
  · cases L with
    | nil => rfl
    | cons x r =>
      unfold sNum sHead
      simp only [Option.bind_some]
      rw [if_neg (by rw [show numIn x low high = false from h]; decide)]

theorem number_any (t : ByteArray) (low high wo : Int) (p : Nat) (L : WL) (b : Bool) (w : World) (ht : t ≠ txt []) (hl : 0 ≤ low) (hh0 : 0 ≤ high) (hh : high ≤ 1000000) (hw : okI wo) (h : WAt w p L b) (hs : Std w) (hp : Abv p) :
    Calls Tryz.prog 60 #[.pointer (some ⟨p, 0, none⟩), .string t, .int .i64 low, .int .i64 high, .int .i64 wo] w (Ans encI okI (sNumber t low high wo L) p b w) := by
  have c1 := maybe_any t p L b w ht h hs
  unfold sNumber
  unfold aftW at c1
  have HA : Hid (∀ v b' L' w', okI v → Stp (if isW t L = true then sNum low high L.tail else some (wo, L)) b v b' L' → WAt w' p L' b' → ExtX p w w' →
      Ans encI okI (if isW t L = true then sNum low high L.tail else some (wo, L)) p b w (.returned (.int .i64 v)) w') := fun v b' L' w' h1 h2 h3 h4 => ⟨v, b', L', rfl, h1, h2, h3, h4⟩
  generalize Ans encI okI (if isW t L = true then sNum low high L.tail else some (wo, L)) p b w = An at *
  have HS : Hid (Std w) := hs
  clear h hs
  cases hq : isW t L with
  | true =>
    rw [hq, if_pos rfl] at c1
    rw [hq, if_pos rfl] at HA
    have c2 := fun w h hs => take_any p L.tail b w h hs
    have c3 := fun w hz h hs => digits_any (headW L.tail) low high p L.tail.tail b w hz hl hh0 hh h hs
    clear hq hl hh0 hh hw
    go_enter Tryz.func60, Tryz.ntmps60
    go_wp2_with (first
      | (go_at_call 54; refine c1.mono ?_; rintro e w1 ⟨rfl, hW, hx⟩)
      | (go_at_call 53; refine (c2 _ hW (HS.out.laterX hx hp)).mono ?_; rintro e w2 ⟨rfl, hW2, hx2⟩)
      | (go_at_call 81; refine (c3 _ (headW_size hW) hW2 ((HS.out.laterX hx hp).laterX hx2 hp)).mono ?_; rintro e w3 ⟨v, rfl, hb, hv, hW3, hx3⟩))
    exact HA.out v _ _ _ hb (num_stp rfl hv) hW3 ((hx.trans hx2).trans hx3)
  | false =>
    rw [hq, if_neg (by decide)] at c1
    rw [hq, if_neg (by decide)] at HA
    clear hq hl hh0 hh
    have HO : Hid (okI wo) := hw
    clear hw
    go_enter Tryz.func60, Tryz.ntmps60
    go_wp2_with (go_at_call 54; refine c1.mono ?_; rintro e w1 ⟨rfl, hW, hx⟩)
    exact HA.out wo _ _ _ HO.out Stp.some hW hx
end Go.Proofs.YtbmmgjmmooakpaaGreatDoor.Ru
