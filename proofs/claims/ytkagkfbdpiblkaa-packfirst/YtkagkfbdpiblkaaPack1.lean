/- Chapter 8's small functions: Class, a header that is there, a query's number; law 8's 'known' and 'long'; what an error is about: isQuote, about. -/
import Derived.Test.YtkagkfbdpiblkaaPackP
import Derived.Test.YtkagkfbdpiblkaaBoxKey
import Derived.Test.YtkagkfbdpiblkaaBoxPkt
import Derived.Test.YtkagkfbdpiblkaaIp3
import Derived.Test.YtkagkfbdpiblkaaIcmp2
namespace Go.Proofs.Ytkagkfbdpiblkaa.Pack
open Go.RowKit
set_option linter.unusedVariables false
set_option maxRecDepth 100000

theorem class_any (p : IPv) (a1 : Option Addr) (n1 c1 : Nat) (a2 : Option Addr) (n2 c2 : Nat) (w : World) :
    Calls Try.prog 17 #[.agg #[.int .i64 p.tos, .int .i64 p.id, .bool p.df, .bool p.mf, .int .i64 p.off, .int .i64 p.ttl, .int .i64 p.proto, .int .u32 p.src, .int .u32 p.dst, .slice a1 n1 c1, .slice a2 n2 c2]] w fun e w' => e = .returned (.int .i64 (classV p)) ∧ Ext w w' := by
  have hc := class_cases p
  generalize classV p = C at *
  obtain ⟨p0, p1, p2, p3, p4, p5, p6, p7, p8, p9, pa⟩ := p
  dsimp only at *
  have hx : Ext w (w.alloc (.cells #[.int .i64 p0, .int .i64 p1, .bool p2, .bool p3, .int .i64 p4, .int .i64 p5, .int .i64 p6, .int .u32 p7, .int .u32 p8, .slice a1 n1 c1, .slice a2 n2 c2] 25)) := (Ext.refl w).alloc _
  rcases hc with ⟨h, rfl⟩ | ⟨rfl, rfl, rfl⟩ | ⟨rfl, rfl, rfl⟩
  · have hb : (p4 == 0) = false := by simpa using h
    have hb' : (p4 != 0) = true := by simpa using h
    go_enter Try.func17, Try.ntmps17
    go_wp2
    go_ret
    exact ⟨rfl, hx⟩
  · go_enter Try.func17, Try.ntmps17
    go_wp2
    go_ret
    exact ⟨rfl, hx⟩
  · go_enter Try.func17, Try.ntmps17
    go_wp2
    go_ret
    exact ⟨rfl, hx⟩

theorem refClass_any (p : IPv) (a1 : Option Addr) (n1 c1 : Nat) (a2 : Option Addr) (n2 c2 : Nat) (w : World) :
    Calls Try.prog 18 #[.agg #[.int .i64 p.tos, .int .i64 p.id, .bool p.df, .bool p.mf, .int .i64 p.off, .int .i64 p.ttl, .int .i64 p.proto, .int .u32 p.src, .int .u32 p.dst, .slice a1 n1 c1, .slice a2 n2 c2]] w fun e w' => e = .returned (.int .i64 (classV p)) ∧ Ext w w' := by
  have hc := class_cases p
  generalize classV p = C at *
  obtain ⟨p0, p1, p2, p3, p4, p5, p6, p7, p8, p9, pa⟩ := p
  dsimp only at *
  have hx : Ext w (w.alloc (.cells #[.int .i64 p0, .int .i64 p1, .bool p2, .bool p3, .int .i64 p4, .int .i64 p5, .int .i64 p6, .int .u32 p7, .int .u32 p8, .slice a1 n1 c1, .slice a2 n2 c2] 25)) := (Ext.refl w).alloc _
  rcases hc with ⟨h, rfl⟩ | ⟨rfl, rfl, rfl⟩ | ⟨rfl, rfl, rfl⟩
  · have hb : (p4 == 0) = false := by simpa using h
    have hb' : (p4 != 0) = true := by simpa using h
    go_enter Try.func18, Try.ntmps18
    go_wp2
    go_ret
    exact ⟨rfl, hx⟩
  · go_enter Try.func18, Try.ntmps18
    go_wp2
    go_ret
    exact ⟨rfl, hx⟩
  · go_enter Try.func18, Try.ntmps18
    go_wp2
    go_ret
    exact ⟨rfl, hx⟩

def firstIP : IPv := ⟨0, 0, false, true, 0, 0, 0, 0, 0, [], []⟩
def laterIP : IPv := ⟨0, 0, false, false, 1, 0, 0, 0, 0, [], []⟩

theorem known_any (w : World) : Calls Try.prog 11 #[] w fun e w' => e = .returned (.bool true) ∧ Ext w w' := by
  have c1 := fun w => class_any firstIP none 0 0 none 0 0 w
  have c2 := fun w => class_any laterIP none 0 0 none 0 0 w
  rw [show classV firstIP = 1 from rfl] at c1
  rw [show classV laterIP = 2 from rfl] at c2
  simp only [firstIP] at c1
  simp only [laterIP] at c2
  have tok1 : Hid True := trivial
  go_enter Try.func11, Try.ntmps11
  go_wp2_with (first
    | (go_at_call 17; clear tok1; refine (c1 _).mono ?_; rintro e w1 ⟨rfl, hx1⟩)
    | (go_at_call 17; refine (c2 _).mono ?_; rintro e w2 ⟨rfl, hx2⟩))
  go_ret
  exact ⟨rfl, hx1.trans hx2⟩

theorem long_any (p : IPv) (a1 : Option Addr) (n1 c1 : Nat) (a2 : Option Addr) (n2 c2 : Nat) (w : World) :
    Calls Try.prog 12 #[.agg #[.int .i64 p.tos, .int .i64 p.id, .bool p.df, .bool p.mf, .int .i64 p.off, .int .i64 p.ttl, .int .i64 p.proto, .int .u32 p.src, .int .u32 p.dst, .slice a1 n1 c1, .slice a2 n2 c2]] w fun e w' => e = .returned (.bool (decide (60 < n1 ∨ 1500 < n2))) ∧ Ext w w' := by
  obtain ⟨p0, p1, p2, p3, p4, p5, p6, p7, p8, p9, pa⟩ := p
  dsimp only at *
  have hx : Ext w (w.alloc (.cells #[.int .i64 p0, .int .i64 p1, .bool p2, .bool p3, .int .i64 p4, .int .i64 p5, .int .i64 p6, .int .u32 p7, .int .u32 p8, .slice a1 n1 c1, .slice a2 n2 c2] 25)) := (Ext.refl w).alloc _
  obtain ⟨R, hR⟩ : ∃ R, decide (60 < n1 ∨ 1500 < n2) = R := ⟨_, rfl⟩
  rw [hR]
  have HR : Hid _ := hR
  clear hR
  go_enter Try.func12, Try.ntmps12
  go_wp2
  all_goals
    go_ret
    refine ⟨congrArg (fun b => Ending.returned (Value.bool b)) (?_ : _ = R), hx⟩
    rw [← HR.out]
    first
      | (symm; rw [decide_eq_true_eq]; omega)
      | (rw [Bool.eq_iff_iff]; simp only [Bool.or_eq_true, decide_eq_true_eq]; omega)

theorem header8_any (a : Option Addr) (len cap : Nat) (xs : List Int) (w : World) (hl : xs.length = len) :
    Calls Try.prog 64 #[.slice a len cap] w fun e w' => e = .returned (.int .i64 (shortV xs)) ∧ w' = w := by
  unfold shortV
  rw [hl]
  by_cases h : len < 8
  · rw [if_pos h]
    have h' : (len : Int) < 8 := by omega
    go_enter Try.func64, Try.ntmps64
    go_wp2
    go_ret
    exact ⟨rfl, rfl⟩
  · rw [if_neg h]
    have h' : (8 : Int) ≤ (len : Int) := by omega
    go_enter Try.func64, Try.ntmps64
    go_wp2
    go_ret
    exact ⟨rfl, rfl⟩

theorem number_any (a : Option Addr) (len cap : Nat) (xs : List Int) (w : World) (h : Bytes w a len xs) (hn : len ≤ 1000000) :
    Calls Try.prog 50 #[.slice a len cap] w fun e w' => e = .returned (.int .i64 (get16V xs 4)) ∧ w' = w := by
  have c := get16_any a len cap xs 4 w h (by omega) (by omega)
  generalize get16V xs 4 = N at *
  go_enter Try.func50, Try.ntmps50
  go_wp2_with (go_at_call 43; refine c.mono ?_; rintro e w1 ⟨rfl, rfl⟩)
  go_ret
  exact ⟨rfl, rfl⟩

theorem u8_shr4 (x : Int) (h0 : 0 ≤ x) (h1 : x ≤ 255) : (x / 16 == 4) = decide (x / 16 = 4) := rfl

end Go.Proofs.Ytkagkfbdpiblkaa.Pack

namespace Go.Proofs.Ytkagkfbdpiblkaa.Pack
open Go.RowKit
set_option linter.unusedVariables false
set_option maxRecDepth 100000

/-- A flow's cells, from a place on. -/
structure KeyAt (w : World) (b o : Nat) (q : KEYv) : Prop where
  k0 : w.cell? ⟨b, o, none⟩ = some (.int .i64 q.proto)
  k1 : w.cell? ⟨b, o + 1, none⟩ = some (.int .u32 q.src)
  k2 : w.cell? ⟨b, o + 2, none⟩ = some (.int .u32 q.dst)
  k3 : w.cell? ⟨b, o + 3, none⟩ = some (.int .i64 q.a)
  k4 : w.cell? ⟨b, o + 4, none⟩ = some (.int .i64 q.b)

/-- What a pointer to a flow is, in a world. -/
def IsKey (w : World) (k : Option Addr) : Option KEYv → Prop
  | none => k = none
  | some q => ∃ b o, k = some ⟨b, o, none⟩ ∧ KeyAt w b o q

theorem KeyAt.of {w : World} {g : Nat} {q : KEYv} (h : w.heap[g]? = some (.cells #[.int .i64 q.proto, .int .u32 q.src, .int .u32 q.dst, .int .i64 q.a, .int .i64 q.b] 38 (0, 0))) : KeyAt w g 0 q :=
  ⟨heap_cell (k := 0) h, heap_cell (k := 1) h, heap_cell (k := 2) h, heap_cell (k := 3) h, heap_cell (k := 4) h⟩

theorem cell_later {w w' : World} {b o : Nat} {v : Value} (h : w.cell? ⟨b, o, none⟩ = some v) (hx : Ext w w') : w'.cell? ⟨b, o, none⟩ = some v := by
  rw [hx.below.cell (p := ⟨b, o, none⟩) (block_lt h)]
  exact h

theorem KeyAt.later {w w' : World} {b o : Nat} {q : KEYv} (h : KeyAt w b o q) (hx : Ext w w') : KeyAt w' b o q :=
  ⟨cell_later h.k0 hx, cell_later h.k1 hx, cell_later h.k2 hx, cell_later h.k3 hx, cell_later h.k4 hx⟩

theorem IsKey.later {w w' : World} {k : Option Addr} {o : Option KEYv} (h : IsKey w k o) (hx : Ext w w') : IsKey w' k o := by
  cases o with
  | none => exact h
  | some q =>
    obtain ⟨b, o, hk, ha⟩ := h
    exact ⟨b, o, hk, ha.later hx⟩

theorem cell_laterX {x : Nat} {w w' : World} {b o : Nat} {v : Value} (h : w.cell? ⟨b, o, none⟩ = some v) (hx : ExtX x w w') (hb : b ≠ x) : w'.cell? ⟨b, o, none⟩ = some v := by
  have h2 : w'.heap[b]? = w.heap[b]? := hx.block b (block_lt h) hb
  rw [← h]
  simp [World.cell?, h2]

/-- A block that is written is no flow's. -/
theorem IsKey.laterX {x : Nat} {w w' : World} {k : Option Addr} {o : Option KEYv} (h : IsKey w k o) (hx : ExtX x w w') (hk : ∀ a, k = some a → a.block ≠ x) : IsKey w' k o := by
  cases o with
  | none => exact h
  | some q =>
    obtain ⟨b, o, rfl, ha⟩ := h
    have hb : b ≠ x := hk _ rfl
    exact ⟨b, o, rfl, ⟨cell_laterX ha.k0 hx hb, cell_laterX ha.k1 hx hb, cell_laterX ha.k2 hx hb, cell_laterX ha.k3 hx hb, cell_laterX ha.k4 hx hb⟩⟩

theorem quote_cases (ys : List Int) :
    (headV ys < 20 ∧ isQuoteV ys = false) ∨ (20 ≤ headV ys ∧ (ys.length : Int) < headV ys + 8 ∧ isQuoteV ys = false) ∨
    (20 ≤ headV ys ∧ headV ys + 8 ≤ (ys.length : Int) ∧ byteV ys 0 / 16 ≠ 4 ∧ isQuoteV ys = false) ∨
    (20 ≤ headV ys ∧ headV ys + 8 ≤ (ys.length : Int) ∧ byteV ys 0 / 16 = 4 ∧ get16V ys 6 % 8192 ≠ 0 ∧ isQuoteV ys = false) ∨
    (20 ≤ headV ys ∧ headV ys + 8 ≤ (ys.length : Int) ∧ byteV ys 0 / 16 = 4 ∧ get16V ys 6 % 8192 = 0 ∧ isQuoteV ys = true) := by
  unfold isQuoteV
  by_cases h1 : headV ys < 20
  · exact .inl ⟨h1, by rw [decide_eq_false_iff_not]; omega⟩
  by_cases h2 : (ys.length : Int) < headV ys + 8
  · exact .inr (.inl ⟨by omega, h2, by rw [decide_eq_false_iff_not]; omega⟩)
  by_cases h3 : byteV ys 0 / 16 = 4
  · by_cases h4 : get16V ys 6 % 8192 = 0
    · exact .inr (.inr (.inr (.inr ⟨by omega, by omega, h3, h4, by rw [decide_eq_true_eq]; omega⟩)))
    · exact .inr (.inr (.inr (.inl ⟨by omega, by omega, h3, h4, by rw [decide_eq_false_iff_not]; omega⟩)))
  · exact .inr (.inr (.inl ⟨by omega, by omega, h3, by rw [decide_eq_false_iff_not]; omega⟩))

set_option maxHeartbeats 1000000 in
theorem isQuote_any (a : Option Addr) (len cap : Nat) (xs : List Int) (w : World) (h : Bytes w a len xs) (hn : len ≤ 1000000) :
    Calls Try.prog 68 #[.slice a len cap] w fun e w' => e = .returned (.bool (isQuoteV xs)) ∧ w' = w := by
  have hl := h.length
  have c1 := fun w h => header_any a len cap xs w h
  have hh := headV_bd h.ok
  have cg := fun w h => get16_any a len cap xs 6 w h (by omega) (by omega)
  have g6 := get16V_bd h.ok 6
  have n6 := i64_and13 (get16V xs 6) g6.1 g6.2
  rcases quote_cases xs with ⟨h1, hv⟩ | ⟨h1, h2, hv⟩ | ⟨h1, h2, h3, hv⟩ | ⟨h1, h2, h3, h4, hv⟩ | ⟨h1, h2, h3, h4, hv⟩
  · rw [hv]
    generalize headV xs = hd at *
    clear hv cg
    go_enter Try.func68, Try.ntmps68
    go_wp2_with (first | (go_at_call 61; refine (c1 _ h).mono ?_; rintro e w1 ⟨rfl, rfl⟩))
    go_ret
    exact ⟨rfl, rfl⟩
  · rw [hv]
    rw [hl] at h2
    generalize headV xs = hd at *
    clear hv cg
    go_enter Try.func68, Try.ntmps68
    go_wp2_with (first | (go_at_call 61; refine (c1 _ h).mono ?_; rintro e w1 ⟨rfl, rfl⟩))
    go_ret
    exact ⟨rfl, rfl⟩
  all_goals
    rw [hl] at h2
    obtain ⟨b, off, rfl, hc0⟩ := h.cell (k := 0) (by omega)
    rw [Nat.add_zero] at hc0
    have hb0 := h.ok.get 0
    have ex0 : byteV xs 0 = xs[0]?.getD 0 := byteV_nat xs 0
    obtain ⟨x0, hx0⟩ : ∃ x0, xs[0]?.getD 0 = x0 := ⟨_, rfl⟩
    rw [hx0] at hc0 hb0 ex0
    rw [ex0] at h3
    generalize headV xs = hd at *
    generalize get16V xs 6 = z at *
  · rw [hv]
    clear hv cg ex0 hx0
    go_enter Try.func68, Try.ntmps68
    go_wp2_with (first | (go_at_call 61; refine (c1 _ h).mono ?_; rintro e w1 ⟨rfl, rfl⟩))
    go_ret
    exact ⟨rfl, rfl⟩
  · rw [hv]
    have h4b : (z % 8192 == 0) = false := by simpa using h4
    clear hv ex0 hx0
    go_enter Try.func68, Try.ntmps68
    go_wp2_with (first
      | (go_at_call 61; refine (c1 _ h).mono ?_; rintro e w1 ⟨rfl, rfl⟩)
      | (go_at_call 43; refine (cg _ h).mono ?_; rintro e w2 ⟨rfl, rfl⟩))
    go_ret
    exact ⟨rfl, rfl⟩
  · rw [hv]
    clear hv ex0 hx0
    go_enter Try.func68, Try.ntmps68
    go_wp2_with (first
      | (go_at_call 61; refine (c1 _ h).mono ?_; rintro e w1 ⟨rfl, rfl⟩)
      | (go_at_call 43; refine (cg _ h).mono ?_; rintro e w2 ⟨rfl, rfl⟩))
    go_ret
    exact ⟨rfl, rfl⟩

/-- What about and inner answer: a pointer to new memory, or none. -/
def KeyAns (w : World) (o : Option KEYv) (e : Ending) (w' : World) : Prop := ∃ k, e = .returned (.pointer k) ∧ IsKey w' k o ∧ (∀ a, k = some a → w.heap.size ≤ a.block) ∧ Ext w w'

/-- The ways a flow's numbers are quoted. -/
theorem about_cases (xs : List Int) :
    ((byteV xs 9 = 6 ∨ byteV xs 9 = 17) ∧ aboutA xs = get16V xs (headV xs) ∧ aboutB xs = get16V xs (headV xs + 2)) ∨
    (byteV xs 9 = 1 ∧ Icmp.queryV (byteV xs (headV xs)) = true ∧ aboutA xs = get16V xs (headV xs + 4) ∧ aboutB xs = get16V xs (headV xs + 4)) ∨
    (byteV xs 9 = 1 ∧ Icmp.queryV (byteV xs (headV xs)) = false ∧ aboutA xs = 0 ∧ aboutB xs = 0) ∨
    (byteV xs 9 ≠ 6 ∧ byteV xs 9 ≠ 17 ∧ byteV xs 9 ≠ 1 ∧ aboutA xs = 0 ∧ aboutB xs = 0) := by
  unfold aboutA aboutB
  by_cases h1 : byteV xs 9 = 6 ∨ byteV xs 9 = 17
  · rw [if_pos h1, if_pos h1]; exact .inl ⟨h1, rfl, rfl⟩
  rw [if_neg h1, if_neg h1]
  by_cases h2 : byteV xs 9 = 1
  · cases hq : Icmp.queryV (byteV xs (headV xs)) with
    | true => exact .inr (.inl ⟨h2, rfl, by simp [h2], by simp [h2]⟩)
    | false => exact .inr (.inr (.inl ⟨h2, rfl, by simp, by simp⟩))
  · exact .inr (.inr (.inr ⟨by omega, by omega, h2, by simp [h2], by simp [h2]⟩))

end Go.Proofs.Ytkagkfbdpiblkaa.Pack

namespace Go.Proofs.Ytkagkfbdpiblkaa.Pack
open Go.RowKit
set_option linter.unusedVariables false
set_option maxRecDepth 100000

theorem about_bad (a : Option Addr) (len cap : Nat) (xs : List Int) (w : World) (h : Bytes w a len xs) (hn : len ≤ 1000000) (hq : isQuoteV xs = false) :
    Calls Try.prog 52 #[.slice a len cap] w (KeyAns w (aboutV xs)) := by
  have c1 := isQuote_any a len cap xs w h hn
  have hv : aboutV xs = none := by unfold aboutV; rw [hq]; simp
  rw [hv]
  rw [hq] at c1
  have HP : Hid (KeyAns w none (.returned (.pointer none)) w) := ⟨_, rfl, rfl, (by intro a h; cases h), Ext.refl w⟩
  generalize KeyAns w none = Ans at *
  clear hq hv
  go_enter Try.func52, Try.ntmps52
  go_wp2_with (go_at_call 68; refine c1.mono ?_; rintro e w1 ⟨rfl, rfl⟩)
  exact HP.out

set_option maxHeartbeats 4000000 in
theorem about_good (a : Option Addr) (len cap : Nat) (xs : List Int) (w : World) (h : Bytes w a len xs) (hcap : len ≤ cap) (hn : len ≤ 1000000) (hq : isQuoteV xs = true) :
    Calls Try.prog 52 #[.slice a len cap] w (KeyAns w (aboutV xs)) := by
  have hl := h.length
  have c1 := fun w h => isQuote_any a len cap xs w h hn
  have hv : aboutV xs = some (quotedV xs) := by unfold aboutV; rw [hq]; simp
  have hh := headV_bd h.ok
  have hf : 20 ≤ headV xs ∧ headV xs + 8 ≤ (xs.length : Int) := by
    unfold isQuoteV at hq
    rw [decide_eq_true_eq] at hq
    exact ⟨hq.1, hq.2.1⟩
  have hok := h.ok
  have hw9 := hok.byteV 9
  have cH := fun w h => header_any a len cap xs w h
  have hcs := about_cases xs
  rw [hv]
  unfold quotedV
  rw [hq] at c1
  rw [hl] at hf
  obtain ⟨k, hk⟩ : ∃ k : Nat, headV xs = k := ⟨(headV xs).toNat, by omega⟩
  rw [hk] at hh hf cH hcs
  obtain ⟨b, off, rfl, _⟩ := h.cell (k := 0) (by omega)
  obtain ⟨p1, hp1, hq1⟩ := h.part k len cap (by omega) (by omega) hcap
  have hpe : p1 = ⟨b, off + k, none⟩ := by rw [if_neg (by omega)] at hp1; simpa using hp1.symm
  rw [hpe] at hp1 hq1
  have gA := fun w h => get16_any (some ⟨b, off + k, none⟩) (len - k) (cap - k) ((xs.take len).drop k) 0 w h (by omega) (by omega)
  have gB := fun w h => get16_any (some ⟨b, off + k, none⟩) (len - k) (cap - k) ((xs.take len).drop k) 2 w h (by omega) (by omega)
  have gN := fun w h => number_any (some ⟨b, off + k, none⟩) (len - k) (cap - k) ((xs.take len).drop k) w h (by omega)
  have htk : xs.take len = xs := List.take_of_length_le (by omega)
  have eA : get16V ((xs.take len).drop k) 0 = get16V xs k := by rw [htk]; have := get16V_drop xs k 0; simpa using this
  have eB : get16V ((xs.take len).drop k) 2 = get16V xs (k + 2) := by rw [htk]; have := get16V_drop xs k 2; simpa using this
  have eN : get16V ((xs.take len).drop k) 4 = get16V xs (k + 4) := by rw [htk]; have := get16V_drop xs k 4; simpa using this
  rw [eA] at gA
  rw [eB] at gB
  rw [eN] at gN
  have bk : byteV xs k = xs[k]?.getD 0 := byteV_nat xs k
  have cQ := fun w => Icmp.query_any (xs[k]?.getD 0) w
  have b9 : byteV xs 9 = xs[9]?.getD 0 := byteV_nat xs 9
  have y9 := hok.get 9
  have yk := hok.get k
  have v9 := wraps_i64 _ y9.1 (by omega)
  have vk := wraps_i64 _ yk.1 (by omega)
  rw [bk, b9] at hcs
  rw [b9] at hw9 ⊢
  have g12 := fun w h => get32_any (some ⟨b, off, none⟩) len cap xs 12 w h (by omega) (by omega)
  have g16 := fun w h => get32_any (some ⟨b, off, none⟩) len cap xs 16 w h (by omega) (by omega)
  clear bk b9 eA eB eN htk hpe
  have HP : Hid (∀ g w', w.heap.size ≤ g → w'.heap[g]? = some (.cells #[.int .i64 (xs[9]?.getD 0), .int .u32 (accV xs 12 4), .int .u32 (accV xs 16 4), .int .i64 (aboutA xs), .int .i64 (aboutB xs)] 38 (0, 0)) → Ext w w' →
      KeyAns w (some ⟨xs[9]?.getD 0, accV xs 12 4, accV xs 16 4, aboutA xs, aboutB xs⟩) (.returned (.pointer (some ⟨g, 0, none⟩))) w') :=
    fun g w' hge hg hx => ⟨_, rfl, ⟨g, 0, rfl, KeyAt.of hg⟩, (by intro a h; cases h; exact hge), hx⟩
  generalize KeyAns w (some ⟨xs[9]?.getD 0, accV xs 12 4, accV xs 16 4, aboutA xs, aboutB xs⟩) = Ans at *
  have hrd : ∀ j, j < len → ∀ w', ExtN w.heap.size w.drew w' → w'.cell? ⟨b, off + j, none⟩ = some (.int .u8 (xs[j]?.getD 0)) := fun j hj w' hx => by
    obtain ⟨b', off', hab, hc⟩ := (h.below (ExtN.ext ((Ext.refl w).drew) hx (Nat.le_refl _))).cell hj
    obtain ⟨rfl, rfl⟩ : b = b' ∧ off = off' := by simpa using hab
    exact hc
  have r9 := hrd 9 (by omega)
  have HRk : Hid (∀ w', Ext w w' → w'.cell? ⟨b, off + k, none⟩ = some (.int .u8 (xs[k]?.getD 0))) := fun w' hx => by
    obtain ⟨b', off', hab, hc⟩ := (h.below hx).cell (k := k) (by omega)
    obtain ⟨rfl, rfl⟩ : b = b' ∧ off = off' := by simpa using hab
    exact hc
  clear hrd hk hv
  generalize accV xs 12 4 = s1 at *
  generalize accV xs 16 4 = s2 at *
  generalize xs[9]?.getD 0 = P at *
  generalize xs[k]?.getD 0 = T at *
  generalize get16V xs k = vA at *
  generalize get16V xs (k + 2) = vB at *
  generalize get16V xs (k + 4) = vN at *
  generalize Icmp.queryV T = Q at *
  generalize aboutA xs = fA at *
  generalize aboutB xs = fB at *
  have l9 : (9 : Int) < (len : Int) := by omega
  have lc : (len : Int) ≤ (cap : Int) := by omega
  have kl : (k : Int) ≤ (len : Int) := by omega
  have km : 0 < len - k := by omega
  have hX : Ext w w.drew := (Ext.refl w).drew
  go_enter Try.func52, Try.ntmps52
  go_wp2_with (go_at_call 68; refine (c1 _ h).mono ?_; rintro e w1 ⟨rfl, hw⟩; obtain rfl := hw.symm; clear hw)
  refine wp_region_makeN w.heap.size w.heap.size (Nat.le_refl _) [(0, 0), (1, 0), (2, 0), (3, 0), (4, 0), (6, 0), (9, 3), (5, 1), (7, 1), (8, 0), (9, 2), (10, 4)] (by kernel_rfl) (by kernel_rfl) rfl (by kernel_rfl) (fun _ _ _ _ _ => Iff.rfl) ?_
  generalize w.drew = W at *
  iterate 6 (refine wpW_read (v := ?_) rfl (by rfl) ?_ ?_; rotate_left; (focus (intro w' hx; go_simp; first | done | with_reducible rfl)); simp only [Act.put, List.setIfInBounds_toArray, List.set_cons_zero, List.set_cons_succ])
  (refine wpW_say _ (fun g => .pointer (some ⟨g, 0, none⟩)) rfl (by rfl) (fun w' => by go_simp; first | done | with_reducible rfl) ?_)
  refine wpW_call rfl (by rfl) (fun W1 hx1 K hK => ?_); go_simp; (go_at_call 44; have hX1 := hX.trans hx1; refine (g12 _ (h.below hX1)).mono ?_; rintro e w' ⟨rfl, rfl⟩; refine hK _ _ (Ext.refl _) ?_; clear hK K)
  refine wpW_call rfl (by rfl) (fun W2 hx2 K hK => ?_); go_simp; (go_at_call 44; have hX2 := hX1.trans hx2; refine (g16 _ (h.below hX2)).mono ?_; rintro e w' ⟨rfl, rfl⟩; refine hK _ _ (Ext.refl _) ?_; clear hK K)
  (refine wpW_read (v := ?_) rfl (by rfl) ?_ ?_; rotate_left; (focus (intro w' hx; go_simp; first | done | with_reducible rfl)); simp only [Act.put, List.setIfInBounds_toArray, List.set_cons_zero, List.set_cons_succ])
  refine wpW_make _ (fun g => .pointer (some ⟨g, 0, none⟩)) rfl (by rfl) (fun w' => by go_simp; first | done | with_reducible rfl) ?_; simp only [Act.put, List.setIfInBounds_toArray, List.set_cons_zero, List.set_cons_succ]; intro W3 g hx3 hBg hg3
  have hX3 := hX2.trans hx3
  obtain ⟨d0, d1, d2, d3, d4⟩ := box_key (x := g + 1) hg3 (by omega) W3 (ExtX.refl _ _)
  have f0 := frozen_ip hg3
  have G3 : Hid _ := hg3
  clear hg3 r9 g12 g16 v9
  refine wpW_last rfl (by rfl) (fun K hK => ?_)
  go_simp
  refine hK _ _ (extN_set_key W3 g (by omega) (.int .i64 P) (.int .u32 s1) (.int .u32 s2) (.int .i64 0) (.int .i64 0)) ?_
  clear hK K
  have K4 := set_key G3.out (.int .i64 P) (.int .u32 s1) (.int .u32 s2) (.int .i64 0) (.int .i64 0)
  have hX4 := ExtN.ext hX3 (extN_set_key (N := w.heap.size) W3 g (by omega) (.int .i64 P) (.int .u32 s1) (.int .u32 s2) (.int .i64 0) (.int .i64 0)) (Nat.le_refl _)
  refine wpW_done ?_
  clear d0 d1 d2 d3 d4 f0 G3 hX hX1 hX2 hX3 hx1 hx2 hx3
  generalize (((((W3.setCell ⟨g, 0, none⟩ (.int .i64 P)).setCell ⟨g, 1, none⟩ (.int .u32 s1)).setCell ⟨g, 2, none⟩ (.int .u32 s2)).setCell ⟨g, 3, none⟩ (.int .i64 0)).setCell ⟨g, 4, none⟩ (.int .i64 0)) = V at *
  have m0 := heap_cell (k := 0) K4
  have m3 := heap_cell (k := 3) K4
  have m4 := heap_cell (k := 4) K4
  have f4 := frozen_ip K4
  have H4 := h.below hX4
  have Hq := hq1 _ hX4
  have rk := HRk.out _ hX4
  have K5 := fun u v => set_at 4 u (set_at 3 v (l := [.int .i64 P, .int .u32 s1, .int .u32 s2, .int .i64 0, .int .i64 0]) K4)
  simp only [List.set_cons_zero, List.set_cons_succ] at K5
  have KK4 : Hid _ := K4
  have KK5 : Hid _ := K5
  have HX4 : Hid _ := hX4
  have hge : w.heap.size ≤ g := by omega
  clear K4 K5 hX4 hq1 HRk h
  rcases hcs with ⟨hP, rfl, rfl⟩ | ⟨rfl, rfl, rfl, rfl⟩ | ⟨rfl, rfl, rfl, rfl⟩ | ⟨hP1, hP2, hP3, rfl, rfl⟩
  · have tok1 : Hid True := trivial
    rcases hP with rfl | rfl
    all_goals
      go_wp2_with (first
        | (go_at_call 61; refine (cH _ H4).mono ?_; rintro e w1 ⟨rfl, hw⟩; obtain rfl := hw.symm; clear hw)
        | (go_at_call 43; clear tok1; refine (gA _ Hq).mono ?_; rintro e w1 ⟨rfl, hw⟩; obtain rfl := hw.symm; clear hw)
        | (go_at_call 43; refine (gB _ Hq).mono ?_; rintro e w1 ⟨rfl, hw⟩; obtain rfl := hw.symm; clear hw))
      exact HP.out g _ hge (KK5.out _ _) (ExtN.ext HX4.out (((ExtN.refl w.heap.size V).setCell (p := ⟨g, 3, none⟩) hge _).setCell (p := ⟨g, 4, none⟩) hge _) (Nat.le_refl _))
  · go_wp2_with (first
        | (go_at_call 61; refine (cH _ H4).mono ?_; rintro e w1 ⟨rfl, hw⟩; obtain rfl := hw.symm; clear hw)
        | (go_at_call 49; refine (cQ _).mono ?_; rintro e w1 ⟨rfl, hw⟩; obtain rfl := hw.symm; clear hw)
        | (go_at_call 50; refine (gN _ Hq).mono ?_; rintro e w1 ⟨rfl, hw⟩; obtain rfl := hw.symm; clear hw))
    exact HP.out g _ hge (KK5.out _ _) (ExtN.ext HX4.out (((ExtN.refl w.heap.size V).setCell (p := ⟨g, 3, none⟩) hge _).setCell (p := ⟨g, 4, none⟩) hge _) (Nat.le_refl _))
  · go_wp2_with (first
        | (go_at_call 61; refine (cH _ H4).mono ?_; rintro e w1 ⟨rfl, hw⟩; obtain rfl := hw.symm; clear hw)
        | (go_at_call 49; refine (cQ _).mono ?_; rintro e w1 ⟨rfl, hw⟩; obtain rfl := hw.symm; clear hw))
    exact HP.out g _ hge KK4.out HX4.out
  · have e1 : (P == 6) = false := by simpa using hP1
    have e2 : (P == 17) = false := by simpa using hP2
    have e3 : (P == 1) = false := by simpa using hP3
    go_wp2_with (first
        | (go_at_call 61; refine (cH _ H4).mono ?_; rintro e w1 ⟨rfl, hw⟩; obtain rfl := hw.symm; clear hw))
    exact HP.out g _ hge KK4.out HX4.out

theorem about_any (a : Option Addr) (len cap : Nat) (xs : List Int) (w : World) (h : Bytes w a len xs) (hcap : len ≤ cap) (hn : len ≤ 1000000) :
    Calls Try.prog 52 #[.slice a len cap] w (KeyAns w (aboutV xs)) := by
  cases hq : isQuoteV xs with
  | true => exact about_good a len cap xs w h hcap hn hq
  | false => exact about_bad a len cap xs w h hn hq

end Go.Proofs.Ytkagkfbdpiblkaa.Pack
