/- Package match: a table's prefixes, the first table of a name. -/
import Derived.Test.YtdkmakjjcfkfaaaMaP
import Derived.Test.YtdkmakjjcfkfaaaRowK
import Derived.Test.YtdkmakjjcfkfaaaAddr
import Derived.Shelf.Abstract
import Derived.Deep.LoopGhost
namespace Go.Proofs.Ytdkmakjjcfkfaaa.Ma
open Go.RowKit Go.Proofs.Ytdkmakjjcfkfaaa Go.Proofs.Ytdkmakjjcfkfaaa.Ru
set_option linter.unusedVariables false
set_option linter.unusedSimpArgs false
set_option maxRecDepth 100000

theorem px_size : (Try.prog.info? 32).map (·.size) = some 2 := by kernel_rfl
theorem nm_size : (Try.prog.info? 53).map (·.size) = some 2 := by kernel_rfl
theorem side_size : (Try.prog.info? 36).map (·.size) = some 6 := by kernel_rfl
theorem rule_size : (Try.prog.info? 43).map (·.size) = some 28 := by kernel_rfl
theorem pk_size : (Try.prog.info? 30).map (·.size) = some 18 := by kernel_rfl

/-- A row of prefixes. -/
abbrev RdPX := RdK 2 pxL

/-- The tables' rows of prefixes. -/
def RdT (w : World) (T : List NmV) : Prop := ∀ z ∈ T, RdPX w z.a z.n z.L ∧ z.n ≤ 9223372036854775807 ∧ PxOk z.L

theorem RdT.ext {w w' : World} {T : List NmV} (h : RdT w T) (hx : Ext w w') : RdT w' T := fun z hz => ⟨(h z hz).1.ext hx, (h z hz).2⟩

/-- A row of tables. -/
structure RdN (w : World) (p : Option Addr) (n : Nat) (T : List NmV) : Prop where
  row : RdK 2 nmL w p n T
  le : n ≤ 9223372036854775807
  in_ : RdT w T

theorem RdN.ext {w w' : World} {p : Option Addr} {n : Nat} {T : List NmV} (h : RdN w p n T) (hx : Ext w w') : RdN w' p n T := ⟨h.row.ext hx, h.le, h.in_.ext hx⟩

set_option maxHeartbeats 1000000 in
theorem hasFn_any (x : PX) (b : Nat) (a : Int) (w : World) (hc : ∀ w', Ext w w' → w'.cell? ⟨b, 0, none⟩ = some (.int .u32 a)) (x0 : 0 ≤ x.1) (x1 : x.1 ≤ 4294967295) (a0 : 0 ≤ a) (a1 : a ≤ 4294967295) :
    Calls Try.prog 29 #[.agg (pxL x).toArray, .pointer (some ⟨b, 0, none⟩)] w fun e w' => e = .returned (.bool (hasV x.1 x.2 a)) ∧ Ext w w' := by
  obtain ⟨x, n⟩ := x
  show Calls Try.prog 29 #[.agg #[.int .u32 x, .int .i64 n], .pointer (some ⟨b, 0, none⟩)] w _
  have c1 := fun w => has_any x n a w x0 x1 a0 a1
  dsimp only at *
  generalize hasV x n a = y at *
  obtain ⟨W, hW⟩ : ∃ W, w.alloc (.cells #[.int .u32 x, .int .i64 n] 32) = W := ⟨_, rfl⟩
  have hx0 : Ext w W := hW ▸ (Ext.refl w).alloc _
  have hcW := hc W hx0
  have hb0 : W.cell? ⟨w.heap.size, 0, none⟩ = some (.int .u32 x) := by rw [← hW]; exact heap_cell (heap_new w _)
  have hb1 : W.cell? ⟨w.heap.size, 1, none⟩ = some (.int .i64 n) := by rw [← hW]; exact heap_cell (heap_new w _)
  clear hc
  go_enter Try.func29, Try.ntmps29
  go_wp2_with (go_at_call 24; refine (c1 _).mono ?_; rintro e w1 ⟨rfl, hx1⟩)
  go_ret
  exact ⟨rfl, hx0.trans hx1⟩

set_option maxHeartbeats 1000000 in
theorem nameFn_any (z : NmV) (b : Nat) (name : ByteArray) (w : World) (hc : ∀ w', Ext w w' → w'.cell? ⟨b, 0, none⟩ = some (.string name)) :
    Calls Try.prog 27 #[.agg (nmL z).toArray, .pointer (some ⟨b, 0, none⟩)] w fun e w' => e = .returned (.bool (isT name z)) ∧ Ext w w' := by
  obtain ⟨s, p, n, c, L⟩ := z
  show Calls Try.prog 27 #[.agg #[.string s, .slice p n c], .pointer (some ⟨b, 0, none⟩)] w fun e w' => e = .returned (.bool (s.toList == name.toList)) ∧ Ext w w'
  obtain ⟨W, hW⟩ : ∃ W, w.alloc (.cells #[.string s, .slice p n c] 53) = W := ⟨_, rfl⟩
  have hx0 : Ext w W := hW ▸ (Ext.refl w).alloc _
  have hcW := hc W hx0
  have hb0 : W.cell? ⟨w.heap.size, 0, none⟩ = some (.string s) := by rw [← hW]; exact heap_cell (heap_new w _)
  clear hc
  go_enter Try.func27, Try.ntmps27
  go_wp2
  go_ret
  exact ⟨rfl, hx0⟩

/-- A place, or none. -/
def IndexAns (w : World) (y : Bool) (e : Ending) (w' : World) : Prop := ∃ z, e = .returned (.int .i64 z) ∧ ((∃ k : Nat, z = (k : Int) ∧ y = true) ∨ (z = -1 ∧ y = false)) ∧ Ext w w'

set_option maxHeartbeats 1000000 in
theorem indexP (g : Nat) (cb : Array Value) (p : Option Addr) (n c : Nat) (L : List PX) (f : PX → Bool) (w : World) (eg : ∀ args w, (callFunc g args).run Try.prog w = .ok (.enter g args) w) (hR : RdPX w p n L) (hn : n ≤ 9223372036854775807)
    (hf : ∀ w', Ext w w' → ∀ x ∈ L, Calls Try.prog g (#[.agg (pxL x).toArray] ++ cb) w' fun e w2 => e = .returned (.bool (f x)) ∧ Ext w' w2) :
    Calls Try.prog 32 #[.slice p n c, .func (.func g) #[] cb] w (IndexAns w (L.any f)) := by
  have HF : Hid _ := hf
  have HR : Hid (RdPX w p n L) := hR
  have HL : Hid (L.length = n) := hR.len
  clear hf hR
  go_enter Try.func32, Try.ntmps32
  go_wp2_with fail
  go_loopg [8] n (fun kx s8 wr => ∃ k : Nat, s8 = .int .i64 k ∧ k ≤ n ∧ n - k ≤ kx ∧ Ext w wr ∧ Hid ((L.take k).any f = false))
  case atStart => exact ⟨0, rfl, Nat.zero_le _, Nat.le_refl _, Ext.refl _, (rfl : (L.take 0).any f = false)⟩
  case round =>
    obtain ⟨k, rfl, hkn, hkx, hx, HA⟩ := hrel
    by_cases hlt : k < n
    · obtain ⟨x, hxk⟩ : ∃ x, L[k]? = some x := ⟨_, List.getElem?_eq_getElem (by rw [HL.out]; omega)⟩
      have hc := HF.out wr hx x (List.mem_of_getElem? hxk)
      obtain ⟨b, off, rfl, hb, hg⟩ := (HR.out.ext hx).get hxk
      have hr := hg _ (Ext.refl wr)
      have HT : Hid ((L.take (k + 1)).any f = ((L.take k).any f || f x)) := any_take hxk
      have hki : (k : Int) < (n : Int) := by omega
      clear hxk hb hg
      cases hz : f x with
      | true =>
        rw [hz] at hc
        have HZ : Hid (L.any f = true) := any_in HT.out hz
        clear hz
        go_wp2_with (first | (refine wpl_range (by rfl) 32 _ rfl b (off + k * 2) _ _ rfl hr Try.underlying32 rfl px_size ?_) | (go_at_fn g; refine hc.mono ?_; rintro e w1 ⟨rfl, hx1⟩))
        go_ret
        exact ⟨(k : Int), rfl, .inl ⟨k, rfl, HZ.out⟩, hx.trans hx1⟩
      | false =>
        rw [hz] at hc
        have HZ : Hid ((L.take (k + 1)).any f = false) := by have h := HT.out; rw [HA.out, hz] at h; exact h
        clear hz
        go_wp2_with (first | (refine wpl_range (by rfl) 32 _ rfl b (off + k * 2) _ _ rfl hr Try.underlying32 rfl px_size ?_) | (go_at_fn g; refine hc.mono ?_; rintro e w1 ⟨rfl, hx1⟩))
        go_roundg (n - (k + 1))
        case measure => omega
        case rel => exact ⟨k + 1, by go_num, by omega, Nat.le_refl _, hx.trans hx1, HZ⟩
    · obtain rfl : k = n := by omega
      have HZ : Hid (L.any f = false) := by have h := HA.out; rwa [List.take_of_length_le (by rw [HL.out]; exact Nat.le_refl _)] at h
      go_wp2_with fail
      go_ret
      exact ⟨-1, rfl, .inr ⟨rfl, HZ.out⟩, hx⟩

set_option maxHeartbeats 1000000 in
theorem containsP (g : Nat) (cb : Array Value) (p : Option Addr) (n c : Nat) (L : List PX) (f : PX → Bool) (w : World) (eg : ∀ args w, (callFunc g args).run Try.prog w = .ok (.enter g args) w) (hR : RdPX w p n L) (hn : n ≤ 9223372036854775807)
    (hf : ∀ w', Ext w w' → ∀ x ∈ L, Calls Try.prog g (#[.agg (pxL x).toArray] ++ cb) w' fun e w2 => e = .returned (.bool (f x)) ∧ Ext w' w2) :
    Calls Try.prog 28 #[.slice p n c, .func (.func g) #[] cb] w fun e w' => e = .returned (.bool (L.any f)) ∧ Ext w w' := by
  have ci := indexP g cb p n c L f w eg hR hn hf
  generalize L.any f = y at *
  clear hf hR eg
  go_enter Try.func28, Try.ntmps28
  go_wp2_with fail
  go_at_call 32
  refine ci.mono ?_
  rintro e w1 ⟨z, rfl, hz, hx1⟩
  rcases hz with ⟨k, rfl, rfl⟩ | ⟨rfl, rfl⟩
  · have hk : (0 : Int) ≤ (k : Int) := by omega
    go_wp2_with fail
    go_ret
    exact ⟨rfl, hx1⟩
  · go_wp2_with fail
    go_ret
    exact ⟨rfl, hx1⟩

/-- The place of the first one, or none. -/
def FindAns {α : Type} (L : List α) (f : α → Bool) (w : World) (e : Ending) (w' : World) : Prop := ∃ z, e = .returned (.int .i64 z) ∧ ((∃ (k : Nat) (x : α), z = (k : Int) ∧ L[k]? = some x ∧ L.find? f = some x) ∨ (z = -1 ∧ L.find? f = none)) ∧ Ext w w'

theorem find_at {α : Type} {L : List α} {f : α → Bool} {k : Nat} {x : α} (h : L[k]? = some x) (h0 : (L.take k).any f = false) (hx : f x = true) : L.find? f = some x := by
  have e : L = L.take k ++ x :: L.drop (k + 1) := by
    obtain ⟨hk, rfl⟩ := List.getElem?_eq_some_iff.1 h
    rw [← List.drop_eq_getElem_cons hk, List.take_append_drop]
  rw [e, List.find?_append, List.find?_eq_none.2 (by intro y hy; rw [List.any_eq_false] at h0; exact h0 y hy)]
  simp [hx]

theorem find_no {α : Type} {L : List α} {f : α → Bool} (h0 : L.any f = false) : L.find? f = none := List.find?_eq_none.2 (by intro y hy; rw [List.any_eq_false] at h0; exact h0 y hy)

set_option maxHeartbeats 1000000 in
theorem indexN (g : Nat) (cb : Array Value) (p : Option Addr) (n c : Nat) (L : List NmV) (f : NmV → Bool) (w : World) (eg : ∀ args w, (callFunc g args).run Try.prog w = .ok (.enter g args) w) (hR : RdK 2 nmL w p n L) (hn : n ≤ 9223372036854775807)
    (hf : ∀ w', Ext w w' → ∀ x ∈ L, Calls Try.prog g (#[.agg (nmL x).toArray] ++ cb) w' fun e w2 => e = .returned (.bool (f x)) ∧ Ext w' w2) :
    Calls Try.prog 26 #[.slice p n c, .func (.func g) #[] cb] w (FindAns L f w) := by
  have HF : Hid _ := hf
  have HR : Hid (RdK 2 nmL w p n L) := hR
  have HL : Hid (L.length = n) := hR.len
  clear hf hR
  go_enter Try.func26, Try.ntmps26
  go_wp2_with fail
  go_loopg [8] n (fun kx s8 wr => ∃ k : Nat, s8 = .int .i64 k ∧ k ≤ n ∧ n - k ≤ kx ∧ Ext w wr ∧ Hid ((L.take k).any f = false))
  case atStart => exact ⟨0, rfl, Nat.zero_le _, Nat.le_refl _, Ext.refl _, (rfl : (L.take 0).any f = false)⟩
  case round =>
    obtain ⟨k, rfl, hkn, hkx, hx, HA⟩ := hrel
    by_cases hlt : k < n
    · obtain ⟨x, hxk⟩ : ∃ x, L[k]? = some x := ⟨_, List.getElem?_eq_getElem (by rw [HL.out]; omega)⟩
      have hc := HF.out wr hx x (List.mem_of_getElem? hxk)
      obtain ⟨b, off, rfl, hb, hg⟩ := (HR.out.ext hx).get hxk
      have hr := hg _ (Ext.refl wr)
      have HT : Hid ((L.take (k + 1)).any f = ((L.take k).any f || f x)) := any_take hxk
      have hki : (k : Int) < (n : Int) := by omega
      have HK : Hid (L[k]? = some x) := hxk
      clear hxk hb hg
      cases hz : f x with
      | true =>
        rw [hz] at hc
        have HZ : Hid (L.find? f = some x) := find_at HK.out HA.out hz
        clear hz
        go_wp2_with (first | (refine wpl_range (by rfl) 53 _ rfl b (off + k * 2) _ _ rfl hr Try.underlying53 rfl nm_size ?_) | (go_at_fn g; refine hc.mono ?_; rintro e w1 ⟨rfl, hx1⟩))
        go_ret
        exact ⟨(k : Int), rfl, .inl ⟨k, x, rfl, HK.out, HZ.out⟩, hx.trans hx1⟩
      | false =>
        rw [hz] at hc
        have HZ : Hid ((L.take (k + 1)).any f = false) := by have h := HT.out; rw [HA.out, hz] at h; exact h
        clear hz
        go_wp2_with (first | (refine wpl_range (by rfl) 53 _ rfl b (off + k * 2) _ _ rfl hr Try.underlying53 rfl nm_size ?_) | (go_at_fn g; refine hc.mono ?_; rintro e w1 ⟨rfl, hx1⟩))
        go_roundg (n - (k + 1))
        case measure => omega
        case rel => exact ⟨k + 1, by go_num, by omega, Nat.le_refl _, hx.trans hx1, HZ⟩
    · obtain rfl : k = n := by omega
      have HZ : Hid (L.find? f = none) := by have h := HA.out; rw [List.take_of_length_le (by rw [HL.out]; exact Nat.le_refl _)] at h; exact find_no h
      go_wp2_with fail
      go_ret
      exact ⟨-1, rfl, .inr ⟨rfl, HZ.out⟩, hx⟩
end Go.Proofs.Ytdkmakjjcfkfaaa.Ma
