/- What icmp.Quote and the document's own Quote answer at any bytes (chapter 7). -/
import Derived.Test.YtkagkfbdpiblkaaIcmpP
import Derived.Test.YtkagkfbdpiblkaaIp1
namespace Go.Proofs.Ytkagkfbdpiblkaa.Icmp
open Go.RowKit
set_option linter.unusedVariables false

/-- The begin of a slice of bytes. -/
theorem bytes_take {w : World} {a : Option Addr} {len : Nat} {xs : List Int} (h : Bytes w a len xs) (m : Nat) (hm : m ≤ len) : Bytes w a m (xs.take m) := by
  have hl := h.length
  have hs := h.small
  refine ⟨by simp; omega, by omega, fun x hx => h.ok x (List.mem_of_mem_take hx), ?_⟩
  rcases h.cells with h0 | ⟨b, off, rfl, hc⟩
  · exact .inl (by omega)
  · refine .inr ⟨b, off, rfl, fun i hi => ?_⟩
    rw [hc i (by omega), List.getElem?_take, if_pos hi]

set_option maxHeartbeats 1000000 in
theorem refQuote_any (a : Option Addr) (len cap : Nat) (xs : List Int) (w : World) (h : Bytes w a len xs) (hcap : len ≤ cap) (hz : a = none → cap = 0) (hn : len ≤ 1000000) (m : Nat) (hm : quoteN xs = m) (ys : List Int) (hy : quoteV xs = ys) :
    Calls Try.prog 23 #[.slice a len cap] w fun e w' => ∃ q c, e = .returned (.slice q m c) ∧ Bytes w' q m ys ∧ Ext w w' := by
  have hl := h.length
  have hb := headV_bd h.ok
  obtain ⟨k, hk⟩ : ∃ k : Nat, headV xs + 8 = k := ⟨(headV xs + 8).toNat, by omega⟩
  have hq : min k len = m := by rw [← hm]; unfold quoteN; rw [hk, hl, Int.toNat_natCast]
  have hv : xs.take m = ys := by rw [← hy, ← hm]; rfl
  have c1 := fun w h => refHeader_any a len cap xs w h
  have hx : Ext w (w.alloc (.cells #[] 5)) := (Ext.refl w).alloc _
  have hB := (bytes_take h m (by omega)).below hx
  rw [hv] at hB
  have oY := hB.ok
  obtain ⟨i0, hi, hz0, hz1, hz2⟩ := info_parts Try.infoByte
  clear hm hy hv
  generalize headV xs = hd at *
  rcases (by omega : (k < len ∧ m = k) ∨ (len ≤ k ∧ m = len)) with ⟨h1, rfl⟩ | ⟨h1, rfl⟩
  all_goals
    clear hq
    go_enter Try.func23, Try.ntmps23
    go_wp2_with (first
      | (go_at_call 39; refine (c1 _ (h.below hx)).mono ?_; rintro e w1 ⟨rfl, rfl⟩)
      | (at_builtin; refine append_bytes (by rfl) (.tmp 3) (.tmp 11) 22 rfl w.heap.size 5 i0 (.int .u8 0) Try.underlying22 hi hz0 hz1 hz2 rfl _ _ _ rfl (own_empty w) a _ cap ys rfl hB hz (by omega) (by simp) ?_; intro v4 w4 ho4 hg4; have hx4 := grown_ext ((Ext.refl w).alloc _) (own_empty w) hg4; clear hg4; simp only [List.nil_append, Nat.zero_add] at ho4; obtain ⟨q, d, rfl⟩ := owns_shape ho4))
    go_ret
    exact ⟨q, d, rfl, (owns_slice ho4 oY).1, hx4⟩

end Go.Proofs.Ytkagkfbdpiblkaa.Icmp
