/- What ip.Header, ip.lengths and the document's own Header and look answer at any bytes (chapter 4). -/
import Derived.Test.YtllnphbeoaobdaaIpP
import Derived.Test.YtllnphbeoaobdaaSum
import Derived.Test.YtllnphbeoaobdaaRef2
namespace Go.Proofs.Ytllnphbeoaobdaa
open Go.RowKit
set_option linter.unusedVariables false

theorem header_any (a : Option Addr) (len cap : Nat) (xs : List Int) (w : World) (h : Bytes w a len xs) :
    Calls Try.prog 34 #[.slice a len cap] w fun e w' => e = .returned (.int .i64 (headV xs)) ∧ w' = w := by
  have hl := h.length
  have hs := h.small
  by_cases h0 : len = 0
  · have e : headV xs = 0 := by unfold headV; rw [byteV_past (by omega)]; rfl
    rw [e]; subst h0; clear e h hl
    go_enter Try.func34, Try.ntmps34
    go_wp2
    go_ret
    exact ⟨rfl, rfl⟩
  · have e : headV xs = xs[0]?.getD 0 % 16 * 4 := by
      have ex0 : byteV xs 0 = xs[0]?.getD 0 := byteV_nat xs 0
      unfold headV; rw [ex0]
    have hb := h.ok.get 0
    obtain ⟨b, off, rfl, hc⟩ := h.cell (k := 0) (by omega)
    rw [Nat.add_zero] at hc
    have ha := u8_and15 _ hb.1 hb.2
    generalize xs[0]?.getD 0 = x at *
    rw [e]; clear e h hl
    go_enter Try.func34, Try.ntmps34
    go_wp2
    go_ret
    exact ⟨rfl, rfl⟩

theorem refHeader_any (a : Option Addr) (len cap : Nat) (xs : List Int) (w : World) (h : Bytes w a len xs) :
    Calls Try.prog 35 #[.slice a len cap] w fun e w' => e = .returned (.int .i64 (headV xs)) ∧ w' = w := by
  have hl := h.length
  have hs := h.small
  by_cases h0 : len = 0
  · have e : headV xs = 0 := by unfold headV; rw [byteV_past (by omega)]; rfl
    rw [e]; subst h0; clear e h hl
    go_enter Try.func35, Try.ntmps35
    go_wp2
    go_ret
    exact ⟨rfl, rfl⟩
  · have e : headV xs = 4 * (xs[0]?.getD 0 % 16) := by
      have ex0 : byteV xs 0 = xs[0]?.getD 0 := byteV_nat xs 0
      unfold headV; rw [ex0]; omega
    have hb := h.ok.get 0
    obtain ⟨b, off, rfl, hc⟩ := h.cell (k := 0) (by omega)
    rw [Nat.add_zero] at hc
    have ha := u8_and15 _ hb.1 hb.2
    generalize xs[0]?.getD 0 = x at *
    rw [e]; clear e h hl
    go_enter Try.func35, Try.ntmps35
    go_wp2
    go_ret
    exact ⟨rfl, rfl⟩

/-- What lengths answers. -/
def lenE (xs : List Int) : Ending := .returned (.tuple #[.int .i64 (if lookV xs = 0 then headV xs else 0), .int .i64 (if lookV xs = 0 then get16V xs 2 else 0), .int .i64 (lookV xs)])

end Go.Proofs.Ytllnphbeoaobdaa
