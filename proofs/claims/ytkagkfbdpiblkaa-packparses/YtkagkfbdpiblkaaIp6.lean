/- What law 4's 'known' answers; Parse by what its bytes are. -/
import Derived.Test.YtkagkfbdpiblkaaIpM
import Derived.Test.YtkagkfbdpiblkaaIp3P
import Derived.Test.YtkagkfbdpiblkaaIp5B
namespace Go.Proofs.Ytkagkfbdpiblkaa
open Go.RowKit
set_option linter.unusedVariables false

/-- Parse of bytes that are a packet. -/
theorem parse_is (a : Option Addr) (len cap : Nat) (xs : List Int) (p : IPv) (w : World) (h : Bytes w a len xs) (hcap : len ≤ cap) (hn : len ≤ 1000000) (hv : lookV xs = 0) (hp : parseV xs = p) :
    Calls Try.prog 27 #[.slice a len cap] w fun e w' => ∃ a1 n1 c1 a2 n2 c2, e = .returned (.tuple #[.agg #[.int .i64 p.tos, .int .i64 p.id, .bool p.df, .bool p.mf, .int .i64 p.off, .int .i64 p.ttl, .int .i64 p.proto, .int .u32 p.src, .int .u32 p.dst, .slice a1 n1 c1, .slice a2 n2 c2], .int .i64 0]) ∧ Bytes w' a1 n1 p.opts ∧ (a1 = none → c1 = 0) ∧ Bytes w' a2 n2 p.data ∧ (a2 = none → c2 = 0) ∧ Ext w w' := by
  refine (parse_any a len cap xs w h hcap hn).mono ?_
  rintro e w' ⟨v, rfl, ⟨⟨a1, n1, c1, a2, n2, c2, hval, h1, z1, h2, z2, _⟩⟩, hx⟩
  have hpk : packV xs = p := by unfold packV; rw [if_pos hv, hp]
  rw [hpk] at hval h1 h2
  exact ⟨a1, n1, c1, a2, n2, c2, by rw [hval, hv], h1, z1, h2, z2, hx⟩

/-- Parse of bytes that are none. -/
theorem parse_not (a : Option Addr) (len cap : Nat) (xs : List Int) (er : Int) (w : World) (h : Bytes w a len xs) (hcap : len ≤ cap) (hn : len ≤ 1000000) (hv : lookV xs = er) (h0 : er ≠ 0) :
    Calls Try.prog 27 #[.slice a len cap] w fun e w' => ∃ a1 n1 c1 a2 n2 c2, e = .returned (.tuple #[.agg #[.int .i64 zeroIP.tos, .int .i64 zeroIP.id, .bool zeroIP.df, .bool zeroIP.mf, .int .i64 zeroIP.off, .int .i64 zeroIP.ttl, .int .i64 zeroIP.proto, .int .u32 zeroIP.src, .int .u32 zeroIP.dst, .slice a1 n1 c1, .slice a2 n2 c2], .int .i64 er]) ∧ Bytes w' a1 n1 zeroIP.opts ∧ (a1 = none → c1 = 0) ∧ Bytes w' a2 n2 zeroIP.data ∧ (a2 = none → c2 = 0) ∧ Ext w w' := by
  refine (parse_any a len cap xs w h hcap hn).mono ?_
  rintro e w' ⟨v, rfl, ⟨⟨a1, n1, c1, a2, n2, c2, hval, h1, z1, h2, z2, _⟩⟩, hx⟩
  have hpk : packV xs = zeroIP := by unfold packV; rw [if_neg (by omega)]
  rw [hpk] at hval h1 h2
  exact ⟨a1, n1, c1, a2, n2, c2, by rw [hval, hv], h1, z1, h2, z2, hx⟩

def fiveIP : IPv := ⟨0, 0, false, false, 0, 5, 0, 0, 0, [], []⟩

theorem five_fine : Fine fiveIP := ⟨by decide, by decide, by decide, by decide, by intro x hx; simp [fiveIP] at hx, by intro x hx; simp [fiveIP] at hx⟩
theorem five_fits : Fits fiveIP := ⟨by decide, by decide, by decide, by decide, by decide, by decide, by decide, by decide, by decide, by decide, by decide, by decide⟩

end Go.Proofs.Ytkagkfbdpiblkaa
