/- What law 4's 'known' answers; Parse by what its bytes are. -/
import Derived.Test.YtlfjbmjincffoaaIpM
import Derived.Test.YtlfjbmjincffoaaIp3P
import Derived.Test.YtlfjbmjincffoaaIp5B
namespace Go.Proofs.Ytlfjbmjincffoaa
open Go.RowKit
set_option linter.unusedVariables false

/-- Parse of bytes that are a packet. -/
theorem parse_is (a : Option Addr) (len cap : Nat) (xs : List Int) (p : IPv) (w : World) (h : Bytes w a len xs) (hcap : len ≤ cap) (hn : len ≤ 1000000) (hv : lookV xs = 0) (hp : parseV xs = p) :
    Calls Try.prog 11 #[.slice a len cap] w fun e w' => ∃ a1 n1 c1 a2 n2 c2, e = .returned (.tuple #[.agg #[.int .i64 p.tos, .int .i64 p.id, .bool p.df, .bool p.mf, .int .i64 p.off, .int .i64 p.ttl, .int .i64 p.proto, .int .u32 p.src, .int .u32 p.dst, .slice a1 n1 c1, .slice a2 n2 c2], .int .i64 0]) ∧ Bytes w' a1 n1 p.opts ∧ (a1 = none → c1 = 0) ∧ Bytes w' a2 n2 p.data ∧ (a2 = none → c2 = 0) ∧ Ext w w' := by
  refine (parse_any a len cap xs w h hcap hn).mono ?_
  rintro e w' ⟨v, rfl, ⟨⟨a1, n1, c1, a2, n2, c2, hval, h1, z1, h2, z2⟩⟩, hx⟩
  have hpk : packV xs = p := by unfold packV; rw [if_pos hv, hp]
  rw [hpk] at hval h1 h2
  exact ⟨a1, n1, c1, a2, n2, c2, by rw [hval, hv], h1, z1, h2, z2, hx⟩

/-- Parse of bytes that are none. -/
theorem parse_not (a : Option Addr) (len cap : Nat) (xs : List Int) (er : Int) (w : World) (h : Bytes w a len xs) (hcap : len ≤ cap) (hn : len ≤ 1000000) (hv : lookV xs = er) (h0 : er ≠ 0) :
    Calls Try.prog 11 #[.slice a len cap] w fun e w' => ∃ a1 n1 c1 a2 n2 c2, e = .returned (.tuple #[.agg #[.int .i64 zeroIP.tos, .int .i64 zeroIP.id, .bool zeroIP.df, .bool zeroIP.mf, .int .i64 zeroIP.off, .int .i64 zeroIP.ttl, .int .i64 zeroIP.proto, .int .u32 zeroIP.src, .int .u32 zeroIP.dst, .slice a1 n1 c1, .slice a2 n2 c2], .int .i64 er]) ∧ Bytes w' a1 n1 zeroIP.opts ∧ (a1 = none → c1 = 0) ∧ Bytes w' a2 n2 zeroIP.data ∧ (a2 = none → c2 = 0) ∧ Ext w w' := by
  refine (parse_any a len cap xs w h hcap hn).mono ?_
  rintro e w' ⟨v, rfl, ⟨⟨a1, n1, c1, a2, n2, c2, hval, h1, z1, h2, z2⟩⟩, hx⟩
  have hpk : packV xs = zeroIP := by unfold packV; rw [if_neg (by omega)]
  rw [hpk] at hval h1 h2
  exact ⟨a1, n1, c1, a2, n2, c2, by rw [hval, hv], h1, z1, h2, z2, hx⟩

/-- Build, as a slice of bytes. -/
theorem build_is (p : IPv) (a1 : Option Addr) (n1 c1 : Nat) (a2 : Option Addr) (n2 c2 : Nat) (w : World) (h1 : Bytes w a1 n1 p.opts) (z1 : a1 = none → c1 = 0) (h2 : Bytes w a2 n2 p.data) (z2 : a2 = none → c2 = 0)
    (f : Fine p) (hp : Fits p) (hn2 : n2 ≤ 1500) (N : Nat) (hN : 20 + n1 + n2 = N) : Calls Try.prog 18 #[.agg #[.int .i64 p.tos, .int .i64 p.id, .bool p.df, .bool p.mf, .int .i64 p.off, .int .i64 p.ttl, .int .i64 p.proto, .int .u32 p.src, .int .u32 p.dst, .slice a1 n1 c1, .slice a2 n2 c2]] w fun e w' =>
      ∃ q c, e = .returned (.tuple #[.slice q N c, .int .i64 0]) ∧ w'.ownsRow w.heap.size 5 1 (.slice q N c) N ((buildV p).map (Value.int .u8)) ∧ Ext w w' := by
  refine (build_good p a1 n1 c1 a2 n2 c2 w h1 z1 h2 z2 f hp hn2).mono ?_
  rintro e w' ⟨q, c, rfl, ho, hx⟩
  rw [h1.length, h2.length, hN] at ho ⊢
  exact ⟨q, c, rfl, ho, hx⟩

theorem bytes_nil (w : World) : Bytes w none 0 [] := ⟨rfl, by omega, by intro x hx; simp at hx, .inl rfl⟩

def fiveIP : IPv := ⟨0, 0, false, false, 0, 5, 0, 0, 0, [], []⟩

theorem five_fine : Fine fiveIP := ⟨by decide, by decide, by decide, by decide, by intro x hx; simp [fiveIP] at hx, by intro x hx; simp [fiveIP] at hx⟩
theorem five_fits : Fits fiveIP := ⟨by decide, by decide, by decide, by decide, by decide, by decide, by decide, by decide, by decide, by decide, by decide, by decide⟩

set_option maxHeartbeats 1000000 in
theorem ipKnown_any (w : World) : Calls Try.prog 16 #[] w fun e w' => e = .returned (.bool true) ∧ Ext w w' := by
  have c1 := fun w => build_is fiveIP none 0 0 none 0 0 w (bytes_nil w) (fun _ => rfl) (bytes_nil w) (fun _ => rfl) five_fine five_fits (by omega) 20 rfl
  have L := build_looks five_fine five_fits (by simp [fiveIP]) []
  have pp := build_parse five_fine five_fits (by simp [fiveIP]) []
  rw [List.append_nil] at L pp
  have hv := (looks_iff _).2 L
  have ok := build_ok five_fine five_fits
  have c2 := fun q c w h hc => parse_is q 20 c (buildV fiveIP) fiveIP w h hc (by omega) hv pp
  clear L pp hv
  generalize buildV fiveIP = Y at *
  simp only [fiveIP] at c1 c2
  go_enter Try.func16, Try.ntmps16
  go_wp2_with (first
    | (go_at_call 18; refine (c1 _).mono ?_; rintro e w1 ⟨q, c, rfl, ho, hx1⟩; obtain ⟨hb, hz, hc⟩ := owns_slice ho ok; clear ho)
    | (go_at_call 11; refine (c2 q c _ hb hc).mono ?_; rintro e w2 ⟨a1, n1, d1, a2, n2, d2, rfl, _, _, _, _, hx2⟩))
  go_ret
  exact ⟨rfl, (hx1.trans hx2).alloc _⟩
end Go.Proofs.Ytlfjbmjincffoaa
