/- Package dir: index, spot, below, endsBehind, shortest. -/
import Derived.Test.YtlnmdlachfnmkaaDirT
namespace Go.Proofs.Ytlnmdlachfnmkaa.Dr
set_option maxRecDepth 100000
open Go.RowKit Go.Proofs.Ytlnmdlachfnmkaa Go.Proofs.Ytlnmdlachfnmkaa.Tri
set_option linter.unusedVariables false

def szN : Nat → Nat
  | 0 => 65536
  | _ => 256
def beN (k : Nat) : Nat := 16 - 8 * k
/-- An address's place, among all of the tables' of a level. -/
def plN (k A : Nat) : Nat := A / 2 ^ beN k

theorem szN_pos (k : Nat) : 0 < szN k := by unfold szN; split <;> omega

theorem and_16 (x : Nat) (hx : x < 4294967296) : bits .and .i64 (x : Int) 65535 = ((x % 65536 : Nat) : Int) := by
  have h1 : (BitVec.ofInt 64 65535).toNat = 2 ^ 16 - 1 := by decide
  have key : (BitVec.ofInt 64 (x : Int) &&& BitVec.ofInt 64 65535).toNat = ((x : Int) % ((2 ^ 64 : Nat) : Int)).toNat % 2 ^ 16 := by
    rw [BitVec.toNat_and, BitVec.toNat_ofInt, h1, Nat.and_two_pow_sub_one_eq_mod]
  show IntKind.i64.wrap ((BitVec.ofInt 64 (x : Int) &&& BitVec.ofInt 64 65535).toNat : Nat) = _
  rw [key, IntKind.wrap_i64]
  omega

theorem and_8 (x : Nat) (hx : x < 4294967296) : bits .and .i64 (x : Int) 255 = ((x % 256 : Nat) : Int) := by
  have h1 : (BitVec.ofInt 64 255).toNat = 2 ^ 8 - 1 := by decide
  have key : (BitVec.ofInt 64 (x : Int) &&& BitVec.ofInt 64 255).toNat = ((x : Int) % ((2 ^ 64 : Nat) : Int)).toNat % 2 ^ 8 := by
    rw [BitVec.toNat_and, BitVec.toNat_ofInt, h1, Nat.and_two_pow_sub_one_eq_mod]
  show IntKind.i64.wrap ((BitVec.ofInt 64 (x : Int) &&& BitVec.ofInt 64 255).toNat : Nat) = _
  rw [key, IntKind.wrap_i64]
  omega

theorem index_any (k A cp : Nat) (hk : k ≤ 2) (hA : A < 4294967296) (v : Option Addr) (w : World) :
    Calls Try.prog 45 #[.slice v (szN k) cp, .int .u32 A, .int .i64 (beN k)] w fun e w' => e = .returned (.int .i64 ((plN k A % szN k : Nat) : Int)) ∧ w' = w := by
  match k, hk with
  | 0, _ =>
    have hb := and_16 (A / 65536) (by omega)
    simp only [szN, beN, plN]
    go_enter Try.func45, Try.ntmps45
    go_wp2_with fail
    go_ret
    exact ⟨by simpa using hb, rfl⟩
  | 1, _ =>
    have hb := and_8 (A / 256) (by omega)
    simp only [szN, beN, plN]
    go_enter Try.func45, Try.ntmps45
    go_wp2_with fail
    go_ret
    exact ⟨by simpa using hb, rfl⟩
  | 2, _ =>
    have hb := and_8 A (by omega)
    simp only [szN, beN, plN]
    go_enter Try.func45, Try.ntmps45
    go_wp2_with fail
    go_ret
    exact ⟨by simp, rfl⟩

theorem spot_any (k A tb cp : Nat) (hk : k ≤ 2) (hA : A < 4294967296) (w : World) :
    Calls Try.prog 29 #[.slice (some ⟨tb, 0, none⟩) (szN k) cp, .int .u32 A, .int .i64 (beN k)] w fun e w' => e = .returned (.pointer (some ⟨tb, plN k A % szN k * 2, none⟩)) ∧ w' = w := by
  have c := fun w => index_any k A cp hk hA (some ⟨tb, 0, none⟩) w
  have hi := Nat.mod_lt (plN k A) (szN_pos k)
  generalize plN k A % szN k = i at *
  generalize hn : szN k = n at *
  generalize (beN k : Int) = be at *
  clear hn
  have hi0 : (0 : Int) ≤ (i : Int) := Int.natCast_nonneg _
  have hi1 : (i : Int) < (n : Int) := by omega
  go_enter Try.func29, Try.ntmps29
  go_wp2_with (go_at_call 45; refine (c _).mono ?_; rintro e w' ⟨rfl, rfl⟩)
  go_ret
  exact ⟨rfl, rfl⟩

def tabV (o : Option Nat) : Value := match o with
  | none => .slice none 0 0
  | some b => .slice (some ⟨b, 0, none⟩) 256 256

theorem below_any (tb off : Nat) (o : Option Nat) (w : World) (h : w.cell? ⟨tb, off + 1, none⟩ = some (ptV o)) :
    Calls Try.prog 30 #[.pointer (some ⟨tb, off, none⟩)] w fun e w' => e = .returned (tabV o) ∧ w' = w := by
  cases o with
  | none =>
    simp only [ptV, tabV, Option.map_none] at *
    go_enter Try.func30, Try.ntmps30
    go_wp2_with fail
    go_ret
    exact ⟨rfl, rfl⟩
  | some b =>
    simp only [ptV, tabV, Option.map_some] at *
    go_enter Try.func30, Try.ntmps30
    go_wp2_with fail
    go_ret
    exact ⟨rfl, rfl⟩

theorem ends_any (a n be : Int) (w : World) (h0 : 0 ≤ be) (h1 : be ≤ 32) :
    Calls Try.prog 47 #[.agg #[.int .u32 a, .int .i64 n], .int .i64 be] w fun e w' => e = .returned (.bool (decide (n > 32 - be))) ∧ Ext w w' := by
  have hx0 : Ext w (w.alloc (.cells #[.int .u32 a, .int .i64 n] 30)) := (Ext.refl w).alloc _
  go_enter Try.func47, Try.ntmps47
  go_wp2_with fail
  go_ret
  exact ⟨rfl, hx0⟩
end Go.Proofs.Ytlnmdlachfnmkaa.Dr
