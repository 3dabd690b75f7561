/- How long a row that comes in can be. -/
import Derived.Test.YtdkmakjjcfkfaaaRowG
import Derived.Test.YtdkmakjjcfkfaaaRows
import Derived.SizedLaws
namespace Go.Proofs.Ytdkmakjjcfkfaaa
open Go.RowKit
set_option linter.unusedVariables false

theorem row_data {H : Type} {enc : TypeId × Value → H} {P : Program} {w : World} {base : Nat} {spare : Nat → Bool} {held : Bool} {t e : TypeId} {fuel : Nat} {a : Option Addr} {len cap : Nat} {d : DataW H} {pl : List MemPlace} (ht : P.underlying t = some (.slice e))
    (h : DataW.trod enc P w base spare held fuel t [.slice a len cap] = some (d, pl)) : len = 0 ∨ ∃ elems sp, d = .slice elems sp ∧ elems.length = len := by
  rcases DataW.trod_slice ht h with ⟨h1, _⟩ | ⟨b, l, c, elems, rest, n, _, h1, h2, _, _, _, hl, _⟩
  · left; cases h1; rfl
  · right
    cases h1
    cases h2
    exact ⟨_, _, rfl, by rw [List.length_map]; exact hl⟩

/-- A pointer that comes in, of which nothing is asked. -/
theorem open_ptrA {H : Type} {enc : TypeId × Value → H} {P : Program} {w : World} {base : Nat} {spare : Nat → Bool} {held : Bool} {t e : TypeId} {fuel : Nat} {cs : List Value} {x : DataW H × List MemPlace} (ht : P.underlying t = some (.pointer e))
    (h : DataW.trod enc P w base spare held fuel t cs = some x) : ∃ k, cs = [.pointer k] := by
  rcases DataW.trod_pointer ht h with ⟨rfl, _⟩ | ⟨a, cs', y, n, _, rfl, _, hc, ht⟩
  · exact ⟨none, rfl⟩
  · exact ⟨some a, rfl⟩

theorem row_bytes {H : Type} {enc : TypeId × Value → H} {P : Program} {w : World} {base : Nat} {spare : Nat → Bool} {held : Bool} {t e : TypeId} {fuel : Nat} {a : Option Addr} {len cap : Nat} {d : DataW H} {pl : List MemPlace} (ht : P.underlying t = some (.slice e))
    (h : DataW.trod enc P w base spare held fuel t [.slice a len cap] = some (d, pl)) {ts : List TypeId} {ds : List (DataW H)} (hz : (DataW.weightsEach P ts ds).all (· ≤ reachBytes) = true) {j : Nat} (hj : ts[j]? = some t) (hd : ds[j]? = some d) :
    len * P.bytesOf e ≤ reachBytes := by
  rcases row_data ht h with rfl | ⟨elems, sp, rfl, rfl⟩
  · rw [Nat.zero_mul]; exact Nat.zero_le _
  · exact Nat.le_trans (Nat.mul_le_mul_right _ (Nat.le_add_right _ _)) (sized_slice hz hj hd ht)

theorem bulk_one {H : Type} (d : DataW H) : 1 ≤ Rows.uptoBulk d := by
  unfold Rows.uptoBulk
  split <;> omega

theorem bulk_len {H : Type} : ∀ (l : List (DataW H)), l.length ≤ Rows.uptoBulkAll l
  | [] => by unfold Rows.uptoBulkAll; simp
  | d :: l => by
    have h1 := bulk_one d
    have h2 := bulk_len l
    unfold Rows.uptoBulkAll
    rw [List.length_cons]; omega

theorem row_bulk {H : Type} {enc : TypeId × Value → H} {P : Program} {w : World} {base : Nat} {spare : Nat → Bool} {held : Bool} {t e : TypeId} {fuel : Nat} {a : Option Addr} {len cap : Nat} {d : DataW H} {pl : List MemPlace} (ht : P.underlying t = some (.slice e))
    (h : DataW.trod enc P w base spare held fuel t [.slice a len cap] = some (d, pl)) : len ≤ Rows.uptoBulk d := by
  rcases row_data ht h with rfl | ⟨elems, sp, rfl, rfl⟩
  · exact Nat.zero_le _
  · have := bulk_len elems
    unfold Rows.uptoBulk
    omega

theorem bulk_mem {H : Type} {d : DataW H} : ∀ {l : List (DataW H)}, d ∈ l → Rows.uptoBulk d ≤ Rows.uptoBulkAll l
  | [], h => by cases h
  | e :: l, h => by
    unfold Rows.uptoBulkAll
    rcases List.mem_cons.1 h with rfl | h
    · omega
    · have := bulk_mem h; omega
end Go.Proofs.Ytdkmakjjcfkfaaa
