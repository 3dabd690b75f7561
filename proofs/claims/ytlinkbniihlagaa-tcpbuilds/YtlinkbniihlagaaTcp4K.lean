/- What law 5's 'known' answers (chapter 5). -/
import Derived.Test.YtlinkbniihlagaaTcp4
namespace Go.Proofs.Ytlinkbniihlagaa.Tcp
open Go.RowKit
set_option linter.unusedVariables false

theorem known_reset : resetE ⟨1, 2, 5, 0, 2, 0, 0, [], []⟩ = .returned (.tuple #[.agg #[.int .i64 2, .int .i64 1, .int .u32 0, .int .u32 6, .int .i64 20, .int .i64 0, .int .i64 0, .slice none 0 0, .slice none 0 0], .bool true]) := by
  rw [resetE_non (by decide) (by decide)]
  have : ((5 : Int) + roomV ⟨1, 2, 5, 0, 2, 0, 0, [], []⟩) % 4294967296 = 6 := by decide
  rw [this]

theorem known_any (w : World) : Calls Try.prog 12 #[] w fun e w' => e = .returned (.bool true) ∧ Ext w w' := by
  have c1 := fun w => reset_any ⟨1, 2, 5, 0, 2, 0, 0, [], []⟩ none 0 0 none 0 0 w rfl (by omega) (by decide) (by decide)
  rw [known_reset] at c1
  dsimp only at c1
  go_enter Try.func12, Try.ntmps12
  go_wp2_with (go_at_call 16; refine (c1 _).mono ?_; rintro e w1 ⟨rfl, hx1⟩)
  go_ret
  exact ⟨rfl, hx1.alloc _⟩

end Go.Proofs.Ytlinkbniihlagaa.Tcp
