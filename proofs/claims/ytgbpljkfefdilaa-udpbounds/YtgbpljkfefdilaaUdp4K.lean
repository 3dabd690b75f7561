/- What law 6's 'known' answers (chapter 6). -/
import Derived.Test.YtgbpljkfefdilaaUdp1
import Derived.Test.YtgbpljkfefdilaaUdp3
namespace Go.Proofs.Ytgbpljkfefdilaa.Udp
open Go.RowKit
set_option linter.unusedVariables false

theorem known_fits : Fits ⟨7, 9, []⟩ := ⟨by decide, by decide, by decide, by decide, by decide⟩

set_option maxHeartbeats 1000000 in
theorem known_any (w : World) : Calls Try.prog 13 #[] w fun e w' => e = .returned (.bool true) ∧ Ext w w' := by
  have cb := fun w => build_good 1 2 ⟨7, 9, []⟩ none 0 0 w (bytes_nil w) (fun _ => rfl) known_fits (by omega) (by omega) (by omega) (by omega) 8 rfl
  have HB : Hid (∀ w e w', BuildAns w 1 2 ⟨7, 9, []⟩ 8 e w' → ∃ q c, e = .returned (.tuple #[.slice q 8 c, .int .i64 0]) ∧ w'.ownsRow w.heap.size 5 1 (.slice q 8 c) 8 ((buildV 1 2 ⟨7, 9, []⟩).map (Value.int .u8)) ∧ Ext w w') := fun w e w' h => h
  have okY := build_ok (p := ⟨7, 9, []⟩) 1 2 (by intro x hx; simp at hx)
  have hv := (looks_iff _).2 (build_looks 1 2 known_fits [])
  have pp := build_parse 1 2 known_fits []
  rw [List.append_nil] at hv pp
  have cp := fun q c w h hc => parse_is q 8 c (buildV 1 2 ⟨7, 9, []⟩) ⟨7, 9, []⟩ w h hc (by omega) hv pp
  clear hv pp
  dsimp only at *
  generalize BuildAns = BA at *
  generalize buildV 1 2 ⟨7, 9, []⟩ = Y at *
  go_enter Try.func13, Try.ntmps13
  go_wp2_with (first
    | (go_at_call 9; refine (cb _).mono ?_; intro e w3 hB; obtain ⟨q, c, rfl, ho, hx3⟩ := HB.out _ _ _ hB; clear hB; obtain ⟨hb, hz, hc⟩ := owns_slice ho okY; clear ho)
    | (go_at_call 7; refine (cp q c _ hb hc).mono ?_; rintro e w4 ⟨g1, m1, e1, rfl, hq1, _, hx4⟩))
  go_ret
  exact ⟨rfl, hx3.trans (hx4.alloc _)⟩

end Go.Proofs.Ytgbpljkfefdilaa.Udp
