/-
  No cell of these rows narrows 'for every input' (looked for: loops, veiled, ifaces, maps, wideKeys, modest, calm, conditions, laid).
  DERIVED. THE GIVEN ROWS OF THIS SEAT. 4 by the template 'for every input the law returns true; each argument reads behind the call as it read before'; 0 by the template 'total and deterministic' (their statements: YtgbpljkfefdilaaTotals.lean).
  GIVEN WITH THE SEED: the statements are not yours to turn. If you find one false, say at which input.
  Laid BY PROGRAM, IN A SANDBOX (cutbox-rows.mjs): the forced cells as the released guide's own fill.sh prints them over the translation a9af06019171317b… (all of the seat's roots in one cut). By AI agents, Wed Nov 11 2026. No macro, syntax, notation, axiom, sorry.
-/
import Derived.Test.YtgbpljkfefdilaaChecked
import GoSem.Claim
import GoSem.ClaimJoined
import GoSem.ClaimMapViews
import Derived.JoinedTies
import Derived.KernelRfl
namespace Go.Proofs.Ytgbpljkfefdilaa
/- THE CELL 'sum', in the pinned program and in every row, IS THE sha256 OF THE DUMP (.gsa) THAT YtgbpljkfefdilaaProg.lean LOADS. Nothing in Lean hashes anything: it is a label: what it is worth is what the hold of that sum in a sandbox is worth. -/
noncomputable def Try.pinned : Pinned := { name := "ytgbpljkfefdilaa", sum := "a9af06019171317baeedb4d07f1f362fe7e39a500570d647f11409f13e8e379f", checked := Try.checked }
namespace Rows
def none {H : Type} : Left H := { results := [], args := [] }

/-- 'castellanlaw6.UdpTells': WHATEVER THE INPUT: true; the input reads as it did. -/
def udpTellsSpec : ChangeSpec := { name := "udpTells", fn := fun _ => fun
  | [d1, d2, d3, d4, d5] => { results := [.lit (.bool true)], args := [d1, d2, d3, d4, d5] }
  | _ => none }
def udpTellsRow : OpenClaim := { program := "ytgbpljkfefdilaa", sum := "a9af06019171317baeedb4d07f1f362fe7e39a500570d647f11409f13e8e379f", func := "castellan/castellanlaw6.UdpTells", spec := "udpTells", apart := false }
def UdpTellsSaid : Prop := udpTellsRow.holds Try.pinned (OpenSpec.ofChange udpTellsSpec)

/-- ITS FALSE NEIGHBOUR: 'it returns false'. Refute it at one input. -/
def udpTellsWrong : ChangeSpec := { name := "udpTells", fn := fun _ => fun
  | [d1, d2, d3, d4, d5] => { results := [.lit (.bool false)], args := [d1, d2, d3, d4, d5] }
  | _ => none }
def UdpTellsWrongFalsely : Prop := udpTellsRow.holds Try.pinned (OpenSpec.ofChange udpTellsWrong)

/-- 'castellanlaw6.UdpBack': WHATEVER THE INPUT: true; the input reads as it did. -/
def udpBackSpec : ChangeSpec := { name := "udpBack", fn := fun _ => fun
  | [d1, d2, d3, d4, d5, d6] => { results := [.lit (.bool true)], args := [d1, d2, d3, d4, d5, d6] }
  | _ => none }
def udpBackRow : OpenClaim := { program := "ytgbpljkfefdilaa", sum := "a9af06019171317baeedb4d07f1f362fe7e39a500570d647f11409f13e8e379f", func := "castellan/castellanlaw6.UdpBack", spec := "udpBack", apart := false }
def UdpBackSaid : Prop := udpBackRow.holds Try.pinned (OpenSpec.ofChange udpBackSpec)

/-- ITS FALSE NEIGHBOUR: 'it returns false'. Refute it at one input. -/
def udpBackWrong : ChangeSpec := { name := "udpBack", fn := fun _ => fun
  | [d1, d2, d3, d4, d5, d6] => { results := [.lit (.bool false)], args := [d1, d2, d3, d4, d5, d6] }
  | _ => none }
def UdpBackWrongFalsely : Prop := udpBackRow.holds Try.pinned (OpenSpec.ofChange udpBackWrong)

/-- 'castellanlaw6.UdpCut': WHATEVER THE INPUT: true; the input reads as it did. -/
def udpCutSpec : ChangeSpec := { name := "udpCut", fn := fun _ => fun
  | [d1, d2] => { results := [.lit (.bool true)], args := [d1, d2] }
  | _ => none }
def udpCutRow : OpenClaim := { program := "ytgbpljkfefdilaa", sum := "a9af06019171317baeedb4d07f1f362fe7e39a500570d647f11409f13e8e379f", func := "castellan/castellanlaw6.UdpCut", spec := "udpCut", apart := false }
def UdpCutSaid : Prop := udpCutRow.holds Try.pinned (OpenSpec.ofChange udpCutSpec)

/-- ITS FALSE NEIGHBOUR: 'it returns false'. Refute it at one input. -/
def udpCutWrong : ChangeSpec := { name := "udpCut", fn := fun _ => fun
  | [d1, d2] => { results := [.lit (.bool false)], args := [d1, d2] }
  | _ => none }
def UdpCutWrongFalsely : Prop := udpCutRow.holds Try.pinned (OpenSpec.ofChange udpCutWrong)

/-- 'castellanlaw6.UdpBounds': WHATEVER THE INPUT: true; the input reads as it did. -/
def udpBoundsSpec : ChangeSpec := { name := "udpBounds", fn := fun _ => fun
  | [d1, d2] => { results := [.lit (.bool true)], args := [d1, d2] }
  | _ => none }
def udpBoundsRow : OpenClaim := { program := "ytgbpljkfefdilaa", sum := "a9af06019171317baeedb4d07f1f362fe7e39a500570d647f11409f13e8e379f", func := "castellan/castellanlaw6.UdpBounds", spec := "udpBounds", apart := false }
def UdpBoundsSaid : Prop := udpBoundsRow.holds Try.pinned (OpenSpec.ofChange udpBoundsSpec)

/-- ITS FALSE NEIGHBOUR: 'it returns false'. Refute it at one input. -/
def udpBoundsWrong : ChangeSpec := { name := "udpBounds", fn := fun _ => fun
  | [d1, d2] => { results := [.lit (.bool false)], args := [d1, d2] }
  | _ => none }
def UdpBoundsWrongFalsely : Prop := udpBoundsRow.holds Try.pinned (OpenSpec.ofChange udpBoundsWrong)

/- THE SECOND FORM. 'bulk': how many values and letters a reading holds, each counted each time it is reached (what is shared counts as often as it is met; a slice's spare places count too). A statement '..UptoSaid' is the law's where the arguments, and the package variables that the reading takes, are together of bulk at most 1048576: NARROWER than '..Said'. Prove '..Said' where nothing that the law and all that it calls make is longer than what came in: it says more and counts as full. Else prove '..UptoSaid'. A law counts once. -/
mutual
def uptoBulk {H : Type} : DataW H → Nat
  | .lit (.string bytes) => bytes.length + 1
  | .lit _ => 1
  | .nil => 1
  | .ptr d => uptoBulk d + 1
  | .slice elems spare => uptoBulkAll elems + uptoBulkAll spare + 1
  | .agg parts => uptoBulkAll parts + 1
  | .iface _ d => uptoBulk d + 1
  | .map entries => uptoBulkEntries entries + 1
  | .held _ => 1
def uptoBulkAll {H : Type} : List (DataW H) → Nat
  | [] => 0
  | d :: r => uptoBulk d + uptoBulkAll r
def uptoBulkEntries {H : Type} : List (Lit × DataW H) → Nat
  | [] => 0
  | x :: r => uptoBulkEntry x + uptoBulkEntries r
def uptoBulkEntry {H : Type} : Lit × DataW H → Nat
  | (.string bytes, d) => bytes.length + uptoBulk d + 1
  | (_, d) => uptoBulk d + 1
 end
def uptoSmall : (H : Type) → List (DataW H) → Bool := fun _ ds => decide (uptoBulkAll ds ≤ 1048576)
def OpenSpec.upto (s : _root_.Go.ChangeSpec) : _root_.Go.OpenSpec := { _root_.Go.OpenSpec.ofChange s with cond := some uptoSmall }

/-- 'castellanlaw6.UdpTells', WHERE WHAT IT READS IS OF BULK AT MOST 1048576: true; the input reads as it did. -/
def udpTellsUptoRow : OpenClaim := { program := "ytgbpljkfefdilaa", sum := "a9af06019171317baeedb4d07f1f362fe7e39a500570d647f11409f13e8e379f", func := "castellan/castellanlaw6.UdpTells", spec := "udpTells", apart := false, narrowed := true }
def UdpTellsUptoSaid : Prop := udpTellsUptoRow.holds Try.pinned (OpenSpec.upto udpTellsSpec)

/-- 'castellanlaw6.UdpBack', WHERE WHAT IT READS IS OF BULK AT MOST 1048576: true; the input reads as it did. -/
def udpBackUptoRow : OpenClaim := { program := "ytgbpljkfefdilaa", sum := "a9af06019171317baeedb4d07f1f362fe7e39a500570d647f11409f13e8e379f", func := "castellan/castellanlaw6.UdpBack", spec := "udpBack", apart := false, narrowed := true }
def UdpBackUptoSaid : Prop := udpBackUptoRow.holds Try.pinned (OpenSpec.upto udpBackSpec)

/-- 'castellanlaw6.UdpCut', WHERE WHAT IT READS IS OF BULK AT MOST 1048576: true; the input reads as it did. -/
def udpCutUptoRow : OpenClaim := { program := "ytgbpljkfefdilaa", sum := "a9af06019171317baeedb4d07f1f362fe7e39a500570d647f11409f13e8e379f", func := "castellan/castellanlaw6.UdpCut", spec := "udpCut", apart := false, narrowed := true }
def UdpCutUptoSaid : Prop := udpCutUptoRow.holds Try.pinned (OpenSpec.upto udpCutSpec)

/-- 'castellanlaw6.UdpBounds', WHERE WHAT IT READS IS OF BULK AT MOST 1048576: true; the input reads as it did. -/
def udpBoundsUptoRow : OpenClaim := { program := "ytgbpljkfefdilaa", sum := "a9af06019171317baeedb4d07f1f362fe7e39a500570d647f11409f13e8e379f", func := "castellan/castellanlaw6.UdpBounds", spec := "udpBounds", apart := false, narrowed := true }
def UdpBoundsUptoSaid : Prop := udpBoundsUptoRow.holds Try.pinned (OpenSpec.upto udpBoundsSpec)

end Rows
end Go.Proofs.Ytgbpljkfefdilaa
