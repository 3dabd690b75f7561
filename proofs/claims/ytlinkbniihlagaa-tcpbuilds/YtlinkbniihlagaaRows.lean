/-
  No cell of these rows narrows 'for every input' (looked for: loops, veiled, ifaces, maps, wideKeys, modest, calm, conditions, laid).
  DERIVED. THE GIVEN ROWS OF THIS SEAT. 6 by the template 'for every input the law returns true; each argument reads behind the call as it read before'; 0 by the template 'total and deterministic' (their statements: YtlinkbniihlagaaTotals.lean).
  GIVEN WITH THE SEED: the statements are not yours to turn. If you find one false, say at which input.
  Laid BY PROGRAM, IN A SANDBOX (cutbox-rows.mjs): the forced cells as the released guide's own fill.sh prints them over the translation b6cd50ea44230fc0… (all of the seat's roots in one cut). By AI agents, Wed Nov 11 2026. No macro, syntax, notation, axiom, sorry.
-/
import Derived.Test.YtlinkbniihlagaaChecked
import GoSem.Claim
import GoSem.ClaimJoined
import GoSem.ClaimMapViews
import Derived.JoinedTies
import Derived.KernelRfl
namespace Go.Proofs.Ytlinkbniihlagaa
/- THE CELL 'sum', in the pinned program and in every row, IS THE sha256 OF THE DUMP (.gsa) THAT YtlinkbniihlagaaProg.lean LOADS. Nothing in Lean hashes anything: it is a label: what it is worth is what the hold of that sum in a sandbox is worth. -/
noncomputable def Try.pinned : Pinned := { name := "ytlinkbniihlagaa", sum := "b6cd50ea44230fc0d25f26f270bf76c796ca1bcadfc6f7a6ab82c261d9054bee", checked := Try.checked }
namespace Rows
def none {H : Type} : Left H := { results := [], args := [] }

/-- 'castellanlaw5.TcpParses': WHATEVER THE INPUT: true; the input reads as it did. -/
def tcpParsesSpec : ChangeSpec := { name := "tcpParses", fn := fun _ => fun
  | [d] => { results := [.lit (.bool true)], args := [d] }
  | _ => none }
def tcpParsesRow : OpenClaim := { program := "ytlinkbniihlagaa", sum := "b6cd50ea44230fc0d25f26f270bf76c796ca1bcadfc6f7a6ab82c261d9054bee", func := "castellan/castellanlaw5.TcpParses", spec := "tcpParses", apart := false }
def TcpParsesSaid : Prop := tcpParsesRow.holds Try.pinned (OpenSpec.ofChange tcpParsesSpec)

/-- ITS FALSE NEIGHBOUR: 'it returns false'. Refute it at one input. -/
def tcpParsesWrong : ChangeSpec := { name := "tcpParses", fn := fun _ => fun
  | [d] => { results := [.lit (.bool false)], args := [d] }
  | _ => none }
def TcpParsesWrongFalsely : Prop := tcpParsesRow.holds Try.pinned (OpenSpec.ofChange tcpParsesWrong)

/-- 'castellanlaw5.TcpBuilds': WHATEVER THE INPUT: true; the input reads as it did. -/
def tcpBuildsSpec : ChangeSpec := { name := "tcpBuilds", fn := fun _ => fun
  | [d1, d2, d3, d4] => { results := [.lit (.bool true)], args := [d1, d2, d3, d4] }
  | _ => none }
def tcpBuildsRow : OpenClaim := { program := "ytlinkbniihlagaa", sum := "b6cd50ea44230fc0d25f26f270bf76c796ca1bcadfc6f7a6ab82c261d9054bee", func := "castellan/castellanlaw5.TcpBuilds", spec := "tcpBuilds", apart := false }
def TcpBuildsSaid : Prop := tcpBuildsRow.holds Try.pinned (OpenSpec.ofChange tcpBuildsSpec)

/-- ITS FALSE NEIGHBOUR: 'it returns false'. Refute it at one input. -/
def tcpBuildsWrong : ChangeSpec := { name := "tcpBuilds", fn := fun _ => fun
  | [d1, d2, d3, d4] => { results := [.lit (.bool false)], args := [d1, d2, d3, d4] }
  | _ => none }
def TcpBuildsWrongFalsely : Prop := tcpBuildsRow.holds Try.pinned (OpenSpec.ofChange tcpBuildsWrong)

/-- 'castellanlaw5.TcpBack': WHATEVER THE INPUT: true; the input reads as it did. -/
def tcpBackSpec : ChangeSpec := { name := "tcpBack", fn := fun _ => fun
  | [d1, d2, d3] => { results := [.lit (.bool true)], args := [d1, d2, d3] }
  | _ => none }
def tcpBackRow : OpenClaim := { program := "ytlinkbniihlagaa", sum := "b6cd50ea44230fc0d25f26f270bf76c796ca1bcadfc6f7a6ab82c261d9054bee", func := "castellan/castellanlaw5.TcpBack", spec := "tcpBack", apart := false }
def TcpBackSaid : Prop := tcpBackRow.holds Try.pinned (OpenSpec.ofChange tcpBackSpec)

/-- ITS FALSE NEIGHBOUR: 'it returns false'. Refute it at one input. -/
def tcpBackWrong : ChangeSpec := { name := "tcpBack", fn := fun _ => fun
  | [d1, d2, d3] => { results := [.lit (.bool false)], args := [d1, d2, d3] }
  | _ => none }
def TcpBackWrongFalsely : Prop := tcpBackRow.holds Try.pinned (OpenSpec.ofChange tcpBackWrong)

/-- 'castellanlaw5.TcpResets': WHATEVER THE INPUT: true; the input reads as it did. -/
def tcpResetsSpec : ChangeSpec := { name := "tcpResets", fn := fun _ => fun
  | [d] => { results := [.lit (.bool true)], args := [d] }
  | _ => none }
def tcpResetsRow : OpenClaim := { program := "ytlinkbniihlagaa", sum := "b6cd50ea44230fc0d25f26f270bf76c796ca1bcadfc6f7a6ab82c261d9054bee", func := "castellan/castellanlaw5.TcpResets", spec := "tcpResets", apart := false }
def TcpResetsSaid : Prop := tcpResetsRow.holds Try.pinned (OpenSpec.ofChange tcpResetsSpec)

/-- ITS FALSE NEIGHBOUR: 'it returns false'. Refute it at one input. -/
def tcpResetsWrong : ChangeSpec := { name := "tcpResets", fn := fun _ => fun
  | [d] => { results := [.lit (.bool false)], args := [d] }
  | _ => none }
def TcpResetsWrongFalsely : Prop := tcpResetsRow.holds Try.pinned (OpenSpec.ofChange tcpResetsWrong)

/-- 'castellanlaw5.TcpCut': WHATEVER THE INPUT: true; the input reads as it did. -/
def tcpCutSpec : ChangeSpec := { name := "tcpCut", fn := fun _ => fun
  | [d1, d2] => { results := [.lit (.bool true)], args := [d1, d2] }
  | _ => none }
def tcpCutRow : OpenClaim := { program := "ytlinkbniihlagaa", sum := "b6cd50ea44230fc0d25f26f270bf76c796ca1bcadfc6f7a6ab82c261d9054bee", func := "castellan/castellanlaw5.TcpCut", spec := "tcpCut", apart := false }
def TcpCutSaid : Prop := tcpCutRow.holds Try.pinned (OpenSpec.ofChange tcpCutSpec)

/-- ITS FALSE NEIGHBOUR: 'it returns false'. Refute it at one input. -/
def tcpCutWrong : ChangeSpec := { name := "tcpCut", fn := fun _ => fun
  | [d1, d2] => { results := [.lit (.bool false)], args := [d1, d2] }
  | _ => none }
def TcpCutWrongFalsely : Prop := tcpCutRow.holds Try.pinned (OpenSpec.ofChange tcpCutWrong)

/-- 'castellanlaw5.TcpCounts': WHATEVER THE INPUT: true; the input reads as it did. -/
def tcpCountsSpec : ChangeSpec := { name := "tcpCounts", fn := fun _ => fun
  | [d1, d2, d3, d4] => { results := [.lit (.bool true)], args := [d1, d2, d3, d4] }
  | _ => none }
def tcpCountsRow : OpenClaim := { program := "ytlinkbniihlagaa", sum := "b6cd50ea44230fc0d25f26f270bf76c796ca1bcadfc6f7a6ab82c261d9054bee", func := "castellan/castellanlaw5.TcpCounts", spec := "tcpCounts", apart := false }
def TcpCountsSaid : Prop := tcpCountsRow.holds Try.pinned (OpenSpec.ofChange tcpCountsSpec)

/-- ITS FALSE NEIGHBOUR: 'it returns false'. Refute it at one input. -/
def tcpCountsWrong : ChangeSpec := { name := "tcpCounts", fn := fun _ => fun
  | [d1, d2, d3, d4] => { results := [.lit (.bool false)], args := [d1, d2, d3, d4] }
  | _ => none }
def TcpCountsWrongFalsely : Prop := tcpCountsRow.holds Try.pinned (OpenSpec.ofChange tcpCountsWrong)

/- THE SECOND FORM. 'bulk': how many values and letters a reading holds, each counted each time it is reached (what is shared counts as often as it is met; a slice's spare places count too). A statement '..UptoSaid' is the law's where the arguments, and the package variables that the reading takes, are together of bulk at most 1048576: NARROWER than '..Said'. Prove '..Said' where nothing that the law and all that it calls make is longer than what came in: it says more and counts as full. Else prove '..UptoSaid'. A law counts once. -/
mutual
def uptoBulk {H : Type} : DataW H → Nat
  | .lit (.string bytes) => bytes.length + 1
  | .lit _ => 1
  | .nil => 1
  | .ptr d => uptoBulk d + 1
  | .slice elems spare => uptoBulkAll elems + uptoBulkAll spare + 1
  | .agg parts => uptoBulkAll parts + 1
  | .iface _ d => uptoBulk d + 1
  | .map entries => uptoBulkEntries entries + 1
  | .held _ => 1
def uptoBulkAll {H : Type} : List (DataW H) → Nat
  | [] => 0
  | d :: r => uptoBulk d + uptoBulkAll r
def uptoBulkEntries {H : Type} : List (Lit × DataW H) → Nat
  | [] => 0
  | x :: r => uptoBulkEntry x + uptoBulkEntries r
def uptoBulkEntry {H : Type} : Lit × DataW H → Nat
  | (.string bytes, d) => bytes.length + uptoBulk d + 1
  | (_, d) => uptoBulk d + 1
 end
def uptoSmall : (H : Type) → List (DataW H) → Bool := fun _ ds => decide (uptoBulkAll ds ≤ 1048576)
def OpenSpec.upto (s : _root_.Go.ChangeSpec) : _root_.Go.OpenSpec := { _root_.Go.OpenSpec.ofChange s with cond := some uptoSmall }

/-- 'castellanlaw5.TcpParses', WHERE WHAT IT READS IS OF BULK AT MOST 1048576: true; the input reads as it did. -/
def tcpParsesUptoRow : OpenClaim := { program := "ytlinkbniihlagaa", sum := "b6cd50ea44230fc0d25f26f270bf76c796ca1bcadfc6f7a6ab82c261d9054bee", func := "castellan/castellanlaw5.TcpParses", spec := "tcpParses", apart := false, narrowed := true }
def TcpParsesUptoSaid : Prop := tcpParsesUptoRow.holds Try.pinned (OpenSpec.upto tcpParsesSpec)

/-- 'castellanlaw5.TcpBuilds', WHERE WHAT IT READS IS OF BULK AT MOST 1048576: true; the input reads as it did. -/
def tcpBuildsUptoRow : OpenClaim := { program := "ytlinkbniihlagaa", sum := "b6cd50ea44230fc0d25f26f270bf76c796ca1bcadfc6f7a6ab82c261d9054bee", func := "castellan/castellanlaw5.TcpBuilds", spec := "tcpBuilds", apart := false, narrowed := true }
def TcpBuildsUptoSaid : Prop := tcpBuildsUptoRow.holds Try.pinned (OpenSpec.upto tcpBuildsSpec)

/-- 'castellanlaw5.TcpBack', WHERE WHAT IT READS IS OF BULK AT MOST 1048576: true; the input reads as it did. -/
def tcpBackUptoRow : OpenClaim := { program := "ytlinkbniihlagaa", sum := "b6cd50ea44230fc0d25f26f270bf76c796ca1bcadfc6f7a6ab82c261d9054bee", func := "castellan/castellanlaw5.TcpBack", spec := "tcpBack", apart := false, narrowed := true }
def TcpBackUptoSaid : Prop := tcpBackUptoRow.holds Try.pinned (OpenSpec.upto tcpBackSpec)

/-- 'castellanlaw5.TcpResets', WHERE WHAT IT READS IS OF BULK AT MOST 1048576: true; the input reads as it did. -/
def tcpResetsUptoRow : OpenClaim := { program := "ytlinkbniihlagaa", sum := "b6cd50ea44230fc0d25f26f270bf76c796ca1bcadfc6f7a6ab82c261d9054bee", func := "castellan/castellanlaw5.TcpResets", spec := "tcpResets", apart := false, narrowed := true }
def TcpResetsUptoSaid : Prop := tcpResetsUptoRow.holds Try.pinned (OpenSpec.upto tcpResetsSpec)

/-- 'castellanlaw5.TcpCut', WHERE WHAT IT READS IS OF BULK AT MOST 1048576: true; the input reads as it did. -/
def tcpCutUptoRow : OpenClaim := { program := "ytlinkbniihlagaa", sum := "b6cd50ea44230fc0d25f26f270bf76c796ca1bcadfc6f7a6ab82c261d9054bee", func := "castellan/castellanlaw5.TcpCut", spec := "tcpCut", apart := false, narrowed := true }
def TcpCutUptoSaid : Prop := tcpCutUptoRow.holds Try.pinned (OpenSpec.upto tcpCutSpec)

/-- 'castellanlaw5.TcpCounts', WHERE WHAT IT READS IS OF BULK AT MOST 1048576: true; the input reads as it did. -/
def tcpCountsUptoRow : OpenClaim := { program := "ytlinkbniihlagaa", sum := "b6cd50ea44230fc0d25f26f270bf76c796ca1bcadfc6f7a6ab82c261d9054bee", func := "castellan/castellanlaw5.TcpCounts", spec := "tcpCounts", apart := false, narrowed := true }
def TcpCountsUptoSaid : Prop := tcpCountsUptoRow.holds Try.pinned (OpenSpec.upto tcpCountsSpec)

end Rows
end Go.Proofs.Ytlinkbniihlagaa
