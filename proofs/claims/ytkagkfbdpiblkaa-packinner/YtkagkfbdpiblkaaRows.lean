/-
  No cell of these rows narrows 'for every input' (looked for: loops, veiled, ifaces, maps, wideKeys, modest, calm, conditions, laid).
  DERIVED. THE GIVEN ROWS OF THIS SEAT. 5 by the template 'for every input the law returns true; each argument reads behind the call as it read before'; 0 by the template 'total and deterministic' (their statements: YtkagkfbdpiblkaaTotals.lean).
  GIVEN WITH THE SEED: the statements are not yours to turn. If you find one false, say at which input.
  Laid BY PROGRAM, IN A SANDBOX (cutbox-rows.mjs): the forced cells as the released guide's own fill.sh prints them over the translation 7e4150a375eeb2f5… (all of the seat's roots in one cut). By AI agents, Wed Nov 11 2026. No macro, syntax, notation, axiom, sorry.
-/
import Derived.Test.YtkagkfbdpiblkaaChecked
import GoSem.Claim
import GoSem.ClaimJoined
import GoSem.ClaimMapViews
import Derived.JoinedTies
import Derived.KernelRfl
namespace Go.Proofs.Ytkagkfbdpiblkaa
/- THE CELL 'sum', in the pinned program and in every row, IS THE sha256 OF THE DUMP (.gsa) THAT YtkagkfbdpiblkaaProg.lean LOADS. Nothing in Lean hashes anything: it is a label: what it is worth is what the hold of that sum in a sandbox is worth. -/
noncomputable def Try.pinned : Pinned := { name := "ytkagkfbdpiblkaa", sum := "7e4150a375eeb2f500b8fbd9bfc5021bff67c559cf9b3027298518cd6a4975f8", checked := Try.checked }
namespace Rows
def none {H : Type} : Left H := { results := [], args := [] }

/-- 'castellanlaw8.PackParses': WHATEVER THE INPUT: true; the input reads as it did. -/
def packParsesSpec : ChangeSpec := { name := "packParses", fn := fun _ => fun
  | [d] => { results := [.lit (.bool true)], args := [d] }
  | _ => none }
def packParsesRow : OpenClaim := { program := "ytkagkfbdpiblkaa", sum := "7e4150a375eeb2f500b8fbd9bfc5021bff67c559cf9b3027298518cd6a4975f8", func := "castellan/castellanlaw8.PackParses", spec := "packParses", apart := false }
def PackParsesSaid : Prop := packParsesRow.holds Try.pinned (OpenSpec.ofChange packParsesSpec)

/-- ITS FALSE NEIGHBOUR: 'it returns false'. Refute it at one input. -/
def packParsesWrong : ChangeSpec := { name := "packParses", fn := fun _ => fun
  | [d] => { results := [.lit (.bool false)], args := [d] }
  | _ => none }
def PackParsesWrongFalsely : Prop := packParsesRow.holds Try.pinned (OpenSpec.ofChange packParsesWrong)

/-- 'castellanlaw8.PackKeys': WHATEVER THE INPUT: true; the input reads as it did. -/
def packKeysSpec : ChangeSpec := { name := "packKeys", fn := fun _ => fun
  | [d1, d2, d3] => { results := [.lit (.bool true)], args := [d1, d2, d3] }
  | _ => none }
def packKeysRow : OpenClaim := { program := "ytkagkfbdpiblkaa", sum := "7e4150a375eeb2f500b8fbd9bfc5021bff67c559cf9b3027298518cd6a4975f8", func := "castellan/castellanlaw8.PackKeys", spec := "packKeys", apart := false }
def PackKeysSaid : Prop := packKeysRow.holds Try.pinned (OpenSpec.ofChange packKeysSpec)

/-- ITS FALSE NEIGHBOUR: 'it returns false'. Refute it at one input. -/
def packKeysWrong : ChangeSpec := { name := "packKeys", fn := fun _ => fun
  | [d1, d2, d3] => { results := [.lit (.bool false)], args := [d1, d2, d3] }
  | _ => none }
def PackKeysWrongFalsely : Prop := packKeysRow.holds Try.pinned (OpenSpec.ofChange packKeysWrong)

/-- 'castellanlaw8.PackInner': WHATEVER THE INPUT: true; the input reads as it did. -/
def packInnerSpec : ChangeSpec := { name := "packInner", fn := fun _ => fun
  | [d1, d2, d3, d4] => { results := [.lit (.bool true)], args := [d1, d2, d3, d4] }
  | _ => none }
def packInnerRow : OpenClaim := { program := "ytkagkfbdpiblkaa", sum := "7e4150a375eeb2f500b8fbd9bfc5021bff67c559cf9b3027298518cd6a4975f8", func := "castellan/castellanlaw8.PackInner", spec := "packInner", apart := false }
def PackInnerSaid : Prop := packInnerRow.holds Try.pinned (OpenSpec.ofChange packInnerSpec)

/-- ITS FALSE NEIGHBOUR: 'it returns false'. Refute it at one input. -/
def packInnerWrong : ChangeSpec := { name := "packInner", fn := fun _ => fun
  | [d1, d2, d3, d4] => { results := [.lit (.bool false)], args := [d1, d2, d3, d4] }
  | _ => none }
def PackInnerWrongFalsely : Prop := packInnerRow.holds Try.pinned (OpenSpec.ofChange packInnerWrong)

/-- 'castellanlaw8.PackPorts': WHATEVER THE INPUT: true; the input reads as it did. -/
def packPortsSpec : ChangeSpec := { name := "packPorts", fn := fun _ => fun
  | [d1, d2, d3, d4] => { results := [.lit (.bool true)], args := [d1, d2, d3, d4] }
  | _ => none }
def packPortsRow : OpenClaim := { program := "ytkagkfbdpiblkaa", sum := "7e4150a375eeb2f500b8fbd9bfc5021bff67c559cf9b3027298518cd6a4975f8", func := "castellan/castellanlaw8.PackPorts", spec := "packPorts", apart := false }
def PackPortsSaid : Prop := packPortsRow.holds Try.pinned (OpenSpec.ofChange packPortsSpec)

/-- ITS FALSE NEIGHBOUR: 'it returns false'. Refute it at one input. -/
def packPortsWrong : ChangeSpec := { name := "packPorts", fn := fun _ => fun
  | [d1, d2, d3, d4] => { results := [.lit (.bool false)], args := [d1, d2, d3, d4] }
  | _ => none }
def PackPortsWrongFalsely : Prop := packPortsRow.holds Try.pinned (OpenSpec.ofChange packPortsWrong)

/-- 'castellanlaw8.PackFirst': WHATEVER THE INPUT: true; the input reads as it did. -/
def packFirstSpec : ChangeSpec := { name := "packFirst", fn := fun _ => fun
  | [d1, d2, d3, d4] => { results := [.lit (.bool true)], args := [d1, d2, d3, d4] }
  | _ => none }
def packFirstRow : OpenClaim := { program := "ytkagkfbdpiblkaa", sum := "7e4150a375eeb2f500b8fbd9bfc5021bff67c559cf9b3027298518cd6a4975f8", func := "castellan/castellanlaw8.PackFirst", spec := "packFirst", apart := false }
def PackFirstSaid : Prop := packFirstRow.holds Try.pinned (OpenSpec.ofChange packFirstSpec)

/-- ITS FALSE NEIGHBOUR: 'it returns false'. Refute it at one input. -/
def packFirstWrong : ChangeSpec := { name := "packFirst", fn := fun _ => fun
  | [d1, d2, d3, d4] => { results := [.lit (.bool false)], args := [d1, d2, d3, d4] }
  | _ => none }
def PackFirstWrongFalsely : Prop := packFirstRow.holds Try.pinned (OpenSpec.ofChange packFirstWrong)

/- THE SECOND FORM. 'bulk': how many values and letters a reading holds, each counted each time it is reached (what is shared counts as often as it is met; a slice's spare places count too). A statement '..UptoSaid' is the law's where the arguments, and the package variables that the reading takes, are together of bulk at most 1048576: NARROWER than '..Said'. Prove '..Said' where nothing that the law and all that it calls make is longer than what came in: it says more and counts as full. Else prove '..UptoSaid'. A law counts once. -/
mutual
def uptoBulk {H : Type} : DataW H → Nat
  | .lit (.string bytes) => bytes.length + 1
  | .lit _ => 1
  | .nil => 1
  | .ptr d => uptoBulk d + 1
  | .slice elems spare => uptoBulkAll elems + uptoBulkAll spare + 1
  | .agg parts => uptoBulkAll parts + 1
  | .iface _ d => uptoBulk d + 1
  | .map entries => uptoBulkEntries entries + 1
  | .held _ => 1
def uptoBulkAll {H : Type} : List (DataW H) → Nat
  | [] => 0
  | d :: r => uptoBulk d + uptoBulkAll r
def uptoBulkEntries {H : Type} : List (Lit × DataW H) → Nat
  | [] => 0
  | x :: r => uptoBulkEntry x + uptoBulkEntries r
def uptoBulkEntry {H : Type} : Lit × DataW H → Nat
  | (.string bytes, d) => bytes.length + uptoBulk d + 1
  | (_, d) => uptoBulk d + 1
 end
def uptoSmall : (H : Type) → List (DataW H) → Bool := fun _ ds => decide (uptoBulkAll ds ≤ 1048576)
def OpenSpec.upto (s : _root_.Go.ChangeSpec) : _root_.Go.OpenSpec := { _root_.Go.OpenSpec.ofChange s with cond := some uptoSmall }

/-- 'castellanlaw8.PackParses', WHERE WHAT IT READS IS OF BULK AT MOST 1048576: true; the input reads as it did. -/
def packParsesUptoRow : OpenClaim := { program := "ytkagkfbdpiblkaa", sum := "7e4150a375eeb2f500b8fbd9bfc5021bff67c559cf9b3027298518cd6a4975f8", func := "castellan/castellanlaw8.PackParses", spec := "packParses", apart := false, narrowed := true }
def PackParsesUptoSaid : Prop := packParsesUptoRow.holds Try.pinned (OpenSpec.upto packParsesSpec)

/-- 'castellanlaw8.PackKeys', WHERE WHAT IT READS IS OF BULK AT MOST 1048576: true; the input reads as it did. -/
def packKeysUptoRow : OpenClaim := { program := "ytkagkfbdpiblkaa", sum := "7e4150a375eeb2f500b8fbd9bfc5021bff67c559cf9b3027298518cd6a4975f8", func := "castellan/castellanlaw8.PackKeys", spec := "packKeys", apart := false, narrowed := true }
def PackKeysUptoSaid : Prop := packKeysUptoRow.holds Try.pinned (OpenSpec.upto packKeysSpec)

/-- 'castellanlaw8.PackInner', WHERE WHAT IT READS IS OF BULK AT MOST 1048576: true; the input reads as it did. -/
def packInnerUptoRow : OpenClaim := { program := "ytkagkfbdpiblkaa", sum := "7e4150a375eeb2f500b8fbd9bfc5021bff67c559cf9b3027298518cd6a4975f8", func := "castellan/castellanlaw8.PackInner", spec := "packInner", apart := false, narrowed := true }
def PackInnerUptoSaid : Prop := packInnerUptoRow.holds Try.pinned (OpenSpec.upto packInnerSpec)

/-- 'castellanlaw8.PackPorts', WHERE WHAT IT READS IS OF BULK AT MOST 1048576: true; the input reads as it did. -/
def packPortsUptoRow : OpenClaim := { program := "ytkagkfbdpiblkaa", sum := "7e4150a375eeb2f500b8fbd9bfc5021bff67c559cf9b3027298518cd6a4975f8", func := "castellan/castellanlaw8.PackPorts", spec := "packPorts", apart := false, narrowed := true }
def PackPortsUptoSaid : Prop := packPortsUptoRow.holds Try.pinned (OpenSpec.upto packPortsSpec)

/-- 'castellanlaw8.PackFirst', WHERE WHAT IT READS IS OF BULK AT MOST 1048576: true; the input reads as it did. -/
def packFirstUptoRow : OpenClaim := { program := "ytkagkfbdpiblkaa", sum := "7e4150a375eeb2f500b8fbd9bfc5021bff67c559cf9b3027298518cd6a4975f8", func := "castellan/castellanlaw8.PackFirst", spec := "packFirst", apart := false, narrowed := true }
def PackFirstUptoSaid : Prop := packFirstUptoRow.holds Try.pinned (OpenSpec.upto packFirstSpec)

end Rows
end Go.Proofs.Ytkagkfbdpiblkaa
