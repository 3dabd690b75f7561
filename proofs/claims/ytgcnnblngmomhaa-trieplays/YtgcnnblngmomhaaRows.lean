/-
  No cell of these rows narrows 'for every input' (looked for: loops, veiled, ifaces, maps, wideKeys, modest, calm, conditions, laid).
  DERIVED. THE GIVEN ROWS OF THIS SEAT. 9 by the template 'for every input the law returns true; each argument reads behind the call as it read before'; 0 by the template 'total and deterministic' (their statements: YtgcnnblngmomhaaTotals.lean).
  GIVEN WITH THE SEED: the statements are not yours to turn. If you find one false, say at which input.
  Laid BY PROGRAM, IN A SANDBOX (cutbox-rows.mjs): the forced cells as the released guide's own fill.sh prints them over the translation 6e908dcba82cc3b8… (all of the seat's roots in one cut). By AI agents, Wed Nov 11 2026. No macro, syntax, notation, axiom, sorry.
-/
import Derived.Test.YtgcnnblngmomhaaChecked
import GoSem.Claim
import GoSem.ClaimJoined
import GoSem.ClaimMapViews
import Derived.JoinedTies
import Derived.KernelRfl
namespace Go.Proofs.Ytgcnnblngmomhaa
/- THE CELL 'sum', in the pinned program and in every row, IS THE sha256 OF THE DUMP (.gsa) THAT YtgcnnblngmomhaaProg.lean LOADS. Nothing in Lean hashes anything: it is a label: what it is worth is what the hold of that sum in a sandbox is worth. -/
noncomputable def Try.pinned : Pinned := { name := "ytgcnnblngmomhaa", sum := "6e908dcba82cc3b8f93d4c9388546d26e6f2fd61b7fde1a5efef9ab5816b5948", checked := Try.checked }
namespace Rows
def none {H : Type} : Left H := { results := [], args := [] }

/-- 'castellanlaw9.TriePlays': WHATEVER THE INPUT: true; the input reads as it did. -/
def triePlaysSpec : ChangeSpec := { name := "triePlays", fn := fun _ => fun
  | [d] => { results := [.lit (.bool true)], args := [d] }
  | _ => none }
def triePlaysRow : OpenClaim := { program := "ytgcnnblngmomhaa", sum := "6e908dcba82cc3b8f93d4c9388546d26e6f2fd61b7fde1a5efef9ab5816b5948", func := "castellan/castellanlaw9.TriePlays", spec := "triePlays", recurses := true, apart := false }
def TriePlaysSaid : Prop := triePlaysRow.holds Try.pinned (OpenSpec.ofChange triePlaysSpec)

/-- ITS FALSE NEIGHBOUR: 'it returns false'. Refute it at one input. -/
def triePlaysWrong : ChangeSpec := { name := "triePlays", fn := fun _ => fun
  | [d] => { results := [.lit (.bool false)], args := [d] }
  | _ => none }
def TriePlaysWrongFalsely : Prop := triePlaysRow.holds Try.pinned (OpenSpec.ofChange triePlaysWrong)

/-- 'castellanlaw9.TrieLongest': WHATEVER THE INPUT: true; the input reads as it did. -/
def trieLongestSpec : ChangeSpec := { name := "trieLongest", fn := fun _ => fun
  | [d1, d2, d3] => { results := [.lit (.bool true)], args := [d1, d2, d3] }
  | _ => none }
def trieLongestRow : OpenClaim := { program := "ytgcnnblngmomhaa", sum := "6e908dcba82cc3b8f93d4c9388546d26e6f2fd61b7fde1a5efef9ab5816b5948", func := "castellan/castellanlaw9.TrieLongest", spec := "trieLongest", recurses := true, apart := false }
def TrieLongestSaid : Prop := trieLongestRow.holds Try.pinned (OpenSpec.ofChange trieLongestSpec)

/-- ITS FALSE NEIGHBOUR: 'it returns false'. Refute it at one input. -/
def trieLongestWrong : ChangeSpec := { name := "trieLongest", fn := fun _ => fun
  | [d1, d2, d3] => { results := [.lit (.bool false)], args := [d1, d2, d3] }
  | _ => none }
def TrieLongestWrongFalsely : Prop := trieLongestRow.holds Try.pinned (OpenSpec.ofChange trieLongestWrong)

/-- 'castellanlaw9.TrieSet': WHATEVER THE INPUT: true; the input reads as it did. -/
def trieSetSpec : ChangeSpec := { name := "trieSet", fn := fun _ => fun
  | [d1, d2] => { results := [.lit (.bool true)], args := [d1, d2] }
  | _ => none }
def trieSetRow : OpenClaim := { program := "ytgcnnblngmomhaa", sum := "6e908dcba82cc3b8f93d4c9388546d26e6f2fd61b7fde1a5efef9ab5816b5948", func := "castellan/castellanlaw9.TrieSet", spec := "trieSet", recurses := true, apart := false }
def TrieSetSaid : Prop := trieSetRow.holds Try.pinned (OpenSpec.ofChange trieSetSpec)

/-- ITS FALSE NEIGHBOUR: 'it returns false'. Refute it at one input. -/
def trieSetWrong : ChangeSpec := { name := "trieSet", fn := fun _ => fun
  | [d1, d2] => { results := [.lit (.bool false)], args := [d1, d2] }
  | _ => none }
def TrieSetWrongFalsely : Prop := trieSetRow.holds Try.pinned (OpenSpec.ofChange trieSetWrong)

/-- 'castellanlaw9.TrieBest': WHATEVER THE INPUT: true; the input reads as it did. -/
def trieBestSpec : ChangeSpec := { name := "trieBest", fn := fun _ => fun
  | [d1, d2] => { results := [.lit (.bool true)], args := [d1, d2] }
  | _ => none }
def trieBestRow : OpenClaim := { program := "ytgcnnblngmomhaa", sum := "6e908dcba82cc3b8f93d4c9388546d26e6f2fd61b7fde1a5efef9ab5816b5948", func := "castellan/castellanlaw9.TrieBest", spec := "trieBest", recurses := true, apart := false }
def TrieBestSaid : Prop := trieBestRow.holds Try.pinned (OpenSpec.ofChange trieBestSpec)

/-- ITS FALSE NEIGHBOUR: 'it returns false'. Refute it at one input. -/
def trieBestWrong : ChangeSpec := { name := "trieBest", fn := fun _ => fun
  | [d1, d2] => { results := [.lit (.bool false)], args := [d1, d2] }
  | _ => none }
def TrieBestWrongFalsely : Prop := trieBestRow.holds Try.pinned (OpenSpec.ofChange trieBestWrong)

/-- 'castellanlaw9.TrieNodes': WHATEVER THE INPUT: true; the input reads as it did. -/
def trieNodesSpec : ChangeSpec := { name := "trieNodes", fn := fun _ => fun
  | [d1, d2] => { results := [.lit (.bool true)], args := [d1, d2] }
  | _ => none }
def trieNodesRow : OpenClaim := { program := "ytgcnnblngmomhaa", sum := "6e908dcba82cc3b8f93d4c9388546d26e6f2fd61b7fde1a5efef9ab5816b5948", func := "castellan/castellanlaw9.TrieNodes", spec := "trieNodes", recurses := true, apart := false }
def TrieNodesSaid : Prop := trieNodesRow.holds Try.pinned (OpenSpec.ofChange trieNodesSpec)

/-- ITS FALSE NEIGHBOUR: 'it returns false'. Refute it at one input. -/
def trieNodesWrong : ChangeSpec := { name := "trieNodes", fn := fun _ => fun
  | [d1, d2] => { results := [.lit (.bool false)], args := [d1, d2] }
  | _ => none }
def TrieNodesWrongFalsely : Prop := trieNodesRow.holds Try.pinned (OpenSpec.ofChange trieNodesWrong)

/-- 'castellanlaw9.TrieOfNothing': WHATEVER THE INPUT: true; the input reads as it did. -/
def trieOfNothingSpec : ChangeSpec := { name := "trieOfNothing", fn := fun _ => fun
  | [d1, d2] => { results := [.lit (.bool true)], args := [d1, d2] }
  | _ => none }
def trieOfNothingRow : OpenClaim := { program := "ytgcnnblngmomhaa", sum := "6e908dcba82cc3b8f93d4c9388546d26e6f2fd61b7fde1a5efef9ab5816b5948", func := "castellan/castellanlaw9.TrieOfNothing", spec := "trieOfNothing", recurses := true, apart := false }
def TrieOfNothingSaid : Prop := trieOfNothingRow.holds Try.pinned (OpenSpec.ofChange trieOfNothingSpec)

/-- ITS FALSE NEIGHBOUR: 'it returns false'. Refute it at one input. -/
def trieOfNothingWrong : ChangeSpec := { name := "trieOfNothing", fn := fun _ => fun
  | [d1, d2] => { results := [.lit (.bool false)], args := [d1, d2] }
  | _ => none }
def TrieOfNothingWrongFalsely : Prop := trieOfNothingRow.holds Try.pinned (OpenSpec.ofChange trieOfNothingWrong)

/-- 'castellanlaw9.TrieDel': WHATEVER THE INPUT: true; the input reads as it did. -/
def trieDelSpec : ChangeSpec := { name := "trieDel", fn := fun _ => fun
  | [d1, d2] => { results := [.lit (.bool true)], args := [d1, d2] }
  | _ => none }
def trieDelRow : OpenClaim := { program := "ytgcnnblngmomhaa", sum := "6e908dcba82cc3b8f93d4c9388546d26e6f2fd61b7fde1a5efef9ab5816b5948", func := "castellan/castellanlaw9.TrieDel", spec := "trieDel", recurses := true, apart := false }
def TrieDelSaid : Prop := trieDelRow.holds Try.pinned (OpenSpec.ofChange trieDelSpec)

/-- ITS FALSE NEIGHBOUR: 'it returns false'. Refute it at one input. -/
def trieDelWrong : ChangeSpec := { name := "trieDel", fn := fun _ => fun
  | [d1, d2] => { results := [.lit (.bool false)], args := [d1, d2] }
  | _ => none }
def TrieDelWrongFalsely : Prop := trieDelRow.holds Try.pinned (OpenSpec.ofChange trieDelWrong)

/-- 'castellanlaw9.TrieCovers': WHATEVER THE INPUT: true; the input reads as it did. -/
def trieCoversSpec : ChangeSpec := { name := "trieCovers", fn := fun _ => fun
  | [d1, d2] => { results := [.lit (.bool true)], args := [d1, d2] }
  | _ => none }
def trieCoversRow : OpenClaim := { program := "ytgcnnblngmomhaa", sum := "6e908dcba82cc3b8f93d4c9388546d26e6f2fd61b7fde1a5efef9ab5816b5948", func := "castellan/castellanlaw9.TrieCovers", spec := "trieCovers", recurses := true, apart := false }
def TrieCoversSaid : Prop := trieCoversRow.holds Try.pinned (OpenSpec.ofChange trieCoversSpec)

/-- ITS FALSE NEIGHBOUR: 'it returns false'. Refute it at one input. -/
def trieCoversWrong : ChangeSpec := { name := "trieCovers", fn := fun _ => fun
  | [d1, d2] => { results := [.lit (.bool false)], args := [d1, d2] }
  | _ => none }
def TrieCoversWrongFalsely : Prop := trieCoversRow.holds Try.pinned (OpenSpec.ofChange trieCoversWrong)

/-- 'castellanlaw9.TrieHalves': WHATEVER THE INPUT: true; the input reads as it did. -/
def trieHalvesSpec : ChangeSpec := { name := "trieHalves", fn := fun _ => fun
  | [d1, d2] => { results := [.lit (.bool true)], args := [d1, d2] }
  | _ => none }
def trieHalvesRow : OpenClaim := { program := "ytgcnnblngmomhaa", sum := "6e908dcba82cc3b8f93d4c9388546d26e6f2fd61b7fde1a5efef9ab5816b5948", func := "castellan/castellanlaw9.TrieHalves", spec := "trieHalves", recurses := true, apart := false }
def TrieHalvesSaid : Prop := trieHalvesRow.holds Try.pinned (OpenSpec.ofChange trieHalvesSpec)

/-- ITS FALSE NEIGHBOUR: 'it returns false'. Refute it at one input. -/
def trieHalvesWrong : ChangeSpec := { name := "trieHalves", fn := fun _ => fun
  | [d1, d2] => { results := [.lit (.bool false)], args := [d1, d2] }
  | _ => none }
def TrieHalvesWrongFalsely : Prop := trieHalvesRow.holds Try.pinned (OpenSpec.ofChange trieHalvesWrong)

/- THE SECOND FORM. 'bulk': how many values and letters a reading holds, each counted each time it is reached (what is shared counts as often as it is met; a slice's spare places count too). A statement '..UptoSaid' is the law's where the arguments, and the package variables that the reading takes, are together of bulk at most 1048576: NARROWER than '..Said'. Prove '..Said' where nothing that the law and all that it calls make is longer than what came in: it says more and counts as full. Else prove '..UptoSaid'. A law counts once. -/
mutual
def uptoBulk {H : Type} : DataW H → Nat
  | .lit (.string bytes) => bytes.length + 1
  | .lit _ => 1
  | .nil => 1
  | .ptr d => uptoBulk d + 1
  | .slice elems spare => uptoBulkAll elems + uptoBulkAll spare + 1
  | .agg parts => uptoBulkAll parts + 1
  | .iface _ d => uptoBulk d + 1
  | .map entries => uptoBulkEntries entries + 1
  | .held _ => 1
def uptoBulkAll {H : Type} : List (DataW H) → Nat
  | [] => 0
  | d :: r => uptoBulk d + uptoBulkAll r
def uptoBulkEntries {H : Type} : List (Lit × DataW H) → Nat
  | [] => 0
  | x :: r => uptoBulkEntry x + uptoBulkEntries r
def uptoBulkEntry {H : Type} : Lit × DataW H → Nat
  | (.string bytes, d) => bytes.length + uptoBulk d + 1
  | (_, d) => uptoBulk d + 1
 end
def uptoSmall : (H : Type) → List (DataW H) → Bool := fun _ ds => decide (uptoBulkAll ds ≤ 1048576)
def OpenSpec.upto (s : _root_.Go.ChangeSpec) : _root_.Go.OpenSpec := { _root_.Go.OpenSpec.ofChange s with cond := some uptoSmall }

/-- 'castellanlaw9.TriePlays', WHERE WHAT IT READS IS OF BULK AT MOST 1048576: true; the input reads as it did. -/
def triePlaysUptoRow : OpenClaim := { program := "ytgcnnblngmomhaa", sum := "6e908dcba82cc3b8f93d4c9388546d26e6f2fd61b7fde1a5efef9ab5816b5948", func := "castellan/castellanlaw9.TriePlays", spec := "triePlays", recurses := true, apart := false, narrowed := true }
def TriePlaysUptoSaid : Prop := triePlaysUptoRow.holds Try.pinned (OpenSpec.upto triePlaysSpec)

/-- 'castellanlaw9.TrieLongest', WHERE WHAT IT READS IS OF BULK AT MOST 1048576: true; the input reads as it did. -/
def trieLongestUptoRow : OpenClaim := { program := "ytgcnnblngmomhaa", sum := "6e908dcba82cc3b8f93d4c9388546d26e6f2fd61b7fde1a5efef9ab5816b5948", func := "castellan/castellanlaw9.TrieLongest", spec := "trieLongest", recurses := true, apart := false, narrowed := true }
def TrieLongestUptoSaid : Prop := trieLongestUptoRow.holds Try.pinned (OpenSpec.upto trieLongestSpec)

/-- 'castellanlaw9.TrieSet', WHERE WHAT IT READS IS OF BULK AT MOST 1048576: true; the input reads as it did. -/
def trieSetUptoRow : OpenClaim := { program := "ytgcnnblngmomhaa", sum := "6e908dcba82cc3b8f93d4c9388546d26e6f2fd61b7fde1a5efef9ab5816b5948", func := "castellan/castellanlaw9.TrieSet", spec := "trieSet", recurses := true, apart := false, narrowed := true }
def TrieSetUptoSaid : Prop := trieSetUptoRow.holds Try.pinned (OpenSpec.upto trieSetSpec)

/-- 'castellanlaw9.TrieBest', WHERE WHAT IT READS IS OF BULK AT MOST 1048576: true; the input reads as it did. -/
def trieBestUptoRow : OpenClaim := { program := "ytgcnnblngmomhaa", sum := "6e908dcba82cc3b8f93d4c9388546d26e6f2fd61b7fde1a5efef9ab5816b5948", func := "castellan/castellanlaw9.TrieBest", spec := "trieBest", recurses := true, apart := false, narrowed := true }
def TrieBestUptoSaid : Prop := trieBestUptoRow.holds Try.pinned (OpenSpec.upto trieBestSpec)

/-- 'castellanlaw9.TrieNodes', WHERE WHAT IT READS IS OF BULK AT MOST 1048576: true; the input reads as it did. -/
def trieNodesUptoRow : OpenClaim := { program := "ytgcnnblngmomhaa", sum := "6e908dcba82cc3b8f93d4c9388546d26e6f2fd61b7fde1a5efef9ab5816b5948", func := "castellan/castellanlaw9.TrieNodes", spec := "trieNodes", recurses := true, apart := false, narrowed := true }
def TrieNodesUptoSaid : Prop := trieNodesUptoRow.holds Try.pinned (OpenSpec.upto trieNodesSpec)

/-- 'castellanlaw9.TrieOfNothing', WHERE WHAT IT READS IS OF BULK AT MOST 1048576: true; the input reads as it did. -/
def trieOfNothingUptoRow : OpenClaim := { program := "ytgcnnblngmomhaa", sum := "6e908dcba82cc3b8f93d4c9388546d26e6f2fd61b7fde1a5efef9ab5816b5948", func := "castellan/castellanlaw9.TrieOfNothing", spec := "trieOfNothing", recurses := true, apart := false, narrowed := true }
def TrieOfNothingUptoSaid : Prop := trieOfNothingUptoRow.holds Try.pinned (OpenSpec.upto trieOfNothingSpec)

/-- 'castellanlaw9.TrieDel', WHERE WHAT IT READS IS OF BULK AT MOST 1048576: true; the input reads as it did. -/
def trieDelUptoRow : OpenClaim := { program := "ytgcnnblngmomhaa", sum := "6e908dcba82cc3b8f93d4c9388546d26e6f2fd61b7fde1a5efef9ab5816b5948", func := "castellan/castellanlaw9.TrieDel", spec := "trieDel", recurses := true, apart := false, narrowed := true }
def TrieDelUptoSaid : Prop := trieDelUptoRow.holds Try.pinned (OpenSpec.upto trieDelSpec)

/-- 'castellanlaw9.TrieCovers', WHERE WHAT IT READS IS OF BULK AT MOST 1048576: true; the input reads as it did. -/
def trieCoversUptoRow : OpenClaim := { program := "ytgcnnblngmomhaa", sum := "6e908dcba82cc3b8f93d4c9388546d26e6f2fd61b7fde1a5efef9ab5816b5948", func := "castellan/castellanlaw9.TrieCovers", spec := "trieCovers", recurses := true, apart := false, narrowed := true }
def TrieCoversUptoSaid : Prop := trieCoversUptoRow.holds Try.pinned (OpenSpec.upto trieCoversSpec)

/-- 'castellanlaw9.TrieHalves', WHERE WHAT IT READS IS OF BULK AT MOST 1048576: true; the input reads as it did. -/
def trieHalvesUptoRow : OpenClaim := { program := "ytgcnnblngmomhaa", sum := "6e908dcba82cc3b8f93d4c9388546d26e6f2fd61b7fde1a5efef9ab5816b5948", func := "castellan/castellanlaw9.TrieHalves", spec := "trieHalves", recurses := true, apart := false, narrowed := true }
def TrieHalvesUptoSaid : Prop := trieHalvesUptoRow.holds Try.pinned (OpenSpec.upto trieHalvesSpec)

end Rows
end Go.Proofs.Ytgcnnblngmomhaa
