/-
  No cell of these rows narrows 'for every input' (looked for: loops, veiled, ifaces, maps, wideKeys, modest, calm, conditions, laid).
  DERIVED. THE GIVEN ROWS OF THIS SEAT. 6 by the template 'for every input the law returns true; each argument reads behind the call as it read before'; 0 by the template 'total and deterministic' (their statements: YtkfhkhgiojpfoaaGreatTotals.lean).
  GIVEN WITH THE SEED: the statements are not yours to turn. If you find one false, say at which input.
  Laid BY PROGRAM, IN A SANDBOX (cutbox-rows.mjs): the forced cells as the released guide's own fill.sh prints them over the translation bb6872e0eaa29e85… (all of the seat's roots in one cut). By AI agents, Wed Nov 11 2026. No macro, syntax, notation, axiom, sorry.
-/
import Derived.Test.YtkfhkhgiojpfoaaGreatChecked
import GoSem.Claim
import GoSem.ClaimJoined
import GoSem.ClaimMapViews
import Derived.JoinedTies
import Derived.KernelRfl
namespace Go.Proofs.YtkfhkhgiojpfoaaGreat
/- THE CELL 'sum', in the pinned program and in every row, IS THE sha256 OF THE DUMP (.gsa) THAT YtkfhkhgiojpfoaaGreatProg.lean LOADS. Nothing in Lean hashes anything: it is a label: what it is worth is what the hold of that sum in a sandbox is worth. -/
noncomputable def Tryz.pinned : Pinned := { name := "ytkfhkhgiojpfoaagreat", sum := "bb6872e0eaa29e852ed344a3a9fea42c4cbae270003988172cfa706eb173c5cf", checked := Tryz.checked }
namespace Rows
def none {H : Type} : Left H := { results := [], args := [] }

/-- 'castellanlaw13.RpfChecks': WHATEVER THE INPUT: true; the input reads as it did. -/
def rpfChecksSpec : ChangeSpec := { name := "rpfChecks", fn := fun _ => fun
  | [d1, d2, d3, d4, d5, d6] => { results := [.lit (.bool true)], args := [d1, d2, d3, d4, d5, d6] }
  | _ => none }
def rpfChecksRow : OpenClaim := { program := "ytkfhkhgiojpfoaagreat", sum := "bb6872e0eaa29e852ed344a3a9fea42c4cbae270003988172cfa706eb173c5cf", func := "castellan/castellanlaw13.RpfChecks", spec := "rpfChecks", inPlace := ["slices.overlaps[castellan/api.Route]", "sync/atomic.LoadUint32", "(*internal/sync.Mutex).Lock", "internal/race.Disable", "sync/atomic.CompareAndSwapInt32", "internal/race.Enable", "internal/race.Acquire", "(*internal/sync.Mutex).lockSlow", "internal/sync.runtime_canSpin", "internal/sync.runtime_doSpin", "internal/sync.throw", "internal/sync.runtime_nanotime", "internal/sync.runtime_SemacquireMutex", "sync/atomic.AddInt32", "(*internal/sync.Mutex).Unlock", "internal/race.ReleaseMerge", "(*internal/sync.Mutex).unlockSlow", "internal/sync.fatal", "internal/sync.runtime_Semrelease", "sync/atomic.StoreUint32"], unfollowed := true, recurses := true, plainKeys := false, apart := false }
def RpfChecksSaid : Prop := rpfChecksRow.holds Tryz.pinned (OpenSpec.ofChange rpfChecksSpec)

/-- ITS FALSE NEIGHBOUR: 'it returns false'. Refute it at one input. -/
def rpfChecksWrong : ChangeSpec := { name := "rpfChecks", fn := fun _ => fun
  | [d1, d2, d3, d4, d5, d6] => { results := [.lit (.bool false)], args := [d1, d2, d3, d4, d5, d6] }
  | _ => none }
def RpfChecksWrongFalsely : Prop := rpfChecksRow.holds Tryz.pinned (OpenSpec.ofChange rpfChecksWrong)

/-- 'castellanlaw13.RpfOrder': WHATEVER THE INPUT: true; the input reads as it did. -/
def rpfOrderSpec : ChangeSpec := { name := "rpfOrder", fn := fun _ => fun
  | [d1, d2, d3, d4, d5] => { results := [.lit (.bool true)], args := [d1, d2, d3, d4, d5] }
  | _ => none }
def rpfOrderRow : OpenClaim := { program := "ytkfhkhgiojpfoaagreat", sum := "bb6872e0eaa29e852ed344a3a9fea42c4cbae270003988172cfa706eb173c5cf", func := "castellan/castellanlaw13.RpfOrder", spec := "rpfOrder", inPlace := ["slices.overlaps[castellan/api.Route]", "sync/atomic.LoadUint32", "(*internal/sync.Mutex).Lock", "internal/race.Disable", "sync/atomic.CompareAndSwapInt32", "internal/race.Enable", "internal/race.Acquire", "(*internal/sync.Mutex).lockSlow", "internal/sync.runtime_canSpin", "internal/sync.runtime_doSpin", "internal/sync.throw", "internal/sync.runtime_nanotime", "internal/sync.runtime_SemacquireMutex", "sync/atomic.AddInt32", "(*internal/sync.Mutex).Unlock", "internal/race.ReleaseMerge", "(*internal/sync.Mutex).unlockSlow", "internal/sync.fatal", "internal/sync.runtime_Semrelease", "sync/atomic.StoreUint32"], unfollowed := true, recurses := true, plainKeys := false, apart := false }
def RpfOrderSaid : Prop := rpfOrderRow.holds Tryz.pinned (OpenSpec.ofChange rpfOrderSpec)

/-- ITS FALSE NEIGHBOUR: 'it returns false'. Refute it at one input. -/
def rpfOrderWrong : ChangeSpec := { name := "rpfOrder", fn := fun _ => fun
  | [d1, d2, d3, d4, d5] => { results := [.lit (.bool false)], args := [d1, d2, d3, d4, d5] }
  | _ => none }
def RpfOrderWrongFalsely : Prop := rpfOrderRow.holds Tryz.pinned (OpenSpec.ofChange rpfOrderWrong)

/-- 'castellanlaw13.RpfSources': WHATEVER THE INPUT: true; the input reads as it did. -/
def rpfSourcesSpec : ChangeSpec := { name := "rpfSources", fn := fun _ => fun
  | [d1, d2] => { results := [.lit (.bool true)], args := [d1, d2] }
  | _ => none }
def rpfSourcesRow : OpenClaim := { program := "ytkfhkhgiojpfoaagreat", sum := "bb6872e0eaa29e852ed344a3a9fea42c4cbae270003988172cfa706eb173c5cf", func := "castellan/castellanlaw13.RpfSources", spec := "rpfSources", inPlace := ["slices.overlaps[castellan/api.Route]", "sync/atomic.LoadUint32", "(*internal/sync.Mutex).Lock", "internal/race.Disable", "sync/atomic.CompareAndSwapInt32", "internal/race.Enable", "internal/race.Acquire", "(*internal/sync.Mutex).lockSlow", "internal/sync.runtime_canSpin", "internal/sync.runtime_doSpin", "internal/sync.throw", "internal/sync.runtime_nanotime", "internal/sync.runtime_SemacquireMutex", "sync/atomic.AddInt32", "(*internal/sync.Mutex).Unlock", "internal/race.ReleaseMerge", "(*internal/sync.Mutex).unlockSlow", "internal/sync.fatal", "internal/sync.runtime_Semrelease", "sync/atomic.StoreUint32"], unfollowed := true, recurses := true, plainKeys := false, apart := false }
def RpfSourcesSaid : Prop := rpfSourcesRow.holds Tryz.pinned (OpenSpec.ofChange rpfSourcesSpec)

/-- ITS FALSE NEIGHBOUR: 'it returns false'. Refute it at one input. -/
def rpfSourcesWrong : ChangeSpec := { name := "rpfSources", fn := fun _ => fun
  | [d1, d2] => { results := [.lit (.bool false)], args := [d1, d2] }
  | _ => none }
def RpfSourcesWrongFalsely : Prop := rpfSourcesRow.holds Tryz.pinned (OpenSpec.ofChange rpfSourcesWrong)

/-- 'castellanlaw13.RpfNever': WHATEVER THE INPUT: true; the input reads as it did. -/
def rpfNeverSpec : ChangeSpec := { name := "rpfNever", fn := fun _ => fun
  | [d1, d2, d3] => { results := [.lit (.bool true)], args := [d1, d2, d3] }
  | _ => none }
def rpfNeverRow : OpenClaim := { program := "ytkfhkhgiojpfoaagreat", sum := "bb6872e0eaa29e852ed344a3a9fea42c4cbae270003988172cfa706eb173c5cf", func := "castellan/castellanlaw13.RpfNever", spec := "rpfNever", inPlace := ["slices.overlaps[castellan/api.Route]", "sync/atomic.LoadUint32", "(*internal/sync.Mutex).Lock", "internal/race.Disable", "sync/atomic.CompareAndSwapInt32", "internal/race.Enable", "internal/race.Acquire", "(*internal/sync.Mutex).lockSlow", "internal/sync.runtime_canSpin", "internal/sync.runtime_doSpin", "internal/sync.throw", "internal/sync.runtime_nanotime", "internal/sync.runtime_SemacquireMutex", "sync/atomic.AddInt32", "(*internal/sync.Mutex).Unlock", "internal/race.ReleaseMerge", "(*internal/sync.Mutex).unlockSlow", "internal/sync.fatal", "internal/sync.runtime_Semrelease", "sync/atomic.StoreUint32"], unfollowed := true, recurses := true, plainKeys := false, apart := false }
def RpfNeverSaid : Prop := rpfNeverRow.holds Tryz.pinned (OpenSpec.ofChange rpfNeverSpec)

/-- ITS FALSE NEIGHBOUR: 'it returns false'. Refute it at one input. -/
def rpfNeverWrong : ChangeSpec := { name := "rpfNever", fn := fun _ => fun
  | [d1, d2, d3] => { results := [.lit (.bool false)], args := [d1, d2, d3] }
  | _ => none }
def RpfNeverWrongFalsely : Prop := rpfNeverRow.holds Tryz.pinned (OpenSpec.ofChange rpfNeverWrong)

/-- 'castellanlaw13.RpfDefault': WHATEVER THE INPUT: true; the input reads as it did. -/
def rpfDefaultSpec : ChangeSpec := { name := "rpfDefault", fn := fun _ => fun
  | [d1, d2] => { results := [.lit (.bool true)], args := [d1, d2] }
  | _ => none }
def rpfDefaultRow : OpenClaim := { program := "ytkfhkhgiojpfoaagreat", sum := "bb6872e0eaa29e852ed344a3a9fea42c4cbae270003988172cfa706eb173c5cf", func := "castellan/castellanlaw13.RpfDefault", spec := "rpfDefault", inPlace := ["slices.overlaps[castellan/api.Route]", "sync/atomic.LoadUint32", "(*internal/sync.Mutex).Lock", "internal/race.Disable", "sync/atomic.CompareAndSwapInt32", "internal/race.Enable", "internal/race.Acquire", "(*internal/sync.Mutex).lockSlow", "internal/sync.runtime_canSpin", "internal/sync.runtime_doSpin", "internal/sync.throw", "internal/sync.runtime_nanotime", "internal/sync.runtime_SemacquireMutex", "sync/atomic.AddInt32", "(*internal/sync.Mutex).Unlock", "internal/race.ReleaseMerge", "(*internal/sync.Mutex).unlockSlow", "internal/sync.fatal", "internal/sync.runtime_Semrelease", "sync/atomic.StoreUint32"], unfollowed := true, recurses := true, plainKeys := false, apart := false }
def RpfDefaultSaid : Prop := rpfDefaultRow.holds Tryz.pinned (OpenSpec.ofChange rpfDefaultSpec)

/-- ITS FALSE NEIGHBOUR: 'it returns false'. Refute it at one input. -/
def rpfDefaultWrong : ChangeSpec := { name := "rpfDefault", fn := fun _ => fun
  | [d1, d2] => { results := [.lit (.bool false)], args := [d1, d2] }
  | _ => none }
def RpfDefaultWrongFalsely : Prop := rpfDefaultRow.holds Tryz.pinned (OpenSpec.ofChange rpfDefaultWrong)

/-- 'castellanlaw13.RpfFeasible': WHATEVER THE INPUT: true; the input reads as it did. -/
def rpfFeasibleSpec : ChangeSpec := { name := "rpfFeasible", fn := fun _ => fun
  | [d1, d2, d3] => { results := [.lit (.bool true)], args := [d1, d2, d3] }
  | _ => none }
def rpfFeasibleRow : OpenClaim := { program := "ytkfhkhgiojpfoaagreat", sum := "bb6872e0eaa29e852ed344a3a9fea42c4cbae270003988172cfa706eb173c5cf", func := "castellan/castellanlaw13.RpfFeasible", spec := "rpfFeasible", inPlace := ["slices.overlaps[castellan/api.Route]", "sync/atomic.LoadUint32", "(*internal/sync.Mutex).Lock", "internal/race.Disable", "sync/atomic.CompareAndSwapInt32", "internal/race.Enable", "internal/race.Acquire", "(*internal/sync.Mutex).lockSlow", "internal/sync.runtime_canSpin", "internal/sync.runtime_doSpin", "internal/sync.throw", "internal/sync.runtime_nanotime", "internal/sync.runtime_SemacquireMutex", "sync/atomic.AddInt32", "(*internal/sync.Mutex).Unlock", "internal/race.ReleaseMerge", "(*internal/sync.Mutex).unlockSlow", "internal/sync.fatal", "internal/sync.runtime_Semrelease", "sync/atomic.StoreUint32"], unfollowed := true, recurses := true, plainKeys := false, apart := false }
def RpfFeasibleSaid : Prop := rpfFeasibleRow.holds Tryz.pinned (OpenSpec.ofChange rpfFeasibleSpec)

/-- ITS FALSE NEIGHBOUR: 'it returns false'. Refute it at one input. -/
def rpfFeasibleWrong : ChangeSpec := { name := "rpfFeasible", fn := fun _ => fun
  | [d1, d2, d3] => { results := [.lit (.bool false)], args := [d1, d2, d3] }
  | _ => none }
def RpfFeasibleWrongFalsely : Prop := rpfFeasibleRow.holds Tryz.pinned (OpenSpec.ofChange rpfFeasibleWrong)

/- THE SECOND FORM. 'bulk': how many values and letters a reading holds, each counted each time it is reached (what is shared counts as often as it is met; a slice's spare places count too). A statement '..UptoSaid' is the law's where the arguments, and the package variables that the reading takes, are together of bulk at most 1048576: NARROWER than '..Said'. Prove '..Said' where nothing that the law and all that it calls make is longer than what came in: it says more and counts as full. Else prove '..UptoSaid'. A law counts once. -/
mutual
def uptoBulk {H : Type} : DataW H → Nat
  | .lit (.string bytes) => bytes.length + 1
  | .lit _ => 1
  | .nil => 1
  | .ptr d => uptoBulk d + 1
  | .slice elems spare => uptoBulkAll elems + uptoBulkAll spare + 1
  | .agg parts => uptoBulkAll parts + 1
  | .iface _ d => uptoBulk d + 1
  | .map entries => uptoBulkEntries entries + 1
  | .held _ => 1
def uptoBulkAll {H : Type} : List (DataW H) → Nat
  | [] => 0
  | d :: r => uptoBulk d + uptoBulkAll r
def uptoBulkEntries {H : Type} : List (Lit × DataW H) → Nat
  | [] => 0
  | x :: r => uptoBulkEntry x + uptoBulkEntries r
def uptoBulkEntry {H : Type} : Lit × DataW H → Nat
  | (.string bytes, d) => bytes.length + uptoBulk d + 1
  | (_, d) => uptoBulk d + 1
 end
def uptoSmall : (H : Type) → List (DataW H) → Bool := fun _ ds => decide (uptoBulkAll ds ≤ 1048576)
def OpenSpec.upto (s : _root_.Go.ChangeSpec) : _root_.Go.OpenSpec := { _root_.Go.OpenSpec.ofChange s with cond := some uptoSmall }

/-- 'castellanlaw13.RpfChecks', WHERE WHAT IT READS IS OF BULK AT MOST 1048576: true; the input reads as it did. -/
def rpfChecksUptoRow : OpenClaim := { program := "ytkfhkhgiojpfoaagreat", sum := "bb6872e0eaa29e852ed344a3a9fea42c4cbae270003988172cfa706eb173c5cf", func := "castellan/castellanlaw13.RpfChecks", spec := "rpfChecks", inPlace := ["slices.overlaps[castellan/api.Route]", "sync/atomic.LoadUint32", "(*internal/sync.Mutex).Lock", "internal/race.Disable", "sync/atomic.CompareAndSwapInt32", "internal/race.Enable", "internal/race.Acquire", "(*internal/sync.Mutex).lockSlow", "internal/sync.runtime_canSpin", "internal/sync.runtime_doSpin", "internal/sync.throw", "internal/sync.runtime_nanotime", "internal/sync.runtime_SemacquireMutex", "sync/atomic.AddInt32", "(*internal/sync.Mutex).Unlock", "internal/race.ReleaseMerge", "(*internal/sync.Mutex).unlockSlow", "internal/sync.fatal", "internal/sync.runtime_Semrelease", "sync/atomic.StoreUint32"], unfollowed := true, recurses := true, plainKeys := false, apart := false, narrowed := true }
def RpfChecksUptoSaid : Prop := rpfChecksUptoRow.holds Tryz.pinned (OpenSpec.upto rpfChecksSpec)

/-- 'castellanlaw13.RpfOrder', WHERE WHAT IT READS IS OF BULK AT MOST 1048576: true; the input reads as it did. -/
def rpfOrderUptoRow : OpenClaim := { program := "ytkfhkhgiojpfoaagreat", sum := "bb6872e0eaa29e852ed344a3a9fea42c4cbae270003988172cfa706eb173c5cf", func := "castellan/castellanlaw13.RpfOrder", spec := "rpfOrder", inPlace := ["slices.overlaps[castellan/api.Route]", "sync/atomic.LoadUint32", "(*internal/sync.Mutex).Lock", "internal/race.Disable", "sync/atomic.CompareAndSwapInt32", "internal/race.Enable", "internal/race.Acquire", "(*internal/sync.Mutex).lockSlow", "internal/sync.runtime_canSpin", "internal/sync.runtime_doSpin", "internal/sync.throw", "internal/sync.runtime_nanotime", "internal/sync.runtime_SemacquireMutex", "sync/atomic.AddInt32", "(*internal/sync.Mutex).Unlock", "internal/race.ReleaseMerge", "(*internal/sync.Mutex).unlockSlow", "internal/sync.fatal", "internal/sync.runtime_Semrelease", "sync/atomic.StoreUint32"], unfollowed := true, recurses := true, plainKeys := false, apart := false, narrowed := true }
def RpfOrderUptoSaid : Prop := rpfOrderUptoRow.holds Tryz.pinned (OpenSpec.upto rpfOrderSpec)

/-- 'castellanlaw13.RpfSources', WHERE WHAT IT READS IS OF BULK AT MOST 1048576: true; the input reads as it did. -/
def rpfSourcesUptoRow : OpenClaim := { program := "ytkfhkhgiojpfoaagreat", sum := "bb6872e0eaa29e852ed344a3a9fea42c4cbae270003988172cfa706eb173c5cf", func := "castellan/castellanlaw13.RpfSources", spec := "rpfSources", inPlace := ["slices.overlaps[castellan/api.Route]", "sync/atomic.LoadUint32", "(*internal/sync.Mutex).Lock", "internal/race.Disable", "sync/atomic.CompareAndSwapInt32", "internal/race.Enable", "internal/race.Acquire", "(*internal/sync.Mutex).lockSlow", "internal/sync.runtime_canSpin", "internal/sync.runtime_doSpin", "internal/sync.throw", "internal/sync.runtime_nanotime", "internal/sync.runtime_SemacquireMutex", "sync/atomic.AddInt32", "(*internal/sync.Mutex).Unlock", "internal/race.ReleaseMerge", "(*internal/sync.Mutex).unlockSlow", "internal/sync.fatal", "internal/sync.runtime_Semrelease", "sync/atomic.StoreUint32"], unfollowed := true, recurses := true, plainKeys := false, apart := false, narrowed := true }
def RpfSourcesUptoSaid : Prop := rpfSourcesUptoRow.holds Tryz.pinned (OpenSpec.upto rpfSourcesSpec)

/-- 'castellanlaw13.RpfNever', WHERE WHAT IT READS IS OF BULK AT MOST 1048576: true; the input reads as it did. -/
def rpfNeverUptoRow : OpenClaim := { program := "ytkfhkhgiojpfoaagreat", sum := "bb6872e0eaa29e852ed344a3a9fea42c4cbae270003988172cfa706eb173c5cf", func := "castellan/castellanlaw13.RpfNever", spec := "rpfNever", inPlace := ["slices.overlaps[castellan/api.Route]", "sync/atomic.LoadUint32", "(*internal/sync.Mutex).Lock", "internal/race.Disable", "sync/atomic.CompareAndSwapInt32", "internal/race.Enable", "internal/race.Acquire", "(*internal/sync.Mutex).lockSlow", "internal/sync.runtime_canSpin", "internal/sync.runtime_doSpin", "internal/sync.throw", "internal/sync.runtime_nanotime", "internal/sync.runtime_SemacquireMutex", "sync/atomic.AddInt32", "(*internal/sync.Mutex).Unlock", "internal/race.ReleaseMerge", "(*internal/sync.Mutex).unlockSlow", "internal/sync.fatal", "internal/sync.runtime_Semrelease", "sync/atomic.StoreUint32"], unfollowed := true, recurses := true, plainKeys := false, apart := false, narrowed := true }
def RpfNeverUptoSaid : Prop := rpfNeverUptoRow.holds Tryz.pinned (OpenSpec.upto rpfNeverSpec)

/-- 'castellanlaw13.RpfDefault', WHERE WHAT IT READS IS OF BULK AT MOST 1048576: true; the input reads as it did. -/
def rpfDefaultUptoRow : OpenClaim := { program := "ytkfhkhgiojpfoaagreat", sum := "bb6872e0eaa29e852ed344a3a9fea42c4cbae270003988172cfa706eb173c5cf", func := "castellan/castellanlaw13.RpfDefault", spec := "rpfDefault", inPlace := ["slices.overlaps[castellan/api.Route]", "sync/atomic.LoadUint32", "(*internal/sync.Mutex).Lock", "internal/race.Disable", "sync/atomic.CompareAndSwapInt32", "internal/race.Enable", "internal/race.Acquire", "(*internal/sync.Mutex).lockSlow", "internal/sync.runtime_canSpin", "internal/sync.runtime_doSpin", "internal/sync.throw", "internal/sync.runtime_nanotime", "internal/sync.runtime_SemacquireMutex", "sync/atomic.AddInt32", "(*internal/sync.Mutex).Unlock", "internal/race.ReleaseMerge", "(*internal/sync.Mutex).unlockSlow", "internal/sync.fatal", "internal/sync.runtime_Semrelease", "sync/atomic.StoreUint32"], unfollowed := true, recurses := true, plainKeys := false, apart := false, narrowed := true }
def RpfDefaultUptoSaid : Prop := rpfDefaultUptoRow.holds Tryz.pinned (OpenSpec.upto rpfDefaultSpec)

/-- 'castellanlaw13.RpfFeasible', WHERE WHAT IT READS IS OF BULK AT MOST 1048576: true; the input reads as it did. -/
def rpfFeasibleUptoRow : OpenClaim := { program := "ytkfhkhgiojpfoaagreat", sum := "bb6872e0eaa29e852ed344a3a9fea42c4cbae270003988172cfa706eb173c5cf", func := "castellan/castellanlaw13.RpfFeasible", spec := "rpfFeasible", inPlace := ["slices.overlaps[castellan/api.Route]", "sync/atomic.LoadUint32", "(*internal/sync.Mutex).Lock", "internal/race.Disable", "sync/atomic.CompareAndSwapInt32", "internal/race.Enable", "internal/race.Acquire", "(*internal/sync.Mutex).lockSlow", "internal/sync.runtime_canSpin", "internal/sync.runtime_doSpin", "internal/sync.throw", "internal/sync.runtime_nanotime", "internal/sync.runtime_SemacquireMutex", "sync/atomic.AddInt32", "(*internal/sync.Mutex).Unlock", "internal/race.ReleaseMerge", "(*internal/sync.Mutex).unlockSlow", "internal/sync.fatal", "internal/sync.runtime_Semrelease", "sync/atomic.StoreUint32"], unfollowed := true, recurses := true, plainKeys := false, apart := false, narrowed := true }
def RpfFeasibleUptoSaid : Prop := rpfFeasibleUptoRow.holds Tryz.pinned (OpenSpec.upto rpfFeasibleSpec)

end Rows
end Go.Proofs.YtkfhkhgiojpfoaaGreat
