/-
  No cell of these rows narrows 'for every input' (looked for: loops, veiled, ifaces, maps, wideKeys, modest, calm, conditions, laid).
  DERIVED. THE GIVEN ROWS OF THIS SEAT. 7 by the template 'for every input the law returns true; each argument reads behind the call as it read before'; 0 by the template 'total and deterministic' (their statements: YtmoimkeeldlpkaaGreatTotals.lean).
  GIVEN WITH THE SEED: the statements are not yours to turn. If you find one false, say at which input.
  Laid BY PROGRAM, IN A SANDBOX (cutbox-rows.mjs): the forced cells as the released guide's own fill.sh prints them over the translation cacfcac2fbebc64e… (all of the seat's roots in one cut). By AI agents, Wed Nov 11 2026. No macro, syntax, notation, axiom, sorry.
-/
import Derived.Test.YtmoimkeeldlpkaaGreatChecked
import GoSem.Claim
import GoSem.ClaimJoined
import GoSem.ClaimMapViews
import Derived.JoinedTies
import Derived.KernelRfl
namespace Go.Proofs.YtmoimkeeldlpkaaGreat
/- THE CELL 'sum', in the pinned program and in every row, IS THE sha256 OF THE DUMP (.gsa) THAT YtmoimkeeldlpkaaGreatProg.lean LOADS. Nothing in Lean hashes anything: it is a label: what it is worth is what the hold of that sum in a sandbox is worth. -/
noncomputable def Tryz.pinned : Pinned := { name := "ytmoimkeeldlpkaagreat", sum := "cacfcac2fbebc64e6fdd8b2c1d2dae73008c15fe9f6a5ca74b4fce2855289219", checked := Tryz.checked }
namespace Rows
def none {H : Type} : Left H := { results := [], args := [] }

/-- 'castellanlaw12.FibPlays': WHATEVER THE INPUT: true; the input reads as it did. -/
def fibPlaysSpec : ChangeSpec := { name := "fibPlays", fn := fun _ => fun
  | [d1, d2] => { results := [.lit (.bool true)], args := [d1, d2] }
  | _ => none }
def fibPlaysRow : OpenClaim := { program := "ytmoimkeeldlpkaagreat", sum := "cacfcac2fbebc64e6fdd8b2c1d2dae73008c15fe9f6a5ca74b4fce2855289219", func := "castellan/castellanlaw12.FibPlays", spec := "fibPlays", inPlace := ["slices.overlaps[castellan/api.Route]", "sync/atomic.LoadUint32", "(*internal/sync.Mutex).Lock", "internal/race.Disable", "sync/atomic.CompareAndSwapInt32", "internal/race.Enable", "internal/race.Acquire", "(*internal/sync.Mutex).lockSlow", "internal/sync.runtime_canSpin", "internal/sync.runtime_doSpin", "internal/sync.throw", "internal/sync.runtime_nanotime", "internal/sync.runtime_SemacquireMutex", "sync/atomic.AddInt32", "(*internal/sync.Mutex).Unlock", "internal/race.ReleaseMerge", "(*internal/sync.Mutex).unlockSlow", "internal/sync.fatal", "internal/sync.runtime_Semrelease", "sync/atomic.StoreUint32"], unfollowed := true, recurses := true, plainKeys := false, apart := false }
def FibPlaysSaid : Prop := fibPlaysRow.holds Tryz.pinned (OpenSpec.ofChange fibPlaysSpec)

/-- ITS FALSE NEIGHBOUR: 'it returns false'. Refute it at one input. -/
def fibPlaysWrong : ChangeSpec := { name := "fibPlays", fn := fun _ => fun
  | [d1, d2] => { results := [.lit (.bool false)], args := [d1, d2] }
  | _ => none }
def FibPlaysWrongFalsely : Prop := fibPlaysRow.holds Tryz.pinned (OpenSpec.ofChange fibPlaysWrong)

/-- 'castellanlaw12.FibLooks': WHATEVER THE INPUT: true; the input reads as it did. -/
def fibLooksSpec : ChangeSpec := { name := "fibLooks", fn := fun _ => fun
  | [d1, d2, d3, d4] => { results := [.lit (.bool true)], args := [d1, d2, d3, d4] }
  | _ => none }
def fibLooksRow : OpenClaim := { program := "ytmoimkeeldlpkaagreat", sum := "cacfcac2fbebc64e6fdd8b2c1d2dae73008c15fe9f6a5ca74b4fce2855289219", func := "castellan/castellanlaw12.FibLooks", spec := "fibLooks", inPlace := ["slices.overlaps[castellan/api.Route]", "sync/atomic.LoadUint32", "(*internal/sync.Mutex).Lock", "internal/race.Disable", "sync/atomic.CompareAndSwapInt32", "internal/race.Enable", "internal/race.Acquire", "(*internal/sync.Mutex).lockSlow", "internal/sync.runtime_canSpin", "internal/sync.runtime_doSpin", "internal/sync.throw", "internal/sync.runtime_nanotime", "internal/sync.runtime_SemacquireMutex", "sync/atomic.AddInt32", "(*internal/sync.Mutex).Unlock", "internal/race.ReleaseMerge", "(*internal/sync.Mutex).unlockSlow", "internal/sync.fatal", "internal/sync.runtime_Semrelease", "sync/atomic.StoreUint32"], unfollowed := true, recurses := true, plainKeys := false, apart := false }
def FibLooksSaid : Prop := fibLooksRow.holds Tryz.pinned (OpenSpec.ofChange fibLooksSpec)

/-- ITS FALSE NEIGHBOUR: 'it returns false'. Refute it at one input. -/
def fibLooksWrong : ChangeSpec := { name := "fibLooks", fn := fun _ => fun
  | [d1, d2, d3, d4] => { results := [.lit (.bool false)], args := [d1, d2, d3, d4] }
  | _ => none }
def FibLooksWrongFalsely : Prop := fibLooksRow.holds Tryz.pinned (OpenSpec.ofChange fibLooksWrong)

/-- 'castellanlaw12.FibRefused': WHATEVER THE INPUT: true; the input reads as it did. -/
def fibRefusedSpec : ChangeSpec := { name := "fibRefused", fn := fun _ => fun
  | [d1, d2, d3] => { results := [.lit (.bool true)], args := [d1, d2, d3] }
  | _ => none }
def fibRefusedRow : OpenClaim := { program := "ytmoimkeeldlpkaagreat", sum := "cacfcac2fbebc64e6fdd8b2c1d2dae73008c15fe9f6a5ca74b4fce2855289219", func := "castellan/castellanlaw12.FibRefused", spec := "fibRefused", inPlace := ["slices.overlaps[castellan/api.Route]", "sync/atomic.LoadUint32", "(*internal/sync.Mutex).Lock", "internal/race.Disable", "sync/atomic.CompareAndSwapInt32", "internal/race.Enable", "internal/race.Acquire", "(*internal/sync.Mutex).lockSlow", "internal/sync.runtime_canSpin", "internal/sync.runtime_doSpin", "internal/sync.throw", "internal/sync.runtime_nanotime", "internal/sync.runtime_SemacquireMutex", "sync/atomic.AddInt32", "(*internal/sync.Mutex).Unlock", "internal/race.ReleaseMerge", "(*internal/sync.Mutex).unlockSlow", "internal/sync.fatal", "internal/sync.runtime_Semrelease", "sync/atomic.StoreUint32"], unfollowed := true, recurses := true, plainKeys := false, apart := false }
def FibRefusedSaid : Prop := fibRefusedRow.holds Tryz.pinned (OpenSpec.ofChange fibRefusedSpec)

/-- ITS FALSE NEIGHBOUR: 'it returns false'. Refute it at one input. -/
def fibRefusedWrong : ChangeSpec := { name := "fibRefused", fn := fun _ => fun
  | [d1, d2, d3] => { results := [.lit (.bool false)], args := [d1, d2, d3] }
  | _ => none }
def FibRefusedWrongFalsely : Prop := fibRefusedRow.holds Tryz.pinned (OpenSpec.ofChange fibRefusedWrong)

/-- 'castellanlaw12.FibUp': WHATEVER THE INPUT: true; the input reads as it did. -/
def fibUpSpec : ChangeSpec := { name := "fibUp", fn := fun _ => fun
  | [d1, d2, d3, d4] => { results := [.lit (.bool true)], args := [d1, d2, d3, d4] }
  | _ => none }
def fibUpRow : OpenClaim := { program := "ytmoimkeeldlpkaagreat", sum := "cacfcac2fbebc64e6fdd8b2c1d2dae73008c15fe9f6a5ca74b4fce2855289219", func := "castellan/castellanlaw12.FibUp", spec := "fibUp", inPlace := ["slices.overlaps[castellan/api.Route]", "sync/atomic.LoadUint32", "(*internal/sync.Mutex).Lock", "internal/race.Disable", "sync/atomic.CompareAndSwapInt32", "internal/race.Enable", "internal/race.Acquire", "(*internal/sync.Mutex).lockSlow", "internal/sync.runtime_canSpin", "internal/sync.runtime_doSpin", "internal/sync.throw", "internal/sync.runtime_nanotime", "internal/sync.runtime_SemacquireMutex", "sync/atomic.AddInt32", "(*internal/sync.Mutex).Unlock", "internal/race.ReleaseMerge", "(*internal/sync.Mutex).unlockSlow", "internal/sync.fatal", "internal/sync.runtime_Semrelease", "sync/atomic.StoreUint32"], unfollowed := true, recurses := true, plainKeys := false, apart := false }
def FibUpSaid : Prop := fibUpRow.holds Tryz.pinned (OpenSpec.ofChange fibUpSpec)

/-- ITS FALSE NEIGHBOUR: 'it returns false'. Refute it at one input. -/
def fibUpWrong : ChangeSpec := { name := "fibUp", fn := fun _ => fun
  | [d1, d2, d3, d4] => { results := [.lit (.bool false)], args := [d1, d2, d3, d4] }
  | _ => none }
def FibUpWrongFalsely : Prop := fibUpRow.holds Tryz.pinned (OpenSpec.ofChange fibUpWrong)

/-- 'castellanlaw12.FibOfNothing': WHATEVER THE INPUT: true; the input reads as it did. -/
def fibOfNothingSpec : ChangeSpec := { name := "fibOfNothing", fn := fun _ => fun
  | [d1, d2] => { results := [.lit (.bool true)], args := [d1, d2] }
  | _ => none }
def fibOfNothingRow : OpenClaim := { program := "ytmoimkeeldlpkaagreat", sum := "cacfcac2fbebc64e6fdd8b2c1d2dae73008c15fe9f6a5ca74b4fce2855289219", func := "castellan/castellanlaw12.FibOfNothing", spec := "fibOfNothing", inPlace := ["slices.overlaps[castellan/api.Route]", "sync/atomic.LoadUint32", "(*internal/sync.Mutex).Lock", "internal/race.Disable", "sync/atomic.CompareAndSwapInt32", "internal/race.Enable", "internal/race.Acquire", "(*internal/sync.Mutex).lockSlow", "internal/sync.runtime_canSpin", "internal/sync.runtime_doSpin", "internal/sync.throw", "internal/sync.runtime_nanotime", "internal/sync.runtime_SemacquireMutex", "sync/atomic.AddInt32", "(*internal/sync.Mutex).Unlock", "internal/race.ReleaseMerge", "(*internal/sync.Mutex).unlockSlow", "internal/sync.fatal", "internal/sync.runtime_Semrelease", "sync/atomic.StoreUint32"], unfollowed := true, recurses := true, plainKeys := false, apart := false }
def FibOfNothingSaid : Prop := fibOfNothingRow.holds Tryz.pinned (OpenSpec.ofChange fibOfNothingSpec)

/-- ITS FALSE NEIGHBOUR: 'it returns false'. Refute it at one input. -/
def fibOfNothingWrong : ChangeSpec := { name := "fibOfNothing", fn := fun _ => fun
  | [d1, d2] => { results := [.lit (.bool false)], args := [d1, d2] }
  | _ => none }
def FibOfNothingWrongFalsely : Prop := fibOfNothingRow.holds Tryz.pinned (OpenSpec.ofChange fibOfNothingWrong)

/-- 'castellanlaw12.FibTold': WHATEVER THE INPUT: true; the input reads as it did. -/
def fibToldSpec : ChangeSpec := { name := "fibTold", fn := fun _ => fun
  | [d1, d2, d3, d4] => { results := [.lit (.bool true)], args := [d1, d2, d3, d4] }
  | _ => none }
def fibToldRow : OpenClaim := { program := "ytmoimkeeldlpkaagreat", sum := "cacfcac2fbebc64e6fdd8b2c1d2dae73008c15fe9f6a5ca74b4fce2855289219", func := "castellan/castellanlaw12.FibTold", spec := "fibTold", inPlace := ["slices.overlaps[castellan/api.Route]", "sync/atomic.LoadUint32", "(*internal/sync.Mutex).Lock", "internal/race.Disable", "sync/atomic.CompareAndSwapInt32", "internal/race.Enable", "internal/race.Acquire", "(*internal/sync.Mutex).lockSlow", "internal/sync.runtime_canSpin", "internal/sync.runtime_doSpin", "internal/sync.throw", "internal/sync.runtime_nanotime", "internal/sync.runtime_SemacquireMutex", "sync/atomic.AddInt32", "(*internal/sync.Mutex).Unlock", "internal/race.ReleaseMerge", "(*internal/sync.Mutex).unlockSlow", "internal/sync.fatal", "internal/sync.runtime_Semrelease", "sync/atomic.StoreUint32"], unfollowed := true, recurses := true, plainKeys := false, apart := false }
def FibToldSaid : Prop := fibToldRow.holds Tryz.pinned (OpenSpec.ofChange fibToldSpec)

/-- ITS FALSE NEIGHBOUR: 'it returns false'. Refute it at one input. -/
def fibToldWrong : ChangeSpec := { name := "fibTold", fn := fun _ => fun
  | [d1, d2, d3, d4] => { results := [.lit (.bool false)], args := [d1, d2, d3, d4] }
  | _ => none }
def FibToldWrongFalsely : Prop := fibToldRow.holds Tryz.pinned (OpenSpec.ofChange fibToldWrong)

/-- 'castellanlaw12.FibRoom': WHATEVER THE INPUT: true; the input reads as it did. -/
def fibRoomSpec : ChangeSpec := { name := "fibRoom", fn := fun _ => fun
  | [d] => { results := [.lit (.bool true)], args := [d] }
  | _ => none }
def fibRoomRow : OpenClaim := { program := "ytmoimkeeldlpkaagreat", sum := "cacfcac2fbebc64e6fdd8b2c1d2dae73008c15fe9f6a5ca74b4fce2855289219", func := "castellan/castellanlaw12.FibRoom", spec := "fibRoom", inPlace := ["slices.overlaps[castellan/api.Route]", "sync/atomic.LoadUint32", "(*internal/sync.Mutex).Lock", "internal/race.Disable", "sync/atomic.CompareAndSwapInt32", "internal/race.Enable", "internal/race.Acquire", "(*internal/sync.Mutex).lockSlow", "internal/sync.runtime_canSpin", "internal/sync.runtime_doSpin", "internal/sync.throw", "internal/sync.runtime_nanotime", "internal/sync.runtime_SemacquireMutex", "sync/atomic.AddInt32", "(*internal/sync.Mutex).Unlock", "internal/race.ReleaseMerge", "(*internal/sync.Mutex).unlockSlow", "internal/sync.fatal", "internal/sync.runtime_Semrelease", "sync/atomic.StoreUint32"], unfollowed := true, recurses := true, plainKeys := false, apart := false }
def FibRoomSaid : Prop := fibRoomRow.holds Tryz.pinned (OpenSpec.ofChange fibRoomSpec)

/-- ITS FALSE NEIGHBOUR: 'it returns false'. Refute it at one input. -/
def fibRoomWrong : ChangeSpec := { name := "fibRoom", fn := fun _ => fun
  | [d] => { results := [.lit (.bool false)], args := [d] }
  | _ => none }
def FibRoomWrongFalsely : Prop := fibRoomRow.holds Tryz.pinned (OpenSpec.ofChange fibRoomWrong)

/- THE SECOND FORM. 'bulk': how many values and letters a reading holds, each counted each time it is reached (what is shared counts as often as it is met; a slice's spare places count too). A statement '..UptoSaid' is the law's where the arguments, and the package variables that the reading takes, are together of bulk at most 1048576: NARROWER than '..Said'. Prove '..Said' where nothing that the law and all that it calls make is longer than what came in: it says more and counts as full. Else prove '..UptoSaid'. A law counts once. -/
mutual
def uptoBulk {H : Type} : DataW H → Nat
  | .lit (.string bytes) => bytes.length + 1
  | .lit _ => 1
  | .nil => 1
  | .ptr d => uptoBulk d + 1
  | .slice elems spare => uptoBulkAll elems + uptoBulkAll spare + 1
  | .agg parts => uptoBulkAll parts + 1
  | .iface _ d => uptoBulk d + 1
  | .map entries => uptoBulkEntries entries + 1
  | .held _ => 1
def uptoBulkAll {H : Type} : List (DataW H) → Nat
  | [] => 0
  | d :: r => uptoBulk d + uptoBulkAll r
def uptoBulkEntries {H : Type} : List (Lit × DataW H) → Nat
  | [] => 0
  | x :: r => uptoBulkEntry x + uptoBulkEntries r
def uptoBulkEntry {H : Type} : Lit × DataW H → Nat
  | (.string bytes, d) => bytes.length + uptoBulk d + 1
  | (_, d) => uptoBulk d + 1
 end
def uptoSmall : (H : Type) → List (DataW H) → Bool := fun _ ds => decide (uptoBulkAll ds ≤ 1048576)
def OpenSpec.upto (s : _root_.Go.ChangeSpec) : _root_.Go.OpenSpec := { _root_.Go.OpenSpec.ofChange s with cond := some uptoSmall }

/-- 'castellanlaw12.FibPlays', WHERE WHAT IT READS IS OF BULK AT MOST 1048576: true; the input reads as it did. -/
def fibPlaysUptoRow : OpenClaim := { program := "ytmoimkeeldlpkaagreat", sum := "cacfcac2fbebc64e6fdd8b2c1d2dae73008c15fe9f6a5ca74b4fce2855289219", func := "castellan/castellanlaw12.FibPlays", spec := "fibPlays", inPlace := ["slices.overlaps[castellan/api.Route]", "sync/atomic.LoadUint32", "(*internal/sync.Mutex).Lock", "internal/race.Disable", "sync/atomic.CompareAndSwapInt32", "internal/race.Enable", "internal/race.Acquire", "(*internal/sync.Mutex).lockSlow", "internal/sync.runtime_canSpin", "internal/sync.runtime_doSpin", "internal/sync.throw", "internal/sync.runtime_nanotime", "internal/sync.runtime_SemacquireMutex", "sync/atomic.AddInt32", "(*internal/sync.Mutex).Unlock", "internal/race.ReleaseMerge", "(*internal/sync.Mutex).unlockSlow", "internal/sync.fatal", "internal/sync.runtime_Semrelease", "sync/atomic.StoreUint32"], unfollowed := true, recurses := true, plainKeys := false, apart := false, narrowed := true }
def FibPlaysUptoSaid : Prop := fibPlaysUptoRow.holds Tryz.pinned (OpenSpec.upto fibPlaysSpec)

/-- 'castellanlaw12.FibLooks', WHERE WHAT IT READS IS OF BULK AT MOST 1048576: true; the input reads as it did. -/
def fibLooksUptoRow : OpenClaim := { program := "ytmoimkeeldlpkaagreat", sum := "cacfcac2fbebc64e6fdd8b2c1d2dae73008c15fe9f6a5ca74b4fce2855289219", func := "castellan/castellanlaw12.FibLooks", spec := "fibLooks", inPlace := ["slices.overlaps[castellan/api.Route]", "sync/atomic.LoadUint32", "(*internal/sync.Mutex).Lock", "internal/race.Disable", "sync/atomic.CompareAndSwapInt32", "internal/race.Enable", "internal/race.Acquire", "(*internal/sync.Mutex).lockSlow", "internal/sync.runtime_canSpin", "internal/sync.runtime_doSpin", "internal/sync.throw", "internal/sync.runtime_nanotime", "internal/sync.runtime_SemacquireMutex", "sync/atomic.AddInt32", "(*internal/sync.Mutex).Unlock", "internal/race.ReleaseMerge", "(*internal/sync.Mutex).unlockSlow", "internal/sync.fatal", "internal/sync.runtime_Semrelease", "sync/atomic.StoreUint32"], unfollowed := true, recurses := true, plainKeys := false, apart := false, narrowed := true }
def FibLooksUptoSaid : Prop := fibLooksUptoRow.holds Tryz.pinned (OpenSpec.upto fibLooksSpec)

/-- 'castellanlaw12.FibRefused', WHERE WHAT IT READS IS OF BULK AT MOST 1048576: true; the input reads as it did. -/
def fibRefusedUptoRow : OpenClaim := { program := "ytmoimkeeldlpkaagreat", sum := "cacfcac2fbebc64e6fdd8b2c1d2dae73008c15fe9f6a5ca74b4fce2855289219", func := "castellan/castellanlaw12.FibRefused", spec := "fibRefused", inPlace := ["slices.overlaps[castellan/api.Route]", "sync/atomic.LoadUint32", "(*internal/sync.Mutex).Lock", "internal/race.Disable", "sync/atomic.CompareAndSwapInt32", "internal/race.Enable", "internal/race.Acquire", "(*internal/sync.Mutex).lockSlow", "internal/sync.runtime_canSpin", "internal/sync.runtime_doSpin", "internal/sync.throw", "internal/sync.runtime_nanotime", "internal/sync.runtime_SemacquireMutex", "sync/atomic.AddInt32", "(*internal/sync.Mutex).Unlock", "internal/race.ReleaseMerge", "(*internal/sync.Mutex).unlockSlow", "internal/sync.fatal", "internal/sync.runtime_Semrelease", "sync/atomic.StoreUint32"], unfollowed := true, recurses := true, plainKeys := false, apart := false, narrowed := true }
def FibRefusedUptoSaid : Prop := fibRefusedUptoRow.holds Tryz.pinned (OpenSpec.upto fibRefusedSpec)

/-- 'castellanlaw12.FibUp', WHERE WHAT IT READS IS OF BULK AT MOST 1048576: true; the input reads as it did. -/
def fibUpUptoRow : OpenClaim := { program := "ytmoimkeeldlpkaagreat", sum := "cacfcac2fbebc64e6fdd8b2c1d2dae73008c15fe9f6a5ca74b4fce2855289219", func := "castellan/castellanlaw12.FibUp", spec := "fibUp", inPlace := ["slices.overlaps[castellan/api.Route]", "sync/atomic.LoadUint32", "(*internal/sync.Mutex).Lock", "internal/race.Disable", "sync/atomic.CompareAndSwapInt32", "internal/race.Enable", "internal/race.Acquire", "(*internal/sync.Mutex).lockSlow", "internal/sync.runtime_canSpin", "internal/sync.runtime_doSpin", "internal/sync.throw", "internal/sync.runtime_nanotime", "internal/sync.runtime_SemacquireMutex", "sync/atomic.AddInt32", "(*internal/sync.Mutex).Unlock", "internal/race.ReleaseMerge", "(*internal/sync.Mutex).unlockSlow", "internal/sync.fatal", "internal/sync.runtime_Semrelease", "sync/atomic.StoreUint32"], unfollowed := true, recurses := true, plainKeys := false, apart := false, narrowed := true }
def FibUpUptoSaid : Prop := fibUpUptoRow.holds Tryz.pinned (OpenSpec.upto fibUpSpec)

/-- 'castellanlaw12.FibOfNothing', WHERE WHAT IT READS IS OF BULK AT MOST 1048576: true; the input reads as it did. -/
def fibOfNothingUptoRow : OpenClaim := { program := "ytmoimkeeldlpkaagreat", sum := "cacfcac2fbebc64e6fdd8b2c1d2dae73008c15fe9f6a5ca74b4fce2855289219", func := "castellan/castellanlaw12.FibOfNothing", spec := "fibOfNothing", inPlace := ["slices.overlaps[castellan/api.Route]", "sync/atomic.LoadUint32", "(*internal/sync.Mutex).Lock", "internal/race.Disable", "sync/atomic.CompareAndSwapInt32", "internal/race.Enable", "internal/race.Acquire", "(*internal/sync.Mutex).lockSlow", "internal/sync.runtime_canSpin", "internal/sync.runtime_doSpin", "internal/sync.throw", "internal/sync.runtime_nanotime", "internal/sync.runtime_SemacquireMutex", "sync/atomic.AddInt32", "(*internal/sync.Mutex).Unlock", "internal/race.ReleaseMerge", "(*internal/sync.Mutex).unlockSlow", "internal/sync.fatal", "internal/sync.runtime_Semrelease", "sync/atomic.StoreUint32"], unfollowed := true, recurses := true, plainKeys := false, apart := false, narrowed := true }
def FibOfNothingUptoSaid : Prop := fibOfNothingUptoRow.holds Tryz.pinned (OpenSpec.upto fibOfNothingSpec)

/-- 'castellanlaw12.FibTold', WHERE WHAT IT READS IS OF BULK AT MOST 1048576: true; the input reads as it did. -/
def fibToldUptoRow : OpenClaim := { program := "ytmoimkeeldlpkaagreat", sum := "cacfcac2fbebc64e6fdd8b2c1d2dae73008c15fe9f6a5ca74b4fce2855289219", func := "castellan/castellanlaw12.FibTold", spec := "fibTold", inPlace := ["slices.overlaps[castellan/api.Route]", "sync/atomic.LoadUint32", "(*internal/sync.Mutex).Lock", "internal/race.Disable", "sync/atomic.CompareAndSwapInt32", "internal/race.Enable", "internal/race.Acquire", "(*internal/sync.Mutex).lockSlow", "internal/sync.runtime_canSpin", "internal/sync.runtime_doSpin", "internal/sync.throw", "internal/sync.runtime_nanotime", "internal/sync.runtime_SemacquireMutex", "sync/atomic.AddInt32", "(*internal/sync.Mutex).Unlock", "internal/race.ReleaseMerge", "(*internal/sync.Mutex).unlockSlow", "internal/sync.fatal", "internal/sync.runtime_Semrelease", "sync/atomic.StoreUint32"], unfollowed := true, recurses := true, plainKeys := false, apart := false, narrowed := true }
def FibToldUptoSaid : Prop := fibToldUptoRow.holds Tryz.pinned (OpenSpec.upto fibToldSpec)

/-- 'castellanlaw12.FibRoom', WHERE WHAT IT READS IS OF BULK AT MOST 1048576: true; the input reads as it did. -/
def fibRoomUptoRow : OpenClaim := { program := "ytmoimkeeldlpkaagreat", sum := "cacfcac2fbebc64e6fdd8b2c1d2dae73008c15fe9f6a5ca74b4fce2855289219", func := "castellan/castellanlaw12.FibRoom", spec := "fibRoom", inPlace := ["slices.overlaps[castellan/api.Route]", "sync/atomic.LoadUint32", "(*internal/sync.Mutex).Lock", "internal/race.Disable", "sync/atomic.CompareAndSwapInt32", "internal/race.Enable", "internal/race.Acquire", "(*internal/sync.Mutex).lockSlow", "internal/sync.runtime_canSpin", "internal/sync.runtime_doSpin", "internal/sync.throw", "internal/sync.runtime_nanotime", "internal/sync.runtime_SemacquireMutex", "sync/atomic.AddInt32", "(*internal/sync.Mutex).Unlock", "internal/race.ReleaseMerge", "(*internal/sync.Mutex).unlockSlow", "internal/sync.fatal", "internal/sync.runtime_Semrelease", "sync/atomic.StoreUint32"], unfollowed := true, recurses := true, plainKeys := false, apart := false, narrowed := true }
def FibRoomUptoSaid : Prop := fibRoomUptoRow.holds Tryz.pinned (OpenSpec.upto fibRoomSpec)

end Rows
end Go.Proofs.YtmoimkeeldlpkaaGreat
