/- Plain facts on trees of prefixes, and small ones on worlds (they lay in Tree2, Tree3, Tree7). -/
import Derived.Test.YtlnmdlachfnmkaaTrieS
import Derived.Test.YtlnmdlachfnmkaaGrow4
import Derived.Test.YtlnmdlachfnmkaaAddr
import Derived.Test.YtlnmdlachfnmkaaSkip
import Derived.Deep.LoopGhost
namespace Go.Proofs.Ytlnmdlachfnmkaa.Tri
open Go.RowKit Go.Proofs.Ytlnmdlachfnmkaa
set_option linter.unusedVariables false

def covA (t : Sh) (p : PX) (a : Option Addr) : Option Addr := match t with
  | .nil => none
  | .node q _ _ _ _ => if cov q p = true then a else none
def covS (t : Sh) (p : PX) : Sh := match t with
  | .nil => .nil
  | .node q th u l r => if cov q p = true then .node q th u l r else .nil

theorem cov_wf {t : Sh} (h : WF t) (p : PX) : WF (covS t p) := by
  cases t with
  | nil => trivial
  | node q th u l r => simp only [covS]; split; exact h; trivial

theorem covS_covers (t : Sh) (p : PX) : coversS (covS t p) p = coversS t p := by
  cases t with
  | nil => rfl
  | node q th u l r =>
    simp only [covS]; split
    · rfl
    · rename_i h; simp [coversS, h]

theorem covS_twice (t : Sh) (p : PX) : covS (covS t p) p = covS t p := by
  cases t with
  | nil => rfl
  | node q th u l r => by_cases h : cov q p = true <;> simp [covS, h]

def szS : Sh → Nat
  | .nil => 0
  | .node _ _ _ l r => szS l + szS r + 1

theorem sz_cov (t : Sh) (p : PX) : szS (covS t p) ≤ szS t := by
  cases t with
  | nil => exact Nat.le_refl _
  | node q th u l r => simp only [covS]; split; exact Nat.le_refl _; exact Nat.zero_le _

/-- Which kid is gone on with. -/
def kidS (p : PX) : Sh → Sh
  | .nil => .nil
  | .node q _ _ l r => if halfV p.1 q.2 = 0 then l else r

/-- Where the way down begins. -/
def begS (t : Sh) (p : PX) : Sh := if isV p.1 p.2 = true then covS t p else .nil

theorem beg_wf {t : Sh} (h : WF t) (p : PX) : WF (begS t p) := by unfold begS; split; exact cov_wf h p; trivial
theorem beg_twice (t : Sh) (p : PX) : covS (begS t p) p = begS t p := by unfold begS; split; exact covS_twice t p; rfl

def lastF : Option (PX × Int) → Row → Option (PX × Int)
  | acc, [] => acc
  | _, x :: L => lastF (some x) L

theorem sz_kid (p : PX) (q : PX) (th : Bool) (u : Int) (l r : Sh) : szS (covS (kidS p (.node q th u l r)) p) < szS (.node q th u l r) := by
  have h := sz_cov (kidS p (.node q th u l r)) p
  refine Nat.lt_of_le_of_lt h ?_
  simp only [kidS, szS]; split <;> omega

theorem kid_wf {p q : PX} {th : Bool} {u : Int} {l r : Sh} (h : WF (.node q th u l r)) : WF (covS (kidS p (.node q th u l r)) p) := by
  refine cov_wf ?_ p
  simp only [kidS]; split
  · exact h.2.2.2.2.1
  · exact h.2.2.2.2.2

/-- A step of the way down. -/
theorem covers_step {p q : PX} {th : Bool} {u : Int} {l r : Sh} (h : covS (.node q th u l r) p = .node q th u l r) :
    coversS (.node q th u l r) p = own q th u ++ coversS (covS (kidS p (.node q th u l r)) p) p := by
  have hc : cov q p = true := by
    simp only [covS] at h
    split at h
    · assumption
    · cases h
  rw [covS_covers]
  simp only [coversS, if_pos hc, kidS]
  split <;> rfl

theorem neq_prefix (a n b m : Int) (w : World) : (binOp .neq 30 (.agg #[.int .u32 a, .int .i64 n]) (.agg #[.int .u32 b, .int .i64 m])).run Try.prog w = .ok (.bool (!(a == b && n == m))) w := by
  have h := eql_prefix a n b m w
  rw [run_eql_struct] at h
  rw [run_neq_struct]
  cases hr : (Op.equalIn 10000 30 (.agg #[.int .u32 a, .int .i64 n]) (.agg #[.int .u32 b, .int .i64 m])).run Try.prog w with
  | ok x w' =>
    rw [hr] at h
    simp only [Result.andThen_ok, Result.ok.injEq, Value.bool.injEq] at h ⊢
    exact ⟨by rw [h.1], h.2⟩
  | _ => rw [hr] at h; simp [Result.andThen] at h

/-- A prefix's number, by what was found. -/
def getF (o : Option (PX × Int)) (p : PX) : Int × Bool := match o with
  | none => (0, false)
  | some x => if x.1 = p then (x.2, true) else (0, false)

theorem extS_set (w : World) (b k : Nat) (u : Value) : ExtS [b] w (w.setCell ⟨b, k, none⟩ u) := (ExtS.refl [b] w).setCell (.inl (by simp)) u

/-- A block of two cells more. -/
theorem box_px {w : World} (c m : Int) (F : List Nat) (hF : ∀ x ∈ F, x < w.heap.size) : ∀ W, W = (w.alloc (.cells #[.int .u32 c, .int .i64 m] 30)) →
    Ext w W ∧ (∀ w', ExtS F W w' → w'.cell? ⟨w.heap.size, 0, none⟩ = some (.int .u32 c)) ∧ (∀ w', ExtS F W w' → w'.cell? ⟨w.heap.size, 1, none⟩ = some (.int .i64 m)) := by
  rintro W rfl
  have hn : w.heap.size ∉ F := fun h => by have := hF _ h; omega
  have hh := heap_new w (.cells #[.int .u32 c, .int .i64 m] 30)
  exact ⟨(Ext.refl w).alloc _, fun w' hx => by rw [heap_cell (hx.heap hn hh)]; rfl, fun w' hx => by rw [heap_cell (hx.heap hn hh)]; rfl⟩
end Go.Proofs.Ytlnmdlachfnmkaa.Tri
