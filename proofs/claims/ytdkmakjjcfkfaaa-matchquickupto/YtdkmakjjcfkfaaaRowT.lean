/- Parts of rows of rules; a rule laid in between that means nothing. -/
import Derived.Test.YtdkmakjjcfkfaaaRowS
import Derived.Test.YtdkmakjjcfkfaaaSumP
namespace Go.Proofs.Ytdkmakjjcfkfaaa.Ma
open Go.RowKit Go.Proofs.Ytdkmakjjcfkfaaa Go.Proofs.Ytdkmakjjcfkfaaa.Ru
set_option linter.unusedVariables false
set_option linter.unusedSimpArgs false
set_option maxRecDepth 100000

/-- Where a part begins. -/
def cutP (p : Option Addr) (c lo : Nat) : Option Addr := if c = lo then p else p.map (·.add (lo * 28))

theorem rule_sz : (Try.prog.info? 43).map (·.size) = some 28 := rule_size

theorem exec_cut_hi {w : World} {o : Oper} {ev : Operand → Value} (x y : Operand) (hop : o.op = .slice 22 x none (some y) none) (p : Option Addr) (n c k : Nat) (hx : ev x = .slice p n c) (hy : ev y = .int .i64 (k : Int)) (hk : k ≤ c) :
    (execOp ev o).run Try.prog w = .ok (.value (.slice (cutP p c 0) k c)) w := by
  obtain ⟨i, hi, hs⟩ := Option.map_eq_some_iff.1 rule_sz
  have h0 : (0 : Int) ≤ (k : Int) := by omega
  have h1 : (k : Int) ≤ (c : Int) := by omega
  simp [execOp, hop, hx, hy, Instr.sliceAt, Instr.slice, Instr.sliceBounds, Instr.sliceBound, asIntOf, run_underlying Try.underlying22, sizeOf, typeInfo, hi, hs, cutP, h0, h1, hk, Result.andThen]

theorem exec_cut_lo {w : World} {o : Oper} {ev : Operand → Value} (x y : Operand) (hop : o.op = .slice 22 x (some y) none none) (p : Option Addr) (n c k : Nat) (hx : ev x = .slice p n c) (hy : ev y = .int .i64 (k : Int)) (hk : k ≤ n) (hc : n ≤ c) :
    (execOp ev o).run Try.prog w = .ok (.value (.slice (cutP p c k) (n - k) (c - k))) w := by
  obtain ⟨i, hi, hs⟩ := Option.map_eq_some_iff.1 rule_sz
  have h0 : (0 : Int) ≤ (k : Int) := by omega
  have h1 : (k : Int) ≤ (n : Int) := by omega
  simp [execOp, hop, hx, hy, Instr.sliceAt, Instr.slice, Instr.sliceBounds, Instr.sliceBound, asIntOf, run_underlying Try.underlying22, sizeOf, typeInfo, hi, hs, cutP, h0, h1, hk, hc, Result.andThen]

theorem SrcR.cut {w : World} {p : Option Addr} {n c : Nat} {L : List RuleV} (h : SrcR w p n c L) (hc : n ≤ c) (lo hi : Nat) (h1 : lo ≤ hi) (h2 : hi ≤ n) : SrcR w (cutP p c lo) (hi - lo) (c - lo) ((L.take hi).drop lo) := by
  have hl := h.row.len
  refine ⟨⟨by rw [List.length_drop, List.length_take, hl, Nat.min_eq_left h2], ?_⟩, ?_⟩
  · rcases Nat.eq_zero_or_pos (hi - lo) with h0 | h0
    · exact .inl h0
    · rcases h.row.2 with h3 | ⟨b, off, rfl, hb, hcell⟩
      · omega
      · refine .inr ⟨b, off + lo * 28, by unfold cutP; rw [if_neg (by omega)]; show some ((⟨b, off, none⟩ : Addr).add (lo * 28)) = _; rw [add_at], hb, fun i x hx => ?_⟩
        have hi2 : i < hi - lo := by have := (List.getElem?_eq_some_iff.1 hx).1; rw [List.length_drop, List.length_take, hl, Nat.min_eq_left h2] at this; exact this
        rw [List.getElem?_drop, List.getElem?_take, if_pos (by omega)] at hx
        have := hcell (lo + i) x hx
        rw [show off + lo * 28 + i * 28 = off + (lo + i) * 28 by rw [Nat.add_mul]; omega]
        exact this
  · intro hp
    unfold cutP at hp
    split at hp
    · omega
    · rw [Option.map_eq_none_iff] at hp
      have := h.nil hp
      omega

theorem ext_N {N : Nat} {W A B : World} (h : Ext W A) (k : ExtN N A B) (hN : W.heap.size ≤ N) : Ext W B :=
  ⟨k.os.trans h.os, k.tape.trans h.tape, k.output.trans h.output, Nat.le_trans h.size k.size, fun i hi => (k.block i (Nat.lt_of_lt_of_le hi hN) (Nat.lt_of_lt_of_le hi h.size)).trans (h.block i hi)⟩

theorem grown_N {N : Nat} {w w' : World} {v : Value} {L : List RuleV} (h : OwnR N w v L) (hg : w.grownBy w' v.ownBlock) : ExtN N w w' :=
  ⟨hg.os, hg.tape, hg.output, hg.size, fun k hk hw => hg.block k hw (fun e => by have := (World.ownsRow.lt h k e.symm).1; omega)⟩

/-- A literal of rules, as an operation that makes. -/
theorem exec_rules {w : World} {o : Oper} {ev : Operand → Value} (L : List RuleV) (hL : L ≠ []) (hl : L.length ≤ 100) (parts : Array (Nat × Operand)) (ho : o.op = .buildSlice 22 L.length parts)
    (hp : (parts.toList.map fun (i, x) => (i, ev x)) = ((L.map ruleVl).zipIdx 0).map fun x => (x.2, x.1)) :
    (execOp ev o).run Try.prog w = .ok (.value (.slice (some ⟨w.heap.size, 0, none⟩) L.length L.length)) (w.alloc (.cells (flatR L).toArray 43)) := by
  obtain ⟨i, z, hi, hz, hzs, hsz, hby⟩ := info_rule
  have hpos : 0 < L.length := List.length_pos_iff.2 hL
  have h28 : ∀ v ∈ L.map ruleVl, v.cells.size = 28 := fun v hv => by
    obtain ⟨r, _, rfl⟩ := List.mem_map.1 hv
    rfl
  have hf := Great.fill_whole (s := 28) (by omega) (L.map ruleVl) ((Array.range (L.length * 28)).map (z.cells[· % z.cells.size]!)) h28 (by simp)
  have hr := run_buildSlice (P := Try.prog) w 22 43 L.length (parts.map fun (i, x) => (i, ev x)) (flatR L).toArray i z Try.underlying22 hi hz (by rw [hsz]; omega) (by rw [hsz]; omega) (by
    rw [Array.toList_map, hp, hsz, hf, List.flatMap_map]
    rfl)
  simp only [execOp, ho, Sem.run_bind, hr, Result.andThen_ok]
  rfl

theorem place_in (a : Int) (n : Nat) : ∃ kk : Nat, (bits .and .i64 a 65535).tmod ((n : Int) + 1) = (kk : Int) ∧ kk ≤ n := by
  rw [i64_and16, Int.tmod_eq_emod_of_nonneg (by omega)]
  have h0 : 0 ≤ (a % 65536) % ((n : Int) + 1) := Int.emod_nonneg _ (by omega)
  have h1 : (a % 65536) % ((n : Int) + 1) < (n : Int) + 1 := Int.emod_lt_of_pos _ (by omega)
  exact ⟨((a % 65536) % ((n : Int) + 1)).toNat, by omega, by omega⟩

/-- Behind a rule that means nothing all places are one more. -/
def Skip (c : Nat) (x y : Int) : Prop := (y = x ∧ x < (c : Int)) ∨ (y = x + 1 ∧ (c : Int) ≤ x)

theorem skip_tail {f : RuleV → Bool} {c : Nat} : ∀ (B : List RuleV) (x y : Int) (i : Nat), c ≤ i → Skip c x y → Skip c (lastK f B x i) (lastK f B y (i + 1))
  | [], x, y, i, _, h => h
  | r :: B, x, y, i, hi, h => by
    show Skip c (if f r = true then if r.quick = true then (i : Int) else lastK f B (i : Int) (i + 1) else lastK f B x (i + 1)) (if f r = true then if r.quick = true then ((i + 1 : Nat) : Int) else lastK f B ((i + 1 : Nat) : Int) (i + 1 + 1) else lastK f B y (i + 1 + 1))
    have hs : Skip c (i : Int) ((i + 1 : Nat) : Int) := .inr ⟨by omega, by omega⟩
    split
    · split
      · exact hs
      · exact skip_tail B _ _ (i + 1) (by omega) hs
    · exact skip_tail B x y (i + 1) (by omega) h

theorem skip_in {f : RuleV → Bool} {r0 : RuleV} (h0 : f r0 = false) (B : List RuleV) : ∀ (A : List RuleV) (x : Int) (i c : Nat), c = i + A.length → x < (c : Int) → x < (i : Int) → Skip c (lastK f (A ++ B) x i) (lastK f (A ++ r0 :: B) x i)
  | [], x, i, c, hc, hx, hi => by
    have e : lastK f (r0 :: B) x i = lastK f B x (i + 1) := by
      show (if f r0 = true then if r0.quick = true then (i : Int) else lastK f B (i : Int) (i + 1) else lastK f B x (i + 1)) = _
      rw [h0, if_neg (by decide)]
    rw [List.nil_append, List.nil_append, e]
    exact skip_tail B x x i (by simp at hc; omega) (.inl ⟨rfl, hx⟩)
  | r :: A, x, i, c, hc, hx, hi => by
    rw [List.length_cons] at hc
    show Skip c (if f r = true then if r.quick = true then (i : Int) else lastK f (A ++ B) (i : Int) (i + 1) else lastK f (A ++ B) x (i + 1)) (if f r = true then if r.quick = true then (i : Int) else lastK f (A ++ r0 :: B) (i : Int) (i + 1) else lastK f (A ++ r0 :: B) x (i + 1))
    split
    · split
      · exact .inl ⟨rfl, by omega⟩
      · exact skip_in h0 B A _ (i + 1) c (by omega) (by omega) (by omega)
    · exact skip_in h0 B A x (i + 1) c (by omega) hx (by omega)

theorem lastK_bd {f : RuleV → Bool} : ∀ (L : List RuleV) (x : Int) (i : Nat), -1 ≤ x → x < (i : Int) → -1 ≤ lastK f L x i ∧ lastK f L x i < ((i + L.length : Nat) : Int)
  | [], x, i, h0, h1 => ⟨h0, by show x < _; simpa using h1⟩
  | r :: L, x, i, h0, h1 => by
    show -1 ≤ (if f r = true then if r.quick = true then (i : Int) else lastK f L (i : Int) (i + 1) else lastK f L x (i + 1)) ∧ (if f r = true then if r.quick = true then (i : Int) else lastK f L (i : Int) (i + 1) else lastK f L x (i + 1)) < _
    rw [List.length_cons]
    split
    · split
      · omega
      · have := lastK_bd (f := f) L (i : Int) (i + 1) (by omega) (by omega); omega
    · have := lastK_bd (f := f) L x (i + 1) h0 (by omega); omega

/-- At a rule that means the packet and is quick, the search ends. -/
theorem quick_step {f : RuleV → Bool} {A : List RuleV} {r : RuleV} {i : Nat} (h : A[i]? = some r) (B : List RuleV) (x : Int) :
    lastK f (A.drop i ++ B) x i = if f r = true then if r.quick = true then (i : Int) else lastK f (A.drop (i + 1) ++ B) (i : Int) (i + 1) else lastK f (A.drop (i + 1) ++ B) x (i + 1) := by
  obtain ⟨hi, rfl⟩ := List.getElem?_eq_some_iff.1 h
  rw [List.drop_eq_getElem_cons hi, List.cons_append]
  rfl

theorem quick_end {f : RuleV → Bool} {A : List RuleV} {r : RuleV} {i : Nat} (h : A.length ≤ i) (hf : f r = true) (hq : r.quick = true) (B : List RuleV) (x : Int) : lastK f (A.drop i ++ r :: B) x i = (i : Int) := by
  rw [List.drop_eq_nil_of_le h, List.nil_append]
  show (if f r = true then if r.quick = true then (i : Int) else lastK f B (i : Int) (i + 1) else lastK f B x (i + 1)) = _
  rw [hf, if_pos rfl, hq, if_pos rfl]
end Go.Proofs.Ytdkmakjjcfkfaaa.Ma
