/- Parts of slices of bytes, joins, rows of bytes that stay while other blocks are written: facts that chapters 4 on lean on. -/
import Derived.Test.YtkagkfbdpiblkaaApp
import Derived.Test.YtkagkfbdpiblkaaMake
import Derived.Test.YtkagkfbdpiblkaaGrow3
import Derived.Test.YtkagkfbdpiblkaaSum
import Derived.Test.YtkagkfbdpiblkaaRef1J
namespace Go.Proofs.Ytkagkfbdpiblkaa
open Go.RowKit
set_option linter.unusedVariables false

/-- The checksum is right where the words add up to a number of 65535s, not none. -/
theorem ofV_zero {xs : List Int} (h : BytesOk xs) : ofV xs = 0 ↔ 0 < sumB true xs ∧ sumB true xs % 65535 = 0 := by
  have := (sumB_bd h true).1
  unfold ofV foldV
  split <;> omega

theorem get16V_take (xs : List Int) (k : Nat) (i : Nat) (h : i + 1 < k) : get16V (xs.take k) (i : Int) = get16V xs (i : Int) := by
  have e : ∀ ys : List Int, get16V ys (i : Int) = ys[i]?.getD 0 * 256 + ys[i + 1]?.getD 0 := fun ys => by
    have e2 : byteV ys ((i : Int) + 1) = ys[i + 1]?.getD 0 := by rw [show (i : Int) + 1 = ((i + 1 : Nat) : Int) by omega]; exact byteV_nat ys (i + 1)
    unfold get16V; rw [e2, byteV_nat]
  rw [e, e, List.getElem?_take, List.getElem?_take, if_pos (by omega), if_pos (by omega)]

theorem byteV_take (xs : List Int) (k : Nat) (i : Nat) (h : i < k) : byteV (xs.take k) (i : Int) = byteV xs (i : Int) := by
  rw [byteV_nat, byteV_nat, List.getElem?_take, if_pos h]

theorem own_eq {q : Option Addr} {n c g d : Nat} (h : Value.slice q n c = .slice (some ⟨g, 0, none⟩) n d) : q = some ⟨g, 0, none⟩ ∧ c = d := by
  simp only [Value.slice.injEq, true_and] at h
  exact h

/-- A part of a slice of bytes. -/
theorem Bytes.part {w : World} {b off len : Nat} {xs : List Int} (h : Bytes w (some ⟨b, off, none⟩) len xs) (lo hi cap : Nat) (h1 : lo ≤ hi) (h2 : hi ≤ len) (h3 : len ≤ cap) :
    ∃ p, (if cap = lo then (some ⟨b, off, none⟩ : Option Addr) else some ⟨b, off + lo, none⟩) = some p ∧ ∀ w', Ext w w' → Bytes w' (some p) (hi - lo) ((xs.take hi).drop lo) := by
  have hl := h.length
  have hs := h.small
  by_cases hc : cap = lo
  · refine ⟨_, by rw [if_pos hc], fun w' hx => ⟨?_, by omega, ?_, .inl (by omega)⟩⟩
    · simp; omega
    · intro x hx; exact h.ok x (List.mem_of_mem_take (List.mem_of_mem_drop hx))
  · refine ⟨_, by rw [if_neg hc], fun w' hx => ?_⟩
    refine ⟨by simp; omega, by omega, fun x hx => h.ok x (List.mem_of_mem_take (List.mem_of_mem_drop hx)), ?_⟩
    by_cases h0 : hi - lo = 0
    · exact .inl h0
    · refine .inr ⟨b, off + lo, rfl, fun i hi' => ?_⟩
      rcases (h.below hx).cells with h4 | ⟨b', off', h4, hcell⟩
      · omega
      · obtain ⟨rfl, rfl⟩ : b = b' ∧ off = off' := by simpa using h4
        have := hcell (lo + i) (by omega)
        rw [Nat.add_assoc, this, List.getElem?_drop, List.getElem?_take, if_pos (by omega)]

/-- Join of one. -/
theorem join1_at (N : Nat) (p : Option Addr) (n c : Nat) (xs : List Int) (w : World) (hg : w.heap[N]? = some (.cells #[.slice p n c] 22 (0, 0))) (b : Bytes w p n xs) (z : p = none → c = 0) (hs : n ≤ 1000000) :
    Calls Try.prog 45 #[.slice (some ⟨N, 0, none⟩) 1 1] w fun e w' => ∃ q d, e = .returned (.slice q n d) ∧ Bytes w' q n xs ∧ (q = none → d = 0) ∧ n ≤ d ∧ Ext w w' := by
  have hL : BytesL w (some ⟨N, 0, none⟩) 1 [xs] := ⟨rfl, by omega, .inr ⟨N, 0, rfl, fun i hi => by
    match i, hi with
    | 0, _ => exact ⟨p, n, c, by rw [heap_cell hg]; rfl, b, z⟩⟩⟩
  have hf : [xs].flatten = xs := by simp
  have hn : [xs].flatten.length = n := by rw [hf]; exact b.length
  refine (join_own _ 1 1 [xs] w hL (by omega)).mono ?_
  rintro e w' ⟨v, rfl, ho, hx⟩
  rw [hn, hf] at ho
  obtain ⟨q, d, rfl, hb, hz, hd⟩ := owns_all ho b.ok
  exact ⟨q, d, rfl, hb, hz, hd, hx⟩

theorem frozen_ip {w : World} {g : Nat} {cur : Array Value} {t : TypeId} (h : w.heap[g]? = some (.cells cur t (0, 0))) : ∀ k, w.frozen? ⟨g, k, none⟩ = false := fun k => heap_frozen h

theorem owns_laterX {B x : Nat} {w w' : World} {e : TypeId} {v : Value} {n : Nat} {xs : List Value} (h : w.ownsRow B e 1 v n xs) (hx : ExtX x w w') (hB : x < B) : w'.ownsRow B e 1 v n xs := by
  obtain ⟨hl, h⟩ := h
  refine ⟨hl, ?_⟩
  rcases h with h | ⟨g, cap, cur, rfl, hb, hg, hr⟩
  · exact .inl h
  · have hlt : g < w.heap.size := by
      rcases Nat.lt_or_ge g w.heap.size with h1 | h1
      · exact h1
      · simp [Array.getElem?_eq_none h1] at hg
    exact .inr ⟨g, cap, cur, rfl, hb, by rw [hx.block g hlt (by omega)]; exact hg, hr⟩

/-- Join of one, which the caller owns. -/
theorem join1_own (N : Nat) (p : Option Addr) (n c : Nat) (xs : List Int) (w : World) (hg : w.heap[N]? = some (.cells #[.slice p n c] 22 (0, 0))) (b : Bytes w p n xs) (z : p = none → c = 0) (hs : n ≤ 1000000) :
    Calls Try.prog 45 #[.slice (some ⟨N, 0, none⟩) 1 1] w fun e w' => ∃ q d, e = .returned (.slice q n d) ∧ w'.ownsRow w.heap.size 5 1 (.slice q n d) n (xs.map (Value.int .u8)) ∧ Ext w w' := by
  have hL : BytesL w (some ⟨N, 0, none⟩) 1 [xs] := ⟨rfl, by omega, .inr ⟨N, 0, rfl, fun i hi => by
    match i, hi with
    | 0, _ => exact ⟨p, n, c, by rw [heap_cell hg]; rfl, b, z⟩⟩⟩
  have hf : [xs].flatten = xs := by simp
  have hn : [xs].flatten.length = n := by rw [hf]; exact b.length
  refine (join_own _ 1 1 [xs] w hL (by omega)).mono ?_
  rintro e w' ⟨v, rfl, ho, hx⟩
  rw [hn, hf] at ho
  obtain ⟨q, d, rfl⟩ := owns_shape ho
  exact ⟨q, d, rfl, ho, hx⟩

/-- Join of a literal of slices, which the caller owns. -/
theorem joinL_own (N k : Nat) (vs : List Value) (L : List (List Int)) (w : World) (hg : w.heap[N]? = some (.cells vs.toArray 22 (0, 0))) (hk : L.length = k) (hk' : k ≤ 1000)
    (h : ∀ i, i < k → ∃ p n c, vs[i]? = some (.slice p n c) ∧ Bytes w p n (L[i]?.getD []) ∧ (p = none → c = 0)) (ys : List Int) (n : Nat) (hf : L.flatten = ys) (hn : ys.length = n) (hs : n ≤ 1000000) :
    Calls Try.prog 45 #[.slice (some ⟨N, 0, none⟩) k k] w fun e w' => ∃ q d, e = .returned (.slice q n d) ∧ w'.ownsRow w.heap.size 5 1 (.slice q n d) n (ys.map (Value.int .u8)) ∧ Ext w w' := by
  have hL : BytesL w (some ⟨N, 0, none⟩) k L := ⟨hk, by omega, .inr ⟨N, 0, rfl, fun i hi => by
    obtain ⟨p, n, c, h1, h2, h3⟩ := h i hi
    exact ⟨p, n, c, by rw [heap_cell hg]; simpa using h1, h2, h3⟩⟩⟩
  subst hf
  subst hn
  refine (join_own _ k k L w hL hs).mono ?_
  rintro e w' ⟨v, rfl, ho, hx⟩
  obtain ⟨q, d, rfl⟩ := owns_shape ho
  exact ⟨q, d, rfl, ho, hx⟩

theorem bytes_of_heap {w : World} {g : Nat} {xs : List Int} {t : TypeId} (h : w.heap[g]? = some (.cells (xs.map (Value.int .u8)).toArray t (0, 0))) (hok : BytesOk xs) (hs : xs.length ≤ 9223372036854775807) : Bytes w (some ⟨g, 0, none⟩) xs.length xs :=
  ⟨rfl, hs, hok, .inr ⟨g, 0, rfl, fun i hi => by rw [heap_cell h]; simp [hi]⟩⟩

theorem bytes_nil (w : World) : Bytes w none 0 [] := ⟨rfl, by omega, by intro x hx; simp at hx, .inl rfl⟩

theorem equal_any (a : Option Addr) (n c : Nat) (b : Option Addr) (m d : Nat) (xs ys : List Int) (w : World) (h1 : Bytes w a n xs) (h2 : Bytes w b m ys) :
    Calls Try.prog 59 #[.slice a n c, .slice b m d] w fun e w' => e = .returned (.bool ((strOfNums xs).toList == (strOfNums ys).toList)) ∧ w' = w := by
  have t1 := h1.conv c _ (Ext.refl w)
  have t2 := h2.conv d _ (Ext.refl w)
  generalize strOfNums xs = s at *
  generalize strOfNums ys = t at *
  clear h1 h2
  go_enter Try.func59, Try.ntmps59
  go_wp2
  go_ret
  exact ⟨rfl, rfl⟩

theorem set_at {w : World} {g : Nat} {l : List Value} {t : TypeId} (k : Nat) (u : Value) (h : w.heap[g]? = some (.cells l.toArray t (0, 0))) : (w.setCell ⟨g, k, none⟩ u).heap[g]? = some (.cells (l.set k u).toArray t (0, 0)) := by
  rw [heap_set h]; simp

theorem block_of {w : World} {g : Nat} {o : Obj} (h : w.heap[g]? = some o) : g < w.heap.size := by
  rcases Nat.lt_or_ge g w.heap.size with hl | hl
  · exact hl
  · simp [Array.getElem?_eq_none hl] at h

/-- What the call owns stays where a block of another type is written. -/
theorem owns_set {w : World} {B g : Nat} {e t : TypeId} {v : Value} {n : Nat} {xs : List Value} {c : Array Value} (k : Nat) (u : Value) (h : w.ownsRow B e 1 v n xs) (hg : w.heap[g]? = some (.cells c t (0, 0))) (ht : t ≠ e) : (w.setCell ⟨g, k, none⟩ u).ownsRow B e 1 v n xs := by
  obtain ⟨hl, h⟩ := h
  refine ⟨hl, ?_⟩
  rcases h with h | ⟨g', cap, cur, rfl, hb, hg', hr⟩
  · exact .inl h
  · have hne : g' ≠ g := fun hh => by
      subst hh
      rw [hg'] at hg
      simp only [Option.some.injEq, Obj.cells.injEq] at hg
      exact ht hg.2.1.symm
    exact .inr ⟨g', cap, cur, rfl, hb, by rw [Below.heap_setCell _ _ _ _ (by exact hne)]; exact hg', hr⟩

/-- Bytes stay where a block that holds none is written. -/
theorem Bytes.laterX {x : Nat} {w w' : World} {a : Option Addr} {n : Nat} {xs : List Int} (h : Bytes w a n xs) (hx : ExtX x w w') (hno : ∀ k v, w.cell? ⟨x, k, none⟩ ≠ some (.int .u8 v)) : Bytes w' a n xs := by
  refine ⟨h.length, h.small, h.ok, ?_⟩
  rcases h.cells with h0 | ⟨b, off, rfl, hc⟩
  · exact .inl h0
  · refine .inr ⟨b, off, rfl, fun i hi => ?_⟩
    have h1 := hc i hi
    have hb : b ≠ x := fun e => by subst e; exact hno _ _ h1
    have h2 : w'.heap[b]? = w.heap[b]? := hx.block b (block_lt h1) hb
    rw [← h1]
    simp [World.cell?, h2]

/-- append of bytes, as an operation. -/
theorem wp_append_bytes {P : Program} {w : World} {o : Oper} {a : Act} {K : Act → World → Prop} {Q : Exit → Act → World → Prop} (s x : Operand) (t : TypeId)
    (ho : o.op = .call { callee := .builtin .append, args := #[s, x], argTypes := #[t, t] })
    (base : Nat) (e : TypeId) (i : TypeInfo) (z : Value) (ht : P.underlying t = some (.slice e)) (hi : P.info? e = some i) (hz : i.zero = some z) (hsize : i.size = 1) (hby : i.bytes = 1) (hzs : z.cells.size = 1)
    (v : Value) (n : Nat) (xs : List Int) (hs : a.eval s = v) (hown : w.ownsRow base e 1 v n (xs.map (Value.int .u8)))
    (p : Option Addr) (m c : Nat) (ys : List Int) (hx : a.eval x = .slice p m c) (hb : Bytes w p m ys) (hn : p = none → c = 0) (hsm : n + m ≤ 140737488355328) (hbase : base ≤ w.heap.size)
    (h : ∀ v' w', w'.ownsRow base e 1 v' (n + m) ((xs ++ ys).map (Value.int .u8)) → w.grownBy w' v.ownBlock → K (a.put o.dst v') w') : o.wp P a w K Q := by
  cases p with
  | none =>
    obtain rfl : c = 0 := hn rfl
    have hm : m = 0 := by
      rcases hb.cells with h0 | ⟨b, off, h0, _⟩
      · exact h0
      · cases h0
    subst hm
    obtain rfl : ys = [] := List.length_eq_zero_iff.1 hb.length
    have hrun := run_append_owned_none (P := P) (w := w) base t o.type e i 1 ht hi v n _ hown
    unfold Oper.wp
    simp [execOp, ho, resolve, invoke, builtin, hs, hx, hrun, Result.andThen]
    exact h v w (by simpa using hown) ⟨rfl, rfl, rfl, Nat.le_refl _, fun _ _ _ => rfl⟩
  | some ad =>
    refine wp_append_own w s x t ho base e i z 1 1 ht hi hz hsize hby hzs (by omega) v n _ hs hown ad m c (ys.map (Value.int .u8)) hx (by simpa using hb.length) ?_ ?_ (by unfold maxLen; omega) (by omega) hbase ?_
    · rcases hb.cells with h0 | ⟨b, off, h0, hc⟩
      · subst h0
        obtain rfl : ys = [] := List.length_eq_zero_iff.1 hb.length
        intro j u hj; simp at hj
      · have e0 : ad = ⟨b, off, none⟩ := Option.some.inj h0
        subst e0
        exact bytes_cells hb rfl
    · intro u hu
      obtain ⟨n, _, rfl⟩ := List.mem_map.1 hu
      rfl
    · intro v' w' h1 h2 _
      exact h v' w' (by simpa using h1) h2

theorem grown_N {N : Nat} {w w' : World} {e : TypeId} {v : Value} {n : Nat} {ys : List Value} (hown : w.ownsRow N e 1 v n ys) (hg : w.grownBy w' v.ownBlock) : ExtN N w w' := by
  exact ⟨hg.os, hg.tape, hg.output, hg.size, fun k hk hlt => hg.block k hlt (fun e => by have := (hown.lt k e.symm).1; omega)⟩

/-- A byte of a row of the call's own is set. -/
theorem owns_put {w : World} {B g n c : Nat} {e : TypeId} {xs : List Int} (k : Nat) (v : Int) (h : w.ownsRow B e 1 (.slice (some ⟨g, 0, none⟩) n c) n (xs.map (Value.int .u8))) (hk : k < n) :
    (w.setCell ⟨g, k, none⟩ (.int .u8 v)).ownsRow B e 1 (.slice (some ⟨g, 0, none⟩) n c) n ((xs.set k v).map (Value.int .u8)) := by
  obtain ⟨hl, h⟩ := h
  refine ⟨by simpa using hl, ?_⟩
  rcases h with ⟨h, _⟩ | ⟨g', cap, cur, h, hb, hg, hn, hm, hcs, hc⟩
  · simp at h
  · simp only [Value.slice.injEq, Option.some.injEq, Addr.mk.injEq, and_true, true_and] at h
    obtain ⟨rfl, rfl⟩ := h
    refine .inr ⟨g, c, cur.setIfInBounds k (.int .u8 v), rfl, hb, heap_set hg _, hn, hm, by simpa using hcs, ?_⟩
    rw [Array.toList_setIfInBounds, List.take_set, hc, List.map_set]

end Go.Proofs.Ytkagkfbdpiblkaa
