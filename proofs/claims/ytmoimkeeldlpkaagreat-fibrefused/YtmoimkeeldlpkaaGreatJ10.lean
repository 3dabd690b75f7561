/- Texts joined by a program: RowG, Law11, Law11P, Law11T, TrieS, TreeQ, DirM. -/
import Derived.Deep.LoopGhost
import Derived.Maps.Keyed
import Derived.ChangeKeysEq
import Derived.Carry
import Derived.Test.YtmoimkeeldlpkaaGreatJ2
import Derived.Test.YtmoimkeeldlpkaaGreatJ3
import Derived.Test.YtmoimkeeldlpkaaGreatJ4
import Derived.Test.YtmoimkeeldlpkaaGreatJ9
namespace Go.Proofs.YtmoimkeeldlpkaaGreat

open Go.ChangeShapes Go.WideShapes Go.ChangeAt Go.RowKit

set_option linter.unusedVariables false

/-- The slice (a, len, cap) reads as the elements zs, each of k cells f z. -/
structure IsRowG {α : Type} (k : Nat) (f : α → List Value) (ok : α → Prop) (w : World) (a : Option Addr) (len cap : Nat) (zs : List α) : Prop where
  length : zs.length = len
  le : len ≤ cap
  room : cap ≤ maxLen
  nil : a = none → cap = 0
  ok : ∀ z ∈ zs, ok z
  cells : len = 0 ∨ ∃ b off, a = some ⟨b, off, none⟩ ∧ ∀ (i : Nat) (z : α), zs[i]? = some z → ∀ j, j < k → w.cell? ⟨b, off + (i * k + j), none⟩ = (f z)[j]?

theorem IsRowG.later {α : Type} {k : Nat} {f : α → List Value} {ok : α → Prop} {w w' : World} {a : Option Addr} {len cap : Nat} {zs : List α} (h : IsRowG k f ok w a len cap zs) (hk : ∀ z, (f z).length = k) (hb : Below w.heap.size w w') : IsRowG k f ok w' a len cap zs := by
  refine ⟨h.length, h.le, h.room, h.nil, h.ok, ?_⟩
  rcases h.cells with h0 | ⟨b, off, rfl, hc⟩
  · exact .inl h0
  · refine .inr ⟨b, off, rfl, fun i z hz j hj => ?_⟩
    have h1 := hc i z hz j hj
    have hj' : j < (f z).length := by rw [hk z]; exact hj
    rw [List.getElem?_eq_getElem hj'] at h1 ⊢
    rw [hb.cell (p := ⟨b, off + (i * k + j), none⟩) (block_lt h1)]
    exact h1

section

variable {H : Type} {enc : TypeId × Value → H} {P : Program} {w : World} {base : Nat} {spare : Nat → Bool} {held : Bool}

theorem choose_list {α : Type} (Q : Nat → α → Prop) : ∀ n, (∀ i, i < n → ∃ z, Q i z) → ∃ zs : List α, zs.length = n ∧ ∀ i z, zs[i]? = some z → Q i z
  | 0, _ => ⟨[], rfl, fun i z h => by simp at h⟩
  | n + 1, h => by
    obtain ⟨zs, hl, hz⟩ := choose_list Q n (fun i hi => h i (by omega))
    obtain ⟨z, hq⟩ := h n (by omega)
    refine ⟨zs ++ [z], by simp [hl], fun i y hy => ?_⟩
    by_cases hi : i < n
    · rw [List.getElem?_append_left (by omega)] at hy
      exact hz i y hy
    · rw [List.getElem?_append_right (by omega)] at hy
      have hi' : i = n := by
        have := (List.getElem?_eq_some_iff.1 hy).1
        simp at this
        omega
      subst hi'
      simp [hl] at hy
      subst hy
      exact hq

/-- A slice of structs, read; e1 says how one struct reads. -/
theorem open_rowG {α : Type} {t e : TypeId} {fuel : Nat} {cs : List Value} {x : DataW H × List MemPlace} (k : Nat) (f : α → List Value) (ok : α → Prop) (hk0 : 0 < k) (hk : ∀ z, (f z).length = k) (ht : P.underlying t = some (.slice e)) (hc : P.cellsOf e = k)
    (e1 : ∀ n cs y, DataW.trod enc P w base spare held n e cs = some y → ∃ z, cs = f z ∧ ok z) (h : DataW.trod enc P w base spare held fuel t cs = some x) : ∃ a len cap zs, cs = [.slice a len cap] ∧ IsRowG k f ok w a len cap zs := by
  rcases DataW.trod_slice ht h with ⟨rfl, _⟩ | ⟨a, len, cap, elems, rest, n, _, rfl, _, hb, hl, hm, hlen, hel, _, _⟩
  · exact ⟨none, 0, 0, [], rfl, ⟨rfl, Nat.le_refl _, by unfold maxLen; omega, fun _ => rfl, (by intro z hz; simp at hz), .inl rfl⟩⟩
  · rw [hc] at hel
    have each : ∀ i, i < len → ∃ z, ok z ∧ ∀ j, j < k → w.cell? ((a.add (i * k)).add j) = (f z)[j]? := fun i hi => by
      have h1 := hel i hi
      rw [List.getElem?_eq_getElem (by omega)] at h1
      obtain ⟨cs', h2, h3⟩ := Option.bind_eq_some_iff.1 h1
      obtain ⟨z, rfl, hz⟩ := e1 _ _ _ h3
      unfold World.cells? at h2
      by_cases hbb : base ≤ (a.add (i * k)).block
      · rw [if_pos hbb] at h2
        refine ⟨z, hz, fun j hj => ?_⟩
        exact mapM_some_get h2 j j (by simp [hj])
      · rw [if_neg hbb] at h2; cases h2
    obtain ⟨zs, hzl, hz⟩ := choose_list (fun i z => ok z ∧ ∀ j, j < k → w.cell? ((a.add (i * k)).add j) = (f z)[j]?) len each
    refine ⟨some a, len, cap, zs, rfl, ⟨hzl, hl, hm, (by intro h; cases h), ?_, ?_⟩⟩
    · intro z hzm
      obtain ⟨i, hi, rfl⟩ := List.getElem_of_mem hzm
      exact (hz i _ (List.getElem?_eq_getElem hi)).1
    · by_cases h0 : len = 0
      · exact .inl h0
      · obtain ⟨b, off, spot⟩ := a
        have hz0 := (hz 0 _ (List.getElem?_eq_getElem (by omega))).2 0 hk0
        rw [List.getElem?_eq_getElem (by rw [hk]; exact hk0)] at hz0
        have hspot : spot = none := by
          have := World.cell?_spot hz0
          simpa [Addr.add] using this
        subst hspot
        refine .inr ⟨b, off, rfl, fun i z hiz j hj => ?_⟩
        have h1 := (hz i z hiz).2 j hj
        rw [← h1]
        congr 1
        by_cases hi0 : i * k = 0
        · by_cases hj0 : j = 0
          · simp [Addr.add, hi0, hj0]
          · simp [Addr.add, hi0, hj0]
        · by_cases hj0 : j = 0
          · simp [Addr.add, hi0, hj0]
          · simp [Addr.add, hi0, hj0, Nat.add_assoc]

end
end Go.Proofs.YtmoimkeeldlpkaaGreat

namespace Go.Proofs.YtmoimkeeldlpkaaGreat.Rb

set_option maxRecDepth 100000

open Go.RowKit Go.Proofs.YtmoimkeeldlpkaaGreat

set_option linter.unusedVariables false

set_option linter.unusedSimpArgs false

theorem ExtS.toN {F : List Nat} {N : Nat} {A B : World} (h : ExtS F A B) (hF : ∀ y ∈ F, N ≤ y) : ExtN N A B :=
  ⟨h.os, h.tape, h.output, h.size, fun k hk hx => h.block k hx (fun e => by have := hF k e; omega)⟩

def eqB (x y : Rt) : Bool := x.t == y.t && ((x.a == y.a && x.l == y.l) && (x.i == y.i && (x.g == y.g && x.m == y.m)))

theorem eqB_refl (x : Rt) : eqB x x = true := by simp [eqB]

theorem eqB_iff (x y : Rt) : eqB x y = true ↔ x = y := by
  obtain ⟨a0, a1, a2, a3, a4, a5⟩ := x
  obtain ⟨b0, b1, b2, b3, b4, b5⟩ := y
  simp [eqB, and_assoc]

theorem rt_guard : Tryz.prog.eqGuardType Tryz.prog.depth 33 = false := by kernel_rfl

theorem equalIn_px (a n b m : Int) (w : World) : (Op.equalIn 9999 31 (.agg #[.int .u32 a, .int .i64 n]) (.agg #[.int .u32 b, .int .i64 m])).run Tryz.prog w = .ok (a == b && n == m) w := by
  rw [run_equalIn_agg w 9998 31 _ _ (by kernel_rfl) (by kernel_rfl)]
  have hf : (Tryz.prog.fieldsOf 31).toList.map (fun f => (f.name == "_", f.type, f.offset)) = [(false, 29, 0), (false, 3, 1)] := by kernel_rfl
  generalize (Tryz.prog.fieldsOf 31).toList = l at hf
  rcases l with _ | ⟨f0, _ | ⟨f1, _ | ⟨f2, r⟩⟩⟩
  · simp at hf
  · simp at hf
  · simp only [List.map_cons, List.map_nil, List.cons.injEq, Prod.mk.injEq, and_true, beq_eq_false_iff_ne, ne_eq] at hf
    obtain ⟨⟨p0, t0, o0⟩, p1, t1, o1⟩ := hf
    simp only [Op.eqFields, ne_eq, p0, p1, not_false_eq_true, if_true, t0, t1, o0, o1]
    go_simp
    by_cases h1 : a = b <;> by_cases h2 : n = m <;> simp [h1, h2]
  · simp at hf

theorem equalIn_rt (x y : Rt) (w : World) : (Op.equalIn 10000 33 (.agg #[.int .i64 x.t, .int .u32 x.a, .int .i64 x.l, .int .i64 x.i, .int .u32 x.g, .int .i64 x.m]) (.agg #[.int .i64 y.t, .int .u32 y.a, .int .i64 y.l, .int .i64 y.i, .int .u32 y.g, .int .i64 y.m])).run Tryz.prog w = .ok (eqB x y) w := by
  have ep := fun w => equalIn_px x.a x.l y.a y.l w
  unfold eqB
  rw [run_equalIn_agg w 9999 33 _ _ (by kernel_rfl) (by kernel_rfl)]
  have hf : (Tryz.prog.fieldsOf 33).toList.map (fun f => (f.name == "_", f.type, f.offset)) = [(false, 3, 0), (false, 31, 1), (false, 3, 3), (false, 29, 4), (false, 3, 5)] := by kernel_rfl
  generalize (Tryz.prog.fieldsOf 33).toList = l at hf
  rcases l with _ | ⟨f0, _ | ⟨f1, _ | ⟨f2, _ | ⟨f3, _ | ⟨f4, _ | ⟨f5, r⟩⟩⟩⟩⟩⟩
  · simp at hf
  · simp at hf
  · simp at hf
  · simp at hf
  · simp at hf
  · simp only [List.map_cons, List.map_nil, List.cons.injEq, Prod.mk.injEq, and_true, beq_eq_false_iff_ne, ne_eq] at hf
    obtain ⟨⟨p0, t0, o0⟩, ⟨p1, t1, o1⟩, ⟨p2, t2, o2⟩, ⟨p3, t3, o3⟩, p4, t4, o4⟩ := hf
    simp only [Op.eqFields, ne_eq, p0, p1, p2, p3, p4, not_false_eq_true, if_true, t0, t1, t2, t3, t4, o0, o1, o2, o3, o4]
    generalize (x.a == y.a && x.l == y.l) = b at *
    go_simp
    cases b <;> by_cases h0 : x.t = y.t <;> by_cases h2 : x.i = y.i <;> by_cases h3 : x.g = y.g <;> by_cases h4 : x.m = y.m <;> simp [h0, h2, h3, h4]
  · simp at hf

theorem eql_rt (x y : Rt) (w : World) : (binOp .eql 33 (.agg #[.int .i64 x.t, .int .u32 x.a, .int .i64 x.l, .int .i64 x.i, .int .u32 x.g, .int .i64 x.m]) (.agg #[.int .i64 y.t, .int .u32 y.a, .int .i64 y.l, .int .i64 y.i, .int .u32 y.g, .int .i64 y.m])).run Tryz.prog w = .ok (.bool (eqB x y)) w := by
  rw [run_eql_struct, equalIn_rt]; rfl

theorem neq_rt (x y : Rt) (w : World) : (binOp .neq 33 (.agg #[.int .i64 x.t, .int .u32 x.a, .int .i64 x.l, .int .i64 x.i, .int .u32 x.g, .int .i64 x.m]) (.agg #[.int .i64 y.t, .int .u32 y.a, .int .i64 y.l, .int .i64 y.i, .int .u32 y.g, .int .i64 y.m])).run Tryz.prog w = .ok (.bool (!eqB x y)) w := by
  rw [run_neq_struct, equalIn_rt]; rfl

/-- A Rib that is changed, seen from where it is the call's own. -/
theorem RibAns.own {ty : TypeId} {w0 w w' : World} {rb : Nat} {F : List Nat} {L' : List Rt} (h : RibAns ty w rb F L' w') (hx : Ext w0 w) (hF : ∀ x ∈ F, w0.heap.size ≤ x) : ∃ F', RibAt ty w' rb L' F' ∧ Ext w0 w' ∧ (∀ x ∈ F', w0.heap.size ≤ x) ∧ ExtS F w w' ∧ ∀ x ∈ F', x ∈ F ∨ w.heap.size ≤ x := by
  obtain ⟨F', h1, h2, h3⟩ := h
  refine ⟨F', h1, ?_, fun x hx' => ?_, h2, h3⟩
  · exact ExtS.ext (ExtS.then (hx.toS F) h2 fun b hb => .inl hb) hF
  · rcases h3 x hx' with h | h
    · exact hF x h
    · exact Nat.le_trans hx.size h

def r1 : Rt := ⟨0, 0, 0, 0, 0, 5⟩

def r2 : Rt := ⟨0, 0, 0, 1, 0, 3⟩
end Go.Proofs.YtmoimkeeldlpkaaGreat.Rb

namespace Go.Proofs.YtmoimkeeldlpkaaGreat.Rb

set_option maxRecDepth 100000

open Go.RowKit Go.Proofs.YtmoimkeeldlpkaaGreat

set_option linter.unusedVariables false

set_option linter.unusedSimpArgs false

theorem rtOk_of {t a l i g m : Int} (h0 : (Lit.int .i64 t).wf = true) (h1 : (Lit.int .u32 a).wf = true) (h2 : (Lit.int .i64 l).wf = true) (h3 : (Lit.int .i64 i).wf = true) (h4 : (Lit.int .u32 g).wf = true) (h5 : (Lit.int .i64 m).wf = true) : RtOk ⟨t, a, l, i, g, m⟩ := by
  have b0 := bounds_i64 h0
  have b1 := bounds_u32 h1
  have b2 := bounds_i64 h2
  have b3 := bounds_i64 h3
  have b4 := bounds_u32 h4
  have b5 := bounds_i64 h5
  exact ⟨b0.1, b0.2, b1.1, b1.2, b2.1, b2.2, b3.1, b3.2, b4.1, b4.2, b5.1, b5.2⟩

/-- A Rib of L and the document's of M, in memory of the call's own, apart. -/
structure Two (w wr : World) (rb xb : Nat) (L M : List Rt) (F G : List Nat) : Prop where
  b : RibAt 90 wr rb L F
  x : RibAt 50 wr xb M G
  apart : ∀ y ∈ F, y ∉ G
  f : ∀ y ∈ F, w.heap.size ≤ y
  g : ∀ y ∈ G, w.heap.size ≤ y
  ext : Ext w wr

theorem Two.later {w wr w' : World} {rb xb : Nat} {L M : List Rt} {F G : List Nat} (h : Two w wr rb xb L M F G) (hx : Ext wr w') : Two w w' rb xb L M F G :=
  ⟨h.b.ext hx, h.x.ext hx, h.apart, h.f, h.g, h.ext.trans hx⟩

theorem Two.stepB {w wr w' : World} {rb xb : Nat} {L M L' : List Rt} {F G : List Nat} (h : Two w wr rb xb L M F G) (ha : RibAns 90 wr rb F L' w') : ∃ F', Two w w' rb xb L' M F' G ∧ ExtN w.heap.size wr w' := by
  obtain ⟨F', h1, h2, h3, h4, h5⟩ := ha.own h.ext h.f
  refine ⟨F', ⟨h1, h.x.later h4 fun y hy hf => h.apart y hf hy, fun y hy hg => ?_, h3, h.g, h2⟩, ExtS.toN h4 h.f⟩
  rcases h5 y hy with h6 | h6
  · exact h.apart y h6 hg
  · have := h.x.lt y hg; omega

theorem Two.stepX {w wr w' : World} {rb xb : Nat} {L M M' : List Rt} {F G : List Nat} (h : Two w wr rb xb L M F G) (ha : RibAns 50 wr xb G M' w') : ∃ G', Two w w' rb xb L M' F G' ∧ ExtN w.heap.size wr w' := by
  obtain ⟨G', h1, h2, h3, h4, h5⟩ := ha.own h.ext h.g
  refine ⟨G', ⟨h.b.later h4 fun y hy hg => h.apart y hy hg, h1, fun y hy hg => ?_, h.f, h3, h2⟩, ExtS.toN h4 h.g⟩
  rcases h5 y hg with h6 | h6
  · exact h.apart y hy h6
  · have := h.b.lt y hy; omega
end Go.Proofs.YtmoimkeeldlpkaaGreat.Rb

namespace Go.Proofs.YtmoimkeeldlpkaaGreat.Rb

open Go.Proofs.YtmoimkeeldlpkaaGreat

set_option linter.unusedVariables false

set_option linter.unusedSimpArgs false

theorem act_best {L : List Rt} {t : Int} {U : List Bool} : ∀ {k : Nat} {z : Rt}, z ∈ actN L t U k → bestO L t z.a z.l U = some z ∧ ∃ (j : Nat) (r : Rt), j < k ∧ L[j]? = some r ∧ r.t = t ∧ r.a = z.a ∧ r.l = z.l
  | 0, z, h => by simp [actN] at h
  | k + 1, z, h => by
    unfold actN at h
    rcases List.mem_append.1 h with h | h
    · obtain ⟨h1, j, r, h2, h3⟩ := act_best h
      exact ⟨h1, j, r, by omega, h3⟩
    · split at h
      · rename_i hf
        cases hx : L[k]? with
        | none => rw [hx] at h; simp at h
        | some r =>
          rw [hx] at h
          simp only [Option.mem_toList] at h
          have hb : bestO L t r.a r.l U = some z := h
          obtain ⟨h1, h2⟩ := bestL_is hb
          obtain ⟨_, h4⟩ := List.mem_filter.1 h1
          obtain ⟨e1, e2, e3⟩ := (selB_iff _ _ _ _).1 h4
          have ht : r.t = t := by
            unfold firstB at hf
            rw [hx] at hf
            simp only [Bool.and_eq_true, decide_eq_true_eq] at hf
            exact hf.1
          rw [e2, e3]
          exact ⟨hb, k, r, by omega, hx, ht, rfl, rfl⟩
      · simp at h

def PLt (x y : Rt) : Prop := x.a < y.a ∨ (x.a = y.a ∧ x.l < y.l)

theorem first_lt {L : List Rt} {t : Int} (hs : Srt L) {j k : Nat} {r x : Rt} (hjk : j < k) (hr : L[j]? = some r) (hx : L[k]? = some x) (hrt : r.t = t) (hf : firstB L t k = true) : PLt r x := by
  have hxt : x.t = t := by
    unfold firstB at hf
    rw [hx] at hf
    simp only [Bool.and_eq_true, decide_eq_true_eq] at hf
    exact hf.1
  obtain ⟨i, rfl⟩ : ∃ i, k = i + 1 := ⟨k - 1, by omega⟩
  have hi : i < L.length := by have := (List.getElem?_eq_some_iff.1 hx).1; omega
  obtain ⟨q, hq⟩ : ∃ q, L[i]? = some q := ⟨_, List.getElem?_eq_getElem hi⟩
  have hsel : selB t x.a x.l q = false := by
    unfold firstB at hf
    rw [hx] at hf
    simp only [hq, Bool.and_eq_true, Bool.not_eq_true'] at hf
    exact hf.2
  have h1 := hs.tab_le (show j ≤ i by omega) hr hq
  have h2 := hs.tab_le (Nat.le_succ i) hq hx
  have hqt : q.t = t := by omega
  have h3 := hs.get hq hx (Nat.lt_succ_self i)
  rw [ltB_iff] at h3
  have hn : ¬ (q.a = x.a ∧ q.l = x.l) := fun e => by
    rw [(selB_iff _ _ _ _).2 ⟨hqt, e.1, e.2⟩] at hsel
    cases hsel
  have h4 : r.a < q.a ∨ (r.a = q.a ∧ r.l ≤ q.l) := by
    rcases Nat.lt_or_ge j i with h | h
    · have h5 := hs.get hr hq h
      rw [ltB_iff] at h5
      unfold Lt5 at h5
      omega
    · obtain rfl : j = i := by omega
      rw [hr] at hq; cases hq; omega
  unfold Lt5 at h3
  unfold PLt
  omega

theorem act_sorted {L : List Rt} {t : Int} {U : List Bool} (hs : Srt L) : ∀ k, (actN L t U k).Pairwise PLt
  | 0 => by simp [actN]
  | k + 1 => by
    unfold actN
    refine List.pairwise_append.2 ⟨act_sorted hs k, ?_, ?_⟩
    · split
      · split
        · simp
        · rename_i r _
          cases bestO L t r.a r.l U <;> simp
      · simp
    · intro z hz y hy
      split at hy
      · rename_i hf
        cases hx : L[k]? with
        | none => rw [hx] at hy; simp at hy
        | some x =>
          rw [hx] at hy
          simp only [Option.mem_toList] at hy
          have hb : bestO L t x.a x.l U = some y := hy
          obtain ⟨h1, _⟩ := bestL_is hb
          obtain ⟨_, e2, e3⟩ := (selB_iff _ _ _ _).1 (List.mem_filter.1 h1).2
          obtain ⟨_, j, r, hj, hr, hrt, ha, hl⟩ := act_best hz
          have := first_lt hs hj hr hx hrt hf
          unfold PLt at *
          omega
      · simp at hy
end Go.Proofs.YtmoimkeeldlpkaaGreat.Rb

namespace Go.Proofs.YtmoimkeeldlpkaaGreat.Tri

open Go.RowKit Go.Proofs.YtmoimkeeldlpkaaGreat

/-- A tree: a prefix, whether it is there, its number, both halves. -/
inductive Sh where
  | nil : Sh
  | node (q : PX) (th : Bool) (u : Int) (l r : Sh) : Sh

def Sh.isNil : Sh → Bool
  | .nil => true
  | .node .. => false

theorem Sh.isNil_iff {t : Sh} : t.isNil = true ↔ t = .nil := by cases t <;> simp [Sh.isNil]

abbrev Row := List (PX × Int)

def own (q : PX) (th : Bool) (u : Int) : Row := if th then [(q, u)] else []

def toL : Sh → Row
  | .nil => []
  | .node q th u l r => own q th u ++ (toL l ++ toL r)

def prefs : Sh → List PX
  | .nil => []
  | .node q _ _ l r => q :: (prefs l ++ prefs r)

def rootU (Q : PX) (i : Int) : Sh → Prop
  | .nil => True
  | .node q _ _ _ _ => Und Q i q

def WF : Sh → Prop
  | .nil => True
  | .node q th u l r => Vp q ∧ (th = false → u = 0 ∧ l ≠ .nil ∧ r ≠ .nil) ∧ rootU q 0 l ∧ rootU q 1 r ∧ WF l ∧ WF r

theorem mem_own {q : PX} {th : Bool} {u : Int} {x : PX × Int} : x ∈ own q th u ↔ th = true ∧ x = (q, u) := by
  unfold own; cases th <;> simp

theorem mem_prefs {t : Sh} {x : PX × Int} (h : x ∈ toL t) : x.1 ∈ prefs t := by
  induction t with
  | nil => simp [toL] at h
  | node q th u l r ihl ihr =>
    simp only [toL, List.mem_append, mem_own] at h
    simp only [prefs, List.mem_cons, List.mem_append]
    rcases h with ⟨_, rfl⟩ | h | h
    · exact .inl rfl
    · exact .inr (.inl (ihl h))
    · exact .inr (.inr (ihr h))

theorem all_wf {t : Sh} (h : WF t) : (∀ x ∈ prefs t, Vp x) ∧ (∀ Q i, Vp Q → rootU Q i t → ∀ x ∈ prefs t, Und Q i x) := by
  induction t with
  | nil => exact ⟨fun x hx => by simp [prefs] at hx, fun Q i _ _ x hx => by simp [prefs] at hx⟩
  | node q th u l r ihl ihr =>
    obtain ⟨hq, _, rl, rr, wl, wr⟩ := h
    obtain ⟨vl, ul⟩ := ihl wl
    obtain ⟨vr, ur⟩ := ihr wr
    have hv : ∀ x ∈ prefs (.node q th u l r), Vp x := by
      intro x hx
      simp only [prefs, List.mem_cons, List.mem_append] at hx
      rcases hx with rfl | hx | hx
      · exact hq
      · exact vl x hx
      · exact vr x hx
    refine ⟨hv, fun Q i hQ hr x hx => ?_⟩
    have hx' := hv x hx
    simp only [prefs, List.mem_cons, List.mem_append] at hx
    rcases hx with rfl | hx | hx
    · exact hr
    · exact und_trans hQ hq hx' hr (ul q 0 hq rl x hx).2.1
    · exact und_trans hQ hq hx' hr (ur q 1 hq rr x hx).2.1

theorem WF.vp {t : Sh} (h : WF t) {x : PX × Int} (hx : x ∈ toL t) : Vp x.1 := (all_wf h).1 _ (mem_prefs hx)

theorem rootU_of {Q : PX} {i : Int} {t : Sh} (h : ∀ x ∈ prefs t, Und Q i x) : rootU Q i t := by
  cases t with
  | nil => trivial
  | node q th u l r => exact h q (by simp [prefs])

/-- In order, each once. -/
def Srt (L : Row) : Prop := L.Pairwise fun x y => bef x.1 y.1 = true

theorem srt_toL {t : Sh} (h : WF t) : Srt (toL t) := by
  induction t with
  | nil => exact List.Pairwise.nil
  | node q th u l r ihl ihr =>
    have hw := h
    obtain ⟨hq, _, rl, rr, wl, wr⟩ := h
    unfold toL Srt
    have hl : ∀ x ∈ toL l, Und q 0 x.1 ∧ Vp x.1 := fun x hx => ⟨(all_wf wl).2 q 0 hq rl _ (mem_prefs hx), wl.vp hx⟩
    have hr : ∀ x ∈ toL r, Und q 1 x.1 ∧ Vp x.1 := fun x hx => ⟨(all_wf wr).2 q 1 hq rr _ (mem_prefs hx), wr.vp hx⟩
    have strict : ∀ {i : Int} {x : PX}, Und q i x → Vp x → bef q x = true := fun hu hv => cov_bef hq hv hu.2.1 (by intro e; have := hu.1; rw [← e] at this; omega)
    rw [List.pairwise_append, List.pairwise_append]
    refine ⟨?_, ⟨ihl wl, ihr wr, ?_⟩, ?_⟩
    · unfold own; split
      · exact List.pairwise_singleton _ _
      · exact List.Pairwise.nil
    · intro x hx y hy
      rw [bef_iff]
      exact .inl (und_ord hq (hl x hx).2 (hr y hy).2 (hl x hx).1 (hr y hy).1)
    · intro x hx y hy
      obtain ⟨_, rfl⟩ := mem_own.1 hx
      rcases List.mem_append.1 hy with hy | hy
      · exact strict (hl y hy).1 (hl y hy).2
      · exact strict (hr y hy).1 (hr y hy).2

theorem srt_ext : ∀ {L M : Row}, Srt L → Srt M → (∀ x, x ∈ L ↔ x ∈ M) → L = M
  | [], [], _, _, _ => rfl
  | [], y :: M, _, _, h => by have := (h y).2 (by simp); simp at this
  | x :: L, [], _, _, h => by have := (h x).1 (by simp); simp at this
  | x :: L, y :: M, hL, hM, h => by
    obtain ⟨hx, hL'⟩ := List.pairwise_cons.1 hL
    obtain ⟨hy, hM'⟩ := List.pairwise_cons.1 hM
    have exy : x = y := by
      have h1 := (h x).1 (by simp)
      have h2 := (h y).2 (by simp)
      rcases List.mem_cons.1 h1 with e | h1
      · exact e
      · rcases List.mem_cons.1 h2 with e | h2
        · exact e.symm
        · have a := hy x h1
          have b := hx y h2
          have := bef_trans a b
          rw [bef_irr] at this; cases this
    subst exy
    congr 1
    refine srt_ext hL' hM' fun z => ?_
    have hz := h z
    simp only [List.mem_cons] at hz
    constructor
    · intro h1
      rcases hz.1 (.inr h1) with e | h2
      · subst e; have := hx z h1; rw [bef_irr] at this; cases this
      · exact h2
    · intro h1
      rcases hz.2 (.inr h1) with e | h2
      · subst e; have := hy z h1; rw [bef_irr] at this; cases this
      · exact h2

/-- One key, one number. -/
theorem srt_key {L : Row} (h : Srt L) {x y : PX × Int} (hx : x ∈ L) (hy : y ∈ L) (e : x.1 = y.1) : x = y := by
  induction L with
  | nil => simp at hx
  | cons z L ih =>
    obtain ⟨hz, hL⟩ := List.pairwise_cons.1 h
    rcases List.mem_cons.1 hx with e1 | hx' <;> rcases List.mem_cons.1 hy with e2 | hy'
    · rw [e1, e2]
    · have := hz y hy'; rw [← e1, e, bef_irr] at this; cases this
    · have := hz x hx'; rw [← e2, e, bef_irr] at this; cases this
    · exact ih hL hx' hy'

/-! A prefix put in. -/

def leaf (p : PX) (v : Int) : Sh := .node p true v .nil .nil

def overS (t : Sh) (q m p : PX) (v : Int) : Sh :=
  if m = p then (if halfV q.1 m.2 = 0 then .node m true v t .nil else .node m true v .nil t)
  else if halfV q.1 m.2 = 0 then .node m false 0 t (leaf p v) else .node m false 0 (leaf p v) t

def putS : Sh → PX → Int → Sh
  | .nil, p, v => leaf p v
  | .node q th u l r, p, v =>
    if cov q p = true then
      if q = p then .node q true v l r
      else if halfV p.1 q.2 = 0 then .node q th u (putS l p v) r else .node q th u l (putS r p v)
    else overS (.node q th u l r) q (com q p) p v

theorem putS_ne (t : Sh) (p : PX) (v : Int) : putS t p v ≠ .nil := by
  cases t with
  | nil => simp [putS, leaf]
  | node q th u l r =>
    simp only [putS, overS]
    repeat' split
    all_goals (intro h; cases h)

theorem not_half0 {a n : Int} (h : ¬ halfV a n = 0) : halfV a n = 1 := by rcases half_01 a n with h1 | h1 <;> simp_all

theorem com_ne {q p : PX} (hq : Vp q) (hp : Vp p) (h : ¬ cov q p = true) : com q p ≠ q := fun e => h (by have := (com_spec hq hp).2.2.1; rwa [e] at this)

theorem put_root {t : Sh} {p : PX} {v : Int} (h : WF t) (hp : Vp p) {Q : PX} {i : Int} (hQ : Vp Q) (hr : rootU Q i t) (hu : Und Q i p) : rootU Q i (putS t p v) := by
  cases t with
  | nil => exact hu
  | node q th u l r =>
    have hq : Vp q := h.1
    have hc : Und Q i (com q p) := und_com hQ hq hp hr hu
    simp only [putS, overS]
    repeat' split
    all_goals first | exact hr | exact hc

theorem put_wf {t : Sh} {p : PX} {v : Int} (h : WF t) (hp : Vp p) : WF (putS t p v) := by
  induction t with
  | nil => exact ⟨hp, by simp, trivial, trivial, trivial, trivial⟩
  | node q th u l r ihl ihr =>
    have hw := h
    obtain ⟨hq, hf, rl, rr, wl, wr⟩ := h
    simp only [putS]
    split
    · rename_i hc
      split
      · exact ⟨hq, by simp, rl, rr, wl, wr⟩
      · rename_i hne
        have hu := und_half hq hp hc hne
        split
        · rename_i h0
          rw [h0] at hu
          exact ⟨hq, fun e => ⟨(hf e).1, putS_ne _ _ _, (hf e).2.2⟩, put_root wl hp hq rl hu, rr, ihl wl, wr⟩
        · rename_i h0
          rw [not_half0 h0] at hu
          exact ⟨hq, fun e => ⟨(hf e).1, (hf e).2.1, putS_ne _ _ _⟩, rl, put_root wr hp hq rr hu, wl, ihr wr⟩
    · rename_i hc
      obtain ⟨cv, cq, cp, _, ch, _⟩ := com_spec hq hp
      have hne := com_ne hq hp hc
      have huq := und_half cv hq cq hne
      unfold overS
      split
      · rename_i e
        split
        · rename_i h0; rw [h0] at huq
          exact ⟨cv, by simp, huq, trivial, hw, trivial⟩
        · rename_i h0; rw [not_half0 h0] at huq
          exact ⟨cv, by simp, trivial, huq, trivial, hw⟩
      · rename_i hnp
        have hup := und_half cv hp cp hnp
        have hd := ch hne hnp
        have hlf : WF (leaf p v) := ⟨hp, by simp, trivial, trivial, trivial, trivial⟩
        split
        · rename_i h0; rw [h0] at huq
          have h1 : halfV p.1 (com q p).2 = 1 := not_half0 (fun e => hd (by rw [h0, e]))
          rw [h1] at hup
          exact ⟨cv, fun _ => ⟨rfl, by simp, by simp [leaf]⟩, huq, hup, hw, hlf⟩
        · rename_i h0; rw [not_half0 h0] at huq
          have h1 : halfV p.1 (com q p).2 = 0 := by
            rcases half_01 p.1 (com q p).2 with h | h
            · exact h
            · exact absurd (by rw [not_half0 h0, h]) hd
          rw [h1] at hup
          exact ⟨cv, fun _ => ⟨rfl, by simp [leaf], by simp⟩, hup, huq, hlf, hw⟩

theorem put_mem {t : Sh} {p : PX} {v : Int} (h : WF t) (hp : Vp p) (x : PX × Int) : x ∈ toL (putS t p v) ↔ x = (p, v) ∨ (x ∈ toL t ∧ x.1 ≠ p) := by
  induction t with
  | nil => simp [putS, leaf, toL, own]
  | node q th u l r ihl ihr =>
    have hw := h
    obtain ⟨hq, hf, rl, rr, wl, wr⟩ := h
    have hl : x ∈ toL l → Und q 0 x.1 := fun hx => (all_wf wl).2 q 0 hq rl _ (mem_prefs hx)
    have hr : x ∈ toL r → Und q 1 x.1 := fun hx => (all_wf wr).2 q 1 hq rr _ (mem_prefs hx)
    simp only [putS]
    split
    · rename_i hc
      split
      · rename_i e
        subst e
        simp only [toL, List.mem_append, mem_own]
        have n1 : x ∈ toL l → x.1 ≠ q := fun hx e => by have := (hl hx).1; rw [e] at this; omega
        have n2 : x ∈ toL r → x.1 ≠ q := fun hx e => by have := (hr hx).1; rw [e] at this; omega
        constructor
        · rintro (⟨_, rfl⟩ | hx | hx)
          · exact .inl rfl
          · exact .inr ⟨.inr (.inl hx), n1 hx⟩
          · exact .inr ⟨.inr (.inr hx), n2 hx⟩
        · rintro (rfl | ⟨⟨_, rfl⟩ | hx | hx, hn⟩)
          · exact .inl (by simp)
          · exact absurd rfl hn
          · exact .inr (.inl hx)
          · exact .inr (.inr hx)
      · rename_i hne
        have hu := und_half hq hp hc hne
        have nq : (th = true ∧ x = (q, u)) → x.1 ≠ p := by rintro ⟨_, rfl⟩; exact hne
        split
        · rename_i h0
          rw [h0] at hu
          have n2 : x ∈ toL r → x.1 ≠ p := fun hx e => by have := und_one (hr hx) (by rw [e]; exact hu); omega
          simp only [toL, List.mem_append, mem_own, ihl wl]
          constructor
          · rintro (hx | (rfl | ⟨hx, hn⟩) | hx)
            · exact .inr ⟨.inl hx, nq hx⟩
            · exact .inl rfl
            · exact .inr ⟨.inr (.inl hx), hn⟩
            · exact .inr ⟨.inr (.inr hx), n2 hx⟩
          · rintro (rfl | ⟨hx | hx | hx, hn⟩)
            · exact .inr (.inl (.inl rfl))
            · exact .inl hx
            · exact .inr (.inl (.inr ⟨hx, hn⟩))
            · exact .inr (.inr hx)
        · rename_i h0
          rw [not_half0 h0] at hu
          have n1 : x ∈ toL l → x.1 ≠ p := fun hx e => by have := und_one (hl hx) (by rw [e]; exact hu); omega
          simp only [toL, List.mem_append, mem_own, ihr wr]
          constructor
          · rintro (hx | hx | (rfl | ⟨hx, hn⟩))
            · exact .inr ⟨.inl hx, nq hx⟩
            · exact .inr ⟨.inr (.inl hx), n1 hx⟩
            · exact .inl rfl
            · exact .inr ⟨.inr (.inr hx), hn⟩
          · rintro (rfl | ⟨hx | hx | hx, hn⟩)
            · exact .inr (.inr (.inl rfl))
            · exact .inl hx
            · exact .inr (.inl hx)
            · exact .inr (.inr (.inr ⟨hx, hn⟩))
    · rename_i hc
      have hn : x ∈ toL (.node q th u l r) → x.1 ≠ p := by
        intro hx e
        simp only [toL, List.mem_append, mem_own] at hx
        apply hc
        rw [← e]
        rcases hx with ⟨_, rfl⟩ | hx | hx
        · exact cov_refl _
        · exact (hl hx).2.1
        · exact (hr hx).2.1
      generalize Sh.node q th u l r = t at *
      have key : x ∈ toL (overS t q (com q p) p v) ↔ x = (p, v) ∨ x ∈ toL t := by
        unfold overS
        split
        · rename_i e
          split <;> simp [toL, mem_own, e]
        · split
          · simp [toL, leaf, mem_own, or_comm]
          · simp [toL, leaf, mem_own]
      rw [key]
      constructor
      · rintro (h | h)
        · exact .inl h
        · exact .inr ⟨h, hn h⟩
      · rintro (h | h)
        · exact .inl h
        · exact .inr h.1

/-! A prefix taken out. -/

def needS : Sh → Sh
  | .nil => .nil
  | .node q th u l r => if th then .node q th u l r else if l.isNil then r else if r.isNil then l else .node q th u l r

def cutS : Sh → PX → Sh
  | .nil, _ => .nil
  | .node q th u l r, p => if q = p then needS (.node q false 0 l r) else if halfV p.1 q.2 = 0 then needS (.node q th u (cutS l p) r) else needS (.node q th u l (cutS r p))

/-- The way down ends at the prefix. -/
def pathS : Sh → PX → Bool
  | .nil, _ => false
  | .node q _ _ l r, p => if q = p then true else if halfV p.1 q.2 = 0 then pathS l p else pathS r p

theorem path_of {t : Sh} {x : PX × Int} (h : WF t) (hx : x ∈ toL t) : pathS t x.1 = true := by
  induction t with
  | nil => simp [toL] at hx
  | node q th u l r ihl ihr =>
    obtain ⟨hq, hf, rl, rr, wl, wr⟩ := h
    simp only [toL, List.mem_append, mem_own] at hx
    simp only [pathS]
    split
    · rfl
    · rename_i hne
      rcases hx with ⟨_, rfl⟩ | hx | hx
      · exact absurd rfl hne
      · have := (all_wf wl).2 q 0 hq rl _ (mem_prefs hx)
        rw [if_pos this.2.2]; exact ihl wl hx
      · have := (all_wf wr).2 q 1 hq rr _ (mem_prefs hx)
        rw [if_neg (by rw [this.2.2]; omega)]; exact ihr wr hx

theorem need_toL (q : PX) (th : Bool) (u : Int) (l r : Sh) : toL (needS (.node q th u l r)) = toL (.node q th u l r) := by
  simp only [needS]
  split
  · rfl
  · rename_i ht
    have ht : th = false := by simpa using ht
    subst ht
    split
    · rename_i hl
      rw [Sh.isNil_iff.1 hl]; simp [toL, own]
    · split
      · rename_i hr
        rw [Sh.isNil_iff.1 hr]; simp [toL, own]
      · rfl

theorem need_prefs (q : PX) (th : Bool) (u : Int) (l r : Sh) : ∀ x ∈ prefs (needS (.node q th u l r)), x ∈ prefs (.node q th u l r) := by
  intro x
  simp only [needS]
  split
  · exact id
  · split
    · simp only [prefs, List.mem_cons, List.mem_append]; exact fun h => .inr (.inr h)
    · split
      · simp only [prefs, List.mem_cons, List.mem_append]; exact fun h => .inr (.inl h)
      · exact id

theorem need_wf {q : PX} {th : Bool} {u : Int} {l r : Sh} (hq : Vp q) (hf : th = false → u = 0) (rl : rootU q 0 l) (rr : rootU q 1 r) (wl : WF l) (wr : WF r) : WF (needS (.node q th u l r)) := by
  simp only [needS]
  split
  · rename_i ht
    exact ⟨hq, by simp [ht], rl, rr, wl, wr⟩
  · rename_i ht
    split
    · exact wr
    · rename_i hl
      split
      · exact wl
      · rename_i hr
        refine ⟨hq, fun e => ⟨hf e, ?_, ?_⟩, rl, rr, wl, wr⟩
        · intro e2; exact hl (Sh.isNil_iff.2 e2)
        · intro e2; exact hr (Sh.isNil_iff.2 e2)

theorem cut_prefs {t : Sh} {p : PX} : ∀ x ∈ prefs (cutS t p), x ∈ prefs t := by
  induction t with
  | nil => exact fun x h => h
  | node q th u l r ihl ihr =>
    intro x hx
    simp only [cutS] at hx
    split at hx
    · have := need_prefs _ _ _ _ _ _ hx
      exact this
    · split at hx
      · have := need_prefs _ _ _ _ _ _ hx
        simp only [prefs, List.mem_cons, List.mem_append] at this ⊢
        rcases this with h | h | h
        · exact .inl h
        · exact .inr (.inl (ihl x h))
        · exact .inr (.inr h)
      · have := need_prefs _ _ _ _ _ _ hx
        simp only [prefs, List.mem_cons, List.mem_append] at this ⊢
        rcases this with h | h | h
        · exact .inl h
        · exact .inr (.inl h)
        · exact .inr (.inr (ihr x h))

theorem cut_wf {t : Sh} {p : PX} (h : WF t) : WF (cutS t p) := by
  induction t with
  | nil => trivial
  | node q th u l r ihl ihr =>
    obtain ⟨hq, hf, rl, rr, wl, wr⟩ := h
    simp only [cutS]
    split
    · exact need_wf hq (fun _ => rfl) rl rr wl wr
    · split
      · exact need_wf hq (fun e => (hf e).1) (rootU_of fun x hx => (all_wf wl).2 q 0 hq rl x (cut_prefs x hx)) rr (ihl wl) wr
      · exact need_wf hq (fun e => (hf e).1) rl (rootU_of fun x hx => (all_wf wr).2 q 1 hq rr x (cut_prefs x hx)) wl (ihr wr)

theorem cut_mem {t : Sh} {p : PX} (h : WF t) (hp : pathS t p = true) (x : PX × Int) : x ∈ toL (cutS t p) ↔ x ∈ toL t ∧ x.1 ≠ p := by
  induction t with
  | nil => simp [cutS, toL]
  | node q th u l r ihl ihr =>
    obtain ⟨hq, hf, rl, rr, wl, wr⟩ := h
    have hl : x ∈ toL l → Und q 0 x.1 := fun hx => (all_wf wl).2 q 0 hq rl _ (mem_prefs hx)
    have hr : x ∈ toL r → Und q 1 x.1 := fun hx => (all_wf wr).2 q 1 hq rr _ (mem_prefs hx)
    simp only [cutS]
    simp only [pathS] at hp
    split
    · rename_i e
      subst e
      rw [need_toL]
      have n1 : x ∈ toL l → x.1 ≠ q := fun hx e => by have := (hl hx).1; rw [e] at this; omega
      have n2 : x ∈ toL r → x.1 ≠ q := fun hx e => by have := (hr hx).1; rw [e] at this; omega
      simp only [toL, List.mem_append, mem_own]
      constructor
      · rintro (⟨h, _⟩ | hx | hx)
        · cases h
        · exact ⟨.inr (.inl hx), n1 hx⟩
        · exact ⟨.inr (.inr hx), n2 hx⟩
      · rintro ⟨⟨_, rfl⟩ | hx | hx, hn⟩
        · exact absurd rfl hn
        · exact .inr (.inl hx)
        · exact .inr (.inr hx)
    · rename_i hne
      rw [if_neg hne] at hp
      have nq : (th = true ∧ x = (q, u)) → x.1 ≠ p := by rintro ⟨_, rfl⟩; exact hne
      split
      · rename_i h0
        rw [if_pos h0] at hp
        have n2 : x ∈ toL r → x.1 ≠ p := fun hx e => by have := (hr hx).2.2; rw [e, h0] at this; omega
        rw [need_toL]
        simp only [toL, List.mem_append, mem_own, ihl wl hp]
        constructor
        · rintro (hx | ⟨hx, hn⟩ | hx)
          · exact ⟨.inl hx, nq hx⟩
          · exact ⟨.inr (.inl hx), hn⟩
          · exact ⟨.inr (.inr hx), n2 hx⟩
        · rintro ⟨hx | hx | hx, hn⟩
          · exact .inl hx
          · exact .inr (.inl ⟨hx, hn⟩)
          · exact .inr (.inr hx)
      · rename_i h0
        rw [if_neg h0] at hp
        have n1 : x ∈ toL l → x.1 ≠ p := fun hx e => by have := (hl hx).2.2; rw [e, not_half0 h0] at this; omega
        rw [need_toL]
        simp only [toL, List.mem_append, mem_own, ihr wr hp]
        constructor
        · rintro (hx | hx | ⟨hx, hn⟩)
          · exact ⟨.inl hx, nq hx⟩
          · exact ⟨.inr (.inl hx), n1 hx⟩
          · exact ⟨.inr (.inr hx), hn⟩
        · rintro ⟨hx | hx | hx, hn⟩
          · exact .inl hx
          · exact .inr (.inl hx)
          · exact .inr (.inr ⟨hx, hn⟩)

/-! Those that cover a prefix. -/

def coversS : Sh → PX → Row
  | .nil, _ => []
  | .node q th u l r, p => if cov q p = true then own q th u ++ (if halfV p.1 q.2 = 0 then coversS l p else coversS r p) else []

theorem covers_toL {t : Sh} {p : PX} (h : WF t) (hp : Vp p) : coversS t p = (toL t).filter fun x => cov x.1 p := by
  induction t with
  | nil => rfl
  | node q th u l r ihl ihr =>
    obtain ⟨hq, hf, rl, rr, wl, wr⟩ := h
    have hl : ∀ x ∈ toL l, Und q 0 x.1 ∧ Vp x.1 := fun x hx => ⟨(all_wf wl).2 q 0 hq rl _ (mem_prefs hx), wl.vp hx⟩
    have hr : ∀ x ∈ toL r, Und q 1 x.1 ∧ Vp x.1 := fun x hx => ⟨(all_wf wr).2 q 1 hq rr _ (mem_prefs hx), wr.vp hx⟩
    simp only [coversS, toL, List.filter_append]
    split
    · rename_i hc
      have e0 : (own q th u).filter (fun x => cov x.1 p) = own q th u := by
        refine List.filter_eq_self.2 fun x hx => ?_
        obtain ⟨_, rfl⟩ := mem_own.1 hx
        exact hc
      rw [e0]
      congr 1
      split
      · rename_i h0
        rw [ihl wl]
        have e : (toL r).filter (fun x => cov x.1 p) = [] := by
          refine List.filter_eq_nil_iff.2 fun x hx hcx => ?_
          have := (und_trans hq (hr x hx).2 hp (hr x hx).1 hcx).2.2
          rw [h0] at this; omega
        rw [e, List.append_nil]
      · rename_i h0
        rw [ihr wr]
        have e : (toL l).filter (fun x => cov x.1 p) = [] := by
          refine List.filter_eq_nil_iff.2 fun x hx hcx => ?_
          have := (und_trans hq (hl x hx).2 hp (hl x hx).1 hcx).2.2
          rw [not_half0 h0] at this; omega
        rw [e, List.nil_append]
    · rename_i hc
      have e : ∀ x ∈ own q th u ++ (toL l ++ toL r), ¬ cov x.1 p = true := by
        intro x hx hcx
        apply hc
        simp only [List.mem_append, mem_own] at hx
        rcases hx with ⟨_, rfl⟩ | hx | hx
        · exact hcx
        · exact cov_trans (hl x hx).1.2.1 hcx
        · exact cov_trans (hr x hx).1.2.1 hcx
      rw [← List.filter_append, ← List.filter_append]
      exact (List.filter_eq_nil_iff.2 e).symm
end Go.Proofs.YtmoimkeeldlpkaaGreat.Tri

namespace Go.Proofs.YtmoimkeeldlpkaaGreat.Tri

set_option maxRecDepth 100000

open Go.RowKit Go.Proofs.YtmoimkeeldlpkaaGreat

set_option linter.unusedVariables false

def covA (t : Sh) (p : PX) (a : Option Addr) : Option Addr := match t with
  | .nil => none
  | .node q _ _ _ _ => if cov q p = true then a else none
def covS (t : Sh) (p : PX) : Sh := match t with
  | .nil => .nil
  | .node q th u l r => if cov q p = true then .node q th u l r else .nil

theorem cov_wf {t : Sh} (h : WF t) (p : PX) : WF (covS t p) := by
  cases t with
  | nil => trivial
  | node q th u l r => simp only [covS]; split; exact h; trivial

theorem covS_covers (t : Sh) (p : PX) : coversS (covS t p) p = coversS t p := by
  cases t with
  | nil => rfl
  | node q th u l r =>
    simp only [covS]; split
    · rfl
    · rename_i h; simp [coversS, h]

theorem covS_twice (t : Sh) (p : PX) : covS (covS t p) p = covS t p := by
  cases t with
  | nil => rfl
  | node q th u l r => by_cases h : cov q p = true <;> simp [covS, h]

def szS : Sh → Nat
  | .nil => 0
  | .node _ _ _ l r => szS l + szS r + 1

theorem sz_cov (t : Sh) (p : PX) : szS (covS t p) ≤ szS t := by
  cases t with
  | nil => exact Nat.le_refl _
  | node q th u l r => simp only [covS]; split; exact Nat.le_refl _; exact Nat.zero_le _

/-- Which kid is gone on with. -/
def kidS (p : PX) : Sh → Sh
  | .nil => .nil
  | .node q _ _ l r => if halfV p.1 q.2 = 0 then l else r

/-- Where the way down begins. -/
def begS (t : Sh) (p : PX) : Sh := if isV p.1 p.2 = true then covS t p else .nil

theorem beg_wf {t : Sh} (h : WF t) (p : PX) : WF (begS t p) := by unfold begS; split; exact cov_wf h p; trivial
theorem beg_twice (t : Sh) (p : PX) : covS (begS t p) p = begS t p := by unfold begS; split; exact covS_twice t p; rfl

def lastF : Option (PX × Int) → Row → Option (PX × Int)
  | acc, [] => acc
  | _, x :: L => lastF (some x) L

theorem sz_kid (p : PX) (q : PX) (th : Bool) (u : Int) (l r : Sh) : szS (covS (kidS p (.node q th u l r)) p) < szS (.node q th u l r) := by
  have h := sz_cov (kidS p (.node q th u l r)) p
  refine Nat.lt_of_le_of_lt h ?_
  simp only [kidS, szS]; split <;> omega

theorem kid_wf {p q : PX} {th : Bool} {u : Int} {l r : Sh} (h : WF (.node q th u l r)) : WF (covS (kidS p (.node q th u l r)) p) := by
  refine cov_wf ?_ p
  simp only [kidS]; split
  · exact h.2.2.2.2.1
  · exact h.2.2.2.2.2

/-- A step of the way down. -/
theorem covers_step {p q : PX} {th : Bool} {u : Int} {l r : Sh} (h : covS (.node q th u l r) p = .node q th u l r) :
    coversS (.node q th u l r) p = own q th u ++ coversS (covS (kidS p (.node q th u l r)) p) p := by
  have hc : cov q p = true := by
    simp only [covS] at h
    split at h
    · assumption
    · cases h
  rw [covS_covers]
  simp only [coversS, if_pos hc, kidS]
  split <;> rfl

theorem neq_prefix (a n b m : Int) (w : World) : (binOp .neq 31 (.agg #[.int .u32 a, .int .i64 n]) (.agg #[.int .u32 b, .int .i64 m])).run Tryz.prog w = .ok (.bool (!(a == b && n == m))) w := by
  have h := eql_prefix a n b m w
  rw [run_eql_struct] at h
  rw [run_neq_struct]
  cases hr : (Op.equalIn 10000 31 (.agg #[.int .u32 a, .int .i64 n]) (.agg #[.int .u32 b, .int .i64 m])).run Tryz.prog w with
  | ok x w' =>
    rw [hr] at h
    simp only [Result.andThen_ok, Result.ok.injEq, Value.bool.injEq] at h ⊢
    exact ⟨by rw [h.1], h.2⟩
  | _ => rw [hr] at h; simp [Result.andThen] at h

/-- A prefix's number, by what was found. -/
def getF (o : Option (PX × Int)) (p : PX) : Int × Bool := match o with
  | none => (0, false)
  | some x => if x.1 = p then (x.2, true) else (0, false)

theorem extS_set (w : World) (b k : Nat) (u : Value) : ExtS [b] w (w.setCell ⟨b, k, none⟩ u) := (ExtS.refl [b] w).setCell (.inl (by simp)) u
end Go.Proofs.YtmoimkeeldlpkaaGreat.Tri

namespace Go.Proofs.YtmoimkeeldlpkaaGreat.Dr

set_option maxRecDepth 100000

open Go.RowKit Go.Proofs.YtmoimkeeldlpkaaGreat Go.Proofs.YtmoimkeeldlpkaaGreat.Tri

set_option linter.unusedVariables false

def keyV (p : PX) : Value := .agg #[.int .u32 p.1, .int .i64 p.2]
def ptV (o : Option Nat) : Value := .pointer (o.map fun b => ⟨b, 0, none⟩)

/-- The block of a prefix, in a row of both. -/
def lk : List (PX × Nat) → PX → Option Nat
  | [], _ => none
  | x :: E, p => if x.1 = p then some x.2 else lk E p

def delE : List (PX × Nat) → PX → List (PX × Nat)
  | [], _ => []
  | x :: E, p => if x.1 = p then E else x :: delE E p

def fa : List (PX × Nat) → PX → Nat → Option (Nat × Value)
  | [], _, _ => none
  | x :: E, p, i => if x.1 = p then some (i, ptV (some x.2)) else fa E p (i + 1)

def MapAt (w : World) (mb : Nat) (E : List (PX × Nat)) : Prop := ∃ es clock, w.heap[mb]? = some (.map es clock) ∧ es.toList.map (fun e => (e.key, e.val)) = E.map fun x => (keyV x.1, ptV (some x.2))

theorem eq_px (a n b m : Int) : (a == b && n == m) = decide (((b, m) : PX) = (a, n)) := by
  rw [Bool.eq_iff_iff]
  simp only [Bool.and_eq_true, beq_iff_eq, decide_eq_true_eq, Prod.mk.injEq]
  constructor
  · rintro ⟨rfl, rfl⟩; exact ⟨rfl, rfl⟩
  · rintro ⟨rfl, rfl⟩; exact ⟨rfl, rfl⟩

theorem equal_px (p q : PX) (w : World) : (Op.equal 31 (keyV p) (keyV q)).run Tryz.prog w = .ok (decide (q = p)) w := by
  obtain ⟨a, n⟩ := p
  obtain ⟨b, m⟩ := q
  have h := eql_prefix a n b m w
  rw [run_eql_struct] at h
  show (Op.equalIn 10000 31 (.agg #[.int .u32 a, .int .i64 n]) (.agg #[.int .u32 b, .int .i64 m])).run Tryz.prog w = _
  cases hr : (Op.equalIn 10000 31 (.agg #[.int .u32 a, .int .i64 n]) (.agg #[.int .u32 b, .int .i64 m])).run Tryz.prog w with
  | ok r w1 =>
    rw [hr] at h
    simp only [Result.andThen_ok, Result.ok.injEq, Value.bool.injEq] at h
    obtain ⟨rfl, rfl⟩ := h
    rw [eq_px]
  | halt x w1 => rw [hr] at h; simp [Result.andThen] at h

theorem check_px (em : Bool) (p : PX) (w : World) : (Instr.checkKey em 10000 31 (keyV p)).run Tryz.prog w = .ok () w := by
  obtain ⟨a, n⟩ := p
  kernel_rfl

theorem asking_px (p : PX) (w : World) : ∀ (l : List MapEntry) (E : List (PX × Nat)) (i : Nat), l.map (fun e => (e.key, e.val)) = E.map (fun x => (keyV x.1, ptV (some x.2))) →
    (Instr.findAsking 31 (keyV p) l i).run Tryz.prog w = .ok (fa E p i) w
  | [], [], i, _ => rfl
  | [], y :: E, i, h => by simp at h
  | e :: l, [], i, h => by simp at h
  | e :: l, y :: E, i, h => by
    simp only [List.map_cons, List.cons.injEq, Prod.mk.injEq] at h
    obtain ⟨⟨h1, h2⟩, h3⟩ := h
    have ih := asking_px p w l E (i + 1) h3
    simp only [Instr.findAsking, Sem.run_bind, h1, equal_px, Result.andThen_ok, fa]
    by_cases e1 : y.1 = p
    · simp [e1, h2]
    · simp only [e1, decide_false, Bool.false_eq_true, if_false]; exact ih

theorem find_px (p : PX) (w : World) (l : List MapEntry) (E : List (PX × Nat)) (h : l.map (fun e => (e.key, e.val)) = E.map (fun x => (keyV x.1, ptV (some x.2)))) :
    (Instr.findKey 31 (keyV p) l).run Tryz.prog w = .ok (fa E p 0) w := by
  have ha := asking_px p w l E 0 h
  unfold Instr.findKey
  simp only [Sem.run_bind, run_underlying Tryz.underlying31, Result.andThen_ok]
  cases l with
  | nil =>
    cases E with
    | nil => rfl
    | cons y E => simp at h
  | cons e l =>
    have : ∀ fs, Instr.findNow (.struct fs) (keyV p) (e :: l) 0 = none := fun fs => by simp [Instr.findNow, Instr.sameNow]
    rw [this]
    exact ha

theorem fa_lk (E : List (PX × Nat)) (p : PX) : ∀ i, (fa E p i).map (·.2) = (lk E p).map fun b => ptV (some b) := by
  induction E with
  | nil => intro i; rfl
  | cons x E ih => intro i; simp only [fa, lk]; split; rfl; exact ih _

theorem zero_ptr (w : World) : (zeroValue 122).run Tryz.prog w = .ok (.pointer none) w := by kernel_rfl

/-- What a prefix leads to. -/
theorem look_px {w : World} {mb : Nat} {E : List (PX × Nat)} (h : MapAt w mb E) (p : PX) : (Instr.lookup 97 (.map (some mb)) (keyV p) false).run Tryz.prog w = .ok (ptV (lk E p)) w := by
  obtain ⟨es, clock, hb, he⟩ := h
  have hf := fa_lk E p 0
  simp only [Instr.lookup, Sem.run_bind, run_underlying Tryz.underlying97, Result.andThen_ok, MapKept.run_getObj_map hb, check_px, Sem.run_pure, find_px p w _ E he]
  cases hfa : fa E p 0 with
  | none =>
    rw [hfa] at hf
    have : lk E p = none := by
      cases hl : lk E p with
      | none => rfl
      | some b => rw [hl] at hf; cases hf
    rw [this]
    simp only [Sem.run_bind, zero_ptr, Result.andThen_ok, Sem.run_pure]
    rfl
  | some x =>
    obtain ⟨i, v⟩ := x
    rw [hfa] at hf
    simp only [Option.map_some] at hf
    cases hl : lk E p with
    | none => rw [hl] at hf; simp at hf
    | some b =>
      rw [hl] at hf
      simp only [Option.map_some, Option.some.injEq] at hf
      simp only [Sem.run_bind, Sem.run_pure, Result.andThen_ok, hf]
      rfl

theorem look_nil (w : World) (p : PX) : (Instr.lookup 97 (.map none) (keyV p) false).run Tryz.prog w = .ok (.pointer none) w := by
  simp only [Instr.lookup, Sem.run_bind, run_underlying Tryz.underlying97, Result.andThen_ok, check_px, Sem.run_pure, find_px p w [] [] rfl, fa, zero_ptr]
  rfl

def setB (w : World) (b : Nat) (o : Obj) : World := { w with heap := w.heap.setIfInBounds b o }

theorem setB_ext (w : World) (b : Nat) (o : Obj) : ExtS [b] w (setB w b o) := ⟨rfl, rfl, rfl, by simp [setB], fun k hk hx => by
  have : k ≠ b := by simpa using hx
  simp [setB, this.symm]⟩

theorem setB_same {w : World} {b : Nat} {o o' : Obj} (h : w.heap[b]? = some o') : (setB w b o).heap[b]? = some o := by
  simp [setB, heap_lt h]

theorem fa_none {E : List (PX × Nat)} {p : PX} (h : lk E p = none) (i : Nat) : fa E p i = none := by
  have := fa_lk E p i
  rw [h] at this
  simpa using this

/-- A new prefix is stored. -/
theorem store_px {w : World} {mb : Nat} {E : List (PX × Nat)} (h : MapAt w mb E) (p : PX) (b : Nat) (hn : lk E p = none) :
    ∃ w', (Instr.mapUpdate 97 (.map (some mb)) (keyV p) (ptV (some b))).run Tryz.prog w = .ok () w' ∧ MapAt w' mb (E ++ [(p, b)]) ∧ ExtS [mb] w w' ∧ w'.heap.size = w.heap.size := by
  obtain ⟨es, clock, hb, he⟩ := h
  refine ⟨setB w mb (.map (es.push ⟨keyV p, ptV (some b), clock⟩) (clock + 1)), ?_, ⟨_, _, setB_same hb, ?_⟩, setB_ext _ _ _, by simp [setB]⟩
  · simp only [Instr.mapUpdate, Sem.run_bind, run_underlying Tryz.underlying97, Result.andThen_ok, MapKept.run_getObj_map hb, check_px, find_px p w _ E he, fa_none hn, MapKept.run_setObj_map _ hb, setB]
  · simp [he]

theorem fa_some {E : List (PX × Nat)} {p : PX} {b : Nat} (h : lk E p = some b) : ∀ i, ∃ j, j < E.length ∧ fa E p i = some (i + j, ptV (some b)) ∧ E.eraseIdx j = delE E p := by
  induction E with
  | nil => simp [lk] at h
  | cons x E ih =>
    intro i
    simp only [lk] at h
    split at h
    · rename_i e
      simp only [Option.some.injEq] at h
      exact ⟨0, by simp, by simp [fa, e, h], by simp [delE, e]⟩
    · rename_i e
      obtain ⟨j, h1, h2, h3⟩ := ih h (i + 1)
      refine ⟨j + 1, by simp; omega, ?_, by simp [delE, e, h3]⟩
      simp only [fa, e, if_false, h2]
      congr 2
      omega

theorem map_erase {α β : Type} (f : α → β) : ∀ (l : List α) (j : Nat), (l.eraseIdx j).map f = (l.map f).eraseIdx j
  | [], _ => by simp
  | x :: l, 0 => by simp
  | x :: l, j + 1 => by simp [map_erase f l j]

theorem MapAt.later {w w' : World} {mb : Nat} {E : List (PX × Nat)} {G : List Nat} (h : MapAt w mb E) (hx : ExtS G w w') (hd : mb ∉ G) : MapAt w' mb E := by
  obtain ⟨es, clock, hb, he⟩ := h
  exact ⟨es, clock, hx.heap hd hb, he⟩
end Go.Proofs.YtmoimkeeldlpkaaGreat.Dr
