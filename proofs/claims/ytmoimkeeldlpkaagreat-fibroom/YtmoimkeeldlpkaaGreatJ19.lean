/- Texts joined by a program: FibK, Fib3, Fib4, Fib2. -/
import Derived.WideKeyEntry
import Derived.Test.YtmoimkeeldlpkaaGreatJ10
import Derived.Test.YtmoimkeeldlpkaaGreatJ16
import Derived.Test.YtmoimkeeldlpkaaGreatJ18
namespace Go.Proofs.YtmoimkeeldlpkaaGreat.Fb

set_option maxRecDepth 100000

open Go.RowKit Go.Proofs.YtmoimkeeldlpkaaGreat Go.Proofs.YtmoimkeeldlpkaaGreat.Rb

open Go.Proofs.YtmoimkeeldlpkaaGreat.Tri (PX Vp)

open Go.Proofs.YtmoimkeeldlpkaaGreat.Dr (keyV setB setB_ext setB_same equal_px check_px ownN moreN domB lvN plN loN beN own_next dom_next)

set_option linter.unusedVariables false

set_option linter.unusedSimpArgs false

/-! Plainly. -/

def addK (M : List PX) (p : PX) : List PX := if p ∈ M then M else M ++ [p]

theorem addK_mem {M : List PX} {p q : PX} : q ∈ addK M p ↔ q ∈ M ∨ q = p := by
  unfold addK
  split
  · rename_i h
    exact ⟨.inl, fun h' => h'.elim id fun e => e ▸ h⟩
  · simp

theorem addK_len (M : List PX) (p : PX) : (addK M p).length = M.length + if p ∈ M then 0 else 1 := by
  unfold addK
  split <;> simp

/-- What is counted of a way. -/
def keyOf (r : Rt) (n : Int) : PX := (normV r.a n, holdV n)

def stepK (M : List PX) (r : Rt) (n : Int) : List PX := if n < r.l then addK M (keyOf r n) else M

def keysB (A : List Rt) : Nat → List PX
  | 0 => []
  | k + 1 => match A[k]? with
    | some r => stepK (stepK (keysB A k) r 16) r 24
    | none => keysB A k

theorem keysB_next {A : List Rt} {k : Nat} {r : Rt} (h : A[k]? = some r) : keysB A (k + 1) = stepK (stepK (keysB A k) r 16) r 24 := by
  simp only [keysB, h]

theorem norm16 (a : Nat) : normV (a : Int) 16 = ((a / 65536 * 65536 : Nat) : Int) := by
  unfold normV
  rw [Int.toNat_natCast, show sizeN 16 = 65536 by decide]

theorem norm24 (a : Nat) : normV (a : Int) 24 = ((a / 256 * 256 : Nat) : Int) := by
  unfold normV
  rw [Int.toNat_natCast, show sizeN 24 = 256 by decide]

structure CntK (K : List PX) (M : List PX) : Prop where
  len : M.length = ownN K
  one : ∀ y : Nat, (((y * 65536 : Nat) : Int), (16 : Int)) ∈ M ↔ domB K 1 y = true
  two : ∀ y : Nat, (((y * 256 : Nat) : Int), (24 : Int)) ∈ M ↔ domB K 2 y = true

theorem cnt_keys {A : List Rt} (hv : ∀ x ∈ A, Vp (pxR x)) : ∀ k, k ≤ A.length → CntK ((A.map pxR).take k) (keysB A k)
  | 0, _ => ⟨rfl, fun y => by simp [keysB, domB], fun y => by simp [keysB, domB]⟩
  | k + 1, h => by
    have ih := cnt_keys hv k (by omega)
    obtain ⟨r, hr⟩ : ∃ r, A[k]? = some r := ⟨_, List.getElem?_eq_getElem (by omega)⟩
    have hvp := hv r (List.mem_of_getElem? hr)
    have hvp' := hvp
    obtain ⟨a, N, e, hN, hA, hZ⟩ := hvp'
    have ea : r.a = (a : Int) := congrArg Prod.fst e
    have el : r.l = (N : Int) := congrArg Prod.snd e
    have hK : (A.map pxR)[k]? = some ((a : Int), (N : Int)) := by rw [List.getElem?_map, hr]; simp [pxR, ea, el]
    rw [e] at hvp
    have hnx := own_next hK hvp
    have d1 := fun y => dom_next hK 1 y
    have d2 := fun y => dom_next hK 2 y
    rw [keysB_next hr]
    have k16 : keyOf r 16 = (((a / 65536 * 65536 : Nat) : Int), 16) := by unfold keyOf; rw [ea, norm16]; rfl
    have k24 : keyOf r 24 = (((a / 256 * 256 : Nat) : Int), 24) := by unfold keyOf; rw [ea, norm24]; rfl
    have p1 : a / 2 ^ beN (1 - 1) = a / 65536 := rfl
    have p2 : a / 2 ^ beN (2 - 1) = a / 256 := rfl
    have q1 : plN 0 a = a / 65536 := rfl
    have q2 : plN 1 a = a / 256 := rfl
    have m1 : keyOf r 16 ∈ keysB A k ↔ domB ((A.map pxR).take k) 1 (a / 65536) = true := by rw [k16]; exact ih.one _
    have m2 : keyOf r 24 ∈ keysB A k ↔ domB ((A.map pxR).take k) 2 (a / 256) = true := by rw [k24]; exact ih.two _
    have x1 : ∀ y : Nat, ((((y * 65536 : Nat) : Int), (16 : Int)) : PX) = keyOf r 16 ↔ a / 65536 = y := fun y => by
      rw [k16, Prod.mk.injEq]; constructor
      · rintro ⟨h1, -⟩; omega
      · intro h1; exact ⟨by omega, rfl⟩
    have x2 : ∀ y : Nat, ((((y * 256 : Nat) : Int), (24 : Int)) : PX) = keyOf r 24 ↔ a / 256 = y := fun y => by
      rw [k24, Prod.mk.injEq]; constructor
      · rintro ⟨h1, -⟩; omega
      · intro h1; exact ⟨by omega, rfl⟩
    have n1 : ∀ y : Nat, ((((y * 65536 : Nat) : Int), (16 : Int)) : PX) ≠ keyOf r 24 := fun y h1 => by
      rw [k24, Prod.mk.injEq] at h1; omega
    have n2 : ∀ y : Nat, ((((y * 256 : Nat) : Int), (24 : Int)) : PX) ≠ keyOf r 16 := fun y h1 => by
      rw [k16, Prod.mk.injEq] at h1; omega
    have n3 : keyOf r 24 ≠ keyOf r 16 := by rw [k16, k24]; intro h1; rw [Prod.mk.injEq] at h1; omega
    rcases (by omega : N ≤ 16 ∨ (16 < N ∧ N ≤ 24) ∨ 24 < N) with h1 | h1 | h1
    · have s : stepK (stepK (keysB A k) r 16) r 24 = keysB A k := by
        unfold stepK
        rw [if_neg (by omega), if_neg (by omega)]
      rw [s]
      refine ⟨?_, fun y => ?_, fun y => ?_⟩
      · rw [hnx, ih.len, show lvN N = 0 by unfold lvN; rw [if_pos h1]]; rfl
      · rw [d1 y, ih.one]
        exact ⟨.inl, fun h2 => h2.elim id fun h3 => by have := h3.1; simp only [loN] at this; omega⟩
      · rw [d2 y, ih.two]
        exact ⟨.inl, fun h2 => h2.elim id fun h3 => by have := h3.1; simp only [loN] at this; omega⟩
    · have s : stepK (stepK (keysB A k) r 16) r 24 = addK (keysB A k) (keyOf r 16) := by
        unfold stepK
        rw [if_neg (by omega), if_pos (by omega)]
      rw [s]
      refine ⟨?_, fun y => ?_, fun y => ?_⟩
      · rw [hnx, addK_len, ih.len, show lvN N = 1 by unfold lvN; rw [if_neg (by omega), if_pos h1.2]]
        simp only [moreN, q1, Nat.zero_add, m1]
      · rw [d1 y, addK_mem, ih.one, x1, p1]
        exact ⟨fun h2 => h2.imp_right fun h3 => ⟨by simp only [loN]; omega, h3⟩, fun h2 => h2.imp_right fun h3 => h3.2⟩
      · rw [d2 y, addK_mem, ih.two]
        exact ⟨fun h2 => h2.elim .inl fun h3 => absurd h3 (n2 y), fun h2 => h2.elim .inl fun h3 => by have := h3.1; simp only [loN] at this; omega⟩
    · have s : stepK (stepK (keysB A k) r 16) r 24 = addK (addK (keysB A k) (keyOf r 16)) (keyOf r 24) := by
        unfold stepK
        rw [if_pos (by omega), if_pos (by omega)]
      rw [s]
      refine ⟨?_, fun y => ?_, fun y => ?_⟩
      · rw [hnx, addK_len, addK_len, ih.len, show lvN N = 2 by unfold lvN; rw [if_neg (by omega), if_neg (by omega)]]
        have m3 : keyOf r 24 ∈ addK (keysB A k) (keyOf r 16) ↔ domB ((A.map pxR).take k) 2 (a / 256) = true := by
          rw [addK_mem, m2]
          exact ⟨fun h2 => h2.elim id fun h3 => absurd h3 n3, .inl⟩
        simp only [moreN, q1, q2, Nat.zero_add, m1, m3]
        rw [Nat.add_assoc]
      · rw [d1 y, addK_mem, addK_mem, ih.one, x1, p1]
        exact ⟨fun h2 => h2.elim (fun h3 => h3.imp_right fun h4 => ⟨by simp only [loN]; omega, h4⟩) fun h3 => absurd h3 (n1 y), fun h2 => .inl (h2.imp_right fun h3 => h3.2)⟩
      · rw [d2 y, addK_mem, addK_mem, ih.two, x2, p2]
        exact ⟨fun h2 => h2.elim (fun h3 => h3.elim .inl fun h4 => absurd h4 (n2 y)) fun h3 => .inr ⟨by simp only [loN]; omega, h3⟩, fun h2 => h2.elim (fun h3 => .inl (.inl h3)) fun h3 => .inr h3.2⟩

theorem keysB_own {A : List Rt} (hv : ∀ x ∈ A, Vp (pxR x)) : (keysB A A.length).length = ownA A := by
  have := (cnt_keys hv A.length (Nat.le_refl _)).len
  rw [this, List.take_of_length_le (by simp)]
  rfl

/-! The map in memory. -/

structure MapE (w : World) (mb : Nat) (es : Array MapEntry) (clock : Nat) (M : List PX) : Prop where
  heap : w.heap[mb]? = some (.map es clock)
  keys : es.toList.map (·.key) = M.map keyV
  ints : ∀ e ∈ es.toList, ∃ n : Int, e.val = .int .i64 n
  born : ∀ e ∈ es.toList, e.born < clock
  once : (es.toList.map (·.born)).Nodup

def MapI (w : World) (mb : Nat) (M : List PX) : Prop := ∃ es clock, MapE w mb es clock M

theorem MapI.later {w w' : World} {mb : Nat} {M : List PX} {G : List Nat} (h : MapI w mb M) (hx : ExtS G w w') (hd : mb ∉ G) : MapI w' mb M := by
  obtain ⟨es, clock, h⟩ := h
  exact ⟨es, clock, hx.heap hd h.heap, h.keys, h.ints, h.born, h.once⟩

theorem MapI.lt {w : World} {mb : Nat} {M : List PX} (h : MapI w mb M) : mb < w.heap.size := by
  obtain ⟨es, clock, h⟩ := h
  exact heap_lt h.heap

def fk : List MapEntry → List PX → PX → Nat → Option (Nat × Value)
  | [], _, _, _ => none
  | _ :: _, [], _, _ => none
  | e :: l, q :: M, p, i => if q = p then some (i, e.val) else fk l M p (i + 1)

theorem asking_k (p : PX) (w : World) : ∀ (l : List MapEntry) (M : List PX) (i : Nat), l.map (·.key) = M.map keyV →
    (Instr.findAsking 31 (keyV p) l i).run Tryz.prog w = .ok (fk l M p i) w
  | [], [], i, _ => rfl
  | [], y :: E, i, h => by simp at h
  | e :: l, [], i, h => by simp at h
  | e :: l, y :: E, i, h => by
    simp only [List.map_cons, List.cons.injEq] at h
    have ih := asking_k p w l E (i + 1) h.2
    simp only [Instr.findAsking, Sem.run_bind, h.1, equal_px, Result.andThen_ok, fk]
    by_cases e1 : y = p
    · simp [e1]
    · simp only [e1, decide_false, Bool.false_eq_true, if_false]; exact ih

theorem find_k (p : PX) (w : World) (l : List MapEntry) (M : List PX) (h : l.map (·.key) = M.map keyV) :
    (Instr.findKey 31 (keyV p) l).run Tryz.prog w = .ok (fk l M p 0) w := by
  have ha := asking_k p w l M 0 h
  unfold Instr.findKey
  simp only [Sem.run_bind, run_underlying Tryz.underlying31, Result.andThen_ok]
  cases l with
  | nil =>
    cases M with
    | nil => rfl
    | cons y E => simp at h
  | cons e l =>
    have : ∀ fs, Instr.findNow (.struct fs) (keyV p) (e :: l) 0 = none := fun fs => by simp [Instr.findNow, Instr.sameNow]
    rw [this]
    exact ha

theorem fk_none : ∀ {l : List MapEntry} {M : List PX} {p : PX} (i : Nat), l.length = M.length → p ∉ M → fk l M p i = none
  | [], _, p, i, _, _ => rfl
  | _ :: _, [], p, i, _, _ => rfl
  | e :: l, q :: M, p, i, hl, h => by
    simp only [List.mem_cons, not_or] at h
    have h1 : ¬ q = p := fun e => h.1 e.symm
    simp only [fk, if_neg h1]
    exact fk_none (i + 1) (by simpa using hl) h.2

theorem fk_some : ∀ {l : List MapEntry} {M : List PX} {p : PX} (i : Nat), l.length = M.length → p ∈ M → ∃ j e, l[j]? = some e ∧ M[j]? = some p ∧ fk l M p i = some (i + j, e.val)
  | [], [], p, i, _, h => by cases h
  | [], _ :: _, p, i, h, _ => by simp at h
  | _ :: _, [], p, i, h, _ => by simp at h
  | e :: l, q :: M, p, i, hl, h => by
    by_cases e1 : q = p
    · exact ⟨0, e, rfl, by simp [e1], by simp [fk, e1]⟩
    · have h2 : p ∈ M := (List.mem_cons.1 h).resolve_left fun h' => e1 h'.symm
      obtain ⟨j, x, h3, h4, h5⟩ := fk_some (i + 1) (by simpa using hl) h2
      exact ⟨j + 1, x, by simpa using h3, by simpa using h4, by simp only [fk, if_neg e1, h5]; congr 2; omega⟩

theorem zero_int (w : World) : (zeroValue 3).run Tryz.prog w = .ok (.int .i64 0) w := by kernel_rfl

def fv (o : Option (Nat × Value)) : Value := match o with
  | some x => x.2
  | none => .int .i64 0

theorem look_k {w : World} {mb : Nat} {es : Array MapEntry} {clock : Nat} {M : List PX} (h : MapE w mb es clock M) (p : PX) :
    (Instr.lookup 161 (.map (some mb)) (keyV p) false).run Tryz.prog w = .ok (fv (fk es.toList M p 0)) w := by
  simp only [Instr.lookup, Sem.run_bind, run_underlying Tryz.underlying161, Result.andThen_ok, MapKept.run_getObj_map h.heap, check_px, Sem.run_pure, find_k p w _ M h.keys]
  cases fk es.toList M p 0 with
  | none =>
    simp only [Sem.run_bind, zero_int, Result.andThen_ok, Sem.run_pure]
    rfl
  | some x => rfl

theorem fv_int {w : World} {mb : Nat} {es : Array MapEntry} {clock : Nat} {M : List PX} (h : MapE w mb es clock M) (p : PX) : ∃ n : Int, fv (fk es.toList M p 0) = .int .i64 n := by
  have hl : es.toList.length = M.length := by have := congrArg List.length h.keys; simpa using this
  by_cases hp : p ∈ M
  · obtain ⟨j, e, h1, h2, h3⟩ := fk_some 0 hl hp
    rw [h3]
    exact h.ints e (List.mem_of_getElem? h1)
  · rw [fk_none 0 hl hp]
    exact ⟨0, rfl⟩

/-- What is told of the prefix p there. -/
def Lk (w : World) (mb : Nat) (p : PX) (v : Value) : Prop := (Instr.lookup 161 (.map (some mb)) (keyV p) false).run Tryz.prog w = .ok v w

/-- All but the map stands; of p the same is told. -/
def RM (mb : Nat) (p : PX) (w w' : World) : Prop := ExtS [mb] w w' ∧ ∀ v, Lk w mb p v → Lk w' mb p v

theorem RM.refl (mb : Nat) (p : PX) (w : World) : RM mb p w w := ⟨ExtS.refl _ w, fun _ h => h⟩

theorem RM.trans {mb : Nat} {p : PX} {a b c : World} (h : RM mb p a b) (k : RM mb p b c) : RM mb p a c := ⟨h.1.trans k.1, fun v hv => k.2 v (h.2 v hv)⟩

theorem RM.ext {mb : Nat} {p : PX} {w w' : World} {M : List PX} (h : MapI w mb M) (hx : Ext w w') : RM mb p w w' := by
  obtain ⟨es, clock, h⟩ := h
  have h' : MapE w' mb es clock M := ⟨hx.heap h.heap, h.keys, h.ints, h.born, h.once⟩
  refine ⟨hx.toS _, fun v hv => ?_⟩
  have h1 := look_k h p
  have h2 := look_k h' p
  unfold Lk at *
  rw [h1] at hv
  rw [h2]
  cases hv
  rfl

theorem stays_px (p : PX) (w : World) : (Instr.keyThatStays (keyV p) (keyV p)).run Tryz.prog w = .ok (keyV p) w := by
  have : Instr.sameBits 10000 (keyV p) (keyV p) = true := by
    simp [keyV, Instr.sameBits]
  unfold Instr.keyThatStays
  rw [if_pos this]
  rfl

theorem keys_at {es : Array MapEntry} {M : List PX} (h : es.toList.map (·.key) = M.map keyV) {j : Nat} {e : MapEntry} {p : PX} (he : es.toList[j]? = some e) (hp : M[j]? = some p) : e.key = keyV p := by
  have h1 : (es.toList.map (·.key))[j]? = some e.key := by rw [List.getElem?_map, he]; rfl
  rw [h, List.getElem?_map, hp] at h1
  simpa using h1.symm

theorem estore (w : World) (mb : Nat) (es : Array MapEntry) (clock st i : Nat) (v : Value) (hb : w.heap[mb]? = some (.map es clock)) (hidx : es.findIdx? (fun e => ((e.born : Nat) : Int) == ((st : Nat) : Int)) = some i) :
    (Instr.entryStore 161 (.map (some mb)) (.int .i64 st) v).run Tryz.prog w = .ok () (setB w mb (.map (es.modify i fun e => { e with val := v }) clock)) := by
  simp [Instr.entryStore, MapKept.run_getObj_map hb, asInt, asIntOf, hidx, MapKept.run_setObj_map _ hb, Result.andThen, setB]

theorem entry_k {w : World} {mb : Nat} {M : List PX} (h : MapI w mb M) (p : PX) : ∃ (v0 : Value) (st : Nat) (w1 : World),
    (Instr.mapEntry 161 (.map (some mb)) (keyV p)).run Tryz.prog w = .ok (.tuple #[v0, .int .i64 st]) w1 ∧ RM mb p w w1 ∧ w1.heap.size = w.heap.size ∧
    ∀ n : Int, ∃ w2, (Instr.entryStore 161 (.map (some mb)) (.int .i64 st) (.int .i64 n)).run Tryz.prog w1 = .ok () w2 ∧ MapI w2 mb (addK M p) ∧ ExtS [mb] w1 w2 ∧ w2.heap.size = w1.heap.size := by
  obtain ⟨es, clock, h⟩ := h
  have hl : es.toList.length = M.length := by have := congrArg List.length h.keys; simpa using this
  by_cases hp : p ∈ M
  · obtain ⟨j, e0, h1, h2, h3⟩ := fk_some 0 hl hp
    have hk := keys_at h.keys h1 h2
    rw [Nat.zero_add] at h3
    have hj : es[j]? = some e0 := by simpa using h1
    have hsame : es.modify j (fun e => { e with key := keyV p }) = es := by
      apply Array.ext'
      rw [Array.toList_modify, ChangeMaps.modify_eq_set _ _ _ _ h1]
      have : ({ e0 with key := keyV p } : MapEntry) = e0 := by rw [← hk]
      rw [this]
      exact WideElems.set_self _ _ _ h1
    have hset : setB w mb (.map es clock) = w := by
      unfold setB
      have : w.heap.setIfInBounds mb (.map es clock) = w.heap := by
        apply Array.ext
        · simp
        · intro i hi1 hi2
          rw [Array.getElem_setIfInBounds]
          · split
            · rename_i e
              subst e
              have := h.heap
              rw [Array.getElem?_eq_getElem hi2] at this
              exact (Option.some.inj this).symm
            · rfl
      rw [this]
    refine ⟨e0.val, e0.born, w, ?_, RM.refl _ _ _, rfl, fun n => ?_⟩
    · have : (Instr.mapEntry 161 (.map (some mb)) (keyV p)).run Tryz.prog w = .ok (.tuple #[e0.val, goInt e0.born]) (setB w mb (.map es clock)) := by
        simp [Instr.mapEntry, run_underlying Tryz.underlying161, MapKept.run_getObj_map h.heap, check_px, find_k p w _ M h.keys, h3, hj, hk, stays_px, hsame, MapKept.run_setObj_map _ h.heap, Result.andThen, setB]
      rw [this, hset]
      rfl
    · have hidx : es.findIdx? (fun e => ((e.born : Nat) : Int) == ((e0.born : Nat) : Int)) = some j := by
        rw [WideElems.findIdx_arr]
        exact WideElems.findIdx_born h.once h1
      have hmod : (es.modify j fun e => { e with val := Value.int .i64 n }).toList = es.toList.set j { e0 with val := .int .i64 n } := by
        rw [Array.toList_modify, ChangeMaps.modify_eq_set _ _ _ _ h1]
      have hgk : ∀ {β : Type} (f : MapEntry → β), f { e0 with val := .int .i64 n } = f e0 → (es.toList.set j { e0 with val := .int .i64 n }).map f = es.toList.map f := fun f hf => by
        rw [List.map_set, hf]
        exact WideElems.set_self _ _ _ (by rw [List.getElem?_map, h1]; rfl)
      refine ⟨setB w mb (.map (es.modify j fun e => { e with val := .int .i64 n }) clock), ?_, ?_, setB_ext _ _ _, by simp [setB]⟩
      · simp [Instr.entryStore, MapKept.run_getObj_map h.heap, asInt, asIntOf, hidx, MapKept.run_setObj_map _ h.heap, Result.andThen, setB]
      · have ha : addK M p = M := by unfold addK; rw [if_pos hp]
        rw [ha]
        refine ⟨_, _, setB_same h.heap, ?_, ?_, ?_, ?_⟩
        · rw [hmod, hgk (·.key) rfl]; exact h.keys
        · intro e he
          rw [hmod] at he
          rcases List.mem_or_eq_of_mem_set he with h4 | h4
          · exact h.ints e h4
          · exact ⟨n, by rw [h4]⟩
        · intro e he
          rw [hmod] at he
          rcases List.mem_or_eq_of_mem_set he with h4 | h4
          · exact h.born e h4
          · rw [h4]; exact h.born e0 (List.mem_of_getElem? h1)
        · rw [hmod, hgk (·.born) rfl]; exact h.once
  · have h3 := fk_none 0 hl hp
    have hE : MapE (setB w mb (.map (es.push ⟨keyV p, .int .i64 0, clock⟩) (clock + 1))) mb (es.push ⟨keyV p, .int .i64 0, clock⟩) (clock + 1) (M ++ [p]) := by
      refine ⟨setB_same h.heap, ?_, ?_, ?_, ?_⟩
      · rw [Array.toList_push, List.map_append, List.map_append, h.keys]; rfl
      · intro e he
        rw [Array.toList_push, List.mem_append, List.mem_singleton] at he
        rcases he with h4 | h4
        · exact h.ints e h4
        · exact ⟨0, by rw [h4]⟩
      · intro e he
        rw [Array.toList_push, List.mem_append, List.mem_singleton] at he
        rcases he with h4 | h4
        · have := h.born e h4; omega
        · rw [h4]; exact Nat.lt_succ_self _
      · rw [Array.toList_push, List.map_append]
        refine List.nodup_append.2 ⟨h.once, by simp, fun a ha c hc e1 => ?_⟩
        simp only [List.map_cons, List.map_nil, List.mem_singleton] at hc
        obtain ⟨x, hx, rfl⟩ := List.mem_map.1 ha
        have := h.born x hx
        omega
    refine ⟨.int .i64 0, clock, _, ?_, ⟨setB_ext w mb (.map (es.push ⟨keyV p, .int .i64 0, clock⟩) (clock + 1)), fun v hv => ?_⟩, by simp [setB], fun n => ?_⟩
    · have hz : ∀ w, (zeroValue 3).run Tryz.prog w = .ok (.int .i64 0) w := zero_int
      simp [Instr.mapEntry, run_underlying Tryz.underlying161, MapKept.run_getObj_map h.heap, check_px, find_k p w _ M h.keys, h3, hz, MapKept.run_setObj_map _ h.heap, Result.andThen, setB, goInt]
    · have h1 := look_k h p
      have h2 := look_k hE p
      unfold Lk at *
      rw [h1, h3] at hv
      rw [h2]
      have hl2 : (es.push ⟨keyV p, .int .i64 0, clock⟩).toList.length = (M ++ [p]).length := by rw [Array.toList_push]; simp at hl ⊢; exact hl
      obtain ⟨j, e, k1, k2, k3⟩ := fk_some 0 hl2 (by simp : p ∈ M ++ [p])
      have hv0 : e.val = .int .i64 0 := by
        have hjl : j = M.length := by
          rcases Nat.lt_or_ge j M.length with hlt | hge
          · rw [List.getElem?_append_left hlt] at k2
            exact absurd (List.mem_of_getElem? k2) hp
          · have := (List.getElem?_eq_some_iff.1 k2).1
            simp at this
            omega
        rw [Array.toList_push, hjl, ← hl, List.getElem?_append_right (Nat.le_refl _)] at k1
        simp at k1
        rw [← k1]
      rw [k3]
      cases hv
      simp only [fv, hv0]
    · have hidx : (es.push ⟨keyV p, .int .i64 0, clock⟩).findIdx? (fun e => ((e.born : Nat) : Int) == ((clock : Nat) : Int)) = some es.size := by
        rw [WideElems.findIdx_arr]
        have := WideElems.findIdx_born (l := (es.push ⟨keyV p, .int .i64 0, clock⟩).toList) (j := es.size) (e0 := ⟨keyV p, .int .i64 0, clock⟩) hE.once (by simp)
        exact this
      have hmod : (es.push ⟨keyV p, .int .i64 0, clock⟩).modify es.size (fun e => { e with val := .int .i64 n }) = es.push ⟨keyV p, .int .i64 n, clock⟩ := by
        apply Array.ext'
        rw [Array.toList_modify, Array.toList_push, Array.toList_push, ← Array.length_toList, WideElems.modify_last]
      refine ⟨setB (setB w mb (.map (es.push ⟨keyV p, .int .i64 0, clock⟩) (clock + 1))) mb (.map (es.push ⟨keyV p, .int .i64 n, clock⟩) (clock + 1)), ?_, ?_, setB_ext _ _ _, by simp [setB]⟩
      · have h9 := estore _ mb _ _ clock es.size (.int .i64 n) hE.heap hidx
        rw [hmod] at h9
        exact h9
      · have ha : addK M p = M ++ [p] := by unfold addK; rw [if_neg hp]
        rw [ha]
        refine ⟨_, _, setB_same hE.heap, ?_, ?_, ?_, ?_⟩
        · rw [Array.toList_push, List.map_append, List.map_append, h.keys]; rfl
        · intro e he
          rw [Array.toList_push, List.mem_append, List.mem_singleton] at he
          rcases he with h4 | h4
          · exact h.ints e h4
          · exact ⟨n, by rw [h4]⟩
        · intro e he
          rw [Array.toList_push, List.mem_append, List.mem_singleton] at he
          rcases he with h4 | h4
          · have := h.born e h4; omega
          · rw [h4]; exact Nat.lt_succ_self _
        · have := hE.once
          rw [Array.toList_push, List.map_append] at this ⊢
          exact this

theorem len_k {w : World} {mb : Nat} {M : List PX} (h : MapI w mb M) (ty : TypeId) : (Builtin.len_ #[161] ty #[.map (some mb)]).run Tryz.prog w = .ok (.int .i64 (M.length : Int)) w := by
  obtain ⟨es, clock, h⟩ := h
  have hl : es.size = M.length := by have := congrArg List.length h.keys; simpa using this
  simp [Builtin.len_, run_underlying Tryz.underlying161, MapKept.run_getObj_map h.heap, Result.andThen, hl]
  rfl
end Go.Proofs.YtmoimkeeldlpkaaGreat.Fb

namespace Go.Proofs.YtmoimkeeldlpkaaGreat.Fb

set_option maxRecDepth 100000

open Go.RowKit Go.Proofs.YtmoimkeeldlpkaaGreat Go.Proofs.YtmoimkeeldlpkaaGreat.Rb

open Go.Proofs.YtmoimkeeldlpkaaGreat.Tri (PX Vp)

open Go.Proofs.YtmoimkeeldlpkaaGreat.Dr (keyV)

set_option linter.unusedVariables false

set_option linter.unusedSimpArgs false

/-- Where blocks stands: the map, the way that is looked at. -/
structure BlkW (w wq : World) (mb wb : Nat) (x : Rt) (M : List PX) : Prop where
  ext : Ext w wq
  map : MapI wq mb M
  box : wq.heap[wb]? = some (.cells #[.int .i64 x.t, .int .u32 x.a, .int .i64 x.l, .int .i64 x.i, .int .u32 x.g, .int .i64 x.m] 33 (0, 0))
  new : w.heap.size ≤ mb

theorem BlkW.ne {w wq : World} {mb wb : Nat} {x : Rt} {M : List PX} (h : BlkW w wq mb wb x M) : wb ∉ [mb] := fun e => by
  obtain ⟨es, c, hm⟩ := h.map
  have h1 := hm.heap
  have h2 := h.box
  rw [List.mem_singleton.1 e, h1] at h2
  cases h2

theorem ext_map {w wq w2 : World} {mb : Nat} (hx : Ext w wq) (hn : w.heap.size ≤ mb) (h : ExtS [mb] wq w2) : Ext w w2 :=
  ExtS.ext ((hx.toS [mb]).trans h) fun b hb => by rw [List.mem_singleton.1 hb]; exact hn

theorem BlkW.step {w wq w2 : World} {mb wb : Nat} {x : Rt} {M M' : List PX} (h : BlkW w wq mb wb x M) (hx : ExtS [mb] wq w2) (hm : MapI w2 mb M') : BlkW w w2 mb wb x M' :=
  ⟨ext_map h.ext h.new hx, hm, hx.heap h.ne h.box, h.new⟩

theorem BlkW.later {w wq w2 : World} {mb wb : Nat} {x : Rt} {M : List PX} (h : BlkW w wq mb wb x M) (hx : Ext wq w2) : BlkW w w2 mb wb x M :=
  ⟨h.ext.trans hx, h.map.later (hx.toS []) (by simp), hx.heap h.box, h.new⟩

def inK (M : List PX) (r : Rt) : Nat → List PX
  | 0 => M
  | 1 => stepK M r 16
  | _ => stepK (stepK M r 16) r 24

theorem ix_two (w : World) : (Instr.index 162 (.agg #[.int .i64 16, .int .i64 24]) (.int .i64 0)).run Tryz.prog w = .ok (.int .i64 16) w ∧ (Instr.index 162 (.agg #[.int .i64 16, .int .i64 24]) (.int .i64 1)).run Tryz.prog w = .ok (.int .i64 24) w := ⟨by kernel_rfl, by kernel_rfl⟩

set_option maxHeartbeats 4000000 in
theorem blocks_any (p : Option Addr) (n c : Nat) (A : List Rt) (w : World) (hR : Rd w p n c A) (hn : n ≤ 1000000) (hv : ∀ x ∈ A, Vp (pxR x)) :
    Calls Tryz.prog 78 #[.slice p n c] w fun e w' => e = .returned (.int .i64 (ownA A : Nat)) ∧ Ext w w' := by
  have HR : Hid (Rd w p n c A) := hR
  have HL : Hid (A.length = n) := hR.len
  have HV : Hid (∀ x ∈ A, Vp (pxR x)) := hv
  have hmm := @run_makeMap Tryz.prog
  have hA0 : Ext w (w.alloc (.map #[] 0)) := (Ext.refl w).alloc _
  have HM0 : Hid (MapI (w.alloc (.map #[] 0)) w.heap.size []) := ⟨#[], 0, heap_new w _, rfl, by simp, by simp, by simp⟩
  clear hR hv
  go_enter Tryz.func78, Tryz.ntmps78
  go_wp2_with fail
  clear hmm
  generalize hmb : w.heap.size = mb at *
  have HMB : Hid (w.heap.size = mb) := hmb
  generalize (w.alloc (.map #[] 0)) = W0 at *
  clear hmb
  go_loopg [11] n (fun kx s11 wr => ∃ k : Nat, s11 = .int .i64 k ∧ k ≤ n ∧ n - k ≤ kx ∧ Hid (Ext w wr ∧ MapI wr mb (keysB A k)))
  case atStart => exact ⟨0, rfl, Nat.zero_le _, by omega, (⟨hA0, HM0.out⟩ : Ext w W0 ∧ MapI W0 mb (keysB A 0))⟩
  case round =>
    obtain ⟨k, rfl, hkn, hkx, HW⟩ := hrel
    clear hA0 HM0
    by_cases hlt : k < n
    · obtain ⟨x, hxk⟩ : ∃ x, A[k]? = some x := ⟨_, List.getElem?_eq_getElem (by rw [HL.out]; exact hlt)⟩
      obtain ⟨b, off, rfl, hb, g0, g1, g2, g3, g4, g5⟩ := (HR.out.ext HW.out.1).cell hxk
      have hvx := HV.out x (List.mem_of_getElem? hxk)
      have ha0 : 0 ≤ x.a := by obtain ⟨a, N, e, -, h2, -⟩ := hvx; have := congrArg Prod.fst e; simp only [pxR] at this; omega
      have ha1 : x.a ≤ 4294967295 := by obtain ⟨a, N, e, -, h2, -⟩ := hvx; have := congrArg Prod.fst e; simp only [pxR] at this; omega
      have HXK : Hid (A[k]? = some x) := hxk
      have hki : (k : Int) < (n : Int) := by omega
      have HB0 : Hid (BlkW w (wr.alloc (.cells #[.int .i64 x.t, .int .u32 x.a, .int .i64 x.l, .int .i64 x.i, .int .u32 x.g, .int .i64 x.m] 33)) mb wr.heap.size x (keysB A k)) := BlkW.mk (HW.out.1.alloc _) (HW.out.2.later (((Ext.refl wr).alloc _).toS []) (by simp)) (heap_new wr _) (Nat.le_of_eq HMB.out)
      clear hxk hvx
      go_wp2_with fail
      clear g0 g1 g2 g3 g4 g5 HW
      generalize wr.heap.size = wb at *
      generalize (wr.alloc (.cells #[.int .i64 x.t, .int .u32 x.a, .int .i64 x.l, .int .i64 x.i, .int .u32 x.g, .int .i64 x.m] 33)) = W1 at *
      go_loopg [16] 2 (fun ky s16 wq => ∃ j : Nat, s16 = .int .i64 j ∧ j ≤ 2 ∧ 2 - j ≤ ky ∧ Hid (BlkW w wq mb wb x (inK (keysB A k) x j)))
      case atStart => exact ⟨0, rfl, Nat.zero_le _, Nat.le_refl _, (HB0.out : BlkW w W1 mb wb x (inK (keysB A k) x 0))⟩
      case round =>
        obtain ⟨j, rfl, hj2, hjy, HQ⟩ := hrel
        rcases (by omega : j = 0 ∨ j = 1 ∨ j = 2) with rfl | rfl | rfl
        · have hwb := HQ.out.ne
          have ix := fun w => (ix_two w).1
          have y2 : wr.cell? ⟨wb, 2, none⟩ = some (.int .i64 x.l) := by rw [heap_cell HQ.out.box]; rfl
          by_cases hl : (16 : Int) < x.l
          · go_wp2_with fail
            refine wp_region_tailMR (RM mb (keyOf x 16)) (RM.refl mb _) (fun _ _ _ h k => h.trans k) [] [11] [[0, 7, 8, 9, 10, 11], [1, 2, 3, 5, 6, 7, 8, 9, 10, 11], [2, 3, 5, 6, 7, 8, 9, 10, 11], [3, 5, 6, 7, 8, 9, 10, 11], [4, 5, 6, 7, 8, 9, 10, 11], [5, 6, 7, 8, 9, 10, 11], [], [7, 8, 11], [8, 11], [], [10, 11]] [(0, false), (1, false), (2, false), (3, false), (4, false), (5, false), (6, true), (7, false), (8, false), (9, true), (10, false)] (by kernel_rfl) (by kernel_rfl) rfl (by kernel_rfl) (fun _ _ _ _ _ h => h) ?_
            refine wpM_done ?_
            have HD : Hid (BlkW w wr.drew mb wb x (inK (keysB A k) x 0)) := HQ.out.later (Ext.refl wr).drew
            clear y2 HQ
            generalize wr.drew = W at *
            have y1 : ∀ w', RM mb (keyOf x 16) W w' → w'.cell? ⟨wb, 1, none⟩ = some (.int .u32 x.a) := fun w' h => by rw [heap_cell (h.1.heap hwb HD.out.box)]; rfl
            iterate 6 (refine wpE_read (v := ?_) rfl (by rfl) ?_ ?_; rotate_left; (focus (intro w' hx; go_simp; first | done | with_reducible rfl)); simp only [Act.put, List.setIfInBounds_toArray, List.set_cons_zero, List.set_cons_succ])
            (refine wpE_call rfl (by rfl) (fun K hK => ?_); go_simp; first
              | (go_at_call 100; refine (norm_any x.a 16 _ ha0 ha1).mono ?_; rintro e w1 ⟨rfl, hx1⟩; refine hK _ _ (RM.ext HD.out.map hx1) ?_; clear hK K))
            have H1 : Hid (BlkW w w1 mb wb x (inK (keysB A k) x 0)) := HD.out.later hx1
            obtain ⟨nv, hlk⟩ : ∃ nv : Int, Lk w1 mb (keyOf x 16) (.int .i64 nv) := by
              obtain ⟨es, cl, hm⟩ := H1.out.map
              obtain ⟨nv, h1⟩ := fv_int hm (keyOf x 16)
              exact ⟨nv, by rw [← h1]; exact look_k hm _⟩
            have hlk' : ∀ w', RM mb (keyOf x 16) w1 w' → (Instr.lookup 161 (.map (some mb)) (.agg #[.int .u32 (normV x.a 16), .int .i64 (holdV 16)]) false).run Tryz.prog w' = .ok (.int .i64 nv) w' := fun w' h => h.2 _ hlk
            obtain ⟨v0, st, w2, hent, hr2, hs2, hst⟩ := entry_k H1.out.map (keyOf x 16)
            simp only [keyV, keyOf] at hent
            obtain ⟨nu, hnu⟩ : ∃ nu : Int, IntKind.i64.wrap (nv + 1) = nu := ⟨_, rfl⟩
            obtain ⟨w3, hest, hm3, hx3, hs3⟩ := hst nu
            have H3 : Hid (BlkW w w3 mb wb x (addK (inK (keysB A k) x 0) (keyOf x 16))) := H1.out.step (hr2.1.trans hx3) hm3
            have HR2 : Hid (RM mb (keyOf x 16) w1 w2) := hr2
            clear hlk hst hr2 hs2 hs3 hm3 hx3 hx1 y1
            iterate 2 (refine wpE_read (v := ?_) rfl (by rfl) ?_ ?_; rotate_left; (focus (intro w' hx; go_simp; first | done | with_reducible rfl)); simp only [Act.put, List.setIfInBounds_toArray, List.set_cons_zero, List.set_cons_succ])
            refine wpE_call rfl (by rfl) (fun K hK => ?_)
            go_simp
            refine hK _ _ HR2.out ?_
            clear hK K
            iterate 1 (refine wpE_read (v := ?_) rfl (by rfl) ?_ ?_; rotate_left; (focus (intro w' hx; go_simp; first | done | with_reducible rfl)); simp only [Act.put, List.setIfInBounds_toArray, List.set_cons_zero, List.set_cons_succ])
            refine wpE_done ?_
            refine wpT_step rfl (by rfl) (fun K hK => ?_)
            go_simp
            refine hK _ _ ?_
            clear hK K
            refine wpT_done ?_
            clear hlk' hent hest hnu
            go_wp2_with fail
            go_roundg (2 - (0 + 1))
            case measure => omega
            case rel => exact ⟨0 + 1, by go_num, by omega, Nat.le_refl _, (by have h := H3.out; simp only [inK, stepK, if_pos hl] at h ⊢; exact h : BlkW w w3 mb wb x (inK (keysB A k) x (0 + 1)))⟩
          · go_wp2_with fail
            go_roundg (2 - (0 + 1))
            case measure => omega
            case rel => exact ⟨0 + 1, by go_num, by omega, Nat.le_refl _, (by have h := HQ.out; simp only [inK, stepK, if_neg (by omega : ¬ (16 : Int) < x.l)] at h ⊢; exact h : BlkW w wr mb wb x (inK (keysB A k) x (0 + 1)))⟩
        · have hwb := HQ.out.ne
          have ix := fun w => (ix_two w).2
          have y2 : wr.cell? ⟨wb, 2, none⟩ = some (.int .i64 x.l) := by rw [heap_cell HQ.out.box]; rfl
          by_cases hl : (24 : Int) < x.l
          · go_wp2_with fail
            refine wp_region_tailMR (RM mb (keyOf x 24)) (RM.refl mb _) (fun _ _ _ h k => h.trans k) [] [11] [[0, 7, 8, 9, 10, 11], [1, 2, 3, 5, 6, 7, 8, 9, 10, 11], [2, 3, 5, 6, 7, 8, 9, 10, 11], [3, 5, 6, 7, 8, 9, 10, 11], [4, 5, 6, 7, 8, 9, 10, 11], [5, 6, 7, 8, 9, 10, 11], [], [7, 8, 11], [8, 11], [], [10, 11]] [(0, false), (1, false), (2, false), (3, false), (4, false), (5, false), (6, true), (7, false), (8, false), (9, true), (10, false)] (by kernel_rfl) (by kernel_rfl) rfl (by kernel_rfl) (fun _ _ _ _ _ h => h) ?_
            refine wpM_done ?_
            have HD : Hid (BlkW w wr.drew mb wb x (inK (keysB A k) x 1)) := HQ.out.later (Ext.refl wr).drew
            clear y2 HQ
            generalize wr.drew = W at *
            have y1 : ∀ w', RM mb (keyOf x 24) W w' → w'.cell? ⟨wb, 1, none⟩ = some (.int .u32 x.a) := fun w' h => by rw [heap_cell (h.1.heap hwb HD.out.box)]; rfl
            iterate 6 (refine wpE_read (v := ?_) rfl (by rfl) ?_ ?_; rotate_left; (focus (intro w' hx; go_simp; first | done | with_reducible rfl)); simp only [Act.put, List.setIfInBounds_toArray, List.set_cons_zero, List.set_cons_succ])
            (refine wpE_call rfl (by rfl) (fun K hK => ?_); go_simp; first
              | (go_at_call 100; refine (norm_any x.a 24 _ ha0 ha1).mono ?_; rintro e w1 ⟨rfl, hx1⟩; refine hK _ _ (RM.ext HD.out.map hx1) ?_; clear hK K))
            have H1 : Hid (BlkW w w1 mb wb x (inK (keysB A k) x 1)) := HD.out.later hx1
            obtain ⟨nv, hlk⟩ : ∃ nv : Int, Lk w1 mb (keyOf x 24) (.int .i64 nv) := by
              obtain ⟨es, cl, hm⟩ := H1.out.map
              obtain ⟨nv, h1⟩ := fv_int hm (keyOf x 24)
              exact ⟨nv, by rw [← h1]; exact look_k hm _⟩
            have hlk' : ∀ w', RM mb (keyOf x 24) w1 w' → (Instr.lookup 161 (.map (some mb)) (.agg #[.int .u32 (normV x.a 24), .int .i64 (holdV 24)]) false).run Tryz.prog w' = .ok (.int .i64 nv) w' := fun w' h => h.2 _ hlk
            obtain ⟨v0, st, w2, hent, hr2, hs2, hst⟩ := entry_k H1.out.map (keyOf x 24)
            simp only [keyV, keyOf] at hent
            obtain ⟨nu, hnu⟩ : ∃ nu : Int, IntKind.i64.wrap (nv + 1) = nu := ⟨_, rfl⟩
            obtain ⟨w3, hest, hm3, hx3, hs3⟩ := hst nu
            have H3 : Hid (BlkW w w3 mb wb x (addK (inK (keysB A k) x 1) (keyOf x 24))) := H1.out.step (hr2.1.trans hx3) hm3
            have HR2 : Hid (RM mb (keyOf x 24) w1 w2) := hr2
            clear hlk hst hr2 hs2 hs3 hm3 hx3 hx1 y1
            iterate 2 (refine wpE_read (v := ?_) rfl (by rfl) ?_ ?_; rotate_left; (focus (intro w' hx; go_simp; first | done | with_reducible rfl)); simp only [Act.put, List.setIfInBounds_toArray, List.set_cons_zero, List.set_cons_succ])
            refine wpE_call rfl (by rfl) (fun K hK => ?_)
            go_simp
            refine hK _ _ HR2.out ?_
            clear hK K
            iterate 1 (refine wpE_read (v := ?_) rfl (by rfl) ?_ ?_; rotate_left; (focus (intro w' hx; go_simp; first | done | with_reducible rfl)); simp only [Act.put, List.setIfInBounds_toArray, List.set_cons_zero, List.set_cons_succ])
            refine wpE_done ?_
            refine wpT_step rfl (by rfl) (fun K hK => ?_)
            go_simp
            refine hK _ _ ?_
            clear hK K
            refine wpT_done ?_
            clear hlk' hent hest hnu
            go_wp2_with fail
            go_roundg (2 - (1 + 1))
            case measure => omega
            case rel => exact ⟨1 + 1, by go_num, by omega, Nat.le_refl _, (by have h := H3.out; simp only [inK, stepK, if_pos hl] at h ⊢; exact h : BlkW w w3 mb wb x (inK (keysB A k) x (1 + 1)))⟩
          · go_wp2_with fail
            go_roundg (2 - (1 + 1))
            case measure => omega
            case rel => exact ⟨1 + 1, by go_num, by omega, Nat.le_refl _, (by have h := HQ.out; simp only [inK, stepK, if_neg (by omega : ¬ (24 : Int) < x.l)] at h ⊢; exact h : BlkW w wr mb wb x (inK (keysB A k) x (1 + 1)))⟩
        · have y2 : wr.cell? ⟨wb, 2, none⟩ = some (.int .i64 x.l) := by rw [heap_cell HQ.out.box]; rfl
          go_wp2_with fail
          go_roundg (n - (k + 1))
          case measure => omega
          case rel => exact ⟨k + 1, by go_num, by omega, Nat.le_refl _, (by rw [keysB_next HXK.out]; exact ⟨HQ.out.ext, HQ.out.map⟩ : Ext w wr ∧ MapI wr mb (keysB A (k + 1)))⟩
    · obtain rfl : k = n := by omega
      have hln : ∀ ty, (Builtin.len_ #[161] ty #[.map (some mb)]).run Tryz.prog wr = .ok (.int .i64 ((keysB A k).length : Int)) wr := fun ty => len_k HW.out.2 ty
      have hown : (keysB A k).length = ownA A := by rw [← HL.out]; exact keysB_own HV.out
      rw [hown] at hln
      clear hown
      go_wp2_with fail
      go_ret
      exact ⟨rfl, HW.out.1⟩
end Go.Proofs.YtmoimkeeldlpkaaGreat.Fb

namespace Go.Proofs.YtmoimkeeldlpkaaGreat.Fb

set_option maxRecDepth 100000

open Go.RowKit Go.Proofs.YtmoimkeeldlpkaaGreat Go.Proofs.YtmoimkeeldlpkaaGreat.Rb

open Go.Proofs.YtmoimkeeldlpkaaGreat.Tri (PX Vp)

set_option linter.unusedVariables false

set_option linter.unusedSimpArgs false

/-- The rows of the tables below k are there. -/
structure RowsK (w w' : World) (L : List Rt) (U : List Bool) (C : Array Value) (k : Nat) : Prop where
  size : C.size = 4
  rows : ∀ j, j < k → ∃ v, C[j]? = some v ∧ OwnR w' w.heap.size v (actL L (j : Int) U)
  one : ∀ v ∈ C.toList, v.oneCell' = true

/-- Is there a table that would own too many? -/
def fullB (L : List Rt) (U : List Bool) : Bool := (List.range 4).any fun j => decide (16 < ownA (actL L (j : Int) U))

theorem fullB_true {L : List Rt} {U : List Bool} {k : Nat} (hk : k < 4) (h : 16 < ownA (actL L (k : Int) U)) : fullB L U = true := by
  unfold fullB
  rw [List.any_eq_true]
  exact ⟨k, List.mem_range.2 hk, decide_eq_true h⟩

theorem fullB_false {L : List Rt} {U : List Bool} (h : ∀ k : Nat, k < 4 → ownA (actL L (k : Int) U) ≤ 16) : fullB L U = false := by
  unfold fullB
  rw [List.any_eq_false]
  intro k hk
  have := h k (List.mem_range.1 hk)
  simp only [decide_eq_true_eq]
  omega

theorem fullB_le {L : List Rt} {U : List Bool} (h : fullB L U = false) {k : Nat} (hk : k < 4) : ownA (actL L (k : Int) U) ≤ 16 := by
  rcases Nat.lt_or_ge 16 (ownA (actL L (k : Int) U)) with h1 | h1
  · rw [fullB_true hk h1] at h; cases h
  · exact h1

def z4 : Array Value := #[.slice none 0 0, .slice none 0 0, .slice none 0 0, .slice none 0 0]

def TryAns (w : World) (L : List Rt) (U : List Bool) (e : Ending) (w' : World) : Prop :=
  Ext w w' ∧ ((fullB L U = true ∧ e = .returned (.tuple #[.agg z4, .int .i64 6])) ∨ (fullB L U = false ∧ ∃ C, RowsK w w' L U C 4 ∧ e = .returned (.tuple #[.agg C, .int .i64 0])))

/-- Where try stands. -/
structure TryW (w wr : World) (L : List Rt) (U : List Bool) (ob nb : Nat) (C : Array Value) (k : Nat) : Prop where
  ext : Ext w wr
  next : wr.heap[nb]? = some (.cells C 132 (0, 0))
  out : wr.heap[ob]? = some (.cells z4 132 (0, 0))
  rows : RowsK w wr L U C k
  room : ∀ j, j < k → ownA (actL L (j : Int) U) ≤ 16
  new : w.heap.size ≤ nb
  ne : ob ≠ nb

theorem TryW.later {w wr w' : World} {L : List Rt} {U : List Bool} {ob nb : Nat} {C : Array Value} {k : Nat} (h : TryW w wr L U ob nb C k) (hx : Ext wr w') : TryW w w' L U ob nb C k :=
  ⟨h.ext.trans hx, hx.heap h.next, hx.heap h.out, ⟨h.rows.size, fun j hj => (h.rows.rows j hj).imp fun v hv => ⟨hv.1, hv.2.ext hx⟩, h.rows.one⟩, h.room, h.new, h.ne⟩

theorem TryW.put {w wr : World} {L : List Rt} {U : List Bool} {ob nb : Nat} {C : Array Value} {k n c : Nat} {p : Option Addr} (h : TryW w wr L U ob nb C k) (hk : k < 4) (ho : OwnR wr w.heap.size (.slice p n c) (actL L (k : Int) U)) :
    let W := wr.setCell ⟨nb, k, none⟩ (.slice p n c)
    Ext w W ∧ W.heap[nb]? = some (.cells (C.setIfInBounds k (.slice p n c)) 132 (0, 0)) ∧ W.heap[ob]? = some (.cells z4 132 (0, 0)) ∧ RowsK w W L U (C.setIfInBounds k (.slice p n c)) (k + 1) ∧ OwnR W w.heap.size (.slice p n c) (actL L (k : Int) U) := by
  intro W
  have hx : ExtS [nb] wr W := ExtS.setCell (ExtS.refl [nb] wr) (p := ⟨nb, k, none⟩) (.inl (by simp)) _
  have hnr : ∀ {v : Value} {M : List Rt}, OwnR wr w.heap.size v M → ∀ g ∈ blks v, g ∉ [nb] := fun {v M} ho g hg e => own_ne ho h.next (by decide) (by rw [List.mem_singleton.1 e] at hg; exact hg)
  refine ⟨ext_map h.ext h.new hx, ?_, hx.heap (by simpa using h.ne) h.out, ⟨?_, fun j hj => ?_, fun v hv => ?_⟩, ho.later hx (hnr ho)⟩
  · rw [heap_set h.next]
  · rw [Array.size_setIfInBounds]; exact h.rows.size
  · rcases Nat.lt_or_ge j k with h1 | h1
    · obtain ⟨v, h2, h3⟩ := h.rows.rows j h1
      refine ⟨v, ?_, h3.later hx (hnr h3)⟩
      rw [Array.getElem?_setIfInBounds, if_neg (by omega)]
      exact h2
    · obtain rfl : j = k := by omega
      refine ⟨_, ?_, ho.later hx (hnr ho)⟩
      rw [Array.getElem?_setIfInBounds, if_pos rfl, if_pos (by rw [h.rows.size]; exact hk)]
  · rw [Array.toList_setIfInBounds] at hv
    rcases List.mem_or_eq_of_mem_set hv with h1 | h1
    · exact h.rows.one v h1
    · rw [h1]; rfl

theorem extX_S {x : Nat} {A B : World} (h : ExtX x A B) : ExtS [x] A B := ⟨h.os, h.tape, h.output, h.size, fun k hk hn => h.block k hk (by simpa using hn)⟩

theorem arr4_size : (Tryz.prog.info? 132).map (·.size) = some 4 := by kernel_rfl

set_option maxHeartbeats 4000000 in
theorem try_any (rb : Nat) (L : List Rt) (F : List Nat) (q : Option Addr) (m d : Nat) (U : List Bool) (w : World) (h : RibAt 90 w rb L F) (hg : Rb.Good L) (hU : Ups w q m U) :
    Calls Tryz.prog 63 #[.pointer (some ⟨rb, 0, none⟩), .slice q m d] w (TryAns w L U) := by
  have HS : Hid (RibAt 90 w rb L F ∧ Rb.Good L ∧ Ups w q m U) := ⟨h, hg, hU⟩
  have HT0 : Hid (TryW w ((w.alloc (.cells z4 132)).alloc (.cells z4 132)) L U w.heap.size (w.heap.size + 1) z4 0) := by
    obtain ⟨h1, h2, h3⟩ := two_boxes w z4 z4 132
    exact ⟨h1, h3, h2, ⟨rfl, fun j hj => by omega, by simp [z4, Value.oneCell']⟩, fun j hj => by omega, by omega, by omega⟩
  clear h hg hU
  go_enter Tryz.func63, Tryz.ntmps63
  go_wp2_with fail
  obtain ⟨ob, hob⟩ : ∃ ob : Nat, ob = w.heap.size := ⟨_, rfl⟩
  obtain ⟨nb, hnb⟩ : ∃ nb : Nat, nb = w.heap.size + 1 := ⟨_, rfl⟩
  rw [← hnb, ← hob] at HT0
  have HOB : Hid (w.heap.size ≤ ob) := Nat.le_of_eq hob.symm
  simp only [← hnb]
  simp only [← hob]
  clear hob hnb
  simp only [z4] at HT0
  generalize ((w.alloc (.cells #[.slice none 0 0, .slice none 0 0, .slice none 0 0, .slice none 0 0] 132)).alloc (.cells #[.slice none 0 0, .slice none 0 0, .slice none 0 0, .slice none 0 0] 132)) = W0 at *
  go_loopg [8] 4 (fun kx s8 wr => ∃ (k : Nat) (C : Array Value), s8 = .int .i64 k ∧ k ≤ 4 ∧ 4 - k ≤ kx ∧ Hid (TryW w wr L U ob nb C k))
  case atStart => exact ⟨0, _, rfl, by omega, by omega, HT0⟩
  case round =>
    obtain ⟨k, C, rfl, hk4, hkx, HT⟩ := hrel
    clear HT0
    by_cases hlt : k < 4
    · have hki : (k : Int) < 4 := by omega
      have ca := active_any rb L F (k : Int) q m d U wr (HS.out.1.ext HT.out.ext) HS.out.2.1 (HS.out.2.2.ext HT.out.ext)
      have HUK0 : ∃ uk, C[k]? = some uk := ⟨_, Array.getElem?_eq_getElem (by rw [HT.out.rows.size]; exact hlt)⟩
      obtain ⟨uk, huk⟩ := HUK0
      have HUK : Hid (C[k]? = some uk) := huk
      have cb := fun (p : Option Addr) (n c : Nat) (W : World) (hO : OwnR W w.heap.size (.slice p n c) (actL L (k : Int) U)) => blocks_any p n c (actL L (k : Int) U) W (by obtain ⟨p', c', e, -, -, h⟩ := hO.slice; cases e; exact h) (by obtain ⟨p', c', e, -, -, h⟩ := hO.slice; cases e; have := (act_pf HS.out.2.1 (k : Int) U).len; omega) (act_pf HS.out.2.1 (k : Int) U).vp
      clear huk
      by_cases hroom : ownA (actL L (k : Int) U) ≤ 16
      · have hri : (ownA (actL L (k : Int) U) : Int) ≤ 16 := by omega
        have HRM : Hid (ownA (actL L (k : Int) U) ≤ 16) := hroom
        clear hroom
        go_wp2_with (first
          | (go_at_call 77; refine ca.mono ?_; rintro e w1 ⟨v1, rfl, HO1, hx1⟩; obtain ⟨p1, c1, rfl, -, -, -⟩ := HO1.slice; have H1 : Hid (TryW w w1 L U ob nb C k) := HT.out.later hx1; have HO2 : Hid (OwnR w1 w.heap.size (.slice p1 (actL L (k : Int) U).length c1) (actL L (k : Int) U)) := HO1.base HT.out.ext.size; have e0 : w1.cell? ⟨nb, k, none⟩ = some uk := (by rw [heap_cell H1.out.next]; exact HUK.out); have f0 : w1.frozen? ⟨nb, k, none⟩ = false := heap_frozen H1.out.next; have HP : Hid _ := H1.out.put hlt HO2.out; have s0 : (w1.setCell ⟨nb, k, none⟩ (.slice p1 (actL L (k : Int) U).length c1)).cell? ⟨nb, k, none⟩ = some (.slice p1 (actL L (k : Int) U).length c1) := (by rw [heap_cell HP.out.2.1, Array.getElem?_setIfInBounds, if_pos rfl, if_pos (by rw [H1.out.rows.size]; exact hlt)]); clear HO1 hx1)
          | (go_at_call 78; refine (cb p1 _ c1 _ HP.out.2.2.2.2).mono ?_; rintro e w2 ⟨rfl, hx2⟩))
        have HQ : TryW w w2 L U ob nb (C.setIfInBounds k (.slice p1 (actL L (k : Int) U).length c1)) (k + 1) :=
          TryW.later ⟨HP.out.1, HP.out.2.1, HP.out.2.2.1, HP.out.2.2.2.1, fun j hj => by
            rcases Nat.lt_or_ge j k with h1 | h1
            · exact HT.out.room j h1
            · obtain rfl : j = k := by omega
              exact HRM.out, HT.out.new, HT.out.ne⟩ hx2
        go_roundg (4 - (k + 1))
        case measure => omega
        case rel => exact ⟨k + 1, _, by go_num, by omega, Nat.le_refl _, HQ⟩
      · have hri : ¬ ((ownA (actL L (k : Int) U) : Int) ≤ 16) := by omega
        have HF : Hid (fullB L U = true) := fullB_true hlt (by omega)
        clear hroom
        go_wp2_with (first
          | (go_at_call 77; refine ca.mono ?_; rintro e w1 ⟨v1, rfl, HO1, hx1⟩; obtain ⟨p1, c1, rfl, -, -, -⟩ := HO1.slice; have H1 : Hid (TryW w w1 L U ob nb C k) := HT.out.later hx1; have HO2 : Hid (OwnR w1 w.heap.size (.slice p1 (actL L (k : Int) U).length c1) (actL L (k : Int) U)) := HO1.base HT.out.ext.size; have e0 : w1.cell? ⟨nb, k, none⟩ = some uk := (by rw [heap_cell H1.out.next]; exact HUK.out); have f0 : w1.frozen? ⟨nb, k, none⟩ = false := heap_frozen H1.out.next; have HP : Hid _ := H1.out.put hlt HO2.out; have s0 : (w1.setCell ⟨nb, k, none⟩ (.slice p1 (actL L (k : Int) U).length c1)).cell? ⟨nb, k, none⟩ = some (.slice p1 (actL L (k : Int) U).length c1) := (by rw [heap_cell HP.out.2.1, Array.getElem?_setIfInBounds, if_pos rfl, if_pos (by rw [H1.out.rows.size]; exact hlt)]); clear HO1 hx1)
          | (go_at_call 78; refine (cb p1 _ c1 _ HP.out.2.2.2.2).mono ?_; rintro e w2 ⟨rfl, hx2⟩)
          | (refine wpl_store (by rfl) 132 _ _ rfl rfl 4 ob z4 z4 _ rfl rfl (hx2.heap HP.out.2.2.1) arr4_size rfl rfl (by simp [z4, Value.oneCell']) ?_; intro w5 hx5 k5))
        refine bodyPost_ret (results_two Tryz.results63 _ rfl k5 Tryz.underlying132 rfl arr4_size) rfl ⟨?_, .inl ⟨HF.out, rfl⟩⟩
        exact ExtX.ext (HP.out.1.trans hx2) hx5 HOB.out
    · obtain rfl : k = 4 := by omega
      have hsz := HT.out.rows.size
      have HE : Hid (fullB L U = false) := fullB_false fun k hk => HT.out.room k hk
      go_wp2_with (first
        | (refine wpl_load (by rfl) 132 _ rfl nb C _ _ rfl HT.out.next Tryz.underlying132 rfl (by rw [HT.out.rows.size]; exact arr4_size) ?_)
        | (refine wpl_store (by rfl) 132 _ _ rfl rfl 4 ob C z4 _ rfl rfl HT.out.out arr4_size HT.out.rows.size rfl HT.out.rows.one ?_; intro w5 hx5 k5))
      refine bodyPost_ret (results_two Tryz.results63 _ rfl k5 Tryz.underlying132 rfl (by rw [hsz]; exact arr4_size)) rfl ⟨ExtX.ext HT.out.ext hx5 HOB.out, .inr ⟨HE.out, C, ⟨hsz, fun j hj => ?_, HT.out.rows.one⟩, rfl⟩⟩
      obtain ⟨v, h1, h2⟩ := HT.out.rows.rows j hj
      exact ⟨v, h1, h2.later (extX_S hx5) fun g hg e => own_ne h2 HT.out.out (by decide) (by rw [List.mem_singleton.1 e] at hg; exact hg)⟩
end Go.Proofs.YtmoimkeeldlpkaaGreat.Fb

namespace Go.Proofs.YtmoimkeeldlpkaaGreat.Fb

set_option maxRecDepth 100000

open Go.RowKit Go.Proofs.YtmoimkeeldlpkaaGreat Go.Proofs.YtmoimkeeldlpkaaGreat.Rb

set_option linter.unusedVariables false

set_option linter.unusedSimpArgs false

/-- A row of bools. -/
def OwnB (w : World) (B : Nat) (v : Value) (U : List Bool) : Prop := w.ownsRow B 4 1 v U.length (U.map Value.bool)

theorem info_bool : ∃ i, Tryz.prog.info? 4 = some i ∧ i.zero = some (.bool false) ∧ i.size = 1 ∧ i.bytes = 1 := ⟨_, rfl, by kernel_rfl, by kernel_rfl, by kernel_rfl⟩

theorem boolC_one {U : List Bool} {u : Value} (h : u ∈ U.map Value.bool) : u.oneCell' = true := by
  obtain ⟨b, -, rfl⟩ := List.mem_map.1 h
  rfl

theorem OwnB.slice {w : World} {B : Nat} {v : Value} {U : List Bool} (h : OwnB w B v U) : ∃ q c, v = .slice q U.length c ∧ U.length ≤ c ∧ Tri.Src w 1 q U.length c (U.map Value.bool) := by
  obtain ⟨a, c, rfl, h1, -, -⟩ := Tri.owns_slice h
  exact ⟨a, c, rfl, h1, Tri.src_own h fun u hu => boolC_one hu⟩

theorem OwnB.ups {w : World} {B : Nat} {q : Option Addr} {n c : Nat} {U : List Bool} (h : OwnB w B (.slice q n c) U) (hl : U.length ≤ 1000000) : Ups w q n U := by
  obtain ⟨q', c', e, h1, hs⟩ := h.slice
  cases e
  refine ⟨rfl, hl, ?_⟩
  rcases Tri.Src.cells hs with h0 | ⟨b, off, rfl, hc⟩
  · exact .inl h0
  · exact .inr ⟨b, off, rfl, fun j u hj => hc j _ (by simp [hj])⟩

theorem OwnB.ext {w w' : World} {B : Nat} {v : Value} {U : List Bool} (h : OwnB w B v U) (hx : Ext w w') : OwnB w' B v U := Tri.owns_later h hx

theorem OwnB.later {w w' : World} {B : Nat} {v : Value} {U : List Bool} {F : List Nat} (h : OwnB w B v U) (hx : ExtS F w w') (hf : ∀ g ∈ blks v, g ∉ F) : OwnB w' B v U :=
  Tri.owns_laterS h hx fun g hg => hf g (mem_blks.2 hg)

theorem OwnB.base {w : World} {B B' : Nat} {v : Value} {U : List Bool} (h : OwnB w B v U) (hb : B' ≤ B) : OwnB w B' v U := Tri.owns_base h hb

theorem OwnB.lt {w : World} {B : Nat} {v : Value} {U : List Bool} (h : OwnB w B v U) : ∀ g ∈ blks v, B ≤ g ∧ g < w.heap.size := fun g hg => by
  obtain ⟨h1, h2, _⟩ := Tri.owns_block h (mem_blks.1 hg)
  exact ⟨h1, h2⟩

def RowB (w : World) (U : List Bool) (e : Ending) (w' : World) : Prop := ∃ v', e = .returned v' ∧ OwnB w' w.heap.size v' U ∧ Ext w w'

theorem OwnB.nil (w : World) (B : Nat) : OwnB w B (.slice none 0 0) [] := World.ownsRow_nil _ _ _ _

theorem cloneB_any (v : Value) (U : List Bool) (w : World) (hO : OwnB w 0 v U) (hl : U.length ≤ 100000) :
    Calls Tryz.prog 50 #[v] w (RowB w U) := by
  obtain ⟨p, c, rfl, h1, hR⟩ := hO.slice
  cases p with
  | none =>
    have hL : U = [] := by
      rcases Tri.Src.cells hR with h0 | ⟨b, off, h0, _⟩
      · exact List.length_eq_zero_iff.1 h0
      · cases h0
    have hc : c = 0 := Tri.Src.nil hR rfl
    subst hL hc
    have en : ∀ w, (binOp .eql 51 (.slice none 0 0) (.slice none 0 0)).run Tryz.prog w = .ok (.bool true) w := fun w => Lib.run_eql_slice_nil w 51 4 none 0 0 0 0 Tryz.underlying51
    go_enter Tryz.func50, Tryz.ntmps50
    go_wp2_with fail
    go_ret
    exact ⟨_, rfl, OwnB.nil w _, Ext.refl w⟩
  | some ad =>
    have hA : Ext w (w.alloc (.cells #[] 4)) := (Ext.refl w).alloc _
    have HB : Hid _ := heap_new w (.cells #[] 4)
    have HR : Hid (Tri.Src _ 1 (some ad) U.length c (U.map Value.bool)) := hR.ext (by omega) hA
    have HL : Hid _ := hl
    have en : ∀ w, (binOp .eql 51 (.slice (some ad) U.length c) (.slice none 0 0)).run Tryz.prog w = .ok (.bool false) w := fun w => Lib.run_eql_slice_nil w 51 4 (some ad) U.length c 0 0 Tryz.underlying51
    clear hO hR hl
    obtain ⟨i, hi, hz, hsz, hby⟩ := info_bool
    go_enter Tryz.func50, Tryz.ntmps50
    go_wp2_with (at_builtin; refine wpList_want rfl (fun K hK => Tri.wp_app_lit (.tmp 5) (.tmp 6) _ _ i _ 1 1 rfl Tryz.underlying51 hi hz hsz hby rfl (by omega) (by omega) w.heap.size rfl HB.out w.heap.size (Nat.le_refl _) (some ad) U.length c (U.map Value.bool) rfl HR.out (by have := HL.out; omega) ?_); intro v' w' ho' hne' hx'; refine hK _ _ ?_; clear hK K)
    go_ret
    exact ⟨_, rfl, ho', hA.trans hx'⟩

/-! Two rows of ways. -/

def eqRs (A B : List Rt) : Bool := decide (A.length = B.length) && (A.zip B).all fun p => eqB p.1 p.2

theorem eqRs_len {A B : List Rt} (h : A.length ≠ B.length) : eqRs A B = false := by simp [eqRs, h]

theorem eqRs_at {A B : List Rt} {k : Nat} {x y : Rt} (hx : A[k]? = some x) (hy : B[k]? = some y) (h : eqB x y = false) : eqRs A B = false := by
  unfold eqRs
  have : ((A.zip B).all fun p => eqB p.1 p.2) = false := by
    rw [List.all_eq_false]
    refine ⟨(x, y), List.mem_of_getElem? (i := k) ?_, by simp [h]⟩
    rw [List.getElem?_zip_eq_some]
    exact ⟨hx, hy⟩
  rw [this, Bool.and_false]

theorem eqRs_refl (A : List Rt) : eqRs A A = true := by
  unfold eqRs
  simp only [decide_true, Bool.true_and, List.all_eq_true]
  intro p hp
  have : p.1 = p.2 := by
    obtain ⟨k, hk, rfl⟩ := List.getElem_of_mem hp
    simp
  rw [this, eqB_refl]

theorem eq_rows {A B : List Rt} (hl : A.length = B.length) (h : ∀ (j : Nat) (x y : Rt), j < A.length → A[j]? = some x → B[j]? = some y → x = y) : A = B := by
  apply List.ext_getElem hl
  intro i h1 h2
  exact h i _ _ h1 (List.getElem?_eq_getElem h1) (List.getElem?_eq_getElem h2)

set_option maxHeartbeats 1000000 in
theorem equal_rts (p p' : Option Addr) (n n' c c' : Nat) (A B : List Rt) (w : World) (hR : Rd w p n c A) (hR' : Rd w p' n' c' B) (hn : n ≤ 1000000) (hn' : n' ≤ 1000000) :
    Calls Tryz.prog 79 #[.slice p n c, .slice p' n' c'] w fun e w' => e = .returned (.bool (eqRs A B)) ∧ (eqRs A B = true → A = B) ∧ Ext w w' := by
  have hl := hR.len
  have hl' := hR'.len
  by_cases hnn : n = n'
  rotate_left
  · have he : eqRs A B = false := eqRs_len (by omega)
    rw [he]
    have hni : ¬ ((n : Int) = (n' : Int)) := by omega
    clear hR hR' hl hl' he
    go_enter Tryz.func79, Tryz.ntmps79
    go_wp2_with fail
    go_ret
    exact ⟨rfl, by simp, Ext.refl w⟩
  subst hnn
  have HR : Hid (Rd w p n c A ∧ Rd w p' n c' B) := ⟨hR, hR'⟩
  have HL : Hid (A.length = n ∧ B.length = n) := ⟨hl, hl'⟩
  have eg := rt_guard
  have nr := fun x y w => neq_rt x y w
  clear hR hR' hl hl' hn'
  go_enter Tryz.func79, Tryz.ntmps79
  go_wp2_with fail
  go_loopg [13] n (fun kx s13 wr => ∃ k : Nat, k ≤ n ∧ n - k ≤ kx ∧ s13 = .int .i64 k ∧ Ext w wr ∧ Hid (∀ (j : Nat) (x y : Rt), j < k → A[j]? = some x → B[j]? = some y → x = y))
  case atStart => exact ⟨0, Nat.zero_le _, Nat.le_refl _, rfl, Ext.refl _, (fun j x y hj => by omega : ∀ (j : Nat) (x y : Rt), j < 0 → A[j]? = some x → B[j]? = some y → x = y)⟩
  case round =>
    obtain ⟨k, hk, hkx, rfl, hx, HK⟩ := hrel
    by_cases hlt : k < n
    · obtain ⟨x, hxk⟩ : ∃ x, A[k]? = some x := ⟨_, List.getElem?_eq_getElem (by rw [HL.out.1]; exact hlt)⟩
      obtain ⟨y, hyk⟩ : ∃ y, B[k]? = some y := ⟨_, List.getElem?_eq_getElem (by rw [HL.out.2]; exact hlt)⟩
      obtain ⟨b, off, hp, hb, g0, g1, g2, g3, g4, g5⟩ := (HR.out.1.ext hx).cell hxk
      obtain ⟨b', off', hp', hb', f0, f1, f2, f3, f4, f5⟩ := (HR.out.2.ext hx).cell hyk
      subst hp hp'
      have hki : (k : Int) < (n : Int) := by omega
      have nx := fun w => nr x y w
      have HX : Hid (A[k]? = some x ∧ B[k]? = some y) := ⟨hxk, hyk⟩
      clear nr hxk hyk
      have hd : Ext wr wr.drew := (Ext.refl wr).drew
      have ha : ∀ j u, wr.cell? ⟨b, j, none⟩ = some u → ∀ w', Ext wr.drew w' → w'.cell? ⟨b, j, none⟩ = some u := fun j u h w' h' => by rw [(hd.trans h').below.cell (p := ⟨b, j, none⟩) hb]; exact h
      have hc : ∀ j u, wr.cell? ⟨b', j, none⟩ = some u → ∀ w', Ext wr.drew w' → w'.cell? ⟨b', j, none⟩ = some u := fun j u h w' h' => by rw [(hd.trans h').below.cell (p := ⟨b', j, none⟩) hb']; exact h
      have x0 := ha _ _ g0
      have x1 := ha _ _ g1
      have x2 := ha _ _ g2
      have x3 := ha _ _ g3
      have x4 := ha _ _ g4
      have x5 := ha _ _ g5
      have y0 := hc _ _ f0
      have y1 := hc _ _ f1
      have y2 := hc _ _ f2
      have y3 := hc _ _ f3
      have y4 := hc _ _ f4
      have y5 := hc _ _ f5
      clear ha hc g0 g1 g2 g3 g4 g5 f0 f1 f2 f3 f4 f5
      cases hq : eqB x y with
      | true =>
        rw [hq] at nx
        have hxy := (eqB_iff x y).1 hq
        have HY : Hid (x = y) := hxy
        clear hxy hq
        go_wp2_with fail
        refine wp_region_eager [(0, false), (1, false), (2, false), (3, false), (4, false), (5, false), (6, false), (7, false), (8, false)] (by kernel_rfl) (by kernel_rfl) rfl (by kernel_rfl) (fun _ _ _ _ _ h => h) ?_
        have hxd := hx.drew
        generalize wr.drew = W at *
        iterate 9 (refine wpE_read (v := ?_) rfl (by rfl) ?_ ?_; rotate_left; (focus (intro w' hx; go_simp; first | done | with_reducible rfl)); simp only [Act.put, List.setIfInBounds_toArray, List.set_cons_zero, List.set_cons_succ])
        refine wpE_done ?_
        go_wp2_with fail
        go_roundg (n - (k + 1))
        case measure => omega
        case rel => exact ⟨k + 1, by omega, Nat.le_refl _, by go_num, hxd, (fun j x' y' hj h1 h2 => by
          rcases Nat.lt_or_ge j k with h3 | h3
          · exact HK.out j x' y' h3 h1 h2
          · obtain rfl : j = k := by omega
            rw [HX.out.1] at h1; rw [HX.out.2] at h2
            cases h1; cases h2; exact HY.out : ∀ (j : Nat) (x y : Rt), j < k + 1 → A[j]? = some x → B[j]? = some y → x = y)⟩
      | false =>
        rw [hq] at nx
        have HE : Hid (eqRs A B = false) := eqRs_at HX.out.1 HX.out.2 hq
        clear hq
        go_wp2_with fail
        refine wp_region_eager [(0, false), (1, false), (2, false), (3, false), (4, false), (5, false), (6, false), (7, false), (8, false)] (by kernel_rfl) (by kernel_rfl) rfl (by kernel_rfl) (fun _ _ _ _ _ h => h) ?_
        have hxd := hx.drew
        generalize wr.drew = W at *
        iterate 9 (refine wpE_read (v := ?_) rfl (by rfl) ?_ ?_; rotate_left; (focus (intro w' hx; go_simp; first | done | with_reducible rfl)); simp only [Act.put, List.setIfInBounds_toArray, List.set_cons_zero, List.set_cons_succ])
        refine wpE_done ?_
        go_wp2_with fail
        go_ret
        rw [HE.out]
        exact ⟨rfl, by simp, hxd⟩
    · obtain rfl : k = n := by omega
      have HE : Hid (A = B) := eq_rows (HL.out.1.trans HL.out.2.symm) (by rw [HL.out.1]; exact HK.out)
      go_wp2_with fail
      go_ret
      have he := HE.out
      subst he
      rw [eqRs_refl]
      exact ⟨rfl, fun _ => rfl, hx⟩
end Go.Proofs.YtmoimkeeldlpkaaGreat.Fb
