/- Rows of ways in memory: read, cut, appended to, copied. -/
import Derived.Test.YtbchfmadmcppkaaRibP
import Derived.Test.YtbchfmadmcppkaaSrc
import Derived.Test.YtbchfmadmcppkaaBoxRt
import Derived.Maps.AppendAt
import Derived.Laws.CopyRow
import Derived.Deep.AppendSrc
import Derived.Lib.AppendZerosOnto
namespace Go.Proofs.Ytbchfmadmcppkaa.Rb
set_option maxRecDepth 100000
open Go.RowKit Go.Proofs.Ytbchfmadmcppkaa
set_option linter.unusedVariables false
set_option linter.unusedSimpArgs false

def rtC (r : Rt) : List Value := [.int .i64 r.t, .int .u32 r.a, .int .i64 r.l, .int .i64 r.i, .int .u32 r.g, .int .i64 r.m]

def rtCs (L : List Rt) : List Value := L.flatMap rtC

theorem rtCs_cons (x : Rt) (L : List Rt) : rtCs (x :: L) = rtC x ++ rtCs L := by simp [rtCs]

theorem rtCs_append (L M : List Rt) : rtCs (L ++ M) = rtCs L ++ rtCs M := by simp [rtCs, List.flatMap_append]

theorem rtCs_one (x : Rt) : rtCs [x] = rtC x := by simp [rtCs]

theorem rtC_length (x : Rt) : (rtC x).length = 6 := rfl

theorem rtCs_length (L : List Rt) : (rtCs L).length = L.length * 6 := by
  induction L with
  | nil => rfl
  | cons p L ih => rw [rtCs_cons, List.length_append, ih, rtC_length, List.length_cons]; omega

theorem rtCs_take : ∀ (L : List Rt) (k : Nat), (rtCs L).take (k * 6) = rtCs (L.take k)
  | [], k => by simp [rtCs]
  | x :: L, 0 => by simp [rtCs]
  | x :: L, k + 1 => by
    rw [rtCs_cons, List.take_succ_cons, rtCs_cons, List.take_append, rtC_length, List.take_of_length_le (by rw [rtC_length]; omega), show (k + 1) * 6 - 6 = k * 6 by omega, rtCs_take L k]

theorem rtCs_drop : ∀ (L : List Rt) (k : Nat), (rtCs L).drop (k * 6) = rtCs (L.drop k)
  | [], k => by simp [rtCs]
  | x :: L, 0 => by simp [rtCs]
  | x :: L, k + 1 => by
    rw [rtCs_cons, List.drop_succ_cons, List.drop_append, rtC_length, List.drop_eq_nil_of_le (by rw [rtC_length]; omega), show (k + 1) * 6 - 6 = k * 6 by omega, rtCs_drop L k, List.nil_append]

theorem rtCs_get {L : List Rt} {i : Nat} {x : Rt} (h : L[i]? = some x) (c : Nat) (hc : c < 6) : (rtCs L)[i * 6 + c]? = (rtC x)[c]? := by
  have hi := (List.getElem?_eq_some_iff.1 h).1
  rw [← List.getElem?_drop, rtCs_drop, List.drop_eq_getElem_cons hi, (List.getElem?_eq_some_iff.1 h).2, rtCs_cons, List.getElem?_append_left (by rw [rtC_length]; exact hc)]

theorem rtC_cell {x : Rt} {u : Value} (h : u ∈ rtC x) : u.oneCell' = true := by
  simp only [rtC, List.mem_cons, List.not_mem_nil, or_false] at h
  rcases h with rfl | rfl | rfl | rfl | rfl | rfl <;> rfl

theorem rtCs_cell {L : List Rt} {u : Value} (h : u ∈ rtCs L) : u.oneCell' = true := by
  simp only [rtCs, List.mem_flatMap] at h
  obtain ⟨p, _, h⟩ := h
  exact rtC_cell h

/-- The slice (p, n, c) reads as the ways L. -/
def Rd (w : World) (p : Option Addr) (n c : Nat) (L : List Rt) : Prop := Tri.Src w 6 p n c (rtCs L)

theorem Rd.len {w : World} {p : Option Addr} {n c : Nat} {L : List Rt} (h : Rd w p n c L) : L.length = n := by
  have := Tri.Src.len h
  rw [rtCs_length] at this
  omega

theorem Rd.ext {w w' : World} {p : Option Addr} {n c : Nat} {L : List Rt} (h : Rd w p n c L) (hx : Ext w w') : Rd w' p n c L := Tri.Src.ext h (by omega) hx

theorem Rd.cell {w : World} {p : Option Addr} {n c : Nat} {L : List Rt} (h : Rd w p n c L) {i : Nat} {x : Rt} (hi : L[i]? = some x) :
    ∃ b off, p = some ⟨b, off, none⟩ ∧ b < w.heap.size ∧ w.cell? ⟨b, off + i * 6, none⟩ = some (.int .i64 x.t) ∧ w.cell? ⟨b, off + i * 6 + 1, none⟩ = some (.int .u32 x.a) ∧ w.cell? ⟨b, off + i * 6 + 2, none⟩ = some (.int .i64 x.l) ∧
      w.cell? ⟨b, off + i * 6 + 3, none⟩ = some (.int .i64 x.i) ∧ w.cell? ⟨b, off + i * 6 + 4, none⟩ = some (.int .u32 x.g) ∧ w.cell? ⟨b, off + i * 6 + 5, none⟩ = some (.int .i64 x.m) := by
  have hil := (List.getElem?_eq_some_iff.1 hi).1
  have hn := h.len
  rcases Tri.Src.cells h with h0 | ⟨b, off, rfl, hc⟩
  · omega
  · have g0 := hc (i * 6 + 0) _ (rtCs_get hi 0 (by omega))
    have g1 := hc (i * 6 + 1) _ (rtCs_get hi 1 (by omega))
    have g2 := hc (i * 6 + 2) _ (rtCs_get hi 2 (by omega))
    have g3 := hc (i * 6 + 3) _ (rtCs_get hi 3 (by omega))
    have g4 := hc (i * 6 + 4) _ (rtCs_get hi 4 (by omega))
    have g5 := hc (i * 6 + 5) _ (rtCs_get hi 5 (by omega))
    simp only [← Nat.add_assoc, Nat.add_zero] at g0 g1 g2 g3 g4 g5
    exact ⟨b, off, rfl, block_lt g0, g0, g1, g2, g3, g4, g5⟩

theorem addr_add' (g o x : Nat) : (⟨g, o, none⟩ : Addr).add x = ⟨g, o + x, none⟩ := by unfold Addr.add; split <;> simp_all

/-- Part of what is read: s[lo:hi]. -/
theorem Rd.cut {w : World} {p : Option Addr} {n c : Nat} {L : List Rt} (h : Rd w p n c L) {lo hi : Nat} (h1 : lo ≤ hi) (h2 : hi ≤ n) (h3 : n ≤ c) :
    Rd w (if c = lo then p else p.map (·.add (lo * 6))) (hi - lo) (c - lo) ((L.drop lo).take (hi - lo)) := by
  have hn := h.len
  refine ⟨?_, ?_, fun u hu => rtCs_cell hu, ?_⟩
  · rw [rtCs_length, List.length_take, List.length_drop]
    congr 1
    omega
  · split
    · rename_i e; intro _; omega
    · intro e
      have := Tri.Src.nil h (by simpa using e)
      omega
  · rcases Tri.Src.cells h with h0 | ⟨b, off, rfl, hc⟩
    · exact .inl (by omega)
    · by_cases e : c = lo
      · exact .inl (by omega)
      · refine .inr ⟨b, off + lo * 6, ?_, fun j u hj => ?_⟩
        · rw [if_neg e, Option.map_some, addr_add']
        · rw [← rtCs_take, ← rtCs_drop, List.getElem?_take] at hj
          split at hj
          · rw [List.getElem?_drop] at hj
            have := hc _ _ hj
            rwa [← Nat.add_assoc] at this
          · cases hj

theorem cut_lh (p : Option Addr) (n c lo hi : Nat) (h1 : lo ≤ hi) (h2 : hi ≤ n) (h3 : n ≤ c) (w : World) :
    (Instr.slice 33 (.slice p n c) (some (.int .i64 lo)) (some (.int .i64 hi)) none).run Try.prog w = .ok (.slice (if c = lo then p else p.map (·.add (lo * 6))) (hi - lo) (c - lo)) w := by
  have hk : (hi : Int) ≤ (c : Int) := by omega
  have hl : (lo : Int) ≤ (hi : Int) := by omega
  go_simp

theorem cut_l (p : Option Addr) (n c lo : Nat) (h1 : lo ≤ n) (h3 : n ≤ c) (w : World) :
    (Instr.slice 33 (.slice p n c) (some (.int .i64 lo)) none none).run Try.prog w = .ok (.slice (if c = lo then p else p.map (·.add (lo * 6))) (n - lo) (c - lo)) w := by
  have hk : (lo : Int) ≤ (n : Int) := by omega
  go_simp

theorem cut_h (p : Option Addr) (n c hi : Nat) (h1 : hi ≤ c) (w : World) :
    (Instr.slice 33 (.slice p n c) none (some (.int .i64 hi)) none).run Try.prog w = .ok (.slice p hi c) w := by
  have hk : (hi : Int) ≤ (c : Int) := by omega
  go_simp

/-- A row of ways of the call's own. -/
def OwnR (w : World) (B : Nat) (v : Value) (L : List Rt) : Prop := w.ownsRow B 27 6 v L.length (rtCs L)

def blks (v : Value) : List Nat := match v.ownBlock with
  | some g => [g]
  | none => []

theorem mem_blks {v : Value} {g : Nat} : g ∈ blks v ↔ v.ownBlock = some g := by
  unfold blks
  split
  · rename_i h; rw [h]; simp [eq_comm]
  · rename_i h; rw [h]; simp

theorem OwnR.nil (w : World) (B : Nat) : OwnR w B (.slice none 0 0) [] := World.ownsRow_nil _ _ _ _

theorem OwnR.slice {w : World} {B : Nat} {v : Value} {L : List Rt} (h : OwnR w B v L) : ∃ p c, v = .slice p L.length c ∧ L.length ≤ c ∧ c ≤ maxLen ∧ Rd w p L.length c L := by
  obtain ⟨p, c, rfl, h1, h2, h3⟩ := Tri.owns_slice h
  exact ⟨p, c, rfl, h1, h2, Tri.src_own h fun u hu => rtCs_cell hu⟩

theorem OwnR.ext {w w' : World} {B : Nat} {v : Value} {L : List Rt} (h : OwnR w B v L) (hx : Ext w w') : OwnR w' B v L := Tri.owns_later h hx

theorem OwnR.later {w w' : World} {B : Nat} {v : Value} {L : List Rt} {F : List Nat} (h : OwnR w B v L) (hx : ExtS F w w') (hf : ∀ g ∈ blks v, g ∉ F) : OwnR w' B v L :=
  Tri.owns_laterS h hx fun g hg => hf g (mem_blks.2 hg)

theorem OwnR.lt {w : World} {B : Nat} {v : Value} {L : List Rt} (h : OwnR w B v L) : ∀ g ∈ blks v, B ≤ g ∧ g < w.heap.size := fun g hg => by
  have := Tri.owns_block h (mem_blks.1 hg)
  exact ⟨this.1, this.2.1⟩

theorem OwnR.base {w : World} {B B' : Nat} {v : Value} {L : List Rt} (h : OwnR w B v L) (hb : B' ≤ B) : OwnR w B' v L := Tri.owns_base h hb

theorem info_rt : ∃ i, Try.prog.info? 27 = some i ∧ i.zero = some (.agg #[.int .i64 0, .int .u32 0, .int .i64 0, .int .i64 0, .int .u32 0, .int .i64 0]) ∧ i.size = 6 ∧ i.bytes = 48 := ⟨_, rfl, by kernel_rfl, by kernel_rfl, by kernel_rfl⟩

/-- The row's block. -/
theorem OwnR.block {w : World} {B : Nat} {v : Value} {L : List Rt} (h : OwnR w B v L) (h0 : 0 < L.length) :
    ∃ g c cur, v = .slice (some ⟨g, 0, none⟩) L.length c ∧ B ≤ g ∧ w.heap[g]? = some (.cells cur 27 (0, 0)) ∧ L.length ≤ c ∧ c ≤ maxLen ∧ cur.size = c * 6 ∧ cur.toList.take (L.length * 6) = rtCs L := by
  obtain ⟨hl, h⟩ := h
  rcases h with ⟨_, h⟩ | ⟨g, cap, cur, rfl, hb, hg, h1, h2, h3, h4⟩
  · omega
  · exact ⟨g, cap, cur, rfl, hb, hg, h1, h2, h3, h4⟩

/-- A block that holds the row. -/
theorem ownR_of {w : World} {B g c : Nat} {cur : Array Value} {L : List Rt} (hB : B ≤ g) (hg : w.heap[g]? = some (.cells cur 27 (0, 0))) (h1 : L.length ≤ c) (h2 : c ≤ maxLen) (h3 : cur.size = c * 6) (h4 : cur.toList.take (L.length * 6) = rtCs L) :
    OwnR w B (.slice (some ⟨g, 0, none⟩) L.length c) L := ⟨by rw [rtCs_length], .inr ⟨g, c, cur, rfl, hB, hg, h1, h2, h3, h4⟩⟩

section
variable {w : World} {o : Oper} {a : Act} {K : Act → World → Prop} {Q : Exit → Act → World → Prop}

/-- append(row, part...), as an operation. -/
theorem wp_app_rt (s x : Operand) (ho : o.op = .call { callee := .builtin .append, args := #[s, x], argTypes := #[33, 33] })
    (B : Nat) (v : Value) (L M : List Rt) (hs : a.eval s = v) (hown : OwnR w B v L) (p : Option Addr) (m c : Nat) (hx : a.eval x = .slice p m c) (hsrc : Rd w p m c M)
    (hsm : L.length + m ≤ 10000000) (hbase : B ≤ w.heap.size)
    (h : ∀ v' w', OwnR w' B v' (L ++ M) → w.grownBy w' v.ownBlock → (v'.ownBlock = v.ownBlock ∨ v'.ownBlock = some w.heap.size) → K (a.put o.dst v') w') : o.wp Try.prog a w K Q := by
  obtain ⟨i, hi, hz, hsz, hby⟩ := info_rt
  have hM := hsrc.len
  have res : ∀ v' w', w'.ownsRow B 27 6 v' (L.length + m) (rtCs L ++ rtCs M) → OwnR w' B v' (L ++ M) := fun v' w' h' => by
    unfold OwnR
    rw [List.length_append, rtCs_append, hM]; exact h'
  cases p with
  | none =>
    obtain rfl : c = 0 := Tri.Src.nil hsrc rfl
    have hm : m = 0 := by
      rcases Tri.Src.cells hsrc with h0 | ⟨b, off, h0, _⟩
      · exact h0
      · cases h0
    subst hm
    obtain rfl : M = [] := List.length_eq_zero_iff.1 hM
    have hrun := run_append_owned_none (P := Try.prog) (w := w) B 33 o.type 27 i 6 Try.underlying33 hi v L.length _ hown
    unfold Oper.wp
    simp [execOp, ho, resolve, invoke, builtin, hs, hx, hrun, Result.andThen]
    exact h v w (by simpa using hown) ⟨rfl, rfl, rfl, Nat.le_refl _, fun _ _ _ => rfl⟩ (.inl rfl)
  | some ad =>
    obtain ⟨v', w', hr, h2, h3, h4, h5⟩ := run_append_own_at (P := Try.prog) w B 33 o.type 27 i _ 6 48 Try.underlying33 hi hz hsz hby rfl (by omega) v L.length _ hown ad m c (rtCs M) (by rw [rtCs_length, hM])
      (fun j u hj => by
        rcases Tri.Src.cells hsrc with h0 | ⟨b, off, h0, hcell⟩
        · obtain rfl : M = [] := List.length_eq_zero_iff.1 (by omega)
          simp [rtCs] at hj
        · cases h0
          rw [addr_add']; exact hcell j u hj)
      (fun u hu => rtCs_cell hu) (by unfold maxLen; omega) (by omega) hbase
    unfold Oper.wp execOp
    simp only [ho, resolve, invoke, builtin, Sem.run_bind, Sem.run_pure, Result.andThen_ok, List.map_toArray, List.map_cons, List.map_nil, hs, hx, hr]
    exact h v' w' (res _ _ h2) h3 h5

/-- append([]api.Route{}, part...): new memory, or the literal itself. -/
theorem wp_lit_rt (s x : Operand) (ho : o.op = .call { callee := .builtin .append, args := #[s, x], argTypes := #[33, 33] })
    (g : Nat) (hs : a.eval s = .slice (some ⟨g, 0, none⟩) 0 0) (hg : w.heap[g]? = some (.cells #[] 27 (0, 0))) (B : Nat) (hB : B ≤ g)
    (p : Option Addr) (m c : Nat) (M : List Rt) (hx : a.eval x = .slice p m c) (hsrc : Rd w p m c M) (hsm : m ≤ 10000000)
    (h : ∀ v' w', OwnR w' B v' M → Ext w w' → K (a.put o.dst v') w') : o.wp Try.prog a w K Q := by
  obtain ⟨i, hi, hz, hsz, hby⟩ := info_rt
  have hM := hsrc.len
  have hlt := heap_lt hg
  have res : ∀ v' w', w'.ownsRow B 27 6 v' m (rtCs M) → OwnR w' B v' M := fun v' w' h' => by
    unfold OwnR
    rw [hM]; exact h'
  by_cases hm : m = 0
  · subst hm
    obtain rfl : M = [] := List.length_eq_zero_iff.1 hM
    have hr := run_append_nothing (P := Try.prog) w 33 33 o.type 27 i Try.underlying33 hi (some ⟨g, 0, none⟩) 0 0 (Nat.le_refl _) (.slice p 0 c) (by
      cases p with
      | none => exact Go.Src.ofNil w Try.underlying33 c
      | some a => exact Go.Src.ofSlice w Try.underlying33 a 0 c [] (by simp) (by simp) (by simp))
    unfold Oper.wp execOp
    simp only [ho, resolve, invoke, builtin, Sem.run_bind, Sem.run_pure, Result.andThen_ok, List.map_toArray, List.map_cons, List.map_nil, hs, hx, hr]
    exact h _ w (res _ _ (Tri.own_lit0 hg hB)) (Ext.refl w)
  · obtain ⟨b, off, rfl, hcell⟩ : ∃ b off, p = some ⟨b, off, none⟩ ∧ ∀ (j : Nat) (u : Value), (rtCs M)[j]? = some u → w.cell? ⟨b, off + j, none⟩ = some u := by
      rcases Tri.Src.cells hsrc with h0 | ⟨b, off, h0, h1⟩
      · exact absurd h0 hm
      · exact ⟨b, off, h0, h1⟩
    obtain ⟨v', w', hr, ho', hgr⟩ := run_append_arg_grows (P := Try.prog) w 33 o.type 27 i _ 6 48 Try.underlying33 hi hz hsz hby rfl (by omega) ⟨g, 0, none⟩ 0 0 [] (by simp) (by simp) ⟨b, off, none⟩ m c (rtCs M) (by rw [rtCs_length, hM]) (fun j u hj => by
      rw [addr_add']; exact hcell j u hj) (by omega) (by unfold maxLen; omega) (by omega)
    unfold Oper.wp execOp
    simp only [ho, resolve, invoke, builtin, Sem.run_bind, Sem.run_pure, Result.andThen_ok, List.map_toArray, List.map_cons, List.map_nil, hs, hx, hr]
    rw [Nat.zero_add, List.nil_append] at ho'
    exact h v' w' (res _ _ (Tri.owns_base ho' (by omega))) (Below.grown (Ext.refl w) hgr (Nat.le_refl _) (fun k hk => by cases hk))

/-- An operation of a builtin whose run is known. -/
theorem wp_copy_is (d x : Operand) (ho : o.op = .call { callee := .builtin .copy, args := #[d, x], argTypes := #[33, 33] }) (v u : Value) (hd : a.eval d = v) (hx : a.eval x = u) {v' : Value} {w' : World}
    (hr : (Builtin.copy_ #[33, 33] o.type #[v, u]).run Try.prog w = .ok v' w') (h : K (a.put o.dst v') w') : o.wp Try.prog a w K Q := by
  unfold Oper.wp execOp
  simp only [ho, resolve, invoke, builtin, Sem.run_bind, Sem.run_pure, Result.andThen_ok, List.map_toArray, List.map_cons, List.map_nil, hd, hx, hr]
  exact h

theorem wp_app_is (d x : Operand) (t : TypeId) (ho : o.op = .call { callee := .builtin .append, args := #[d, x], argTypes := #[33, t] }) (v u : Value) (hd : a.eval d = v) (hx : a.eval x = u) {v' : Value} {w' : World}
    (hr : (Builtin.append_ #[33, t] o.type #[v, u]).run Try.prog w = .ok v' w') (h : K (a.put o.dst v') w') : o.wp Try.prog a w K Q := by
  unfold Oper.wp execOp
  simp only [ho, resolve, invoke, builtin, Sem.run_bind, Sem.run_pure, Result.andThen_ok, List.map_toArray, List.map_cons, List.map_nil, hd, hx, hr]
  exact h

theorem wp_clear_is (d : Operand) (ho : o.op = .call { callee := .builtin .clear, args := #[d], argTypes := #[33] }) (v : Value) (hd : a.eval d = v) {v' : Value} {w' : World}
    (hr : (Builtin.clear_ #[33] o.type #[v]).run Try.prog w = .ok v' w') (h : K (a.put o.dst v') w') : o.wp Try.prog a w K Q := by
  unfold Oper.wp execOp
  simp only [ho, resolve, invoke, builtin, Sem.run_bind, Sem.run_pure, Result.andThen_ok, List.map_toArray, List.map_cons, List.map_nil, hd, hr]
  exact h
end

theorem extS_row (w : World) (g : Nat) (cs : Array Value) : ExtS [g] w (w.setRow g cs) :=
  ⟨rfl, rfl, rfl, by simp [World.setRow], fun i hi hne => setRow_other w g i cs (by simpa using hne)⟩

/-- copy into a block. -/
theorem run_copy_rt (w : World) (ty : TypeId) (g o dLen dCap : Nat) (a : Addr) (sLen sCap : Nat) (cur : Array Value) (t : TypeId) (cs : List Value)
    (hg : w.heap[g]? = some (.cells cur t (0, 0))) (hn : cs.length = Nat.min sLen dLen * 6)
    (hsrc : ∀ j v, cs[j]? = some v → w.cell? (a.add j) = some v) (hfit : o + cs.length ≤ cur.size) (h1 : ∀ v ∈ cs, v.oneCell' = true) :
    (Builtin.copy_ #[33, 33] ty #[.slice (some ⟨g, o, none⟩) dLen dCap, .slice (some a) sLen sCap]).run Try.prog w =
      .ok (goInt (Nat.min sLen dLen)) (w.setRow g (cur.toList.take o ++ cs ++ cur.toList.drop (o + cs.length)).toArray) := by
  obtain ⟨i, hi, hz, hsz, hby⟩ := info_rt
  have hl := run_loadCells_list (P := Try.prog) w a cs hsrc
  have hst := run_storeCells_at Try.prog g o t cs 0 cur w hg (by simpa using hfit) h1
  simp [Builtin.copy_, run_underlying Try.underlying33, Builtin.lenOf, Builtin.firstCells, sizeOf, typeInfo, hi, hsz, ← hn, hl, hst]

/-- append where there is room. -/
theorem run_append_rt (w : World) (ty : TypeId) (g sLen sCap : Nat) (b off n c : Nat) (cur : Array Value) (t : TypeId) (cs : List Value)
    (hg : w.heap[g]? = some (.cells cur t (0, 0))) (hn : cs.length = n * 6)
    (hsrc : ∀ j v, cs[j]? = some v → w.cell? ⟨b, off + j, none⟩ = some v) (hroom : sLen + n ≤ sCap) (hfit : sLen * 6 + cs.length ≤ cur.size) (h1 : ∀ v ∈ cs, v.oneCell' = true) :
    (Builtin.append_ #[33, 33] ty #[.slice (some ⟨g, 0, none⟩) sLen sCap, .slice (some ⟨b, off, none⟩) n c]).run Try.prog w =
      .ok (.slice (some ⟨g, 0, none⟩) (sLen + n) sCap) (w.setRow g (cur.toList.take (sLen * 6) ++ cs ++ cur.toList.drop (sLen * 6 + cs.length)).toArray) := by
  obtain ⟨i, hi, hz, hsz, hby⟩ := info_rt
  have hs : Go.Src Try.prog 6 33 (.slice (some ⟨b, off, none⟩) n c) n cs w := Go.Src.ofSlice w Try.underlying33 ⟨b, off, none⟩ n c cs hn (fun j u hj => by rw [addr_add']; exact hsrc j u hj) h1
  have hst := run_storeCells_at Try.prog g (0 + sLen * 6) t cs 0 cur w hg (by simpa using hfit) h1
  simp only [Nat.add_zero, Nat.zero_add] at hst
  simp [Builtin.append_, run_underlying Try.underlying33, sizeOf, typeInfo, hi, hsz, hs.len, hroom, hs.cells, addr_add', hst]

def zeroL : List Value := [.int .i64 0, .int .u32 0, .int .i64 0, .int .i64 0, .int .u32 0, .int .i64 0]

/-- clear of one way. -/
theorem run_clear_rt (w : World) (ty : TypeId) (g o c : Nat) (cur : Array Value) (t : TypeId) (hg : w.heap[g]? = some (.cells cur t (0, 0))) (hfit : o + 6 ≤ cur.size) :
    ∃ cur' : Array Value, (Builtin.clear_ #[33] ty #[.slice (some ⟨g, o, none⟩) 1 c]).run Try.prog w = .ok (.tuple #[]) (w.setRow g cur') ∧ cur'.size = cur.size ∧ cur'.toList.take o = cur.toList.take o := by
  obtain ⟨i, hi, hz, hsz, hby⟩ := info_rt
  have hst := run_storeCells_at Try.prog g o t zeroL 0 cur w hg (by simpa [zeroL] using hfit) (by
    intro v hv
    unfold zeroL at hv
    simp only [List.mem_cons, List.not_mem_nil, or_false] at hv
    rcases hv with rfl | rfl | rfl | rfl | rfl | rfl <;> rfl)
  have hzc : (Builtin.zeroCells (Value.agg #[.int .i64 0, .int .u32 0, .int .i64 0, .int .i64 0, .int .u32 0, .int .i64 0]).cells 1).toList = zeroL := by kernel_rfl
  refine ⟨(cur.toList.take (o + 0) ++ zeroL ++ cur.toList.drop (o + 0 + 6)).toArray, ?_, ?_, ?_⟩
  · have hst' : (storeCells ⟨g, o, none⟩ zeroL).run Try.prog w = .ok () (w.setRow g (cur.toList.take (o + 0) ++ zeroL ++ cur.toList.drop (o + 0 + 6)).toArray) := hst
    generalize (w.setRow g (cur.toList.take (o + 0) ++ zeroL ++ cur.toList.drop (o + 0 + 6)).toArray) = W at hst' ⊢
    simp [Builtin.clear_, run_underlying Try.underlying33, zeroValue, typeInfo, hi, hz, hzc, hst']
  · simp [zeroL]
    omega
  · simp only [Nat.add_zero, List.append_assoc]
    rw [List.take_append_of_le_length (by simp; omega), List.take_take, Nat.min_self]
end Go.Proofs.Ytbchfmadmcppkaa.Rb
