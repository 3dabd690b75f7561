/- Texts joined by a program: FibB, FibC, RfA. -/
import Derived.Test.YtmoimkeeldlpkaaGreatJ7
import Derived.Test.YtmoimkeeldlpkaaGreatJ19
import Derived.Test.YtmoimkeeldlpkaaGreatJ21
namespace Go.Proofs.YtmoimkeeldlpkaaGreat.Fb

set_option maxRecDepth 100000

open Go.RowKit Go.Proofs.YtmoimkeeldlpkaaGreat Go.Proofs.YtmoimkeeldlpkaaGreat.Rb

set_option linter.unusedVariables false

set_option linter.unusedSimpArgs false

section

variable {w : World} {o : Oper} {a : Act} {K : Act → World → Prop} {Q : Exit → Act → World → Prop}

theorem wp_copyB (d x : Operand) (ho : o.op = .call { callee := .builtin .copy, args := #[d, x], argTypes := #[51, 51] }) (v u : Value) (hd : a.eval d = v) (hx : a.eval x = u) {v' : Value} {w' : World}
    (hr : (Builtin.copy_ #[51, 51] o.type #[v, u]).run Tryz.prog w = .ok v' w') (h : K (a.put o.dst v') w') : o.wp Tryz.prog a w K Q := by
  unfold Oper.wp execOp
  simp only [ho, resolve, invoke, builtin, Sem.run_bind, Sem.run_pure, Result.andThen_ok, List.map_toArray, List.map_cons, List.map_nil, hd, hx, hr]
  exact h

end

/-- j trues, then falses, n in all. -/
def tb (j n : Nat) : List Value := List.replicate j (Value.bool true) ++ List.replicate (n - j) (Value.bool false)

theorem tb_len {j n : Nat} (h : j ≤ n) : (tb j n).length = n := by simp [tb]; omega

theorem tb_get {j n i : Nat} (h : i < j) : (tb j n)[i]? = some (.bool true) := by
  unfold tb
  rw [List.getElem?_append_left (by simpa using h), List.getElem?_replicate, if_pos h]

theorem tb_copy {j n m : Nat} (h : j + m ≤ n) : (tb j n).take j ++ List.replicate m (Value.bool true) ++ (tb j n).drop (j + m) = tb (j + m) n := by
  have h1 : (tb j n).take j = List.replicate j (Value.bool true) := by unfold tb; rw [List.take_left' (by simp)]
  have h2 : (tb j n).drop (j + m) = List.replicate (n - (j + m)) (Value.bool false) := by
    unfold tb
    rw [List.drop_append, List.drop_replicate, List.drop_replicate, List.length_replicate, show j - (j + m) = 0 by omega, show n - j - (j + m - j) = n - (j + m) by omega]
    rfl
  rw [h1, h2, List.replicate_append_replicate]
  rfl

theorem tb_own {w : World} {g n B : Nat} (hg : w.heap[g]? = some (.cells (tb n n).toArray 4 (0, 0))) (hB : B ≤ g) (hn : n ≤ 1000) : OwnB w B (.slice (some ⟨g, 0, none⟩) n n) (List.replicate n true) := by
  have e : tb n n = (List.replicate n true).map Value.bool := by unfold tb; simp
  rw [e] at hg
  refine ⟨by simp, .inr ⟨g, n, _, by simp, hB, hg, by simp, by unfold maxLen; omega, by simp, by simp⟩⟩

theorem ext_map' {w wq w2 : World} {mb : Nat} (hx : Ext w wq) (hn : w.heap.size ≤ mb) (h : ExtS [mb] wq w2) : Ext w w2 :=
  ExtS.ext ((hx.toS [mb]).trans h) fun b hb => by rw [List.mem_singleton.1 hb]; exact hn

theorem copyB_run {W : World} {g o dn : Nat} {cur : List Value} {t : TypeId} {a : Addr} {sl sc dc m : Nat} (ty : TypeId) (hg : W.heap[g]? = some (.cells cur.toArray t (0, 0))) (hm : m = Nat.min sl dn) (hsrc : ∀ i, i < m → W.cell? (a.add i) = some (.bool true)) (hfit : o + m ≤ cur.length) :
    (Builtin.copy_ #[51, 51] ty #[.slice (some ⟨g, o, none⟩) dn dc, .slice (some a) sl sc]).run Tryz.prog W = .ok (.int .i64 (m : Int)) (W.setRow g (cur.take o ++ List.replicate m (Value.bool true) ++ cur.drop (o + m)).toArray) := by
  have := run_copy_row (P := Tryz.prog) W 51 51 ty 4 g o dn dc a sl sc cur.toArray t (List.replicate m (Value.bool true)) Tryz.underlying51 (by kernel_rfl) hg (by rw [List.length_replicate]; exact hm)
    (fun i v hi => by
      rw [List.getElem?_replicate] at hi
      split at hi
      · cases hi; exact hsrc i ‹_›
      · cases hi) (by simpa using hfit) (fun v hv => by rw [(List.mem_replicate.1 hv).2]; rfl)
  simpa [goInt] using this

set_option maxHeartbeats 4000000 in
theorem repeat_any (g n : Nat) (w : World) (hg : w.heap[g]? = some (.cells #[.bool true] 4 (0, 0))) (hn : n ≤ 8) :
    Calls Tryz.prog 31 #[.slice (some ⟨g, 0, none⟩) 1 1, .int .i64 (n : Int)] w (RowB w (List.replicate n true)) := by
  have cm : ∀ W, Calls Tryz.prog 52 #[.int .u64 1, .int .u64 (n : Int)] W fun e w' => e = .returned (.tuple #[.int .u64 0, .int .u64 (n : Int)]) ∧ w' = W := fun W => by
    have h := Tryz.bits_Mul 1 n (by omega) (by omega) W
    rw [Nat.one_mul, show n / 18446744073709551616 = 0 by omega, show n % 18446744073709551616 = n by omega] at h
    exact h
  have w1 : IntKind.u64.wrap (n : Int) = (n : Int) := by rw [IntKind.wrap_u64]; omega
  have w2 : IntKind.i64.wrap (n : Int) = (n : Int) := by rw [IntKind.wrap_i64]; omega
  have n0 : ¬ ((n : Int) < 0) := by omega
  have n1 : (n : Int) ≤ 9223372036854775807 := by omega
  have HG : Hid (w.heap[g]? = some (.cells #[.bool true] 4 (0, 0))) := hg
  have hmk : ∀ W : World, (Instr.makeSlice 51 (.int .i64 (n : Int)) (.int .i64 (n : Int))).run Tryz.prog W = .ok (.slice (some ⟨W.heap.size, 0, none⟩) n n) (W.alloc (.cells (tb 0 n).toArray 4)) := fun W => by
    obtain ⟨i, hi, hz, hsz, hby⟩ := info_bool
    have hr := run_make (P := Tryz.prog) W 51 4 i (.bool false) Tryz.underlying51 hi hz .i64 .i64 n n (by omega) (by omega) (by rw [hby]; omega) (by omega)
    rw [hr]
    have e1 : (madeCells (Value.bool false).cells ((n : Int).toNat * i.size)) = (tb 0 n).toArray := by
      rw [hsz]
      simp [tb, madeCells, Value.cells]
      apply Array.ext
      · simp
      · intro i h1 h2
        simp [Nat.mod_one]
    rw [e1]
    simp
  have hA : Ext w (w.alloc (.cells (tb 0 n).toArray 4)) := (Ext.refl w).alloc _
  have HB : Hid ((w.alloc (.cells (tb 0 n).toArray 4)).heap[w.heap.size]? = some (.cells (tb 0 n).toArray 4 (0, 0))) := heap_new w _
  obtain ⟨m0, hm0⟩ : ∃ m0 : Nat, m0 = min 1 n := ⟨_, rfl⟩
  have hc1 : ∀ ty, (Builtin.copy_ #[51, 51] ty #[.slice (some ⟨w.heap.size, 0, none⟩) n n, .slice (some ⟨g, 0, none⟩) 1 1]).run Tryz.prog (w.alloc (.cells (tb 0 n).toArray 4)) = .ok (.int .i64 (m0 : Int)) ((w.alloc (.cells (tb 0 n).toArray 4)).setRow w.heap.size (tb m0 n).toArray) := fun ty => by
    have hl0 := tb_len (j := 0) (n := n) (Nat.zero_le _)
    have hs0 : ∀ i, i < m0 → (w.alloc (.cells (tb 0 n).toArray 4)).cell? ((⟨g, 0, none⟩ : Addr).add i) = some (.bool true) := fun i hi => by
      obtain rfl : i = 0 := by omega
      show (w.alloc (.cells (tb 0 n).toArray 4)).cell? ⟨g, 0, none⟩ = _
      rw [heap_cell (hA.heap hg)]
      rfl
    have h := copyB_run (o := 0) (dn := n) (dc := n) (a := ⟨g, 0, none⟩) (sl := 1) (sc := 1) (m := m0) ty HB.out hm0 hs0 (by omega)
    have e := tb_copy (j := 0) (n := n) (m := m0) (by omega)
    rw [Nat.zero_add] at e
    rw [Nat.zero_add, e] at h
    exact h
  have HM : Hid (m0 = min 1 n) := hm0
  clear hg hm0
  go_enter Tryz.func31, Tryz.ntmps31
  go_wp2_with (go_at_call 52; refine (cm _).mono ?_; rintro e w3 ⟨rfl, hw⟩; obtain rfl := hw.symm; clear hw)
  clear hc1 hmk cm w1 w2
  obtain ⟨g2, hg2⟩ : ∃ g2 : Nat, w.heap.size = g2 := ⟨_, rfl⟩
  have HR0 : Hid (((w.alloc (.cells (tb 0 n).toArray 4)).setRow w.heap.size (tb m0 n).toArray).heap[w.heap.size]? = some (.cells (tb m0 n).toArray 4 (0, 0))) := setRow_heap _ _ _ _ _ _ HB.out
  have HX0 : Hid (Ext w ((w.alloc (.cells (tb 0 n).toArray 4)).setRow w.heap.size (tb m0 n).toArray)) := ExtS.ext ((hA.toS [w.heap.size]).trans (extS_row _ _ _)) (by simp)
  have HGB : Hid (w.heap.size ≤ g2) := Nat.le_of_eq hg2
  clear hA HB
  rw [hg2] at HR0 HX0
  simp only [hg2]
  clear hg2
  generalize ((w.alloc (.cells (tb 0 n).toArray 4)).setRow g2 (tb m0 n).toArray) = W0 at *
  go_loopg [8] n (fun kx s8 wr => ∃ j : Nat, s8 = .int .i64 j ∧ j ≤ n ∧ n - j ≤ kx ∧ Hid (Ext w wr ∧ wr.heap[g2]? = some (.cells (tb j n).toArray 4 (0, 0)) ∧ (n = 0 ∨ 0 < j)))
  case atStart => exact ⟨m0, rfl, by have := HM.out; omega, by omega, (⟨HX0.out, HR0.out, by have := HM.out; omega⟩ : Ext w W0 ∧ W0.heap[g2]? = some (.cells (tb m0 n).toArray 4 (0, 0)) ∧ (n = 0 ∨ 0 < m0))⟩
  case round =>
    obtain ⟨j, rfl, hjn, hjx, HW⟩ := hrel
    clear HX0 HR0
    by_cases hlt : j < n
    · have hji : (j : Int) < (n : Int) := by omega
      have hji2 : (j : Int) ≤ (n : Int) := by omega
      obtain ⟨m, hm⟩ : ∃ m : Nat, m = min j (n - j) := ⟨_, rfl⟩
      have hm1 : 0 < m ∧ j + m ≤ n := by have := HW.out.2.2; omega
      have wj : IntKind.i64.wrap ((j : Int) + (m : Int)) = ((j + m : Nat) : Int) := by rw [IntKind.wrap_i64]; omega
      have hs1 : ∀ W : World, (Instr.slice 51 (.slice (some ⟨g2, 0, none⟩) n n) (some (.int .i64 (j : Int))) none none).run Tryz.prog W = .ok (.slice (some ⟨g2, j, none⟩) (n - j) (n - j)) W := fun W => by
        have hne : ¬ (n = j) := by omega
        go_simp
      have hs2 : ∀ W : World, (Instr.slice 51 (.slice (some ⟨g2, 0, none⟩) n n) none (some (.int .i64 (j : Int))) none).run Tryz.prog W = .ok (.slice (some ⟨g2, 0, none⟩) j n) W := fun W => by
        go_simp
      have HM2 : Hid (m = Nat.min j (n - j)) := hm
      have HMJ : Hid (m ≤ j) := (by omega : m ≤ j)
      clear hm
      go_wp2_with fail
      refine wp_region_eagerN w.heap.size [(0, false), (1, false), (2, false), (3, false), (4, false), (5, false), (6, false), (7, true), (8, false), (9, false)] (by kernel_rfl) (by kernel_rfl) rfl (by kernel_rfl) (fun _ _ _ _ _ h => h) ?_
      have hxd : Ext w wr.drew := HW.out.1.drew
      have hgd : wr.drew.heap[g2]? = some (.cells (tb j n).toArray 4 (0, 0)) := HW.out.2.1
      have hcp : ∀ ty, (Builtin.copy_ #[51, 51] ty #[.slice (some ⟨g2, j, none⟩) (n - j) (n - j), .slice (some ⟨g2, 0, none⟩) j n]).run Tryz.prog wr.drew = .ok (.int .i64 (m : Int)) (wr.drew.setRow g2 (tb (j + m) n).toArray) := fun ty => by
        have hl0 := tb_len hjn
        have h := copyB_run (o := j) (dn := n - j) (dc := n - j) (a := ⟨g2, 0, none⟩) (sl := j) (sc := n) (m := m) ty hgd HM2.out (fun i hi => by
          show wr.drew.cell? ((⟨g2, 0, none⟩ : Addr).add i) = _
          rw [addr_add', Nat.zero_add, heap_cell hgd]
          rw [List.getElem?_toArray]
          exact tb_get (Nat.lt_of_lt_of_le hi HMJ.out)) (by omega)
        rw [tb_copy hm1.2] at h
        exact h
      have hR : wr.drew.heap[g2]? = some (.cells (tb j n).toArray 4 (0, 0)) := hgd
      have hR2 : Hid ((wr.drew.setRow g2 (tb (j + m) n).toArray).heap[g2]? = some (.cells (tb (j + m) n).toArray 4 (0, 0))) := setRow_heap _ _ _ _ _ _ hgd
      have hx2 : ExtS [g2] wr.drew (wr.drew.setRow g2 (tb (j + m) n).toArray) := extS_row _ _ _
      have HX2 : Hid (Ext w (wr.drew.setRow g2 (tb (j + m) n).toArray)) := ext_map' hxd HGB.out hx2
      have HN2 : Hid (ExtN w.heap.size wr.drew (wr.drew.setRow g2 (tb (j + m) n).toArray)) := ⟨hx2.os, hx2.tape, hx2.output, hx2.size, fun k hk hkn => hx2.block k hkn (by have := HGB.out; simp; omega)⟩
      clear hR hgd hx2 hxd
      generalize wr.drew = W at *
      iterate 7 (refine wpE_read (v := ?_) rfl (by rfl) ?_ ?_; rotate_left; (focus (intro w' hx; go_simp; first | done | with_reducible rfl)); simp only [Act.put, List.setIfInBounds_toArray, List.set_cons_zero, List.set_cons_succ])
      refine wpE_call rfl (by rfl) (fun K hK => ?_)
      refine wp_copyB _ _ rfl _ _ rfl rfl (hcp _) ?_
      refine hK _ _ HN2.out ?_
      clear hK K hcp
      simp only [Act.put, List.setIfInBounds_toArray, List.set_cons_zero, List.set_cons_succ]
      iterate 2 (refine wpE_read (v := ?_) rfl (by rfl) ?_ ?_; rotate_left; (focus (intro w' hx; go_simp; first | done | with_reducible rfl)); simp only [Act.put, List.setIfInBounds_toArray, List.set_cons_zero, List.set_cons_succ])
      refine wpE_done ?_
      go_wp2_with fail
      go_roundg (n - (j + m))
      case measure => omega
      case rel => exact ⟨j + m, by go_num, hm1.2, Nat.le_refl _, (⟨HX2.out, hR2.out, .inr (by omega)⟩ : Ext w (W.setRow g2 (tb (j + m) n).toArray) ∧ (W.setRow g2 (tb (j + m) n).toArray).heap[g2]? = some (.cells (tb (j + m) n).toArray 4 (0, 0)) ∧ (n = 0 ∨ 0 < j + m))⟩
    · obtain rfl : j = n := by omega
      go_wp2_with fail
      go_ret
      exact ⟨_, rfl, tb_own HW.out.2.1 HGB.out (by omega), HW.out.1⟩
end Go.Proofs.YtmoimkeeldlpkaaGreat.Fb

namespace Go.Proofs.YtmoimkeeldlpkaaGreat.Fb

set_option maxRecDepth 100000

open Go.RowKit Go.Proofs.YtmoimkeeldlpkaaGreat Go.Proofs.YtmoimkeeldlpkaaGreat.Rb

open Go.Proofs.YtmoimkeeldlpkaaGreat.Tri (PX Vp Row TrieR tnew)

open Go.Proofs.YtmoimkeeldlpkaaGreat.Dr (DirAt new_at)

set_option linter.unusedVariables false

set_option linter.unusedSimpArgs false

/-- So many interfaces. -/
def clampN (i : Int) : Nat := (min (max i 0) 8).toNat

theorem clamp_is (i : Int) : min (max i 0) 8 = ((clampN i : Nat) : Int) := by unfold clampN; omega

theorem clamp_le (i : Int) : clampN i ≤ 8 := by unfold clampN; omega

def engN (tb db : Nat) : Eng := ⟨.slice none 0 0, tb, db, [tb], [db]⟩

/-- Where New stands: the tables below k are made. -/
structure NewW (w wr : World) (fb rb : Nat) (q : Option Addr) (n c : Nat) (C : Array Value) (tb db : Nat → Nat) (k : Nat) : Prop where
  ext : Ext w wr
  obj : wr.heap[fb]? = some (.cells C 72 (0, 0))
  size : C.size = 14
  c0 : C[0]? = some (.pointer (some ⟨rb, 0, none⟩))
  c1 : C[1]? = some (.slice q n c)
  cv : ∀ i, i < 4 → C[2 + i * 3]? = some (.slice none 0 0)
  ct : ∀ i, i < k → C[2 + i * 3 + 1]? = some (.pointer (some ⟨tb i, 0, none⟩))
  cd : ∀ i, i < k → C[2 + i * 3 + 2]? = some (.pointer (some ⟨db i, 0, none⟩))
  tree : ∀ i, i < k → TrieR wr (tb i) [] [tb i]
  dir : ∀ i, i < k → DirAt wr (db i) 16 [] [db i]
  t1 : ∀ i, i < k → fb < tb i ∧ tb i < db i ∧ db i < wr.heap.size
  t2 : ∀ i j, i < j → j < k → db i < tb j
  rib : RibAt 90 wr rb [] [rb]
  own : OwnB wr w.heap.size (.slice q n c) (List.replicate n true)
  r1 : w.heap.size ≤ rb ∧ rb < fb
  q1 : ∀ x ∈ ubk q, x < fb

theorem NewW.fib {w wr : World} {fb rb : Nat} {q : Option Addr} {n c : Nat} {C : Array Value} {tb db : Nat → Nat} (h : NewW w wr fb rb q n c C tb db 4) (hn : n ≤ 8) : ∃ F, FibAt wr fb [] (List.replicate n true) F ∧ ∀ x ∈ F, w.heap.size ≤ x := by
  have hE : ∀ i, (engN (tb i) (db i)).F = [tb i, db i] := fun i => rfl
  have ha : ∀ (t : Int) (U : List Bool), actL [] t U = [] := fun t U => rfl
  have hr : rowOf [] = [] := rfl
  have h0 : w.heap.size ≤ fb := by have := h.r1; omega
  have hq : ∀ x ∈ ubk q, w.heap.size ≤ x := fun x hx => (h.own.lt x (by rw [blks_ubk]; exact hx)).1
  have hfl := heap_lt h.obj
  have hu := h.own.ups (by simp; omega)
  refine ⟨fb :: rb :: (ubk q ++ [tb 0, db 0, tb 1, db 1, tb 2, db 2, tb 3, db 3]), ⟨rb, q, c, C, [rb], fun i => engN (tb i) (db i), ?_⟩, fun x hx => ?_⟩
  · have hl : (List.replicate n true).length = n := by simp
    rw [hl]
    have hm : ∀ i, i < 4 → ∀ x ∈ (engN (tb i) (db i)).F, x = tb i ∨ x = db i := fun i hi x hx => by rw [hE] at hx; simpa using hx
    refine { obj := h.obj, size := h.size, c0 := h.c0, c1 := h.c1, cv := h.cv, ct := h.ct, cd := h.cd, rib := h.rib, ups := hu, own := h.own.base (Nat.zero_le _), good := Good.nil, eight := by simp; omega, eng := fun i hi => ?_, pf := fun i hi => ⟨List.Pairwise.nil, by rw [ha]; simp, by rw [ha]; simp⟩,
             fF := by simp, rF := by simp, uF := fun x hx => by simp [hx], eF := fun i hi x hx => ?_, vF := fun i hi x hx => (by cases hx), lt := fun x hx => ?_,
             fE := fun i hi hx => ?_, rE := fun i hi x hx hx' => ?_, uE := fun i hi x hx hx' => ?_, vE := fun i j hi hj x hx => (by cases hx), eE := fun i j hi hj hij x hx hx' => ?_, fr := fun hx => ?_, fu := fun hx => ?_, fv := fun i hi hx => (by cases hx) }
    · rw [ha]
      exact ⟨OwnR.nil _ _, by rw [hr]; exact h.tree i hi, by rw [hr]; exact h.dir i hi, fun x hx hx' => by have := h.t1 i hi; have e1 := List.mem_singleton.1 hx; have e2 := List.mem_singleton.1 hx'; omega, fun x hx => by cases hx⟩
    · have := hm i hi x hx
      rcases (by omega : i = 0 ∨ i = 1 ∨ i = 2 ∨ i = 3) with rfl | rfl | rfl | rfl <;> rcases this with rfl | rfl <;> simp
    · have t0 := h.t1 0 (by omega)
      have t1 := h.t1 1 (by omega)
      have t2 := h.t1 2 (by omega)
      have t3 := h.t1 3 (by omega)
      have := h.r1
      simp only [List.mem_cons, List.mem_append, List.not_mem_nil, or_false] at hx
      rcases hx with rfl | rfl | hx | hx
      · omega
      · omega
      · have := h.q1 x hx; omega
      · omega
    · have := h.t1 i hi
      have := hm i hi fb hx
      omega
    · have := h.t1 i hi
      have := hm i hi x hx'
      have := h.r1
      have := List.mem_singleton.1 hx
      omega
    · have := h.t1 i hi
      have := hm i hi x hx'
      have := h.q1 x hx
      omega
    · have a1 := h.t1 i hi
      have a2 := h.t1 j hj
      have b1 := hm i hi x hx
      have b2 := hm j hj x hx'
      rcases Nat.lt_or_ge i j with hlt | hge
      · have := h.t2 i j hlt hj; omega
      · have := h.t2 j i (by omega) hi; omega
    · have := List.mem_singleton.1 hx
      have := h.r1
      omega
    · have := h.q1 fb hx; omega
  · have t0 := h.t1 0 (by omega)
    have t1 := h.t1 1 (by omega)
    have t2 := h.t1 2 (by omega)
    have t3 := h.t1 3 (by omega)
    have := h.r1
    simp only [List.mem_cons, List.mem_append, List.not_mem_nil, or_false] at hx
    rcases hx with rfl | rfl | hx | hx
    · omega
    · omega
    · exact hq x hx
    · omega

theorem NewW.step {w wr w1 w2 : World} {fb rb : Nat} {q : Option Addr} {n c k : Nat} {C : Array Value} {tb db : Nat → Nat} (h : NewW w wr fb rb q n c C tb db k) (hk : k < 4) {t d : Nat} (hx1 : Ext wr w1) (ht : TrieR w1 t [] [t]) (ht1 : wr.heap.size ≤ t) (hx2 : Ext w1 w2) (hd : DirAt w2 d 16 [] [d]) (hd1 : w1.heap.size ≤ d) :
    NewW w (((w2.setCell ⟨fb, 2 + k * 3, none⟩ (.slice none 0 0)).setCell ⟨fb, 2 + k * 3 + 1, none⟩ (.pointer (some ⟨t, 0, none⟩))).setCell ⟨fb, 2 + k * 3 + 2, none⟩ (.pointer (some ⟨d, 0, none⟩))) fb rb q n c
      (((C.setIfInBounds (2 + k * 3) (.slice none 0 0)).setIfInBounds (2 + k * 3 + 1) (.pointer (some ⟨t, 0, none⟩))).setIfInBounds (2 + k * 3 + 2) (.pointer (some ⟨d, 0, none⟩))) (upd tb k t) (upd db k d) (k + 1) := by
  have hx12 := hx1.trans hx2
  have hS : ExtS [fb] w2 (((w2.setCell ⟨fb, 2 + k * 3, none⟩ (.slice none 0 0)).setCell ⟨fb, 2 + k * 3 + 1, none⟩ (.pointer (some ⟨t, 0, none⟩))).setCell ⟨fb, 2 + k * 3 + 2, none⟩ (.pointer (some ⟨d, 0, none⟩))) :=
    ((ExtS.setCell (ExtS.refl [fb] w2) (p := ⟨fb, 2 + k * 3, none⟩) (.inl (by simp)) _).setCell (p := ⟨fb, 2 + k * 3 + 1, none⟩) (.inl (by simp)) _).setCell (p := ⟨fb, 2 + k * 3 + 2, none⟩) (.inl (by simp)) _
  generalize hW : (((w2.setCell ⟨fb, 2 + k * 3, none⟩ (.slice none 0 0)).setCell ⟨fb, 2 + k * 3 + 1, none⟩ (.pointer (some ⟨t, 0, none⟩))).setCell ⟨fb, 2 + k * 3 + 2, none⟩ (.pointer (some ⟨d, 0, none⟩))) = W at *
  have hfl := heap_lt h.obj
  have htl := ht.lt t (by simp)
  have hdl := hd.lt d (by simp)
  have hs1 := hx1.size
  have hs2 := hx2.size
  have hsW := hS.size
  have h0 : w.heap.size ≤ fb := by have := h.r1; omega
  have cell : ∀ j, j ≠ 2 + k * 3 → j ≠ 2 + k * 3 + 1 → j ≠ 2 + k * 3 + 2 → (((C.setIfInBounds (2 + k * 3) (.slice none 0 0)).setIfInBounds (2 + k * 3 + 1) (.pointer (some ⟨t, 0, none⟩))).setIfInBounds (2 + k * 3 + 2) (.pointer (some ⟨d, 0, none⟩)))[j]? = C[j]? := fun j j0 j1 j2 => by
    rw [Array.getElem?_setIfInBounds, if_neg (fun e => j2 e.symm), Array.getElem?_setIfInBounds, if_neg (fun e => j1 e.symm), Array.getElem?_setIfInBounds, if_neg (fun e => j0 e.symm)]
  refine { ext := ExtS.ext (((h.ext.trans hx12).toS [fb]).trans hS) (fun b hb => by rw [List.mem_singleton.1 hb]; exact h0), obj := ?_, size := by simp [h.size], c0 := by rw [cell 0 (by omega) (by omega) (by omega)]; exact h.c0, c1 := by rw [cell 1 (by omega) (by omega) (by omega)]; exact h.c1,
           cv := fun i hi => ?_, ct := fun i hi => ?_, cd := fun i hi => ?_, tree := fun i hi => ?_, dir := fun i hi => ?_, t1 := fun i hi => ?_, t2 := fun i j hij hj => ?_, rib := (h.rib.ext hx12).later hS fun x hx e => ?_, own := (h.own.ext hx12).later hS fun x hx e => ?_, r1 := h.r1, q1 := h.q1 }
  · rw [← hW]
    exact heap_set (heap_set (heap_set (hx12.heap h.obj) _) _) _
  · by_cases e : i = k
    · subst e
      rw [Array.getElem?_setIfInBounds, if_neg (by omega), Array.getElem?_setIfInBounds, if_neg (by omega), Array.getElem?_setIfInBounds, if_pos rfl, if_pos (by rw [h.size]; omega)]
    · rw [cell _ (by omega) (by omega) (by omega)]; exact h.cv i hi
  · by_cases e : i = k
    · subst e
      rw [upd_same, Array.getElem?_setIfInBounds, if_neg (by omega), Array.getElem?_setIfInBounds, if_pos rfl, if_pos (by simp [h.size]; omega)]
    · rw [upd_other _ _ e, cell _ (by omega) (by omega) (by omega)]; exact h.ct i (by omega)
  · by_cases e : i = k
    · subst e
      rw [upd_same, Array.getElem?_setIfInBounds, if_pos rfl, if_pos (by simp [h.size]; omega)]
    · rw [upd_other _ _ e, cell _ (by omega) (by omega) (by omega)]; exact h.cd i (by omega)
  · by_cases e : i = k
    · subst e
      rw [upd_same]
      exact (ht.ext hx2).later hS fun x hx e => by have := List.mem_singleton.1 hx; have := List.mem_singleton.1 e; omega
    · rw [upd_other _ _ e]
      exact ((h.tree i (by omega)).ext hx12).later hS fun x hx e => by have := List.mem_singleton.1 hx; have := List.mem_singleton.1 e; have := h.t1 i (by omega); omega
  · by_cases e : i = k
    · subst e
      rw [upd_same]
      exact hd.later hS fun x hx e => by have := List.mem_singleton.1 hx; have := List.mem_singleton.1 e; omega
    · rw [upd_other _ _ e]
      exact ((h.dir i (by omega)).ext hx12).later hS fun x hx e => by have := List.mem_singleton.1 hx; have := List.mem_singleton.1 e; have := h.t1 i (by omega); omega
  · by_cases e : i = k
    · subst e
      rw [upd_same, upd_same]; omega
    · rw [upd_other _ _ e, upd_other _ _ e]
      have := h.t1 i (by omega); omega
  · by_cases e : j = k
    · subst e
      rw [upd_same, upd_other _ _ (by omega)]
      have := h.t1 i (by omega); omega
    · rw [upd_other _ _ e, upd_other _ _ (by omega)]
      exact h.t2 i j hij (by omega)
  · have := List.mem_singleton.1 hx; have := List.mem_singleton.1 e; have := h.r1; omega
  · have := h.q1 x (by rw [blks_ubk] at hx; exact hx); have := List.mem_singleton.1 e; omega

def NewAns (w : World) (n : Nat) (e : Ending) (w' : World) : Prop := ∃ fb F, e = .returned (.pointer (some ⟨fb, 0, none⟩)) ∧ FibAt w' fb [] (List.replicate n true) F ∧ Ext w w' ∧ ∀ x ∈ F, w.heap.size ≤ x

theorem maxV16 : Dr.maxV 16 = 16 := by decide

set_option maxHeartbeats 4000000 in
theorem fnew_any (i : Int) (w : World) : Calls Tryz.prog 10 #[.int .i64 i] w (NewAns w (clampN i)) := by
  have cr := Rb.new_any w
  have hcl := clamp_is i
  have hc8 := clamp_le i
  generalize clampN i = n at *
  have HN : Hid (n ≤ 8) := hc8
  go_enter Tryz.func10, Tryz.ntmps10
  go_wp2_with (first
    | (go_at_call 30; refine cr.mono ?_; rintro e w1 ⟨rfl, HR1, hx1⟩; have HR : Hid (RibAt 90 w1 w.heap.size [] [w.heap.size] ∧ Ext w w1) := ⟨HR1, hx1⟩; clear HR1 hx1)
    | (go_at_call 31; refine (repeat_any w1.heap.size n _ (heap_new w1 _) HN.out).mono ?_; rintro e w2 ⟨v2, rfl, hO2, hx2⟩; obtain ⟨q, c, rfl, -, -⟩ := hO2.slice; have HO2 : Hid (OwnB w2 (w1.alloc (.cells #[.bool true] 4)).heap.size (.slice q (List.replicate n true).length c) (List.replicate n true) ∧ Ext w1 w2) := ⟨hO2, ((Ext.refl w1).alloc _).trans hx2⟩; clear hO2 hx2))
  have hl : (List.replicate n true).length = n := List.length_replicate ..
  have hO2 := HO2.out.1
  rw [hl] at hO2
  have hs1 := HR.out.2.size
  have hrl := HR.out.1.lt w.heap.size (by simp)
  have hx02 : Ext w w2 := HR.out.2.trans HO2.out.2
  have hs2 := HO2.out.2.size
  have hA3 : Ext w2 (w2.alloc (.cells #[.pointer (some ⟨w.heap.size, 0, none⟩), .slice q n c, .slice none 0 0, .pointer none, .pointer none, .slice none 0 0, .pointer none, .pointer none, .slice none 0 0, .pointer none, .pointer none, .slice none 0 0, .pointer none, .pointer none] 72)) := (Ext.refl w2).alloc _
  have HW0 : Hid (NewW w (w2.alloc (.cells #[.pointer (some ⟨w.heap.size, 0, none⟩), .slice q n c, .slice none 0 0, .pointer none, .pointer none, .slice none 0 0, .pointer none, .pointer none, .slice none 0 0, .pointer none, .pointer none, .slice none 0 0, .pointer none, .pointer none] 72)) w2.heap.size w.heap.size q n c
      #[.pointer (some ⟨w.heap.size, 0, none⟩), .slice q n c, .slice none 0 0, .pointer none, .pointer none, .slice none 0 0, .pointer none, .pointer none, .slice none 0 0, .pointer none, .pointer none, .slice none 0 0, .pointer none, .pointer none] (fun _ => 0) (fun _ => 0) 0) :=
    { ext := hx02.trans hA3, obj := heap_new w2 _, size := rfl, c0 := rfl, c1 := rfl,
      cv := fun i hi => by rcases (by omega : i = 0 ∨ i = 1 ∨ i = 2 ∨ i = 3) with rfl | rfl | rfl | rfl <;> rfl,
      ct := fun i hi => by omega, cd := fun i hi => by omega, tree := fun i hi => by omega, dir := fun i hi => by omega, t1 := fun i hi => by omega, t2 := fun i j hij hj => by omega,
      rib := HR.out.1.ext (HO2.out.2.trans hA3), own := (hO2.ext hA3).base (by have := ((Ext.refl w1).alloc (.cells #[.bool true] 4)).size; omega), r1 := ⟨Nat.le_refl _, by omega⟩,
      q1 := fun x hx => (hO2.lt x (by rw [blks_ubk]; exact hx)).2 }
  clear hO2 hs1 hrl hx02 hs2 hA3 hl hcl hc8 cr
  generalize (w2.alloc (.cells #[.pointer (some ⟨w.heap.size, 0, none⟩), .slice q n c, .slice none 0 0, .pointer none, .pointer none, .slice none 0 0, .pointer none, .pointer none, .slice none 0 0, .pointer none, .pointer none, .slice none 0 0, .pointer none, .pointer none] 72)) = W0 at *
  generalize (#[.pointer (some ⟨w.heap.size, 0, none⟩), .slice q n c, .slice none 0 0, .pointer none, .pointer none, .slice none 0 0, .pointer none, .pointer none, .slice none 0 0, .pointer none, .pointer none, .slice none 0 0, .pointer none, .pointer none] : Array Value) = C0 at *
  generalize w2.heap.size = fb at *
  go_loopg [13] 4 (fun kx s13 wr => ∃ (k : Nat) (C : Array Value) (tb db : Nat → Nat), s13 = .int .i64 k ∧ k ≤ 4 ∧ 4 - k ≤ kx ∧ Hid (NewW w wr fb w.heap.size q n c C tb db k))
  case atStart => exact ⟨0, C0, fun _ => 0, fun _ => 0, rfl, by omega, by omega, HW0⟩
  case round =>
    obtain ⟨k, C, tb, db, rfl, hk4, hkx, HW⟩ := hrel
    clear HW0
    by_cases hlt : k < 4
    · have hki : (k : Int) < 4 := by omega
      have hki2 : ¬ (4 ≤ (k : Int)) := by omega
      go_wp2_with fail
      refine wp_region_eagerX fb [(0, false), (1, false), (5, false), (6, false), (2, true), (3, true), (4, false), (7, false), (8, true)] (by kernel_rfl) (by kernel_rfl) rfl (by kernel_rfl) (fun _ _ _ _ _ h => h) ?_
      have hxd : Ext wr wr.drew := (Ext.refl wr).drew
      generalize wr.drew = W at *
      iterate 4 (refine wpE_read (v := ?_) rfl (by rfl) ?_ ?_; rotate_left; (focus (intro w' hx; go_simp; first | done | with_reducible rfl)); simp only [Act.put, List.setIfInBounds_toArray, List.set_cons_zero, List.set_cons_succ])
      (refine wpE_call rfl (by rfl) (fun K hK => ?_); go_simp; first | (go_at_call 32; refine (tnew W).mono ?_; rintro e w5 ⟨rfl, hx5, ht5⟩; refine hK _ _ (hx5.but fb) ?_; clear hK K))
      have HT5 : Hid (Ext W w5 ∧ TrieR w5 W.heap.size [] [W.heap.size]) := ⟨hx5, ht5⟩
      clear ht5
      (refine wpE_call rfl (by rfl) (fun K hK => ?_); go_simp; first | (go_at_call 33; refine (new_at 16 w5).mono ?_; rintro e w6 ⟨rfl, hx6, hd6⟩; refine hK _ _ (hx6.but fb) ?_; clear hK K))
      rw [maxV16] at hd6
      have HD6 : Hid (Ext w5 w6 ∧ DirAt w6 w5.heap.size 16 [] [w5.heap.size]) := ⟨hx6, hd6⟩
      have HO6 : Hid (w6.heap[fb]? = some (.cells C 72 (0, 0))) := (hxd.trans (hx5.trans hx6)).heap HW.out.obj
      have HX5 : Hid (Ext wr w5) := hxd.trans hx5
      have HZ5 : Hid (wr.heap.size ≤ W.heap.size) := hxd.size
      clear hd6 hx5 hx6 hxd
      have cx : ∀ j, j < 14 → ∃ u, w6.cell? ⟨fb, j, none⟩ = some u := fun j hj => by
        obtain ⟨u, hu⟩ : ∃ u, C[j]? = some u := ⟨_, Array.getElem?_eq_getElem (by rw [HW.out.size]; exact hj)⟩
        exact ⟨u, by rw [heap_cell HO6.out, hu]⟩
      obtain ⟨u0, a0⟩ := cx (2 + k * 3) (by omega)
      obtain ⟨u1, a1⟩ := cx (2 + k * 3 + 1) (by omega)
      obtain ⟨u2, a2⟩ := cx (2 + k * 3 + 2) (by omega)
      have f0 : ∀ j, w6.frozen? ⟨fb, j, none⟩ = false := fun j => heap_frozen HO6.out
      clear cx
      iterate 2 (refine wpE_read (v := ?_) rfl (by rfl) ?_ ?_; rotate_left; (focus (intro w' hx; go_simp; first | done | with_reducible rfl)); simp only [Act.put, List.setIfInBounds_toArray, List.set_cons_zero, List.set_cons_succ])
      refine wpE_call rfl (by rfl) (fun K hK => ?_)
      go_simp
      have hxn : ExtX fb w6 (((w6.setCell ⟨fb, 2 + k * 3, none⟩ (.slice none 0 0)).setCell ⟨fb, 2 + k * 3 + 1, none⟩ (.pointer (some ⟨W.heap.size, 0, none⟩))).setCell ⟨fb, 2 + k * 3 + 2, none⟩ (.pointer (some ⟨w5.heap.size, 0, none⟩))) := ((ExtX.setCell (ExtX.refl fb w6) (p := ⟨fb, 2 + k * 3, none⟩) rfl _).setCell (p := ⟨fb, 2 + k * 3 + 1, none⟩) rfl _).setCell (p := ⟨fb, 2 + k * 3 + 2, none⟩) rfl _
      refine hK _ _ hxn ?_
      clear hK K
      refine wpE_done ?_
      have HW7 := HW.out.step hlt HX5.out HT5.out.2 HZ5.out HD6.out.1 HD6.out.2 (Nat.le_refl _)
      have H7 : Hid _ := HW7
      clear HW7 hxn a0 a1 a2 f0
      go_wp2_with fail
      go_roundg (4 - (k + 1))
      case measure => omega
      case rel => exact ⟨k + 1, _, _, _, by go_num, by omega, Nat.le_refl _, H7.out⟩
    · obtain rfl : k = 4 := by omega
      go_wp2_with fail
      go_ret
      obtain ⟨F, h1, h2⟩ := HW.out.fib HN.out
      exact ⟨fb, F, rfl, h1, HW.out.ext, h2⟩
end Go.Proofs.YtmoimkeeldlpkaaGreat.Fb

namespace Go.Proofs.YtmoimkeeldlpkaaGreat.Rb

set_option maxRecDepth 100000

open Go.RowKit Go.Proofs.YtmoimkeeldlpkaaGreat

set_option linter.unusedVariables false

set_option linter.unusedSimpArgs false

/-- A block whose first cell is a row of ways. -/
def RibIn (ty : TypeId) (rest : List Value) (w : World) (rb : Nat) (v : Value) (L : List Rt) : Prop := w.heap[rb]? = some (.cells (v :: rest).toArray ty (0, 0)) ∧ OwnR w 0 v L

theorem RibIn.ext {ty : TypeId} {rest : List Value} {w w' : World} {rb : Nat} {v : Value} {L : List Rt} (h : RibIn ty rest w rb v L) (hx : Ext w w') : RibIn ty rest w' rb v L := ⟨hx.heap h.1, h.2.ext hx⟩

theorem top_cell {ty : TypeId} {rest : List Value} {w : World} {rb : Nat} {v : Value} (h : w.heap[rb]? = some (.cells (v :: rest).toArray ty (0, 0))) : w.cell? ⟨rb, 0, none⟩ = some v := by
  rw [heap_cell h]
  simp

/-- Another row in it: what was there, or one of new blocks; nothing else is written. -/
def RibNew (ty : TypeId) (rest : List Value) (w : World) (rb : Nat) (v : Value) (L' : List Rt) (w' : World) : Prop := ∃ v', RibIn ty rest w' rb v' L' ∧ ExtS [rb] w w' ∧ (v' = v ∨ ∀ x ∈ blks v', w.heap.size ≤ x)

theorem RibNew.same {ty : TypeId} {rest : List Value} {w w' : World} {rb : Nat} {v : Value} {L : List Rt} (h : RibIn ty rest w rb v L) (hx : Ext w w') : RibNew ty rest w rb v L w' := ⟨v, h.ext hx, hx.toS _, .inl rfl⟩

theorem RibNew.from {ty : TypeId} {rest : List Value} {w w1 w' : World} {rb : Nat} {v : Value} {L' : List Rt} (hx : Ext w w1) (h : RibNew ty rest w1 rb v L' w') : RibNew ty rest w rb v L' w' := by
  obtain ⟨v', h1, h2, h3⟩ := h
  exact ⟨v', h1, ExtS.then (hx.toS _) h2 fun b hb => .inl hb, h3.imp_right fun h x hx' => Nat.le_trans hx.size (h x hx')⟩

theorem RibNew.put {ty : TypeId} {rest : List Value} {w W3 : World} {rb : Nat} {L' : List Rt} {v v' : Value} (hw : w.heap[rb]? = some (.cells (v :: rest).toArray ty (0, 0))) (ht : ty ≠ 33) (hx3 : Ext w W3) (ho : OwnR W3 0 v' L') (hb : ∀ x ∈ blks v', w.heap.size ≤ x) :
    RibNew ty rest w rb v L' (W3.setCell ⟨rb, 0, none⟩ v') := by
  have h3 := hx3.heap hw
  have h4 := own_ne ho h3 ht
  have hx : ExtS [rb] W3 (W3.setCell ⟨rb, 0, none⟩ v') := ExtS.setCell (ExtS.refl [rb] W3) (p := ⟨rb, 0, none⟩) (.inl (by simp)) _
  refine ⟨v', ⟨?_, ho.later hx fun g hg e => h4 (by simp only [List.mem_singleton] at e; rwa [e] at hg)⟩, ExtS.then (hx3.toS _) hx fun b hb => .inl hb, .inr hb⟩
  rw [heap_set h3]
  simp

set_option maxHeartbeats 1000000 in
theorem place_in (xb : Nat) (L : List Rt) (ty : TypeId) (rest : List Value) (v : Value) (r : Rt) (w : World) (h : RibIn ty rest w xb v L) (hn : L.length ≤ 1000000) :
    Calls Tryz.prog 55 #[.pointer (some ⟨xb, 0, none⟩), (.agg #[.int .i64 r.t, .int .u32 r.a, .int .i64 r.l, .int .i64 r.i, .int .u32 r.g, .int .i64 r.m])] w fun e w' => e = .returned (.tuple #[.int .i64 (posR L r : Nat), .bool (hereB L r)]) ∧ Ext w w' := by
  obtain ⟨hX, hO⟩ := h
  obtain ⟨p, c, rfl, hc1, -, hR⟩ := hO.slice
  have hA : Ext w (w.alloc (.cells #[.int .i64 r.t, .int .u32 r.a, .int .i64 r.l, .int .i64 r.i, .int .u32 r.g, .int .i64 r.m] 33)) := (Ext.refl w).alloc _
  have HQ : Hid _ := box_rtE (heap_new w (.cells #[.int .i64 r.t, .int .u32 r.a, .int .i64 r.l, .int .i64 r.i, .int .u32 r.g, .int .i64 r.m] 33))
  have HV : Hid (∀ w', Ext w w' → w'.cell? ⟨xb, 0, none⟩ = some (.slice p L.length c)) := fun w' hx => top_cell (hx.heap hX)
  have HR : Hid (Rd w p L.length c L) := hR
  have kb := fun x w => before_any x r w
  have kc := fun x w => before_any r x w
  clear hX hO hR
  go_enter Tryz.func55, Tryz.ntmps55
  go_wp2_with fail
  generalize hW0 : (w.alloc (.cells #[.int .i64 r.t, .int .u32 r.a, .int .i64 r.l, .int .i64 r.i, .int .u32 r.g, .int .i64 r.m] 33)) = W0 at *
  clear hW0
  go_loopw [6] (fun i wr => ∃ k : Nat, k ≤ L.length ∧ i = .int .i64 k ∧ Ext W0 wr ∧ Hid (∀ (j : Nat) (x : Rt), j < k → L[j]? = some x → ltB x r = true)) (fun i _ => L.length - (intOf i).toNat)
  case atStart => exact ⟨0, Nat.zero_le _, rfl, Ext.refl _, (fun j x hj => by omega : ∀ (j : Nat) (x : Rt), j < 0 → L[j]? = some x → ltB x r = true)⟩
  case round =>
    obtain ⟨k, hk, rfl, hx, HK⟩ := hrel
    obtain ⟨a0, a1, a2, a3, a4, a5⟩ := HQ.out
    have hd := hx.drew
    have t0 := fun w' h => a0 w' (hd.trans h)
    have t1 := fun w' h => a1 w' (hd.trans h)
    have t2 := fun w' h => a2 w' (hd.trans h)
    have t3 := fun w' h => a3 w' (hd.trans h)
    have t4 := fun w' h => a4 w' (hd.trans h)
    have t5 := fun w' h => a5 w' (hd.trans h)
    have v0 : ∀ w', Ext wr.drew w' → w'.cell? ⟨xb, 0, none⟩ = some (.slice p L.length c) := fun w' h => HV.out w' (hA.trans (hd.trans h))
    clear a0 a1 a2 a3 a4 a5
    by_cases hlt : k < L.length
    · obtain ⟨x, hxk⟩ : ∃ x, L[k]? = some x := ⟨_, List.getElem?_eq_getElem hlt⟩
      obtain ⟨b, off, rfl, hb, g0, g1, g2, g3, g4, g5⟩ := (HR.out.ext (hA.trans hd)).cell hxk
      have x0 : ∀ w', Ext wr.drew w' → w'.cell? ⟨b, off + k * 6, none⟩ = some (.int .i64 x.t) := fun w' h => by rw [h.below.cell (p := ⟨b, off + k * 6, none⟩) hb]; exact g0
      have x1 : ∀ w', Ext wr.drew w' → w'.cell? ⟨b, off + k * 6 + 1, none⟩ = some (.int .u32 x.a) := fun w' h => by rw [h.below.cell (p := ⟨b, off + k * 6 + 1, none⟩) hb]; exact g1
      have x2 : ∀ w', Ext wr.drew w' → w'.cell? ⟨b, off + k * 6 + 2, none⟩ = some (.int .i64 x.l) := fun w' h => by rw [h.below.cell (p := ⟨b, off + k * 6 + 2, none⟩) hb]; exact g2
      have x3 : ∀ w', Ext wr.drew w' → w'.cell? ⟨b, off + k * 6 + 3, none⟩ = some (.int .i64 x.i) := fun w' h => by rw [h.below.cell (p := ⟨b, off + k * 6 + 3, none⟩) hb]; exact g3
      have x4 : ∀ w', Ext wr.drew w' → w'.cell? ⟨b, off + k * 6 + 4, none⟩ = some (.int .u32 x.g) := fun w' h => by rw [h.below.cell (p := ⟨b, off + k * 6 + 4, none⟩) hb]; exact g4
      have x5 : ∀ w', Ext wr.drew w' → w'.cell? ⟨b, off + k * 6 + 5, none⟩ = some (.int .i64 x.m) := fun w' h => by rw [h.below.cell (p := ⟨b, off + k * 6 + 5, none⟩) hb]; exact g5
      have k1 := fun w => kb x w
      have k2 := fun w => kc x w
      have HX : Hid _ := hxk
      have hki : (k : Int) < (L.length : Int) := by omega
      clear hxk g0 g1 g2 g3 g4 g5 kb kc
      generalize hz : ltB x r = z at k1
      have HZ : Hid _ := hz
      clear hz
      cases z
      · go_wp2_with fail
        refine wp_region_eager [(0, false), (1, false), (2, false), (3, false), (4, false), (5, false), (6, false), (7, false), (8, false), (9, false), (10, false), (11, false), (12, false), (13, false), (14, false), (15, false), (16, true), (17, false)] (by kernel_rfl) (by kernel_rfl) rfl (by kernel_rfl) (fun _ _ _ _ _ h => h) ?_
        generalize wr.drew = W at *
        iterate 16 (refine wpE_read (v := ?_) rfl (by rfl) ?_ ?_; rotate_left; (focus (intro w' hx; go_simp; first | done | with_reducible rfl)); simp only [Act.put, List.setIfInBounds_toArray, List.set_cons_zero, List.set_cons_succ])
        (refine wpE_call rfl (by rfl) (fun K hK => ?_); go_simp; first
              | (go_at_call 72; refine (k1 _).mono ?_; rintro e w1 ⟨rfl, hx1⟩; refine hK _ _ hx1 ?_; clear hK K))
        iterate 1 (refine wpE_read (v := ?_) rfl (by rfl) ?_ ?_; rotate_left; (focus (intro w' hx; go_simp; first | done | with_reducible rfl)); simp only [Act.put, List.setIfInBounds_toArray, List.set_cons_zero, List.set_cons_succ])
        refine wpE_done ?_
        go_wp2_with fail
        refine wp_region_eager [(0, false), (1, false), (2, false), (3, false), (4, false), (5, false), (6, false), (7, false), (8, false), (9, false), (10, false), (11, false), (12, false), (13, false), (14, false), (15, false), (16, false), (17, true), (18, false), (19, false), (20, false), (21, false)] (by kernel_rfl) (by kernel_rfl) rfl (by kernel_rfl) (fun _ _ _ _ _ h => h) ?_
        have hx2 := hx1.drew
        generalize w1.drew = W2 at *
        replace t0 := fun w' h => t0 w' (hx2.trans h); replace t1 := fun w' h => t1 w' (hx2.trans h); replace t2 := fun w' h => t2 w' (hx2.trans h); replace t3 := fun w' h => t3 w' (hx2.trans h); replace t4 := fun w' h => t4 w' (hx2.trans h); replace t5 := fun w' h => t5 w' (hx2.trans h); replace v0 := fun w' h => v0 w' (hx2.trans h); replace x0 := fun w' h => x0 w' (hx2.trans h); replace x1 := fun w' h => x1 w' (hx2.trans h); replace x2 := fun w' h => x2 w' (hx2.trans h); replace x3 := fun w' h => x3 w' (hx2.trans h); replace x4 := fun w' h => x4 w' (hx2.trans h); replace x5 := fun w' h => x5 w' (hx2.trans h)
        iterate 17 (refine wpE_read (v := ?_) rfl (by rfl) ?_ ?_; rotate_left; (focus (intro w' hx; go_simp; first | done | with_reducible rfl)); simp only [Act.put, List.setIfInBounds_toArray, List.set_cons_zero, List.set_cons_succ])
        (refine wpE_call rfl (by rfl) (fun K hK => ?_); go_simp; first
              | (go_at_call 72; refine (k2 _).mono ?_; rintro e w3 ⟨rfl, hx3⟩; refine hK _ _ hx3 ?_; clear hK K))
        iterate 4 (refine wpE_read (v := ?_) rfl (by rfl) ?_ ?_; rotate_left; (focus (intro w' hx; go_simp; first | done | with_reducible rfl)); simp only [Act.put, List.setIfInBounds_toArray, List.set_cons_zero, List.set_cons_succ])
        refine wpE_done ?_
        go_wp2_with fail
        go_ret2
        have hpos : posR L r = k := twN_unique _ L k hk HK.out (fun y hy => by rw [HX.out] at hy; cases hy; exact HZ.out)
        rw [hpos, here_stop hpos HX.out]
        exact ⟨rfl, hA.trans (hd.trans (hx2.trans hx3))⟩
      · go_wp2_with fail
        refine wp_region_eager [(0, false), (1, false), (2, false), (3, false), (4, false), (5, false), (6, false), (7, false), (8, false), (9, false), (10, false), (11, false), (12, false), (13, false), (14, false), (15, false), (16, true), (17, false)] (by kernel_rfl) (by kernel_rfl) rfl (by kernel_rfl) (fun _ _ _ _ _ h => h) ?_
        generalize wr.drew = W at *
        iterate 16 (refine wpE_read (v := ?_) rfl (by rfl) ?_ ?_; rotate_left; (focus (intro w' hx; go_simp; first | done | with_reducible rfl)); simp only [Act.put, List.setIfInBounds_toArray, List.set_cons_zero, List.set_cons_succ])
        (refine wpE_call rfl (by rfl) (fun K hK => ?_); go_simp; first
              | (go_at_call 72; refine (k1 _).mono ?_; rintro e w1 ⟨rfl, hx1⟩; refine hK _ _ hx1 ?_; clear hK K))
        iterate 1 (refine wpE_read (v := ?_) rfl (by rfl) ?_ ?_; rotate_left; (focus (intro w' hx; go_simp; first | done | with_reducible rfl)); simp only [Act.put, List.setIfInBounds_toArray, List.set_cons_zero, List.set_cons_succ])
        refine wpE_done ?_
        go_wp2_with fail
        go_roundw
        case rel => exact ⟨k + 1, by omega, by go_num, hd.trans hx1, (fun j y hj hy => by
          rcases Nat.lt_or_ge j k with h | h
          · exact HK.out j y h hy
          · obtain rfl : j = k := by omega
            rw [HX.out] at hy; cases hy; exact HZ.out : ∀ (j : Nat) (x : Rt), j < k + 1 → L[j]? = some x → ltB x r = true)⟩
        case measure => simp [intOf]; omega
    · obtain rfl : k = L.length := by omega
      clear kb kc
      go_wp2_with fail
      refine wp_region_eager [(0, false), (1, false), (2, false), (3, false), (4, false), (5, false), (6, false), (7, false), (8, false), (9, false), (10, false), (11, false), (12, false), (13, false), (14, false), (15, false), (16, true), (17, false)] (by kernel_rfl) (by kernel_rfl) rfl (by kernel_rfl) (fun _ _ _ _ _ h => h) ?_
      generalize wr.drew = W at *
      iterate 8 (refine wpE_read (v := ?_) rfl (by rfl) ?_ ?_; rotate_left; (focus (intro w' hx; go_simp; first | done | with_reducible rfl)); simp only [Act.put, List.setIfInBounds_toArray, List.set_cons_zero, List.set_cons_succ])
      iterate 9 (rw [wpE_skip_eq _ rfl (by rfl)]; simp only [Act.put, List.setIfInBounds_toArray, List.set_cons_zero, List.set_cons_succ])
      iterate 1 (refine wpE_read (v := ?_) rfl (by rfl) ?_ ?_; rotate_left; (focus (intro w' hx; go_simp; first | done | with_reducible rfl)); simp only [Act.put, List.setIfInBounds_toArray, List.set_cons_zero, List.set_cons_succ])
      refine wpE_done ?_
      go_wp2_with fail
      refine wp_region_eager [(0, false), (1, false), (2, false), (3, false), (4, false), (5, false), (6, false), (7, false), (8, false), (9, false), (10, false), (11, false), (12, false), (13, false), (14, false), (15, false), (16, false), (17, true), (18, false), (19, false), (20, false), (21, false)] (by kernel_rfl) (by kernel_rfl) rfl (by kernel_rfl) (fun _ _ _ _ _ h => h) ?_
      have hx2 := (Ext.refl W).drew
      generalize W.drew = W2 at *
      replace t0 := fun w' h => t0 w' (hx2.trans h); replace t1 := fun w' h => t1 w' (hx2.trans h); replace t2 := fun w' h => t2 w' (hx2.trans h); replace t3 := fun w' h => t3 w' (hx2.trans h); replace t4 := fun w' h => t4 w' (hx2.trans h); replace t5 := fun w' h => t5 w' (hx2.trans h); replace v0 := fun w' h => v0 w' (hx2.trans h)
      iterate 9 (refine wpE_read (v := ?_) rfl (by rfl) ?_ ?_; rotate_left; (focus (intro w' hx; go_simp; first | done | with_reducible rfl)); simp only [Act.put, List.setIfInBounds_toArray, List.set_cons_zero, List.set_cons_succ])
      iterate 10 (rw [wpE_skip_eq _ rfl (by rfl)]; simp only [Act.put, List.setIfInBounds_toArray, List.set_cons_zero, List.set_cons_succ])
      iterate 3 (refine wpE_read (v := ?_) rfl (by rfl) ?_ ?_; rotate_left; (focus (intro w' hx; go_simp; first | done | with_reducible rfl)); simp only [Act.put, List.setIfInBounds_toArray, List.set_cons_zero, List.set_cons_succ])
      refine wpE_done ?_
      go_wp2_with fail
      go_ret2
      have hpos : posR L r = L.length := twN_unique _ L L.length (Nat.le_refl _) HK.out (fun y hy => by rw [List.getElem?_eq_none (Nat.le_refl _)] at hy; cases hy)
      have hh : hereB L r = false := by rw [here_at, hpos, List.getElem?_eq_none (Nat.le_refl _)]
      rw [hpos, hh]
      exact ⟨rfl, hA.trans (hd.trans hx2)⟩
end Go.Proofs.YtmoimkeeldlpkaaGreat.Rb
