/- Flows (chapter 8): KeyOf, Turn, two flows that are one. -/
import Derived.Test.YtkagkfbdpiblkaaPack4
import Derived.Laws.StructEq
namespace Go.Proofs.Ytkagkfbdpiblkaa.Pack
open Go.RowKit
set_option linter.unusedVariables false
set_option maxRecDepth 100000

theorem key_size : (Try.prog.info? 38).map (·.size) = some 5 := by kernel_rfl

theorem key_guard : Try.prog.eqGuardType Try.prog.depth 38 = false := by kernel_rfl

theorem equalIn_key (p q : KEYv) (w : World) : (Op.equalIn 10000 38 (.agg #[.int .i64 p.proto, .int .u32 p.src, .int .u32 p.dst, .int .i64 p.a, .int .i64 p.b]) (.agg #[.int .i64 q.proto, .int .u32 q.src, .int .u32 q.dst, .int .i64 q.a, .int .i64 q.b])).run Try.prog w = .ok (keySame p q) w := by
  obtain ⟨a0, a1, a2, a3, a4⟩ := p
  obtain ⟨b0, b1, b2, b3, b4⟩ := q
  dsimp only [keySame]
  rw [run_equalIn_agg w 9999 38 _ _ (by kernel_rfl) (by kernel_rfl)]
  have hf : (Try.prog.fieldsOf 38).toList.map (fun f => (f.name == "_", f.type, f.offset)) = [(false, 3, 0), (false, 23, 1), (false, 23, 2), (false, 3, 3), (false, 3, 4)] := by kernel_rfl
  generalize (Try.prog.fieldsOf 38).toList = l at hf
  rcases l with _ | ⟨f0, _ | ⟨f1, _ | ⟨f2, _ | ⟨f3, _ | ⟨f4, _ | ⟨f5, r⟩⟩⟩⟩⟩⟩
  · simp at hf
  · simp at hf
  · simp at hf
  · simp at hf
  · simp at hf
  · simp only [List.map_cons, List.map_nil, List.cons.injEq, Prod.mk.injEq, and_true, beq_eq_false_iff_ne, ne_eq] at hf
    obtain ⟨⟨p0, t0, o0⟩, ⟨p1, t1, o1⟩, ⟨p2, t2, o2⟩, ⟨p3, t3, o3⟩, p4, t4, o4⟩ := hf
    simp only [Op.eqFields, ne_eq, p0, p1, p2, p3, p4, not_false_eq_true, if_true, t0, t1, t2, t3, t4, o0, o1, o2, o3, o4]
    go_simp
    by_cases h0 : a0 = b0 <;> by_cases h1 : a1 = b1 <;> by_cases h2 : a2 = b2 <;> by_cases h3 : a3 = b3 <;> by_cases h4 : a4 = b4 <;> simp [h0, h1, h2, h3, h4]
  · simp at hf

theorem eql_key (p q : KEYv) (w : World) : (binOp .eql 38 (.agg #[.int .i64 p.proto, .int .u32 p.src, .int .u32 p.dst, .int .i64 p.a, .int .i64 p.b]) (.agg #[.int .i64 q.proto, .int .u32 q.src, .int .u32 q.dst, .int .i64 q.a, .int .i64 q.b])).run Try.prog w = .ok (.bool (keySame p q)) w := by
  rw [run_eql_struct, equalIn_key]; rfl

theorem neq_key (p q : KEYv) (w : World) : (binOp .neq 38 (.agg #[.int .i64 p.proto, .int .u32 p.src, .int .u32 p.dst, .int .i64 p.a, .int .i64 p.b]) (.agg #[.int .i64 q.proto, .int .u32 q.src, .int .u32 q.dst, .int .i64 q.a, .int .i64 q.b])).run Try.prog w = .ok (.bool (!keySame p q)) w := by
  rw [run_neq_struct, equalIn_key]; rfl

set_option maxHeartbeats 1000000 in
theorem keyOf_any (p0 p1 : Int) (p2 p3 : Bool) (p4 p5 p6 p7 p8 : Int) (a1 : Option Addr) (n1 c1 : Nat) (a2 : Option Addr) (n2 c2 : Nat) (m0 m1 m2 m3 m4 m5 : Int) (kp : Option Addr) (w : World) :
    Calls Try.prog 13 #[.agg #[.int .i64 p0, .int .i64 p1, .bool p2, .bool p3, .int .i64 p4, .int .i64 p5, .int .i64 p6, .int .u32 p7, .int .u32 p8, .slice a1 n1 c1, .slice a2 n2 c2, .int .i64 m0, .int .i64 m1, .int .i64 m2, .int .i64 m3, .int .i64 m4, .int .i64 m5, .pointer kp]] w fun e w' => e = .returned (.agg #[.int .i64 p6, .int .u32 p7, .int .u32 p8, .int .i64 m1, .int .i64 m2]) ∧ Ext w w' := by
  obtain ⟨H1, H2⟩ := two_new w (.cells #[.int .i64 p0, .int .i64 p1, .bool p2, .bool p3, .int .i64 p4, .int .i64 p5, .int .i64 p6, .int .u32 p7, .int .u32 p8, .slice a1 n1 c1, .slice a2 n2 c2, .int .i64 m0, .int .i64 m1, .int .i64 m2, .int .i64 m3, .int .i64 m4, .int .i64 m5, .pointer kp] 28) (.cells #[.int .i64 0, .int .u32 0, .int .u32 0, .int .i64 0, .int .i64 0] 38)
  have hx0 := ((Ext.refl w).alloc (.cells #[.int .i64 p0, .int .i64 p1, .bool p2, .bool p3, .int .i64 p4, .int .i64 p5, .int .i64 p6, .int .u32 p7, .int .u32 p8, .slice a1 n1 c1, .slice a2 n2 c2, .int .i64 m0, .int .i64 m1, .int .i64 m2, .int .i64 m3, .int .i64 m4, .int .i64 m5, .pointer kp] 28)).alloc (.cells #[.int .i64 0, .int .u32 0, .int .u32 0, .int .i64 0, .int .i64 0] 38)
  go_enter Try.func13, Try.ntmps13
  iterate 8 (first | go_values | go_skip | go_guarded | go_step | go_upon | go_in | go_simp)
  generalize ((w.alloc (.cells #[.int .i64 p0, .int .i64 p1, .bool p2, .bool p3, .int .i64 p4, .int .i64 p5, .int .i64 p6, .int .u32 p7, .int .u32 p8, .slice a1 n1 c1, .slice a2 n2 c2, .int .i64 m0, .int .i64 m1, .int .i64 m2, .int .i64 m3, .int .i64 m4, .int .i64 m5, .pointer kp] 28)).alloc (.cells #[.int .i64 0, .int .u32 0, .int .u32 0, .int .i64 0, .int .i64 0] 38)) = W at *
  have x6 := heap_cell (k := 6) H1
  have x7 := heap_cell (k := 7) H1
  have x8 := heap_cell (k := 8) H1
  have xc := heap_cell (k := 12) H1
  have xd := heap_cell (k := 13) H1
  have K2 : Hid _ := H2
  clear H1 H2
  go_wp2_with (refine wpl_store (by rfl) 38 _ _ rfl rfl 5 (w.heap.size + 1) _ _ _ rfl rfl K2.out key_size rfl rfl (by simp [Value.oneCell']) ?_; intro w5 hx5 k5)
  exact bodyPost_ret (results_one Try.results13 _ rfl k5 Try.underlying38 rfl key_size) rfl ⟨rfl, ExtX.ext hx0 hx5 (by omega)⟩

set_option maxHeartbeats 1000000 in
theorem refKeyOf_any (p0 p1 : Int) (p2 p3 : Bool) (p4 p5 p6 p7 p8 : Int) (a1 : Option Addr) (n1 c1 : Nat) (a2 : Option Addr) (n2 c2 : Nat) (m0 m1 m2 m3 m4 m5 : Int) (kp : Option Addr) (w : World) :
    Calls Try.prog 14 #[.agg #[.int .i64 p0, .int .i64 p1, .bool p2, .bool p3, .int .i64 p4, .int .i64 p5, .int .i64 p6, .int .u32 p7, .int .u32 p8, .slice a1 n1 c1, .slice a2 n2 c2, .int .i64 m0, .int .i64 m1, .int .i64 m2, .int .i64 m3, .int .i64 m4, .int .i64 m5, .pointer kp]] w fun e w' => e = .returned (.agg #[.int .i64 p6, .int .u32 p7, .int .u32 p8, .int .i64 m1, .int .i64 m2]) ∧ Ext w w' := by
  obtain ⟨H1, H2⟩ := two_new w (.cells #[.int .i64 p0, .int .i64 p1, .bool p2, .bool p3, .int .i64 p4, .int .i64 p5, .int .i64 p6, .int .u32 p7, .int .u32 p8, .slice a1 n1 c1, .slice a2 n2 c2, .int .i64 m0, .int .i64 m1, .int .i64 m2, .int .i64 m3, .int .i64 m4, .int .i64 m5, .pointer kp] 28) (.cells #[.int .i64 0, .int .u32 0, .int .u32 0, .int .i64 0, .int .i64 0] 38)
  have hx0 := ((Ext.refl w).alloc (.cells #[.int .i64 p0, .int .i64 p1, .bool p2, .bool p3, .int .i64 p4, .int .i64 p5, .int .i64 p6, .int .u32 p7, .int .u32 p8, .slice a1 n1 c1, .slice a2 n2 c2, .int .i64 m0, .int .i64 m1, .int .i64 m2, .int .i64 m3, .int .i64 m4, .int .i64 m5, .pointer kp] 28)).alloc (.cells #[.int .i64 0, .int .u32 0, .int .u32 0, .int .i64 0, .int .i64 0] 38)
  go_enter Try.func14, Try.ntmps14
  iterate 8 (first | go_values | go_skip | go_guarded | go_step | go_upon | go_in | go_simp)
  generalize ((w.alloc (.cells #[.int .i64 p0, .int .i64 p1, .bool p2, .bool p3, .int .i64 p4, .int .i64 p5, .int .i64 p6, .int .u32 p7, .int .u32 p8, .slice a1 n1 c1, .slice a2 n2 c2, .int .i64 m0, .int .i64 m1, .int .i64 m2, .int .i64 m3, .int .i64 m4, .int .i64 m5, .pointer kp] 28)).alloc (.cells #[.int .i64 0, .int .u32 0, .int .u32 0, .int .i64 0, .int .i64 0] 38)) = W at *
  have x6 := heap_cell (k := 6) H1
  have x7 := heap_cell (k := 7) H1
  have x8 := heap_cell (k := 8) H1
  have xc := heap_cell (k := 12) H1
  have xd := heap_cell (k := 13) H1
  have K2 : Hid _ := H2
  clear H1 H2
  go_wp2_with (refine wpl_store (by rfl) 38 _ _ rfl rfl 5 (w.heap.size + 1) _ _ _ rfl rfl K2.out key_size rfl rfl (by simp [Value.oneCell']) ?_; intro w5 hx5 k5)
  exact bodyPost_ret (results_one Try.results14 _ rfl k5 Try.underlying38 rfl key_size) rfl ⟨rfl, ExtX.ext hx0 hx5 (by omega)⟩

set_option maxHeartbeats 1000000 in
theorem turn_any (k0 k1 k2 k3 k4 : Int) (w : World) :
    Calls Try.prog 15 #[.agg #[.int .i64 k0, .int .u32 k1, .int .u32 k2, .int .i64 k3, .int .i64 k4]] w fun e w' => e = .returned (.agg #[.int .i64 k0, .int .u32 k2, .int .u32 k1, .int .i64 k4, .int .i64 k3]) ∧ Ext w w' := by
  obtain ⟨H1, H2⟩ := two_new w (.cells #[.int .i64 k0, .int .u32 k1, .int .u32 k2, .int .i64 k3, .int .i64 k4] 38) (.cells #[.int .i64 0, .int .u32 0, .int .u32 0, .int .i64 0, .int .i64 0] 38)
  have hx0 := ((Ext.refl w).alloc (.cells #[.int .i64 k0, .int .u32 k1, .int .u32 k2, .int .i64 k3, .int .i64 k4] 38)).alloc (.cells #[.int .i64 0, .int .u32 0, .int .u32 0, .int .i64 0, .int .i64 0] 38)
  go_enter Try.func15, Try.ntmps15
  iterate 8 (first | go_values | go_skip | go_guarded | go_step | go_upon | go_in | go_simp)
  generalize ((w.alloc (.cells #[.int .i64 k0, .int .u32 k1, .int .u32 k2, .int .i64 k3, .int .i64 k4] 38)).alloc (.cells #[.int .i64 0, .int .u32 0, .int .u32 0, .int .i64 0, .int .i64 0] 38)) = W at *
  have x0 := heap_cell (k := 0) H1
  have x1 := heap_cell (k := 1) H1
  have x2 := heap_cell (k := 2) H1
  have x3 := heap_cell (k := 3) H1
  have x4 := heap_cell (k := 4) H1
  have K2 : Hid _ := H2
  clear H1 H2
  go_wp2_with (refine wpl_store (by rfl) 38 _ _ rfl rfl 5 (w.heap.size + 1) _ _ _ rfl rfl K2.out key_size rfl rfl (by simp [Value.oneCell']) ?_; intro w5 hx5 k5)
  exact bodyPost_ret (results_one Try.results15 _ rfl k5 Try.underlying38 rfl key_size) rfl ⟨rfl, ExtX.ext hx0 hx5 (by omega)⟩

set_option maxHeartbeats 1000000 in
theorem refTurn_any (k0 k1 k2 k3 k4 : Int) (w : World) :
    Calls Try.prog 16 #[.agg #[.int .i64 k0, .int .u32 k1, .int .u32 k2, .int .i64 k3, .int .i64 k4]] w fun e w' => e = .returned (.agg #[.int .i64 k0, .int .u32 k2, .int .u32 k1, .int .i64 k4, .int .i64 k3]) ∧ Ext w w' := by
  obtain ⟨H1, H2⟩ := two_new w (.cells #[.int .i64 k0, .int .u32 k1, .int .u32 k2, .int .i64 k3, .int .i64 k4] 38) (.cells #[.int .i64 0, .int .u32 0, .int .u32 0, .int .i64 0, .int .i64 0] 38)
  have hx0 := ((Ext.refl w).alloc (.cells #[.int .i64 k0, .int .u32 k1, .int .u32 k2, .int .i64 k3, .int .i64 k4] 38)).alloc (.cells #[.int .i64 0, .int .u32 0, .int .u32 0, .int .i64 0, .int .i64 0] 38)
  go_enter Try.func16, Try.ntmps16
  iterate 8 (first | go_values | go_skip | go_guarded | go_step | go_upon | go_in | go_simp)
  generalize ((w.alloc (.cells #[.int .i64 k0, .int .u32 k1, .int .u32 k2, .int .i64 k3, .int .i64 k4] 38)).alloc (.cells #[.int .i64 0, .int .u32 0, .int .u32 0, .int .i64 0, .int .i64 0] 38)) = W at *
  have x0 := heap_cell (k := 0) H1
  have x1 := heap_cell (k := 1) H1
  have x2 := heap_cell (k := 2) H1
  have x3 := heap_cell (k := 3) H1
  have x4 := heap_cell (k := 4) H1
  have K2 : Hid _ := H2
  clear H1 H2
  go_wp2_with (refine wpl_store (by rfl) 38 _ _ rfl rfl 5 (w.heap.size + 1) _ _ _ rfl rfl K2.out key_size rfl rfl (by simp [Value.oneCell']) ?_; intro w5 hx5 k5)
  exact bodyPost_ret (results_one Try.results16 _ rfl k5 Try.underlying38 rfl key_size) rfl ⟨rfl, ExtX.ext hx0 hx5 (by omega)⟩

theorem nil_equalIn {P : Program} (w : World) (d : Nat) (t : TypeId) (a : Addr) (h : P.underlying t = some (.pointer (P.pointee t))) : (Op.equalIn (d + 1) t (.pointer none) (.pointer (some a))).run P w = .ok false w := by
  simp [Op.equalIn, run_underlying h]

theorem nil_eql (a : Addr) (w : World) : (binOp .eql 26 (.pointer none) (.pointer (some a))).run Try.prog w = .ok (.bool false) w := by
  have h : (Op.equal 26 (.pointer none) (.pointer (some a))).run Try.prog w = .ok false w := nil_equalIn w 9999 26 a (by kernel_rfl)
  simp only [binOp]
  simp [h]

theorem key_reads {w : World} {b o : Nat} {q : KEYv} (h : KeyAt w b o q) : (∀ w', Ext w w' → w'.cell? ⟨b, o, none⟩ = some (.int .i64 q.proto)) ∧ (∀ w', Ext w w' → w'.cell? ⟨b, o + 1, none⟩ = some (.int .u32 q.src)) ∧
    (∀ w', Ext w w' → w'.cell? ⟨b, o + 2, none⟩ = some (.int .u32 q.dst)) ∧ (∀ w', Ext w w' → w'.cell? ⟨b, o + 3, none⟩ = some (.int .i64 q.a)) ∧ (∀ w', Ext w w' → w'.cell? ⟨b, o + 4, none⟩ = some (.int .i64 q.b)) :=
  ⟨fun w' hx => (h.later hx).k0, fun w' hx => (h.later hx).k1, fun w' hx => (h.later hx).k2, fun w' hx => (h.later hx).k3, fun w' hx => (h.later hx).k4⟩

set_option maxHeartbeats 1000000 in
theorem sameInner_any (kp kq : Option Addr) (o1 o2 : Option KEYv) (w : World) (h1 : IsKey w kp o1) (h2 : IsKey w kq o2) :
    Calls Try.prog 35 #[.pointer kp, .pointer kq] w fun e w' => e = .returned (.bool (innerSame o1 o2)) ∧ Ext w w' := by
  cases o1 with
  | none =>
    obtain rfl : kp = none := h1
    cases o2 with
    | none =>
      obtain rfl : kq = none := h2
      go_enter Try.func35, Try.ntmps35
      go_wp2
      go_ret
      exact ⟨rfl, Ext.refl w⟩
    | some q =>
      obtain ⟨b, o, rfl, _⟩ := h2
      have ne := fun w => nil_eql ⟨b, o, none⟩ w
      go_enter Try.func35, Try.ntmps35
      go_wp2
      go_ret
      exact ⟨rfl, Ext.refl w⟩
  | some p =>
    obtain ⟨b1, o1, rfl, k1⟩ := h1
    cases o2 with
    | none =>
      obtain rfl : kq = none := h2
      go_enter Try.func35, Try.ntmps35
      go_wp2
      go_ret
      exact ⟨rfl, Ext.refl w⟩
    | some q =>
      obtain ⟨b2, o2, rfl, k2⟩ := h2
      have eg := key_guard
      have eq := fun w => eql_key p q w
      have hV : Ext w w.drew := (Ext.refl w).drew
      obtain ⟨x0, x1, x2, x3, x4⟩ := key_reads (k1.later hV)
      obtain ⟨y0, y1, y2, y3, y4⟩ := key_reads (k2.later hV)
      show Calls _ _ _ _ fun e w' => e = .returned (.bool (keySame p q)) ∧ Ext w w'
      generalize keySame p q = R at *
      obtain ⟨p0, p1, p2, p3, p4⟩ := p
      obtain ⟨q0, q1, q2, q3, q4⟩ := q
      dsimp only at *
      go_enter Try.func35, Try.ntmps35
      go_wp2
      refine wp_region_eager [(0, false), (1, false), (2, false), (3, false), (4, false), (5, false), (6, false), (7, false)] (by kernel_rfl) (by kernel_rfl) rfl (by kernel_rfl) (fun _ _ _ _ _ h => h) ?_
      generalize w.drew = V at *
      iterate 8 (refine wpE_read (v := ?_) rfl (by rfl) ?_ ?_; rotate_left; (focus (intro w' hx; go_simp; first | done | with_reducible rfl)); simp only [Act.put, List.setIfInBounds_toArray, List.set_cons_zero, List.set_cons_succ])
      refine wpE_done ?_
      go_wp2
      go_ret
      exact ⟨rfl, hV⟩

end Go.Proofs.Ytkagkfbdpiblkaa.Pack
