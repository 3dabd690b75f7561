/- == of two rules, and of their parts, field by field. (Its middle is made by tools/made/eqs.py.) -/
import Derived.Test.YtbmmgjmmooakpaaGreatDoorRuP2
import Derived.Test.YtbmmgjmmooakpaaGreatDoorAddr
namespace Go.Proofs.YtbmmgjmmooakpaaGreatDoor.Ru
open Go.RowKit
set_option linter.unusedVariables false
set_option maxRecDepth 100000

theorem eqL {l : List Field} {x : Bool × TypeId × Nat} {r : List (Bool × TypeId × Nat)} (h : l.map (fun f => (f.name == "_", f.type, f.offset)) = x :: r) :
    ∃ f m, l = f :: m ∧ (f.name == "_") = x.1 ∧ f.type = x.2.1 ∧ f.offset = x.2.2 ∧ m.map (fun f => (f.name == "_", f.type, f.offset)) = r := by
  match l, h with
  | f :: m, h =>
    simp only [List.map_cons, List.cons.injEq] at h
    obtain ⟨rfl, h2⟩ := h
    exact ⟨f, m, rfl, rfl, rfl, rfl, h2⟩

theorem eqF {P : Program} {d : Nat} {xs ys : Array Value} {f : Field} {fs : List Field} {w : World} (hn : (f.name == "_") = false) (a b : Value) {c e : Bool}
    (ha : (part f.type xs f.offset).run P w = .ok a w) (hb : (part f.type ys f.offset).run P w = .ok b w) (hc : (Op.equalIn d f.type a b).run P w = .ok c w)
    (he : (Op.eqFields d xs ys fs).run P w = .ok e w) : (Op.eqFields d xs ys (f :: fs)).run P w = .ok (c && e) w := by
  rw [beq_eq_false_iff_ne] at hn
  unfold Op.eqFields
  rw [if_pos hn]
  simp only [Sem.run_bind, ha, hb, hc, Result.andThen_ok]
  cases c
  · simp
  · simpa using he

theorem eqN {P : Program} (d : Nat) (xs ys : Array Value) (w : World) : (Op.eqFields d xs ys []).run P w = .ok true w := by simp [Op.eqFields]

theorem equalIn_pf (d : Nat) (a n b m : Int) (w : World) : (Op.equalIn (d + 2) 24 (.agg #[.int .u32 a, .int .i64 n]) (.agg #[.int .u32 b, .int .i64 m])).run Tryz.prog w = .ok (a == b && (n == m && true)) w := by
  rw [run_equalIn_agg w (d + 1) 24 _ _ (by kernel_rfl) (by kernel_rfl)]
  have hf : (Tryz.prog.fieldsOf 24).toList.map (fun f => (f.name == "_", f.type, f.offset)) = [(false, 22, 0), (false, 3, 1)] := by kernel_rfl
  generalize (Tryz.prog.fieldsOf 24).toList = l at hf
  obtain ⟨f0, l0, rfl, n0, t0, o0, hf⟩ := eqL hf
  obtain ⟨f1, l1, rfl, n1, t1, o1, hf⟩ := eqL hf
  obtain rfl := List.map_eq_nil_iff.1 hf
  refine eqF n0 (.int .u32 a) (.int .u32 b) (by rw [t0, o0]; go_simp) (by rw [t0, o0]; go_simp) (by rw [t0]; exact run_equalIn_int _ _ _ _ _ _ _ Tryz.underlying22) ?_
  refine eqF n1 (.int .i64 n) (.int .i64 m) (by rw [t1, o1]; go_simp) (by rw [t1, o1]; go_simp) (by rw [t1]; exact run_equalIn_int _ _ _ _ _ _ _ Tryz.underlying3) ?_
  exact eqN _ _ _ _


theorem equalIn_ports (d : Nat) (a n b m : Int) (w : World) : (Op.equalIn (d + 2) 26 (.agg #[.int .i64 a, .int .i64 n]) (.agg #[.int .i64 b, .int .i64 m])).run Tryz.prog w = .ok (a == b && (n == m && true)) w := by
  rw [run_equalIn_agg w (d + 1) 26 _ _ (by kernel_rfl) (by kernel_rfl)]
  have hf : (Tryz.prog.fieldsOf 26).toList.map (fun f => (f.name == "_", f.type, f.offset)) = [(false, 3, 0), (false, 3, 1)] := by kernel_rfl
  generalize (Tryz.prog.fieldsOf 26).toList = l at hf
  obtain ⟨f0, l0, rfl, n0, t0, o0, hf⟩ := eqL hf
  obtain ⟨f1, l1, rfl, n1, t1, o1, hf⟩ := eqL hf
  obtain rfl := List.map_eq_nil_iff.1 hf
  refine eqF n0 (.int .i64 a) (.int .i64 b) (by rw [t0, o0]; go_simp) (by rw [t0, o0]; go_simp) (by rw [t0]; exact run_equalIn_int _ _ _ _ _ _ _ Tryz.underlying3) ?_
  refine eqF n1 (.int .i64 n) (.int .i64 m) (by rw [t1, o1]; go_simp) (by rw [t1, o1]; go_simp) (by rw [t1]; exact run_equalIn_int _ _ _ _ _ _ _ Tryz.underlying3) ?_
  exact eqN _ _ _ _


theorem equalIn_pin (d : Nat) (o : Bool) (i : ByteArray) (g : Int) (p : Bool) (j : ByteArray) (h : Int) (w : World) : (Op.equalIn (d + 2) 30 (.agg #[.bool o, .string i, .int .u32 g]) (.agg #[.bool p, .string j, .int .u32 h])).run Tryz.prog w = .ok (o == p && (decide (i = j) && (g == h && true))) w := by
  rw [run_equalIn_agg w (d + 1) 30 _ _ (by kernel_rfl) (by kernel_rfl)]
  have hf : (Tryz.prog.fieldsOf 30).toList.map (fun f => (f.name == "_", f.type, f.offset)) = [(false, 4, 0), (false, 9, 1), (false, 22, 2)] := by kernel_rfl
  generalize (Tryz.prog.fieldsOf 30).toList = l at hf
  obtain ⟨f0, l0, rfl, n0, t0, o0, hf⟩ := eqL hf
  obtain ⟨f1, l1, rfl, n1, t1, o1, hf⟩ := eqL hf
  obtain ⟨f2, l2, rfl, n2, t2, o2, hf⟩ := eqL hf
  obtain rfl := List.map_eq_nil_iff.1 hf
  refine eqF n0 (.bool o) (.bool p) (by rw [t0, o0]; go_simp) (by rw [t0, o0]; go_simp) (by rw [t0]; exact run_equalIn_bool' _ _ _ _ _ Tryz.underlying4) ?_
  refine eqF n1 (.string i) (.string j) (by rw [t1, o1]; go_simp) (by rw [t1, o1]; go_simp) (by rw [t1]; rw [← eqT]; exact run_equalIn_string _ _ _ _ _ Tryz.underlying9) ?_
  refine eqF n2 (.int .u32 g) (.int .u32 h) (by rw [t2, o2]; go_simp) (by rw [t2, o2]; go_simp) (by rw [t2]; exact run_equalIn_int _ _ _ _ _ _ _ Tryz.underlying22) ?_
  exact eqN _ _ _ _


theorem equalIn_side (d : Nat) (y : Bool) (t : ByteArray) (a n lo hi : Int) (qy : Bool) (qt : ByteArray) (qa qn qlo qhi : Int) (w : World) : (Op.equalIn (d + 3) 28 (.agg #[.bool y, .string t, .int .u32 a, .int .i64 n, .int .i64 lo, .int .i64 hi]) (.agg #[.bool qy, .string qt, .int .u32 qa, .int .i64 qn, .int .i64 qlo, .int .i64 qhi])).run Tryz.prog w = .ok (y == qy && (decide (t = qt) && ((a == qa && (n == qn && true)) && ((lo == qlo && (hi == qhi && true)) && true)))) w := by
  rw [run_equalIn_agg w (d + 2) 28 _ _ (by kernel_rfl) (by kernel_rfl)]
  have hf : (Tryz.prog.fieldsOf 28).toList.map (fun f => (f.name == "_", f.type, f.offset)) = [(false, 4, 0), (false, 9, 1), (false, 24, 2), (false, 26, 4)] := by kernel_rfl
  generalize (Tryz.prog.fieldsOf 28).toList = l at hf
  obtain ⟨f0, l0, rfl, n0, t0, o0, hf⟩ := eqL hf
  obtain ⟨f1, l1, rfl, n1, t1, o1, hf⟩ := eqL hf
  obtain ⟨f2, l2, rfl, n2, t2, o2, hf⟩ := eqL hf
  obtain ⟨f3, l3, rfl, n3, t3, o3, hf⟩ := eqL hf
  obtain rfl := List.map_eq_nil_iff.1 hf
  refine eqF n0 (.bool y) (.bool qy) (by rw [t0, o0]; go_simp) (by rw [t0, o0]; go_simp) (by rw [t0]; exact run_equalIn_bool' _ _ _ _ _ Tryz.underlying4) ?_
  refine eqF n1 (.string t) (.string qt) (by rw [t1, o1]; go_simp) (by rw [t1, o1]; go_simp) (by rw [t1]; rw [← eqT]; exact run_equalIn_string _ _ _ _ _ Tryz.underlying9) ?_
  refine eqF n2 (.agg #[.int .u32 a, .int .i64 n]) (.agg #[.int .u32 qa, .int .i64 qn]) (by rw [t2, o2]; go_simp) (by rw [t2, o2]; go_simp) (by rw [t2]; exact equalIn_pf _ _ _ _ _ _) ?_
  refine eqF n3 (.agg #[.int .i64 lo, .int .i64 hi]) (.agg #[.int .i64 qlo, .int .i64 qhi]) (by rw [t3, o3]; go_simp) (by rw [t3, o3]; go_simp) (by rw [t3]; exact equalIn_ports _ _ _ _ _ _) ?_
  exact eqN _ _ _ _


theorem equalIn_rule (d : Nat) (pass ret quick : Bool) (on : ByteArray) (proto : Int) (sany : Bool) (stab : ByteArray) (sa sn slo shi : Int) (dany : Bool) (dtab : ByteArray) (da dn dlo dhi : Int) (set mask type : Int) (keep : Bool) (ton : Bool) (tif : ByteArray) (tg : Int) (pon : Bool) (pif : ByteArray) (pg : Int) (table : Int) (qpass qret qquick : Bool) (qon : ByteArray) (qproto : Int) (qsany : Bool) (qstab : ByteArray) (qsa qsn qslo qshi : Int) (qdany : Bool) (qdtab : ByteArray) (qda qdn qdlo qdhi : Int) (qset qmask qtype : Int) (qkeep : Bool) (qton : Bool) (qtif : ByteArray) (qtg : Int) (qpon : Bool) (qpif : ByteArray) (qpg : Int) (qtable : Int) (w : World) : (Op.equalIn (d + 4) 32 (.agg #[.bool pass, .bool ret, .bool quick, .string on, .int .i64 proto, .bool sany, .string stab, .int .u32 sa, .int .i64 sn, .int .i64 slo, .int .i64 shi, .bool dany, .string dtab, .int .u32 da, .int .i64 dn, .int .i64 dlo, .int .i64 dhi, .int .i64 set, .int .i64 mask, .int .i64 type, .bool keep, .bool ton, .string tif, .int .u32 tg, .bool pon, .string pif, .int .u32 pg, .int .i64 table]) (.agg #[.bool qpass, .bool qret, .bool qquick, .string qon, .int .i64 qproto, .bool qsany, .string qstab, .int .u32 qsa, .int .i64 qsn, .int .i64 qslo, .int .i64 qshi, .bool qdany, .string qdtab, .int .u32 qda, .int .i64 qdn, .int .i64 qdlo, .int .i64 qdhi, .int .i64 qset, .int .i64 qmask, .int .i64 qtype, .bool qkeep, .bool qton, .string qtif, .int .u32 qtg, .bool qpon, .string qpif, .int .u32 qpg, .int .i64 qtable])).run Tryz.prog w = .ok (pass == qpass && (ret == qret && (quick == qquick && (decide (on = qon) && (proto == qproto && ((sany == qsany && (decide (stab = qstab) && ((sa == qsa && (sn == qsn && true)) && ((slo == qslo && (shi == qshi && true)) && true)))) && ((dany == qdany && (decide (dtab = qdtab) && ((da == qda && (dn == qdn && true)) && ((dlo == qdlo && (dhi == qdhi && true)) && true)))) && (set == qset && (mask == qmask && (type == qtype && (keep == qkeep && ((ton == qton && (decide (tif = qtif) && (tg == qtg && true))) && ((pon == qpon && (decide (pif = qpif) && (pg == qpg && true))) && (table == qtable && true)))))))))))))) w := by
  rw [run_equalIn_agg w (d + 3) 32 _ _ (by kernel_rfl) (by kernel_rfl)]
  have hf : (Tryz.prog.fieldsOf 32).toList.map (fun f => (f.name == "_", f.type, f.offset)) = [(false, 4, 0), (false, 4, 1), (false, 4, 2), (false, 9, 3), (false, 3, 4), (false, 28, 5), (false, 28, 11), (false, 3, 17), (false, 3, 18), (false, 3, 19), (false, 4, 20), (false, 30, 21), (false, 30, 24), (false, 3, 27)] := by kernel_rfl
  generalize (Tryz.prog.fieldsOf 32).toList = l at hf
  obtain ⟨f0, l0, rfl, n0, t0, o0, hf⟩ := eqL hf
  obtain ⟨f1, l1, rfl, n1, t1, o1, hf⟩ := eqL hf
  obtain ⟨f2, l2, rfl, n2, t2, o2, hf⟩ := eqL hf
  obtain ⟨f3, l3, rfl, n3, t3, o3, hf⟩ := eqL hf
  obtain ⟨f4, l4, rfl, n4, t4, o4, hf⟩ := eqL hf
  obtain ⟨f5, l5, rfl, n5, t5, o5, hf⟩ := eqL hf
  obtain ⟨f6, l6, rfl, n6, t6, o6, hf⟩ := eqL hf
  obtain ⟨f7, l7, rfl, n7, t7, o7, hf⟩ := eqL hf
  obtain ⟨f8, l8, rfl, n8, t8, o8, hf⟩ := eqL hf
  obtain ⟨f9, l9, rfl, n9, t9, o9, hf⟩ := eqL hf
  obtain ⟨f10, l10, rfl, n10, t10, o10, hf⟩ := eqL hf
  obtain ⟨f11, l11, rfl, n11, t11, o11, hf⟩ := eqL hf
  obtain ⟨f12, l12, rfl, n12, t12, o12, hf⟩ := eqL hf
  obtain ⟨f13, l13, rfl, n13, t13, o13, hf⟩ := eqL hf
  obtain rfl := List.map_eq_nil_iff.1 hf
  refine eqF n0 (.bool pass) (.bool qpass) (by rw [t0, o0]; go_simp) (by rw [t0, o0]; go_simp) (by rw [t0]; exact run_equalIn_bool' _ _ _ _ _ Tryz.underlying4) ?_
  refine eqF n1 (.bool ret) (.bool qret) (by rw [t1, o1]; go_simp) (by rw [t1, o1]; go_simp) (by rw [t1]; exact run_equalIn_bool' _ _ _ _ _ Tryz.underlying4) ?_
  refine eqF n2 (.bool quick) (.bool qquick) (by rw [t2, o2]; go_simp) (by rw [t2, o2]; go_simp) (by rw [t2]; exact run_equalIn_bool' _ _ _ _ _ Tryz.underlying4) ?_
  refine eqF n3 (.string on) (.string qon) (by rw [t3, o3]; go_simp) (by rw [t3, o3]; go_simp) (by rw [t3]; rw [← eqT]; exact run_equalIn_string _ _ _ _ _ Tryz.underlying9) ?_
  refine eqF n4 (.int .i64 proto) (.int .i64 qproto) (by rw [t4, o4]; go_simp) (by rw [t4, o4]; go_simp) (by rw [t4]; exact run_equalIn_int _ _ _ _ _ _ _ Tryz.underlying3) ?_
  refine eqF n5 (.agg #[.bool sany, .string stab, .int .u32 sa, .int .i64 sn, .int .i64 slo, .int .i64 shi]) (.agg #[.bool qsany, .string qstab, .int .u32 qsa, .int .i64 qsn, .int .i64 qslo, .int .i64 qshi]) (by rw [t5, o5]; go_simp) (by rw [t5, o5]; go_simp) (by rw [t5]; exact equalIn_side _ _ _ _ _ _ _ _ _ _ _ _ _ _) ?_
  refine eqF n6 (.agg #[.bool dany, .string dtab, .int .u32 da, .int .i64 dn, .int .i64 dlo, .int .i64 dhi]) (.agg #[.bool qdany, .string qdtab, .int .u32 qda, .int .i64 qdn, .int .i64 qdlo, .int .i64 qdhi]) (by rw [t6, o6]; go_simp) (by rw [t6, o6]; go_simp) (by rw [t6]; exact equalIn_side _ _ _ _ _ _ _ _ _ _ _ _ _ _) ?_
  refine eqF n7 (.int .i64 set) (.int .i64 qset) (by rw [t7, o7]; go_simp) (by rw [t7, o7]; go_simp) (by rw [t7]; exact run_equalIn_int _ _ _ _ _ _ _ Tryz.underlying3) ?_
  refine eqF n8 (.int .i64 mask) (.int .i64 qmask) (by rw [t8, o8]; go_simp) (by rw [t8, o8]; go_simp) (by rw [t8]; exact run_equalIn_int _ _ _ _ _ _ _ Tryz.underlying3) ?_
  refine eqF n9 (.int .i64 type) (.int .i64 qtype) (by rw [t9, o9]; go_simp) (by rw [t9, o9]; go_simp) (by rw [t9]; exact run_equalIn_int _ _ _ _ _ _ _ Tryz.underlying3) ?_
  refine eqF n10 (.bool keep) (.bool qkeep) (by rw [t10, o10]; go_simp) (by rw [t10, o10]; go_simp) (by rw [t10]; exact run_equalIn_bool' _ _ _ _ _ Tryz.underlying4) ?_
  refine eqF n11 (.agg #[.bool ton, .string tif, .int .u32 tg]) (.agg #[.bool qton, .string qtif, .int .u32 qtg]) (by rw [t11, o11]; go_simp) (by rw [t11, o11]; go_simp) (by rw [t11]; exact equalIn_pin _ _ _ _ _ _ _ _) ?_
  refine eqF n12 (.agg #[.bool pon, .string pif, .int .u32 pg]) (.agg #[.bool qpon, .string qpif, .int .u32 qpg]) (by rw [t12, o12]; go_simp) (by rw [t12, o12]; go_simp) (by rw [t12]; exact equalIn_pin _ _ _ _ _ _ _ _) ?_
  refine eqF n13 (.int .i64 table) (.int .i64 qtable) (by rw [t13, o13]; go_simp) (by rw [t13, o13]; go_simp) (by rw [t13]; exact run_equalIn_int _ _ _ _ _ _ _ Tryz.underlying3) ?_
  exact eqN _ _ _ _

theorem rule_guard : Tryz.prog.eqGuardType Tryz.prog.depth 32 = false := by kernel_rfl
theorem pin_guard : Tryz.prog.eqGuardType Tryz.prog.depth 30 = false := by kernel_rfl
theorem ports_guard : Tryz.prog.eqGuardType Tryz.prog.depth 26 = false := by kernel_rfl

theorem eql_ports (a n b m : Int) (w : World) : (binOp .eql 26 (.agg #[.int .i64 a, .int .i64 n]) (.agg #[.int .i64 b, .int .i64 m])).run Tryz.prog w = .ok (.bool (a == b && n == m)) w := by
  rw [run_eql_struct, equalIn_ports 9998]; simp [Result.andThen]

theorem neq_ports (a n b m : Int) (w : World) : (binOp .neq 26 (.agg #[.int .i64 a, .int .i64 n]) (.agg #[.int .i64 b, .int .i64 m])).run Tryz.prog w = .ok (.bool (!(a == b && n == m))) w := by
  rw [run_neq_struct, equalIn_ports 9998]; simp [Result.andThen]

theorem eql_pin (p q : PinV) (w : World) : (binOp .eql 30 (.agg #[.bool p.on, .string p.iface, .int .u32 p.gate]) (.agg #[.bool q.on, .string q.iface, .int .u32 q.gate])).run Tryz.prog w = .ok (.bool (pinQ p q)) w := by
  rw [run_eql_struct, equalIn_pin 9998]; simp [Result.andThen, pinQ]

theorem eql_rule (r q : RuleV) (w : World) : (binOp .eql 32 (.agg #[.bool r.pass, .bool r.ret, .bool r.quick, .string r.on, .int .i64 r.proto, .bool r.src.any, .string r.src.table, .int .u32 r.src.a, .int .i64 r.src.n, .int .i64 r.src.low, .int .i64 r.src.high, .bool r.dst.any, .string r.dst.table, .int .u32 r.dst.a, .int .i64 r.dst.n, .int .i64 r.dst.low, .int .i64 r.dst.high, .int .i64 r.set, .int .i64 r.mask, .int .i64 r.type, .bool r.keep, .bool r.rt.on, .string r.rt.iface, .int .u32 r.rt.gate, .bool r.rp.on, .string r.rp.iface, .int .u32 r.rp.gate, .int .i64 r.table]) (.agg #[.bool q.pass, .bool q.ret, .bool q.quick, .string q.on, .int .i64 q.proto, .bool q.src.any, .string q.src.table, .int .u32 q.src.a, .int .i64 q.src.n, .int .i64 q.src.low, .int .i64 q.src.high, .bool q.dst.any, .string q.dst.table, .int .u32 q.dst.a, .int .i64 q.dst.n, .int .i64 q.dst.low, .int .i64 q.dst.high, .int .i64 q.set, .int .i64 q.mask, .int .i64 q.type, .bool q.keep, .bool q.rt.on, .string q.rt.iface, .int .u32 q.rt.gate, .bool q.rp.on, .string q.rp.iface, .int .u32 q.rp.gate, .int .i64 q.table])).run Tryz.prog w = .ok (.bool (ruleQ r q)) w := by
  rw [run_eql_struct, equalIn_rule 9996]; simp only [Result.andThen, ruleQ, sideQ, pinQ, Bool.and_true, Bool.and_assoc]
end Go.Proofs.YtbmmgjmmooakpaaGreatDoor.Ru
