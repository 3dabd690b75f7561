/- RuM, RuN: in one text. -/
import Derived.Test.YtbmmgjmmooakpaaGreatDoorRuK
namespace Go.Proofs.YtbmmgjmmooakpaaGreatDoor.Ru
open Go.RowKit
set_option linter.unusedVariables false
set_option maxRecDepth 100000

/-- A rule that came in. -/
structure RuleIn (r : RuleV) : Prop where
  on : r.on.size ≤ 9223372036854775807
  st : r.src.table.size ≤ 9223372036854775807
  dt : r.dst.table.size ≤ 9223372036854775807
  ti : r.rt.iface.size ≤ 9223372036854775807
  pi : r.rp.iface.size ≤ 9223372036854775807
  s0 : -9223372036854775808 ≤ r.set
  s1 : r.set ≤ 9223372036854775807
  sa0 : 0 ≤ r.src.a
  sa1 : r.src.a ≤ 4294967295
  da0 : 0 ≤ r.dst.a
  da1 : r.dst.a ≤ 4294967295
  tg0 : 0 ≤ r.rt.gate
  tg1 : r.rt.gate ≤ 4294967295
  pg0 : 0 ≤ r.rp.gate
  pg1 : r.rp.gate ≤ 4294967295

theorem RuleIn.ok {r : RuleV} (h : RuleIn r) : RuleOk r :=
  ⟨h.on, h.s0, h.s1, ⟨h.st, h.sa0, h.sa1⟩, ⟨h.dt, h.da0, h.da1⟩, ⟨h.ti, h.tg0, h.tg1⟩, ⟨h.pi, h.pg0, h.pg1⟩⟩

/-- Whether a rule is more than is looked at: some truth, the same in every world. (Its sum of lengths may go round.) -/
theorem heavy_any (r : RuleV) (h : RuleIn r) : ∃ g, ∀ w, Calls Tryz.prog 15 #[(.agg #[.bool r.pass, .bool r.ret, .bool r.quick, .string r.on, .int .i64 r.proto, .bool r.src.any, .string r.src.table, .int .u32 r.src.a, .int .i64 r.src.n, .int .i64 r.src.low, .int .i64 r.src.high, .bool r.dst.any, .string r.dst.table, .int .u32 r.dst.a, .int .i64 r.dst.n, .int .i64 r.dst.low, .int .i64 r.dst.high, .int .i64 r.set, .int .i64 r.mask, .int .i64 r.type, .bool r.keep, .bool r.rt.on, .string r.rt.iface, .int .u32 r.rt.gate, .bool r.rp.on, .string r.rp.iface, .int .u32 r.rp.gate, .int .i64 r.table])] w fun e w' => e = .returned (.bool g) ∧ Ext w w' := by
  have h1 := h.on
  have h2 := h.st
  have h3 := h.dt
  have h4 := h.ti
  have h5 := h.pi
  clear h
  obtain ⟨pass, ret, quick, on, proto, ⟨sany, stab, sa, sn, slo, shi⟩, ⟨dany, dtab, da, dn, dlo, dhi⟩, set, mask, type, keep, ⟨ton, tif, tg⟩, ⟨pon, pif, pg⟩, table⟩ := r
  dsimp only at *
  refine ⟨decide (400 < wrap64 (wrap64 (wrap64 (wrap64 ((on.size : Int) + (stab.size : Int)) + (dtab.size : Int)) + (tif.size : Int)) + (pif.size : Int))), fun w => ?_⟩
  obtain ⟨W, hW⟩ : ∃ W, w.alloc (.cells #[.bool pass, .bool ret, .bool quick, .string on, .int .i64 proto, .bool sany, .string stab, .int .u32 sa, .int .i64 sn, .int .i64 slo, .int .i64 shi, .bool dany, .string dtab, .int .u32 da, .int .i64 dn, .int .i64 dlo, .int .i64 dhi, .int .i64 set, .int .i64 mask, .int .i64 type, .bool keep, .bool ton, .string tif, .int .u32 tg, .bool pon, .string pif, .int .u32 pg, .int .i64 table] 32) = W := ⟨_, rfl⟩
  have hx0 : Ext w W := hW ▸ (Ext.refl w).alloc _
  have x3 : ∀ w', Ext W w' → w'.cell? ⟨w.heap.size, 3, none⟩ = some (.string on) := hW ▸ boxK w #[.bool pass, .bool ret, .bool quick, .string on, .int .i64 proto, .bool sany, .string stab, .int .u32 sa, .int .i64 sn, .int .i64 slo, .int .i64 shi, .bool dany, .string dtab, .int .u32 da, .int .i64 dn, .int .i64 dlo, .int .i64 dhi, .int .i64 set, .int .i64 mask, .int .i64 type, .bool keep, .bool ton, .string tif, .int .u32 tg, .bool pon, .string pif, .int .u32 pg, .int .i64 table] 32 3
  have x6 : ∀ w', Ext W w' → w'.cell? ⟨w.heap.size, 6, none⟩ = some (.string stab) := hW ▸ boxK w #[.bool pass, .bool ret, .bool quick, .string on, .int .i64 proto, .bool sany, .string stab, .int .u32 sa, .int .i64 sn, .int .i64 slo, .int .i64 shi, .bool dany, .string dtab, .int .u32 da, .int .i64 dn, .int .i64 dlo, .int .i64 dhi, .int .i64 set, .int .i64 mask, .int .i64 type, .bool keep, .bool ton, .string tif, .int .u32 tg, .bool pon, .string pif, .int .u32 pg, .int .i64 table] 32 6
  have x12 : ∀ w', Ext W w' → w'.cell? ⟨w.heap.size, 12, none⟩ = some (.string dtab) := hW ▸ boxK w #[.bool pass, .bool ret, .bool quick, .string on, .int .i64 proto, .bool sany, .string stab, .int .u32 sa, .int .i64 sn, .int .i64 slo, .int .i64 shi, .bool dany, .string dtab, .int .u32 da, .int .i64 dn, .int .i64 dlo, .int .i64 dhi, .int .i64 set, .int .i64 mask, .int .i64 type, .bool keep, .bool ton, .string tif, .int .u32 tg, .bool pon, .string pif, .int .u32 pg, .int .i64 table] 32 12
  have x22 : ∀ w', Ext W w' → w'.cell? ⟨w.heap.size, 22, none⟩ = some (.string tif) := hW ▸ boxK w #[.bool pass, .bool ret, .bool quick, .string on, .int .i64 proto, .bool sany, .string stab, .int .u32 sa, .int .i64 sn, .int .i64 slo, .int .i64 shi, .bool dany, .string dtab, .int .u32 da, .int .i64 dn, .int .i64 dlo, .int .i64 dhi, .int .i64 set, .int .i64 mask, .int .i64 type, .bool keep, .bool ton, .string tif, .int .u32 tg, .bool pon, .string pif, .int .u32 pg, .int .i64 table] 32 22
  have x25 : ∀ w', Ext W w' → w'.cell? ⟨w.heap.size, 25, none⟩ = some (.string pif) := hW ▸ boxK w #[.bool pass, .bool ret, .bool quick, .string on, .int .i64 proto, .bool sany, .string stab, .int .u32 sa, .int .i64 sn, .int .i64 slo, .int .i64 shi, .bool dany, .string dtab, .int .u32 da, .int .i64 dn, .int .i64 dlo, .int .i64 dhi, .int .i64 set, .int .i64 mask, .int .i64 type, .bool keep, .bool ton, .string tif, .int .u32 tg, .bool pon, .string pif, .int .u32 pg, .int .i64 table] 32 25
  have hv := Ext.refl W
  go_enter Tryz.func15, Tryz.ntmps15
  go_wp2
  go_ret
  exact ⟨rfl, hx0⟩
end Go.Proofs.YtbmmgjmmooakpaaGreatDoor.Ru

namespace Go.Proofs.YtbmmgjmmooakpaaGreatDoor.Ru
open Go.RowKit
set_option linter.unusedVariables false
set_option maxRecDepth 100000

set_option maxHeartbeats 4000000 in
theorem law_prints (a b : RuleV) (w : World) (ha : RuleIn a) (hb : RuleIn b) (hs : Std w) :
    Calls Tryz.prog 4 #[(.agg #[.bool a.pass, .bool a.ret, .bool a.quick, .string a.on, .int .i64 a.proto, .bool a.src.any, .string a.src.table, .int .u32 a.src.a, .int .i64 a.src.n, .int .i64 a.src.low, .int .i64 a.src.high, .bool a.dst.any, .string a.dst.table, .int .u32 a.dst.a, .int .i64 a.dst.n, .int .i64 a.dst.low, .int .i64 a.dst.high, .int .i64 a.set, .int .i64 a.mask, .int .i64 a.type, .bool a.keep, .bool a.rt.on, .string a.rt.iface, .int .u32 a.rt.gate, .bool a.rp.on, .string a.rp.iface, .int .u32 a.rp.gate, .int .i64 a.table]), (.agg #[.bool b.pass, .bool b.ret, .bool b.quick, .string b.on, .int .i64 b.proto, .bool b.src.any, .string b.src.table, .int .u32 b.src.a, .int .i64 b.src.n, .int .i64 b.src.low, .int .i64 b.src.high, .bool b.dst.any, .string b.dst.table, .int .u32 b.dst.a, .int .i64 b.dst.n, .int .i64 b.dst.low, .int .i64 b.dst.high, .int .i64 b.set, .int .i64 b.mask, .int .i64 b.type, .bool b.keep, .bool b.rt.on, .string b.rt.iface, .int .u32 b.rt.gate, .bool b.rp.on, .string b.rp.iface, .int .u32 b.rp.gate, .int .i64 b.table])] w fun e w' => e = .returned (.bool true) ∧ Ext w w' := by
  obtain ⟨g1, h1⟩ := heavy_any a ha
  obtain ⟨g2, h2⟩ := heavy_any b hb
  have hok := ha.ok
  have HS : Hid (∀ w', Ext w w' → Std w') := fun w' h => hs.later h
  have c1 := fun w h => rPrint_any a w hok h
  have c2 := fun w => refPrintRule_any a w hok
  have c3 := fun w => isRule_any a w hok
  have c4 := fun w => refIsRule_any a w hok
  have c5 := fun w => same_any a b w
  have c6 := fun w => refSame_any a b w
  have c7 := fun w => same_any a a w
  rw [ruleQ_refl] at c7
  have c8 := fun w h => known14_any w h
  generalize printE a = P at *
  generalize isR a = I at *
  generalize ruleQ a b = Q at *
  clear ha hb hs hok
  obtain ⟨pass, ret, quick, on, proto, ⟨sany, stab, sa, sn, slo, shi⟩, ⟨dany, dtab, da, dn, dlo, dhi⟩, set, mask, type, keep, ⟨ton, tif, tg⟩, ⟨pon, pif, pg⟩, table⟩ := a
  obtain ⟨qpass, qret, qquick, qon, qproto, ⟨qsany, qstab, qsa, qsn, qslo, qshi⟩, ⟨qdany, qdtab, qda, qdn, qdlo, qdhi⟩, qset, qmask, qtype, qkeep, ⟨qton, qtif, qtg⟩, ⟨qpon, qpif, qpg⟩, qtable⟩ := b
  dsimp only at *
  obtain ⟨W, hW0⟩ : ∃ W, (w.alloc (.cells #[.bool pass, .bool ret, .bool quick, .string on, .int .i64 proto, .bool sany, .string stab, .int .u32 sa, .int .i64 sn, .int .i64 slo, .int .i64 shi, .bool dany, .string dtab, .int .u32 da, .int .i64 dn, .int .i64 dlo, .int .i64 dhi, .int .i64 set, .int .i64 mask, .int .i64 type, .bool keep, .bool ton, .string tif, .int .u32 tg, .bool pon, .string pif, .int .u32 pg, .int .i64 table] 32)).alloc (.cells #[.bool qpass, .bool qret, .bool qquick, .string qon, .int .i64 qproto, .bool qsany, .string qstab, .int .u32 qsa, .int .i64 qsn, .int .i64 qslo, .int .i64 qshi, .bool qdany, .string qdtab, .int .u32 qda, .int .i64 qdn, .int .i64 qdlo, .int .i64 qdhi, .int .i64 qset, .int .i64 qmask, .int .i64 qtype, .bool qkeep, .bool qton, .string qtif, .int .u32 qtg, .bool qpon, .string qpif, .int .u32 qpg, .int .i64 qtable] 32) = W := ⟨_, rfl⟩
  have hx0 : Ext w W := hW0 ▸ ((Ext.refl w).alloc _).alloc _
  have ha0 : W.heap[w.heap.size]? = some (.cells #[.bool pass, .bool ret, .bool quick, .string on, .int .i64 proto, .bool sany, .string stab, .int .u32 sa, .int .i64 sn, .int .i64 slo, .int .i64 shi, .bool dany, .string dtab, .int .u32 da, .int .i64 dn, .int .i64 dlo, .int .i64 dhi, .int .i64 set, .int .i64 mask, .int .i64 type, .bool keep, .bool ton, .string tif, .int .u32 tg, .bool pon, .string pif, .int .u32 pg, .int .i64 table] 32 (0, 0)) := hW0 ▸ Ext.heap ((Ext.refl _).alloc _) (heap_new w _)
  have hb0 : W.heap[w.heap.size + 1]? = some (.cells #[.bool qpass, .bool qret, .bool qquick, .string qon, .int .i64 qproto, .bool qsany, .string qstab, .int .u32 qsa, .int .i64 qsn, .int .i64 qslo, .int .i64 qshi, .bool qdany, .string qdtab, .int .u32 qda, .int .i64 qdn, .int .i64 qdlo, .int .i64 qdhi, .int .i64 qset, .int .i64 qmask, .int .i64 qtype, .bool qkeep, .bool qton, .string qtif, .int .u32 qtg, .bool qpon, .string qpif, .int .u32 qpg, .int .i64 qtable] 32 (0, 0)) := by
    have := heap_new (w.alloc (.cells #[.bool pass, .bool ret, .bool quick, .string on, .int .i64 proto, .bool sany, .string stab, .int .u32 sa, .int .i64 sn, .int .i64 slo, .int .i64 shi, .bool dany, .string dtab, .int .u32 da, .int .i64 dn, .int .i64 dlo, .int .i64 dhi, .int .i64 set, .int .i64 mask, .int .i64 type, .bool keep, .bool ton, .string tif, .int .u32 tg, .bool pon, .string pif, .int .u32 pg, .int .i64 table] 32)) (.cells #[.bool qpass, .bool qret, .bool qquick, .string qon, .int .i64 qproto, .bool qsany, .string qstab, .int .u32 qsa, .int .i64 qsn, .int .i64 qslo, .int .i64 qshi, .bool qdany, .string qdtab, .int .u32 qda, .int .i64 qdn, .int .i64 qdlo, .int .i64 qdhi, .int .i64 qset, .int .i64 qmask, .int .i64 qtype, .bool qkeep, .bool qton, .string qtif, .int .u32 qtg, .bool qpon, .string qpif, .int .u32 qpg, .int .i64 qtable] 32)
    rwa [show (w.alloc (.cells #[.bool pass, .bool ret, .bool quick, .string on, .int .i64 proto, .bool sany, .string stab, .int .u32 sa, .int .i64 sn, .int .i64 slo, .int .i64 shi, .bool dany, .string dtab, .int .u32 da, .int .i64 dn, .int .i64 dlo, .int .i64 dhi, .int .i64 set, .int .i64 mask, .int .i64 type, .bool keep, .bool ton, .string tif, .int .u32 tg, .bool pon, .string pif, .int .u32 pg, .int .i64 table] 32)).heap.size = w.heap.size + 1 by simp, hW0] at this
  have HA : Hid (∀ w', Ext W w' → w'.heap[w.heap.size]? = some (.cells #[.bool pass, .bool ret, .bool quick, .string on, .int .i64 proto, .bool sany, .string stab, .int .u32 sa, .int .i64 sn, .int .i64 slo, .int .i64 shi, .bool dany, .string dtab, .int .u32 da, .int .i64 dn, .int .i64 dlo, .int .i64 dhi, .int .i64 set, .int .i64 mask, .int .i64 type, .bool keep, .bool ton, .string tif, .int .u32 tg, .bool pon, .string pif, .int .u32 pg, .int .i64 table] 32 (0, 0))) := fun w' h => h.heap ha0
  have HB : Hid (∀ w', Ext W w' → w'.heap[w.heap.size + 1]? = some (.cells #[.bool qpass, .bool qret, .bool qquick, .string qon, .int .i64 qproto, .bool qsany, .string qstab, .int .u32 qsa, .int .i64 qsn, .int .i64 qslo, .int .i64 qshi, .bool qdany, .string qdtab, .int .u32 qda, .int .i64 qdn, .int .i64 qdlo, .int .i64 qdhi, .int .i64 qset, .int .i64 qmask, .int .i64 qtype, .bool qkeep, .bool qton, .string qtif, .int .u32 qtg, .bool qpon, .string qpif, .int .u32 qpg, .int .i64 qtable] 32 (0, 0))) := fun w' h => h.heap hb0
  have hv := Ext.refl W
  have tok : Hid True := trivial
  clear ha0 hb0
  cases g1 with
  | true =>
    clear c1 c2 c3 c4 c5 c6 c7 c8
    go_enter Tryz.func4, Tryz.ntmps4
    go_wp2_with (first
      | (refine wpl_load (by rfl) 32 _ rfl w.heap.size _ _ _ rfl (HA.out _ hv) Tryz.underlying32 rfl rule_size ?_)
      | (refine wpl_load (by rfl) 32 _ rfl (w.heap.size + 1) _ _ _ rfl (HB.out _ hv) Tryz.underlying32 rfl rule_size ?_)
      | (go_at_call 15; clear tok; refine (h1 _).mono ?_; rintro e w1 ⟨rfl, hx1⟩; replace hv := hv.trans hx1; clear hx1)
      | (go_at_call 15; refine (h2 _).mono ?_; rintro e w2 ⟨rfl, hx1⟩; replace hv := hv.trans hx1; clear hx1))
    go_ret
    exact ⟨rfl, hx0.trans hv⟩
  | false =>
  cases g2 with
  | true =>
    clear c1 c2 c3 c4 c5 c6 c7 c8
    go_enter Tryz.func4, Tryz.ntmps4
    go_wp2_with (first
      | (refine wpl_load (by rfl) 32 _ rfl w.heap.size _ _ _ rfl (HA.out _ hv) Tryz.underlying32 rfl rule_size ?_)
      | (refine wpl_load (by rfl) 32 _ rfl (w.heap.size + 1) _ _ _ rfl (HB.out _ hv) Tryz.underlying32 rfl rule_size ?_)
      | (go_at_call 15; clear tok; refine (h1 _).mono ?_; rintro e w1 ⟨rfl, hx1⟩; replace hv := hv.trans hx1; clear hx1)
      | (go_at_call 15; refine (h2 _).mono ?_; rintro e w2 ⟨rfl, hx1⟩; replace hv := hv.trans hx1; clear hx1))
    go_ret
    exact ⟨rfl, hx0.trans hv⟩
  | false =>
    go_enter Tryz.func4, Tryz.ntmps4
    go_upto_region 3 with (first
      | (refine wpl_load (by rfl) 32 _ rfl w.heap.size _ _ _ rfl (HA.out _ hv) Tryz.underlying32 rfl rule_size ?_)
      | (refine wpl_load (by rfl) 32 _ rfl (w.heap.size + 1) _ _ _ rfl (HB.out _ hv) Tryz.underlying32 rfl rule_size ?_)
      | (go_at_call 15; clear tok; refine (h1 _).mono ?_; rintro e w1 ⟨rfl, hx1⟩; replace hv := hv.trans hx1; clear hx1)
      | (go_at_call 15; refine (h2 _).mono ?_; rintro e w2 ⟨rfl, hx1⟩; replace hv := hv.trans hx1; clear hx1))
    have hvD := hv.drew
    replace HA : Hid (∀ w', Ext w2.drew w' → w'.heap[w.heap.size]? = some (.cells #[.bool pass, .bool ret, .bool quick, .string on, .int .i64 proto, .bool sany, .string stab, .int .u32 sa, .int .i64 sn, .int .i64 slo, .int .i64 shi, .bool dany, .string dtab, .int .u32 da, .int .i64 dn, .int .i64 dlo, .int .i64 dhi, .int .i64 set, .int .i64 mask, .int .i64 type, .bool keep, .bool ton, .string tif, .int .u32 tg, .bool pon, .string pif, .int .u32 pg, .int .i64 table] 32 (0, 0))) := fun w' h => HA.out w' (hvD.trans h)
    replace HB : Hid (∀ w', Ext w2.drew w' → w'.heap[w.heap.size + 1]? = some (.cells #[.bool qpass, .bool qret, .bool qquick, .string qon, .int .i64 qproto, .bool qsany, .string qstab, .int .u32 qsa, .int .i64 qsn, .int .i64 qslo, .int .i64 qshi, .bool qdany, .string qdtab, .int .u32 qda, .int .i64 qdn, .int .i64 qdlo, .int .i64 qdhi, .int .i64 qset, .int .i64 qmask, .int .i64 qtype, .bool qkeep, .bool qton, .string qtif, .int .u32 qtg, .bool qpon, .string qpif, .int .u32 qpg, .int .i64 qtable] 32 (0, 0))) := fun w' h => HB.out w' (hvD.trans h)
    replace HS : Hid (∀ w', Ext w2.drew w' → Std w') := fun w' h => HS.out w' (hx0.trans (hvD.trans h))
    have HE : Hid (∀ w', Ext w2.drew w' → Ext w w') := fun w' h => hx0.trans (hvD.trans h)
    refine wp_region_eager [(0, false), (2, false), (1, true), (3, true), (4, false), (5, false), (6, false), (8, false), (7, true), (9, true), (10, false), (11, false), (12, false), (13, false), (14, false), (16, false), (17, false), (15, true), (18, true), (19, false), (20, false), (21, false), (22, false), (23, false), (24, true), (25, false), (26, false), (27, true), (28, false), (29, false)] (by kernel_rfl) (by kernel_rfl) rfl (by kernel_rfl) (fun _ _ _ _ _ h => h) ?_
    generalize w2.drew = WD at *
    have HX : Hid (Ext WD WD) := Ext.refl WD
    clear hv hvD hx0 h1 h2
    (refine wpE_read rfl (by rfl) (fun w' hx => exec_load 32 _ rfl w.heap.size _ _ _ rfl (HA.out _ (Ext.trans HX.out hx)) Tryz.underlying32 rfl rule_size) ?_; simp only [Act.put, List.setIfInBounds_toArray, List.set_cons_zero, List.set_cons_succ])
    (refine wpE_read rfl (by rfl) (fun w' hx => exec_load 32 _ rfl w.heap.size _ _ _ rfl (HA.out _ (Ext.trans HX.out hx)) Tryz.underlying32 rfl rule_size) ?_; simp only [Act.put, List.setIfInBounds_toArray, List.set_cons_zero, List.set_cons_succ])
    (refine wpE_call rfl (by rfl) (fun K hK => ?_); go_simp)
    go_at_call 16
    refine (c1 _ (HS.out _ HX.out)).mono ?_
    rintro e wz ⟨rfl, hz⟩
    refine hK _ _ hz ?_
    clear hK K
    have HX : Hid (Ext WD wz) := Ext.trans HX.out hz
    clear hz
    (refine wpE_call rfl (by rfl) (fun K hK => ?_); go_simp)
    go_at_call 17
    refine (c2 _).mono ?_
    rintro e wz ⟨rfl, hz⟩
    refine hK _ _ hz ?_
    clear hK K
    have HX : Hid (Ext WD wz) := Ext.trans HX.out hz
    clear hz
    (refine wpE_read (v := ?_) rfl (by rfl) ?_ ?_; rotate_left; (focus (intro w' hx; go_simp; first | done | with_reducible rfl)); simp only [Act.put, List.setIfInBounds_toArray, List.set_cons_zero, List.set_cons_succ])
    (refine wpE_read (v := ?_) rfl (by rfl) ?_ ?_; rotate_left; (focus (intro w' hx; go_simp; first | done | with_reducible rfl)); simp only [Act.put, List.setIfInBounds_toArray, List.set_cons_zero, List.set_cons_succ])
    (refine wpE_read rfl (by rfl) (fun w' hx => exec_load 32 _ rfl w.heap.size _ _ _ rfl (HA.out _ (Ext.trans HX.out hx)) Tryz.underlying32 rfl rule_size) ?_; simp only [Act.put, List.setIfInBounds_toArray, List.set_cons_zero, List.set_cons_succ])
    (refine wpE_read rfl (by rfl) (fun w' hx => exec_load 32 _ rfl w.heap.size _ _ _ rfl (HA.out _ (Ext.trans HX.out hx)) Tryz.underlying32 rfl rule_size) ?_; simp only [Act.put, List.setIfInBounds_toArray, List.set_cons_zero, List.set_cons_succ])
    (refine wpE_call rfl (by rfl) (fun K hK => ?_); go_simp)
    go_at_call 18
    refine (c3 _).mono ?_
    rintro e wz ⟨rfl, hz⟩
    refine hK _ _ hz ?_
    clear hK K
    have HX : Hid (Ext WD wz) := Ext.trans HX.out hz
    clear hz
    (refine wpE_call rfl (by rfl) (fun K hK => ?_); go_simp)
    go_at_call 19
    refine (c4 _).mono ?_
    rintro e wz ⟨rfl, hz⟩
    refine hK _ _ hz ?_
    clear hK K
    have HX : Hid (Ext WD wz) := Ext.trans HX.out hz
    clear hz
    (refine wpE_read (v := ?_) rfl (by rfl) ?_ ?_; rotate_left; (focus (intro w' hx; go_simp; first | done | with_reducible rfl)); simp only [Act.put, List.setIfInBounds_toArray, List.set_cons_zero, List.set_cons_succ])
    (refine wpE_read (v := ?_) rfl (by rfl) ?_ ?_; rotate_left; (focus (intro w' hx; go_simp; first | done | with_reducible rfl)); simp only [Act.put, List.setIfInBounds_toArray, List.set_cons_zero, List.set_cons_succ])
    (refine wpE_read (v := ?_) rfl (by rfl) ?_ ?_; rotate_left; (focus (intro w' hx; go_simp; first | done | with_reducible rfl)); simp only [Act.put, List.setIfInBounds_toArray, List.set_cons_zero, List.set_cons_succ])
    (refine wpE_read rfl (by rfl) (fun w' hx => exec_load 32 _ rfl w.heap.size _ _ _ rfl (HA.out _ (Ext.trans HX.out hx)) Tryz.underlying32 rfl rule_size) ?_; simp only [Act.put, List.setIfInBounds_toArray, List.set_cons_zero, List.set_cons_succ])
    (refine wpE_read rfl (by rfl) (fun w' hx => exec_load 32 _ rfl (w.heap.size + 1) _ _ _ rfl (HB.out _ (Ext.trans HX.out hx)) Tryz.underlying32 rfl rule_size) ?_; simp only [Act.put, List.setIfInBounds_toArray, List.set_cons_zero, List.set_cons_succ])
    (refine wpE_read rfl (by rfl) (fun w' hx => exec_load 32 _ rfl w.heap.size _ _ _ rfl (HA.out _ (Ext.trans HX.out hx)) Tryz.underlying32 rfl rule_size) ?_; simp only [Act.put, List.setIfInBounds_toArray, List.set_cons_zero, List.set_cons_succ])
    (refine wpE_read rfl (by rfl) (fun w' hx => exec_load 32 _ rfl (w.heap.size + 1) _ _ _ rfl (HB.out _ (Ext.trans HX.out hx)) Tryz.underlying32 rfl rule_size) ?_; simp only [Act.put, List.setIfInBounds_toArray, List.set_cons_zero, List.set_cons_succ])
    (refine wpE_call rfl (by rfl) (fun K hK => ?_); go_simp)
    go_at_call 20
    refine (c5 _).mono ?_
    rintro e wz ⟨rfl, hz⟩
    refine hK _ _ hz ?_
    clear hK K
    have HX : Hid (Ext WD wz) := Ext.trans HX.out hz
    clear hz
    (refine wpE_call rfl (by rfl) (fun K hK => ?_); go_simp)
    go_at_call 11
    refine (c6 _).mono ?_
    rintro e wz ⟨rfl, hz⟩
    refine hK _ _ hz ?_
    clear hK K
    have HX : Hid (Ext WD wz) := Ext.trans HX.out hz
    clear hz
    (refine wpE_read (v := ?_) rfl (by rfl) ?_ ?_; rotate_left; (focus (intro w' hx; go_simp; first | done | with_reducible rfl)); simp only [Act.put, List.setIfInBounds_toArray, List.set_cons_zero, List.set_cons_succ])
    (refine wpE_read (v := ?_) rfl (by rfl) ?_ ?_; rotate_left; (focus (intro w' hx; go_simp; first | done | with_reducible rfl)); simp only [Act.put, List.setIfInBounds_toArray, List.set_cons_zero, List.set_cons_succ])
    (refine wpE_read (v := ?_) rfl (by rfl) ?_ ?_; rotate_left; (focus (intro w' hx; go_simp; first | done | with_reducible rfl)); simp only [Act.put, List.setIfInBounds_toArray, List.set_cons_zero, List.set_cons_succ])
    (refine wpE_read rfl (by rfl) (fun w' hx => exec_load 32 _ rfl w.heap.size _ _ _ rfl (HA.out _ (Ext.trans HX.out hx)) Tryz.underlying32 rfl rule_size) ?_; simp only [Act.put, List.setIfInBounds_toArray, List.set_cons_zero, List.set_cons_succ])
    (refine wpE_read rfl (by rfl) (fun w' hx => exec_load 32 _ rfl w.heap.size _ _ _ rfl (HA.out _ (Ext.trans HX.out hx)) Tryz.underlying32 rfl rule_size) ?_; simp only [Act.put, List.setIfInBounds_toArray, List.set_cons_zero, List.set_cons_succ])
    (refine wpE_call rfl (by rfl) (fun K hK => ?_); go_simp)
    go_at_call 20
    refine (c7 _).mono ?_
    rintro e wz ⟨rfl, hz⟩
    refine hK _ _ hz ?_
    clear hK K
    have HX : Hid (Ext WD wz) := Ext.trans HX.out hz
    clear hz
    (refine wpE_read (v := ?_) rfl (by rfl) ?_ ?_; rotate_left; (focus (intro w' hx; go_simp; first | done | with_reducible rfl)); simp only [Act.put, List.setIfInBounds_toArray, List.set_cons_zero, List.set_cons_succ])
    (refine wpE_read (v := ?_) rfl (by rfl) ?_ ?_; rotate_left; (focus (intro w' hx; go_simp; first | done | with_reducible rfl)); simp only [Act.put, List.setIfInBounds_toArray, List.set_cons_zero, List.set_cons_succ])
    (refine wpE_call rfl (by rfl) (fun K hK => ?_); go_simp)
    go_at_call 14
    refine (c8 _ (HS.out _ HX.out)).mono ?_
    rintro e wz ⟨rfl, hz⟩
    refine hK _ _ hz ?_
    clear hK K
    have HX : Hid (Ext WD wz) := Ext.trans HX.out hz
    clear hz
    (refine wpE_read (v := ?_) rfl (by rfl) ?_ ?_; rotate_left; (focus (intro w' hx; go_simp; first | done | with_reducible rfl)); simp only [Act.put, List.setIfInBounds_toArray, List.set_cons_zero, List.set_cons_succ])
    (refine wpE_read (v := ?_) rfl (by rfl) ?_ ?_; rotate_left; (focus (intro w' hx; go_simp; first | done | with_reducible rfl)); simp only [Act.put, List.setIfInBounds_toArray, List.set_cons_zero, List.set_cons_succ])
    refine wpE_done ?_
    go_wp2
    go_ret
    exact ⟨rfl, HE.out _ HX.out⟩
end Go.Proofs.YtbmmgjmmooakpaaGreatDoor.Ru
