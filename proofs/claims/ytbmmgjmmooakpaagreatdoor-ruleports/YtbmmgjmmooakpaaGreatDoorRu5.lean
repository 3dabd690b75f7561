/- The document's Is: whether a rule may be; its Same. -/
import Derived.Test.YtbmmgjmmooakpaaGreatDoorRu4
import Derived.Test.YtbmmgjmmooakpaaGreatDoorRuP3
import Derived.Deep.Cut
namespace Go.Proofs.YtbmmgjmmooakpaaGreatDoor.Ru
open Go.RowKit
set_option linter.unusedVariables false
set_option maxRecDepth 100000

set_option maxHeartbeats 4000000 in
theorem refIsRule_any (r : RuleV) (w : World) (hr : RuleOk r) : Calls Tryz.prog 19 #[(.agg #[.bool r.pass, .bool r.ret, .bool r.quick, .string r.on, .int .i64 r.proto, .bool r.src.any, .string r.src.table, .int .u32 r.src.a, .int .i64 r.src.n, .int .i64 r.src.low, .int .i64 r.src.high, .bool r.dst.any, .string r.dst.table, .int .u32 r.dst.a, .int .i64 r.dst.n, .int .i64 r.dst.low, .int .i64 r.dst.high, .int .i64 r.set, .int .i64 r.mask, .int .i64 r.type, .bool r.keep, .bool r.rt.on, .string r.rt.iface, .int .u32 r.rt.gate, .bool r.rp.on, .string r.rp.iface, .int .u32 r.rp.gate, .int .i64 r.table])] w fun e w' => e = .returned (.bool (isR r)) ∧ Ext w w' := by
  rw [isR_doc r hr]
  have c2 := fun w => refName_any r.on w hr.on
  have c4 := fun p w => refSide_any r.src p w hr.src
  have c5 := fun p w => refSide_any r.dst p w hr.dst
  have c8 := fun w => refPin_any r.rt w hr.rt
  have c9 := fun w => refPin_any r.rp w hr.rp
  have he := empT r.on
  clear hr
  obtain ⟨pass, ret, quick, on, proto, ⟨sany, stab, sa, sn, slo, shi⟩, ⟨dany, dtab, da, dn, dlo, dhi⟩, set, mask, type, keep, ⟨ton, tif, tg⟩, ⟨pon, pif, pg⟩, table⟩ := r
  dsimp only at *
  generalize hz : decide (on = txt []) = z at *
  generalize nameB on = b2 at *
  obtain ⟨p, hp⟩ : ∃ p, (proto == 6 || proto == 17) = p := ⟨_, rfl⟩
  rw [hp]
  replace c4 := c4 p
  replace c5 := c5 p
  generalize (endB _ && (portsB _ && (allB _ || p))) = b4 at c4 ⊢
  generalize (endB _ && (portsB _ && (allB _ || p))) = b5 at c5 ⊢
  generalize pinB _ = b8 at c8 ⊢
  generalize pinB _ = b9 at c9 ⊢
  obtain ⟨a, ha⟩ : ∃ a, bits .andNot .i64 set mask = a := ⟨_, rfl⟩
  rw [show andNot set mask = a from ha]
  have nb6 : (proto != 6) = !(proto == 6) := rfl
  have nbq : (proto != 1) = !(proto == 1) := rfl
  have nm0 : (mask != 0) = !(mask == 0) := rfl
  have ns0 : (set != 0) = !(set == 0) := rfl
  have na0 : (a != 0) = !(a == 0) := rfl
  have nty : (type != -1) = !(type == -1) := rfl
  have ntz : (table != 0) = !(table == 0) := rfl
  generalize eb6 : (proto == 6) = b6 at *
  generalize eb17 : (proto == 17) = b17 at *
  generalize ebq : (proto == 1) = bq at *
  generalize em0 : (mask == 0) = m0 at *
  generalize es0 : (set == 0) = s0 at *
  generalize ea0 : (a == 0) = a0 at *
  generalize ety : (type == -1) = ty at *
  generalize etz : (table == 0) = tz at *
  generalize el1 : decide (proto < 0) = l1 at *
  generalize el2 : decide (255 < proto) = l2 at *
  generalize eml : decide (mask < 0) = ml at *
  generalize emh : decide (63 < mask) = mh at *
  generalize esl : decide (set < 0) = sl at *
  generalize etl : decide (type < -1) = tl at *
  generalize eth : decide (255 < type) = th at *
  generalize et0 : decide (0 ≤ table) = t0 at *
  generalize et4 : decide (table < 4) = t4 at *
  generalize hd1 : (pass && ret) = d1
  generalize hd2 : (!pass && (keep || (ton || (pon || !tz)))) = d2
  generalize hd3 : (!z && !b2) = d3
  generalize hd4 : (l1 || l2) = d4
  generalize hd5 : (!b4 || !b5) = d5
  generalize hd6 : (ml || (mh || (sl || !a0))) = d6
  generalize hd7 : (!b6 && (!m0 || !s0)) = d7
  generalize hd8 : (tl || th) = d8
  generalize hd9 : (!bq && !ty) = d9
  generalize hd10 : (b8 && (b9 && (t0 && t4))) = d10
  obtain ⟨W, hW⟩ : ∃ W, w.alloc (.cells #[.bool pass, .bool ret, .bool quick, .string on, .int .i64 proto, .bool sany, .string stab, .int .u32 sa, .int .i64 sn, .int .i64 slo, .int .i64 shi, .bool dany, .string dtab, .int .u32 da, .int .i64 dn, .int .i64 dlo, .int .i64 dhi, .int .i64 set, .int .i64 mask, .int .i64 type, .bool keep, .bool ton, .string tif, .int .u32 tg, .bool pon, .string pif, .int .u32 pg, .int .i64 table] 32) = W := ⟨_, rfl⟩
  have hx0 : Ext w W := hW ▸ (Ext.refl w).alloc _
  have x0 : ∀ w', Ext W w' → w'.cell? ⟨w.heap.size, 0, none⟩ = some (.bool pass) := hW ▸ boxK w #[.bool pass, .bool ret, .bool quick, .string on, .int .i64 proto, .bool sany, .string stab, .int .u32 sa, .int .i64 sn, .int .i64 slo, .int .i64 shi, .bool dany, .string dtab, .int .u32 da, .int .i64 dn, .int .i64 dlo, .int .i64 dhi, .int .i64 set, .int .i64 mask, .int .i64 type, .bool keep, .bool ton, .string tif, .int .u32 tg, .bool pon, .string pif, .int .u32 pg, .int .i64 table] 32 0
  have x1 : ∀ w', Ext W w' → w'.cell? ⟨w.heap.size, 1, none⟩ = some (.bool ret) := hW ▸ boxK w #[.bool pass, .bool ret, .bool quick, .string on, .int .i64 proto, .bool sany, .string stab, .int .u32 sa, .int .i64 sn, .int .i64 slo, .int .i64 shi, .bool dany, .string dtab, .int .u32 da, .int .i64 dn, .int .i64 dlo, .int .i64 dhi, .int .i64 set, .int .i64 mask, .int .i64 type, .bool keep, .bool ton, .string tif, .int .u32 tg, .bool pon, .string pif, .int .u32 pg, .int .i64 table] 32 1
  have x3 : ∀ w', Ext W w' → w'.cell? ⟨w.heap.size, 3, none⟩ = some (.string on) := hW ▸ boxK w #[.bool pass, .bool ret, .bool quick, .string on, .int .i64 proto, .bool sany, .string stab, .int .u32 sa, .int .i64 sn, .int .i64 slo, .int .i64 shi, .bool dany, .string dtab, .int .u32 da, .int .i64 dn, .int .i64 dlo, .int .i64 dhi, .int .i64 set, .int .i64 mask, .int .i64 type, .bool keep, .bool ton, .string tif, .int .u32 tg, .bool pon, .string pif, .int .u32 pg, .int .i64 table] 32 3
  have x4 : ∀ w', Ext W w' → w'.cell? ⟨w.heap.size, 4, none⟩ = some (.int .i64 proto) := hW ▸ boxK w #[.bool pass, .bool ret, .bool quick, .string on, .int .i64 proto, .bool sany, .string stab, .int .u32 sa, .int .i64 sn, .int .i64 slo, .int .i64 shi, .bool dany, .string dtab, .int .u32 da, .int .i64 dn, .int .i64 dlo, .int .i64 dhi, .int .i64 set, .int .i64 mask, .int .i64 type, .bool keep, .bool ton, .string tif, .int .u32 tg, .bool pon, .string pif, .int .u32 pg, .int .i64 table] 32 4
  have x5 : ∀ w', Ext W w' → w'.cell? ⟨w.heap.size, 5, none⟩ = some (.bool sany) := hW ▸ boxK w #[.bool pass, .bool ret, .bool quick, .string on, .int .i64 proto, .bool sany, .string stab, .int .u32 sa, .int .i64 sn, .int .i64 slo, .int .i64 shi, .bool dany, .string dtab, .int .u32 da, .int .i64 dn, .int .i64 dlo, .int .i64 dhi, .int .i64 set, .int .i64 mask, .int .i64 type, .bool keep, .bool ton, .string tif, .int .u32 tg, .bool pon, .string pif, .int .u32 pg, .int .i64 table] 32 5
  have x6 : ∀ w', Ext W w' → w'.cell? ⟨w.heap.size, 6, none⟩ = some (.string stab) := hW ▸ boxK w #[.bool pass, .bool ret, .bool quick, .string on, .int .i64 proto, .bool sany, .string stab, .int .u32 sa, .int .i64 sn, .int .i64 slo, .int .i64 shi, .bool dany, .string dtab, .int .u32 da, .int .i64 dn, .int .i64 dlo, .int .i64 dhi, .int .i64 set, .int .i64 mask, .int .i64 type, .bool keep, .bool ton, .string tif, .int .u32 tg, .bool pon, .string pif, .int .u32 pg, .int .i64 table] 32 6
  have x7 : ∀ w', Ext W w' → w'.cell? ⟨w.heap.size, 7, none⟩ = some (.int .u32 sa) := hW ▸ boxK w #[.bool pass, .bool ret, .bool quick, .string on, .int .i64 proto, .bool sany, .string stab, .int .u32 sa, .int .i64 sn, .int .i64 slo, .int .i64 shi, .bool dany, .string dtab, .int .u32 da, .int .i64 dn, .int .i64 dlo, .int .i64 dhi, .int .i64 set, .int .i64 mask, .int .i64 type, .bool keep, .bool ton, .string tif, .int .u32 tg, .bool pon, .string pif, .int .u32 pg, .int .i64 table] 32 7
  have x8 : ∀ w', Ext W w' → w'.cell? ⟨w.heap.size, 8, none⟩ = some (.int .i64 sn) := hW ▸ boxK w #[.bool pass, .bool ret, .bool quick, .string on, .int .i64 proto, .bool sany, .string stab, .int .u32 sa, .int .i64 sn, .int .i64 slo, .int .i64 shi, .bool dany, .string dtab, .int .u32 da, .int .i64 dn, .int .i64 dlo, .int .i64 dhi, .int .i64 set, .int .i64 mask, .int .i64 type, .bool keep, .bool ton, .string tif, .int .u32 tg, .bool pon, .string pif, .int .u32 pg, .int .i64 table] 32 8
  have x9 : ∀ w', Ext W w' → w'.cell? ⟨w.heap.size, 9, none⟩ = some (.int .i64 slo) := hW ▸ boxK w #[.bool pass, .bool ret, .bool quick, .string on, .int .i64 proto, .bool sany, .string stab, .int .u32 sa, .int .i64 sn, .int .i64 slo, .int .i64 shi, .bool dany, .string dtab, .int .u32 da, .int .i64 dn, .int .i64 dlo, .int .i64 dhi, .int .i64 set, .int .i64 mask, .int .i64 type, .bool keep, .bool ton, .string tif, .int .u32 tg, .bool pon, .string pif, .int .u32 pg, .int .i64 table] 32 9
  have x10 : ∀ w', Ext W w' → w'.cell? ⟨w.heap.size, 10, none⟩ = some (.int .i64 shi) := hW ▸ boxK w #[.bool pass, .bool ret, .bool quick, .string on, .int .i64 proto, .bool sany, .string stab, .int .u32 sa, .int .i64 sn, .int .i64 slo, .int .i64 shi, .bool dany, .string dtab, .int .u32 da, .int .i64 dn, .int .i64 dlo, .int .i64 dhi, .int .i64 set, .int .i64 mask, .int .i64 type, .bool keep, .bool ton, .string tif, .int .u32 tg, .bool pon, .string pif, .int .u32 pg, .int .i64 table] 32 10
  have x11 : ∀ w', Ext W w' → w'.cell? ⟨w.heap.size, 11, none⟩ = some (.bool dany) := hW ▸ boxK w #[.bool pass, .bool ret, .bool quick, .string on, .int .i64 proto, .bool sany, .string stab, .int .u32 sa, .int .i64 sn, .int .i64 slo, .int .i64 shi, .bool dany, .string dtab, .int .u32 da, .int .i64 dn, .int .i64 dlo, .int .i64 dhi, .int .i64 set, .int .i64 mask, .int .i64 type, .bool keep, .bool ton, .string tif, .int .u32 tg, .bool pon, .string pif, .int .u32 pg, .int .i64 table] 32 11
  have x12 : ∀ w', Ext W w' → w'.cell? ⟨w.heap.size, 12, none⟩ = some (.string dtab) := hW ▸ boxK w #[.bool pass, .bool ret, .bool quick, .string on, .int .i64 proto, .bool sany, .string stab, .int .u32 sa, .int .i64 sn, .int .i64 slo, .int .i64 shi, .bool dany, .string dtab, .int .u32 da, .int .i64 dn, .int .i64 dlo, .int .i64 dhi, .int .i64 set, .int .i64 mask, .int .i64 type, .bool keep, .bool ton, .string tif, .int .u32 tg, .bool pon, .string pif, .int .u32 pg, .int .i64 table] 32 12
  have x13 : ∀ w', Ext W w' → w'.cell? ⟨w.heap.size, 13, none⟩ = some (.int .u32 da) := hW ▸ boxK w #[.bool pass, .bool ret, .bool quick, .string on, .int .i64 proto, .bool sany, .string stab, .int .u32 sa, .int .i64 sn, .int .i64 slo, .int .i64 shi, .bool dany, .string dtab, .int .u32 da, .int .i64 dn, .int .i64 dlo, .int .i64 dhi, .int .i64 set, .int .i64 mask, .int .i64 type, .bool keep, .bool ton, .string tif, .int .u32 tg, .bool pon, .string pif, .int .u32 pg, .int .i64 table] 32 13
  have x14 : ∀ w', Ext W w' → w'.cell? ⟨w.heap.size, 14, none⟩ = some (.int .i64 dn) := hW ▸ boxK w #[.bool pass, .bool ret, .bool quick, .string on, .int .i64 proto, .bool sany, .string stab, .int .u32 sa, .int .i64 sn, .int .i64 slo, .int .i64 shi, .bool dany, .string dtab, .int .u32 da, .int .i64 dn, .int .i64 dlo, .int .i64 dhi, .int .i64 set, .int .i64 mask, .int .i64 type, .bool keep, .bool ton, .string tif, .int .u32 tg, .bool pon, .string pif, .int .u32 pg, .int .i64 table] 32 14
  have x15 : ∀ w', Ext W w' → w'.cell? ⟨w.heap.size, 15, none⟩ = some (.int .i64 dlo) := hW ▸ boxK w #[.bool pass, .bool ret, .bool quick, .string on, .int .i64 proto, .bool sany, .string stab, .int .u32 sa, .int .i64 sn, .int .i64 slo, .int .i64 shi, .bool dany, .string dtab, .int .u32 da, .int .i64 dn, .int .i64 dlo, .int .i64 dhi, .int .i64 set, .int .i64 mask, .int .i64 type, .bool keep, .bool ton, .string tif, .int .u32 tg, .bool pon, .string pif, .int .u32 pg, .int .i64 table] 32 15
  have x16 : ∀ w', Ext W w' → w'.cell? ⟨w.heap.size, 16, none⟩ = some (.int .i64 dhi) := hW ▸ boxK w #[.bool pass, .bool ret, .bool quick, .string on, .int .i64 proto, .bool sany, .string stab, .int .u32 sa, .int .i64 sn, .int .i64 slo, .int .i64 shi, .bool dany, .string dtab, .int .u32 da, .int .i64 dn, .int .i64 dlo, .int .i64 dhi, .int .i64 set, .int .i64 mask, .int .i64 type, .bool keep, .bool ton, .string tif, .int .u32 tg, .bool pon, .string pif, .int .u32 pg, .int .i64 table] 32 16
  have x17 : ∀ w', Ext W w' → w'.cell? ⟨w.heap.size, 17, none⟩ = some (.int .i64 set) := hW ▸ boxK w #[.bool pass, .bool ret, .bool quick, .string on, .int .i64 proto, .bool sany, .string stab, .int .u32 sa, .int .i64 sn, .int .i64 slo, .int .i64 shi, .bool dany, .string dtab, .int .u32 da, .int .i64 dn, .int .i64 dlo, .int .i64 dhi, .int .i64 set, .int .i64 mask, .int .i64 type, .bool keep, .bool ton, .string tif, .int .u32 tg, .bool pon, .string pif, .int .u32 pg, .int .i64 table] 32 17
  have x18 : ∀ w', Ext W w' → w'.cell? ⟨w.heap.size, 18, none⟩ = some (.int .i64 mask) := hW ▸ boxK w #[.bool pass, .bool ret, .bool quick, .string on, .int .i64 proto, .bool sany, .string stab, .int .u32 sa, .int .i64 sn, .int .i64 slo, .int .i64 shi, .bool dany, .string dtab, .int .u32 da, .int .i64 dn, .int .i64 dlo, .int .i64 dhi, .int .i64 set, .int .i64 mask, .int .i64 type, .bool keep, .bool ton, .string tif, .int .u32 tg, .bool pon, .string pif, .int .u32 pg, .int .i64 table] 32 18
  have x19 : ∀ w', Ext W w' → w'.cell? ⟨w.heap.size, 19, none⟩ = some (.int .i64 type) := hW ▸ boxK w #[.bool pass, .bool ret, .bool quick, .string on, .int .i64 proto, .bool sany, .string stab, .int .u32 sa, .int .i64 sn, .int .i64 slo, .int .i64 shi, .bool dany, .string dtab, .int .u32 da, .int .i64 dn, .int .i64 dlo, .int .i64 dhi, .int .i64 set, .int .i64 mask, .int .i64 type, .bool keep, .bool ton, .string tif, .int .u32 tg, .bool pon, .string pif, .int .u32 pg, .int .i64 table] 32 19
  have x20 : ∀ w', Ext W w' → w'.cell? ⟨w.heap.size, 20, none⟩ = some (.bool keep) := hW ▸ boxK w #[.bool pass, .bool ret, .bool quick, .string on, .int .i64 proto, .bool sany, .string stab, .int .u32 sa, .int .i64 sn, .int .i64 slo, .int .i64 shi, .bool dany, .string dtab, .int .u32 da, .int .i64 dn, .int .i64 dlo, .int .i64 dhi, .int .i64 set, .int .i64 mask, .int .i64 type, .bool keep, .bool ton, .string tif, .int .u32 tg, .bool pon, .string pif, .int .u32 pg, .int .i64 table] 32 20
  have x21 : ∀ w', Ext W w' → w'.cell? ⟨w.heap.size, 21, none⟩ = some (.bool ton) := hW ▸ boxK w #[.bool pass, .bool ret, .bool quick, .string on, .int .i64 proto, .bool sany, .string stab, .int .u32 sa, .int .i64 sn, .int .i64 slo, .int .i64 shi, .bool dany, .string dtab, .int .u32 da, .int .i64 dn, .int .i64 dlo, .int .i64 dhi, .int .i64 set, .int .i64 mask, .int .i64 type, .bool keep, .bool ton, .string tif, .int .u32 tg, .bool pon, .string pif, .int .u32 pg, .int .i64 table] 32 21
  have x22 : ∀ w', Ext W w' → w'.cell? ⟨w.heap.size, 22, none⟩ = some (.string tif) := hW ▸ boxK w #[.bool pass, .bool ret, .bool quick, .string on, .int .i64 proto, .bool sany, .string stab, .int .u32 sa, .int .i64 sn, .int .i64 slo, .int .i64 shi, .bool dany, .string dtab, .int .u32 da, .int .i64 dn, .int .i64 dlo, .int .i64 dhi, .int .i64 set, .int .i64 mask, .int .i64 type, .bool keep, .bool ton, .string tif, .int .u32 tg, .bool pon, .string pif, .int .u32 pg, .int .i64 table] 32 22
  have x23 : ∀ w', Ext W w' → w'.cell? ⟨w.heap.size, 23, none⟩ = some (.int .u32 tg) := hW ▸ boxK w #[.bool pass, .bool ret, .bool quick, .string on, .int .i64 proto, .bool sany, .string stab, .int .u32 sa, .int .i64 sn, .int .i64 slo, .int .i64 shi, .bool dany, .string dtab, .int .u32 da, .int .i64 dn, .int .i64 dlo, .int .i64 dhi, .int .i64 set, .int .i64 mask, .int .i64 type, .bool keep, .bool ton, .string tif, .int .u32 tg, .bool pon, .string pif, .int .u32 pg, .int .i64 table] 32 23
  have x24 : ∀ w', Ext W w' → w'.cell? ⟨w.heap.size, 24, none⟩ = some (.bool pon) := hW ▸ boxK w #[.bool pass, .bool ret, .bool quick, .string on, .int .i64 proto, .bool sany, .string stab, .int .u32 sa, .int .i64 sn, .int .i64 slo, .int .i64 shi, .bool dany, .string dtab, .int .u32 da, .int .i64 dn, .int .i64 dlo, .int .i64 dhi, .int .i64 set, .int .i64 mask, .int .i64 type, .bool keep, .bool ton, .string tif, .int .u32 tg, .bool pon, .string pif, .int .u32 pg, .int .i64 table] 32 24
  have x25 : ∀ w', Ext W w' → w'.cell? ⟨w.heap.size, 25, none⟩ = some (.string pif) := hW ▸ boxK w #[.bool pass, .bool ret, .bool quick, .string on, .int .i64 proto, .bool sany, .string stab, .int .u32 sa, .int .i64 sn, .int .i64 slo, .int .i64 shi, .bool dany, .string dtab, .int .u32 da, .int .i64 dn, .int .i64 dlo, .int .i64 dhi, .int .i64 set, .int .i64 mask, .int .i64 type, .bool keep, .bool ton, .string tif, .int .u32 tg, .bool pon, .string pif, .int .u32 pg, .int .i64 table] 32 25
  have x26 : ∀ w', Ext W w' → w'.cell? ⟨w.heap.size, 26, none⟩ = some (.int .u32 pg) := hW ▸ boxK w #[.bool pass, .bool ret, .bool quick, .string on, .int .i64 proto, .bool sany, .string stab, .int .u32 sa, .int .i64 sn, .int .i64 slo, .int .i64 shi, .bool dany, .string dtab, .int .u32 da, .int .i64 dn, .int .i64 dlo, .int .i64 dhi, .int .i64 set, .int .i64 mask, .int .i64 type, .bool keep, .bool ton, .string tif, .int .u32 tg, .bool pon, .string pif, .int .u32 pg, .int .i64 table] 32 26
  have x27 : ∀ w', Ext W w' → w'.cell? ⟨w.heap.size, 27, none⟩ = some (.int .i64 table) := hW ▸ boxK w #[.bool pass, .bool ret, .bool quick, .string on, .int .i64 proto, .bool sany, .string stab, .int .u32 sa, .int .i64 sn, .int .i64 slo, .int .i64 shi, .bool dany, .string dtab, .int .u32 da, .int .i64 dn, .int .i64 dlo, .int .i64 dhi, .int .i64 set, .int .i64 mask, .int .i64 type, .bool keep, .bool ton, .string tif, .int .u32 tg, .bool pon, .string pif, .int .u32 pg, .int .i64 table] 32 27
  have hv := Ext.refl W
  go_enter Tryz.func19, Tryz.ntmps19
  go_upto_region 1 with fail
  go_cut [0, 3] from 4 (fun s0 s wx => s = .bool p ∧ Ext W wx)
  case first =>
    go_wp2
    all_goals (go_meet; exact ⟨by subst hp; simp_all, hv⟩)
  obtain ⟨rfl, hv'⟩ := hcut
  clear hv
  have hv := hv'
  clear hv' hp
  go_upto_region 2 with fail
  go_cut [12] from 13 (fun s wx => s = .bool d1 ∧ Ext W wx)
  case first =>
    go_wp2
    all_goals (go_meet; exact ⟨by subst hd1; simp_all, hv⟩)
  obtain ⟨rfl, hv'⟩ := hcut
  clear hv
  have hv := hv'
  clear hv' hd1
  cases d1
  rotate_left
  focus (go_wp2; go_ret; exact ⟨by simp, hx0.trans hv⟩)
  go_upto_region 3 with fail
  go_cut [12] from 13 (fun s wx => s = .bool d2 ∧ Ext W wx)
  case first =>
    go_wp2
    all_goals (go_meet; exact ⟨by subst hd2; simp_all, hv⟩)
  obtain ⟨rfl, hv'⟩ := hcut
  clear hv
  have hv := hv'
  clear hv' hd2
  cases d2
  rotate_left
  focus (go_wp2; go_ret; exact ⟨by simp, hx0.trans hv⟩)
  go_upto_region 5 with fail
  go_cut [41] from 42 (fun s wx => s = .bool d3 ∧ Ext W wx)
  case first =>
    go_wp2_with (first | (go_at_call 13; refine (c2 _).mono ?_; rintro e w1 ⟨rfl, rfl⟩))
    all_goals (go_meet; exact ⟨by subst hd3; simp_all, hv⟩)
  obtain ⟨rfl, hv'⟩ := hcut
  clear hv
  have hv := hv'
  clear hv' hd3
  cases d3
  rotate_left
  focus (go_wp2; go_ret; exact ⟨by simp, hx0.trans hv⟩)
  go_upto_region 6 with fail
  go_cut [41] from 42 (fun s wx => s = .bool d4 ∧ Ext W wx)
  case first =>
    go_wp2
    all_goals (go_meet; exact ⟨by subst hd4; simp_all, hv⟩)
  obtain ⟨rfl, hv'⟩ := hcut
  clear hv
  have hv := hv'
  clear hv' hd4
  cases d4
  rotate_left
  focus (go_wp2; go_ret; exact ⟨by simp, hx0.trans hv⟩)
  have tok : Hid True := trivial
  go_upto_region 7 with fail
  go_cut [41] from 42 (fun s wx => s = .bool d5 ∧ Ext W wx)
  case first =>
    go_wp2_with (first | (go_at_call 51; clear tok; refine (c4 _).mono ?_; rintro e w1 ⟨rfl, hx1⟩; replace hv := hv.trans hx1; clear hx1) | (go_at_call 51; refine (c5 _).mono ?_; rintro e w1 ⟨rfl, hx1⟩; replace hv := hv.trans hx1; clear hx1))
    all_goals (go_meet; exact ⟨by subst hd5; simp_all, hv⟩)
  obtain ⟨rfl, hv'⟩ := hcut
  clear hv
  have hv := hv'
  clear hv' hd5
  cases d5
  rotate_left
  focus (go_wp2; go_ret; exact ⟨by simp, hx0.trans hv⟩)
  go_upto_region 9 with fail
  go_cut [71] from 72 (fun s wx => s = .bool d6 ∧ Ext W wx)
  case first =>
    go_wp2
    all_goals (go_meet; exact ⟨by subst hd6; simp_all, hv⟩)
  obtain ⟨rfl, hv'⟩ := hcut
  clear hv
  have hv := hv'
  clear hv' hd6
  cases d6
  rotate_left
  focus (go_wp2; go_ret; exact ⟨by simp, hx0.trans hv⟩)
  go_upto_region 10 with fail
  go_cut [71] from 72 (fun s wx => s = .bool d7 ∧ Ext W wx)
  case first =>
    go_wp2
    all_goals (go_meet; exact ⟨by subst hd7; simp_all, hv⟩)
  obtain ⟨rfl, hv'⟩ := hcut
  clear hv
  have hv := hv'
  clear hv' hd7
  cases d7
  rotate_left
  focus (go_wp2; go_ret; exact ⟨by simp, hx0.trans hv⟩)
  go_upto_region 12 with fail
  go_cut [106] from 107 (fun s wx => s = .bool d8 ∧ Ext W wx)
  case first =>
    go_wp2
    all_goals (go_meet; exact ⟨by subst hd8; simp_all, hv⟩)
  obtain ⟨rfl, hv'⟩ := hcut
  clear hv
  have hv := hv'
  clear hv' hd8
  cases d8
  rotate_left
  focus (go_wp2; go_ret; exact ⟨by simp, hx0.trans hv⟩)
  go_upto_region 13 with fail
  go_cut [106] from 107 (fun s wx => s = .bool d9 ∧ Ext W wx)
  case first =>
    go_wp2
    all_goals (go_meet; exact ⟨by subst hd9; simp_all, hv⟩)
  obtain ⟨rfl, hv'⟩ := hcut
  clear hv
  have hv := hv'
  clear hv' hd9
  cases d9
  rotate_left
  focus (go_wp2; go_ret; exact ⟨by simp, hx0.trans hv⟩)
  have tok2 : Hid True := trivial
  go_wp2_with (first | (go_at_call 52; clear tok2; refine (c8 _).mono ?_; rintro e w1 ⟨rfl, hx1⟩; replace hv := hv.trans hx1; clear hx1) | (go_at_call 52; refine (c9 _).mono ?_; rintro e w1 ⟨rfl, hx1⟩; replace hv := hv.trans hx1; clear hx1))
  all_goals go_ret
  all_goals exact ⟨by subst hd10; simp_all, hx0.trans hv⟩

theorem refSame_any (r q : RuleV) (w : World) : Calls Tryz.prog 11 #[(.agg #[.bool r.pass, .bool r.ret, .bool r.quick, .string r.on, .int .i64 r.proto, .bool r.src.any, .string r.src.table, .int .u32 r.src.a, .int .i64 r.src.n, .int .i64 r.src.low, .int .i64 r.src.high, .bool r.dst.any, .string r.dst.table, .int .u32 r.dst.a, .int .i64 r.dst.n, .int .i64 r.dst.low, .int .i64 r.dst.high, .int .i64 r.set, .int .i64 r.mask, .int .i64 r.type, .bool r.keep, .bool r.rt.on, .string r.rt.iface, .int .u32 r.rt.gate, .bool r.rp.on, .string r.rp.iface, .int .u32 r.rp.gate, .int .i64 r.table]), (.agg #[.bool q.pass, .bool q.ret, .bool q.quick, .string q.on, .int .i64 q.proto, .bool q.src.any, .string q.src.table, .int .u32 q.src.a, .int .i64 q.src.n, .int .i64 q.src.low, .int .i64 q.src.high, .bool q.dst.any, .string q.dst.table, .int .u32 q.dst.a, .int .i64 q.dst.n, .int .i64 q.dst.low, .int .i64 q.dst.high, .int .i64 q.set, .int .i64 q.mask, .int .i64 q.type, .bool q.keep, .bool q.rt.on, .string q.rt.iface, .int .u32 q.rt.gate, .bool q.rp.on, .string q.rp.iface, .int .u32 q.rp.gate, .int .i64 q.table])] w fun e w' => e = .returned (.bool (ruleQ r q)) ∧ Ext w w' := by
  have eq := fun w => eql_rule r q w
  have eg := rule_guard
  generalize ruleQ r q = b at *
  have hA := heap_new w (.cells #[.bool r.pass, .bool r.ret, .bool r.quick, .string r.on, .int .i64 r.proto, .bool r.src.any, .string r.src.table, .int .u32 r.src.a, .int .i64 r.src.n, .int .i64 r.src.low, .int .i64 r.src.high, .bool r.dst.any, .string r.dst.table, .int .u32 r.dst.a, .int .i64 r.dst.n, .int .i64 r.dst.low, .int .i64 r.dst.high, .int .i64 r.set, .int .i64 r.mask, .int .i64 r.type, .bool r.keep, .bool r.rt.on, .string r.rt.iface, .int .u32 r.rt.gate, .bool r.rp.on, .string r.rp.iface, .int .u32 r.rp.gate, .int .i64 r.table] 32)
  have hB := heap_new (w.alloc (.cells #[.bool r.pass, .bool r.ret, .bool r.quick, .string r.on, .int .i64 r.proto, .bool r.src.any, .string r.src.table, .int .u32 r.src.a, .int .i64 r.src.n, .int .i64 r.src.low, .int .i64 r.src.high, .bool r.dst.any, .string r.dst.table, .int .u32 r.dst.a, .int .i64 r.dst.n, .int .i64 r.dst.low, .int .i64 r.dst.high, .int .i64 r.set, .int .i64 r.mask, .int .i64 r.type, .bool r.keep, .bool r.rt.on, .string r.rt.iface, .int .u32 r.rt.gate, .bool r.rp.on, .string r.rp.iface, .int .u32 r.rp.gate, .int .i64 r.table] 32)) (.cells #[.bool q.pass, .bool q.ret, .bool q.quick, .string q.on, .int .i64 q.proto, .bool q.src.any, .string q.src.table, .int .u32 q.src.a, .int .i64 q.src.n, .int .i64 q.src.low, .int .i64 q.src.high, .bool q.dst.any, .string q.dst.table, .int .u32 q.dst.a, .int .i64 q.dst.n, .int .i64 q.dst.low, .int .i64 q.dst.high, .int .i64 q.set, .int .i64 q.mask, .int .i64 q.type, .bool q.keep, .bool q.rt.on, .string q.rt.iface, .int .u32 q.rt.gate, .bool q.rp.on, .string q.rp.iface, .int .u32 q.rp.gate, .int .i64 q.table] 32)
  have hx := ((Ext.refl w).alloc (.cells #[.bool r.pass, .bool r.ret, .bool r.quick, .string r.on, .int .i64 r.proto, .bool r.src.any, .string r.src.table, .int .u32 r.src.a, .int .i64 r.src.n, .int .i64 r.src.low, .int .i64 r.src.high, .bool r.dst.any, .string r.dst.table, .int .u32 r.dst.a, .int .i64 r.dst.n, .int .i64 r.dst.low, .int .i64 r.dst.high, .int .i64 r.set, .int .i64 r.mask, .int .i64 r.type, .bool r.keep, .bool r.rt.on, .string r.rt.iface, .int .u32 r.rt.gate, .bool r.rp.on, .string r.rp.iface, .int .u32 r.rp.gate, .int .i64 r.table] 32)).alloc (.cells #[.bool q.pass, .bool q.ret, .bool q.quick, .string q.on, .int .i64 q.proto, .bool q.src.any, .string q.src.table, .int .u32 q.src.a, .int .i64 q.src.n, .int .i64 q.src.low, .int .i64 q.src.high, .bool q.dst.any, .string q.dst.table, .int .u32 q.dst.a, .int .i64 q.dst.n, .int .i64 q.dst.low, .int .i64 q.dst.high, .int .i64 q.set, .int .i64 q.mask, .int .i64 q.type, .bool q.keep, .bool q.rt.on, .string q.rt.iface, .int .u32 q.rt.gate, .bool q.rp.on, .string q.rp.iface, .int .u32 q.rp.gate, .int .i64 q.table] 32)
  have hA' := ((Ext.refl _).alloc (.cells #[.bool q.pass, .bool q.ret, .bool q.quick, .string q.on, .int .i64 q.proto, .bool q.src.any, .string q.src.table, .int .u32 q.src.a, .int .i64 q.src.n, .int .i64 q.src.low, .int .i64 q.src.high, .bool q.dst.any, .string q.dst.table, .int .u32 q.dst.a, .int .i64 q.dst.n, .int .i64 q.dst.low, .int .i64 q.dst.high, .int .i64 q.set, .int .i64 q.mask, .int .i64 q.type, .bool q.keep, .bool q.rt.on, .string q.rt.iface, .int .u32 q.rt.gate, .bool q.rp.on, .string q.rp.iface, .int .u32 q.rp.gate, .int .i64 q.table] 32)).heap hA
  rw [show (w.alloc (.cells #[.bool r.pass, .bool r.ret, .bool r.quick, .string r.on, .int .i64 r.proto, .bool r.src.any, .string r.src.table, .int .u32 r.src.a, .int .i64 r.src.n, .int .i64 r.src.low, .int .i64 r.src.high, .bool r.dst.any, .string r.dst.table, .int .u32 r.dst.a, .int .i64 r.dst.n, .int .i64 r.dst.low, .int .i64 r.dst.high, .int .i64 r.set, .int .i64 r.mask, .int .i64 r.type, .bool r.keep, .bool r.rt.on, .string r.rt.iface, .int .u32 r.rt.gate, .bool r.rp.on, .string r.rp.iface, .int .u32 r.rp.gate, .int .i64 r.table] 32)).heap.size = w.heap.size + 1 by simp] at hB
  clear hA
  obtain ⟨pass, ret, quick, on, proto, ⟨sany, stab, sa, sn, slo, shi⟩, ⟨dany, dtab, da, dn, dlo, dhi⟩, set, mask, type, keep, ⟨ton, tif, tg⟩, ⟨pon, pif, pg⟩, table⟩ := r
  obtain ⟨qpass, qret, qquick, qon, qproto, ⟨qsany, qstab, qsa, qsn, qslo, qshi⟩, ⟨qdany, qdtab, qda, qdn, qdlo, qdhi⟩, qset, qmask, qtype, qkeep, ⟨qton, qtif, qtg⟩, ⟨qpon, qpif, qpg⟩, qtable⟩ := q
  dsimp only at *
  obtain ⟨W, hW⟩ : ∃ W, (w.alloc (.cells #[.bool pass, .bool ret, .bool quick, .string on, .int .i64 proto, .bool sany, .string stab, .int .u32 sa, .int .i64 sn, .int .i64 slo, .int .i64 shi, .bool dany, .string dtab, .int .u32 da, .int .i64 dn, .int .i64 dlo, .int .i64 dhi, .int .i64 set, .int .i64 mask, .int .i64 type, .bool keep, .bool ton, .string tif, .int .u32 tg, .bool pon, .string pif, .int .u32 pg, .int .i64 table] 32)).alloc (.cells #[.bool qpass, .bool qret, .bool qquick, .string qon, .int .i64 qproto, .bool qsany, .string qstab, .int .u32 qsa, .int .i64 qsn, .int .i64 qslo, .int .i64 qshi, .bool qdany, .string qdtab, .int .u32 qda, .int .i64 qdn, .int .i64 qdlo, .int .i64 qdhi, .int .i64 qset, .int .i64 qmask, .int .i64 qtype, .bool qkeep, .bool qton, .string qtif, .int .u32 qtg, .bool qpon, .string qpif, .int .u32 qpg, .int .i64 qtable] 32) = W := ⟨_, rfl⟩
  rw [hW] at hA' hB hx
  have HA : Hid _ := hA'
  have HB : Hid _ := hB
  clear hA' hB
  go_enter Tryz.func11, Tryz.ntmps11
  go_wp2_with (first
    | (refine wpl_load (by rfl) 32 _ rfl w.heap.size _ _ _ rfl HA.out Tryz.underlying32 rfl rule_size ?_)
    | (refine wpl_load (by rfl) 32 _ rfl (w.heap.size + 1) _ _ _ rfl HB.out Tryz.underlying32 rfl rule_size ?_))
  go_ret
  exact ⟨rfl, hx⟩
end Go.Proofs.YtbmmgjmmooakpaaGreatDoor.Ru
