/- Package rule's tests of a rule's parts. -/
import Derived.Test.YtbmmgjmmooakpaaGreatDoorRu1
import Derived.Test.YtbmmgjmmooakpaaGreatDoorRuE
import Derived.Test.YtbmmgjmmooakpaaGreatDoorSkip
namespace Go.Proofs.YtbmmgjmmooakpaaGreatDoor.Ru
open Go.RowKit
set_option linter.unusedVariables false
set_option maxRecDepth 100000

/-- A block that was just made, in every later world. -/
theorem boxK (w : World) (cs : Array Value) (t : TypeId) : ∀ k w', Ext (w.alloc (.cells cs t)) w' → w'.cell? ⟨w.heap.size, k, none⟩ = cs[k]? :=
  fun k w' hx => heap_cell (hx.heap (heap_new w (.cells cs t)))

theorem empT (s : ByteArray) : (s.toList == []) = decide (s = txt []) := by
  have := eqT s (txt [])
  rwa [show (txt []).toList = [] by rw [ByteArray.toList_eq, list_txt]] at this

theorem rule_size : (Tryz.prog.info? 32).map (·.size) = some 28 := by kernel_rfl
theorem side_size : (Tryz.prog.info? 28).map (·.size) = some 6 := by kernel_rfl
theorem pin_size : (Tryz.prog.info? 30).map (·.size) = some 3 := by kernel_rfl

theorem action_any (r : RuleV) (w : World) : Calls Tryz.prog 45 #[(.agg #[.bool r.pass, .bool r.ret, .bool r.quick, .string r.on, .int .i64 r.proto, .bool r.src.any, .string r.src.table, .int .u32 r.src.a, .int .i64 r.src.n, .int .i64 r.src.low, .int .i64 r.src.high, .bool r.dst.any, .string r.dst.table, .int .u32 r.dst.a, .int .i64 r.dst.n, .int .i64 r.dst.low, .int .i64 r.dst.high, .int .i64 r.set, .int .i64 r.mask, .int .i64 r.type, .bool r.keep, .bool r.rt.on, .string r.rt.iface, .int .u32 r.rt.gate, .bool r.rp.on, .string r.rp.iface, .int .u32 r.rp.gate, .int .i64 r.table])] w fun e w' => e = .returned (.bool (actionB r)) ∧ Ext w w' := by
  obtain ⟨pass, ret, quick, on, proto, ⟨sany, stab, sa, sn, slo, shi⟩, ⟨dany, dtab, da, dn, dlo, dhi⟩, set, mask, type, keep, ⟨ton, tif, tg⟩, ⟨pon, pif, pg⟩, table⟩ := r
  unfold actionB
  dsimp only
  obtain ⟨W, hW⟩ : ∃ W, w.alloc (.cells #[.bool pass, .bool ret, .bool quick, .string on, .int .i64 proto, .bool sany, .string stab, .int .u32 sa, .int .i64 sn, .int .i64 slo, .int .i64 shi, .bool dany, .string dtab, .int .u32 da, .int .i64 dn, .int .i64 dlo, .int .i64 dhi, .int .i64 set, .int .i64 mask, .int .i64 type, .bool keep, .bool ton, .string tif, .int .u32 tg, .bool pon, .string pif, .int .u32 pg, .int .i64 table] 32) = W := ⟨_, rfl⟩
  have hx0 : Ext w W := hW ▸ (Ext.refl w).alloc _
  have x0 : ∀ w', Ext W w' → w'.cell? ⟨w.heap.size, 0, none⟩ = some (.bool pass) := hW ▸ boxK w #[.bool pass, .bool ret, .bool quick, .string on, .int .i64 proto, .bool sany, .string stab, .int .u32 sa, .int .i64 sn, .int .i64 slo, .int .i64 shi, .bool dany, .string dtab, .int .u32 da, .int .i64 dn, .int .i64 dlo, .int .i64 dhi, .int .i64 set, .int .i64 mask, .int .i64 type, .bool keep, .bool ton, .string tif, .int .u32 tg, .bool pon, .string pif, .int .u32 pg, .int .i64 table] 32 0
  have x1 : ∀ w', Ext W w' → w'.cell? ⟨w.heap.size, 1, none⟩ = some (.bool ret) := hW ▸ boxK w #[.bool pass, .bool ret, .bool quick, .string on, .int .i64 proto, .bool sany, .string stab, .int .u32 sa, .int .i64 sn, .int .i64 slo, .int .i64 shi, .bool dany, .string dtab, .int .u32 da, .int .i64 dn, .int .i64 dlo, .int .i64 dhi, .int .i64 set, .int .i64 mask, .int .i64 type, .bool keep, .bool ton, .string tif, .int .u32 tg, .bool pon, .string pif, .int .u32 pg, .int .i64 table] 32 1
  have x20 : ∀ w', Ext W w' → w'.cell? ⟨w.heap.size, 20, none⟩ = some (.bool keep) := hW ▸ boxK w #[.bool pass, .bool ret, .bool quick, .string on, .int .i64 proto, .bool sany, .string stab, .int .u32 sa, .int .i64 sn, .int .i64 slo, .int .i64 shi, .bool dany, .string dtab, .int .u32 da, .int .i64 dn, .int .i64 dlo, .int .i64 dhi, .int .i64 set, .int .i64 mask, .int .i64 type, .bool keep, .bool ton, .string tif, .int .u32 tg, .bool pon, .string pif, .int .u32 pg, .int .i64 table] 32 20
  have x21 : ∀ w', Ext W w' → w'.cell? ⟨w.heap.size, 21, none⟩ = some (.bool ton) := hW ▸ boxK w #[.bool pass, .bool ret, .bool quick, .string on, .int .i64 proto, .bool sany, .string stab, .int .u32 sa, .int .i64 sn, .int .i64 slo, .int .i64 shi, .bool dany, .string dtab, .int .u32 da, .int .i64 dn, .int .i64 dlo, .int .i64 dhi, .int .i64 set, .int .i64 mask, .int .i64 type, .bool keep, .bool ton, .string tif, .int .u32 tg, .bool pon, .string pif, .int .u32 pg, .int .i64 table] 32 21
  have x24 : ∀ w', Ext W w' → w'.cell? ⟨w.heap.size, 24, none⟩ = some (.bool pon) := hW ▸ boxK w #[.bool pass, .bool ret, .bool quick, .string on, .int .i64 proto, .bool sany, .string stab, .int .u32 sa, .int .i64 sn, .int .i64 slo, .int .i64 shi, .bool dany, .string dtab, .int .u32 da, .int .i64 dn, .int .i64 dlo, .int .i64 dhi, .int .i64 set, .int .i64 mask, .int .i64 type, .bool keep, .bool ton, .string tif, .int .u32 tg, .bool pon, .string pif, .int .u32 pg, .int .i64 table] 32 24
  have x27 : ∀ w', Ext W w' → w'.cell? ⟨w.heap.size, 27, none⟩ = some (.int .i64 table) := hW ▸ boxK w #[.bool pass, .bool ret, .bool quick, .string on, .int .i64 proto, .bool sany, .string stab, .int .u32 sa, .int .i64 sn, .int .i64 slo, .int .i64 shi, .bool dany, .string dtab, .int .u32 da, .int .i64 dn, .int .i64 dlo, .int .i64 dhi, .int .i64 set, .int .i64 mask, .int .i64 type, .bool keep, .bool ton, .string tif, .int .u32 tg, .bool pon, .string pif, .int .u32 pg, .int .i64 table] 32 27
  have hv := Ext.refl W
  go_enter Tryz.func45, Tryz.ntmps45
  go_wp2
  all_goals go_ret
  all_goals exact ⟨by simp [*], hx0⟩

theorem isPorts_any (lo hi : Int) (w : World) : Calls Tryz.prog 76 #[.agg #[.int .i64 lo, .int .i64 hi]] w fun e w' => e = .returned (.bool (inB lo 0 65535 && inB hi lo 65535)) ∧ Ext w w' := by
  have c1 := fun w => of_any lo 0 65535 w
  have c2 := fun w => of_any hi lo 65535 w
  generalize inB lo 0 65535 = b1 at *
  generalize inB hi lo 65535 = b2 at *
  obtain ⟨W, hW⟩ : ∃ W, w.alloc (.cells #[.int .i64 lo, .int .i64 hi] 26) = W := ⟨_, rfl⟩
  have hx0 : Ext w W := hW ▸ (Ext.refl w).alloc _
  have x0 : ∀ w', Ext W w' → w'.cell? ⟨w.heap.size, 0, none⟩ = some (.int .i64 lo) := hW ▸ boxK w #[.int .i64 lo, .int .i64 hi] 26 0
  have x1 : ∀ w', Ext W w' → w'.cell? ⟨w.heap.size, 1, none⟩ = some (.int .i64 hi) := hW ▸ boxK w #[.int .i64 lo, .int .i64 hi] 26 1
  have hv := Ext.refl W
  have tok : Hid True := trivial
  go_enter Tryz.func76, Tryz.ntmps76
  go_wp2_with (first
    | (go_at_call 46; clear tok; refine (c1 _).mono ?_; rintro e w1 ⟨rfl, rfl⟩)
    | (go_at_call 46; refine (c2 _).mono ?_; rintro e w1 ⟨rfl, rfl⟩))
  all_goals go_ret
  all_goals exact ⟨by simp [*], hx0⟩

theorem isFlags_any (r : RuleV) (w : World) : Calls Tryz.prog 48 #[(.agg #[.bool r.pass, .bool r.ret, .bool r.quick, .string r.on, .int .i64 r.proto, .bool r.src.any, .string r.src.table, .int .u32 r.src.a, .int .i64 r.src.n, .int .i64 r.src.low, .int .i64 r.src.high, .bool r.dst.any, .string r.dst.table, .int .u32 r.dst.a, .int .i64 r.dst.n, .int .i64 r.dst.low, .int .i64 r.dst.high, .int .i64 r.set, .int .i64 r.mask, .int .i64 r.type, .bool r.keep, .bool r.rt.on, .string r.rt.iface, .int .u32 r.rt.gate, .bool r.rp.on, .string r.rp.iface, .int .u32 r.rp.gate, .int .i64 r.table])] w fun e w' => e = .returned (.bool (flagsB r)) ∧ Ext w w' := by
  obtain ⟨pass, ret, quick, on, proto, ⟨sany, stab, sa, sn, slo, shi⟩, ⟨dany, dtab, da, dn, dlo, dhi⟩, set, mask, type, keep, ⟨ton, tif, tg⟩, ⟨pon, pif, pg⟩, table⟩ := r
  unfold flagsB
  dsimp only
  have c1 := fun w => of_any mask 0 63 w
  generalize inB mask 0 63 = b1 at *
  have ha : bits .andNot .i64 set mask = andNot set mask := rfl
  generalize andNot set mask = z at *
  obtain ⟨W, hW⟩ : ∃ W, w.alloc (.cells #[.bool pass, .bool ret, .bool quick, .string on, .int .i64 proto, .bool sany, .string stab, .int .u32 sa, .int .i64 sn, .int .i64 slo, .int .i64 shi, .bool dany, .string dtab, .int .u32 da, .int .i64 dn, .int .i64 dlo, .int .i64 dhi, .int .i64 set, .int .i64 mask, .int .i64 type, .bool keep, .bool ton, .string tif, .int .u32 tg, .bool pon, .string pif, .int .u32 pg, .int .i64 table] 32) = W := ⟨_, rfl⟩
  have hx0 : Ext w W := hW ▸ (Ext.refl w).alloc _
  have x4 : ∀ w', Ext W w' → w'.cell? ⟨w.heap.size, 4, none⟩ = some (.int .i64 proto) := hW ▸ boxK w #[.bool pass, .bool ret, .bool quick, .string on, .int .i64 proto, .bool sany, .string stab, .int .u32 sa, .int .i64 sn, .int .i64 slo, .int .i64 shi, .bool dany, .string dtab, .int .u32 da, .int .i64 dn, .int .i64 dlo, .int .i64 dhi, .int .i64 set, .int .i64 mask, .int .i64 type, .bool keep, .bool ton, .string tif, .int .u32 tg, .bool pon, .string pif, .int .u32 pg, .int .i64 table] 32 4
  have x17 : ∀ w', Ext W w' → w'.cell? ⟨w.heap.size, 17, none⟩ = some (.int .i64 set) := hW ▸ boxK w #[.bool pass, .bool ret, .bool quick, .string on, .int .i64 proto, .bool sany, .string stab, .int .u32 sa, .int .i64 sn, .int .i64 slo, .int .i64 shi, .bool dany, .string dtab, .int .u32 da, .int .i64 dn, .int .i64 dlo, .int .i64 dhi, .int .i64 set, .int .i64 mask, .int .i64 type, .bool keep, .bool ton, .string tif, .int .u32 tg, .bool pon, .string pif, .int .u32 pg, .int .i64 table] 32 17
  have x18 : ∀ w', Ext W w' → w'.cell? ⟨w.heap.size, 18, none⟩ = some (.int .i64 mask) := hW ▸ boxK w #[.bool pass, .bool ret, .bool quick, .string on, .int .i64 proto, .bool sany, .string stab, .int .u32 sa, .int .i64 sn, .int .i64 slo, .int .i64 shi, .bool dany, .string dtab, .int .u32 da, .int .i64 dn, .int .i64 dlo, .int .i64 dhi, .int .i64 set, .int .i64 mask, .int .i64 type, .bool keep, .bool ton, .string tif, .int .u32 tg, .bool pon, .string pif, .int .u32 pg, .int .i64 table] 32 18
  have hv := Ext.refl W
  by_cases g : proto = 6
  · rw [if_pos g]
    have g1 : (proto == 6) = true := by simpa using g
    have g2 : (proto != 6) = false := by simpa using g
    clear g
    go_enter Tryz.func48, Tryz.ntmps48
    go_wp2_with (go_at_call 46; refine (c1 _).mono ?_; rintro e w1 ⟨rfl, rfl⟩)
    all_goals go_ret
    all_goals exact ⟨by simp [*], hx0⟩
  · rw [if_neg g]
    have g1 : (proto == 6) = false := by simpa using g
    have g2 : (proto != 6) = true := by simpa using g
    clear g
    go_enter Tryz.func48, Tryz.ntmps48
    go_wp2
    all_goals go_ret
    all_goals exact ⟨by simp [*], hx0⟩

theorem isType_any (r : RuleV) (w : World) : Calls Tryz.prog 49 #[(.agg #[.bool r.pass, .bool r.ret, .bool r.quick, .string r.on, .int .i64 r.proto, .bool r.src.any, .string r.src.table, .int .u32 r.src.a, .int .i64 r.src.n, .int .i64 r.src.low, .int .i64 r.src.high, .bool r.dst.any, .string r.dst.table, .int .u32 r.dst.a, .int .i64 r.dst.n, .int .i64 r.dst.low, .int .i64 r.dst.high, .int .i64 r.set, .int .i64 r.mask, .int .i64 r.type, .bool r.keep, .bool r.rt.on, .string r.rt.iface, .int .u32 r.rt.gate, .bool r.rp.on, .string r.rp.iface, .int .u32 r.rp.gate, .int .i64 r.table])] w fun e w' => e = .returned (.bool (typeB r)) ∧ Ext w w' := by
  obtain ⟨pass, ret, quick, on, proto, ⟨sany, stab, sa, sn, slo, shi⟩, ⟨dany, dtab, da, dn, dlo, dhi⟩, set, mask, type, keep, ⟨ton, tif, tg⟩, ⟨pon, pif, pg⟩, table⟩ := r
  unfold typeB
  dsimp only
  have c1 := fun w => of_any type 0 255 w
  generalize inB type 0 255 = b1 at *
  obtain ⟨W, hW⟩ : ∃ W, w.alloc (.cells #[.bool pass, .bool ret, .bool quick, .string on, .int .i64 proto, .bool sany, .string stab, .int .u32 sa, .int .i64 sn, .int .i64 slo, .int .i64 shi, .bool dany, .string dtab, .int .u32 da, .int .i64 dn, .int .i64 dlo, .int .i64 dhi, .int .i64 set, .int .i64 mask, .int .i64 type, .bool keep, .bool ton, .string tif, .int .u32 tg, .bool pon, .string pif, .int .u32 pg, .int .i64 table] 32) = W := ⟨_, rfl⟩
  have hx0 : Ext w W := hW ▸ (Ext.refl w).alloc _
  have x4 : ∀ w', Ext W w' → w'.cell? ⟨w.heap.size, 4, none⟩ = some (.int .i64 proto) := hW ▸ boxK w #[.bool pass, .bool ret, .bool quick, .string on, .int .i64 proto, .bool sany, .string stab, .int .u32 sa, .int .i64 sn, .int .i64 slo, .int .i64 shi, .bool dany, .string dtab, .int .u32 da, .int .i64 dn, .int .i64 dlo, .int .i64 dhi, .int .i64 set, .int .i64 mask, .int .i64 type, .bool keep, .bool ton, .string tif, .int .u32 tg, .bool pon, .string pif, .int .u32 pg, .int .i64 table] 32 4
  have x19 : ∀ w', Ext W w' → w'.cell? ⟨w.heap.size, 19, none⟩ = some (.int .i64 type) := hW ▸ boxK w #[.bool pass, .bool ret, .bool quick, .string on, .int .i64 proto, .bool sany, .string stab, .int .u32 sa, .int .i64 sn, .int .i64 slo, .int .i64 shi, .bool dany, .string dtab, .int .u32 da, .int .i64 dn, .int .i64 dlo, .int .i64 dhi, .int .i64 set, .int .i64 mask, .int .i64 type, .bool keep, .bool ton, .string tif, .int .u32 tg, .bool pon, .string pif, .int .u32 pg, .int .i64 table] 32 19
  have hv := Ext.refl W
  go_enter Tryz.func49, Tryz.ntmps49
  go_wp2_with (go_at_call 46; refine (c1 _).mono ?_; rintro e w1 ⟨rfl, rfl⟩)
  all_goals go_ret
  all_goals exact ⟨by simp [*], hx0⟩

theorem isPin_any (p : PinV) (w : World) (hp : PinOk p) : Calls Tryz.prog 50 #[(.agg #[.bool p.on, .string p.iface, .int .u32 p.gate])] w fun e w' => e = .returned (.bool (pinB p)) ∧ Ext w w' := by
  have hs := hp.iface
  clear hp
  have eq := fun w => eql_pin p pin0 w
  obtain ⟨on, i, g⟩ := p
  unfold pinB
  simp only [pin0, pinQ] at eq
  dsimp only at *
  have eg := pin_guard
  have c1 := fun w => name_any i w hs
  generalize nameB i = b1 at *
  simp only [show txt [] = (⟨#[]⟩ : ByteArray) from rfl] at eq ⊢
  generalize decide (i = (⟨#[]⟩ : ByteArray)) = z at *
  obtain ⟨W, hW⟩ : ∃ W, w.alloc (.cells #[.bool on, .string i, .int .u32 g] 30) = W := ⟨_, rfl⟩
  have hx0 : Ext w W := hW ▸ (Ext.refl w).alloc _
  have x0 : ∀ w', Ext W w' → w'.cell? ⟨w.heap.size, 0, none⟩ = some (.bool on) := hW ▸ boxK w #[.bool on, .string i, .int .u32 g] 30 0
  have x1 : ∀ w', Ext W w' → w'.cell? ⟨w.heap.size, 1, none⟩ = some (.string i) := hW ▸ boxK w #[.bool on, .string i, .int .u32 g] 30 1
  have x2 : ∀ w', Ext W w' → w'.cell? ⟨w.heap.size, 2, none⟩ = some (.int .u32 g) := hW ▸ boxK w #[.bool on, .string i, .int .u32 g] 30 2
  have hv := Ext.refl W
  cases on
  all_goals (
    go_enter Tryz.func50, Tryz.ntmps50
    go_wp2_with (go_at_call 12; refine (c1 _).mono ?_; rintro e w1 ⟨rfl, rfl⟩)
    go_ret
    exact ⟨by simp, hx0⟩)

theorem isEnd_any (s : SideV) (w : World) (hs : SideOk s) : Calls Tryz.prog 75 #[(.agg #[.bool s.any, .string s.table, .int .u32 s.a, .int .i64 s.n, .int .i64 s.low, .int .i64 s.high])] w fun e w' => e = .returned (.bool (endB s)) ∧ Ext w w' := by
  obtain ⟨h1, h2, h3⟩ := hs
  obtain ⟨any, tab, a, n, lo, hi⟩ := s
  unfold endB nothingB
  dsimp only at *
  have c1 := fun w => name_any tab w h1
  have c2 := fun w => is_any a n w h2 h3
  have eq := fun w => eql_prefix a n 0 0 w
  have eg := eq_guard
  have he := empT tab
  generalize nameB tab = b1 at *
  generalize isV a n = b2 at *
  have hcs : ∀ k w', Ext (w.alloc (.cells #[.bool any, .string tab, .int .u32 a, .int .i64 n, .int .i64 lo, .int .i64 hi] 28)) w' → w'.cell? ⟨w.heap.size, k, none⟩ = _ := boxK w _ _
  obtain ⟨W, hW⟩ : ∃ W, w.alloc (.cells #[.bool any, .string tab, .int .u32 a, .int .i64 n, .int .i64 lo, .int .i64 hi] 28) = W := ⟨_, rfl⟩
  rw [hW] at hcs
  have hx0 : Ext w W := hW ▸ (Ext.refl w).alloc _
  have x0 : ∀ w', Ext W w' → w'.cell? ⟨w.heap.size, 0, none⟩ = some (.bool any) := hcs 0
  have x1 : ∀ w', Ext W w' → w'.cell? ⟨w.heap.size, 1, none⟩ = some (.string tab) := hcs 1
  have x2 : ∀ w', Ext W w' → w'.cell? ⟨w.heap.size, 2, none⟩ = some (.int .u32 a) := hcs 2
  have x3 : ∀ w', Ext W w' → w'.cell? ⟨w.heap.size, 3, none⟩ = some (.int .i64 n) := hcs 3
  have hv := Ext.refl W
  clear hcs h1 h2 h3
  cases any with
  | true =>
    rw [if_pos rfl]
    generalize decide (tab = txt []) = z at *
    go_enter Tryz.func75, Tryz.ntmps75
    go_wp2
    all_goals go_ret
    all_goals exact ⟨by simp [*], hx0⟩
  | false =>
    rw [if_neg (by decide)]
    by_cases g : tab = txt []
    · rw [if_pos g]
      rw [decide_eq_true g] at he
      clear g
      go_enter Tryz.func75, Tryz.ntmps75
      go_wp2_with (go_at_call 92; refine (c2 _).mono ?_; rintro e w1 ⟨rfl, hx1⟩)
      go_ret
      exact ⟨rfl, hx0.trans hx1⟩
    · rw [if_neg g]
      rw [decide_eq_false g] at he
      clear g
      go_enter Tryz.func75, Tryz.ntmps75
      go_wp2_with (go_at_call 12; refine (c1 _).mono ?_; rintro e w1 ⟨rfl, rfl⟩)
      all_goals go_ret
      all_goals exact ⟨by simp [*], hx0⟩
end Go.Proofs.YtbmmgjmmooakpaaGreatDoor.Ru
