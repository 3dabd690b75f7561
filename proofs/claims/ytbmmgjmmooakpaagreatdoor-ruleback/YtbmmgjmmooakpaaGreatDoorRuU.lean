/- RuM, RuU: in one text. -/
import Derived.Test.YtbmmgjmmooakpaaGreatDoorRuK
namespace Go.Proofs.YtbmmgjmmooakpaaGreatDoor.Ru
open Go.RowKit
set_option linter.unusedVariables false
set_option maxRecDepth 100000

/-- A rule that came in. -/
structure RuleIn (r : RuleV) : Prop where
  on : r.on.size ≤ 9223372036854775807
  st : r.src.table.size ≤ 9223372036854775807
  dt : r.dst.table.size ≤ 9223372036854775807
  ti : r.rt.iface.size ≤ 9223372036854775807
  pi : r.rp.iface.size ≤ 9223372036854775807
  s0 : -9223372036854775808 ≤ r.set
  s1 : r.set ≤ 9223372036854775807
  sa0 : 0 ≤ r.src.a
  sa1 : r.src.a ≤ 4294967295
  da0 : 0 ≤ r.dst.a
  da1 : r.dst.a ≤ 4294967295
  tg0 : 0 ≤ r.rt.gate
  tg1 : r.rt.gate ≤ 4294967295
  pg0 : 0 ≤ r.rp.gate
  pg1 : r.rp.gate ≤ 4294967295

theorem RuleIn.ok {r : RuleV} (h : RuleIn r) : RuleOk r :=
  ⟨h.on, h.s0, h.s1, ⟨h.st, h.sa0, h.sa1⟩, ⟨h.dt, h.da0, h.da1⟩, ⟨h.ti, h.tg0, h.tg1⟩, ⟨h.pi, h.pg0, h.pg1⟩⟩

/-- Whether a rule is more than is looked at: some truth, the same in every world. (Its sum of lengths may go round.) -/
theorem heavy_any (r : RuleV) (h : RuleIn r) : ∃ g, ∀ w, Calls Tryz.prog 15 #[(.agg #[.bool r.pass, .bool r.ret, .bool r.quick, .string r.on, .int .i64 r.proto, .bool r.src.any, .string r.src.table, .int .u32 r.src.a, .int .i64 r.src.n, .int .i64 r.src.low, .int .i64 r.src.high, .bool r.dst.any, .string r.dst.table, .int .u32 r.dst.a, .int .i64 r.dst.n, .int .i64 r.dst.low, .int .i64 r.dst.high, .int .i64 r.set, .int .i64 r.mask, .int .i64 r.type, .bool r.keep, .bool r.rt.on, .string r.rt.iface, .int .u32 r.rt.gate, .bool r.rp.on, .string r.rp.iface, .int .u32 r.rp.gate, .int .i64 r.table])] w fun e w' => e = .returned (.bool g) ∧ Ext w w' := by
  have h1 := h.on
  have h2 := h.st
  have h3 := h.dt
  have h4 := h.ti
  have h5 := h.pi
  clear h
  obtain ⟨pass, ret, quick, on, proto, ⟨sany, stab, sa, sn, slo, shi⟩, ⟨dany, dtab, da, dn, dlo, dhi⟩, set, mask, type, keep, ⟨ton, tif, tg⟩, ⟨pon, pif, pg⟩, table⟩ := r
  dsimp only at *
  refine ⟨decide (400 < wrap64 (wrap64 (wrap64 (wrap64 ((on.size : Int) + (stab.size : Int)) + (dtab.size : Int)) + (tif.size : Int)) + (pif.size : Int))), fun w => ?_⟩
  obtain ⟨W, hW⟩ : ∃ W, w.alloc (.cells #[.bool pass, .bool ret, .bool quick, .string on, .int .i64 proto, .bool sany, .string stab, .int .u32 sa, .int .i64 sn, .int .i64 slo, .int .i64 shi, .bool dany, .string dtab, .int .u32 da, .int .i64 dn, .int .i64 dlo, .int .i64 dhi, .int .i64 set, .int .i64 mask, .int .i64 type, .bool keep, .bool ton, .string tif, .int .u32 tg, .bool pon, .string pif, .int .u32 pg, .int .i64 table] 32) = W := ⟨_, rfl⟩
  have hx0 : Ext w W := hW ▸ (Ext.refl w).alloc _
  have x3 : ∀ w', Ext W w' → w'.cell? ⟨w.heap.size, 3, none⟩ = some (.string on) := hW ▸ boxK w #[.bool pass, .bool ret, .bool quick, .string on, .int .i64 proto, .bool sany, .string stab, .int .u32 sa, .int .i64 sn, .int .i64 slo, .int .i64 shi, .bool dany, .string dtab, .int .u32 da, .int .i64 dn, .int .i64 dlo, .int .i64 dhi, .int .i64 set, .int .i64 mask, .int .i64 type, .bool keep, .bool ton, .string tif, .int .u32 tg, .bool pon, .string pif, .int .u32 pg, .int .i64 table] 32 3
  have x6 : ∀ w', Ext W w' → w'.cell? ⟨w.heap.size, 6, none⟩ = some (.string stab) := hW ▸ boxK w #[.bool pass, .bool ret, .bool quick, .string on, .int .i64 proto, .bool sany, .string stab, .int .u32 sa, .int .i64 sn, .int .i64 slo, .int .i64 shi, .bool dany, .string dtab, .int .u32 da, .int .i64 dn, .int .i64 dlo, .int .i64 dhi, .int .i64 set, .int .i64 mask, .int .i64 type, .bool keep, .bool ton, .string tif, .int .u32 tg, .bool pon, .string pif, .int .u32 pg, .int .i64 table] 32 6
  have x12 : ∀ w', Ext W w' → w'.cell? ⟨w.heap.size, 12, none⟩ = some (.string dtab) := hW ▸ boxK w #[.bool pass, .bool ret, .bool quick, .string on, .int .i64 proto, .bool sany, .string stab, .int .u32 sa, .int .i64 sn, .int .i64 slo, .int .i64 shi, .bool dany, .string dtab, .int .u32 da, .int .i64 dn, .int .i64 dlo, .int .i64 dhi, .int .i64 set, .int .i64 mask, .int .i64 type, .bool keep, .bool ton, .string tif, .int .u32 tg, .bool pon, .string pif, .int .u32 pg, .int .i64 table] 32 12
  have x22 : ∀ w', Ext W w' → w'.cell? ⟨w.heap.size, 22, none⟩ = some (.string tif) := hW ▸ boxK w #[.bool pass, .bool ret, .bool quick, .string on, .int .i64 proto, .bool sany, .string stab, .int .u32 sa, .int .i64 sn, .int .i64 slo, .int .i64 shi, .bool dany, .string dtab, .int .u32 da, .int .i64 dn, .int .i64 dlo, .int .i64 dhi, .int .i64 set, .int .i64 mask, .int .i64 type, .bool keep, .bool ton, .string tif, .int .u32 tg, .bool pon, .string pif, .int .u32 pg, .int .i64 table] 32 22
  have x25 : ∀ w', Ext W w' → w'.cell? ⟨w.heap.size, 25, none⟩ = some (.string pif) := hW ▸ boxK w #[.bool pass, .bool ret, .bool quick, .string on, .int .i64 proto, .bool sany, .string stab, .int .u32 sa, .int .i64 sn, .int .i64 slo, .int .i64 shi, .bool dany, .string dtab, .int .u32 da, .int .i64 dn, .int .i64 dlo, .int .i64 dhi, .int .i64 set, .int .i64 mask, .int .i64 type, .bool keep, .bool ton, .string tif, .int .u32 tg, .bool pon, .string pif, .int .u32 pg, .int .i64 table] 32 25
  have hv := Ext.refl W
  go_enter Tryz.func15, Tryz.ntmps15
  go_wp2
  go_ret
  exact ⟨rfl, hx0⟩
end Go.Proofs.YtbmmgjmmooakpaaGreatDoor.Ru

namespace Go.Proofs.YtbmmgjmmooakpaaGreatDoor.Ru
open Go.RowKit
set_option linter.unusedVariables false
set_option maxRecDepth 100000

/-- Words, two blanks ahead of each. -/
def twice (L : WL) : List UInt8 := (L.map fun x => [32, 32] ++ x.data.toList).flatten

theorem twice_take {L : WL} {j : Nat} {x : ByteArray} (h : L[j]? = some x) : twice (L.take (j + 1)) = twice (L.take j) ++ ([32, 32] ++ x.data.toList) := by
  unfold twice
  rw [List.take_add_one, h]
  simp

theorem twice_len (L : WL) (h : ∀ x ∈ L, wordOk x) : (twice L).length ≤ 42 * L.length := by
  induction L with
  | nil => simp [twice]
  | cons x L ih =>
    have h1 := (h x (by simp)).2.2
    have h2 := ih (fun y hy => h y (by simp [hy]))
    unfold twice at h2 ⊢
    simp only [List.map_cons, List.flatten_cons, List.length_append, List.length_cons, List.length_nil, text_len] at h2 ⊢
    omega

theorem twice_words : ∀ (L : WL), (∀ x ∈ L, wordOk x) → wordsL (twice L ++ [32]) = L.map (·.data.toList) ∧ ∃ G, twice L ++ [32] = 32 :: G
  | [], _ => ⟨rfl, [], rfl⟩
  | x :: L, h => by
    have hx := h x (by simp)
    obtain ⟨ih, G, hG⟩ := twice_words L (fun y hy => h y (by simp [hy]))
    have e : twice (x :: L) ++ [32] = 32 :: 32 :: (x.data.toList ++ (twice L ++ [32])) := by simp [twice]
    refine ⟨?_, _, e⟩
    rw [e, words_blank, words_blank, hG, words_at hx.2.1 hx.1, List.map_cons]
    rw [hG, words_blank] at ih
    rw [ih]

theorem back_words {L : WL} (h : ∀ x ∈ L, wordOk x) : wordsB (txt (twice L) ++ ⟨#[32]⟩) = L := by
  have e : (txt (twice L) ++ ⟨#[32]⟩ : ByteArray).data.toList = twice L ++ [32] := by simp [ByteArray.data_append, txt]
  unfold wordsB
  rw [e, (twice_words L h).1, List.map_map]
  conv => rhs; rw [← List.map_id L]
  apply List.map_congr_left
  intro x _
  exact txt_list x

theorem words_row (s : ByteArray) (w : World) (hs : s.size ≤ 1000000) (h0 : 0 < (wordsB s).length) :
    Calls Tryz.prog 21 #[.string s] w fun e w' => ∃ g c, e = .returned (.slice (some ⟨g, 0, none⟩) (wordsB s).length c) ∧ (wordsB s).length ≤ c ∧ (∀ (j : Nat) x, (wordsB s)[j]? = some x → w'.cell? ⟨g, j, none⟩ = some (.string x)) ∧ Ext w w' := by
  refine (rwords_any s w hs).mono ?_
  rintro e w' ⟨v, rfl, hown, hx⟩
  have ho : OwnW w.heap.size w' v (wordsB s) := by
    unfold OwnW wordsB
    rw [List.length_map, List.map_map]
    exact hown
  obtain ⟨g, c, rfl, _, hc, hcl⟩ := owns_words ho h0
  exact ⟨g, c, rfl, hc, fun j x hj => by have := hcl j x hj; rwa [Nat.zero_add] at this, hx⟩

set_option maxHeartbeats 40000000 in
theorem law_back (r : RuleV) (w : World) (hr : RuleIn r) (hs : Std w) :
    Calls Tryz.prog 5 #[(.agg #[.bool r.pass, .bool r.ret, .bool r.quick, .string r.on, .int .i64 r.proto, .bool r.src.any, .string r.src.table, .int .u32 r.src.a, .int .i64 r.src.n, .int .i64 r.src.low, .int .i64 r.src.high, .bool r.dst.any, .string r.dst.table, .int .u32 r.dst.a, .int .i64 r.dst.n, .int .i64 r.dst.low, .int .i64 r.dst.high, .int .i64 r.set, .int .i64 r.mask, .int .i64 r.type, .bool r.keep, .bool r.rt.on, .string r.rt.iface, .int .u32 r.rt.gate, .bool r.rp.on, .string r.rp.iface, .int .u32 r.rp.gate, .int .i64 r.table])] w fun e w' => e = .returned (.bool true) ∧ Ext w w' := by
  obtain ⟨g, ch⟩ := heavy_any r hr
  have hok := hr.ok
  have cI := fun w => refIsRule_any r w hok
  have c9 := fun w h => known14_any w h
  have hgood : isR r = true → parseR (printR r) = some r ∧ wordsB (printR r) = ruleW r ∧ (printR r).size ≤ 1200 ∧ (∀ x ∈ ruleW r, wordOk x) ∧ printE r = printR r :=
    fun h => ⟨print_back h hok, printR_words h hok, printR_size h hok, rule_words (good_of h hok), by unfold printE; rw [if_pos h]⟩
  have hlen := rule_len r
  have hpos : 0 < (ruleW r).length := by unfold ruleW; simp
  have cp := fun w h => rPrint_any r w hok h
  have cS := fun w => refSame_any r r w
  rw [ruleQ_refl] at cS
  have HS : Hid (∀ w', Ext w w' → Std w') := fun w' h => hs.later h
  generalize ruleW r = L at *
  clear hr hok hs
  cases hI : isR r with
  | false =>
    rw [hI] at cI
    clear hI hgood cp cS c9 hlen hpos
    obtain ⟨pass, ret, quick, on, proto, ⟨sany, stab, sa, sn, slo, shi⟩, ⟨dany, dtab, da, dn, dlo, dhi⟩, set, mask, type, keep, ⟨ton, tif, tg⟩, ⟨pon, pif, pg⟩, table⟩ := r
    dsimp only at *
    obtain ⟨W, hW⟩ : ∃ W, w.alloc (.cells #[.bool pass, .bool ret, .bool quick, .string on, .int .i64 proto, .bool sany, .string stab, .int .u32 sa, .int .i64 sn, .int .i64 slo, .int .i64 shi, .bool dany, .string dtab, .int .u32 da, .int .i64 dn, .int .i64 dlo, .int .i64 dhi, .int .i64 set, .int .i64 mask, .int .i64 type, .bool keep, .bool ton, .string tif, .int .u32 tg, .bool pon, .string pif, .int .u32 pg, .int .i64 table] 32) = W := ⟨_, rfl⟩
    have hx0 : Ext w W := hW ▸ (Ext.refl w).alloc _
    have hb : W.heap[w.heap.size]? = some (.cells #[.bool pass, .bool ret, .bool quick, .string on, .int .i64 proto, .bool sany, .string stab, .int .u32 sa, .int .i64 sn, .int .i64 slo, .int .i64 shi, .bool dany, .string dtab, .int .u32 da, .int .i64 dn, .int .i64 dlo, .int .i64 dhi, .int .i64 set, .int .i64 mask, .int .i64 type, .bool keep, .bool ton, .string tif, .int .u32 tg, .bool pon, .string pif, .int .u32 pg, .int .i64 table] 32 (0, 0)) := hW ▸ heap_new w _
    have HB : Hid (∀ w', Ext W w' → w'.heap[w.heap.size]? = some (.cells #[.bool pass, .bool ret, .bool quick, .string on, .int .i64 proto, .bool sany, .string stab, .int .u32 sa, .int .i64 sn, .int .i64 slo, .int .i64 shi, .bool dany, .string dtab, .int .u32 da, .int .i64 dn, .int .i64 dlo, .int .i64 dhi, .int .i64 set, .int .i64 mask, .int .i64 type, .bool keep, .bool ton, .string tif, .int .u32 tg, .bool pon, .string pif, .int .u32 pg, .int .i64 table] 32 (0, 0))) := fun w' h => h.heap hb
    have hv := Ext.refl W
    clear hb
    cases g with
    | true =>
      go_enter Tryz.func5, Tryz.ntmps5
      go_wp2_with (first
        | (refine wpl_load (by rfl) 32 _ rfl w.heap.size _ _ _ rfl (HB.out _ hv) Tryz.underlying32 rfl rule_size ?_)
        | (go_at_call 15; refine (ch _).mono ?_; rintro e w1 ⟨rfl, hx1⟩; replace hv := hv.trans hx1; clear hx1))
      go_ret
      exact ⟨rfl, hx0.trans hv⟩
    | false =>
      go_enter Tryz.func5, Tryz.ntmps5
      go_wp2_with (first
        | (refine wpl_load (by rfl) 32 _ rfl w.heap.size _ _ _ rfl (HB.out _ hv) Tryz.underlying32 rfl rule_size ?_)
        | (go_at_call 15; refine (ch _).mono ?_; rintro e w1 ⟨rfl, hx1⟩; replace hv := hv.trans hx1; clear hx1)
        | (go_at_call 19; refine (cI _).mono ?_; rintro e w1 ⟨rfl, hx1⟩; replace hv := hv.trans hx1; clear hx1))
      go_ret
      exact ⟨rfl, hx0.trans hv⟩
  | true =>
    obtain ⟨hp, hw, hz, hok, hpe⟩ := hgood hI
    rw [hI] at cI
    rw [hpe] at cp
    generalize printR r = P at *
    have cP := fun w h => rparse_any P w (by omega) h
    rw [parseRE_some hp] at cP
    have cW := fun w => words_row P w (by omega) (by rw [hw]; exact hpos)
    rw [hw] at cW
    have hxp : parseR (txt (twice L) ++ ⟨#[32]⟩) = some r := by rw [← hp]; exact parseR_words (by rw [back_words hok, hw])
    have hxl := twice_len L hok
    have hxz : (txt (twice L) ++ ⟨#[32]⟩ : ByteArray).size ≤ 1000000 := by
      rw [ByteArray.size_append, txt_size]
      have : (⟨#[32]⟩ : ByteArray).size = 1 := rfl
      omega
    have cX := fun w h => rparse_any (txt (twice L) ++ ⟨#[32]⟩) w hxz h
    rw [parseRE_some hxp] at cX
    have HOK : Hid (∀ j x, L[j]? = some x → wordOk x) := fun j x h => hok x (List.mem_of_getElem? h)
    have HTL : Hid (∀ j, (twice (L.take j)).length ≤ 1218) := fun j => by
      have := twice_len (L.take j) (fun x hx => hok x (List.mem_of_mem_take hx))
      have h2 : (L.take j).length ≤ 29 := by rw [List.length_take]; omega
      omega
    obtain ⟨n, hn⟩ : ∃ n, L.length = n := ⟨_, rfl⟩
    rw [hn] at cW
    have HN : Hid (L.length = n) := hn
    have hn29 : n ≤ 29 := by omega
    obtain ⟨X, hX⟩ : ∃ X : ByteArray, txt (twice L) ++ ⟨#[32]⟩ = X := ⟨_, rfl⟩
    rw [hX] at cX
    have HX : Hid _ := hX
    clear hI hgood hp hw hz hok hpe hxp hxl hxz hlen hpos hX hn
    obtain ⟨pass, ret, quick, on, proto, ⟨sany, stab, sa, sn, slo, shi⟩, ⟨dany, dtab, da, dn, dlo, dhi⟩, set, mask, type, keep, ⟨ton, tif, tg⟩, ⟨pon, pif, pg⟩, table⟩ := r
    dsimp only at *
    obtain ⟨W, hW⟩ : ∃ W, w.alloc (.cells #[.bool pass, .bool ret, .bool quick, .string on, .int .i64 proto, .bool sany, .string stab, .int .u32 sa, .int .i64 sn, .int .i64 slo, .int .i64 shi, .bool dany, .string dtab, .int .u32 da, .int .i64 dn, .int .i64 dlo, .int .i64 dhi, .int .i64 set, .int .i64 mask, .int .i64 type, .bool keep, .bool ton, .string tif, .int .u32 tg, .bool pon, .string pif, .int .u32 pg, .int .i64 table] 32) = W := ⟨_, rfl⟩
    have hx0 : Ext w W := hW ▸ (Ext.refl w).alloc _
    have hb : W.heap[w.heap.size]? = some (.cells #[.bool pass, .bool ret, .bool quick, .string on, .int .i64 proto, .bool sany, .string stab, .int .u32 sa, .int .i64 sn, .int .i64 slo, .int .i64 shi, .bool dany, .string dtab, .int .u32 da, .int .i64 dn, .int .i64 dlo, .int .i64 dhi, .int .i64 set, .int .i64 mask, .int .i64 type, .bool keep, .bool ton, .string tif, .int .u32 tg, .bool pon, .string pif, .int .u32 pg, .int .i64 table] 32 (0, 0)) := hW ▸ heap_new w _
    have HB : Hid (∀ w', Ext W w' → w'.heap[w.heap.size]? = some (.cells #[.bool pass, .bool ret, .bool quick, .string on, .int .i64 proto, .bool sany, .string stab, .int .u32 sa, .int .i64 sn, .int .i64 slo, .int .i64 shi, .bool dany, .string dtab, .int .u32 da, .int .i64 dn, .int .i64 dlo, .int .i64 dhi, .int .i64 set, .int .i64 mask, .int .i64 type, .bool keep, .bool ton, .string tif, .int .u32 tg, .bool pon, .string pif, .int .u32 pg, .int .i64 table] 32 (0, 0))) := fun w' h => h.heap hb
    have hv := Ext.refl W
    clear hb
    cases g with
    | true =>
      clear cp cS c9 cP cW cX
      go_enter Tryz.func5, Tryz.ntmps5
      go_wp2_with (first
        | (refine wpl_load (by rfl) 32 _ rfl w.heap.size _ _ _ rfl (HB.out _ hv) Tryz.underlying32 rfl rule_size ?_)
        | (go_at_call 15; refine (ch _).mono ?_; rintro e w1 ⟨rfl, hx1⟩; replace hv := hv.trans hx1; clear hx1))
      go_ret
      exact ⟨rfl, hx0.trans hv⟩
    | false =>
      replace HS : Hid (∀ w', Ext W w' → Std w') := fun w' h => HS.out w' (hx0.trans h)
      go_enter Tryz.func5, Tryz.ntmps5
      go_upto_region 7 with (first
        | (refine wpl_load (by rfl) 32 _ rfl w.heap.size _ _ _ rfl (HB.out _ hv) Tryz.underlying32 rfl rule_size ?_)
        | (go_at_call 15; refine (ch _).mono ?_; rintro e w1 ⟨rfl, hx1⟩; replace hv := hv.trans hx1; clear hx1)
        | (go_at_call 19; refine (cI _).mono ?_; rintro e w1 ⟨rfl, hx1⟩; replace hv := hv.trans hx1; clear hx1)
        | (go_at_call 16; refine (cp _ (HS.out _ hv)).mono ?_; rintro e w2 ⟨rfl, hx1⟩; replace hv := hv.trans hx1; clear hx1)
        | (go_at_call 9; refine (cP _ (HS.out _ hv)).mono ?_; rintro e w3 ⟨rfl, hx1⟩; replace hv := hv.trans hx1; clear hx1)
        | (refine wpl_store (by rfl) 32 _ _ rfl rfl 28 w3.heap.size #[.bool pass, .bool ret, .bool quick, .string on, .int .i64 proto, .bool sany, .string stab, .int .u32 sa, .int .i64 sn, .int .i64 slo, .int .i64 shi, .bool dany, .string dtab, .int .u32 da, .int .i64 dn, .int .i64 dlo, .int .i64 dhi, .int .i64 set, .int .i64 mask, .int .i64 type, .bool keep, .bool ton, .string tif, .int .u32 tg, .bool pon, .string pif, .int .u32 pg, .int .i64 table] _ _ rfl rfl (heap_new w3 _) rule_size rfl rfl (by simp [Value.oneCell']) ?_; intro w4 hy k2; replace hv : Ext W w4 := ExtX.ext (Ext.alloc hv (.cells #[.bool false, .bool false, .bool false, .string ⟨#[]⟩, .int .i64 0, .bool false, .string ⟨#[]⟩, .int .u32 0, .int .i64 0, .int .i64 0, .int .i64 0, .bool false, .string ⟨#[]⟩, .int .u32 0, .int .i64 0, .int .i64 0, .int .i64 0, .int .i64 0, .int .i64 0, .int .i64 0, .bool false, .bool false, .string ⟨#[]⟩, .int .u32 0, .bool false, .string ⟨#[]⟩, .int .u32 0, .int .i64 0] 32)) hy hv.size; have K1 : Hid (∀ w', Ext w4 w' → w'.heap[w3.heap.size]? = some (.cells #[.bool pass, .bool ret, .bool quick, .string on, .int .i64 proto, .bool sany, .string stab, .int .u32 sa, .int .i64 sn, .int .i64 slo, .int .i64 shi, .bool dany, .string dtab, .int .u32 da, .int .i64 dn, .int .i64 dlo, .int .i64 dhi, .int .i64 set, .int .i64 mask, .int .i64 type, .bool keep, .bool ton, .string tif, .int .u32 tg, .bool pon, .string pif, .int .u32 pg, .int .i64 table] 32 (0, 0))) := fun w' h => h.heap k2; clear hy k2)
        | (go_at_call 21; refine (cW _).mono ?_; rintro e w5 ⟨gb, cap, rfl, hcap, hcl, hx5⟩; replace hv := hv.trans hx5; have HCL : Hid _ := hcl; clear hcl))
      clear cp cP cW ch cI
      have HV : Hid (Ext W w5) := hv
      clear hv
      go_wp2
      go_loop [6, 8] (fun t i => ∃ j : Nat, j ≤ n ∧ i = .int .i64 j ∧ t = .string (txt (twice (L.take j)))) (fun _ i => n - (intOf i).toNat)
      case atStart => exact ⟨0, Nat.zero_le _, rfl, rfl⟩
      case round =>
        obtain ⟨j, hj, rfl, rfl⟩ := hrel
        by_cases hlt : j < n
        · obtain ⟨x, hx⟩ : ∃ x, L[j]? = some x := ⟨_, List.getElem?_eq_getElem (by rw [HN.out]; exact hlt)⟩
          have hc := HCL.out j x hx
          have hzx := (HOK.out j x hx).2.2
          have hzt := HTL.out j
          rw [← txt_size] at hzt
          have HT : Hid (txt (twice (L.take (j + 1))) = txt (twice (L.take j)) ++ ⟨#[32, 32]⟩ ++ x) := by
            show _ = _
            apply list_inj
            rw [list_txt, twice_take hx]
            simp [ByteArray.data_append, txt]
          generalize txt (twice (L.take j)) = T at *
          clear c9 cS cX hx
          go_wp2
          go_round
          case rel => exact ⟨j + 1, by omega, by go_num, by rw [HT.out]⟩
          case measure => simp [intOf]; omega
        · obtain rfl : j = n := by omega
          have hzt := HTL.out j
          rw [show L.take j = L by rw [← HN.out, List.take_length]] at hzt ⊢
          rw [← txt_size] at hzt
          have hX := HX.out
          generalize txt (twice L) = T at *
          clear hlt hj
          go_upto_region 12 with (first
            | (go_at_call 9; (try rw [hX]); refine (cX _ (HS.out _ HV.out)).mono ?_; rintro e w6 ⟨rfl, hx6⟩)
            | (refine wpl_store (by rfl) 32 _ _ rfl rfl 28 w6.heap.size #[.bool pass, .bool ret, .bool quick, .string on, .int .i64 proto, .bool sany, .string stab, .int .u32 sa, .int .i64 sn, .int .i64 slo, .int .i64 shi, .bool dany, .string dtab, .int .u32 da, .int .i64 dn, .int .i64 dlo, .int .i64 dhi, .int .i64 set, .int .i64 mask, .int .i64 type, .bool keep, .bool ton, .string tif, .int .u32 tg, .bool pon, .string pif, .int .u32 pg, .int .i64 table] _ _ rfl rfl (heap_new w6 _) rule_size rfl rfl (by simp [Value.oneCell']) ?_; intro w7 hy k2; have hx7 : Ext w5 w7 := ExtX.ext (Ext.alloc hx6 (.cells #[.bool false, .bool false, .bool false, .string ⟨#[]⟩, .int .i64 0, .bool false, .string ⟨#[]⟩, .int .u32 0, .int .i64 0, .int .i64 0, .int .i64 0, .bool false, .string ⟨#[]⟩, .int .u32 0, .int .i64 0, .int .i64 0, .int .i64 0, .int .i64 0, .int .i64 0, .int .i64 0, .bool false, .bool false, .string ⟨#[]⟩, .int .u32 0, .bool false, .string ⟨#[]⟩, .int .u32 0, .int .i64 0] 32)) hy hx6.size; have K2 : Hid (∀ w', Ext w7 w' → w'.heap[w6.heap.size]? = some (.cells #[.bool pass, .bool ret, .bool quick, .string on, .int .i64 proto, .bool sany, .string stab, .int .u32 sa, .int .i64 sn, .int .i64 slo, .int .i64 shi, .bool dany, .string dtab, .int .u32 da, .int .i64 dn, .int .i64 dlo, .int .i64 dhi, .int .i64 set, .int .i64 mask, .int .i64 type, .bool keep, .bool ton, .string tif, .int .u32 tg, .bool pon, .string pif, .int .u32 pg, .int .i64 table] 32 (0, 0))) := fun w' h => h.heap k2; clear hy k2))
          have HX7 : Hid (Ext w5 w7) := hx7
          have H5 : Hid (Ext w4 w5) := hx5
          have hv := Ext.refl w7
          have tok : Hid True := trivial
          go_wp2_with (first
            | (refine wpl_load (by rfl) 32 _ rfl w.heap.size _ _ _ rfl (HB.out _ (Ext.trans HV.out (Ext.trans HX7.out hv))) Tryz.underlying32 rfl rule_size ?_)
            | (refine wpl_load (by rfl) 32 _ rfl w3.heap.size _ _ _ rfl (K1.out _ (Ext.trans H5.out (Ext.trans HX7.out hv))) Tryz.underlying32 rfl rule_size ?_)
            | (refine wpl_load (by rfl) 32 _ rfl w6.heap.size _ _ _ rfl (K2.out _ hv) Tryz.underlying32 rfl rule_size ?_)
            | (go_at_call 11; clear tok; refine (cS _).mono ?_; rintro e w8 ⟨rfl, hx8⟩; replace hv := hv.trans hx8; clear hx8)
            | (go_at_call 11; refine (cS _).mono ?_; rintro e w9 ⟨rfl, hx8⟩; replace hv := hv.trans hx8; clear hx8)
            | (go_at_call 14; refine (c9 _ (HS.out _ (Ext.trans HV.out (Ext.trans HX7.out hv)))).mono ?_; rintro e wa ⟨rfl, hx8⟩; replace hv := hv.trans hx8; clear hx8))
          go_ret
          exact ⟨rfl, hx0.trans (Ext.trans HV.out (Ext.trans HX7.out hv))⟩
end Go.Proofs.YtbmmgjmmooakpaaGreatDoor.Ru
