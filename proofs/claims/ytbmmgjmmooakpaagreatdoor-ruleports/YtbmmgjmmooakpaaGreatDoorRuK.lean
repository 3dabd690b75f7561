/- RuJ, RuK: in one text. -/
import Derived.Test.YtbmmgjmmooakpaaGreatDoorRuD
import Derived.Test.YtbmmgjmmooakpaaGreatDoorRuC
import Derived.Test.YtbmmgjmmooakpaaGreatDoorRu3
import Derived.Test.YtbmmgjmmooakpaaGreatDoorRuI
import Derived.Test.YtbmmgjmmooakpaaGreatDoorRv6
import Derived.Stop.LaidErr
namespace Go.Proofs.YtbmmgjmmooakpaaGreatDoor.Ru
open Go.RowKit
set_option linter.unusedVariables false
set_option maxRecDepth 100000

theorem begin_any (s : ByteArray) (w : World) (hz : s.size ≤ 1000000) (hs : Std w) :
    Calls Tryz.prog 23 #[.string s] w fun e w' => e = .returned (.pointer (some ⟨w.heap.size, 0, none⟩)) ∧ WAt w' w.heap.size (wordsB s) false ∧ Ext w w' := by
  obtain ⟨W, hW⟩ : ∃ W, w.alloc (.cells #[.string ⟨#[]⟩, .string s, .bool false] 53) = W := ⟨_, rfl⟩
  have hx0 : Ext w W := hW ▸ (Ext.refl w).alloc _
  have h0 : W.heap[w.heap.size]? = some (.cells #[.string ⟨#[]⟩, .string s, .bool false] 53 (0, 0)) := hW ▸ heap_new w _
  have c1 := take_raw w.heap.size ⟨#[]⟩ s false W h0 hz (hs.later hx0)
  clear h0 hz hs
  go_enter Tryz.func23, Tryz.ntmps23
  go_wp2_with (go_at_call 53; refine c1.mono ?_; rintro e w1 ⟨rfl, hW1, hx⟩)
  go_ret
  exact ⟨rfl, hW1, ExtX.ext hx0 hx (Nat.le_refl _)⟩

set_option maxHeartbeats 4000000 in
theorem rparseX_any (s : ByteArray) (w : World) (hz : s.size ≤ 1000000) (hs : Std w) :
    Calls Tryz.prog 9 #[.string s] w fun e w' => (e = parseRE s ∧ ∀ r, parseR s = some r → RuleOk r) ∧ Ext w w' := by
  obtain ⟨W, hW⟩ : ∃ W, w.alloc (.cells #[.bool false, .bool false, .bool false, .string ⟨#[]⟩, .int .i64 0, .bool false, .string ⟨#[]⟩, .int .u32 0, .int .i64 0, .int .i64 0, .int .i64 0, .bool false, .string ⟨#[]⟩, .int .u32 0, .int .i64 0, .int .i64 0, .int .i64 0, .int .i64 0, .int .i64 0, .int .i64 0, .bool false, .bool false, .string ⟨#[]⟩, .int .u32 0, .bool false, .string ⟨#[]⟩, .int .u32 0, .int .i64 0] 32) = W := ⟨_, rfl⟩
  have hx0 : Ext w W := hW ▸ (Ext.refl w).alloc _
  have h0 : W.heap[w.heap.size]? = some (.cells #[.bool rule0.pass, .bool rule0.ret, .bool rule0.quick, .string rule0.on, .int .i64 rule0.proto, .bool rule0.src.any, .string rule0.src.table, .int .u32 rule0.src.a, .int .i64 rule0.src.n, .int .i64 rule0.src.low, .int .i64 rule0.src.high, .bool rule0.dst.any, .string rule0.dst.table, .int .u32 rule0.dst.a, .int .i64 rule0.dst.n, .int .i64 rule0.dst.low, .int .i64 rule0.dst.high, .int .i64 rule0.set, .int .i64 rule0.mask, .int .i64 rule0.type, .bool rule0.keep, .bool rule0.rt.on, .string rule0.rt.iface, .int .u32 rule0.rt.gate, .bool rule0.rp.on, .string rule0.rp.iface, .int .u32 rule0.rp.gate, .int .i64 rule0.table] 32 (0, 0)) := hW ▸ heap_new w _
  have hwW : w.heap.size < W.heap.size := heap_lt h0
  have hS := hs.later hx0
  have c1 := begin_any s W hz hS
  have hbad := parseR_bad (s := s)
  have hmore := fun r L => parseR_more (s := s) (r := r) (L := L)
  have hall := fun r => parseR_all (s := s) (r := r)
  have hnone := parseRE_none (s := s)
  have hsome := fun r => parseRE_some (s := s) (r := r)
  generalize parseRE s = E at *
  generalize parseR s = R at *
  have c2 := fun w h hs => wrule_any W.heap.size (wordsB s) false w h hs (hS.abv (Nat.le_refl _))
  generalize wordsB s = L0 at *
  have HS : Hid (Std W) := hS
  have H0 : Hid _ := h0
  have HB : Hid _ := hbad
  have HM : Hid (∀ r L, sRule true L0 = some (r, L) → L ≠ [] → R = none) := hmore
  have HC : Hid (∀ r, sRule true L0 = some (r, []) → R = if isR r = true then some r else none) := hall
  have HN : Hid _ := hnone
  have HE : Hid (∀ r, R = some r → E = .returned (.tuple #[(.agg #[.bool r.pass, .bool r.ret, .bool r.quick, .string r.on, .int .i64 r.proto, .bool r.src.any, .string r.src.table, .int .u32 r.src.a, .int .i64 r.src.n, .int .i64 r.src.low, .int .i64 r.src.high, .bool r.dst.any, .string r.dst.table, .int .u32 r.dst.a, .int .i64 r.dst.n, .int .i64 r.dst.low, .int .i64 r.dst.high, .int .i64 r.set, .int .i64 r.mask, .int .i64 r.type, .bool r.keep, .bool r.rt.on, .string r.rt.iface, .int .u32 r.rt.gate, .bool r.rp.on, .string r.rp.iface, .int .u32 r.rp.gate, .int .i64 r.table]), .int .i64 0])) := hsome
  clear h0 hS hs hbad hmore hall hnone hsome
  go_enter Tryz.func9, Tryz.ntmps9
  go_upto_region 3 with (first
    | (go_at_call 23; refine c1.mono ?_; rintro e w1 ⟨rfl, hW1, hx1⟩)
    | (go_at_call 24; refine (c2 _ hW1 (HS.out.later hx1)).mono ?_; rintro e w2 ⟨⟨pass, ret, quick, on, proto, ⟨sany, stab, sa, sn, slo, shi⟩, ⟨dany, dtab, da, dn, dlo, dhi⟩, set, mask, type, keep, ⟨ton, tif, tg⟩, ⟨pon, pif, pg⟩, table⟩, b', L', rfl, hok, hst, hW2, hx2⟩; dsimp only [encR]; have hx3 : Ext w w2 := ExtX.ext (hx0.trans hx1) hx2 (by omega); have hRb := extX_heap hx2 (show w.heap.size ≠ W.heap.size by omega) (hx1.heap H0.out); have hlt := hW2.lt; have HOK : Hid (RuleOk ⟨pass, ret, quick, on, proto, ⟨sany, stab, sa, sn, slo, shi⟩, ⟨dany, dtab, da, dn, dlo, dhi⟩, set, mask, type, keep, ⟨ton, tif, tg⟩, ⟨pon, pif, pg⟩, table⟩) := hok; have HST : Hid (Stp (sRule true L0) false ⟨pass, ret, quick, on, proto, ⟨sany, stab, sa, sn, slo, shi⟩, ⟨dany, dtab, da, dn, dlo, dhi⟩, set, mask, type, keep, ⟨ton, tif, tg⟩, ⟨pon, pif, pg⟩, table⟩ b' L') := hst; clear hok hst)
    | (refine wpl_store (by rfl) 32 _ _ rfl rfl 28 w2.heap.size #[.bool pass, .bool ret, .bool quick, .string on, .int .i64 proto, .bool sany, .string stab, .int .u32 sa, .int .i64 sn, .int .i64 slo, .int .i64 shi, .bool dany, .string dtab, .int .u32 da, .int .i64 dn, .int .i64 dlo, .int .i64 dhi, .int .i64 set, .int .i64 mask, .int .i64 type, .bool keep, .bool ton, .string tif, .int .u32 tg, .bool pon, .string pif, .int .u32 pg, .int .i64 table] _ _ rfl rfl (heap_new w2 _) rule_size rfl rfl (by simp [Value.oneCell']) ?_; intro w3 hy k3; have hxa := (Ext.refl w2).alloc (.cells #[.bool false, .bool false, .bool false, .string ⟨#[]⟩, .int .i64 0, .bool false, .string ⟨#[]⟩, .int .u32 0, .int .i64 0, .int .i64 0, .int .i64 0, .bool false, .string ⟨#[]⟩, .int .u32 0, .int .i64 0, .int .i64 0, .int .i64 0, .int .i64 0, .int .i64 0, .int .i64 0, .bool false, .bool false, .string ⟨#[]⟩, .int .u32 0, .bool false, .string ⟨#[]⟩, .int .u32 0, .int .i64 0] 32); have hW3 := (hW2.later hxa).laterX hy (by omega); have hRb3 := extX_heap hy (show w.heap.size ≠ w2.heap.size by omega) (hxa.heap hRb); have hx4 : Ext w w3 := ExtX.ext (hx3.trans hxa) hy (by omega); clear hRb hx3 hxa hy hW2 hx2))
  obtain ⟨n, r, hh, hw⟩ := hW3
  have KP : Hid _ := hh
  obtain ⟨d0, d1, d2, f0, f1, f2⟩ := cells_three hh
  have K3 : Hid _ := k3
  have KR : Hid _ := hRb3
  have hne : (n.toList == []) = decide (L' = []) := by
    rw [empT]
    rcases hw.words with ⟨h1, rfl, _⟩ | ⟨h1, rfl⟩
    · rw [decide_eq_true h1, decide_eq_true rfl]
    · rw [decide_eq_false h1, decide_eq_false (by simp)]
  have hne2 : (n.toList != []) = !decide (L' = []) := by unfold bne; rw [hne]
  have hem : n.toList.isEmpty = decide (L' = []) := by rw [← hne]; cases n.toList <;> rfl
  clear hh hw k3 hRb3 hne
  cases b' with
  | true =>
    have hRn := HB.out (Stp.bad HST.out)
    obtain rfl := HN.out hRn
    have HRN : Hid _ := hRn
    clear hRn
    clear hne2 hem
    go_wp2_with (refine wpl_store (by rfl) 32 _ _ rfl rfl 28 w.heap.size #[.bool rule0.pass, .bool rule0.ret, .bool rule0.quick, .string rule0.on, .int .i64 rule0.proto, .bool rule0.src.any, .string rule0.src.table, .int .u32 rule0.src.a, .int .i64 rule0.src.n, .int .i64 rule0.src.low, .int .i64 rule0.src.high, .bool rule0.dst.any, .string rule0.dst.table, .int .u32 rule0.dst.a, .int .i64 rule0.dst.n, .int .i64 rule0.dst.low, .int .i64 rule0.dst.high, .int .i64 rule0.set, .int .i64 rule0.mask, .int .i64 rule0.type, .bool rule0.keep, .bool rule0.rt.on, .string rule0.rt.iface, .int .u32 rule0.rt.gate, .bool rule0.rp.on, .string rule0.rp.iface, .int .u32 rule0.rp.gate, .int .i64 rule0.table] _ _ rfl rfl KR.out rule_size rfl rfl (by simp [Value.oneCell']) ?_; intro w5 hx5 k5)
    exact bodyPost_ret (results_two Tryz.results9 _ rfl k5 Tryz.underlying32 rfl rule_size) rfl ⟨⟨rfl, fun r h => by rw [HRN.out] at h; cases h⟩, ExtX.ext hx4 hx5 (Nat.le_refl _)⟩
  | false =>
    have hgood := (Stp.good HST.out).2
    cases L' with
    | cons x M =>
      have hRn := HM.out _ _ hgood (by simp)
      obtain rfl := HN.out hRn
      have HRN : Hid _ := hRn
      clear hRn
      rw [decide_eq_false (by simp), Bool.not_false] at hne2
      rw [decide_eq_false (by simp)] at hem
      go_wp2_with (refine wpl_store (by rfl) 32 _ _ rfl rfl 28 w.heap.size #[.bool rule0.pass, .bool rule0.ret, .bool rule0.quick, .string rule0.on, .int .i64 rule0.proto, .bool rule0.src.any, .string rule0.src.table, .int .u32 rule0.src.a, .int .i64 rule0.src.n, .int .i64 rule0.src.low, .int .i64 rule0.src.high, .bool rule0.dst.any, .string rule0.dst.table, .int .u32 rule0.dst.a, .int .i64 rule0.dst.n, .int .i64 rule0.dst.low, .int .i64 rule0.dst.high, .int .i64 rule0.set, .int .i64 rule0.mask, .int .i64 rule0.type, .bool rule0.keep, .bool rule0.rt.on, .string rule0.rt.iface, .int .u32 rule0.rt.gate, .bool rule0.rp.on, .string rule0.rp.iface, .int .u32 rule0.rp.gate, .int .i64 rule0.table] _ _ rfl rfl KR.out rule_size rfl rfl (by simp [Value.oneCell']) ?_; intro w5 hx5 k5)
      exact bodyPost_ret (results_two Tryz.results9 _ rfl k5 Tryz.underlying32 rfl rule_size) rfl ⟨⟨rfl, fun r h => by rw [HRN.out] at h; cases h⟩, ExtX.ext hx4 hx5 (Nat.le_refl _)⟩
    | nil =>
      rw [decide_eq_true rfl, Bool.not_true] at hne2
      rw [decide_eq_true rfl] at hem
      have hR := HC.out _ hgood
      have c3 := fun w => isRule_any ⟨pass, ret, quick, on, proto, ⟨sany, stab, sa, sn, slo, shi⟩, ⟨dany, dtab, da, dn, dlo, dhi⟩, set, mask, type, keep, ⟨ton, tif, tg⟩, ⟨pon, pif, pg⟩, table⟩ w HOK.out
      cases hg : isR ⟨pass, ret, quick, on, proto, ⟨sany, stab, sa, sn, slo, shi⟩, ⟨dany, dtab, da, dn, dlo, dhi⟩, set, mask, type, keep, ⟨ton, tif, tg⟩, ⟨pon, pif, pg⟩, table⟩ with
      | false =>
        rw [hg] at hR c3
        obtain rfl := HN.out hR
        have HRN : Hid (R = none) := hR
        clear hg hR hgood
        go_wp2_with (first
          | (refine wpl_load (by rfl) 32 _ rfl w2.heap.size _ _ _ rfl K3.out Tryz.underlying32 rfl rule_size ?_)
          | (go_at_call 18; refine (c3 _).mono ?_; rintro e w4 ⟨rfl, hx6⟩; replace KR := hx6.heap KR.out; have KR2 : Hid _ := KR)
          | (refine wpl_store (by rfl) 32 _ _ rfl rfl 28 w.heap.size #[.bool rule0.pass, .bool rule0.ret, .bool rule0.quick, .string rule0.on, .int .i64 rule0.proto, .bool rule0.src.any, .string rule0.src.table, .int .u32 rule0.src.a, .int .i64 rule0.src.n, .int .i64 rule0.src.low, .int .i64 rule0.src.high, .bool rule0.dst.any, .string rule0.dst.table, .int .u32 rule0.dst.a, .int .i64 rule0.dst.n, .int .i64 rule0.dst.low, .int .i64 rule0.dst.high, .int .i64 rule0.set, .int .i64 rule0.mask, .int .i64 rule0.type, .bool rule0.keep, .bool rule0.rt.on, .string rule0.rt.iface, .int .u32 rule0.rt.gate, .bool rule0.rp.on, .string rule0.rp.iface, .int .u32 rule0.rp.gate, .int .i64 rule0.table] _ _ rfl rfl KR2.out rule_size rfl rfl (by simp [Value.oneCell']) ?_; intro w5 hx5 k5))
        exact bodyPost_ret (results_two Tryz.results9 _ rfl k5 Tryz.underlying32 rfl rule_size) rfl ⟨⟨rfl, fun r h => by rw [HRN.out] at h; cases h⟩, ExtX.ext (hx4.trans hx6) hx5 (Nat.le_refl _)⟩
      | true =>
        rw [hg] at hR c3
        obtain rfl := HE.out _ hR
        have HRS : Hid (R = some ⟨pass, ret, quick, on, proto, ⟨sany, stab, sa, sn, slo, shi⟩, ⟨dany, dtab, da, dn, dlo, dhi⟩, set, mask, type, keep, ⟨ton, tif, tg⟩, ⟨pon, pif, pg⟩, table⟩) := hR
        clear hg hR hgood
        go_wp2_with (first
          | (refine wpl_load (by rfl) 32 _ rfl w2.heap.size _ _ _ rfl K3.out Tryz.underlying32 rfl rule_size ?_)
          | (go_at_call 18; refine (c3 _).mono ?_; rintro e w4 ⟨rfl, hx6⟩; replace KR := hx6.heap KR.out; have KR2 : Hid _ := KR; replace K3 := hx6.heap K3.out; have K4 : Hid _ := K3)
          | (refine wpl_load (by rfl) 32 _ rfl w2.heap.size _ _ _ rfl K4.out Tryz.underlying32 rfl rule_size ?_)
          | (refine wpl_store (by rfl) 32 _ _ rfl rfl 28 w.heap.size #[.bool pass, .bool ret, .bool quick, .string on, .int .i64 proto, .bool sany, .string stab, .int .u32 sa, .int .i64 sn, .int .i64 slo, .int .i64 shi, .bool dany, .string dtab, .int .u32 da, .int .i64 dn, .int .i64 dlo, .int .i64 dhi, .int .i64 set, .int .i64 mask, .int .i64 type, .bool keep, .bool ton, .string tif, .int .u32 tg, .bool pon, .string pif, .int .u32 pg, .int .i64 table] _ _ rfl rfl KR2.out rule_size rfl rfl (by simp [Value.oneCell']) ?_; intro w5 hx5 k5))
        exact bodyPost_ret (results_two Tryz.results9 _ rfl k5 Tryz.underlying32 rfl rule_size) rfl ⟨⟨rfl, fun r h => by rw [HRS.out] at h; cases h; exact HOK.out⟩, ExtX.ext (hx4.trans hx6) hx5 (Nat.le_refl _)⟩

theorem rparse_any (s : ByteArray) (w : World) (hz : s.size ≤ 1000000) (hs : Std w) :
    Calls Tryz.prog 9 #[.string s] w fun e w' => e = parseRE s ∧ Ext w w' := (rparseX_any s w hz hs).mono fun e w' h => ⟨h.1.1, h.2⟩
end Go.Proofs.YtbmmgjmmooakpaaGreatDoor.Ru

namespace Go.Proofs.YtbmmgjmmooakpaaGreatDoor.Ru
open Go.RowKit
set_option linter.unusedVariables false
set_option maxRecDepth 100000

theorem starT : "*" ++ "errors.errorString" = "*errors.errorString" := by decide
theorem rowErr (u : TypeId) (h : Tryz.prog.typeName? 3 u = some "*errors.errorString") : u = 172 :=
  typeName_ptr_named (nm := "errors.errorString") (by rw [starT]; kernel_rfl) (by kernel_rfl) (by decide) u (by rw [starT]; exact h)
theorem cellsE : Tryz.prog.cellsOf 174 = 1 := by kernel_rfl
theorem cellsS : Tryz.prog.cellsOf 9 = 1 := by kernel_rfl
theorem gSynT : (Tryz.prog.globals[4]?).map (·.type) = some 94 := by kernel_rfl
theorem gRanT : (Tryz.prog.globals[5]?).map (·.type) = some 94 := by kernel_rfl

theorem std_laid {W : World} {a b c d : String × DataW Unit} {r s : List UInt8} {l : List (String × DataW Unit)} (ht : Tab W) (hsh : W.ShapedOpen Tryz.prog)
    (h : laidMet Tryz.prog (a :: b :: c :: d :: ("strconv.ErrRange", .iface "*errors.errorString" (.ptr (.agg [.lit (.string r)]))) :: ("strconv.ErrSyntax", .iface "*errors.errorString" (.ptr (.agg [.lit (.string s)]))) :: l) W) : Std W := by
  have h4 := h.tail.tail.tail.tail
  obtain ⟨a1, _, hv1, _⟩ := laid_sentinel h4 gRan gRanT Tryz.underlying94 rowErr Tryz.underlying172 Tryz.underlying174 rfl rfl Tryz.underlying9 cellsE cellsS
  obtain ⟨a2, _, hv2, _⟩ := laid_sentinel h4.tail gSyn gSynT Tryz.underlying94 rowErr Tryz.underlying172 Tryz.underlying174 rfl rfl Tryz.underlying9 cellsE cellsS
  exact ⟨ht, max_of_shaped hsh, ⟨_, _, hv2⟩, ⟨_, _, hv1⟩⟩

/-- pass from any to 10.0.0.1 -/
abbrev tKnown : ByteArray := ⟨#[112, 97, 115, 115, 32, 102, 114, 111, 109, 32, 97, 110, 121, 32, 116, 111, 32, 49, 48, 46, 48, 46, 48, 46, 49]⟩
/-- The same, as it is printed. -/
abbrev tKnown2 : ByteArray := ⟨#[112, 97, 115, 115, 32, 102, 114, 111, 109, 32, 97, 110, 121, 32, 116, 111, 32, 49, 48, 46, 48, 46, 48, 46, 49, 47, 51, 50]⟩
def ruleK : RuleV := ⟨true, false, false, txt [], 0, ⟨true, txt [], 0, 0, 0, 65535⟩, ⟨false, txt [], 167772161, 32, 0, 65535⟩, 0, 0, -1, false, pin0, pin0, 0⟩

theorem known_parse : parseR tKnown = some ruleK := by decide +kernel
theorem known_is : isR ruleK = true := by decide +kernel
theorem dec32 : decB 32 = ⟨#[51, 50]⟩ := by
  unfold decB
  have e : Lib.decDigits 32 = [51, 50] := by rw [Lib.decDigits, dif_neg (by decide), Lib.decDigits, dif_pos (by decide)]; decide
  rw [show (32 : Int).toNat = 32 from rfl, e]
theorem known_end : endT ruleK.dst = ⟨#[49, 48, 46, 48, 46, 48, 46, 49, 47, 51, 50]⟩ := by
  show printPB 167772161 32 = _
  unfold printPB
  rw [if_neg (by decide), printB_known, dec32]
  decide
theorem known_words : ruleW ruleK = [tPass, tFrom, tAny, tTo, ⟨#[49, 48, 46, 48, 46, 48, 46, 49, 47, 51, 50]⟩] := by
  rw [← known_end]; rfl
theorem known_print : printE ruleK = tKnown2 := by
  unfold printE printR
  rw [if_pos known_is, known_words]
  decide

theorem known_ok : RuleOk ruleK := ⟨by decide, by decide, by decide, ⟨by decide, by decide, by decide⟩, ⟨by decide, by decide, by decide⟩, ⟨by decide, by decide, by decide⟩, ⟨by decide, by decide, by decide⟩⟩

set_option maxHeartbeats 1000000 in
theorem known14_any (w : World) (hs : Std w) : Calls Tryz.prog 14 #[] w fun e w' => e = .returned (.bool true) ∧ Ext w w' := by
  have c1 := fun w h => rparse_any tKnown w (by decide) h
  rw [parseRE_some known_parse] at c1
  have c2 := fun w h => rPrint_any ruleK w known_ok h
  rw [known_print] at c2
  have HS : Hid (∀ w', Ext w w' → Std w') := fun w' h => hs.later h
  clear hs
  obtain ⟨⟨pass, ret, quick, on, proto, ⟨sany, stab, sa, sn, slo, shi⟩, ⟨dany, dtab, da, dn, dlo, dhi⟩, set, mask, type, keep, ⟨ton, tif, tg⟩, ⟨pon, pif, pg⟩, table⟩, hk⟩ : ∃ r, ruleK = r := ⟨_, rfl⟩
  rw [hk] at c1 c2
  clear hk
  dsimp only at *
  go_enter Tryz.func14, Tryz.ntmps14
  go_upto_region 2 with (first
    | (go_at_call 9; refine (c1 _ (HS.out _ (Ext.refl w))).mono ?_; rintro e w1 ⟨rfl, hx1⟩; clear c1; have hz := (Ext.refl w1).alloc (.cells #[.bool false, .bool false, .bool false, .string ⟨#[]⟩, .int .i64 0, .bool false, .string ⟨#[]⟩, .int .u32 0, .int .i64 0, .int .i64 0, .int .i64 0, .bool false, .string ⟨#[]⟩, .int .u32 0, .int .i64 0, .int .i64 0, .int .i64 0, .int .i64 0, .int .i64 0, .int .i64 0, .bool false, .bool false, .string ⟨#[]⟩, .int .u32 0, .bool false, .string ⟨#[]⟩, .int .u32 0, .int .i64 0] 32))
    | (refine wpl_store (by rfl) 32 _ _ rfl rfl 28 w1.heap.size #[.bool pass, .bool ret, .bool quick, .string on, .int .i64 proto, .bool sany, .string stab, .int .u32 sa, .int .i64 sn, .int .i64 slo, .int .i64 shi, .bool dany, .string dtab, .int .u32 da, .int .i64 dn, .int .i64 dlo, .int .i64 dhi, .int .i64 set, .int .i64 mask, .int .i64 type, .bool keep, .bool ton, .string tif, .int .u32 tg, .bool pon, .string pif, .int .u32 pg, .int .i64 table] _ _ rfl rfl (heap_new w1 _) rule_size rfl rfl (by simp [Value.oneCell']) ?_; intro w2 hy k2; have hx2 : Ext w w2 := ExtX.ext (hx1.trans hz) hy hx1.size; have K2 : Hid _ := k2; clear hz hy k2))
  go_wp2_with (first
    | (refine wpl_load (by rfl) 32 _ rfl w1.heap.size _ _ _ rfl K2.out Tryz.underlying32 rfl rule_size ?_)
    | (go_at_call 16; refine (c2 _ (HS.out _ hx2)).mono ?_; rintro e w3 ⟨rfl, hx3⟩))
  go_ret
  exact ⟨rfl, hx2.trans hx3⟩
end Go.Proofs.YtbmmgjmmooakpaaGreatDoor.Ru
