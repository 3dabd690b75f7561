/- Law 15's helpers: long, weigh, heavy. -/
import Derived.Test.YtdkmakjjcfkfaaaMaA
import Derived.Deep.CutBlock
import Derived.Deep.CutRange
namespace Go.Proofs.Ytdkmakjjcfkfaaa.Ma
open Go.RowKit Go.Proofs.Ytdkmakjjcfkfaaa Go.Proofs.Ytdkmakjjcfkfaaa.Ru
set_option linter.unusedVariables false
set_option linter.unusedSimpArgs false
set_option maxRecDepth 100000

/-- A rule that came in: lengths that machines have, addresses of 32 bits. -/
structure RuIn (r : RuleV) : Prop extends RuOk r where
  on : r.on.size ≤ 9223372036854775807
  st : r.src.table.size ≤ 9223372036854775807
  dt : r.dst.table.size ≤ 9223372036854775807
  ti : r.rt.iface.size ≤ 9223372036854775807
  pi : r.rp.iface.size ≤ 9223372036854775807

set_option maxHeartbeats 1000000 in
theorem long_any (k : PkV) : ∃ g, ∀ w, Calls Try.prog 9 #[.agg (pkL k).toArray] w fun e w' => e = .returned (.bool g) ∧ Ext w w' := by
  refine ⟨decide (60 < k.on) || decide (1500 < k.dn), fun w => ?_⟩
  obtain ⟨W, hW⟩ : ∃ W, w.alloc (.cells (pkL k).toArray 30) = W := ⟨_, rfl⟩
  have hx0 : Ext w W := hW ▸ (Ext.refl w).alloc _
  have hp : PkAt W w.heap.size k := pkAt (hW ▸ heap_new w _)
  have y9 := hp.c9 W (Ext.refl W)
  have ya := hp.ca W (Ext.refl W)
  clear hp
  generalize pkL k = ck at *
  by_cases h1 : 60 < k.on
  · rw [decide_eq_true h1, Bool.true_or]
    have h1' : (60 : Int) < (k.on : Int) := by omega
    go_enter Try.func9, Try.ntmps9
    go_wp2
    go_ret
    exact ⟨rfl, hx0⟩
  · rw [decide_eq_false h1, Bool.false_or]
    have h1' : ¬ (60 : Int) < (k.on : Int) := by omega
    by_cases h2 : 1500 < k.dn
    · rw [decide_eq_true h2]
      have h2' : (1500 : Int) < (k.dn : Int) := by omega
      go_enter Try.func9, Try.ntmps9
      go_wp2
      go_ret
      exact ⟨rfl, hx0⟩
    · rw [decide_eq_false h2]
      have h2' : ¬ (1500 : Int) < (k.dn : Int) := by omega
      go_enter Try.func9, Try.ntmps9
      go_wp2
      go_ret
      exact ⟨rfl, hx0⟩

theorem boxK (w : World) (cs : Array Value) (t : TypeId) : ∀ k w', Ext (w.alloc (.cells cs t)) w' → w'.cell? ⟨w.heap.size, k, none⟩ = cs[k]? :=
  fun k w' hx => heap_cell (hx.heap (heap_new w (.cells cs t)))

/-- How much is left behind a rule (it may go round). -/
def weighV (r : RuleV) (x : Int) : Int := wrap64 (wrap64 (wrap64 (wrap64 (wrap64 (wrap64 (x - 20) - (r.on.size : Int)) - (r.src.table.size : Int)) - (r.dst.table.size : Int)) - (r.rt.iface.size : Int)) - (r.rp.iface.size : Int))

set_option maxHeartbeats 1000000 in
theorem weigh_any (r : RuleV) (h : RuIn r) (x : Int) (w : World) : Calls Try.prog 18 #[.agg (ruleL r).toArray, .int .i64 x] w fun e w' => e = .returned (.int .i64 (weighV r x)) ∧ Ext w w' := by
  have h1 := h.on
  have h2 := h.st
  have h3 := h.dt
  have h4 := h.ti
  have h5 := h.pi
  clear h
  obtain ⟨pass, ret, quick, on, proto, ⟨sany, stab, sa, sn, slo, shi⟩, ⟨dany, dtab, da, dn, dlo, dhi⟩, set, mask, type, keep, ⟨ton, tif, tg⟩, ⟨pon, pif, pg⟩, table⟩ := r
  show Calls Try.prog 18 #[.agg #[.bool pass, .bool ret, .bool quick, .string on, .int .i64 proto, .bool sany, .string stab, .int .u32 sa, .int .i64 sn, .int .i64 slo, .int .i64 shi, .bool dany, .string dtab, .int .u32 da, .int .i64 dn, .int .i64 dlo, .int .i64 dhi, .int .i64 set, .int .i64 mask, .int .i64 type, .bool keep, .bool ton, .string tif, .int .u32 tg, .bool pon, .string pif, .int .u32 pg, .int .i64 table], .int .i64 x] w _
  unfold weighV
  dsimp only at *
  obtain ⟨W, hW⟩ : ∃ W, w.alloc (.cells #[.bool pass, .bool ret, .bool quick, .string on, .int .i64 proto, .bool sany, .string stab, .int .u32 sa, .int .i64 sn, .int .i64 slo, .int .i64 shi, .bool dany, .string dtab, .int .u32 da, .int .i64 dn, .int .i64 dlo, .int .i64 dhi, .int .i64 set, .int .i64 mask, .int .i64 type, .bool keep, .bool ton, .string tif, .int .u32 tg, .bool pon, .string pif, .int .u32 pg, .int .i64 table] 43) = W := ⟨_, rfl⟩
  have hx0 : Ext w W := hW ▸ (Ext.refl w).alloc _
  have x3 : ∀ w', Ext W w' → w'.cell? ⟨w.heap.size, 3, none⟩ = some (.string on) := hW ▸ boxK w #[.bool pass, .bool ret, .bool quick, .string on, .int .i64 proto, .bool sany, .string stab, .int .u32 sa, .int .i64 sn, .int .i64 slo, .int .i64 shi, .bool dany, .string dtab, .int .u32 da, .int .i64 dn, .int .i64 dlo, .int .i64 dhi, .int .i64 set, .int .i64 mask, .int .i64 type, .bool keep, .bool ton, .string tif, .int .u32 tg, .bool pon, .string pif, .int .u32 pg, .int .i64 table] 43 3
  have x6 : ∀ w', Ext W w' → w'.cell? ⟨w.heap.size, 6, none⟩ = some (.string stab) := hW ▸ boxK w #[.bool pass, .bool ret, .bool quick, .string on, .int .i64 proto, .bool sany, .string stab, .int .u32 sa, .int .i64 sn, .int .i64 slo, .int .i64 shi, .bool dany, .string dtab, .int .u32 da, .int .i64 dn, .int .i64 dlo, .int .i64 dhi, .int .i64 set, .int .i64 mask, .int .i64 type, .bool keep, .bool ton, .string tif, .int .u32 tg, .bool pon, .string pif, .int .u32 pg, .int .i64 table] 43 6
  have x12 : ∀ w', Ext W w' → w'.cell? ⟨w.heap.size, 12, none⟩ = some (.string dtab) := hW ▸ boxK w #[.bool pass, .bool ret, .bool quick, .string on, .int .i64 proto, .bool sany, .string stab, .int .u32 sa, .int .i64 sn, .int .i64 slo, .int .i64 shi, .bool dany, .string dtab, .int .u32 da, .int .i64 dn, .int .i64 dlo, .int .i64 dhi, .int .i64 set, .int .i64 mask, .int .i64 type, .bool keep, .bool ton, .string tif, .int .u32 tg, .bool pon, .string pif, .int .u32 pg, .int .i64 table] 43 12
  have x22 : ∀ w', Ext W w' → w'.cell? ⟨w.heap.size, 22, none⟩ = some (.string tif) := hW ▸ boxK w #[.bool pass, .bool ret, .bool quick, .string on, .int .i64 proto, .bool sany, .string stab, .int .u32 sa, .int .i64 sn, .int .i64 slo, .int .i64 shi, .bool dany, .string dtab, .int .u32 da, .int .i64 dn, .int .i64 dlo, .int .i64 dhi, .int .i64 set, .int .i64 mask, .int .i64 type, .bool keep, .bool ton, .string tif, .int .u32 tg, .bool pon, .string pif, .int .u32 pg, .int .i64 table] 43 22
  have x25 : ∀ w', Ext W w' → w'.cell? ⟨w.heap.size, 25, none⟩ = some (.string pif) := hW ▸ boxK w #[.bool pass, .bool ret, .bool quick, .string on, .int .i64 proto, .bool sany, .string stab, .int .u32 sa, .int .i64 sn, .int .i64 slo, .int .i64 shi, .bool dany, .string dtab, .int .u32 da, .int .i64 dn, .int .i64 dlo, .int .i64 dhi, .int .i64 set, .int .i64 mask, .int .i64 type, .bool keep, .bool ton, .string tif, .int .u32 tg, .bool pon, .string pif, .int .u32 pg, .int .i64 table] 43 25
  have hv := Ext.refl W
  go_enter Try.func18, Try.ntmps18
  go_wp2
  go_ret
  exact ⟨rfl, hx0⟩

theorem wrap_i (n : Int) : IntKind.i64.wrap n = wrap64 n := by rw [IntKind.wrap_i64]; unfold Go.RowKit.wrap64; rfl

/-- Rules and tables, weighed. -/
def heavyR : List RuleV → Int → Int
  | [], n => n
  | r :: L, n => if n < 0 then n else heavyR L (weighV r n)

def tabV (z : NmV) (n : Int) : Int := wrap64 (wrap64 (wrap64 (n - 10) - (z.name.size : Int)) - wrap64 (4 * (z.n : Int)))

def heavyT : List NmV → Int → Int
  | [], n => n
  | z :: T, n => if n < 0 then n else heavyT T (tabV z n)

theorem heavyR_at {L : List RuleV} {k : Nat} {r : RuleV} (h : L[k]? = some r) {n : Int} (hn : 0 ≤ n) : heavyR (L.drop k) n = heavyR (L.drop (k + 1)) (weighV r n) := by
  obtain ⟨hk, rfl⟩ := List.getElem?_eq_some_iff.1 h
  rw [List.drop_eq_getElem_cons hk]
  show (if n < 0 then n else _) = _
  rw [if_neg (by omega)]

theorem heavyR_neg (L : List RuleV) {n : Int} (hn : n < 0) : heavyR L n = n := by
  cases L with
  | nil => rfl
  | cons r L => show (if n < 0 then n else _) = _; rw [if_pos hn]

theorem heavyT_at {T : List NmV} {k : Nat} {z : NmV} (h : T[k]? = some z) {n : Int} (hn : 0 ≤ n) : heavyT (T.drop k) n = heavyT (T.drop (k + 1)) (tabV z n) := by
  obtain ⟨hk, rfl⟩ := List.getElem?_eq_some_iff.1 h
  rw [List.drop_eq_getElem_cons hk]
  show (if n < 0 then n else _) = _
  rw [if_neg (by omega)]

theorem heavyT_neg (T : List NmV) {n : Int} (hn : n < 0) : heavyT T n = n := by
  cases T with
  | nil => rfl
  | cons z T => show (if n < 0 then n else _) = _; rw [if_pos hn]

def NameOk (T : List NmV) : Prop := ∀ z ∈ T, z.name.size ≤ 9223372036854775807

set_option maxHeartbeats 4000000 in
theorem heavy_any (q : Option Addr) (m cm : Nat) (L : List RuleV) (p : Option Addr) (n c : Nat) (T : List NmV) (w : World) (hL : RdL w q m L) (hI : ∀ r ∈ L, RuIn r) (hR : RdN w p n T) (hN : NameOk T) :
    Calls Try.prog 8 #[.slice q m cm, .slice p n c] w fun e w' => e = .returned (.bool (decide (heavyT T (heavyR L 4000) < 0))) ∧ Ext w w' := by
  have HL : Hid (RdL w q m L) := hL
  have HR : Hid (RdN w p n T) := hR
  have HI : Hid (∀ r ∈ L, ∀ x w', Calls Try.prog 18 #[.agg (ruleL r).toArray, .int .i64 x] w' fun e w2 => e = .returned (.int .i64 (weighV r x)) ∧ Ext w' w2) := fun r hr x w' => weigh_any r (hI r hr) x w'
  have HN : Hid (NameOk T) := hN
  have HM : Hid (L.length = m) := hL.row.len
  have HM2 : Hid (T.length = n) := hR.row.len
  have hm := hL.le
  have hn := hR.le
  obtain ⟨y1, hy1⟩ : ∃ y, heavyR L 4000 = y := ⟨_, rfl⟩
  rw [hy1]
  obtain ⟨y2, hy2⟩ : ∃ y, heavyT T y1 = y := ⟨_, rfl⟩
  rw [hy2]
  have HY1 : Hid (heavyR (L.drop 0) 4000 = y1) := hy1
  have HY2 : Hid (heavyT (T.drop 0) y1 = y2) := hy2
  clear hL hR hI hN hy1 hy2
  go_enter Try.func8, Try.ntmps8
  go_upto_block 0 with fail
  go_cut [5] from 6 to 23 (fun v5 wx => v5 = .int .i64 y1 ∧ Ext w wx)
  case first =>
    go_wp2_with fail
    go_loopg [5, 6] m (fun kx s5 s6 wr => ∃ (j : Nat) (x : Int), s5 = .int .i64 x ∧ s6 = .int .i64 (j : Int) ∧ j ≤ m ∧ m - j ≤ kx ∧ Ext w wr ∧ Hid (heavyR (L.drop j) x = y1))
    case atStart => exact ⟨0, 4000, rfl, rfl, Nat.zero_le _, Nat.le_refl _, Ext.refl _, HY1⟩
    case round =>
      obtain ⟨j, x, rfl, rfl, hjm, hjx, hx, HA⟩ := hrel
      have out : j = m ∨ x < 0 → Hid (x = y1) := by
        rintro (rfl | h)
        · have h := HA.out; rw [List.drop_eq_nil_of_le (by rw [HM.out]; exact Nat.le_refl _)] at h; exact h
        · have h2 := HA.out; rw [heavyR_neg _ h] at h2; exact h2
      by_cases hin : j < m ∧ 0 ≤ x
      · obtain ⟨hlt, h0x⟩ := hin
        obtain ⟨r, hr⟩ : ∃ r, L[j]? = some r := ⟨_, List.getElem?_eq_getElem (by rw [HM.out]; omega)⟩
        have hc := HI.out r (List.mem_of_getElem? hr) x
        obtain ⟨b, off, rfl, hb, hg⟩ := (HL.out.ext hx).row.get hr
        have hr0 := hg _ (Ext.refl wr)
        have HZ : Hid (heavyR (L.drop (j + 1)) (weighV r x) = y1) := by rw [← heavyR_at hr h0x]; exact HA.out
        have hji : (j : Int) < (m : Int) := by omega
        generalize weighV r x = x2 at *
        have lr := ruleL_len r
        generalize ruleL r = cr at *
        clear hr hb hg out
        go_wp2_with (first
          | (go_at_call 18; refine (hc _).mono ?_; rintro e w3 ⟨rfl, hx3⟩; clear hr0)
          | (refine wpl_range (by rfl) 43 _ rfl b (off + j * 28) _ _ rfl hr0 Try.underlying43 rfl (by rw [lr]; exact rule_size) ?_))
        go_roundg (m - (j + 1))
        case measure => omega
        case rel => exact ⟨j + 1, x2, rfl, by go_num, by omega, Nat.le_refl _, hx.trans hx3, HZ⟩
      · have HX : Hid (x = y1) := out (by omega)
        by_cases hlt : j < m
        · have hji : (j : Int) < (m : Int) := by omega
          have h0x : ¬ 0 ≤ x := by omega
          have h1x : x < 0 := by omega
          clear hin out
          go_wp2_with fail
          go_meet
          exact ⟨by rw [HX.out], hx⟩
        · have hji : ¬ (j : Int) < (m : Int) := by omega
          clear hin out
          go_wp2_with fail
          go_meet
          exact ⟨by rw [HX.out], hx⟩
  case rest =>
    obtain ⟨rfl, hx0⟩ := hcut
    replace HR : Hid (RdN wc p n T) := HR.out.ext hx0
    go_wp2_with fail
    go_loopg [5, 7] n (fun kx s5 s7 wr => ∃ (j : Nat) (x : Int), s5 = .int .i64 x ∧ s7 = .int .i64 (j : Int) ∧ j ≤ n ∧ n - j ≤ kx ∧ Ext wc wr ∧ Hid (heavyT (T.drop j) x = y2))
    case atStart => exact ⟨0, y1, rfl, rfl, Nat.zero_le _, Nat.le_refl _, Ext.refl _, HY2⟩
    case round =>
      obtain ⟨j, x, rfl, rfl, hjm, hjx, hx, HA⟩ := hrel
      have out : j = n ∨ x < 0 → Hid (x = y2) := by
        rintro (rfl | h)
        · have h := HA.out; rw [List.drop_eq_nil_of_le (by rw [HM2.out]; exact Nat.le_refl _)] at h; exact h
        · have h2 := HA.out; rw [heavyT_neg _ h] at h2; exact h2
      by_cases hin : j < n ∧ 0 ≤ x
      · obtain ⟨hlt, h0x⟩ := hin
        obtain ⟨z, hz⟩ : ∃ z, T[j]? = some z := ⟨_, List.getElem?_eq_getElem (by rw [HM2.out]; omega)⟩
        obtain ⟨b, off, rfl, hb, hg⟩ := (HR.out.ext hx).row.get hz
        have hn1 := HN.out z (List.mem_of_getElem? hz)
        have hn2 := ((HR.out.ext hx).in_ z (List.mem_of_getElem? hz)).2.1
        have g0 := range_cell hg 0 (.string z.name) rfl
        have g1 := range_cell hg 1 (.slice z.a z.n z.c) rfl
        have HZ : Hid (heavyT (T.drop (j + 1)) (wrap64 (wrap64 (wrap64 (x - 10) - (z.name.size : Int)) - wrap64 (4 * (z.n : Int)))) = y2) := by have h := heavyT_at hz h0x; unfold tabV at h; rw [← h]; exact HA.out
        have hji : (j : Int) < (n : Int) := by omega
        simp only [Nat.add_zero] at g0
        clear hz hb hg out
        go_wp2_with fail
        refine wp_region_eager [(0, false), (1, false), (2, false), (3, false), (4, false), (5, false), (6, false), (7, false), (8, false), (9, false), (10, false), (11, false), (12, false), (13, false), (14, false), (15, false), (16, false), (17, false)] (by kernel_rfl) (by kernel_rfl) rfl (by kernel_rfl) (fun _ _ _ _ _ h => h) (WpH.out ?_)
        have hxd : Ext wr wr.drew := (Ext.refl wr).drew
        replace g0 := later g0 hxd
        replace g1 := later g1 hxd
        generalize wr.drew = W1 at *
        iterate 18 (refine wpH_read (v := ?_) rfl (by rfl) ?_ ?_; rotate_left; (focus (intro w' hx; go_simp; first | done | with_reducible rfl)); simp only [Act.put, List.setIfInBounds_toArray, List.set_cons_zero, List.set_cons_succ])
        refine wpH_done ?_
        clear g0 g1
        go_wp2_with fail
        go_roundg (n - (j + 1))
        case measure => omega
        case rel => exact ⟨j + 1, _, rfl, by go_num, by omega, Nat.le_refl _, hx.trans hxd, by simp only [wrap_i]; exact HZ⟩
      · have HX : Hid (x = y2) := out (by omega)
        by_cases hlt : j < n
        · have hji : (j : Int) < (n : Int) := by omega
          have h0x : ¬ 0 ≤ x := by omega
          have h1x : x < 0 := by omega
          clear hin out
          go_wp2_with fail
          go_ret
          exact ⟨by rw [HX.out, decide_eq_true (show y2 < 0 by rw [← HX.out]; exact h1x)]; rfl, hx0.trans hx⟩
        · have hji : ¬ (j : Int) < (n : Int) := by omega
          clear hin out
          go_wp2_with fail
          go_ret
          exact ⟨by rw [HX.out]; rfl, hx0.trans hx⟩
end Go.Proofs.Ytdkmakjjcfkfaaa.Ma
