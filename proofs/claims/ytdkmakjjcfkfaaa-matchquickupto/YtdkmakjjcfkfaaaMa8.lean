/- The document's In, Side. -/
import Derived.Test.YtdkmakjjcfkfaaaMa7
import Derived.Test.YtdkmakjjcfkfaaaRef3
namespace Go.Proofs.Ytdkmakjjcfkfaaa.Ma
open Go.RowKit Go.Proofs.Ytdkmakjjcfkfaaa Go.Proofs.Ytdkmakjjcfkfaaa.Ru
set_option linter.unusedVariables false
set_option linter.unusedSimpArgs false
set_option maxRecDepth 100000

theorem inT_skip {T : List NmV} {name : ByteArray} {a : Int} {j : Nat} {z : NmV} (h : T[j]? = some z) (hz : isT name z = false) : inT (T.drop j) name a = inT (T.drop (j + 1)) name a := by
  obtain ⟨hj, rfl⟩ := List.getElem?_eq_some_iff.1 h
  rw [List.drop_eq_getElem_cons hj]
  unfold inT
  rw [List.find?_cons, hz]

theorem inT_here {T : List NmV} {name : ByteArray} {a : Int} {j : Nat} {z : NmV} (h : T[j]? = some z) (hz : isT name z = true) : inT (T.drop j) name a = anyV z.L a := by
  obtain ⟨hj, rfl⟩ := List.getElem?_eq_some_iff.1 h
  rw [List.drop_eq_getElem_cons hj]
  unfold inT
  rw [List.find?_cons, hz]

theorem inT_end {T : List NmV} {name : ByteArray} {a : Int} {j : Nat} (h : T.length ≤ j) : inT (T.drop j) name a = false := by
  rw [List.drop_eq_nil_of_le h]; rfl

set_option maxHeartbeats 2000000 in
theorem refIn_any (p : Option Addr) (n c : Nat) (T : List NmV) (name : ByteArray) (a : Int) (w : World) (hR : RdN w p n T) (a0 : 0 ≤ a) (a1 : a ≤ 4294967295) :
    Calls Try.prog 21 #[.slice p n c, .string name, .int .u32 a] w fun e w' => e = .returned (.bool (inT T name a)) ∧ Ext w w' := by
  have HR : Hid (RdN w p n T) := hR
  have HM : Hid (T.length = n) := hR.row.len
  have hn := hR.le
  have ch := fun x0 n0 w h0 h1 => refHas_any x0 n0 a w h0 h1 a0 a1
  obtain ⟨y, hy⟩ : ∃ y, inT T name a = y := ⟨_, rfl⟩
  rw [hy]
  have HY : Hid (inT (T.drop 0) name a = y) := hy
  clear hR hy
  go_enter Try.func21, Try.ntmps21
  go_wp2_with fail
  go_loopg [7] n (fun kx s7 wr => ∃ j : Nat, s7 = .int .i64 (j : Int) ∧ j ≤ n ∧ n - j ≤ kx ∧ Ext w wr ∧ Hid (inT (T.drop j) name a = y))
  case atStart => exact ⟨0, rfl, Nat.zero_le _, Nat.le_refl _, Ext.refl _, HY⟩
  case round =>
    obtain ⟨j, rfl, hjn, hjx, hx, HA⟩ := hrel
    by_cases hlt : j < n
    · obtain ⟨z, hz⟩ : ∃ z, T[j]? = some z := ⟨_, List.getElem?_eq_getElem (by rw [HM.out]; omega)⟩
      have HT : Hid (T[j]? = some z) := hz
      obtain ⟨HP, hzn, HPO⟩ := HR.out.in_ z (List.mem_of_getElem? hz)
      replace HP : Hid (RdPX w z.a z.n z.L) := HP
      replace HPO : Hid (PxOk z.L) := HPO
      obtain ⟨b, off, rfl, hb, hg⟩ := (HR.out.ext hx).row.get hz
      have g0 := range_cell hg 0 (.string z.name) rfl
      have g1 := range_cell hg 1 (.slice z.a z.n z.c) rfl
      have g0w := g0 wr (Ext.refl wr)
      have G1 : Hid _ := g1
      have hji : (j : Int) < (n : Int) := by omega
      rw [Nat.add_zero] at g0w
      clear hz hg hb g0 g1
      cases hf : z.name.toList == name.toList with
      | false =>
        have HZ : Hid (inT (T.drop (j + 1)) name a = y) := by rw [← inT_skip HT.out hf]; exact HA.out
        go_wp2_with fail
        go_roundg (n - (j + 1))
        case measure => omega
        case rel => exact ⟨j + 1, by go_num, by omega, Nat.le_refl _, hx, HZ⟩
      | true =>
        have HZ : Hid (anyV z.L a = y) := by rw [← inT_here HT.out hf]; exact HA.out
        have HN : Hid (z.L.length = z.n) := HP.out.len
        generalize wr = wo at *
        go_wp2_with fail
        go_loopg [8] z.n (fun kx s8 wr => ∃ k : Nat, s8 = .int .i64 (k : Int) ∧ k ≤ z.n ∧ z.n - k ≤ kx ∧ Ext wo wr ∧ Hid (anyV (z.L.take k) a = false))
        case atStart => exact ⟨0, rfl, Nat.zero_le _, Nat.le_refl _, Ext.refl _, (rfl : anyV (z.L.take 0) a = false)⟩
        case round =>
          obtain ⟨k, rfl, hkn, hkx, hx2, HB⟩ := hrel
          have g1w := G1.out wr hx2
          by_cases hlt2 : k < z.n
          · obtain ⟨⟨x0, x1⟩, hxk⟩ : ∃ x, z.L[k]? = some x := ⟨_, List.getElem?_eq_getElem (by rw [HN.out]; omega)⟩
            have HTk : Hid (anyV (z.L.take (k + 1)) a = (anyV (z.L.take k) a || hasV x0 x1 a)) := any_take hxk
            have hok := HPO.out _ (List.mem_of_getElem? hxk)
            have hc := fun w => ch x0 x1 w hok.1 hok.2
            obtain ⟨b2, off2, hza, hb2, hg2⟩ := (HP.out.ext (hx.trans hx2)).get hxk
            have hr := hg2 _ (Ext.refl wr)
            rw [hza] at g1w
            have hki : (k : Int) < (z.n : Int) := by omega
            clear hxk hb2 hg2 hza
            cases hh : hasV x0 x1 a with
            | true =>
              rw [hh] at hc
              have HW : Hid (true = y) := (any_in (L := z.L) (f := fun x => hasV x.1 x.2 a) (k := k) (x := (x0, x1)) HTk.out hh).symm.trans HZ.out
              clear hh
              go_wp2_with (first | (refine wpl_range (by rfl) 32 _ rfl b2 (off2 + k * 2) _ _ rfl hr Try.underlying32 rfl px_size ?_) | (go_at_call 22; refine (hc _).mono ?_; rintro e w1 ⟨rfl, hx1⟩))
              go_ret
              exact ⟨by rw [HW.out]; rfl, hx.trans (hx2.trans hx1)⟩
            | false =>
              rw [hh] at hc
              have HW : Hid (anyV (z.L.take (k + 1)) a = false) := by have h := HTk.out; rw [HB.out, hh] at h; exact h
              clear hh
              go_wp2_with (first | (refine wpl_range (by rfl) 32 _ rfl b2 (off2 + k * 2) _ _ rfl hr Try.underlying32 rfl px_size ?_) | (go_at_call 22; refine (hc _).mono ?_; rintro e w1 ⟨rfl, hx1⟩))
              go_roundg (z.n - (k + 1))
              case measure => omega
              case rel => exact ⟨k + 1, by go_num, by omega, Nat.le_refl _, hx2.trans hx1, HW⟩
          · obtain rfl : k = z.n := by omega
            have HW : Hid (false = y) := by
              have h := HB.out
              rw [List.take_of_length_le (by rw [HN.out]; exact Nat.le_refl _)] at h
              exact h.symm.trans HZ.out
            go_wp2_with fail
            go_ret
            exact ⟨by rw [HW.out]; rfl, hx.trans hx2⟩
    · obtain rfl : j = n := by omega
      have HZ : Hid (false = y) := (inT_end (by rw [HM.out]; exact Nat.le_refl _)).symm.trans HA.out
      go_wp2_with fail
      go_ret
      exact ⟨by rw [HZ.out]; rfl, hx⟩

set_option maxHeartbeats 1000000 in
theorem refSide_any (s : SideV) (p : Option Addr) (n c : Nat) (T : List NmV) (a port : Int) (w : World) (hR : RdN w p n T) (s0 : 0 ≤ s.a) (s1 : s.a ≤ 4294967295) (a0 : 0 ≤ a) (a1 : a ≤ 4294967295) :
    Calls Try.prog 15 #[.agg (sideL s).toArray, .slice p n c, .int .u32 a, .int .i64 port] w fun e w' => e = .returned (.bool (sideV s T a port)) ∧ Ext w w' := by
  obtain ⟨any, tab, sa, sn, lo, hi⟩ := s
  show Calls Try.prog 15 #[.agg #[.bool any, .string tab, .int .u32 sa, .int .i64 sn, .int .i64 lo, .int .i64 hi], .slice p n c, .int .u32 a, .int .i64 port] w fun e w' => e = .returned (.bool (decide (lo ≤ port) && decide (port ≤ hi) && (any || if tab.toList == [] then hasV sa sn a else inT T tab a))) ∧ Ext w w'
  dsimp only at s0 s1
  obtain ⟨W, hW⟩ : ∃ W, w.alloc (.cells #[.bool any, .string tab, .int .u32 sa, .int .i64 sn, .int .i64 lo, .int .i64 hi] 36) = W := ⟨_, rfl⟩
  have hx0 : Ext w W := hW ▸ (Ext.refl w).alloc _
  have hb : W.heap[w.heap.size]? = some (.cells #[.bool any, .string tab, .int .u32 sa, .int .i64 sn, .int .i64 lo, .int .i64 hi] 36 (0, 0)) := hW ▸ heap_new w _
  have y0 : W.cell? ⟨w.heap.size, 0, none⟩ = some (.bool any) := heap_cell hb
  have y1 : W.cell? ⟨w.heap.size, 1, none⟩ = some (.string tab) := heap_cell hb
  have y2 : W.cell? ⟨w.heap.size, 2, none⟩ = some (.int .u32 sa) := heap_cell hb
  have y3 : W.cell? ⟨w.heap.size, 3, none⟩ = some (.int .i64 sn) := heap_cell hb
  have y4 : W.cell? ⟨w.heap.size, 4, none⟩ = some (.int .i64 lo) := heap_cell hb
  have y5 : W.cell? ⟨w.heap.size, 5, none⟩ = some (.int .i64 hi) := heap_cell hb
  have ci := refIn_any p n c T tab a W (hR.ext hx0) a0 a1
  have ch := fun w => refHas_any sa sn a w s0 s1 a0 a1
  generalize inT T tab a = yi at *
  generalize hasV sa sn a = yh at *
  generalize hz : (tab.toList == []) = z at *
  clear hb hR
  by_cases h1 : lo ≤ port
  · by_cases h2 : port ≤ hi
    · rw [decide_eq_true h1, decide_eq_true h2, Bool.true_and, Bool.true_and]
      cases any with
      | true =>
        rw [Bool.true_or]
        go_enter Try.func15, Try.ntmps15
        go_wp2
        go_ret
        exact ⟨rfl, hx0⟩
      | false =>
        cases z with
        | true =>
          rw [show (false || if true = true then yh else yi) = yh from rfl]
          go_enter Try.func15, Try.ntmps15
          go_wp2_with (go_at_call 22; refine (ch _).mono ?_; rintro e w1 ⟨rfl, hx1⟩)
          go_ret
          exact ⟨rfl, hx0.trans hx1⟩
        | false =>
          rw [show (false || if false = true then yh else yi) = yi from rfl]
          go_enter Try.func15, Try.ntmps15
          go_wp2_with (go_at_call 21; refine ci.mono ?_; rintro e w1 ⟨rfl, hx1⟩)
          go_ret
          exact ⟨rfl, hx0.trans hx1⟩
    · rw [decide_eq_false h2, Bool.and_false, Bool.false_and]
      go_enter Try.func15, Try.ntmps15
      go_wp2
      go_ret
      exact ⟨rfl, hx0⟩
  · rw [decide_eq_false h1, Bool.false_and, Bool.false_and]
    go_enter Try.func15, Try.ntmps15
    go_wp2
    go_ret
    exact ⟨rfl, hx0⟩
end Go.Proofs.Ytdkmakjjcfkfaaa.Ma
