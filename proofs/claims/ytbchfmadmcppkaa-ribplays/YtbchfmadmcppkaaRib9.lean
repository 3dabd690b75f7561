/- best, Best. -/
import Derived.Test.YtbchfmadmcppkaaRib8
namespace Go.Proofs.Ytbchfmadmcppkaa.Rb
set_option maxRecDepth 100000
open Go.RowKit Go.Proofs.Ytbchfmadmcppkaa
set_option linter.unusedVariables false
set_option linter.unusedSimpArgs false

theorem rt_size : (Try.prog.info? 27).map (·.size) = some 6 := by kernel_rfl

/-- What best's blocks hold: the result, and what was found. -/
def BestW (w wr : World) (o : Option Rt) : Prop := Ext w wr ∧ wr.heap[w.heap.size]? = some (.cells #[.int .i64 zeroR.t, .int .u32 zeroR.a, .int .i64 zeroR.l, .int .i64 zeroR.i, .int .u32 zeroR.g, .int .i64 zeroR.m] 27 (0, 0)) ∧ wr.heap[w.heap.size + 1]? = some (.cells #[.int .i64 (theR o).t, .int .u32 (theR o).a, .int .i64 (theR o).l, .int .i64 (theR o).i, .int .u32 (theR o).g, .int .i64 (theR o).m] 27 (0, 0))

theorem BestW.ext {w wr w' : World} {o : Option Rt} (h : BestW w wr o) (hx : Ext wr w') : BestW w w' o := ⟨h.1.trans hx, hx.heap h.2.1, hx.heap h.2.2⟩

theorem BestW.put {w wr w' : World} {o : Option Rt} {x : Rt} (h : BestW w wr o) (hx : ExtX (w.heap.size + 1) wr w') (hc : w'.heap[w.heap.size + 1]? = some (.cells #[.int .i64 x.t, .int .u32 x.a, .int .i64 x.l, .int .i64 x.i, .int .u32 x.g, .int .i64 x.m] 27 (0, 0))) : BestW w w' (some x) :=
  ⟨ExtX.ext h.1 hx (by omega), (hx.block _ (heap_lt h.2.1) (by omega)).trans h.2.1, hc⟩

theorem BestW.new (w : World) : BestW w ((w.alloc (.cells #[.int .i64 zeroR.t, .int .u32 zeroR.a, .int .i64 zeroR.l, .int .i64 zeroR.i, .int .u32 zeroR.g, .int .i64 zeroR.m] 27)).alloc (.cells #[.int .i64 zeroR.t, .int .u32 zeroR.a, .int .i64 zeroR.l, .int .i64 zeroR.i, .int .u32 zeroR.g, .int .i64 zeroR.m] 27)) none := by
  obtain ⟨h1, h2, h3⟩ := two_boxes w #[.int .i64 zeroR.t, .int .u32 zeroR.a, .int .i64 zeroR.l, .int .i64 zeroR.i, .int .u32 zeroR.g, .int .i64 zeroR.m] #[.int .i64 zeroR.t, .int .u32 zeroR.a, .int .i64 zeroR.l, .int .i64 zeroR.i, .int .u32 zeroR.g, .int .i64 zeroR.m] 27
  exact ⟨h1, h2, h3⟩

def BestAns (w : World) (o : Option Rt) (e : Ending) (w' : World) : Prop := e = .returned (.tuple #[(.agg #[.int .i64 (theR o).t, .int .u32 (theR o).a, .int .i64 (theR o).l, .int .i64 (theR o).i, .int .u32 (theR o).g, .int .i64 (theR o).m]), .bool o.isSome]) ∧ Ext w w'

set_option maxHeartbeats 2000000 in
theorem best_any (p : Option Addr) (n c : Nat) (L : List Rt) (q : Option Addr) (m d : Nat) (U : List Bool) (w : World) (hR : Rd w p n c L) (hn : n ≤ 1000000) (hU : Ups w q m U) (h0 : ∀ x ∈ L, 0 ≤ x.i) :
    Calls Try.prog 34 #[.slice p n c, .slice q m d] w (BestAns w (bestL U L)) := by
  have HR : Hid (Rd w p n c L) := hR
  have HL : Hid (L.length = n) := hR.len
  have HU : Hid (Ups w q m U) := hU
  have H0 : Hid _ := h0
  have HB : Hid _ := BestW.new w
  clear hR hU h0
  go_enter Try.func34, Try.ntmps34
  go_wp2_with fail
  go_loopg [7, 12] n (fun kx s7 s12 wr => ∃ k : Nat, s12 = .int .i64 k ∧ s7 = .bool (bestL U (L.take k)).isSome ∧ k ≤ n ∧ n - k ≤ kx ∧ Hid (BestW w wr (bestL U (L.take k))))
  case atStart => exact ⟨0, rfl, rfl, Nat.zero_le _, by omega, HB⟩
  case round =>
    obtain ⟨k, rfl, rfl, hkn, hkx, HW⟩ := hrel
    clear HB
    by_cases hlt : k < n
    · obtain ⟨x, hxk⟩ : ∃ x, L[k]? = some x := ⟨_, List.getElem?_eq_getElem (by rw [HL.out]; omega)⟩
      have hx0 : 0 ≤ x.i := H0.out x (List.mem_of_getElem? hxk)
      have hst := bestL_take (U := U) hxk
      obtain ⟨b, off, rfl, hb, g0, g1, g2, g3, g4, g5⟩ := (HR.out.ext HW.out.1).cell hxk
      generalize bestL U (L.take k) = o at *
      generalize hO' : bestL U (L.take (k + 1)) = o' at hst
      have HO' : Hid _ := hO'
      clear hO'
      have hA : Ext wr (wr.alloc (.cells #[.int .i64 x.t, .int .u32 x.a, .int .i64 x.l, .int .i64 x.i, .int .u32 x.g, .int .i64 x.m] 27)) := (Ext.refl wr).alloc _
      have HX : Hid _ := box_rtE (heap_new wr (.cells #[.int .i64 x.t, .int .u32 x.a, .int .i64 x.l, .int .i64 x.i, .int .u32 x.g, .int .i64 x.m] 27))
      have ku := fun w' (hx : Ext w w') => isUp_any x q m d U w' (HU.out.ext hx) hx0
      have hki : (k : Int) < (n : Int) := by omega
      have HE : Hid (Ext w wr) := HW.out.1
      have W1 : Hid (BestW w (wr.alloc (.cells #[.int .i64 x.t, .int .u32 x.a, .int .i64 x.l, .int .i64 x.i, .int .u32 x.g, .int .i64 x.m] 27)) o) := HW.out.ext hA
      obtain ⟨a0, a1, a2, a3, a4, a5⟩ := HX.out
      have y0 := a0 _ (Ext.refl _)
      have y1 := a1 _ (Ext.refl _)
      have y2 := a2 _ (Ext.refl _)
      have y3 := a3 _ (Ext.refl _)
      have y4 := a4 _ (Ext.refl _)
      have y5 := a5 _ (Ext.refl _)
      cases hu : upB U x.i with
      | false =>
        have ho : o' = o := by rw [hst]; unfold stepB; rw [hu]; simp
        rw [hu] at ku
        clear hst hu hxk
        go_wp2_with (go_at_call 46; refine (ku _ (HE.out.trans hA)).mono ?_; rintro e w2 ⟨rfl, hx2⟩)
        go_roundg (n - (k + 1))
        case measure => omega
        case rel => exact ⟨k + 1, by go_num, by rw [HO'.out, ho], by omega, Nat.le_refl _, (by rw [HO'.out, ho]; exact W1.out.ext hx2 : BestW w w2 (bestL U (L.take (k + 1))))⟩
      | true =>
        rw [hu] at ku
        cases o with
        | none =>
          have ho : o' = some x := by rw [hst]; unfold stepB okB; rw [hu]; simp
          clear hst hu hxk
          go_wp2_with (first
            | (go_at_call 46; refine (ku _ (HE.out.trans hA)).mono ?_; rintro e w2 ⟨rfl, hx2⟩; have W2 : Hid (BestW w w2 none) := W1.out.ext hx2; have u0 := a0 _ hx2; have u1 := a1 _ hx2; have u2 := a2 _ hx2; have u3 := a3 _ hx2; have u4 := a4 _ hx2; have u5 := a5 _ hx2)
            | (refine wpl_store (by rfl) 27 _ _ rfl rfl 6 (w.heap.size + 1) #[.int .i64 x.t, .int .u32 x.a, .int .i64 x.l, .int .i64 x.i, .int .u32 x.g, .int .i64 x.m] _ _ rfl rfl W2.out.2.2 rt_size rfl rfl (by simp [Value.oneCell']) ?_; intro w5 hx5 k5))
          go_roundg (n - (k + 1))
          case measure => omega
          case rel => exact ⟨k + 1, by go_num, by rw [HO'.out, ho]; rfl, by omega, Nat.le_refl _, (by rw [HO'.out, ho]; exact W2.out.put hx5 k5 : BestW w w5 (bestL U (L.take (k + 1))))⟩
        | some z =>
          have kb := fun w => better_any x z w
          cases hbt : betB x z with
          | true =>
            rw [hbt] at kb
            have ho : o' = some x := by rw [hst]; unfold stepB okB; rw [hu]; simp [hbt]
            clear hst hu hbt hxk
            go_wp2_with (first
              | (go_at_call 46; refine (ku _ (HE.out.trans hA)).mono ?_; rintro e w2 ⟨rfl, hx2⟩; have W2 : Hid (BestW w w2 (some z)) := W1.out.ext hx2; have u0 := a0 _ hx2; have u1 := a1 _ hx2; have u2 := a2 _ hx2; have u3 := a3 _ hx2; have u4 := a4 _ hx2; have u5 := a5 _ hx2; obtain ⟨z0, z1, z2, z3, z4, z5⟩ := box_rtE W2.out.2.2; have f0 := z0 _ (Ext.refl _); have f1 := z1 _ (Ext.refl _); have f2 := z2 _ (Ext.refl _); have f3 := z3 _ (Ext.refl _); have f4 := z4 _ (Ext.refl _); have f5 := z5 _ (Ext.refl _); clear z0 z1 z2 z3 z4 z5)
              | (go_at_call 21; refine (kb _).mono ?_; rintro e w3 ⟨rfl, hx3⟩; have W3 : Hid (BestW w w3 (some z)) := W2.out.ext hx3; replace hx2 := hx2.trans hx3; clear u0 u1 u2 u3 u4 u5; have u0 := a0 _ hx2; have u1 := a1 _ hx2; have u2 := a2 _ hx2; have u3 := a3 _ hx2; have u4 := a4 _ hx2; have u5 := a5 _ hx2)
              | (refine wpl_store (by rfl) 27 _ _ rfl rfl 6 (w.heap.size + 1) #[.int .i64 x.t, .int .u32 x.a, .int .i64 x.l, .int .i64 x.i, .int .u32 x.g, .int .i64 x.m] _ _ rfl rfl W3.out.2.2 rt_size rfl rfl (by simp [Value.oneCell']) ?_; intro w5 hx5 k5))
            go_roundg (n - (k + 1))
            case measure => omega
            case rel => exact ⟨k + 1, by go_num, by rw [HO'.out, ho]; rfl, by omega, Nat.le_refl _, (by rw [HO'.out, ho]; exact W3.out.put hx5 k5 : BestW w w5 (bestL U (L.take (k + 1))))⟩
          | false =>
            rw [hbt] at kb
            have ho : o' = some z := by rw [hst]; unfold stepB okB; rw [hu]; simp [hbt]
            clear hst hu hbt hxk
            go_wp2_with (first
              | (go_at_call 46; refine (ku _ (HE.out.trans hA)).mono ?_; rintro e w2 ⟨rfl, hx2⟩; have W2 : Hid (BestW w w2 (some z)) := W1.out.ext hx2; have u0 := a0 _ hx2; have u1 := a1 _ hx2; have u2 := a2 _ hx2; have u3 := a3 _ hx2; have u4 := a4 _ hx2; have u5 := a5 _ hx2; obtain ⟨z0, z1, z2, z3, z4, z5⟩ := box_rtE W2.out.2.2; have f0 := z0 _ (Ext.refl _); have f1 := z1 _ (Ext.refl _); have f2 := z2 _ (Ext.refl _); have f3 := z3 _ (Ext.refl _); have f4 := z4 _ (Ext.refl _); have f5 := z5 _ (Ext.refl _); clear z0 z1 z2 z3 z4 z5)
              | (go_at_call 21; refine (kb _).mono ?_; rintro e w3 ⟨rfl, hx3⟩; have W3 : Hid (BestW w w3 (some z)) := W2.out.ext hx3))
            go_roundg (n - (k + 1))
            case measure => omega
            case rel => exact ⟨k + 1, by go_num, by rw [HO'.out, ho]; rfl, by omega, Nat.le_refl _, (by rw [HO'.out, ho]; exact W3.out : BestW w w3 (bestL U (L.take (k + 1))))⟩
    · obtain rfl : k = n := by omega
      rw [List.take_of_length_le (by rw [HL.out]; exact Nat.le_refl _)] at *
      generalize bestL U L = o at *
      obtain ⟨z0, z1, z2, z3, z4, z5⟩ := box_rtE HW.out.2.2
      have f0 := z0 _ (Ext.refl _)
      have f1 := z1 _ (Ext.refl _)
      have f2 := z2 _ (Ext.refl _)
      have f3 := z3 _ (Ext.refl _)
      have f4 := z4 _ (Ext.refl _)
      have f5 := z5 _ (Ext.refl _)
      clear z0 z1 z2 z3 z4 z5
      go_wp2_with (refine wpl_store (by rfl) 27 _ _ rfl rfl 6 w.heap.size #[.int .i64 (theR o).t, .int .u32 (theR o).a, .int .i64 (theR o).l, .int .i64 (theR o).i, .int .u32 (theR o).g, .int .i64 (theR o).m] _ _ rfl rfl HW.out.2.1 rt_size rfl rfl (by simp [Value.oneCell']) ?_; intro w5 hx5 k5)
      exact bodyPost_ret (results_two Try.results34 _ rfl k5 Try.underlying27 rfl rt_size) rfl ⟨rfl, ExtX.ext HW.out.1 hx5 (Nat.le_refl _)⟩
end Go.Proofs.Ytbchfmadmcppkaa.Rb
