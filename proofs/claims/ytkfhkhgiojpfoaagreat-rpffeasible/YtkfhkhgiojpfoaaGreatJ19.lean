/- Texts joined by a program: Fib3, Fib4, Fib2, Fib5. -/
import Derived.Test.YtkfhkhgiojpfoaaGreatJ15
import Derived.Test.YtkfhkhgiojpfoaaGreatJ17
import Derived.Test.YtkfhkhgiojpfoaaGreatJ18
namespace Go.Proofs.YtkfhkhgiojpfoaaGreat.Fb

set_option maxRecDepth 100000

open Go.RowKit Go.Proofs.YtkfhkhgiojpfoaaGreat Go.Proofs.YtkfhkhgiojpfoaaGreat.Rb

open Go.Proofs.YtkfhkhgiojpfoaaGreat.Tri (PX Vp)

open Go.Proofs.YtkfhkhgiojpfoaaGreat.Dr (keyV)

set_option linter.unusedVariables false

set_option linter.unusedSimpArgs false

/-- Where blocks stands: the map, the way that is looked at. -/
structure BlkW (w wq : World) (mb wb : Nat) (x : Rt) (M : List PX) : Prop where
  ext : Ext w wq
  map : MapI wq mb M
  box : wq.heap[wb]? = some (.cells #[.int .i64 x.t, .int .u32 x.a, .int .i64 x.l, .int .i64 x.i, .int .u32 x.g, .int .i64 x.m] 48 (0, 0))
  new : w.heap.size ≤ mb

theorem BlkW.ne {w wq : World} {mb wb : Nat} {x : Rt} {M : List PX} (h : BlkW w wq mb wb x M) : wb ∉ [mb] := fun e => by
  obtain ⟨es, c, hm⟩ := h.map
  have h1 := hm.heap
  have h2 := h.box
  rw [List.mem_singleton.1 e, h1] at h2
  cases h2

theorem ext_map {w wq w2 : World} {mb : Nat} (hx : Ext w wq) (hn : w.heap.size ≤ mb) (h : ExtS [mb] wq w2) : Ext w w2 :=
  ExtS.ext ((hx.toS [mb]).trans h) fun b hb => by rw [List.mem_singleton.1 hb]; exact hn

theorem BlkW.step {w wq w2 : World} {mb wb : Nat} {x : Rt} {M M' : List PX} (h : BlkW w wq mb wb x M) (hx : ExtS [mb] wq w2) (hm : MapI w2 mb M') : BlkW w w2 mb wb x M' :=
  ⟨ext_map h.ext h.new hx, hm, hx.heap h.ne h.box, h.new⟩

theorem BlkW.later {w wq w2 : World} {mb wb : Nat} {x : Rt} {M : List PX} (h : BlkW w wq mb wb x M) (hx : Ext wq w2) : BlkW w w2 mb wb x M :=
  ⟨h.ext.trans hx, h.map.later (hx.toS []) (by simp), hx.heap h.box, h.new⟩

def inK (M : List PX) (r : Rt) : Nat → List PX
  | 0 => M
  | 1 => stepK M r 16
  | _ => stepK (stepK M r 16) r 24

theorem ix_two (w : World) : (Instr.index 169 (.agg #[.int .i64 16, .int .i64 24]) (.int .i64 0)).run Tryz.prog w = .ok (.int .i64 16) w ∧ (Instr.index 169 (.agg #[.int .i64 16, .int .i64 24]) (.int .i64 1)).run Tryz.prog w = .ok (.int .i64 24) w := ⟨by kernel_rfl, by kernel_rfl⟩

set_option maxHeartbeats 4000000 in
theorem blocks_any (p : Option Addr) (n c : Nat) (A : List Rt) (w : World) (hR : Rd w p n c A) (hn : n ≤ 1000000) (hv : ∀ x ∈ A, Vp (pxR x)) :
    Calls Tryz.prog 93 #[.slice p n c] w fun e w' => e = .returned (.int .i64 (ownA A : Nat)) ∧ Ext w w' := by
  have HR : Hid (Rd w p n c A) := hR
  have HL : Hid (A.length = n) := hR.len
  have HV : Hid (∀ x ∈ A, Vp (pxR x)) := hv
  have hmm := @run_makeMap Tryz.prog
  have hA0 : Ext w (w.alloc (.map #[] 0)) := (Ext.refl w).alloc _
  have HM0 : Hid (MapI (w.alloc (.map #[] 0)) w.heap.size []) := ⟨#[], 0, heap_new w _, rfl, by simp, by simp, by simp⟩
  clear hR hv
  go_enter Tryz.func93, Tryz.ntmps93
  go_wp2_with fail
  clear hmm
  generalize hmb : w.heap.size = mb at *
  have HMB : Hid (w.heap.size = mb) := hmb
  generalize (w.alloc (.map #[] 0)) = W0 at *
  clear hmb
  go_loopg [11] n (fun kx s11 wr => ∃ k : Nat, s11 = .int .i64 k ∧ k ≤ n ∧ n - k ≤ kx ∧ Hid (Ext w wr ∧ MapI wr mb (keysB A k)))
  case atStart => exact ⟨0, rfl, Nat.zero_le _, by omega, (⟨hA0, HM0.out⟩ : Ext w W0 ∧ MapI W0 mb (keysB A 0))⟩
  case round =>
    obtain ⟨k, rfl, hkn, hkx, HW⟩ := hrel
    clear hA0 HM0
    by_cases hlt : k < n
    · obtain ⟨x, hxk⟩ : ∃ x, A[k]? = some x := ⟨_, List.getElem?_eq_getElem (by rw [HL.out]; exact hlt)⟩
      obtain ⟨b, off, rfl, hb, g0, g1, g2, g3, g4, g5⟩ := (HR.out.ext HW.out.1).cell hxk
      have hvx := HV.out x (List.mem_of_getElem? hxk)
      have ha0 : 0 ≤ x.a := by obtain ⟨a, N, e, -, h2, -⟩ := hvx; have := congrArg Prod.fst e; simp only [pxR] at this; omega
      have ha1 : x.a ≤ 4294967295 := by obtain ⟨a, N, e, -, h2, -⟩ := hvx; have := congrArg Prod.fst e; simp only [pxR] at this; omega
      have HXK : Hid (A[k]? = some x) := hxk
      have hki : (k : Int) < (n : Int) := by omega
      have HB0 : Hid (BlkW w (wr.alloc (.cells #[.int .i64 x.t, .int .u32 x.a, .int .i64 x.l, .int .i64 x.i, .int .u32 x.g, .int .i64 x.m] 48)) mb wr.heap.size x (keysB A k)) := BlkW.mk (HW.out.1.alloc _) (HW.out.2.later (((Ext.refl wr).alloc _).toS []) (by simp)) (heap_new wr _) (Nat.le_of_eq HMB.out)
      clear hxk hvx
      go_wp2_with fail
      clear g0 g1 g2 g3 g4 g5 HW
      generalize wr.heap.size = wb at *
      generalize (wr.alloc (.cells #[.int .i64 x.t, .int .u32 x.a, .int .i64 x.l, .int .i64 x.i, .int .u32 x.g, .int .i64 x.m] 48)) = W1 at *
      go_loopg [16] 2 (fun ky s16 wq => ∃ j : Nat, s16 = .int .i64 j ∧ j ≤ 2 ∧ 2 - j ≤ ky ∧ Hid (BlkW w wq mb wb x (inK (keysB A k) x j)))
      case atStart => exact ⟨0, rfl, Nat.zero_le _, Nat.le_refl _, (HB0.out : BlkW w W1 mb wb x (inK (keysB A k) x 0))⟩
      case round =>
        obtain ⟨j, rfl, hj2, hjy, HQ⟩ := hrel
        rcases (by omega : j = 0 ∨ j = 1 ∨ j = 2) with rfl | rfl | rfl
        · have hwb := HQ.out.ne
          have ix := fun w => (ix_two w).1
          have y2 : wr.cell? ⟨wb, 2, none⟩ = some (.int .i64 x.l) := by rw [heap_cell HQ.out.box]; rfl
          by_cases hl : (16 : Int) < x.l
          · go_wp2_with fail
            refine wp_region_tailMR (RM mb (keyOf x 16)) (RM.refl mb _) (fun _ _ _ h k => h.trans k) [] [11] [[0, 7, 8, 9, 10, 11], [1, 2, 3, 5, 6, 7, 8, 9, 10, 11], [2, 3, 5, 6, 7, 8, 9, 10, 11], [3, 5, 6, 7, 8, 9, 10, 11], [4, 5, 6, 7, 8, 9, 10, 11], [5, 6, 7, 8, 9, 10, 11], [], [7, 8, 11], [8, 11], [], [10, 11]] [(0, false), (1, false), (2, false), (3, false), (4, false), (5, false), (6, true), (7, false), (8, false), (9, true), (10, false)] (by kernel_rfl) (by kernel_rfl) rfl (by kernel_rfl) (fun _ _ _ _ _ h => h) ?_
            refine wpM_done ?_
            have HD : Hid (BlkW w wr.drew mb wb x (inK (keysB A k) x 0)) := HQ.out.later (Ext.refl wr).drew
            clear y2 HQ
            generalize wr.drew = W at *
            have y1 : ∀ w', RM mb (keyOf x 16) W w' → w'.cell? ⟨wb, 1, none⟩ = some (.int .u32 x.a) := fun w' h => by rw [heap_cell (h.1.heap hwb HD.out.box)]; rfl
            iterate 6 (refine wpE_read (v := ?_) rfl (by rfl) ?_ ?_; rotate_left; (focus (intro w' hx; go_simp; first | done | with_reducible rfl)); simp only [Act.put, List.setIfInBounds_toArray, List.set_cons_zero, List.set_cons_succ])
            (refine wpE_call rfl (by rfl) (fun K hK => ?_); go_simp; first
              | (go_at_call 106; refine (norm_any x.a 16 _ ha0 ha1).mono ?_; rintro e w1 ⟨rfl, hx1⟩; refine hK _ _ (RM.ext HD.out.map hx1) ?_; clear hK K))
            have H1 : Hid (BlkW w w1 mb wb x (inK (keysB A k) x 0)) := HD.out.later hx1
            obtain ⟨nv, hlk⟩ : ∃ nv : Int, Lk w1 mb (keyOf x 16) (.int .i64 nv) := by
              obtain ⟨es, cl, hm⟩ := H1.out.map
              obtain ⟨nv, h1⟩ := fv_int hm (keyOf x 16)
              exact ⟨nv, by rw [← h1]; exact look_k hm _⟩
            have hlk' : ∀ w', RM mb (keyOf x 16) w1 w' → (Instr.lookup 168 (.map (some mb)) (.agg #[.int .u32 (normV x.a 16), .int .i64 (holdV 16)]) false).run Tryz.prog w' = .ok (.int .i64 nv) w' := fun w' h => h.2 _ hlk
            obtain ⟨v0, st, w2, hent, hr2, hs2, hst⟩ := entry_k H1.out.map (keyOf x 16)
            simp only [keyV, keyOf] at hent
            obtain ⟨nu, hnu⟩ : ∃ nu : Int, IntKind.i64.wrap (nv + 1) = nu := ⟨_, rfl⟩
            obtain ⟨w3, hest, hm3, hx3, hs3⟩ := hst nu
            have H3 : Hid (BlkW w w3 mb wb x (addK (inK (keysB A k) x 0) (keyOf x 16))) := H1.out.step (hr2.1.trans hx3) hm3
            have HR2 : Hid (RM mb (keyOf x 16) w1 w2) := hr2
            clear hlk hst hr2 hs2 hs3 hm3 hx3 hx1 y1
            iterate 2 (refine wpE_read (v := ?_) rfl (by rfl) ?_ ?_; rotate_left; (focus (intro w' hx; go_simp; first | done | with_reducible rfl)); simp only [Act.put, List.setIfInBounds_toArray, List.set_cons_zero, List.set_cons_succ])
            refine wpE_call rfl (by rfl) (fun K hK => ?_)
            go_simp
            refine hK _ _ HR2.out ?_
            clear hK K
            iterate 1 (refine wpE_read (v := ?_) rfl (by rfl) ?_ ?_; rotate_left; (focus (intro w' hx; go_simp; first | done | with_reducible rfl)); simp only [Act.put, List.setIfInBounds_toArray, List.set_cons_zero, List.set_cons_succ])
            refine wpE_done ?_
            refine wpT_step rfl (by rfl) (fun K hK => ?_)
            go_simp
            refine hK _ _ ?_
            clear hK K
            refine wpT_done ?_
            clear hlk' hent hest hnu
            go_wp2_with fail
            go_roundg (2 - (0 + 1))
            case measure => omega
            case rel => exact ⟨0 + 1, by go_num, by omega, Nat.le_refl _, (by have h := H3.out; simp only [inK, stepK, if_pos hl] at h ⊢; exact h : BlkW w w3 mb wb x (inK (keysB A k) x (0 + 1)))⟩
          · go_wp2_with fail
            go_roundg (2 - (0 + 1))
            case measure => omega
            case rel => exact ⟨0 + 1, by go_num, by omega, Nat.le_refl _, (by have h := HQ.out; simp only [inK, stepK, if_neg (by omega : ¬ (16 : Int) < x.l)] at h ⊢; exact h : BlkW w wr mb wb x (inK (keysB A k) x (0 + 1)))⟩
        · have hwb := HQ.out.ne
          have ix := fun w => (ix_two w).2
          have y2 : wr.cell? ⟨wb, 2, none⟩ = some (.int .i64 x.l) := by rw [heap_cell HQ.out.box]; rfl
          by_cases hl : (24 : Int) < x.l
          · go_wp2_with fail
            refine wp_region_tailMR (RM mb (keyOf x 24)) (RM.refl mb _) (fun _ _ _ h k => h.trans k) [] [11] [[0, 7, 8, 9, 10, 11], [1, 2, 3, 5, 6, 7, 8, 9, 10, 11], [2, 3, 5, 6, 7, 8, 9, 10, 11], [3, 5, 6, 7, 8, 9, 10, 11], [4, 5, 6, 7, 8, 9, 10, 11], [5, 6, 7, 8, 9, 10, 11], [], [7, 8, 11], [8, 11], [], [10, 11]] [(0, false), (1, false), (2, false), (3, false), (4, false), (5, false), (6, true), (7, false), (8, false), (9, true), (10, false)] (by kernel_rfl) (by kernel_rfl) rfl (by kernel_rfl) (fun _ _ _ _ _ h => h) ?_
            refine wpM_done ?_
            have HD : Hid (BlkW w wr.drew mb wb x (inK (keysB A k) x 1)) := HQ.out.later (Ext.refl wr).drew
            clear y2 HQ
            generalize wr.drew = W at *
            have y1 : ∀ w', RM mb (keyOf x 24) W w' → w'.cell? ⟨wb, 1, none⟩ = some (.int .u32 x.a) := fun w' h => by rw [heap_cell (h.1.heap hwb HD.out.box)]; rfl
            iterate 6 (refine wpE_read (v := ?_) rfl (by rfl) ?_ ?_; rotate_left; (focus (intro w' hx; go_simp; first | done | with_reducible rfl)); simp only [Act.put, List.setIfInBounds_toArray, List.set_cons_zero, List.set_cons_succ])
            (refine wpE_call rfl (by rfl) (fun K hK => ?_); go_simp; first
              | (go_at_call 106; refine (norm_any x.a 24 _ ha0 ha1).mono ?_; rintro e w1 ⟨rfl, hx1⟩; refine hK _ _ (RM.ext HD.out.map hx1) ?_; clear hK K))
            have H1 : Hid (BlkW w w1 mb wb x (inK (keysB A k) x 1)) := HD.out.later hx1
            obtain ⟨nv, hlk⟩ : ∃ nv : Int, Lk w1 mb (keyOf x 24) (.int .i64 nv) := by
              obtain ⟨es, cl, hm⟩ := H1.out.map
              obtain ⟨nv, h1⟩ := fv_int hm (keyOf x 24)
              exact ⟨nv, by rw [← h1]; exact look_k hm _⟩
            have hlk' : ∀ w', RM mb (keyOf x 24) w1 w' → (Instr.lookup 168 (.map (some mb)) (.agg #[.int .u32 (normV x.a 24), .int .i64 (holdV 24)]) false).run Tryz.prog w' = .ok (.int .i64 nv) w' := fun w' h => h.2 _ hlk
            obtain ⟨v0, st, w2, hent, hr2, hs2, hst⟩ := entry_k H1.out.map (keyOf x 24)
            simp only [keyV, keyOf] at hent
            obtain ⟨nu, hnu⟩ : ∃ nu : Int, IntKind.i64.wrap (nv + 1) = nu := ⟨_, rfl⟩
            obtain ⟨w3, hest, hm3, hx3, hs3⟩ := hst nu
            have H3 : Hid (BlkW w w3 mb wb x (addK (inK (keysB A k) x 1) (keyOf x 24))) := H1.out.step (hr2.1.trans hx3) hm3
            have HR2 : Hid (RM mb (keyOf x 24) w1 w2) := hr2
            clear hlk hst hr2 hs2 hs3 hm3 hx3 hx1 y1
            iterate 2 (refine wpE_read (v := ?_) rfl (by rfl) ?_ ?_; rotate_left; (focus (intro w' hx; go_simp; first | done | with_reducible rfl)); simp only [Act.put, List.setIfInBounds_toArray, List.set_cons_zero, List.set_cons_succ])
            refine wpE_call rfl (by rfl) (fun K hK => ?_)
            go_simp
            refine hK _ _ HR2.out ?_
            clear hK K
            iterate 1 (refine wpE_read (v := ?_) rfl (by rfl) ?_ ?_; rotate_left; (focus (intro w' hx; go_simp; first | done | with_reducible rfl)); simp only [Act.put, List.setIfInBounds_toArray, List.set_cons_zero, List.set_cons_succ])
            refine wpE_done ?_
            refine wpT_step rfl (by rfl) (fun K hK => ?_)
            go_simp
            refine hK _ _ ?_
            clear hK K
            refine wpT_done ?_
            clear hlk' hent hest hnu
            go_wp2_with fail
            go_roundg (2 - (1 + 1))
            case measure => omega
            case rel => exact ⟨1 + 1, by go_num, by omega, Nat.le_refl _, (by have h := H3.out; simp only [inK, stepK, if_pos hl] at h ⊢; exact h : BlkW w w3 mb wb x (inK (keysB A k) x (1 + 1)))⟩
          · go_wp2_with fail
            go_roundg (2 - (1 + 1))
            case measure => omega
            case rel => exact ⟨1 + 1, by go_num, by omega, Nat.le_refl _, (by have h := HQ.out; simp only [inK, stepK, if_neg (by omega : ¬ (24 : Int) < x.l)] at h ⊢; exact h : BlkW w wr mb wb x (inK (keysB A k) x (1 + 1)))⟩
        · have y2 : wr.cell? ⟨wb, 2, none⟩ = some (.int .i64 x.l) := by rw [heap_cell HQ.out.box]; rfl
          go_wp2_with fail
          go_roundg (n - (k + 1))
          case measure => omega
          case rel => exact ⟨k + 1, by go_num, by omega, Nat.le_refl _, (by rw [keysB_next HXK.out]; exact ⟨HQ.out.ext, HQ.out.map⟩ : Ext w wr ∧ MapI wr mb (keysB A (k + 1)))⟩
    · obtain rfl : k = n := by omega
      have hln : ∀ ty, (Builtin.len_ #[168] ty #[.map (some mb)]).run Tryz.prog wr = .ok (.int .i64 ((keysB A k).length : Int)) wr := fun ty => len_k HW.out.2 ty
      have hown : (keysB A k).length = ownA A := by rw [← HL.out]; exact keysB_own HV.out
      rw [hown] at hln
      clear hown
      go_wp2_with fail
      go_ret
      exact ⟨rfl, HW.out.1⟩
end Go.Proofs.YtkfhkhgiojpfoaaGreat.Fb

namespace Go.Proofs.YtkfhkhgiojpfoaaGreat.Fb

set_option maxRecDepth 100000

open Go.RowKit Go.Proofs.YtkfhkhgiojpfoaaGreat Go.Proofs.YtkfhkhgiojpfoaaGreat.Rb

open Go.Proofs.YtkfhkhgiojpfoaaGreat.Tri (PX Vp)

set_option linter.unusedVariables false

set_option linter.unusedSimpArgs false

/-- The rows of the tables below k are there. -/
structure RowsK (w w' : World) (L : List Rt) (U : List Bool) (C : Array Value) (k : Nat) : Prop where
  size : C.size = 4
  rows : ∀ j, j < k → ∃ v, C[j]? = some v ∧ OwnR w' w.heap.size v (actL L (j : Int) U)
  one : ∀ v ∈ C.toList, v.oneCell' = true

/-- Is there a table that would own too many? -/
def fullB (L : List Rt) (U : List Bool) : Bool := (List.range 4).any fun j => decide (16 < ownA (actL L (j : Int) U))

theorem fullB_true {L : List Rt} {U : List Bool} {k : Nat} (hk : k < 4) (h : 16 < ownA (actL L (k : Int) U)) : fullB L U = true := by
  unfold fullB
  rw [List.any_eq_true]
  exact ⟨k, List.mem_range.2 hk, decide_eq_true h⟩

theorem fullB_false {L : List Rt} {U : List Bool} (h : ∀ k : Nat, k < 4 → ownA (actL L (k : Int) U) ≤ 16) : fullB L U = false := by
  unfold fullB
  rw [List.any_eq_false]
  intro k hk
  have := h k (List.mem_range.1 hk)
  simp only [decide_eq_true_eq]
  omega

theorem fullB_le {L : List Rt} {U : List Bool} (h : fullB L U = false) {k : Nat} (hk : k < 4) : ownA (actL L (k : Int) U) ≤ 16 := by
  rcases Nat.lt_or_ge 16 (ownA (actL L (k : Int) U)) with h1 | h1
  · rw [fullB_true hk h1] at h; cases h
  · exact h1

def z4 : Array Value := #[.slice none 0 0, .slice none 0 0, .slice none 0 0, .slice none 0 0]

def TryAns (w : World) (L : List Rt) (U : List Bool) (e : Ending) (w' : World) : Prop :=
  Ext w w' ∧ ((fullB L U = true ∧ e = .returned (.tuple #[.agg z4, .int .i64 6])) ∨ (fullB L U = false ∧ ∃ C, RowsK w w' L U C 4 ∧ e = .returned (.tuple #[.agg C, .int .i64 0])))

/-- Where try stands. -/
structure TryW (w wr : World) (L : List Rt) (U : List Bool) (ob nb : Nat) (C : Array Value) (k : Nat) : Prop where
  ext : Ext w wr
  next : wr.heap[nb]? = some (.cells C 122 (0, 0))
  out : wr.heap[ob]? = some (.cells z4 122 (0, 0))
  rows : RowsK w wr L U C k
  room : ∀ j, j < k → ownA (actL L (j : Int) U) ≤ 16
  new : w.heap.size ≤ nb
  ne : ob ≠ nb

theorem TryW.later {w wr w' : World} {L : List Rt} {U : List Bool} {ob nb : Nat} {C : Array Value} {k : Nat} (h : TryW w wr L U ob nb C k) (hx : Ext wr w') : TryW w w' L U ob nb C k :=
  ⟨h.ext.trans hx, hx.heap h.next, hx.heap h.out, ⟨h.rows.size, fun j hj => (h.rows.rows j hj).imp fun v hv => ⟨hv.1, hv.2.ext hx⟩, h.rows.one⟩, h.room, h.new, h.ne⟩

theorem TryW.put {w wr : World} {L : List Rt} {U : List Bool} {ob nb : Nat} {C : Array Value} {k n c : Nat} {p : Option Addr} (h : TryW w wr L U ob nb C k) (hk : k < 4) (ho : OwnR wr w.heap.size (.slice p n c) (actL L (k : Int) U)) :
    let W := wr.setCell ⟨nb, k, none⟩ (.slice p n c)
    Ext w W ∧ W.heap[nb]? = some (.cells (C.setIfInBounds k (.slice p n c)) 122 (0, 0)) ∧ W.heap[ob]? = some (.cells z4 122 (0, 0)) ∧ RowsK w W L U (C.setIfInBounds k (.slice p n c)) (k + 1) ∧ OwnR W w.heap.size (.slice p n c) (actL L (k : Int) U) := by
  intro W
  have hx : ExtS [nb] wr W := ExtS.setCell (ExtS.refl [nb] wr) (p := ⟨nb, k, none⟩) (.inl (by simp)) _
  have hnr : ∀ {v : Value} {M : List Rt}, OwnR wr w.heap.size v M → ∀ g ∈ blks v, g ∉ [nb] := fun {v M} ho g hg e => own_ne ho h.next (by decide) (by rw [List.mem_singleton.1 e] at hg; exact hg)
  refine ⟨ext_map h.ext h.new hx, ?_, hx.heap (by simpa using h.ne) h.out, ⟨?_, fun j hj => ?_, fun v hv => ?_⟩, ho.later hx (hnr ho)⟩
  · rw [heap_set h.next]
  · rw [Array.size_setIfInBounds]; exact h.rows.size
  · rcases Nat.lt_or_ge j k with h1 | h1
    · obtain ⟨v, h2, h3⟩ := h.rows.rows j h1
      refine ⟨v, ?_, h3.later hx (hnr h3)⟩
      rw [Array.getElem?_setIfInBounds, if_neg (by omega)]
      exact h2
    · obtain rfl : j = k := by omega
      refine ⟨_, ?_, ho.later hx (hnr ho)⟩
      rw [Array.getElem?_setIfInBounds, if_pos rfl, if_pos (by rw [h.rows.size]; exact hk)]
  · rw [Array.toList_setIfInBounds] at hv
    rcases List.mem_or_eq_of_mem_set hv with h1 | h1
    · exact h.rows.one v h1
    · rw [h1]; rfl

theorem extX_S {x : Nat} {A B : World} (h : ExtX x A B) : ExtS [x] A B := ⟨h.os, h.tape, h.output, h.size, fun k hk hn => h.block k hk (by simpa using hn)⟩

theorem arr4_size : (Tryz.prog.info? 122).map (·.size) = some 4 := by kernel_rfl

set_option maxHeartbeats 4000000 in
theorem try_any (rb : Nat) (L : List Rt) (F : List Nat) (q : Option Addr) (m d : Nat) (U : List Bool) (w : World) (h : RibAt 98 w rb L F) (hg : Rb.Good L) (hU : Ups w q m U) :
    Calls Tryz.prog 69 #[.pointer (some ⟨rb, 0, none⟩), .slice q m d] w (TryAns w L U) := by
  have HS : Hid (RibAt 98 w rb L F ∧ Rb.Good L ∧ Ups w q m U) := ⟨h, hg, hU⟩
  have HT0 : Hid (TryW w ((w.alloc (.cells z4 122)).alloc (.cells z4 122)) L U w.heap.size (w.heap.size + 1) z4 0) := by
    obtain ⟨h1, h2, h3⟩ := two_boxes w z4 z4 122
    exact ⟨h1, h3, h2, ⟨rfl, fun j hj => by omega, by simp [z4, Value.oneCell']⟩, fun j hj => by omega, by omega, by omega⟩
  clear h hg hU
  go_enter Tryz.func69, Tryz.ntmps69
  go_wp2_with fail
  obtain ⟨ob, hob⟩ : ∃ ob : Nat, ob = w.heap.size := ⟨_, rfl⟩
  obtain ⟨nb, hnb⟩ : ∃ nb : Nat, nb = w.heap.size + 1 := ⟨_, rfl⟩
  rw [← hnb, ← hob] at HT0
  have HOB : Hid (w.heap.size ≤ ob) := Nat.le_of_eq hob.symm
  simp only [← hnb]
  simp only [← hob]
  clear hob hnb
  simp only [z4] at HT0
  generalize ((w.alloc (.cells #[.slice none 0 0, .slice none 0 0, .slice none 0 0, .slice none 0 0] 122)).alloc (.cells #[.slice none 0 0, .slice none 0 0, .slice none 0 0, .slice none 0 0] 122)) = W0 at *
  go_loopg [8] 4 (fun kx s8 wr => ∃ (k : Nat) (C : Array Value), s8 = .int .i64 k ∧ k ≤ 4 ∧ 4 - k ≤ kx ∧ Hid (TryW w wr L U ob nb C k))
  case atStart => exact ⟨0, _, rfl, by omega, by omega, HT0⟩
  case round =>
    obtain ⟨k, C, rfl, hk4, hkx, HT⟩ := hrel
    clear HT0
    by_cases hlt : k < 4
    · have hki : (k : Int) < 4 := by omega
      have ca := active_any rb L F (k : Int) q m d U wr (HS.out.1.ext HT.out.ext) HS.out.2.1 (HS.out.2.2.ext HT.out.ext)
      have HUK0 : ∃ uk, C[k]? = some uk := ⟨_, Array.getElem?_eq_getElem (by rw [HT.out.rows.size]; exact hlt)⟩
      obtain ⟨uk, huk⟩ := HUK0
      have HUK : Hid (C[k]? = some uk) := huk
      have cb := fun (p : Option Addr) (n c : Nat) (W : World) (hO : OwnR W w.heap.size (.slice p n c) (actL L (k : Int) U)) => blocks_any p n c (actL L (k : Int) U) W (by obtain ⟨p', c', e, -, -, h⟩ := hO.slice; cases e; exact h) (by obtain ⟨p', c', e, -, -, h⟩ := hO.slice; cases e; have := (act_pf HS.out.2.1 (k : Int) U).len; omega) (act_pf HS.out.2.1 (k : Int) U).vp
      clear huk
      by_cases hroom : ownA (actL L (k : Int) U) ≤ 16
      · have hri : (ownA (actL L (k : Int) U) : Int) ≤ 16 := by omega
        have HRM : Hid (ownA (actL L (k : Int) U) ≤ 16) := hroom
        clear hroom
        go_wp2_with (first
          | (go_at_call 92; refine ca.mono ?_; rintro e w1 ⟨v1, rfl, HO1, hx1⟩; obtain ⟨p1, c1, rfl, -, -, -⟩ := HO1.slice; have H1 : Hid (TryW w w1 L U ob nb C k) := HT.out.later hx1; have HO2 : Hid (OwnR w1 w.heap.size (.slice p1 (actL L (k : Int) U).length c1) (actL L (k : Int) U)) := HO1.base HT.out.ext.size; have e0 : w1.cell? ⟨nb, k, none⟩ = some uk := (by rw [heap_cell H1.out.next]; exact HUK.out); have f0 : w1.frozen? ⟨nb, k, none⟩ = false := heap_frozen H1.out.next; have HP : Hid _ := H1.out.put hlt HO2.out; have s0 : (w1.setCell ⟨nb, k, none⟩ (.slice p1 (actL L (k : Int) U).length c1)).cell? ⟨nb, k, none⟩ = some (.slice p1 (actL L (k : Int) U).length c1) := (by rw [heap_cell HP.out.2.1, Array.getElem?_setIfInBounds, if_pos rfl, if_pos (by rw [H1.out.rows.size]; exact hlt)]); clear HO1 hx1)
          | (go_at_call 93; refine (cb p1 _ c1 _ HP.out.2.2.2.2).mono ?_; rintro e w2 ⟨rfl, hx2⟩))
        have HQ : TryW w w2 L U ob nb (C.setIfInBounds k (.slice p1 (actL L (k : Int) U).length c1)) (k + 1) :=
          TryW.later ⟨HP.out.1, HP.out.2.1, HP.out.2.2.1, HP.out.2.2.2.1, fun j hj => by
            rcases Nat.lt_or_ge j k with h1 | h1
            · exact HT.out.room j h1
            · obtain rfl : j = k := by omega
              exact HRM.out, HT.out.new, HT.out.ne⟩ hx2
        go_roundg (4 - (k + 1))
        case measure => omega
        case rel => exact ⟨k + 1, _, by go_num, by omega, Nat.le_refl _, HQ⟩
      · have hri : ¬ ((ownA (actL L (k : Int) U) : Int) ≤ 16) := by omega
        have HF : Hid (fullB L U = true) := fullB_true hlt (by omega)
        clear hroom
        go_wp2_with (first
          | (go_at_call 92; refine ca.mono ?_; rintro e w1 ⟨v1, rfl, HO1, hx1⟩; obtain ⟨p1, c1, rfl, -, -, -⟩ := HO1.slice; have H1 : Hid (TryW w w1 L U ob nb C k) := HT.out.later hx1; have HO2 : Hid (OwnR w1 w.heap.size (.slice p1 (actL L (k : Int) U).length c1) (actL L (k : Int) U)) := HO1.base HT.out.ext.size; have e0 : w1.cell? ⟨nb, k, none⟩ = some uk := (by rw [heap_cell H1.out.next]; exact HUK.out); have f0 : w1.frozen? ⟨nb, k, none⟩ = false := heap_frozen H1.out.next; have HP : Hid _ := H1.out.put hlt HO2.out; have s0 : (w1.setCell ⟨nb, k, none⟩ (.slice p1 (actL L (k : Int) U).length c1)).cell? ⟨nb, k, none⟩ = some (.slice p1 (actL L (k : Int) U).length c1) := (by rw [heap_cell HP.out.2.1, Array.getElem?_setIfInBounds, if_pos rfl, if_pos (by rw [H1.out.rows.size]; exact hlt)]); clear HO1 hx1)
          | (go_at_call 93; refine (cb p1 _ c1 _ HP.out.2.2.2.2).mono ?_; rintro e w2 ⟨rfl, hx2⟩)
          | (refine wpl_store (by rfl) 122 _ _ rfl rfl 4 ob z4 z4 _ rfl rfl (hx2.heap HP.out.2.2.1) arr4_size rfl rfl (by simp [z4, Value.oneCell']) ?_; intro w5 hx5 k5))
        refine bodyPost_ret (results_two Tryz.results69 _ rfl k5 Tryz.underlying122 rfl arr4_size) rfl ⟨?_, .inl ⟨HF.out, rfl⟩⟩
        exact ExtX.ext (HP.out.1.trans hx2) hx5 HOB.out
    · obtain rfl : k = 4 := by omega
      have hsz := HT.out.rows.size
      have HE : Hid (fullB L U = false) := fullB_false fun k hk => HT.out.room k hk
      go_wp2_with (first
        | (refine wpl_load (by rfl) 122 _ rfl nb C _ _ rfl HT.out.next Tryz.underlying122 rfl (by rw [HT.out.rows.size]; exact arr4_size) ?_)
        | (refine wpl_store (by rfl) 122 _ _ rfl rfl 4 ob C z4 _ rfl rfl HT.out.out arr4_size HT.out.rows.size rfl HT.out.rows.one ?_; intro w5 hx5 k5))
      refine bodyPost_ret (results_two Tryz.results69 _ rfl k5 Tryz.underlying122 rfl (by rw [hsz]; exact arr4_size)) rfl ⟨ExtX.ext HT.out.ext hx5 HOB.out, .inr ⟨HE.out, C, ⟨hsz, fun j hj => ?_, HT.out.rows.one⟩, rfl⟩⟩
      obtain ⟨v, h1, h2⟩ := HT.out.rows.rows j hj
      exact ⟨v, h1, h2.later (extX_S hx5) fun g hg e => own_ne h2 HT.out.out (by decide) (by rw [List.mem_singleton.1 e] at hg; exact hg)⟩
end Go.Proofs.YtkfhkhgiojpfoaaGreat.Fb

namespace Go.Proofs.YtkfhkhgiojpfoaaGreat.Fb

set_option maxRecDepth 100000

open Go.RowKit Go.Proofs.YtkfhkhgiojpfoaaGreat Go.Proofs.YtkfhkhgiojpfoaaGreat.Rb

set_option linter.unusedVariables false

set_option linter.unusedSimpArgs false

/-- A row of bools. -/
def OwnB (w : World) (B : Nat) (v : Value) (U : List Bool) : Prop := w.ownsRow B 4 1 v U.length (U.map Value.bool)

theorem info_bool : ∃ i, Tryz.prog.info? 4 = some i ∧ i.zero = some (.bool false) ∧ i.size = 1 ∧ i.bytes = 1 := ⟨_, rfl, by kernel_rfl, by kernel_rfl, by kernel_rfl⟩

theorem boolC_one {U : List Bool} {u : Value} (h : u ∈ U.map Value.bool) : u.oneCell' = true := by
  obtain ⟨b, -, rfl⟩ := List.mem_map.1 h
  rfl

theorem OwnB.slice {w : World} {B : Nat} {v : Value} {U : List Bool} (h : OwnB w B v U) : ∃ q c, v = .slice q U.length c ∧ U.length ≤ c ∧ Tri.Src w 1 q U.length c (U.map Value.bool) := by
  obtain ⟨a, c, rfl, h1, -, -⟩ := Tri.owns_slice h
  exact ⟨a, c, rfl, h1, Tri.src_own h fun u hu => boolC_one hu⟩

theorem OwnB.ups {w : World} {B : Nat} {q : Option Addr} {n c : Nat} {U : List Bool} (h : OwnB w B (.slice q n c) U) (hl : U.length ≤ 1000000) : Ups w q n U := by
  obtain ⟨q', c', e, h1, hs⟩ := h.slice
  cases e
  refine ⟨rfl, hl, ?_⟩
  rcases Tri.Src.cells hs with h0 | ⟨b, off, rfl, hc⟩
  · exact .inl h0
  · exact .inr ⟨b, off, rfl, fun j u hj => hc j _ (by simp [hj])⟩

theorem OwnB.ext {w w' : World} {B : Nat} {v : Value} {U : List Bool} (h : OwnB w B v U) (hx : Ext w w') : OwnB w' B v U := Tri.owns_later h hx

theorem OwnB.later {w w' : World} {B : Nat} {v : Value} {U : List Bool} {F : List Nat} (h : OwnB w B v U) (hx : ExtS F w w') (hf : ∀ g ∈ blks v, g ∉ F) : OwnB w' B v U :=
  Tri.owns_laterS h hx fun g hg => hf g (mem_blks.2 hg)

theorem OwnB.base {w : World} {B B' : Nat} {v : Value} {U : List Bool} (h : OwnB w B v U) (hb : B' ≤ B) : OwnB w B' v U := Tri.owns_base h hb

theorem OwnB.lt {w : World} {B : Nat} {v : Value} {U : List Bool} (h : OwnB w B v U) : ∀ g ∈ blks v, B ≤ g ∧ g < w.heap.size := fun g hg => by
  obtain ⟨h1, h2, _⟩ := Tri.owns_block h (mem_blks.1 hg)
  exact ⟨h1, h2⟩

def RowB (w : World) (U : List Bool) (e : Ending) (w' : World) : Prop := ∃ v', e = .returned v' ∧ OwnB w' w.heap.size v' U ∧ Ext w w'

theorem OwnB.nil (w : World) (B : Nat) : OwnB w B (.slice none 0 0) [] := World.ownsRow_nil _ _ _ _

theorem cloneB_any (v : Value) (U : List Bool) (w : World) (hO : OwnB w 0 v U) (hl : U.length ≤ 100000) :
    Calls Tryz.prog 74 #[v] w (RowB w U) := by
  obtain ⟨p, c, rfl, h1, hR⟩ := hO.slice
  cases p with
  | none =>
    have hL : U = [] := by
      rcases Tri.Src.cells hR with h0 | ⟨b, off, h0, _⟩
      · exact List.length_eq_zero_iff.1 h0
      · cases h0
    have hc : c = 0 := Tri.Src.nil hR rfl
    subst hL hc
    have en : ∀ w, (binOp .eql 52 (.slice none 0 0) (.slice none 0 0)).run Tryz.prog w = .ok (.bool true) w := fun w => Lib.run_eql_slice_nil w 52 4 none 0 0 0 0 Tryz.underlying52
    go_enter Tryz.func74, Tryz.ntmps74
    go_wp2_with fail
    go_ret
    exact ⟨_, rfl, OwnB.nil w _, Ext.refl w⟩
  | some ad =>
    have hA : Ext w (w.alloc (.cells #[] 4)) := (Ext.refl w).alloc _
    have HB : Hid _ := heap_new w (.cells #[] 4)
    have HR : Hid (Tri.Src _ 1 (some ad) U.length c (U.map Value.bool)) := hR.ext (by omega) hA
    have HL : Hid _ := hl
    have en : ∀ w, (binOp .eql 52 (.slice (some ad) U.length c) (.slice none 0 0)).run Tryz.prog w = .ok (.bool false) w := fun w => Lib.run_eql_slice_nil w 52 4 (some ad) U.length c 0 0 Tryz.underlying52
    clear hO hR hl
    obtain ⟨i, hi, hz, hsz, hby⟩ := info_bool
    go_enter Tryz.func74, Tryz.ntmps74
    go_wp2_with (at_builtin; refine wpList_want rfl (fun K hK => Tri.wp_app_lit (.tmp 5) (.tmp 6) _ _ i _ 1 1 rfl Tryz.underlying52 hi hz hsz hby rfl (by omega) (by omega) w.heap.size rfl HB.out w.heap.size (Nat.le_refl _) (some ad) U.length c (U.map Value.bool) rfl HR.out (by have := HL.out; omega) ?_); intro v' w' ho' hne' hx'; refine hK _ _ ?_; clear hK K)
    go_ret
    exact ⟨_, rfl, ho', hA.trans hx'⟩

/-! Two rows of ways. -/

def eqRs (A B : List Rt) : Bool := decide (A.length = B.length) && (A.zip B).all fun p => eqB p.1 p.2

theorem eqRs_len {A B : List Rt} (h : A.length ≠ B.length) : eqRs A B = false := by simp [eqRs, h]

theorem eqRs_at {A B : List Rt} {k : Nat} {x y : Rt} (hx : A[k]? = some x) (hy : B[k]? = some y) (h : eqB x y = false) : eqRs A B = false := by
  unfold eqRs
  have : ((A.zip B).all fun p => eqB p.1 p.2) = false := by
    rw [List.all_eq_false]
    refine ⟨(x, y), List.mem_of_getElem? (i := k) ?_, by simp [h]⟩
    rw [List.getElem?_zip_eq_some]
    exact ⟨hx, hy⟩
  rw [this, Bool.and_false]

theorem eqRs_refl (A : List Rt) : eqRs A A = true := by
  unfold eqRs
  simp only [decide_true, Bool.true_and, List.all_eq_true]
  intro p hp
  have : p.1 = p.2 := by
    obtain ⟨k, hk, rfl⟩ := List.getElem_of_mem hp
    simp
  rw [this, eqB_refl]

theorem eq_rows {A B : List Rt} (hl : A.length = B.length) (h : ∀ (j : Nat) (x y : Rt), j < A.length → A[j]? = some x → B[j]? = some y → x = y) : A = B := by
  apply List.ext_getElem hl
  intro i h1 h2
  exact h i _ _ h1 (List.getElem?_eq_getElem h1) (List.getElem?_eq_getElem h2)

set_option maxHeartbeats 1000000 in
theorem equal_rts (p p' : Option Addr) (n n' c c' : Nat) (A B : List Rt) (w : World) (hR : Rd w p n c A) (hR' : Rd w p' n' c' B) (hn : n ≤ 1000000) (hn' : n' ≤ 1000000) :
    Calls Tryz.prog 94 #[.slice p n c, .slice p' n' c'] w fun e w' => e = .returned (.bool (eqRs A B)) ∧ (eqRs A B = true → A = B) ∧ Ext w w' := by
  have hl := hR.len
  have hl' := hR'.len
  by_cases hnn : n = n'
  rotate_left
  · have he : eqRs A B = false := eqRs_len (by omega)
    rw [he]
    have hni : ¬ ((n : Int) = (n' : Int)) := by omega
    clear hR hR' hl hl' he
    go_enter Tryz.func94, Tryz.ntmps94
    go_wp2_with fail
    go_ret
    exact ⟨rfl, by simp, Ext.refl w⟩
  subst hnn
  have HR : Hid (Rd w p n c A ∧ Rd w p' n c' B) := ⟨hR, hR'⟩
  have HL : Hid (A.length = n ∧ B.length = n) := ⟨hl, hl'⟩
  have eg := rt_guard
  have nr := fun x y w => neq_rt x y w
  clear hR hR' hl hl' hn'
  go_enter Tryz.func94, Tryz.ntmps94
  go_wp2_with fail
  go_loopg [13] n (fun kx s13 wr => ∃ k : Nat, k ≤ n ∧ n - k ≤ kx ∧ s13 = .int .i64 k ∧ Ext w wr ∧ Hid (∀ (j : Nat) (x y : Rt), j < k → A[j]? = some x → B[j]? = some y → x = y))
  case atStart => exact ⟨0, Nat.zero_le _, Nat.le_refl _, rfl, Ext.refl _, (fun j x y hj => by omega : ∀ (j : Nat) (x y : Rt), j < 0 → A[j]? = some x → B[j]? = some y → x = y)⟩
  case round =>
    obtain ⟨k, hk, hkx, rfl, hx, HK⟩ := hrel
    by_cases hlt : k < n
    · obtain ⟨x, hxk⟩ : ∃ x, A[k]? = some x := ⟨_, List.getElem?_eq_getElem (by rw [HL.out.1]; exact hlt)⟩
      obtain ⟨y, hyk⟩ : ∃ y, B[k]? = some y := ⟨_, List.getElem?_eq_getElem (by rw [HL.out.2]; exact hlt)⟩
      obtain ⟨b, off, hp, hb, g0, g1, g2, g3, g4, g5⟩ := (HR.out.1.ext hx).cell hxk
      obtain ⟨b', off', hp', hb', f0, f1, f2, f3, f4, f5⟩ := (HR.out.2.ext hx).cell hyk
      subst hp hp'
      have hki : (k : Int) < (n : Int) := by omega
      have nx := fun w => nr x y w
      have HX : Hid (A[k]? = some x ∧ B[k]? = some y) := ⟨hxk, hyk⟩
      clear nr hxk hyk
      have hd : Ext wr wr.drew := (Ext.refl wr).drew
      have ha : ∀ j u, wr.cell? ⟨b, j, none⟩ = some u → ∀ w', Ext wr.drew w' → w'.cell? ⟨b, j, none⟩ = some u := fun j u h w' h' => by rw [(hd.trans h').below.cell (p := ⟨b, j, none⟩) hb]; exact h
      have hc : ∀ j u, wr.cell? ⟨b', j, none⟩ = some u → ∀ w', Ext wr.drew w' → w'.cell? ⟨b', j, none⟩ = some u := fun j u h w' h' => by rw [(hd.trans h').below.cell (p := ⟨b', j, none⟩) hb']; exact h
      have x0 := ha _ _ g0
      have x1 := ha _ _ g1
      have x2 := ha _ _ g2
      have x3 := ha _ _ g3
      have x4 := ha _ _ g4
      have x5 := ha _ _ g5
      have y0 := hc _ _ f0
      have y1 := hc _ _ f1
      have y2 := hc _ _ f2
      have y3 := hc _ _ f3
      have y4 := hc _ _ f4
      have y5 := hc _ _ f5
      clear ha hc g0 g1 g2 g3 g4 g5 f0 f1 f2 f3 f4 f5
      cases hq : eqB x y with
      | true =>
        rw [hq] at nx
        have hxy := (eqB_iff x y).1 hq
        have HY : Hid (x = y) := hxy
        clear hxy hq
        go_wp2_with fail
        refine wp_region_eager [(0, false), (1, false), (2, false), (3, false), (4, false), (5, false), (6, false), (7, false), (8, false)] (by kernel_rfl) (by kernel_rfl) rfl (by kernel_rfl) (fun _ _ _ _ _ h => h) ?_
        have hxd := hx.drew
        generalize wr.drew = W at *
        iterate 9 (refine wpE_read (v := ?_) rfl (by rfl) ?_ ?_; rotate_left; (focus (intro w' hx; go_simp; first | done | with_reducible rfl)); simp only [Act.put, List.setIfInBounds_toArray, List.set_cons_zero, List.set_cons_succ])
        refine wpE_done ?_
        go_wp2_with fail
        go_roundg (n - (k + 1))
        case measure => omega
        case rel => exact ⟨k + 1, by omega, Nat.le_refl _, by go_num, hxd, (fun j x' y' hj h1 h2 => by
          rcases Nat.lt_or_ge j k with h3 | h3
          · exact HK.out j x' y' h3 h1 h2
          · obtain rfl : j = k := by omega
            rw [HX.out.1] at h1; rw [HX.out.2] at h2
            cases h1; cases h2; exact HY.out : ∀ (j : Nat) (x y : Rt), j < k + 1 → A[j]? = some x → B[j]? = some y → x = y)⟩
      | false =>
        rw [hq] at nx
        have HE : Hid (eqRs A B = false) := eqRs_at HX.out.1 HX.out.2 hq
        clear hq
        go_wp2_with fail
        refine wp_region_eager [(0, false), (1, false), (2, false), (3, false), (4, false), (5, false), (6, false), (7, false), (8, false)] (by kernel_rfl) (by kernel_rfl) rfl (by kernel_rfl) (fun _ _ _ _ _ h => h) ?_
        have hxd := hx.drew
        generalize wr.drew = W at *
        iterate 9 (refine wpE_read (v := ?_) rfl (by rfl) ?_ ?_; rotate_left; (focus (intro w' hx; go_simp; first | done | with_reducible rfl)); simp only [Act.put, List.setIfInBounds_toArray, List.set_cons_zero, List.set_cons_succ])
        refine wpE_done ?_
        go_wp2_with fail
        go_ret
        rw [HE.out]
        exact ⟨rfl, by simp, hxd⟩
    · obtain rfl : k = n := by omega
      have HE : Hid (A = B) := eq_rows (HL.out.1.trans HL.out.2.symm) (by rw [HL.out.1]; exact HK.out)
      go_wp2_with fail
      go_ret
      have he := HE.out
      subst he
      rw [eqRs_refl]
      exact ⟨rfl, fun _ => rfl, hx⟩
end Go.Proofs.YtkfhkhgiojpfoaaGreat.Fb

namespace Go.Proofs.YtkfhkhgiojpfoaaGreat.Fb

set_option maxRecDepth 100000

open Go.RowKit Go.Proofs.YtkfhkhgiojpfoaaGreat Go.Proofs.YtkfhkhgiojpfoaaGreat.Rb

open Go.Proofs.YtkfhkhgiojpfoaaGreat.Tri (PX Vp Row TrieR TrieRAns delL setL foundB tdel tset)

open Go.Proofs.YtkfhkhgiojpfoaaGreat.Dr (DirAt DirAns del_at set_at keysL ownN)

set_option linter.unusedVariables false

set_option linter.unusedSimpArgs false

/-- One table's engines: the active row, the tree, the tables; the blocks that are written. -/
structure Eng where
  v : Value
  tb : Nat
  db : Nat
  Ft : List Nat
  Fd : List Nat

def Eng.F (e : Eng) : List Nat := e.Ft ++ e.Fd

theorem Eng.memF {e : Eng} {x : Nat} : x ∈ e.F ↔ x ∈ e.Ft ∨ x ∈ e.Fd := by unfold Eng.F; exact List.mem_append

structure EngAt (w : World) (A : List Rt) (e : Eng) : Prop where
  row : OwnR w 0 e.v A
  tree : TrieR w e.tb (rowOf A) e.Ft
  dir : DirAt w e.db 16 (rowOf A) e.Fd
  apart : ∀ x ∈ e.Ft, x ∉ e.Fd
  rowF : ∀ x ∈ blks e.v, x ∉ e.F

theorem EngAt.later {w w' : World} {A : List Rt} {e : Eng} {G : List Nat} (h : EngAt w A e) (hx : ExtS G w w') (hF : ∀ x ∈ e.F, x ∉ G) (hv : ∀ x ∈ blks e.v, x ∉ G) : EngAt w' A e :=
  ⟨h.row.later hx hv, h.tree.later hx fun x hh => hF x (Eng.memF.2 (.inl hh)), h.dir.later hx fun x hh => hF x (Eng.memF.2 (.inr hh)), h.apart, h.rowF⟩

theorem EngAt.ext {w w' : World} {A : List Rt} {e : Eng} (h : EngAt w A e) (hx : Ext w w') : EngAt w' A e := h.later (hx.toS []) (by simp) (by simp)

theorem EngAt.lt {w : World} {A : List Rt} {e : Eng} (h : EngAt w A e) : ∀ x ∈ e.F, x < w.heap.size := fun x hx => (Eng.memF.1 hx).elim (h.tree.lt x) (h.dir.lt x)

/-- In the midst of lay: the tree has D, the tables have D'. -/
def LayW (w wr : World) (e : Eng) (D D' : Row) : Prop := ∃ Ft Fd, TrieR wr e.tb D Ft ∧ DirAt wr e.db 16 D' Fd ∧ (∀ x ∈ Ft, x ∉ Fd) ∧ ExtS e.F w wr ∧ ∀ x, x ∈ Ft ∨ x ∈ Fd → x ∈ e.F ∨ w.heap.size ≤ x

theorem LayW.ext {w wr w' : World} {e : Eng} {D D' : Row} (h : LayW w wr e D D') (hx : Ext wr w') : LayW w w' e D D' := by
  obtain ⟨Ft, Fd, h1, h2, h3, h4, h5⟩ := h
  exact ⟨Ft, Fd, h1.ext hx, h2.ext hx, h3, h4.trans (hx.toS _), h5⟩

theorem LayW.begin {w : World} {A : List Rt} {e : Eng} (h : EngAt w A e) : LayW w w e (rowOf A) (rowOf A) :=
  ⟨e.Ft, e.Fd, h.tree, h.dir, h.apart, ExtS.refl _ _, fun x hx => .inl (Eng.memF.2 hx)⟩

/-- The world, but for what may be written. -/
theorem LayW.S {w wr : World} {e : Eng} {D D' : Row} (h : LayW w wr e D D') : ExtS e.F w wr := by
  obtain ⟨Ft, Fd, h1, h2, h3, h4, h5⟩ := h
  exact h4

theorem LayW.tree {w wr : World} {e : Eng} {D D' : Row} (h : LayW w wr e D D') : ∃ Ft, TrieR wr e.tb D Ft ∧ (∀ x ∈ Ft, x ∈ e.F ∨ w.heap.size ≤ x) ∧ ∀ (E : Row) (w2 : World), TrieRAns wr Ft e.tb E w2 → LayW w w2 e E D' := by
  obtain ⟨Ft, Fd, h1, h2, h3, h4, h5⟩ := h
  refine ⟨Ft, h1, fun x hx => h5 x (.inl hx), fun E w2 ⟨F', k1, k2, k3⟩ => ⟨F', Fd, k1, h2.later k2 fun x hx hx' => h3 x hx' hx, fun x hx hx' => ?_, h4.then k2 fun b hb => h5 b (.inl hb), fun x hx => ?_⟩⟩
  · rcases k3 x hx with h | h
    · exact h3 x h hx'
    · have := h2.lt x hx'; omega
  · rcases hx with hx | hx
    · rcases k3 x hx with h | h
      · exact h5 x (.inl h)
      · exact .inr (Nat.le_trans h4.size h)
    · exact h5 x (.inr hx)

theorem LayW.dir {w wr : World} {e : Eng} {D D' : Row} (h : LayW w wr e D D') : ∃ Fd, DirAt wr e.db 16 D' Fd ∧ (∀ x ∈ Fd, x ∈ e.F ∨ w.heap.size ≤ x) ∧ ∀ (E : Row) (w2 : World), DirAns wr Fd e.db 16 E w2 → LayW w w2 e D E := by
  obtain ⟨Ft, Fd, h1, h2, h3, h4, h5⟩ := h
  refine ⟨Fd, h2, fun x hx => h5 x (.inr hx), fun E w2 ⟨F', k1, k2, k3⟩ => ⟨Ft, F', h1.later k2 fun x hx hx' => h3 x hx hx', k1, fun x hx hx' => ?_, h4.then k2 fun b hb => h5 b (.inr hb), fun x hx => ?_⟩⟩
  · rcases k3 x hx' with h | h
    · exact h3 x hx h
    · have := h1.lt x hx; omega
  · rcases hx with hx | hx
    · exact h5 x (.inl hx)
    · rcases k3 x hx with h | h
      · exact h5 x (.inr h)
      · exact .inr (Nat.le_trans h4.size h)

/-- What lay reads, and what it leaves: the Fib's cells, the ways, what is up, the new row. -/
structure LayR (w : World) (fb i rb : Nat) (C : Array Value) (q : Option Addr) (m d : Nat) (L : List Rt) (U : List Bool) (Fr : List Nat) (e : Eng) (v : Value) (B : List Rt) : Prop where
  obj : w.heap[fb]? = some (.cells C 82 (0, 0))
  size : C.size = 14
  c0 : C[0]? = some (.pointer (some ⟨rb, 0, none⟩))
  c1 : C[1]? = some (.slice q m d)
  cv : C[2 + i * 3]? = some e.v
  ct : C[2 + i * 3 + 1]? = some (.pointer (some ⟨e.tb, 0, none⟩))
  cd : C[2 + i * 3 + 2]? = some (.pointer (some ⟨e.db, 0, none⟩))
  rib : RibAt 98 w rb L Fr
  ups : Ups w q m U
  new : OwnR w 0 v B
  fF : fb ∉ e.F
  rF : ∀ x ∈ Fr, x ∉ e.F
  uF : ∀ x ∈ ubk q, x ∉ e.F
  vF : ∀ x ∈ blks v, x ∉ e.F

theorem LayR.later {w w' : World} {fb i rb : Nat} {C : Array Value} {q : Option Addr} {m d : Nat} {L : List Rt} {U : List Bool} {Fr : List Nat} {e : Eng} {v : Value} {B : List Rt} (h : LayR w fb i rb C q m d L U Fr e v B) (hx : ExtS e.F w w') : LayR w' fb i rb C q m d L U Fr e v B :=
  ⟨hx.heap h.fF h.obj, h.size, h.c0, h.c1, h.cv, h.ct, h.cd, h.rib.later hx h.rF, Ups.later h.ups hx h.uF, h.new.later hx h.vF, h.fF, h.rF, h.uF, h.vF⟩

/-- What lay leaves. -/
def LayAns (w : World) (fb i : Nat) (C : Array Value) (e : Eng) (v : Value) (B : List Rt) (w' : World) : Prop := ∃ e' : Eng, EngAt w' B e' ∧ e'.tb = e.tb ∧ e'.db = e.db ∧ ExtS (fb :: e.F) w w' ∧ (∀ x ∈ e'.F, x ∈ e.F ∨ w.heap.size ≤ x) ∧
  w'.heap[fb]? = some (.cells (C.setIfInBounds (2 + i * 3) e'.v) 82 (0, 0)) ∧ (e'.v = e.v ∨ e'.v = v)

theorem isV_px {r : Rt} (h : Vp (pxR r)) : isV r.a r.l = true := h.is

theorem px_bd {r : Rt} (h : Vp (pxR r)) : 0 ≤ r.a ∧ r.a ≤ 4294967295 := by
  obtain ⟨a, N, e, -, h2, -⟩ := h
  have := congrArg Prod.fst e
  simp only [pxR] at this
  omega
end Go.Proofs.YtkfhkhgiojpfoaaGreat.Fb
