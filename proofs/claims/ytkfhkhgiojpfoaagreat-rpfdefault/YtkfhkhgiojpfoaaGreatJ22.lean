/- Texts joined by a program: RfA, RfB. -/
import Derived.Test.YtkfhkhgiojpfoaaGreatJ7
namespace Go.Proofs.YtkfhkhgiojpfoaaGreat.Rb

set_option maxRecDepth 100000

open Go.RowKit Go.Proofs.YtkfhkhgiojpfoaaGreat

set_option linter.unusedVariables false

set_option linter.unusedSimpArgs false

/-- A block whose first cell is a row of ways. -/
def RibIn (ty : TypeId) (rest : List Value) (w : World) (rb : Nat) (v : Value) (L : List Rt) : Prop := w.heap[rb]? = some (.cells (v :: rest).toArray ty (0, 0)) ∧ OwnR w 0 v L

theorem RibIn.ext {ty : TypeId} {rest : List Value} {w w' : World} {rb : Nat} {v : Value} {L : List Rt} (h : RibIn ty rest w rb v L) (hx : Ext w w') : RibIn ty rest w' rb v L := ⟨hx.heap h.1, h.2.ext hx⟩

theorem top_cell {ty : TypeId} {rest : List Value} {w : World} {rb : Nat} {v : Value} (h : w.heap[rb]? = some (.cells (v :: rest).toArray ty (0, 0))) : w.cell? ⟨rb, 0, none⟩ = some v := by
  rw [heap_cell h]
  simp

/-- Another row in it: what was there, or one of new blocks; nothing else is written. -/
def RibNew (ty : TypeId) (rest : List Value) (w : World) (rb : Nat) (v : Value) (L' : List Rt) (w' : World) : Prop := ∃ v', RibIn ty rest w' rb v' L' ∧ ExtS [rb] w w' ∧ (v' = v ∨ ∀ x ∈ blks v', w.heap.size ≤ x)

theorem RibNew.same {ty : TypeId} {rest : List Value} {w w' : World} {rb : Nat} {v : Value} {L : List Rt} (h : RibIn ty rest w rb v L) (hx : Ext w w') : RibNew ty rest w rb v L w' := ⟨v, h.ext hx, hx.toS _, .inl rfl⟩

theorem RibNew.from {ty : TypeId} {rest : List Value} {w w1 w' : World} {rb : Nat} {v : Value} {L' : List Rt} (hx : Ext w w1) (h : RibNew ty rest w1 rb v L' w') : RibNew ty rest w rb v L' w' := by
  obtain ⟨v', h1, h2, h3⟩ := h
  exact ⟨v', h1, ExtS.then (hx.toS _) h2 fun b hb => .inl hb, h3.imp_right fun h x hx' => Nat.le_trans hx.size (h x hx')⟩

theorem RibNew.put {ty : TypeId} {rest : List Value} {w W3 : World} {rb : Nat} {L' : List Rt} {v v' : Value} (hw : w.heap[rb]? = some (.cells (v :: rest).toArray ty (0, 0))) (ht : ty ≠ 48) (hx3 : Ext w W3) (ho : OwnR W3 0 v' L') (hb : ∀ x ∈ blks v', w.heap.size ≤ x) :
    RibNew ty rest w rb v L' (W3.setCell ⟨rb, 0, none⟩ v') := by
  have h3 := hx3.heap hw
  have h4 := own_ne ho h3 ht
  have hx : ExtS [rb] W3 (W3.setCell ⟨rb, 0, none⟩ v') := ExtS.setCell (ExtS.refl [rb] W3) (p := ⟨rb, 0, none⟩) (.inl (by simp)) _
  refine ⟨v', ⟨?_, ho.later hx fun g hg e => h4 (by simp only [List.mem_singleton] at e; rwa [e] at hg)⟩, ExtS.then (hx3.toS _) hx fun b hb => .inl hb, .inr hb⟩
  rw [heap_set h3]
  simp

set_option maxHeartbeats 1000000 in
theorem place_in (xb : Nat) (L : List Rt) (ty : TypeId) (rest : List Value) (v : Value) (r : Rt) (w : World) (h : RibIn ty rest w xb v L) (hn : L.length ≤ 1000000) :
    Calls Tryz.prog 72 #[.pointer (some ⟨xb, 0, none⟩), (.agg #[.int .i64 r.t, .int .u32 r.a, .int .i64 r.l, .int .i64 r.i, .int .u32 r.g, .int .i64 r.m])] w fun e w' => e = .returned (.tuple #[.int .i64 (posR L r : Nat), .bool (hereB L r)]) ∧ Ext w w' := by
  obtain ⟨hX, hO⟩ := h
  obtain ⟨p, c, rfl, hc1, -, hR⟩ := hO.slice
  have hA : Ext w (w.alloc (.cells #[.int .i64 r.t, .int .u32 r.a, .int .i64 r.l, .int .i64 r.i, .int .u32 r.g, .int .i64 r.m] 48)) := (Ext.refl w).alloc _
  have HQ : Hid _ := box_rtE (heap_new w (.cells #[.int .i64 r.t, .int .u32 r.a, .int .i64 r.l, .int .i64 r.i, .int .u32 r.g, .int .i64 r.m] 48))
  have HV : Hid (∀ w', Ext w w' → w'.cell? ⟨xb, 0, none⟩ = some (.slice p L.length c)) := fun w' hx => top_cell (hx.heap hX)
  have HR : Hid (Rd w p L.length c L) := hR
  have kb := fun x w => before_any x r w
  have kc := fun x w => before_any r x w
  clear hX hO hR
  go_enter Tryz.func72, Tryz.ntmps72
  go_wp2_with fail
  generalize hW0 : (w.alloc (.cells #[.int .i64 r.t, .int .u32 r.a, .int .i64 r.l, .int .i64 r.i, .int .u32 r.g, .int .i64 r.m] 48)) = W0 at *
  clear hW0
  go_loopw [6] (fun i wr => ∃ k : Nat, k ≤ L.length ∧ i = .int .i64 k ∧ Ext W0 wr ∧ Hid (∀ (j : Nat) (x : Rt), j < k → L[j]? = some x → ltB x r = true)) (fun i _ => L.length - (intOf i).toNat)
  case atStart => exact ⟨0, Nat.zero_le _, rfl, Ext.refl _, (fun j x hj => by omega : ∀ (j : Nat) (x : Rt), j < 0 → L[j]? = some x → ltB x r = true)⟩
  case round =>
    obtain ⟨k, hk, rfl, hx, HK⟩ := hrel
    obtain ⟨a0, a1, a2, a3, a4, a5⟩ := HQ.out
    have hd := hx.drew
    have t0 := fun w' h => a0 w' (hd.trans h)
    have t1 := fun w' h => a1 w' (hd.trans h)
    have t2 := fun w' h => a2 w' (hd.trans h)
    have t3 := fun w' h => a3 w' (hd.trans h)
    have t4 := fun w' h => a4 w' (hd.trans h)
    have t5 := fun w' h => a5 w' (hd.trans h)
    have v0 : ∀ w', Ext wr.drew w' → w'.cell? ⟨xb, 0, none⟩ = some (.slice p L.length c) := fun w' h => HV.out w' (hA.trans (hd.trans h))
    clear a0 a1 a2 a3 a4 a5
    by_cases hlt : k < L.length
    · obtain ⟨x, hxk⟩ : ∃ x, L[k]? = some x := ⟨_, List.getElem?_eq_getElem hlt⟩
      obtain ⟨b, off, rfl, hb, g0, g1, g2, g3, g4, g5⟩ := (HR.out.ext (hA.trans hd)).cell hxk
      have x0 : ∀ w', Ext wr.drew w' → w'.cell? ⟨b, off + k * 6, none⟩ = some (.int .i64 x.t) := fun w' h => by rw [h.below.cell (p := ⟨b, off + k * 6, none⟩) hb]; exact g0
      have x1 : ∀ w', Ext wr.drew w' → w'.cell? ⟨b, off + k * 6 + 1, none⟩ = some (.int .u32 x.a) := fun w' h => by rw [h.below.cell (p := ⟨b, off + k * 6 + 1, none⟩) hb]; exact g1
      have x2 : ∀ w', Ext wr.drew w' → w'.cell? ⟨b, off + k * 6 + 2, none⟩ = some (.int .i64 x.l) := fun w' h => by rw [h.below.cell (p := ⟨b, off + k * 6 + 2, none⟩) hb]; exact g2
      have x3 : ∀ w', Ext wr.drew w' → w'.cell? ⟨b, off + k * 6 + 3, none⟩ = some (.int .i64 x.i) := fun w' h => by rw [h.below.cell (p := ⟨b, off + k * 6 + 3, none⟩) hb]; exact g3
      have x4 : ∀ w', Ext wr.drew w' → w'.cell? ⟨b, off + k * 6 + 4, none⟩ = some (.int .u32 x.g) := fun w' h => by rw [h.below.cell (p := ⟨b, off + k * 6 + 4, none⟩) hb]; exact g4
      have x5 : ∀ w', Ext wr.drew w' → w'.cell? ⟨b, off + k * 6 + 5, none⟩ = some (.int .i64 x.m) := fun w' h => by rw [h.below.cell (p := ⟨b, off + k * 6 + 5, none⟩) hb]; exact g5
      have k1 := fun w => kb x w
      have k2 := fun w => kc x w
      have HX : Hid _ := hxk
      have hki : (k : Int) < (L.length : Int) := by omega
      clear hxk g0 g1 g2 g3 g4 g5 kb kc
      generalize hz : ltB x r = z at k1
      have HZ : Hid _ := hz
      clear hz
      cases z
      · go_wp2_with fail
        refine wp_region_eager [(0, false), (1, false), (2, false), (3, false), (4, false), (5, false), (6, false), (7, false), (8, false), (9, false), (10, false), (11, false), (12, false), (13, false), (14, false), (15, false), (16, true), (17, false)] (by kernel_rfl) (by kernel_rfl) rfl (by kernel_rfl) (fun _ _ _ _ _ h => h) ?_
        generalize wr.drew = W at *
        iterate 16 (refine wpE_read (v := ?_) rfl (by rfl) ?_ ?_; rotate_left; (focus (intro w' hx; go_simp; first | done | with_reducible rfl)); simp only [Act.put, List.setIfInBounds_toArray, List.set_cons_zero, List.set_cons_succ])
        (refine wpE_call rfl (by rfl) (fun K hK => ?_); go_simp; first
              | (go_at_call 101; refine (k1 _).mono ?_; rintro e w1 ⟨rfl, hx1⟩; refine hK _ _ hx1 ?_; clear hK K))
        iterate 1 (refine wpE_read (v := ?_) rfl (by rfl) ?_ ?_; rotate_left; (focus (intro w' hx; go_simp; first | done | with_reducible rfl)); simp only [Act.put, List.setIfInBounds_toArray, List.set_cons_zero, List.set_cons_succ])
        refine wpE_done ?_
        go_wp2_with fail
        refine wp_region_eager [(0, false), (1, false), (2, false), (3, false), (4, false), (5, false), (6, false), (7, false), (8, false), (9, false), (10, false), (11, false), (12, false), (13, false), (14, false), (15, false), (16, false), (17, true), (18, false), (19, false), (20, false), (21, false)] (by kernel_rfl) (by kernel_rfl) rfl (by kernel_rfl) (fun _ _ _ _ _ h => h) ?_
        have hx2 := hx1.drew
        generalize w1.drew = W2 at *
        replace t0 := fun w' h => t0 w' (hx2.trans h); replace t1 := fun w' h => t1 w' (hx2.trans h); replace t2 := fun w' h => t2 w' (hx2.trans h); replace t3 := fun w' h => t3 w' (hx2.trans h); replace t4 := fun w' h => t4 w' (hx2.trans h); replace t5 := fun w' h => t5 w' (hx2.trans h); replace v0 := fun w' h => v0 w' (hx2.trans h); replace x0 := fun w' h => x0 w' (hx2.trans h); replace x1 := fun w' h => x1 w' (hx2.trans h); replace x2 := fun w' h => x2 w' (hx2.trans h); replace x3 := fun w' h => x3 w' (hx2.trans h); replace x4 := fun w' h => x4 w' (hx2.trans h); replace x5 := fun w' h => x5 w' (hx2.trans h)
        iterate 17 (refine wpE_read (v := ?_) rfl (by rfl) ?_ ?_; rotate_left; (focus (intro w' hx; go_simp; first | done | with_reducible rfl)); simp only [Act.put, List.setIfInBounds_toArray, List.set_cons_zero, List.set_cons_succ])
        (refine wpE_call rfl (by rfl) (fun K hK => ?_); go_simp; first
              | (go_at_call 101; refine (k2 _).mono ?_; rintro e w3 ⟨rfl, hx3⟩; refine hK _ _ hx3 ?_; clear hK K))
        iterate 4 (refine wpE_read (v := ?_) rfl (by rfl) ?_ ?_; rotate_left; (focus (intro w' hx; go_simp; first | done | with_reducible rfl)); simp only [Act.put, List.setIfInBounds_toArray, List.set_cons_zero, List.set_cons_succ])
        refine wpE_done ?_
        go_wp2_with fail
        go_ret2
        have hpos : posR L r = k := twN_unique _ L k hk HK.out (fun y hy => by rw [HX.out] at hy; cases hy; exact HZ.out)
        rw [hpos, here_stop hpos HX.out]
        exact ⟨rfl, hA.trans (hd.trans (hx2.trans hx3))⟩
      · go_wp2_with fail
        refine wp_region_eager [(0, false), (1, false), (2, false), (3, false), (4, false), (5, false), (6, false), (7, false), (8, false), (9, false), (10, false), (11, false), (12, false), (13, false), (14, false), (15, false), (16, true), (17, false)] (by kernel_rfl) (by kernel_rfl) rfl (by kernel_rfl) (fun _ _ _ _ _ h => h) ?_
        generalize wr.drew = W at *
        iterate 16 (refine wpE_read (v := ?_) rfl (by rfl) ?_ ?_; rotate_left; (focus (intro w' hx; go_simp; first | done | with_reducible rfl)); simp only [Act.put, List.setIfInBounds_toArray, List.set_cons_zero, List.set_cons_succ])
        (refine wpE_call rfl (by rfl) (fun K hK => ?_); go_simp; first
              | (go_at_call 101; refine (k1 _).mono ?_; rintro e w1 ⟨rfl, hx1⟩; refine hK _ _ hx1 ?_; clear hK K))
        iterate 1 (refine wpE_read (v := ?_) rfl (by rfl) ?_ ?_; rotate_left; (focus (intro w' hx; go_simp; first | done | with_reducible rfl)); simp only [Act.put, List.setIfInBounds_toArray, List.set_cons_zero, List.set_cons_succ])
        refine wpE_done ?_
        go_wp2_with fail
        go_roundw
        case rel => exact ⟨k + 1, by omega, by go_num, hd.trans hx1, (fun j y hj hy => by
          rcases Nat.lt_or_ge j k with h | h
          · exact HK.out j y h hy
          · obtain rfl : j = k := by omega
            rw [HX.out] at hy; cases hy; exact HZ.out : ∀ (j : Nat) (x : Rt), j < k + 1 → L[j]? = some x → ltB x r = true)⟩
        case measure => simp [intOf]; omega
    · obtain rfl : k = L.length := by omega
      clear kb kc
      go_wp2_with fail
      refine wp_region_eager [(0, false), (1, false), (2, false), (3, false), (4, false), (5, false), (6, false), (7, false), (8, false), (9, false), (10, false), (11, false), (12, false), (13, false), (14, false), (15, false), (16, true), (17, false)] (by kernel_rfl) (by kernel_rfl) rfl (by kernel_rfl) (fun _ _ _ _ _ h => h) ?_
      generalize wr.drew = W at *
      iterate 8 (refine wpE_read (v := ?_) rfl (by rfl) ?_ ?_; rotate_left; (focus (intro w' hx; go_simp; first | done | with_reducible rfl)); simp only [Act.put, List.setIfInBounds_toArray, List.set_cons_zero, List.set_cons_succ])
      iterate 9 (rw [wpE_skip_eq _ rfl (by rfl)]; simp only [Act.put, List.setIfInBounds_toArray, List.set_cons_zero, List.set_cons_succ])
      iterate 1 (refine wpE_read (v := ?_) rfl (by rfl) ?_ ?_; rotate_left; (focus (intro w' hx; go_simp; first | done | with_reducible rfl)); simp only [Act.put, List.setIfInBounds_toArray, List.set_cons_zero, List.set_cons_succ])
      refine wpE_done ?_
      go_wp2_with fail
      refine wp_region_eager [(0, false), (1, false), (2, false), (3, false), (4, false), (5, false), (6, false), (7, false), (8, false), (9, false), (10, false), (11, false), (12, false), (13, false), (14, false), (15, false), (16, false), (17, true), (18, false), (19, false), (20, false), (21, false)] (by kernel_rfl) (by kernel_rfl) rfl (by kernel_rfl) (fun _ _ _ _ _ h => h) ?_
      have hx2 := (Ext.refl W).drew
      generalize W.drew = W2 at *
      replace t0 := fun w' h => t0 w' (hx2.trans h); replace t1 := fun w' h => t1 w' (hx2.trans h); replace t2 := fun w' h => t2 w' (hx2.trans h); replace t3 := fun w' h => t3 w' (hx2.trans h); replace t4 := fun w' h => t4 w' (hx2.trans h); replace t5 := fun w' h => t5 w' (hx2.trans h); replace v0 := fun w' h => v0 w' (hx2.trans h)
      iterate 9 (refine wpE_read (v := ?_) rfl (by rfl) ?_ ?_; rotate_left; (focus (intro w' hx; go_simp; first | done | with_reducible rfl)); simp only [Act.put, List.setIfInBounds_toArray, List.set_cons_zero, List.set_cons_succ])
      iterate 10 (rw [wpE_skip_eq _ rfl (by rfl)]; simp only [Act.put, List.setIfInBounds_toArray, List.set_cons_zero, List.set_cons_succ])
      iterate 3 (refine wpE_read (v := ?_) rfl (by rfl) ?_ ?_; rotate_left; (focus (intro w' hx; go_simp; first | done | with_reducible rfl)); simp only [Act.put, List.setIfInBounds_toArray, List.set_cons_zero, List.set_cons_succ])
      refine wpE_done ?_
      go_wp2_with fail
      go_ret2
      have hpos : posR L r = L.length := twN_unique _ L L.length (Nat.le_refl _) HK.out (fun y hy => by rw [List.getElem?_eq_none (Nat.le_refl _)] at hy; cases hy)
      have hh : hereB L r = false := by rw [here_at, hpos, List.getElem?_eq_none (Nat.le_refl _)]
      rw [hpos, hh]
      exact ⟨rfl, hA.trans (hd.trans hx2)⟩
end Go.Proofs.YtkfhkhgiojpfoaaGreat.Rb

namespace Go.Proofs.YtkfhkhgiojpfoaaGreat.Rb

set_option maxRecDepth 100000

open Go.RowKit Go.Proofs.YtkfhkhgiojpfoaaGreat

set_option linter.unusedVariables false

set_option linter.unusedSimpArgs false

set_option maxHeartbeats 1000000 in
theorem refAdd_hereI (xb : Nat) (L : List Rt) (ty : TypeId) (rest : List Value) (v : Value) (r : Rt) (w : World) (hty : ty ≠ 48) (h : RibIn ty rest w xb v L) (hl : L.length ≤ 256) (k : Nat) (hk : k < L.length)
    (k0 : ∀ w, Calls Tryz.prog 71 #[(.agg #[.int .i64 r.t, .int .u32 r.a, .int .i64 r.l, .int .i64 r.i, .int .u32 r.g, .int .i64 r.m])] w fun e w' => e = .returned (.bool true) ∧ Ext w w')
    (k1 : ∀ w', Ext w w' → Calls Tryz.prog 72 #[.pointer (some ⟨xb, 0, none⟩), (.agg #[.int .i64 r.t, .int .u32 r.a, .int .i64 r.l, .int .i64 r.i, .int .u32 r.g, .int .i64 r.m])] w' fun e w2 => e = .returned (.tuple #[.int .i64 (k : Nat), .bool true]) ∧ Ext w' w2) :
    Calls Tryz.prog 51 #[.pointer (some ⟨xb, 0, none⟩), (.agg #[.int .i64 r.t, .int .u32 r.a, .int .i64 r.l, .int .i64 r.i, .int .u32 r.g, .int .i64 r.m])] w fun e w' => e = .returned (.int .i64 0) ∧ RibNew ty rest w xb v ((L.take k ++ [r]) ++ L.drop (k + 1)) w' := by
  obtain ⟨hX, hO⟩ := h
  obtain ⟨p, c, hv, hc1, -, hR⟩ := hO.slice
  subst hv
  have hA : Ext w (w.alloc (.cells #[.int .i64 r.t, .int .u32 r.a, .int .i64 r.l, .int .i64 r.i, .int .u32 r.g, .int .i64 r.m] 48)) := (Ext.refl w).alloc _
  have HB : Hid _ := heap_new w (.cells #[.int .i64 r.t, .int .u32 r.a, .int .i64 r.l, .int .i64 r.i, .int .u32 r.g, .int .i64 r.m] 48)
  obtain ⟨q0, q1, q2, q3, q4, q5⟩ := box_rtE HB.out
  have p0 := q0 _ (Ext.refl _)
  have p1 := q1 _ (Ext.refl _)
  have p2 := q2 _ (Ext.refl _)
  have p3 := q3 _ (Ext.refl _)
  have p4 := q4 _ (Ext.refl _)
  have p5 := q5 _ (Ext.refl _)
  have HX : Hid _ := hX
  have HO : Hid (OwnR w 0 (.slice p L.length c) L) := hO
  have u1 : ∀ w, (Instr.slice 22 (.slice p L.length c) none (some (.int .i64 k)) none).run Tryz.prog w = .ok (.slice p k c) w := cut_h p L.length c k (by omega)
  have u2 : ∀ w, (Instr.slice 22 (.slice p L.length c) (some (.int .i64 ((k : Int) + 1))) none none).run Tryz.prog w = .ok (.slice (if c = (k + 1) then p else p.map (·.add ((k + 1) * 6))) (L.length - (k + 1)) (c - (k + 1))) w := cut_l p L.length c (k + 1) (by omega) hc1
  have S1 : Hid (Rd w p k c (L.take k)) := hR.h (by omega) hc1
  have S2 : Hid (Rd w (if c = (k + 1) then p else p.map (·.add ((k + 1) * 6))) (L.length - (k + 1)) (c - (k + 1)) (L.drop (k + 1))) := hR.l (by omega) hc1
  generalize (if c = (k + 1) then p else p.map (·.add ((k + 1) * 6))) = p2' at *
  have wr1 : IntKind.i64.wrap ((k : Int) + 1) = (k : Int) + 1 := wraps_i64 _ (by omega) (by omega)
  clear hX hO hR
  go_enter Tryz.func51, Tryz.ntmps51
  go_wp2_with (first
    | (go_at_call 71; refine (k0 _).mono ?_; rintro e w0 ⟨rfl, hx0⟩; have r0 := q0 _ hx0; have r1 := q1 _ hx0; have r2 := q2 _ hx0; have r3 := q3 _ hx0; have r4 := q4 _ hx0; have r5 := q5 _ hx0)
    | (go_at_call 72; refine (k1 _ (hA.trans hx0)).mono ?_; rintro e w1 ⟨rfl, hx1⟩; have hxw := hA.trans (hx0.trans hx1); have v1 : w1.cell? ⟨xb, 0, none⟩ = some (.slice p L.length c) := (top_cell (hxw.heap HX.out))))
  have HX1 : Hid (w1.heap[xb]? = some (.cells (Value.slice p L.length c :: rest).toArray ty (0, 0))) := hxw.heap HX.out
  have HB1 : Hid (w1.heap[w.heap.size]? = some (.cells #[.int .i64 r.t, .int .u32 r.a, .int .i64 r.l, .int .i64 r.i, .int .u32 r.g, .int .i64 r.m] 48 (0, 0))) := (hx0.trans hx1).heap HB.out
  clear p0 p1 p2 p3 p4 p5 k0 k1 r0 r1 r2 r3 r4 r5 v1 q0 q1 q2 q3 q4 q5
  refine wp_region_makeN w1.heap.size w1.heap.size (Nat.le_refl _) [(1, 0), (2, 0), (3, 0), (4, 0), (5, 0), (6, 0), (8, 0), (0, 3), (9, 3), (0, 2), (7, 1), (9, 2), (10, 4), (11, 0)] (by kernel_rfl) (by kernel_rfl) rfl (by kernel_rfl) (fun _ _ _ _ _ => Iff.rfl) ?_
  have x0 : ∀ w', ExtN w1.heap.size w1.drew w' → w'.cell? ⟨xb, 0, none⟩ = some (.slice p L.length c) := fun w' h => top_cell (h.heap (heap_lt HX1.out) HX1.out)
  have hb : ∀ j w', ExtN w1.heap.size w1.drew w' → w'.cell? ⟨w.heap.size, j, none⟩ = #[.int .i64 r.t, .int .u32 r.a, .int .i64 r.l, .int .i64 r.i, .int .u32 r.g, .int .i64 r.m][j]? := fun j w' h => heap_cell (h.heap (heap_lt HB1.out) HB1.out)
  have t0 : ∀ w', ExtN w1.heap.size w1.drew w' → w'.cell? ⟨w.heap.size, 0, none⟩ = some (.int .i64 r.t) := hb 0
  have t1 : ∀ w', ExtN w1.heap.size w1.drew w' → w'.cell? ⟨w.heap.size, 1, none⟩ = some (.int .u32 r.a) := hb 1
  have t2 : ∀ w', ExtN w1.heap.size w1.drew w' → w'.cell? ⟨w.heap.size, 2, none⟩ = some (.int .i64 r.l) := hb 2
  have t3 : ∀ w', ExtN w1.heap.size w1.drew w' → w'.cell? ⟨w.heap.size, 3, none⟩ = some (.int .i64 r.i) := hb 3
  have t4 : ∀ w', ExtN w1.heap.size w1.drew w' → w'.cell? ⟨w.heap.size, 4, none⟩ = some (.int .u32 r.g) := hb 4
  have t5 : ∀ w', ExtN w1.heap.size w1.drew w' → w'.cell? ⟨w.heap.size, 5, none⟩ = some (.int .i64 r.m) := hb 5
  have hxd : Ext w1 w1.drew := (Ext.refl w1).drew
  clear hb
  generalize w1.drew = W at *
  iterate 7 (refine wpW_read (v := ?_) rfl (by rfl) ?_ ?_; rotate_left; (focus (intro w' hx; go_simp; first | done | with_reducible rfl)); simp only [Act.put, List.setIfInBounds_toArray, List.set_cons_zero, List.set_cons_succ])
  (refine wpW_say _ (fun g => .slice (some ⟨g, 0, none⟩) 0 0) rfl (by rfl) (fun w' => by go_simp; first | done | with_reducible rfl) ?_)
  (refine wpW_say _ (fun g => .slice (some ⟨g, 0, none⟩) 1 1) rfl (by rfl) (fun w' => by go_simp; first | done | with_reducible rfl) ?_)
  refine wpW_make _ (fun g => .slice (some ⟨g, 0, none⟩) 0 0) rfl (by rfl) (fun w' => by go_simp; first | done | with_reducible rfl) ?_; simp only [Act.put, List.setIfInBounds_toArray, List.set_cons_zero, List.set_cons_succ]
  intro W2 g hx2 hg2 hG
  refine wpW_call rfl (by rfl) (fun W3 hx3 K hK => ?_)
  refine wp_lit_rt (.tmp 27) (.tmp 33) rfl g rfl (hx3.heap hG) w1.heap.size hg2 p k c (L.take k) rfl (S1.out.ext (hxw.trans (hxd.trans (hx2.trans hx3)))) (by omega) ?_
  intro v4 W4 ho4 hx4
  refine hK _ _ hx4 ?_
  clear hK K
  simp only [Act.put, List.setIfInBounds_toArray, List.set_cons_zero, List.set_cons_succ]
  refine wpW_make _ (fun g => .slice (some ⟨g, 0, none⟩) 1 1) rfl (by rfl) (fun w' => by go_simp; first | done | with_reducible rfl) ?_; simp only [Act.put, List.setIfInBounds_toArray, List.set_cons_zero, List.set_cons_succ]
  intro W5 g5 hx5 hg5 hG5
  have ho5 := ho4.ext hx5
  have hx15 : Ext w1 W5 := hxd.trans (hx2.trans (hx3.trans (hx4.trans hx5)))
  refine wpW_last rfl (by rfl) (fun K hK => ?_)
  refine wp_app_rt (.tmp 34) (.tmp 36) rfl w1.heap.size v4 (L.take k) [r] rfl ho5 (some ⟨g5, 0, none⟩) 1 1 rfl (rd_lit hG5) (by rw [List.length_take]; omega) hx15.size ?_
  intro v6 W6 ho6 hg6 hat6
  have hn6 := Tri.grown_extN ho5 (Nat.le_refl _) hg6
  refine hK _ _ hn6 ?_
  clear hK K
  simp only [Act.put, List.setIfInBounds_toArray, List.set_cons_zero, List.set_cons_succ]
  (refine wpW_read (v := ?_) rfl (by rfl) ?_ ?_; rotate_left; (focus (intro w' hx; go_simp; first | done | with_reducible rfl)); simp only [Act.put, List.setIfInBounds_toArray, List.set_cons_zero, List.set_cons_succ])
  refine wpW_done ?_
  have hx16 : Ext w1 W6 := ExtN.ext hx15 hn6 (Nat.le_refl _)
  have HO6 : Hid (OwnR W6 w1.heap.size v6 (L.take k ++ [r])) := ho6
  clear x0 t0 t1 t2 t3 t4 t5 hG hG5 hg2 hg5 hx2 hx3 hx4 hx5 hxd ho4 ho5 hx15 hn6 hg6 ho6 hat6
  have v16 : W6.cell? ⟨xb, 0, none⟩ = some (.slice p L.length c) := top_cell (hx16.heap HX1.out)
  go_wp2_with (at_builtin; refine wpList_want rfl (fun K hK => wp_app_rt (.tmp 42) (.tmp 48) rfl w1.heap.size v6 (L.take k ++ [r]) (L.drop (k + 1)) rfl HO6.out p2' (L.length - (k + 1)) (c - (k + 1)) rfl (S2.out.ext (hxw.trans hx16)) (by rw [List.length_append, List.length_take, List.length_cons, List.length_nil]; omega) hx16.size ?_); intro v8 W8 ho8 hg8 hat8; have hN8 := Tri.grown_extN HO6.out (Nat.le_refl _) hg8; have hx18 : Ext w1 W8 := ExtN.ext hx16 hN8 (Nat.le_refl _); obtain ⟨p8, c8, hv8, -, -, -⟩ := ho8.slice; subst hv8; have HO8 : Hid (OwnR W8 w1.heap.size (.slice p8 ((L.take k ++ [r]) ++ L.drop (k + 1)).length c8) ((L.take k ++ [r]) ++ L.drop (k + 1))) := ho8; have e0 : W8.cell? ⟨xb, 0, none⟩ = some (.slice p L.length c) := (top_cell (hx18.heap HX1.out)); have f0 : W8.frozen? ⟨xb, 0, none⟩ = false := heap_frozen (hx18.heap HX1.out); clear ho8 hg8 hat8 hN8; generalize ((L.take k ++ [r]) ++ L.drop (k + 1)).length = n' at *; refine hK _ _ ?_; clear hK K)
  go_ret
  refine ⟨rfl, RibNew.from hxw ?_⟩
  exact RibNew.put HX1.out hty hx18 (HO8.out.base (Nat.zero_le _)) (fun x hx => (HO8.out.lt x hx).1)

set_option maxHeartbeats 1000000 in
theorem refAdd_newI (xb : Nat) (L : List Rt) (ty : TypeId) (rest : List Value) (v : Value) (r : Rt) (w : World) (hty : ty ≠ 48) (h : RibIn ty rest w xb v L) (hl : L.length ≤ 256) (k : Nat) (hk : k ≤ L.length) (hroom : L.length < 256)
    (k0 : ∀ w, Calls Tryz.prog 71 #[(.agg #[.int .i64 r.t, .int .u32 r.a, .int .i64 r.l, .int .i64 r.i, .int .u32 r.g, .int .i64 r.m])] w fun e w' => e = .returned (.bool true) ∧ Ext w w')
    (k1 : ∀ w', Ext w w' → Calls Tryz.prog 72 #[.pointer (some ⟨xb, 0, none⟩), (.agg #[.int .i64 r.t, .int .u32 r.a, .int .i64 r.l, .int .i64 r.i, .int .u32 r.g, .int .i64 r.m])] w' fun e w2 => e = .returned (.tuple #[.int .i64 (k : Nat), .bool false]) ∧ Ext w' w2) :
    Calls Tryz.prog 51 #[.pointer (some ⟨xb, 0, none⟩), (.agg #[.int .i64 r.t, .int .u32 r.a, .int .i64 r.l, .int .i64 r.i, .int .u32 r.g, .int .i64 r.m])] w fun e w' => e = .returned (.int .i64 0) ∧ RibNew ty rest w xb v ((L.take k ++ [r]) ++ L.drop k) w' := by
  obtain ⟨hX, hO⟩ := h
  obtain ⟨p, c, hv, hc1, -, hR⟩ := hO.slice
  subst hv
  have hA : Ext w (w.alloc (.cells #[.int .i64 r.t, .int .u32 r.a, .int .i64 r.l, .int .i64 r.i, .int .u32 r.g, .int .i64 r.m] 48)) := (Ext.refl w).alloc _
  have HB : Hid _ := heap_new w (.cells #[.int .i64 r.t, .int .u32 r.a, .int .i64 r.l, .int .i64 r.i, .int .u32 r.g, .int .i64 r.m] 48)
  obtain ⟨q0, q1, q2, q3, q4, q5⟩ := box_rtE HB.out
  have p0 := q0 _ (Ext.refl _)
  have p1 := q1 _ (Ext.refl _)
  have p2 := q2 _ (Ext.refl _)
  have p3 := q3 _ (Ext.refl _)
  have p4 := q4 _ (Ext.refl _)
  have p5 := q5 _ (Ext.refl _)
  have HX : Hid _ := hX
  have HO : Hid (OwnR w 0 (.slice p L.length c) L) := hO
  have u1 : ∀ w, (Instr.slice 22 (.slice p L.length c) none (some (.int .i64 k)) none).run Tryz.prog w = .ok (.slice p k c) w := cut_h p L.length c k (by omega)
  have u2 : ∀ w, (Instr.slice 22 (.slice p L.length c) (some (.int .i64 ((k : Int)))) none none).run Tryz.prog w = .ok (.slice (if c = k then p else p.map (·.add (k * 6))) (L.length - k) (c - k)) w := cut_l p L.length c k (by omega) hc1
  have S1 : Hid (Rd w p k c (L.take k)) := hR.h (by omega) hc1
  have S2 : Hid (Rd w (if c = k then p else p.map (·.add (k * 6))) (L.length - k) (c - k) (L.drop k)) := hR.l (by omega) hc1
  generalize (if c = k then p else p.map (·.add (k * 6))) = p2' at *
  have wr1 : IntKind.i64.wrap ((k : Int) + 1) = (k : Int) + 1 := wraps_i64 _ (by omega) (by omega)
  have hcap : (L.length : Int) < 256 := by omega
  clear hX hO hR
  go_enter Tryz.func51, Tryz.ntmps51
  go_wp2_with (first
    | (go_at_call 71; refine (k0 _).mono ?_; rintro e w0 ⟨rfl, hx0⟩; have r0 := q0 _ hx0; have r1 := q1 _ hx0; have r2 := q2 _ hx0; have r3 := q3 _ hx0; have r4 := q4 _ hx0; have r5 := q5 _ hx0)
    | (go_at_call 72; refine (k1 _ (hA.trans hx0)).mono ?_; rintro e w1 ⟨rfl, hx1⟩; have hxw := hA.trans (hx0.trans hx1); have v1 : w1.cell? ⟨xb, 0, none⟩ = some (.slice p L.length c) := (top_cell (hxw.heap HX.out))))
  have HX1 : Hid (w1.heap[xb]? = some (.cells (Value.slice p L.length c :: rest).toArray ty (0, 0))) := hxw.heap HX.out
  have HB1 : Hid (w1.heap[w.heap.size]? = some (.cells #[.int .i64 r.t, .int .u32 r.a, .int .i64 r.l, .int .i64 r.i, .int .u32 r.g, .int .i64 r.m] 48 (0, 0))) := (hx0.trans hx1).heap HB.out
  clear p0 p1 p2 p3 p4 p5 k0 k1 r0 r1 r2 r3 r4 r5 v1 q0 q1 q2 q3 q4 q5
  refine wp_region_makeN w1.heap.size w1.heap.size (Nat.le_refl _) [(1, 0), (2, 0), (3, 0), (4, 0), (5, 0), (6, 0), (8, 0), (0, 3), (9, 3), (0, 2), (7, 1), (9, 2), (10, 4), (11, 0)] (by kernel_rfl) (by kernel_rfl) rfl (by kernel_rfl) (fun _ _ _ _ _ => Iff.rfl) ?_
  have x0 : ∀ w', ExtN w1.heap.size w1.drew w' → w'.cell? ⟨xb, 0, none⟩ = some (.slice p L.length c) := fun w' h => top_cell (h.heap (heap_lt HX1.out) HX1.out)
  have hb : ∀ j w', ExtN w1.heap.size w1.drew w' → w'.cell? ⟨w.heap.size, j, none⟩ = #[.int .i64 r.t, .int .u32 r.a, .int .i64 r.l, .int .i64 r.i, .int .u32 r.g, .int .i64 r.m][j]? := fun j w' h => heap_cell (h.heap (heap_lt HB1.out) HB1.out)
  have t0 : ∀ w', ExtN w1.heap.size w1.drew w' → w'.cell? ⟨w.heap.size, 0, none⟩ = some (.int .i64 r.t) := hb 0
  have t1 : ∀ w', ExtN w1.heap.size w1.drew w' → w'.cell? ⟨w.heap.size, 1, none⟩ = some (.int .u32 r.a) := hb 1
  have t2 : ∀ w', ExtN w1.heap.size w1.drew w' → w'.cell? ⟨w.heap.size, 2, none⟩ = some (.int .i64 r.l) := hb 2
  have t3 : ∀ w', ExtN w1.heap.size w1.drew w' → w'.cell? ⟨w.heap.size, 3, none⟩ = some (.int .i64 r.i) := hb 3
  have t4 : ∀ w', ExtN w1.heap.size w1.drew w' → w'.cell? ⟨w.heap.size, 4, none⟩ = some (.int .u32 r.g) := hb 4
  have t5 : ∀ w', ExtN w1.heap.size w1.drew w' → w'.cell? ⟨w.heap.size, 5, none⟩ = some (.int .i64 r.m) := hb 5
  have hxd : Ext w1 w1.drew := (Ext.refl w1).drew
  clear hb
  generalize w1.drew = W at *
  iterate 7 (refine wpW_read (v := ?_) rfl (by rfl) ?_ ?_; rotate_left; (focus (intro w' hx; go_simp; first | done | with_reducible rfl)); simp only [Act.put, List.setIfInBounds_toArray, List.set_cons_zero, List.set_cons_succ])
  (refine wpW_say _ (fun g => .slice (some ⟨g, 0, none⟩) 0 0) rfl (by rfl) (fun w' => by go_simp; first | done | with_reducible rfl) ?_)
  (refine wpW_say _ (fun g => .slice (some ⟨g, 0, none⟩) 1 1) rfl (by rfl) (fun w' => by go_simp; first | done | with_reducible rfl) ?_)
  refine wpW_make _ (fun g => .slice (some ⟨g, 0, none⟩) 0 0) rfl (by rfl) (fun w' => by go_simp; first | done | with_reducible rfl) ?_; simp only [Act.put, List.setIfInBounds_toArray, List.set_cons_zero, List.set_cons_succ]
  intro W2 g hx2 hg2 hG
  refine wpW_call rfl (by rfl) (fun W3 hx3 K hK => ?_)
  refine wp_lit_rt (.tmp 27) (.tmp 33) rfl g rfl (hx3.heap hG) w1.heap.size hg2 p k c (L.take k) rfl (S1.out.ext (hxw.trans (hxd.trans (hx2.trans hx3)))) (by omega) ?_
  intro v4 W4 ho4 hx4
  refine hK _ _ hx4 ?_
  clear hK K
  simp only [Act.put, List.setIfInBounds_toArray, List.set_cons_zero, List.set_cons_succ]
  refine wpW_make _ (fun g => .slice (some ⟨g, 0, none⟩) 1 1) rfl (by rfl) (fun w' => by go_simp; first | done | with_reducible rfl) ?_; simp only [Act.put, List.setIfInBounds_toArray, List.set_cons_zero, List.set_cons_succ]
  intro W5 g5 hx5 hg5 hG5
  have ho5 := ho4.ext hx5
  have hx15 : Ext w1 W5 := hxd.trans (hx2.trans (hx3.trans (hx4.trans hx5)))
  refine wpW_last rfl (by rfl) (fun K hK => ?_)
  refine wp_app_rt (.tmp 34) (.tmp 36) rfl w1.heap.size v4 (L.take k) [r] rfl ho5 (some ⟨g5, 0, none⟩) 1 1 rfl (rd_lit hG5) (by rw [List.length_take]; omega) hx15.size ?_
  intro v6 W6 ho6 hg6 hat6
  have hn6 := Tri.grown_extN ho5 (Nat.le_refl _) hg6
  refine hK _ _ hn6 ?_
  clear hK K
  simp only [Act.put, List.setIfInBounds_toArray, List.set_cons_zero, List.set_cons_succ]
  (refine wpW_read (v := ?_) rfl (by rfl) ?_ ?_; rotate_left; (focus (intro w' hx; go_simp; first | done | with_reducible rfl)); simp only [Act.put, List.setIfInBounds_toArray, List.set_cons_zero, List.set_cons_succ])
  refine wpW_done ?_
  have hx16 : Ext w1 W6 := ExtN.ext hx15 hn6 (Nat.le_refl _)
  have HO6 : Hid (OwnR W6 w1.heap.size v6 (L.take k ++ [r])) := ho6
  clear x0 t0 t1 t2 t3 t4 t5 hG hG5 hg2 hg5 hx2 hx3 hx4 hx5 hxd ho4 ho5 hx15 hn6 hg6 ho6 hat6
  have v16 : W6.cell? ⟨xb, 0, none⟩ = some (.slice p L.length c) := top_cell (hx16.heap HX1.out)
  go_wp2_with (at_builtin; refine wpList_want rfl (fun K hK => wp_app_rt (.tmp 42) (.tmp 48) rfl w1.heap.size v6 (L.take k ++ [r]) (L.drop k) rfl HO6.out p2' (L.length - k) (c - k) rfl (S2.out.ext (hxw.trans hx16)) (by rw [List.length_append, List.length_take, List.length_cons, List.length_nil]; omega) hx16.size ?_); intro v8 W8 ho8 hg8 hat8; have hN8 := Tri.grown_extN HO6.out (Nat.le_refl _) hg8; have hx18 : Ext w1 W8 := ExtN.ext hx16 hN8 (Nat.le_refl _); obtain ⟨p8, c8, hv8, -, -, -⟩ := ho8.slice; subst hv8; have HO8 : Hid (OwnR W8 w1.heap.size (.slice p8 ((L.take k ++ [r]) ++ L.drop k).length c8) ((L.take k ++ [r]) ++ L.drop k)) := ho8; have e0 : W8.cell? ⟨xb, 0, none⟩ = some (.slice p L.length c) := (top_cell (hx18.heap HX1.out)); have f0 : W8.frozen? ⟨xb, 0, none⟩ = false := heap_frozen (hx18.heap HX1.out); clear ho8 hg8 hat8 hN8; generalize ((L.take k ++ [r]) ++ L.drop k).length = n' at *; refine hK _ _ ?_; clear hK K)
  go_ret
  refine ⟨rfl, RibNew.from hxw ?_⟩
  exact RibNew.put HX1.out hty hx18 (HO8.out.base (Nat.zero_le _)) (fun x hx => (HO8.out.lt x hx).1)

theorem refAdd_in (xb : Nat) (L : List Rt) (ty : TypeId) (rest : List Value) (v : Value) (r : Rt) (w : World) (hty : ty ≠ 48) (h : RibIn ty rest w xb v L) (hl : L.length ≤ 256) (hr : RtOk r) :
    Calls Tryz.prog 51 #[.pointer (some ⟨xb, 0, none⟩), (.agg #[.int .i64 r.t, .int .u32 r.a, .int .i64 r.l, .int .i64 r.i, .int .u32 r.g, .int .i64 r.m])] w fun e w' => e = .returned (.int .i64 (addE L r)) ∧ RibNew ty rest w xb v (addS L r) w' := by
  obtain ⟨-, -, a0, a1, -⟩ := hr
  have k0 := fun w => refIs_any' r w a0 a1
  have k1 := fun w' (hx : Ext w w') => place_in xb L ty rest v r w' (h.ext hx) (by omega)
  unfold addS addE
  cases hi : isR r with
  | false =>
    simp only [Bool.false_eq_true, if_false]
    rw [hi] at k0
    have hA : Ext w (w.alloc (.cells #[.int .i64 r.t, .int .u32 r.a, .int .i64 r.l, .int .i64 r.i, .int .u32 r.g, .int .i64 r.m] 48)) := (Ext.refl w).alloc _
    obtain ⟨q0, q1, q2, q3, q4, q5⟩ := box_rtE (heap_new w (.cells #[.int .i64 r.t, .int .u32 r.a, .int .i64 r.l, .int .i64 r.i, .int .u32 r.g, .int .i64 r.m] 48))
    have p0 := q0 _ (Ext.refl _)
    have p1 := q1 _ (Ext.refl _)
    have p2 := q2 _ (Ext.refl _)
    have p3 := q3 _ (Ext.refl _)
    have p4 := q4 _ (Ext.refl _)
    have p5 := q5 _ (Ext.refl _)
    have H : Hid (RibIn ty rest w xb v L) := h
    clear h hi q0 q1 q2 q3 q4 q5 k1
    go_enter Tryz.func51, Tryz.ntmps51
    go_wp2_with (go_at_call 71; refine (k0 _).mono ?_; rintro e w1 ⟨rfl, hx1⟩)
    go_ret
    exact ⟨rfl, RibNew.same H.out (hA.trans hx1)⟩
  | true =>
    simp only [if_true]
    rw [hi] at k0
    cases hh : hereB L r with
    | true =>
      simp only [if_true]
      rw [hh] at k1
      rw [ins_cut hh]
      have := refAdd_hereI xb L ty rest v r w hty h hl (posR L r) (here_pos hh) k0 k1
      rwa [List.append_assoc, List.singleton_append] at this
    | false =>
      simp only [Bool.false_eq_true, if_false]
      rw [hh] at k1
      by_cases hf : 256 ≤ L.length
      · simp only [hf, if_true]
        have hf' : (256 : Int) ≤ (L.length : Int) := by omega
        obtain ⟨hX, hO⟩ := h
        obtain ⟨p, c, hv, hc1, -, hR⟩ := hO.slice
        subst hv
        have HX : Hid _ := hX
        have HO : Hid (OwnR w 0 (.slice p L.length c) L) := hO
        have hA : Ext w (w.alloc (.cells #[.int .i64 r.t, .int .u32 r.a, .int .i64 r.l, .int .i64 r.i, .int .u32 r.g, .int .i64 r.m] 48)) := (Ext.refl w).alloc _
        obtain ⟨q0, q1, q2, q3, q4, q5⟩ := box_rtE (heap_new w (.cells #[.int .i64 r.t, .int .u32 r.a, .int .i64 r.l, .int .i64 r.i, .int .u32 r.g, .int .i64 r.m] 48))
        have p0 := q0 _ (Ext.refl _)
        have p1 := q1 _ (Ext.refl _)
        have p2 := q2 _ (Ext.refl _)
        have p3 := q3 _ (Ext.refl _)
        have p4 := q4 _ (Ext.refl _)
        have p5 := q5 _ (Ext.refl _)
        generalize posR L r = k at *
        clear hi hX hO hR hh
        go_enter Tryz.func51, Tryz.ntmps51
        go_wp2_with (first
          | (go_at_call 71; refine (k0 _).mono ?_; rintro e w0 ⟨rfl, hx0⟩; have r0 := q0 _ hx0; have r1 := q1 _ hx0; have r2 := q2 _ hx0; have r3 := q3 _ hx0; have r4 := q4 _ hx0; have r5 := q5 _ hx0)
          | (go_at_call 72; refine (k1 _ (hA.trans hx0)).mono ?_; rintro e w1 ⟨rfl, hx1⟩; have hxw := hA.trans (hx0.trans hx1); have v1 : w1.cell? ⟨xb, 0, none⟩ = some (.slice p L.length c) := (top_cell (hxw.heap HX.out))))
        go_ret
        exact ⟨rfl, RibNew.same ⟨HX.out, HO.out⟩ hxw⟩
      · simp only [hf, if_false, if_true]
        rw [ins_new hh]
        have := refAdd_newI xb L ty rest v r w hty h hl (posR L r) (twN_le _ _) (by omega) k0 k1
        rwa [List.append_assoc, List.singleton_append] at this
end Go.Proofs.YtkfhkhgiojpfoaaGreat.Rb
