/- slices.Clone; New, All, Copy, Is, Add, Del. -/
import Derived.Test.YtbchfmadmcppkaaRib4
import Derived.Test.YtbchfmadmcppkaaGrow5
import Derived.Lib.SliceRun
namespace Go.Proofs.Ytbchfmadmcppkaa.Rb
set_option maxRecDepth 100000
open Go.RowKit Go.Proofs.Ytbchfmadmcppkaa
set_option linter.unusedVariables false
set_option linter.unusedSimpArgs false

/-- A new row of the ways L. -/
def RowNew (w : World) (L : List Rt) (e : Ending) (w' : World) : Prop := ∃ v', e = .returned v' ∧ OwnR w' w.heap.size v' L ∧ Ext w w'

theorem clone_any (v : Value) (L : List Rt) (w : World) (hO : OwnR w 0 v L) (hl : L.length ≤ 100000) :
    Calls Try.prog 30 #[v] w (RowNew w L) := by
  obtain ⟨p, c, rfl, h1, h2, hR⟩ := hO.slice
  cases p with
  | none =>
    have hL : L = [] := by
      rcases Tri.Src.cells hR with h0 | ⟨b, off, h0, _⟩
      · exact List.length_eq_zero_iff.1 h0
      · cases h0
    have hc : c = 0 := Tri.Src.nil hR rfl
    subst hL hc
    have en : ∀ w, (binOp .eql 33 (.slice none 0 0) (.slice none 0 0)).run Try.prog w = .ok (.bool true) w := fun w => Lib.run_eql_slice_nil w 33 27 none 0 0 0 0 Try.underlying33
    go_enter Try.func30, Try.ntmps30
    go_wp2_with fail
    go_ret
    exact ⟨_, rfl, OwnR.nil w _, Ext.refl w⟩
  | some ad =>
    have hA : Ext w (w.alloc (.cells #[] 27)) := (Ext.refl w).alloc _
    have HB : Hid _ := heap_new w (.cells #[] 27)
    have HR : Hid _ := hR.ext hA
    have HL : Hid _ := hl
    have en : ∀ w, (binOp .eql 33 (.slice (some ad) L.length c) (.slice none 0 0)).run Try.prog w = .ok (.bool false) w := fun w => Lib.run_eql_slice_nil w 33 27 (some ad) L.length c 0 0 Try.underlying33
    clear hO hR hl
    go_enter Try.func30, Try.ntmps30
    go_wp2_with (at_builtin; refine wpList_want rfl (fun K hK => wp_lit_rt (.tmp 5) (.tmp 6) rfl w.heap.size rfl HB.out w.heap.size (Nat.le_refl _) (some ad) L.length c L rfl HR.out (by have := HL.out; omega) ?_); intro v' w' ho' hx'; refine hK _ _ ?_; clear hK K)
    go_ret
    exact ⟨_, rfl, ho', hA.trans hx'⟩

theorem new_any (w : World) : Calls Try.prog 23 #[] w fun e w' => e = .returned (.pointer (some ⟨w.heap.size, 0, none⟩)) ∧ RibAt 60 w' w.heap.size [] [w.heap.size] ∧ Ext w w' := by
  go_enter Try.func23, Try.ntmps23
  go_wp2
  go_ret
  exact ⟨rfl, ⟨.slice none 0 0, rfl, heap_new w _, OwnR.nil _ _⟩, (Ext.refl w).alloc _⟩

theorem all_any (rb : Nat) (L : List Rt) (F : List Nat) (w : World) (h : RibAt 60 w rb L F) (hl : L.length ≤ 100000) :
    Calls Try.prog 13 #[.pointer (some ⟨rb, 0, none⟩)] w (RowNew w L) := by
  obtain ⟨v, -, hX, hO⟩ := h
  have v0 : w.cell? ⟨rb, 0, none⟩ = some v := by rw [heap_cell hX]; rfl
  have hv := hO.slice
  have c1 := clone_any v L w hO hl
  obtain ⟨p, c, rfl, -, -, -⟩ := hv
  clear hO hX
  go_enter Try.func13, Try.ntmps13
  go_wp2_with (go_at_call 30; refine c1.mono ?_; rintro e w1 ⟨v', rfl, ho1, hx1⟩)
  go_ret
  exact ⟨_, rfl, ho1, hx1⟩

def CopyAns (w : World) (L : List Rt) (e : Ending) (w' : World) : Prop := ∃ db F', e = .returned (.pointer (some ⟨db, 0, none⟩)) ∧ RibAt 60 w' db L F' ∧ Ext w w' ∧ ∀ x ∈ F', w.heap.size ≤ x

theorem copy_any (rb : Nat) (L : List Rt) (F : List Nat) (w : World) (h : RibAt 60 w rb L F) (hl : L.length ≤ 100000) :
    Calls Try.prog 24 #[.pointer (some ⟨rb, 0, none⟩)] w (CopyAns w L) := by
  have c1 := all_any rb L F w h hl
  clear h
  go_enter Try.func24, Try.ntmps24
  go_wp2_with (go_at_call 13; refine c1.mono ?_; rintro e w1 ⟨v', rfl, ho1, hx1⟩; obtain ⟨p', c', hv', -, -, -⟩ := ho1.slice; subst hv'; have HO1 : Hid (OwnR w1 w.heap.size (.slice p' L.length c') L) := ho1; clear ho1)
  go_ret
  refine ⟨w1.heap.size, w1.heap.size :: blks (.slice p' L.length c'), rfl, ⟨_, rfl, heap_new w1 _, (HO1.out.base (Nat.zero_le _)).ext ((Ext.refl w1).alloc _)⟩, hx1.trans ((Ext.refl w1).alloc _), fun x hx => ?_⟩
  rcases List.mem_cons.1 hx with rfl | hx
  · exact hx1.size
  · exact (HO1.out.lt x hx).1

theorem within_any (x t : Int) (w : World) : Calls Try.prog 31 #[.int .i64 x, .int .i64 t] w fun e w' => e = .returned (.bool (decide (0 ≤ x) && decide (x ≤ t))) ∧ Ext w w' := by
  by_cases h : 0 ≤ x
  · go_enter Try.func31, Try.ntmps31
    go_wp2
    go_ret
    exact ⟨by simp [h], Ext.refl w⟩
  · go_enter Try.func31, Try.ntmps31
    go_wp2
    go_ret
    exact ⟨by have h' : ¬ 0 ≤ x := by omega
              simp [h'], Ext.refl w⟩

theorem is_any' (r : Rt) (w : World) (a0 : 0 ≤ r.a) (a1 : r.a ≤ 4294967295) : Calls Try.prog 14 #[(.agg #[.int .i64 r.t, .int .u32 r.a, .int .i64 r.l, .int .i64 r.i, .int .u32 r.g, .int .i64 r.m])] w fun e w' => e = .returned (.bool (isR r)) ∧ Ext w w' := by
  have k1 := fun w => within_any r.t 3 w
  have k2 := fun w => is_any r.a r.l w a0 a1
  have k3 := fun w => within_any r.i 7 w
  have k4 := fun w => within_any r.m 255 w
  have hr : isR r = ((decide (0 ≤ r.t) && decide (r.t ≤ 3)) && (isV r.a r.l && ((decide (0 ≤ r.i) && decide (r.i ≤ 7)) && (decide (0 ≤ r.m) && decide (r.m ≤ 255))))) := rfl
  rw [hr]
  clear hr
  generalize (decide (0 ≤ r.t) && decide (r.t ≤ 3)) = b1 at *
  generalize isV r.a r.l = b2 at *
  generalize (decide (0 ≤ r.i) && decide (r.i ≤ 7)) = b3 at *
  generalize (decide (0 ≤ r.m) && decide (r.m ≤ 255)) = b4 at *
  have hA : Ext w (w.alloc (.cells #[.int .i64 r.t, .int .u32 r.a, .int .i64 r.l, .int .i64 r.i, .int .u32 r.g, .int .i64 r.m] 27)) := (Ext.refl w).alloc _
  obtain ⟨q0, q1, q2, q3, q4, q5⟩ := box_rtE (heap_new w (.cells #[.int .i64 r.t, .int .u32 r.a, .int .i64 r.l, .int .i64 r.i, .int .u32 r.g, .int .i64 r.m] 27))
  have p0 := q0 _ (Ext.refl _)
  cases b1
  · go_enter Try.func14, Try.ntmps14
    go_wp2_with (go_at_call 31; refine (k1 _).mono ?_; rintro e w1 ⟨rfl, hx1⟩)
    go_ret
    exact ⟨rfl, hA.trans hx1⟩
  · cases b2
    · go_enter Try.func14, Try.ntmps14
      go_wp2_with (first
        | (go_at_call 31; refine (k1 _).mono ?_; rintro e w1 ⟨rfl, hx1⟩; have p1 := q1 _ hx1; have p2 := q2 _ hx1)
        | (go_at_call 32; refine (k2 _).mono ?_; rintro e w2 ⟨rfl, hx2⟩))
      go_ret
      exact ⟨rfl, hA.trans (hx1.trans hx2)⟩
    · have tok1 : Hid True := trivial
      cases b3
      · go_enter Try.func14, Try.ntmps14
        go_wp2_with (first
          | (go_at_call 31; clear tok1; refine (k1 _).mono ?_; rintro e w1 ⟨rfl, hx1⟩; have p1 := q1 _ hx1; have p2 := q2 _ hx1)
          | (go_at_call 32; refine (k2 _).mono ?_; rintro e w2 ⟨rfl, hx2⟩; replace hx2 := hx1.trans hx2; have p3 := q3 _ hx2)
          | (go_at_call 31; refine (k3 _).mono ?_; rintro e w3 ⟨rfl, hx3⟩))
        go_ret
        exact ⟨rfl, hA.trans (hx2.trans hx3)⟩
      · have tok2 : Hid True := trivial
        go_enter Try.func14, Try.ntmps14
        go_wp2_with (first
          | (go_at_call 31; clear tok1; refine (k1 _).mono ?_; rintro e w1 ⟨rfl, hx1⟩; have p1 := q1 _ hx1; have p2 := q2 _ hx1)
          | (go_at_call 32; refine (k2 _).mono ?_; rintro e w2 ⟨rfl, hx2⟩; replace hx2 := hx1.trans hx2; have p3 := q3 _ hx2)
          | (go_at_call 31; clear tok2; refine (k3 _).mono ?_; rintro e w3 ⟨rfl, hx3⟩; replace hx3 := hx2.trans hx3; have p5 := q5 _ hx3)
          | (go_at_call 31; refine (k4 _).mono ?_; rintro e w4 ⟨rfl, hx4⟩))
        go_ret
        exact ⟨rfl, hA.trans (hx3.trans hx4)⟩

/-- The Rib has the ways L' now. -/
def RibAns (ty : TypeId) (w : World) (rb : Nat) (F : List Nat) (L' : List Rt) (w' : World) : Prop := ∃ F', RibAt ty w' rb L' F' ∧ ExtS F w w' ∧ ∀ x ∈ F', x ∈ F ∨ w.heap.size ≤ x

theorem RibAns.same {ty : TypeId} {w w' : World} {rb : Nat} {F : List Nat} {L : List Rt} (h : RibAt ty w rb L F) (hx : Ext w w') : RibAns ty w rb F L w' :=
  ⟨F, h.ext hx, hx.toS F, fun x hx => .inl hx⟩

theorem rtCs_set : ∀ {L : List Rt} {k : Nat} {x r : Rt}, L[k]? = some x → Same x r → rtCs (L.set k r) = (rtCs L).set (k * 6 + 5) (.int .i64 r.m)
  | [], k, x, r, h, hs => by simp at h
  | y :: L, 0, x, r, h, hs => by
    obtain rfl : y = x := by simpa using h
    obtain ⟨h1, h2, h3, h4, h5⟩ := hs
    rw [List.set_cons_zero, rtCs_cons, rtCs_cons]
    simp only [rtC, List.cons_append, List.nil_append, List.set_cons_succ, List.set_cons_zero, h1, h2, h3, h4, h5, Nat.zero_mul, Nat.zero_add]
  | y :: L, k + 1, x, r, h, hs => by
    have ih := rtCs_set (L := L) (k := k) (x := x) (r := r) (by simpa using h) hs
    rw [List.set_cons_succ, rtCs_cons, rtCs_cons, ih, List.set_append_right _ _ (by rw [rtC_length]; omega), rtC_length]
    congr 2
    omega

/-- The Metric of a way that is there. -/
theorem OwnR.metric {w : World} {g c : Nat} {L : List Rt} {k : Nat} {x r : Rt} (h : OwnR w 0 (.slice (some ⟨g, 0, none⟩) L.length c) L) (hk : L[k]? = some x) (hs : Same x r) :
    OwnR (w.setCell ⟨g, k * 6 + 5, none⟩ (.int .i64 r.m)) 0 (.slice (some ⟨g, 0, none⟩) L.length c) (L.set k r) := by
  have := (World.ownsRow.stored h (k * 6 + 5) (.int .i64 r.m)).1
  unfold OwnR
  rw [List.length_set, rtCs_set hk hs]
  exact this

set_option maxHeartbeats 1000000 in
theorem add_here (rb : Nat) (L : List Rt) (F : List Nat) (r : Rt) (w : World) (h : RibAt 60 w rb L F) (hg : Good L) (a0 : 0 ≤ r.a) (a1 : r.a ≤ 4294967295) (hi : isR r = true) (hh : hereB L r = true) :
    Calls Try.prog 25 #[.pointer (some ⟨rb, 0, none⟩), (.agg #[.int .i64 r.t, .int .u32 r.a, .int .i64 r.l, .int .i64 r.i, .int .u32 r.g, .int .i64 r.m])] w fun e w' => e = .returned (.int .i64 0) ∧ RibAns 60 w rb F (insR L r) w' := by
  have k1 := fun w => is_any' r w a0 a1
  rw [hi] at k1
  have k2 := fun w' (hx : Ext w w') => find_any rb L F r w' (h.ext hx) hg.srt (by have := hg.len; omega)
  rw [hh] at k2
  obtain ⟨x, hx, hsame⟩ := here_same hh
  have hins := ins_here hh
  have hlt := here_pos hh
  have hlen := hg.len
  generalize posR L r = k at *
  obtain ⟨v, rfl, hX, hO⟩ := h
  obtain ⟨g, c, cur, rfl, -, hgb, hc1, hc2, hc3, hc4⟩ := hO.block (by omega)
  have hA : Ext w (w.alloc (.cells #[.int .i64 r.t, .int .u32 r.a, .int .i64 r.l, .int .i64 r.i, .int .u32 r.g, .int .i64 r.m] 27)) := (Ext.refl w).alloc _
  have HQ : Hid _ := box_rtE (heap_new w (.cells #[.int .i64 r.t, .int .u32 r.a, .int .i64 r.l, .int .i64 r.i, .int .u32 r.g, .int .i64 r.m] 27))
  have HX : Hid _ := hX
  have HO : Hid (OwnR w 0 (.slice (some ⟨g, 0, none⟩) L.length c) L) := hO
  have HI : Hid _ := hins
  have HK : Hid (L[k]? = some x ∧ Same x r) := ⟨hx, hsame⟩
  have hcell : ∃ u, w.cell? ⟨g, k * 6 + 5, none⟩ = some u := by
    obtain ⟨p, c', hv, -, -, hR⟩ := hO.slice
    cases hv
    obtain ⟨b, off, hp, -, -, -, -, -, -, g5⟩ := hR.cell hx
    cases hp
    exact ⟨_, by simpa using g5⟩
  obtain ⟨u, hu⟩ := hcell
  have HU : Hid _ := hu
  have HG : Hid _ := hgb
  have hrg : rb ≠ g := by
    intro e
    rw [e, hgb] at hX
    cases hX
  obtain ⟨q0, q1, q2, q3, q4, q5⟩ := HQ.out
  have hW : Ext (w.alloc (.cells #[.int .i64 r.t, .int .u32 r.a, .int .i64 r.l, .int .i64 r.i, .int .u32 r.g, .int .i64 r.m] 27)) (w.alloc (.cells #[.int .i64 r.t, .int .u32 r.a, .int .i64 r.l, .int .i64 r.i, .int .u32 r.g, .int .i64 r.m] 27)) := Ext.refl _
  have p0 := q0 _ hW
  have p1 := q1 _ hW
  have p2 := q2 _ hW
  have p3 := q3 _ hW
  have p4 := q4 _ hW
  have p5 := q5 _ hW
  clear hX hO hins hx hsame hu hgb hc2 hc3 hc4 hg hi hh hW
  go_enter Try.func25, Try.ntmps25
  have hki : (k : Int) < (L.length : Int) := by omega
  go_wp2_with (first
    | (go_at_call 14; refine (k1 _).mono ?_; rintro e w1 ⟨rfl, hx1⟩; have r0 := q0 _ hx1; have r1 := q1 _ hx1; have r2 := q2 _ hx1; have r3 := q3 _ hx1; have r4 := q4 _ hx1; have r5 := q5 _ hx1)
    | (go_at_call 40; refine (k2 _ (hA.trans hx1)).mono ?_; rintro e w2 ⟨rfl, hx2⟩))
  have hE := (hA.trans (hx1.trans hx2)).drew
  have hE0 := (hx1.trans hx2).drew
  clear r0 r1 r2 r3 r4 r5 p0 p1 p2 p3 p4 p5 k1 k2
  refine wp_region_eagerX g [(0, false), (1, false), (2, false), (3, false), (4, false), (5, false), (6, false), (7, false), (8, false), (9, true)] (by kernel_rfl) (by kernel_rfl) rfl (by kernel_rfl) (fun _ _ _ _ _ h => h) ?_
  have hgs : w.heap.size ≠ g := by have := heap_lt HG.out; omega
  have x0 : ∀ w', ExtX g w2.drew w' → w'.cell? ⟨rb, 0, none⟩ = some (.slice (some ⟨g, 0, none⟩) L.length c) := fun w' h => by
    rw [heap_cell ((h.block rb (heap_lt (hE.heap HX.out)) hrg).trans (hE.heap HX.out))]; rfl
  have q : w2.drew.cell? ⟨w.heap.size, 5, none⟩ = some (.int .i64 r.m) := q5 _ hE0
  have x1 : ∀ w', ExtX g w2.drew w' → w'.cell? ⟨w.heap.size, 5, none⟩ = some (.int .i64 r.m) := fun w' h => by
    have hb := h.block w.heap.size (block_lt q) hgs
    rw [← q]
    unfold World.cell?
    rw [hb]
  have hu2 : w2.drew.cell? ⟨g, k * 6 + 5, none⟩ = some u := by rw [hE.below.cell (p := ⟨g, k * 6 + 5, none⟩) (block_lt HU.out)]; exact HU.out
  have hf2 : w2.drew.frozen? ⟨g, k * 6 + 5, none⟩ = false := heap_frozen (hE.heap HG.out)
  have HW : Hid (Ext w w2.drew) := hE
  clear hE hE0 hx1 hx2 q q0 q1 q2 q3 q4 q5
  generalize w2.drew = W at *
  iterate 9 (refine wpE_read (v := ?_) rfl (by rfl) ?_ ?_; rotate_left; (focus (intro w' hx; go_simp; first | done | with_reducible rfl)); simp only [Act.put, List.setIfInBounds_toArray, List.set_cons_zero, List.set_cons_succ])
  refine wpE_call rfl (by rfl) (fun K hK => ?_)
  go_simp
  refine hK _ _ ((ExtX.refl g W).setCell rfl _) ?_
  clear hK K
  refine wpE_done ?_
  go_wp2_with fail
  go_ret
  refine ⟨rfl, rb :: blks (.slice (some ⟨g, 0, none⟩) L.length c), ⟨.slice (some ⟨g, 0, none⟩) L.length c, rfl, ?_, ?_⟩, ?_, fun x hx => .inl hx⟩
  · exact (Below.heap_setCell _ _ _ _ (by exact hrg)).trans (HW.out.heap HX.out)
  · rw [HI.out]
    exact (HO.out.ext HW.out).metric HK.out.1 HK.out.2
  · refine ExtS.then (HW.out.toS _) (ExtS.setCell (ExtS.refl [g] W) (p := ⟨g, k * 6 + 5, none⟩) (.inl (by simp)) _) fun b hb => .inl ?_
    simp only [List.mem_singleton] at hb
    subst hb
    simp [blks, Value.ownBlock]
end Go.Proofs.Ytbchfmadmcppkaa.Rb
