/- Texts joined by a program: Tree6, Tree7, Tree3. -/
import Derived.Test.YtkfhkhgiojpfoaaGreatJ15
namespace Go.Proofs.YtkfhkhgiojpfoaaGreat.Tri

set_option maxRecDepth 100000

open Go.RowKit Go.Proofs.YtkfhkhgiojpfoaaGreat

set_option linter.unusedVariables false

theorem new_any (w : World) : Calls Tryz.prog 45 #[] w fun e w' => e = .returned (.pointer (some ⟨w.heap.size, 0, none⟩)) ∧ w' = w.alloc (.cells #[.pointer none] 103) := by
  go_enter Tryz.func45, Tryz.ntmps45
  go_wp2
  go_ret
  exact ⟨rfl, rfl⟩

theorem three_new (w : World) (o1 o2 o3 : Obj) : (((w.alloc o1).alloc o2).alloc o3).heap[w.heap.size]? = some o1 ∧ (((w.alloc o1).alloc o2).alloc o3).heap[w.heap.size + 1]? = some o2 ∧ (((w.alloc o1).alloc o2).alloc o3).heap[w.heap.size + 2]? = some o3 := by
  have s1 : (w.alloc o1).heap.size = w.heap.size + 1 := by simp
  have s2 : ((w.alloc o1).alloc o2).heap.size = w.heap.size + 2 := by simp
  refine ⟨?_, ?_, ?_⟩
  · exact (((Ext.refl _).alloc o2).alloc o3).heap (heap_new w o1)
  · rw [← s1]; exact ((Ext.refl _).alloc o3).heap (heap_new _ o2)
  · rw [← s2]; exact heap_new _ o3

theorem common_any (a n b m : Int) (w : World) (hp : Vp (a, n)) (hq : Vp (b, m)) :
    Calls Tryz.prog 153 #[.agg #[.int .u32 a, .int .i64 n], .agg #[.int .u32 b, .int .i64 m]] w fun e w' => e = .returned (.agg #[.int .u32 (com (a, n) (b, m)).1, .int .i64 (com (a, n) (b, m)).2]) ∧ Ext w w' := by
  obtain ⟨a0, a1, n0, n1⟩ := hp.bd
  obtain ⟨b0, b1, m0, m1⟩ := hq.bd
  simp only at a0 a1 n0 n1 b0 b1 m0 m1
  have hcm := (com_spec hp hq).2.2.2.2.2
  have hxor := u32_xor a b a0 (by omega) b0 (by omega)
  have hxb := u32_xor_bd a b a0 a1 b0 b1
  have k1 := fun w => Tryz.bits_LeadingZeros32 (bits .xor .u32 a b) w hxb.1 hxb.2
  rw [hxor] at k1
  rw [Int.toNat_natCast] at k1
  have e1 : 32 - (Lib.bitLen (a.toNat ^^^ b.toNat) : Int) = lzV a b := rfl
  have k2 := fun w => norm_any a (comL (a, n) (b, m)) w a0 a1
  rw [e1] at k1
  have hh : holdV (comL (a, n) (b, m)) = comL (a, n) (b, m) := by
    unfold holdV; rw [if_neg (by omega), if_neg (by omega)]
  rw [hh] at k2
  have ec : com (a, n) (b, m) = (normV a (comL (a, n) (b, m)), comL (a, n) (b, m)) := rfl
  rw [ec]
  simp only
  generalize hk : comL (a, n) (b, m) = k at *
  unfold comL min2 at hk
  simp only at hk
  generalize lzV a b = z at *
  generalize normV a k = d at *
  have mn : ∀ w, (Builtin.min_ #[3, 3, 3] 3 #[.int .i64 z, .int .i64 n, .int .i64 m]).run Tryz.prog w = .ok (.int .i64 k) w := fun w => by
    rw [← hk]; simp [Builtin.min_, Builtin.min2]
  obtain ⟨H1, H2, H3⟩ := three_new w (.cells #[.int .u32 a, .int .i64 n] 42) (.cells #[.int .u32 b, .int .i64 m] 42) (.cells #[.int .u32 0, .int .i64 0] 42)
  have hx0 : Ext w (((w.alloc (.cells #[.int .u32 a, .int .i64 n] 42)).alloc (.cells #[.int .u32 b, .int .i64 m] 42)).alloc (.cells #[.int .u32 0, .int .i64 0] 42)) := (((Ext.refl w).alloc _).alloc _).alloc _
  have HH : Hid _ := H3
  clear ec hh e1 hcm hxb hp hq hk H1 H2 H3
  go_enter Tryz.func153, Tryz.ntmps153
  go_wp2_with (first
    | (go_at_call 160; refine (k1 _).mono ?_; rintro e w1 ⟨rfl, rfl⟩)
    | (go_at_call 106; refine (k2 _).mono ?_; rintro e w2 ⟨rfl, hx2⟩; have hh1 := hx2.heap HH.out; have d0 : w2.cell? ⟨w.heap.size + 1 + 1, 0, none⟩ = some (.int .u32 0) := (by rw [heap_cell hh1]; rfl); have d1 : w2.cell? ⟨w.heap.size + 1 + 1, 1, none⟩ = some (.int .i64 0) := (by rw [heap_cell hh1]; rfl); have f0 : w2.frozen? ⟨w.heap.size + 1 + 1, 0, none⟩ = false := heap_frozen hh1; have f1 : w2.frozen? ⟨w.heap.size + 1 + 1, 1, none⟩ = false := heap_frozen hh1; have HH1 : Hid _ := hh1; clear hh1))
  have k3 := heap_set (heap_set HH1.out (k := 0) (.int .u32 d)) (k := 1) (.int .i64 k)
  have d0' : ((w2.setCell ⟨w.heap.size + 1 + 1, 0, none⟩ (.int .u32 d)).setCell ⟨w.heap.size + 1 + 1, 1, none⟩ (.int .i64 k)).cell? ⟨w.heap.size + 1 + 1, 0, none⟩ = some (.int .u32 d) := by rw [heap_cell k3]; rfl
  have d1' : ((w2.setCell ⟨w.heap.size + 1 + 1, 0, none⟩ (.int .u32 d)).setCell ⟨w.heap.size + 1 + 1, 1, none⟩ (.int .i64 k)).cell? ⟨w.heap.size + 1 + 1, 1, none⟩ = some (.int .i64 k) := by rw [heap_cell k3]; rfl
  have hx3 : Ext w ((w2.setCell ⟨w.heap.size + 1 + 1, 0, none⟩ (.int .u32 d)).setCell ⟨w.heap.size + 1 + 1, 1, none⟩ (.int .i64 k)) :=
    ExtX.ext (hx0.trans hx2) (((ExtX.refl (w.heap.size + 1 + 1) w2).setCell (p := ⟨w.heap.size + 1 + 1, 0, none⟩) rfl _).setCell (p := ⟨w.heap.size + 1 + 1, 1, none⟩) rfl _) (by omega)
  clear k3 d0 d1 f0 f1 HH1
  generalize ((w2.setCell ⟨w.heap.size + 1 + 1, 0, none⟩ (.int .u32 d)).setCell ⟨w.heap.size + 1 + 1, 1, none⟩ (.int .i64 k)) = w3 at *
  exact bodyPost_ret (v := .agg #[.int .u32 d, .int .i64 k]) (by simp [results, Tryz.results153, go_sem, d0', d1']) rfl ⟨rfl, hx3⟩

/-- A new node over one that doesn't cover p. -/
theorem above_any (b : Nat) (q : PX) (th : Bool) (u : Int) (pl pr : Option Addr) (c m : Int) (w : World) (hq : Vp q) (hp : Vp (c, m)) (hh : w.heap[b]? = some (ndO q th u pl pr)) :
    Calls Tryz.prog 145 #[.pointer (some ⟨b, 0, none⟩), .agg #[.int .u32 c, .int .i64 m]] w fun e w' => ∃ g, e = .returned (.pointer (some ⟨g, 0, none⟩)) ∧ w.heap.size ≤ g ∧
      w'.heap[g]? = some (ndO (com q (c, m)) false 0 (if halfV q.1 (com q (c, m)).2 = 0 then some ⟨b, 0, none⟩ else none) (if halfV q.1 (com q (c, m)).2 = 0 then none else some ⟨b, 0, none⟩)) ∧ Ext w w' := by
  have k1 := fun w => common_any q.1 q.2 c m w hq hp
  obtain ⟨cv, -, -, -, -, cb⟩ := com_spec hq hp
  have cbd := cv.bd
  have k2 := fun w => half_any q.1 (com q (c, m)).2 w cbd.2.2.1 cbd.2.2.2
  have h01 := half_01 q.1 (com q (c, m)).2
  have eq1 : com (q.1, q.2) (c, m) = com q (c, m) := rfl
  rw [eq1] at k1
  clear eq1 cv cb cbd
  generalize com q (c, m) = cm at *
  obtain ⟨ca, cn⟩ := cm
  obtain ⟨qa, qn⟩ := q
  simp only at *
  generalize halfV qa cn = i at *
  obtain ⟨hx0, hb0, hb1⟩ := boxed2 w (.int .u32 c) (.int .i64 m) 42
  obtain ⟨g0, g1, -, -, -, -⟩ := box_nodeE hh hx0
  have HH : Hid _ := hh
  clear hh
  go_enter Tryz.func145, Tryz.ntmps145
  go_wp2_with fail
  refine wp_region_eager [(0, false), (1, false), (2, false), (3, false), (4, false), (5, true), (6, false), (7, true), (8, false)] (by kernel_rfl) (by kernel_rfl) rfl (by kernel_rfl) (fun _ _ _ _ _ h => h) ?_
  generalize (w.alloc (.cells #[.int .u32 c, .int .i64 m] 42)).drew = W at *
  repeat (first
    | (refine wpE_read (v := ?_) rfl (by rfl) ?_ ?_; rotate_left; (focus (intro w' hx; go_simp; first | done | with_reducible rfl)); simp only [Act.put, List.setIfInBounds_toArray, List.set_cons_zero, List.set_cons_succ])
    | (refine wpE_call rfl (by rfl) (fun K hK => ?_); go_simp; first
        | (go_at_call 153; refine (k1 _).mono ?_; rintro e w1 ⟨rfl, hx1⟩; refine hK _ _ hx1 ?_; clear hK K)
        | (refine hK _ _ ((Ext.refl _).alloc _) ?_; clear hK K)))
  refine wpE_done ?_
  go_wp2_with fail
  have hG := heap_new w1 (.cells #[.int .u32 ca, .int .i64 cn, .bool false, .int .i64 0, .pointer none, .pointer none] 192)
  have HG : Hid ((w1.alloc (.cells #[.int .u32 ca, .int .i64 cn, .bool false, .int .i64 0, .pointer none, .pointer none] 192)).drew.heap[w1.heap.size]? = some (.cells #[.int .u32 ca, .int .i64 cn, .bool false, .int .i64 0, .pointer none, .pointer none] 192 (0, 0))) := hG
  have hxA : Ext w1 (w1.alloc (.cells #[.int .u32 ca, .int .i64 cn, .bool false, .int .i64 0, .pointer none, .pointer none] 192)).drew := ((Ext.refl w1).alloc _).drew
  have hxw : Ext w (w1.alloc (.cells #[.int .u32 ca, .int .i64 cn, .bool false, .int .i64 0, .pointer none, .pointer none] 192)).drew := (hx0.trans hx1).trans hxA
  have hN := hxw.heap HH.out
  clear hb0 hb1 g0 g1 hG
  obtain ⟨g0, -, -, -, -, -⟩ := box_node (F := []) hN (by simp)
  obtain ⟨-, e1, -, -, e4, e5⟩ := box_node (F := []) HG.out (by simp)
  have d4 := e4 _ (ExtS.refl _ _)
  have d5 := e5 _ (ExtS.refl _ _)
  have f4 : (w1.alloc (.cells #[.int .u32 ca, .int .i64 cn, .bool false, .int .i64 0, .pointer none, .pointer none] 192)).drew.frozen? ⟨w1.heap.size, 4, none⟩ = false := heap_frozen HG.out
  have f5 : (w1.alloc (.cells #[.int .u32 ca, .int .i64 cn, .bool false, .int .i64 0, .pointer none, .pointer none] 192)).drew.frozen? ⟨w1.heap.size, 5, none⟩ = false := heap_frozen HG.out
  clear hN HH e4 e5 hxA
  rcases h01 with rfl | rfl
  · refine wp_region_tailS [] [16] [[0, 13, 14, 15, 16], [1, 2, 3, 4, 5, 11, 15, 16], [2, 3, 4, 5, 11, 15, 16], [3, 4, 5, 11, 15, 16], [4, 5, 11, 15, 16], [5, 11, 15, 16], [6, 7, 8, 9, 10, 11, 15, 16], [7, 8, 9, 10, 11, 15, 16], [8, 9, 10, 11, 15, 16], [9, 10, 11, 15, 16], [10, 11, 15, 16], [12, 15, 16], [13, 14, 15, 16], [14, 15, 16], [], [15, 16]] [(0, false), (1, false), (2, false), (3, false), (4, false), (5, false), (6, false), (7, false), (8, false), (9, false), (10, false), (12, false), (13, false), (14, false), (11, true), (15, false)] (by kernel_rfl) (by kernel_rfl) rfl (by kernel_rfl) (fun _ _ _ _ _ h => h) ?_
    generalize (w1.alloc (.cells #[.int .u32 ca, .int .i64 cn, .bool false, .int .i64 0, .pointer none, .pointer none] 192)).drew = W2 at *
    repeat (first
      | (refine wpE_read (v := ?_) rfl (by rfl) ?_ ?_; rotate_left; (focus (intro w' hx; go_simp; first | done | with_reducible rfl)); simp only [Act.put, List.setIfInBounds_toArray, List.set_cons_zero, List.set_cons_succ])
      | (refine wpE_call rfl (by rfl) (fun K hK => ?_); go_simp; first
          | (go_at_call 140; refine (k2 _).mono ?_; rintro e w3 ⟨rfl, rfl⟩; refine hK _ _ (ExtS.refl _ _) ?_; clear hK K)))
    refine wpT_step rfl (by rfl) (fun K hK => ?_)
    go_simp
    refine hK _ _ ?_
    clear hK K
    refine wpT_done ?_
    go_wp2_with fail
    go_ret
    refine ⟨w1.heap.size, rfl, Nat.le_trans hx0.size hx1.size, ?_, ExtX.ext hxw ((ExtX.refl w1.heap.size _).setCell (p := ⟨w1.heap.size, 4, none⟩) rfl _) (Nat.le_trans hx0.size hx1.size)⟩
    rw [heap_set HG.out]
    rfl
  · refine wp_region_tailS [] [16] [[0, 13, 14, 15, 16], [1, 2, 3, 4, 5, 11, 15, 16], [2, 3, 4, 5, 11, 15, 16], [3, 4, 5, 11, 15, 16], [4, 5, 11, 15, 16], [5, 11, 15, 16], [6, 7, 8, 9, 10, 11, 15, 16], [7, 8, 9, 10, 11, 15, 16], [8, 9, 10, 11, 15, 16], [9, 10, 11, 15, 16], [10, 11, 15, 16], [12, 15, 16], [13, 14, 15, 16], [14, 15, 16], [], [15, 16]] [(0, false), (1, false), (2, false), (3, false), (4, false), (5, false), (6, false), (7, false), (8, false), (9, false), (10, false), (12, false), (13, false), (14, false), (11, true), (15, false)] (by kernel_rfl) (by kernel_rfl) rfl (by kernel_rfl) (fun _ _ _ _ _ h => h) ?_
    generalize (w1.alloc (.cells #[.int .u32 ca, .int .i64 cn, .bool false, .int .i64 0, .pointer none, .pointer none] 192)).drew = W2 at *
    repeat (first
      | (refine wpE_read (v := ?_) rfl (by rfl) ?_ ?_; rotate_left; (focus (intro w' hx; go_simp; first | done | with_reducible rfl)); simp only [Act.put, List.setIfInBounds_toArray, List.set_cons_zero, List.set_cons_succ])
      | (refine wpE_call rfl (by rfl) (fun K hK => ?_); go_simp; first
          | (go_at_call 140; refine (k2 _).mono ?_; rintro e w3 ⟨rfl, rfl⟩; refine hK _ _ (ExtS.refl _ _) ?_; clear hK K)))
    refine wpT_step rfl (by rfl) (fun K hK => ?_)
    go_simp
    refine hK _ _ ?_
    clear hK K
    refine wpT_done ?_
    go_wp2_with fail
    go_ret
    refine ⟨w1.heap.size, rfl, Nat.le_trans hx0.size hx1.size, ?_, ExtX.ext hxw ((ExtX.refl w1.heap.size _).setCell (p := ⟨w1.heap.size, 5, none⟩) rfl _) (Nat.le_trans hx0.size hx1.size)⟩
    rw [heap_set HG.out]
    rfl

/-- What must stay in a node's place. -/
theorem needed_any (b : Nat) (q : PX) (th : Bool) (u : Int) (l r : Sh) (F : List Nat) (w : World) (h : At w (.node q th u l r) (some ⟨b, 0, none⟩) F) :
    Calls Tryz.prog 141 #[.pointer (some ⟨b, 0, none⟩)] w fun e w' => ∃ a' F', e = .returned (.pointer a') ∧ w' = w ∧ At w (needS (.node q th u l r)) a' F' ∧ ∀ x ∈ F', x ∈ F := by
  have hA := h
  obtain ⟨b', pl, pr, Fl, Fr, e, hF, hh, hl, hr, _⟩ := h
  obtain rfl : b = b' := by cases e; rfl
  have g2 : w.cell? ⟨b, 2, none⟩ = some (.bool th) := by rw [heap_cell hh]; rfl
  have g4 : w.cell? ⟨b, 4, none⟩ = some (.pointer pl) := by rw [heap_cell hh]; rfl
  have g5 : w.cell? ⟨b, 5, none⟩ = some (.pointer pr) := by rw [heap_cell hh]; rfl
  have n1 : ∀ {t : Sh} {a : Option Addr} {G : List Nat}, At w t a G → (t.isNil = true ∧ a = none ∨ t.isNil = false ∧ ∃ x, a = some x) := by
    intro t a G h
    cases t with
    | nil => exact .inl ⟨rfl, h.1⟩
    | node q th u l r => obtain ⟨b, _, _, _, _, rfl, _⟩ := h; exact .inr ⟨rfl, _, rfl⟩
  have m1 := n1 hl
  have m2 := n1 hr
  clear n1
  have HA : Hid (At w (.node q th u l r) (some ⟨b, 0, none⟩) F) := hA
  have HL : Hid (At w l pl Fl ∧ At w r pr Fr ∧ F = b :: (Fl ++ Fr)) := ⟨hl, hr, hF⟩
  clear hA hl hr hF hh e
  cases th
  · rcases m1 with ⟨i1, rfl⟩ | ⟨i1, x1, rfl⟩
    · have HI : Hid _ := i1
      clear i1
      go_enter Tryz.func141, Tryz.ntmps141
      go_wp2_with fail
      go_ret
      refine ⟨pr, Fr, rfl, rfl, ?_, fun x hx => by rw [HL.out.2.2]; simp [hx]⟩
      simp only [needS, Bool.false_eq_true, if_false, HI.out, if_true]
      exact HL.out.2.1
    · rcases m2 with ⟨i2, rfl⟩ | ⟨i2, x2, rfl⟩
      · have HI : Hid (l.isNil = false ∧ r.isNil = true) := ⟨i1, i2⟩
        clear i1 i2
        go_enter Tryz.func141, Tryz.ntmps141
        go_wp2_with fail
        go_ret
        refine ⟨some x1, Fl, rfl, rfl, ?_, fun x hx => by rw [HL.out.2.2]; simp [hx]⟩
        simp only [needS, Bool.false_eq_true, if_false, HI.out.1, HI.out.2, if_true]
        exact HL.out.1
      · have HI : Hid (l.isNil = false ∧ r.isNil = false) := ⟨i1, i2⟩
        clear i1 i2
        go_enter Tryz.func141, Tryz.ntmps141
        go_wp2_with fail
        go_ret
        refine ⟨some ⟨b, 0, none⟩, F, rfl, rfl, ?_, fun x hx => hx⟩
        simp only [needS, Bool.false_eq_true, if_false, HI.out.1, HI.out.2]
        exact HA.out
  · go_enter Tryz.func141, Tryz.ntmps141
    go_wp2_with fail
    go_ret
    exact ⟨some ⟨b, 0, none⟩, F, rfl, rfl, by simp only [needS, if_true]; exact HA.out, fun x hx => hx⟩
end Go.Proofs.YtkfhkhgiojpfoaaGreat.Tri

namespace Go.Proofs.YtkfhkhgiojpfoaaGreat.Tri

set_option maxRecDepth 100000

open Go.RowKit Go.Proofs.YtkfhkhgiojpfoaaGreat

set_option linter.unusedVariables false

/-- A node whose first half was changed. -/
theorem at_left {w w2 : World} {b : Nat} {q : PX} {th : Bool} {u : Int} {l' r : Sh} {pl pl' pr : Option Addr} {Fl Fl' Fr : List Nat} (hb : w.heap[b]? = some (ndO q th u pl pr)) (hA : At w2 l' pl' Fl') (hr : At w r pr Fr)
    (hx : ExtS Fl w w2) (hn : ∀ x ∈ Fl', x ∈ Fl ∨ w.heap.size ≤ x) (d1 : b ∉ Fl) (d2 : b ∉ Fr) (d3 : ∀ x ∈ Fl, x ∉ Fr) :
    At (w2.setCell ⟨b, 4, none⟩ (.pointer pl')) (.node q th u l' r) (some ⟨b, 0, none⟩) (b :: (Fl' ++ Fr)) ∧ ExtS (b :: (Fl ++ Fr)) w (w2.setCell ⟨b, 4, none⟩ (.pointer pl')) ∧ ∀ x ∈ b :: (Fl' ++ Fr), x ∈ b :: (Fl ++ Fr) ∨ w.heap.size ≤ x := by
  have hbl := heap_lt hb
  have hrl := hr.lt
  have nb : b ∉ Fl' := fun h => by rcases hn b h with h | h; exact d1 h; omega
  have nd : ∀ x ∈ Fl', x ∉ Fr := fun x h h2 => by rcases hn x h with h | h; exact d3 x h h2; have := hrl x h2; omega
  have hs := extS_set w2 b 4 (.pointer pl')
  refine ⟨⟨b, pl', pr, Fl', Fr, rfl, rfl, ?_, hA.later hs (fun x h e => ?_), (hr.later hx (fun x h e => d3 x e h)).later hs (fun x h e => ?_), nb, d2, nd⟩, ?_, fun x h => ?_⟩
  · rw [heap_set (hx.heap d1 hb)]; rfl
  · obtain rfl : x = b := by simpa using e
    exact nb h
  · obtain rfl : x = b := by simpa using e
    exact d2 h
  · exact ExtS.then (hx.mono (fun x h => by simp [h])) hs (fun x h => by simp only [List.mem_singleton] at h; subst h; simp)
  · rcases List.mem_cons.1 h with rfl | h
    · simp
    · rcases List.mem_append.1 h with h | h
      · rcases hn x h with h | h
        · simp [h]
        · exact .inr h
      · simp [h]

theorem at_right {w w2 : World} {b : Nat} {q : PX} {th : Bool} {u : Int} {l r' : Sh} {pl pr pr' : Option Addr} {Fl Fr Fr' : List Nat} (hb : w.heap[b]? = some (ndO q th u pl pr)) (hA : At w2 r' pr' Fr') (hl : At w l pl Fl)
    (hx : ExtS Fr w w2) (hn : ∀ x ∈ Fr', x ∈ Fr ∨ w.heap.size ≤ x) (d1 : b ∉ Fl) (d2 : b ∉ Fr) (d3 : ∀ x ∈ Fl, x ∉ Fr) :
    At (w2.setCell ⟨b, 5, none⟩ (.pointer pr')) (.node q th u l r') (some ⟨b, 0, none⟩) (b :: (Fl ++ Fr')) ∧ ExtS (b :: (Fl ++ Fr)) w (w2.setCell ⟨b, 5, none⟩ (.pointer pr')) ∧ ∀ x ∈ b :: (Fl ++ Fr'), x ∈ b :: (Fl ++ Fr) ∨ w.heap.size ≤ x := by
  have hbl := heap_lt hb
  have hll := hl.lt
  have nb : b ∉ Fr' := fun h => by rcases hn b h with h | h; exact d2 h; omega
  have nd : ∀ x ∈ Fl, x ∉ Fr' := fun x h h2 => by rcases hn x h2 with h2 | h2; exact d3 x h h2; have := hll x h; omega
  have hs := extS_set w2 b 5 (.pointer pr')
  refine ⟨⟨b, pl, pr', Fl, Fr', rfl, rfl, ?_, (hl.later hx (fun x h e => d3 x h e)).later hs (fun x h e => ?_), hA.later hs (fun x h e => ?_), d1, nb, nd⟩, ?_, fun x h => ?_⟩
  · rw [heap_set (hx.heap d2 hb)]; rfl
  · obtain rfl : x = b := by simpa using e
    exact d1 h
  · obtain rfl : x = b := by simpa using e
    exact nb h
  · exact ExtS.then (hx.mono (fun x h => by simp [h])) hs (fun x h => by simp only [List.mem_singleton] at h; subst h; simp)
  · rcases List.mem_cons.1 h with rfl | h
    · simp
    · rcases List.mem_append.1 h with h | h
      · simp [h]
      · rcases hn x h with h | h
        · simp [h]
        · exact .inr h

/-- What put answers. -/
def PutAns (w : World) (F : List Nat) (t' : Sh) (e : Ending) (w' : World) : Prop := ∃ a' F', e = .returned (.pointer a') ∧ At w' t' a' F' ∧ ExtS F w w' ∧ ∀ x ∈ F', x ∈ F ∨ w.heap.size ≤ x

theorem put_nil (c m v : Int) (w : World) : Calls Tryz.prog 121 #[.pointer none, .agg #[.int .u32 c, .int .i64 m], .int .i64 v] w fun e w' => e = .returned (.pointer (some ⟨w.heap.size + 1, 0, none⟩)) ∧ w'.heap[w.heap.size + 1]? = some (ndO (c, m) true v none none) ∧ Ext w w' := by
  have hA : Ext w ((w.alloc (.cells #[.int .u32 c, .int .i64 m] 42)).alloc (.cells #[.int .u32 c, .int .i64 m, .bool true, .int .i64 v, .pointer none, .pointer none] 192)) := ((Ext.refl w).alloc _).alloc _
  have hN : ((w.alloc (.cells #[.int .u32 c, .int .i64 m] 42)).alloc (.cells #[.int .u32 c, .int .i64 m, .bool true, .int .i64 v, .pointer none, .pointer none] 192)).heap[w.heap.size + 1]? = some (.cells #[.int .u32 c, .int .i64 m, .bool true, .int .i64 v, .pointer none, .pointer none] 192 (0, 0)) := by
    have := heap_new (w.alloc (.cells #[.int .u32 c, .int .i64 m] 42)) (.cells #[.int .u32 c, .int .i64 m, .bool true, .int .i64 v, .pointer none, .pointer none] 192)
    rwa [show (w.alloc (.cells #[.int .u32 c, .int .i64 m] 42)).heap.size = w.heap.size + 1 by simp] at this
  have HN : Hid _ := hN
  clear hN
  go_enter Tryz.func121, Tryz.ntmps121
  go_wp2_with fail
  go_ret
  exact ⟨rfl, HN.out, hA⟩

set_option maxHeartbeats 1000000 in
/-- The prefix is the node's own. -/
theorem put_here (b : Nat) (c m v : Int) (th : Bool) (u : Int) (pl pr : Option Addr) (w : World) (c0 : 0 ≤ c) (c1 : c ≤ 4294967295) (hh : w.heap[b]? = some (ndO (c, m) th u pl pr)) :
    Calls Tryz.prog 121 #[.pointer (some ⟨b, 0, none⟩), .agg #[.int .u32 c, .int .i64 m], .int .i64 v] w fun e w' => e = .returned (.pointer (some ⟨b, 0, none⟩)) ∧ w'.heap[b]? = some (ndO (c, m) true v pl pr) ∧ ExtS [b] w w' := by
  have k1 := fun w => covers_any c m c m w c0 c1 c0 c1
  rw [covers_self] at k1
  have eq := fun w => eql_prefix c m c m w
  simp only [beq_self_eq_true, Bool.and_self] at eq
  have eg := eq_guard
  obtain ⟨hx0, hb0, hb1⟩ := boxed2 w (.int .u32 c) (.int .i64 m) 42
  obtain ⟨g0, g1, -, -, -, -⟩ := box_nodeE hh hx0
  have HH : Hid _ := hh
  clear hh
  go_enter Tryz.func121, Tryz.ntmps121
  go_wp2_with fail
  refine wp_region_eager [(0, false), (1, false), (2, false), (3, false), (4, false), (5, true), (6, false)] (by kernel_rfl) (by kernel_rfl) rfl (by kernel_rfl) (fun _ _ _ _ _ h => h) ?_
  generalize (w.alloc (.cells #[.int .u32 c, .int .i64 m] 42)).drew = W at *
  repeat (first
    | (refine wpE_read (v := ?_) rfl (by rfl) ?_ ?_; rotate_left; (focus (intro w' hx; go_simp; first | done | with_reducible rfl)); simp only [Act.put, List.setIfInBounds_toArray, List.set_cons_zero, List.set_cons_succ])
    | (refine wpE_call rfl (by rfl) (fun K hK => ?_); go_simp; first
        | (go_at_call 144; refine (k1 _).mono ?_; rintro e w1 ⟨rfl, hx1⟩; refine hK _ _ hx1 ?_; clear hK K)))
  refine wpE_done ?_
  have e0 := hb0 w1 hx1
  have e1 := hb1 w1 hx1
  have l0 := g0 w1 hx1
  have l1 := g1 w1 hx1
  have hh1 := hx1.heap (hx0.heap HH.out)
  have HH1 : Hid _ := hh1
  have l2 : w1.cell? ⟨b, 2, none⟩ = some (.bool th) := by rw [heap_cell hh1]; rfl
  have l3 : w1.cell? ⟨b, 3, none⟩ = some (.int .i64 u) := by rw [heap_cell hh1]; rfl
  have f2 : w1.frozen? ⟨b, 2, none⟩ = false := heap_frozen hh1
  have f3 : w1.frozen? ⟨b, 3, none⟩ = false := heap_frozen hh1
  clear hb0 hb1 g0 g1 hh1
  go_wp2_with fail
  go_region
  go_wp2_with fail
  go_ret
  have hs := extS_set w1 b 2 (.bool true)
  have hs2 := extS_set (w1.setCell ⟨b, 2, none⟩ (.bool true)) b 3 (.int .i64 v)
  refine ⟨rfl, ?_, ((((hx0.trans hx1).toS [b]).trans hs).trans hs2).drew⟩
  show ((w1.setCell ⟨b, 2, none⟩ (.bool true)).setCell ⟨b, 3, none⟩ (.int .i64 v)).heap[b]? = _
  rw [heap_set (heap_set HH1.out (.bool true)) (.int .i64 v)]
  rfl

def DownAns (b k : Nat) (w : World) (Fk : List Nat) (t' : Sh) (w' : World) : Prop := ∃ w2 a' F', w' = w2.setCell ⟨b, k, none⟩ (.pointer a') ∧ At w2 t' a' F' ∧ ExtS Fk w w2 ∧ ∀ x ∈ F', x ∈ Fk ∨ w.heap.size ≤ x

set_option maxHeartbeats 1000000 in
/-- The way goes on below the node. -/
theorem put_down (b : Nat) (a n c m v i : Int) (th : Bool) (u : Int) (pl pr ka : Option Addr) (Fk : List Nat) (t' : Sh) (w : World) (a0 : 0 ≤ a) (a1 : a ≤ 4294967295) (n0 : 0 ≤ n) (n1 : n ≤ 32) (c0 : 0 ≤ c) (c1 : c ≤ 4294967295)
    (hc : coversV a n c m = true) (hne : (a == c && n == m) = false) (hi : i = 0 ∧ ka = pl ∨ i = 1 ∧ ka = pr) (hv : halfV c n = i) (hh : w.heap[b]? = some (ndO (a, n) th u pl pr)) (hbF : b ∉ Fk) (hF : ∀ x ∈ Fk, x < w.heap.size)
    (kc : ∀ W, Ext w W → Calls Tryz.prog 121 #[.pointer ka, .agg #[.int .u32 c, .int .i64 m], .int .i64 v] W (PutAns W Fk t')) :
    Calls Tryz.prog 121 #[.pointer (some ⟨b, 0, none⟩), .agg #[.int .u32 c, .int .i64 m], .int .i64 v] w fun e w' => e = .returned (.pointer (some ⟨b, 0, none⟩)) ∧
      DownAns b (if i = 0 then 4 else 5) w Fk t' w' := by
  have k1 := fun w => covers_any a n c m w a0 a1 c0 c1
  rw [hc] at k1
  have k2 := fun w => half_any c n w n0 n1
  rw [hv] at k2
  have eq := fun w => eql_prefix a n c m w
  rw [hne] at eq
  have eg := eq_guard
  obtain ⟨hx0, hb0, hb1⟩ := boxed2 w (.int .u32 c) (.int .i64 m) 42
  obtain ⟨g0, g1, -, -, g4, g5⟩ := box_nodeE hh hx0
  have HH : Hid _ := hh
  have hbx : (w.alloc (.cells #[.int .u32 c, .int .i64 m] 42)).drew.heap[w.heap.size]? = some (.cells #[.int .u32 c, .int .i64 m] 42 (0, 0)) := heap_new w _
  have HX : Hid _ := hbx
  have hwF : w.heap.size ∉ Fk := fun h => by have := hF _ h; omega
  clear hh hc hne hv hbx
  go_enter Tryz.func121, Tryz.ntmps121
  go_wp2_with fail
  refine wp_region_eager [(0, false), (1, false), (2, false), (3, false), (4, false), (5, true), (6, false)] (by kernel_rfl) (by kernel_rfl) rfl (by kernel_rfl) (fun _ _ _ _ _ h => h) ?_
  generalize (w.alloc (.cells #[.int .u32 c, .int .i64 m] 42)).drew = W at *
  repeat (first
    | (refine wpE_read (v := ?_) rfl (by rfl) ?_ ?_; rotate_left; (focus (intro w' hx; go_simp; first | done | with_reducible rfl)); simp only [Act.put, List.setIfInBounds_toArray, List.set_cons_zero, List.set_cons_succ])
    | (refine wpE_call rfl (by rfl) (fun K hK => ?_); go_simp; first
        | (go_at_call 144; refine (k1 _).mono ?_; rintro e w1 ⟨rfl, hx1⟩; refine hK _ _ hx1 ?_; clear hK K)))
  refine wpE_done ?_
  go_wp2_with fail
  refine wp_region_eager [(0, false), (1, false), (2, false), (3, false), (4, false), (5, false)] (by kernel_rfl) (by kernel_rfl) rfl (by kernel_rfl) (fun _ _ _ _ _ h => h) ?_
  replace hx1 := hx1.drew
  generalize w1.drew = W1 at *
  replace hb0 := fun w' h => hb0 w' (hx1.trans h); replace hb1 := fun w' h => hb1 w' (hx1.trans h); replace g0 := fun w' h => g0 w' (hx1.trans h); replace g1 := fun w' h => g1 w' (hx1.trans h); replace g4 := fun w' h => g4 w' (hx1.trans h); replace g5 := fun w' h => g5 w' (hx1.trans h)
  repeat (first
    | (refine wpE_read (v := ?_) rfl (by rfl) ?_ ?_; rotate_left; (focus (intro w' hx; go_simp; first | done | with_reducible rfl)); simp only [Act.put, List.setIfInBounds_toArray, List.set_cons_zero, List.set_cons_succ]))
  refine wpE_done ?_
  go_wp2_with fail
  refine wp_region_eager [(0, false), (1, false), (2, false), (3, false), (4, false), (5, false), (6, false), (7, true), (8, false)] (by kernel_rfl) (by kernel_rfl) rfl (by kernel_rfl) (fun _ _ _ _ _ h => h) ?_
  have hx2 := (Ext.refl W1).drew
  generalize W1.drew = W2 at *
  replace hb0 := fun w' h => hb0 w' (hx2.trans h); replace hb1 := fun w' h => hb1 w' (hx2.trans h); replace g0 := fun w' h => g0 w' (hx2.trans h); replace g1 := fun w' h => g1 w' (hx2.trans h); replace g4 := fun w' h => g4 w' (hx2.trans h); replace g5 := fun w' h => g5 w' (hx2.trans h)
  repeat (first
    | (refine wpE_read (v := ?_) rfl (by rfl) ?_ ?_; rotate_left; (focus (intro w' hx; go_simp; first | done | with_reducible rfl)); simp only [Act.put, List.setIfInBounds_toArray, List.set_cons_zero, List.set_cons_succ])
    | (refine wpE_call rfl (by rfl) (fun K hK => ?_); go_simp; first
        | (go_at_call 140; refine (k2 _).mono ?_; rintro e w3 ⟨rfl, rfl⟩; refine hK _ _ (Ext.refl _) ?_; clear hK K)))
  refine wpE_done ?_
  go_wp2_with fail
  clear hb0 hb1 g0 g1 g4 g5
  have hxw : Ext w w3.drew := ((hx0.trans hx1).trans hx2).drew
  have hN := hxw.heap HH.out
  have hP := ((hx1.trans hx2).drew).heap HX.out
  obtain ⟨-, -, -, -, e4, e5⟩ := box_node (F := Fk) hN hbF
  have p0 : ∀ w', ExtS Fk w3.drew w' → w'.cell? ⟨w.heap.size, 0, none⟩ = some (.int .u32 c) := fun w' h => by rw [heap_cell (h.heap hwF hP)]; rfl
  have p1 : ∀ w', ExtS Fk w3.drew w' → w'.cell? ⟨w.heap.size, 1, none⟩ = some (.int .i64 m) := fun w' h => by rw [heap_cell (h.heap hwF hP)]; rfl
  have HN : Hid _ := hN
  clear hN hP HX HH hx0 hx1 hx2
  rcases hi with ⟨rfl, rfl⟩ | ⟨rfl, rfl⟩
  · refine wp_region_tailS Fk [14] [[0, 11, 12, 13, 14], [1, 13, 14], [2, 4, 5, 6, 7, 10, 13, 14], [3, 6, 7, 10, 13, 14], [4, 5, 6, 7, 10, 13, 14], [5, 6, 7, 10, 13, 14], [6, 7, 10, 13, 14], [7, 10, 13, 14], [8, 10, 13, 14], [9, 10, 13, 14], [11, 12, 13, 14], [12, 13, 14], [], [13, 14]] [(0, false), (1, false), (2, false), (3, false), (4, false), (5, false), (6, false), (7, false), (8, false), (9, false), (11, false), (12, false), (10, true), (13, false)] (by kernel_rfl) (by kernel_rfl) rfl (by kernel_rfl) (fun _ _ _ _ _ h => h) ?_
    generalize w3.drew = W4 at *
    repeat (first
      | (refine wpE_read (v := ?_) rfl (by rfl) ?_ ?_; rotate_left; (focus (intro w' hx; go_simp; first | done | with_reducible rfl)); simp only [Act.put, List.setIfInBounds_toArray, List.set_cons_zero, List.set_cons_succ])
      | (refine wpE_call rfl (by rfl) (fun K hK => ?_); go_simp; first
          | (go_at_call 121; refine (kc _ hxw).mono ?_; rintro e w5 ⟨a', F', rfl, hA', hx5, hn'⟩; refine hK _ _ hx5 ?_; clear hK K; have d4 := e4 w5 hx5; have f4 : w5.frozen? ⟨b, 4, none⟩ = false := heap_frozen (hx5.heap hbF HN.out))))
    clear e4 e5 p0 p1
    refine wpT_step rfl (by rfl) (fun K hK => ?_)
    go_simp
    refine hK _ _ ?_
    clear hK K
    refine wpT_done ?_
    go_wp2_with fail
    go_ret
    exact ⟨rfl, w5, a', F', rfl, hA', (hxw.toS Fk).trans hx5, fun x hx => (hn' x hx).imp id (fun h => Nat.le_trans hxw.size h)⟩
  · refine wp_region_tailS Fk [14] [[0, 11, 12, 13, 14], [1, 13, 14], [2, 4, 5, 6, 7, 10, 13, 14], [3, 6, 7, 10, 13, 14], [4, 5, 6, 7, 10, 13, 14], [5, 6, 7, 10, 13, 14], [6, 7, 10, 13, 14], [7, 10, 13, 14], [8, 10, 13, 14], [9, 10, 13, 14], [11, 12, 13, 14], [12, 13, 14], [], [13, 14]] [(0, false), (1, false), (2, false), (3, false), (4, false), (5, false), (6, false), (7, false), (8, false), (9, false), (11, false), (12, false), (10, true), (13, false)] (by kernel_rfl) (by kernel_rfl) rfl (by kernel_rfl) (fun _ _ _ _ _ h => h) ?_
    generalize w3.drew = W4 at *
    repeat (first
      | (refine wpE_read (v := ?_) rfl (by rfl) ?_ ?_; rotate_left; (focus (intro w' hx; go_simp; first | done | with_reducible rfl)); simp only [Act.put, List.setIfInBounds_toArray, List.set_cons_zero, List.set_cons_succ])
      | (refine wpE_call rfl (by rfl) (fun K hK => ?_); go_simp; first
          | (go_at_call 121; refine (kc _ hxw).mono ?_; rintro e w5 ⟨a', F', rfl, hA', hx5, hn'⟩; refine hK _ _ hx5 ?_; clear hK K; have d4 := e5 w5 hx5; have f4 : w5.frozen? ⟨b, 5, none⟩ = false := heap_frozen (hx5.heap hbF HN.out))))
    clear e4 e5 p0 p1
    refine wpT_step rfl (by rfl) (fun K hK => ?_)
    go_simp
    refine hK _ _ ?_
    clear hK K
    refine wpT_done ?_
    go_wp2_with fail
    go_ret
    exact ⟨rfl, w5, a', F', rfl, hA', (hxw.toS Fk).trans hx5, fun x hx => (hn' x hx).imp id (fun h => Nat.le_trans hxw.size h)⟩
set_option maxHeartbeats 1000000 in
/-- A new node over the old one: the prefix's own place. -/
theorem over_here (b : Nat) (a n c m v : Int) (th : Bool) (u : Int) (pl pr ql qr : Option Addr) (w : World) (a0 : 0 ≤ a) (a1 : a ≤ 4294967295) (c0 : 0 ≤ c) (c1 : c ≤ 4294967295)
    (hc : coversV a n c m = false) (hh : w.heap[b]? = some (ndO (a, n) th u pl pr))
    (ka : ∀ W, Ext w W → Calls Tryz.prog 145 #[.pointer (some ⟨b, 0, none⟩), .agg #[.int .u32 c, .int .i64 m]] W fun e w' => ∃ g, e = .returned (.pointer (some ⟨g, 0, none⟩)) ∧ W.heap.size ≤ g ∧ w'.heap[g]? = some (ndO (c, m) false 0 ql qr) ∧ Ext W w') :
    Calls Tryz.prog 121 #[.pointer (some ⟨b, 0, none⟩), .agg #[.int .u32 c, .int .i64 m], .int .i64 v] w fun e w' => ∃ g, e = .returned (.pointer (some ⟨g, 0, none⟩)) ∧ w.heap.size ≤ g ∧ w'.heap[g]? = some (ndO (c, m) true v ql qr) ∧ Ext w w' := by
  have eq := fun w => eql_prefix c m c m w
  simp only [beq_self_eq_true, Bool.and_self] at eq
  have k1 := fun w => covers_any a n c m w a0 a1 c0 c1
  rw [hc] at k1
  have eg := eq_guard
  obtain ⟨hx0, hb0, hb1⟩ := boxed2 w (.int .u32 c) (.int .i64 m) 42
  obtain ⟨g0, g1, -, -, -, -⟩ := box_nodeE hh hx0
  have HH : Hid _ := hh
  clear hh hc
  go_enter Tryz.func121, Tryz.ntmps121
  go_wp2_with fail
  refine wp_region_eager [(0, false), (1, false), (2, false), (3, false), (4, false), (5, true), (6, false)] (by kernel_rfl) (by kernel_rfl) rfl (by kernel_rfl) (fun _ _ _ _ _ h => h) ?_
  generalize (w.alloc (.cells #[.int .u32 c, .int .i64 m] 42)).drew = W at *
  repeat (first
    | (refine wpE_read (v := ?_) rfl (by rfl) ?_ ?_; rotate_left; (focus (intro w' hx; go_simp; first | done | with_reducible rfl)); simp only [Act.put, List.setIfInBounds_toArray, List.set_cons_zero, List.set_cons_succ])
    | (refine wpE_call rfl (by rfl) (fun K hK => ?_); go_simp; first
        | (go_at_call 144; refine (k1 _).mono ?_; rintro e w1 ⟨rfl, hx1⟩; refine hK _ _ hx1 ?_; clear hK K)))
  refine wpE_done ?_
  have y0 := hb0 w1 hx1
  have y1 := hb1 w1 hx1
  go_wp2_with (go_at_call 145; refine (ka _ (hx0.trans hx1)).mono ?_; rintro e w2 ⟨g, rfl, hg, hG, hx2⟩; have HG : Hid _ := hG; clear hG)
  clear y0 y1 g0 g1
  have e0 : w2.cell? ⟨w.heap.size, 0, none⟩ = some (.int .u32 c) := hb0 w2 (hx1.trans hx2)
  have e1 : w2.cell? ⟨w.heap.size, 1, none⟩ = some (.int .i64 m) := hb1 w2 (hx1.trans hx2)
  have l0 : w2.cell? ⟨g, 0, none⟩ = some (.int .u32 c) := by rw [heap_cell HG.out]; rfl
  have l1 : w2.cell? ⟨g, 1, none⟩ = some (.int .i64 m) := by rw [heap_cell HG.out]; rfl
  have l2 : w2.cell? ⟨g, 2, none⟩ = some (.bool false) := by rw [heap_cell HG.out]; rfl
  have l3 : w2.cell? ⟨g, 3, none⟩ = some (.int .i64 0) := by rw [heap_cell HG.out]; rfl
  have f2 : w2.frozen? ⟨g, 2, none⟩ = false := heap_frozen HG.out
  have f3 : w2.frozen? ⟨g, 3, none⟩ = false := heap_frozen HG.out
  clear hb0 hb1
  go_region
  go_wp2_with fail
  go_ret
  have hs := extS_set w2 g 2 (.bool true)
  have hs2 := extS_set (w2.setCell ⟨g, 2, none⟩ (.bool true)) g 3 (.int .i64 v)
  have hwg : w.heap.size ≤ g := Nat.le_trans (hx0.trans hx1).size hg
  refine ⟨g, rfl, hwg, ?_, ((((((hx0.trans hx1).trans hx2).toS [g]).trans hs).trans hs2).ext (by simpa using hwg)).drew⟩
  show ((w2.setCell ⟨g, 2, none⟩ (.bool true)).setCell ⟨g, 3, none⟩ (.int .i64 v)).heap[g]? = _
  rw [heap_set (heap_set HG.out (.bool true)) (.int .i64 v)]
  rfl

def ForkAns (w : World) (c m x y v i : Int) (ql qr : Option Addr) (e : Ending) (w' : World) : Prop := ∃ g h, e = .returned (.pointer (some ⟨g, 0, none⟩)) ∧ w.heap.size ≤ g ∧ g < h ∧ w'.heap[h]? = some (ndO (c, m) true v none none) ∧
  w'.heap[g]? = some (ndO (x, y) false 0 (if i = 0 then some ⟨h, 0, none⟩ else ql) (if i = 0 then qr else some ⟨h, 0, none⟩)) ∧ Ext w w'

set_option maxHeartbeats 1000000 in
/-- A new node over the old one: a fork. -/
theorem over_fork (b : Nat) (a n c m x y v i : Int) (th : Bool) (u : Int) (pl pr ql qr : Option Addr) (w : World) (a0 : 0 ≤ a) (a1 : a ≤ 4294967295) (c0 : 0 ≤ c) (c1 : c ≤ 4294967295) (y0 : 0 ≤ y) (y1 : y ≤ 32)
    (hc : coversV a n c m = false) (hne : (x == c && y == m) = false) (hi : i = 0 ∧ ql = none ∨ i = 1 ∧ qr = none) (hv : halfV c y = i) (hh : w.heap[b]? = some (ndO (a, n) th u pl pr))
    (ka : ∀ W, Ext w W → Calls Tryz.prog 145 #[.pointer (some ⟨b, 0, none⟩), .agg #[.int .u32 c, .int .i64 m]] W fun e w' => ∃ g, e = .returned (.pointer (some ⟨g, 0, none⟩)) ∧ W.heap.size ≤ g ∧ w'.heap[g]? = some (ndO (x, y) false 0 ql qr) ∧ Ext W w') :
    Calls Tryz.prog 121 #[.pointer (some ⟨b, 0, none⟩), .agg #[.int .u32 c, .int .i64 m], .int .i64 v] w (ForkAns w c m x y v i ql qr) := by
  have eq := fun w => eql_prefix x y c m w
  rw [hne] at eq
  have k2 := fun w => half_any c y w y0 y1
  rw [hv] at k2
  have kn := fun w => put_nil c m v w
  clear hne hv
  have k1 := fun w => covers_any a n c m w a0 a1 c0 c1
  rw [hc] at k1
  have eg := eq_guard
  obtain ⟨hx0, hb0, hb1⟩ := boxed2 w (.int .u32 c) (.int .i64 m) 42
  obtain ⟨g0, g1, -, -, -, -⟩ := box_nodeE hh hx0
  have HH : Hid _ := hh
  clear hh hc
  go_enter Tryz.func121, Tryz.ntmps121
  go_wp2_with fail
  refine wp_region_eager [(0, false), (1, false), (2, false), (3, false), (4, false), (5, true), (6, false)] (by kernel_rfl) (by kernel_rfl) rfl (by kernel_rfl) (fun _ _ _ _ _ h => h) ?_
  generalize (w.alloc (.cells #[.int .u32 c, .int .i64 m] 42)).drew = W at *
  repeat (first
    | (refine wpE_read (v := ?_) rfl (by rfl) ?_ ?_; rotate_left; (focus (intro w' hx; go_simp; first | done | with_reducible rfl)); simp only [Act.put, List.setIfInBounds_toArray, List.set_cons_zero, List.set_cons_succ])
    | (refine wpE_call rfl (by rfl) (fun K hK => ?_); go_simp; first
        | (go_at_call 144; refine (k1 _).mono ?_; rintro e w1 ⟨rfl, hx1⟩; refine hK _ _ hx1 ?_; clear hK K)))
  refine wpE_done ?_
  have z0 := hb0 w1 hx1
  have z1 := hb1 w1 hx1
  go_wp2_with (go_at_call 145; refine (ka _ (hx0.trans hx1)).mono ?_; rintro e w2 ⟨g, rfl, hg, hG, hx2⟩; have HG : Hid _ := hG; clear hG)
  clear z0 z1 g0 g1
  refine wp_region_eager [(0, false), (1, false), (2, false), (3, false), (4, false), (5, false)] (by kernel_rfl) (by kernel_rfl) rfl (by kernel_rfl) (fun _ _ _ _ _ h => h) ?_
  have hx3 := (hx1.trans hx2).drew
  have HG3 : Hid (w2.drew.heap[g]? = some (ndO (x, y) false 0 ql qr)) := HG.out
  generalize hW3 : w2.drew = W3 at *
  have hx23 : Ext w2 W3 := by rw [← hW3]; exact (Ext.refl _).drew
  clear hW3
  replace hb0 := fun w' h => hb0 w' (hx3.trans h); replace hb1 := fun w' h => hb1 w' (hx3.trans h)
  obtain ⟨g0, g1, -, -, -, -⟩ := box_nodeE HG3.out (Ext.refl W3)
  repeat (first
    | (refine wpE_read (v := ?_) rfl (by rfl) ?_ ?_; rotate_left; (focus (intro w' hx; go_simp; first | done | with_reducible rfl)); simp only [Act.put, List.setIfInBounds_toArray, List.set_cons_zero, List.set_cons_succ]))
  refine wpE_done ?_
  go_wp2_with fail
  refine wp_region_eager [(0, false), (1, false), (2, false), (3, false), (4, false), (5, false), (6, false), (7, true), (8, false)] (by kernel_rfl) (by kernel_rfl) rfl (by kernel_rfl) (fun _ _ _ _ _ h => h) ?_
  have hx4 := (Ext.refl W3).drew
  generalize W3.drew = W4 at *
  replace hb0 := fun w' h => hb0 w' (hx4.trans h); replace hb1 := fun w' h => hb1 w' (hx4.trans h); replace g0 := fun w' h => g0 w' (hx4.trans h); replace g1 := fun w' h => g1 w' (hx4.trans h)
  repeat (first
    | (refine wpE_read (v := ?_) rfl (by rfl) ?_ ?_; rotate_left; (focus (intro w' hx; go_simp; first | done | with_reducible rfl)); simp only [Act.put, List.setIfInBounds_toArray, List.set_cons_zero, List.set_cons_succ])
    | (refine wpE_call rfl (by rfl) (fun K hK => ?_); go_simp; first
        | (go_at_call 140; refine (k2 _).mono ?_; rintro e w5 ⟨rfl, rfl⟩; refine hK _ _ (Ext.refl _) ?_; clear hK K)))
  refine wpE_done ?_
  go_wp2_with fail
  have hxw : Ext w w5.drew := (((hx0.trans hx3).trans hx4)).drew
  have HN : Hid (w5.drew.heap[g]? = some (ndO (x, y) false 0 ql qr)) := hx4.drew.heap HG3.out
  obtain ⟨-, -, -, -, e4, e5⟩ := box_node (F := []) HN.out (by simp)
  have p0 : ∀ w', ExtS [] w5.drew w' → w'.cell? ⟨w.heap.size, 0, none⟩ = some (.int .u32 c) := fun w' h => hb0 w' ((Ext.refl _).drew.trans (h.ext (by simp)))
  have p1 : ∀ w', ExtS [] w5.drew w' → w'.cell? ⟨w.heap.size, 1, none⟩ = some (.int .i64 m) := fun w' h => hb1 w' ((Ext.refl _).drew.trans (h.ext (by simp)))
  have hwg : w.heap.size ≤ g := Nat.le_trans (hx0.trans hx1).size hg
  have hgl := heap_lt HN.out
  clear hb0 hb1 g0 g1 HG HG3 HH hx0 hx1 hx2 hx3 hx4 hx23 hg
  rcases hi with ⟨rfl, rfl⟩ | ⟨rfl, rfl⟩
  · refine wp_region_tailS [] [14] [[0, 11, 12, 13, 14], [1, 13, 14], [2, 4, 5, 6, 7, 10, 13, 14], [3, 6, 7, 10, 13, 14], [4, 5, 6, 7, 10, 13, 14], [5, 6, 7, 10, 13, 14], [6, 7, 10, 13, 14], [7, 10, 13, 14], [8, 10, 13, 14], [9, 10, 13, 14], [11, 12, 13, 14], [12, 13, 14], [], [13, 14]] [(0, false), (1, false), (2, false), (3, false), (4, false), (5, false), (6, false), (7, false), (8, false), (9, false), (11, false), (12, false), (10, true), (13, false)] (by kernel_rfl) (by kernel_rfl) rfl (by kernel_rfl) (fun _ _ _ _ _ h => h) ?_
    generalize w5.drew = W4 at *
    repeat (first
      | (refine wpE_read (v := ?_) rfl (by rfl) ?_ ?_; rotate_left; (focus (intro w' hx; go_simp; first | done | with_reducible rfl)); simp only [Act.put, List.setIfInBounds_toArray, List.set_cons_zero, List.set_cons_succ])
      | (refine wpE_call rfl (by rfl) (fun K hK => ?_); go_simp; first
          | (go_at_call 121; refine (kn _).mono ?_; rintro e w6 ⟨rfl, hL6, hx6⟩; have HL6 : Hid _ := hL6; clear hL6; refine hK _ _ (hx6.toS _) ?_; clear hK K; have d4 := e4 w6 (hx6.toS _); have f4 : w6.frozen? ⟨g, 4, none⟩ = false := heap_frozen (hx6.heap HN.out))))
    clear e4 e5 p0 p1
    refine wpT_step rfl (by rfl) (fun K hK => ?_)
    go_simp
    refine hK _ _ ?_
    clear hK K
    refine wpT_done ?_
    go_wp2_with fail
    go_ret
    have hs := extS_set w6 g 4 (.pointer (some ⟨W4.heap.size + 1, 0, none⟩))
    refine ⟨g, W4.heap.size + 1, rfl, hwg, by omega, hs.heap (by simp; omega) HL6.out, ?_, (((hxw.trans hx6).toS [g]).trans hs).ext (by simpa using hwg)⟩
    rw [heap_set (hx6.heap HN.out)]
    rfl
  · refine wp_region_tailS [] [14] [[0, 11, 12, 13, 14], [1, 13, 14], [2, 4, 5, 6, 7, 10, 13, 14], [3, 6, 7, 10, 13, 14], [4, 5, 6, 7, 10, 13, 14], [5, 6, 7, 10, 13, 14], [6, 7, 10, 13, 14], [7, 10, 13, 14], [8, 10, 13, 14], [9, 10, 13, 14], [11, 12, 13, 14], [12, 13, 14], [], [13, 14]] [(0, false), (1, false), (2, false), (3, false), (4, false), (5, false), (6, false), (7, false), (8, false), (9, false), (11, false), (12, false), (10, true), (13, false)] (by kernel_rfl) (by kernel_rfl) rfl (by kernel_rfl) (fun _ _ _ _ _ h => h) ?_
    generalize w5.drew = W4 at *
    repeat (first
      | (refine wpE_read (v := ?_) rfl (by rfl) ?_ ?_; rotate_left; (focus (intro w' hx; go_simp; first | done | with_reducible rfl)); simp only [Act.put, List.setIfInBounds_toArray, List.set_cons_zero, List.set_cons_succ])
      | (refine wpE_call rfl (by rfl) (fun K hK => ?_); go_simp; first
          | (go_at_call 121; refine (kn _).mono ?_; rintro e w6 ⟨rfl, hL6, hx6⟩; have HL6 : Hid _ := hL6; clear hL6; refine hK _ _ (hx6.toS _) ?_; clear hK K; have d4 := e5 w6 (hx6.toS _); have f4 : w6.frozen? ⟨g, 5, none⟩ = false := heap_frozen (hx6.heap HN.out))))
    clear e4 e5 p0 p1
    refine wpT_step rfl (by rfl) (fun K hK => ?_)
    go_simp
    refine hK _ _ ?_
    clear hK K
    refine wpT_done ?_
    go_wp2_with fail
    go_ret
    have hs := extS_set w6 g 5 (.pointer (some ⟨W4.heap.size + 1, 0, none⟩))
    refine ⟨g, W4.heap.size + 1, rfl, hwg, by omega, hs.heap (by simp; omega) HL6.out, ?_, (((hxw.trans hx6).toS [g]).trans hs).ext (by simpa using hwg)⟩
    rw [heap_set (hx6.heap HN.out)]
    rfl
end Go.Proofs.YtkfhkhgiojpfoaaGreat.Tri

namespace Go.Proofs.YtkfhkhgiojpfoaaGreat.Tri

set_option maxRecDepth 100000

open Go.RowKit Go.Proofs.YtkfhkhgiojpfoaaGreat

set_option linter.unusedVariables false

/-- What was found: nothing, or a node that is there. -/
def FoundAt (w : World) (fa : Option Addr) (o : Option (PX × Int)) : Prop := match o with
  | none => fa = none
  | some x => ∃ b pl pr, fa = some ⟨b, 0, none⟩ ∧ w.heap[b]? = some (ndO x.1 true x.2 pl pr)

theorem FoundAt.later {w w' : World} (hx : Ext w w') {fa : Option Addr} {o : Option (PX × Int)} (h : FoundAt w fa o) : FoundAt w' fa o := by
  cases o with
  | none => exact h
  | some x => obtain ⟨b, pl, pr, h1, h2⟩ := h; exact ⟨b, pl, pr, h1, hx.heap h2⟩

set_option maxHeartbeats 1000000 in
theorem longest_any (rv root : Option Addr) (t : Sh) (c m : Int) (w : World) (h : Top w rv root) (ht : Is w t root) (hw : WF t) (c0 : 0 ≤ c) (c1 : c ≤ 4294967295) :
    Calls Tryz.prog 139 #[.pointer rv, .agg #[.int .u32 c, .int .i64 m]] w fun e w' => ∃ fa, e = .returned (.pointer fa) ∧ FoundAt w' fa (lastF none (coversS (begS t (c, m)) (c, m))) ∧ Ext w w' := by
  have k1 := fun w' (hx : Ext w w') => first_any rv root t c m w' (h.later hx) (ht.later hx) hw c0 c1
  have hA : Ext w (w.alloc (.cells #[.int .u32 c, .int .i64 m] 42)) := (Ext.refl w).alloc _
  obtain ⟨b0, b1⟩ := box2 (w := w.alloc (.cells #[.int .u32 c, .int .i64 m] 42)) (heap_new w _) (w.heap.size + 1) (by omega)
  have hb0 : ∀ w', Ext (w.alloc (.cells #[.int .u32 c, .int .i64 m] 42)) w' → w'.cell? ⟨w.heap.size, 0, none⟩ = some (.int .u32 c) := fun w' hx => b0 w' (hx.but _)
  have hb1 : ∀ w', Ext (w.alloc (.cells #[.int .u32 c, .int .i64 m] 42)) w' → w'.cell? ⟨w.heap.size, 1, none⟩ = some (.int .i64 m) := fun w' hx => b1 w' (hx.but _)
  clear b0 b1
  have hbw := beg_wf hw (c, m)
  have hbt := beg_twice t (c, m)
  generalize begS t (c, m) = s0 at *
  go_enter Tryz.func139, Tryz.ntmps139
  have hr0 : Ext (w.alloc (.cells #[.int .u32 c, .int .i64 m] 42)) (w.alloc (.cells #[.int .u32 c, .int .i64 m] 42)) := Ext.refl _
  go_wp2_with (go_at_call 151; refine (k1 _ hA).mono ?_; rintro e w1 ⟨na0, rfl, hna, hx1⟩)
  generalize (w.alloc (.cells #[.int .u32 c, .int .i64 m] 42)) = W0 at *
  go_loopg [5, 6] (szS s0) (fun k f n wr => ∃ (fa na : Option Addr) (s : Sh) (acc : Option (PX × Int)), f = .pointer fa ∧ n = .pointer na ∧ Is wr s na ∧ FoundAt wr fa acc ∧ Ext W0 wr ∧ Hid (szS s = k ∧ WF s ∧ covS s (c, m) = s ∧ lastF acc (coversS s (c, m)) = lastF none (coversS s0 (c, m))))
  case atStart => exact ⟨none, na0, s0, none, rfl, rfl, hna, rfl, hx1, ⟨rfl, hbw, hbt, rfl⟩⟩
  case round =>
    obtain ⟨fa, na, s, acc, rfl, rfl, hs, hf, hx, H⟩ := hrel
    clear hna hx1 hbw hbt k1 ht h hr0
    cases s with
    | nil =>
      obtain rfl : na = none := hs
      have HF : Hid _ := hf
      clear hf
      go_wp2_with fail
      go_ret
      refine ⟨fa, rfl, ?_, hA.trans hx⟩
      have := H.out.2.2.2
      rw [← this]
      exact HF.out
    | node q th u l r =>
      obtain ⟨b, pl, pr, rfl, hh, hl, hr⟩ := hs
      obtain ⟨hk, hws, hcs, hlast⟩ := H.out
      have k2 := next_any b q th u l r pl pr c m wr hws c0 c1 hh hl hr
      have g2 : wr.cell? ⟨b, 2, none⟩ = some (.bool th) := by rw [heap_cell hh]; rfl
      have e0 := hb0 wr hx
      have e1 := hb1 wr hx
      have hm := sz_kid (c, m) q th u l r
      have hkw := kid_wf (p := (c, m)) hws
      have hstep := covers_step hcs
      rw [hk] at hm
      have hkt := covS_twice (kidS (c, m) (.node q th u l r)) (c, m)
      generalize covS (kidS (c, m) (.node q th u l r)) (c, m) = s' at *
      have HA : Aside (szS s' < gk ∧ WF s' ∧ covS s' (c, m) = s' ∧ coversS (.node q th u l r) (c, m) = own q th u ++ coversS s' (c, m) ∧ lastF acc (coversS (.node q th u l r) (c, m)) = lastF none (coversS s0 (c, m)) ∧ FoundAt wr fa acc ∧ wr.heap[b]? = some (ndO q th u pl pr)) := ⟨hm, hkw, hkt, hstep, hlast, hf, hh⟩
      clear hk hws hcs hlast hm hkw hstep hkt hf hh hl hr H
      cases th
      · go_wp2_with (go_at_call 152; refine k2.mono ?_; rintro e w2 ⟨na', rfl, hn', hx2⟩)
        obtain ⟨hm, hkw, hkt, hstep, hlast, hf, hh⟩ := HA.out
        go_roundg (szS s')
        case measure => exact hm
        case rel => exact ⟨fa, na', s', acc, rfl, rfl, hn', hf.later hx2, hx.trans hx2, ⟨rfl, hkw, hkt, by rw [← hlast, hstep]; rfl⟩⟩
      · go_wp2_with (go_at_call 152; refine k2.mono ?_; rintro e w2 ⟨na', rfl, hn', hx2⟩)
        obtain ⟨hm, hkw, hkt, hstep, hlast, hf, hh⟩ := HA.out
        go_roundg (szS s')
        case measure => exact hm
        case rel => exact ⟨some ⟨b, 0, none⟩, na', s', some (q, u), rfl, rfl, hn', ⟨b, pl, pr, rfl, hx2.heap hh⟩, hx.trans hx2, ⟨rfl, hkw, hkt, by rw [← hlast, hstep]; rfl⟩⟩

set_option maxHeartbeats 1000000 in
theorem get_any (rv root : Option Addr) (t : Sh) (c m : Int) (w : World) (h : Top w rv root) (ht : Is w t root) (hw : WF t) (c0 : 0 ≤ c) (c1 : c ≤ 4294967295) :
    Calls Tryz.prog 115 #[.pointer rv, .agg #[.int .u32 c, .int .i64 m]] w fun e w' => e = .returned (.tuple #[.int .i64 (getF (lastF none (coversS (begS t (c, m)) (c, m))) (c, m)).1, .bool (getF (lastF none (coversS (begS t (c, m)) (c, m))) (c, m)).2]) ∧ Ext w w' := by
  have k1 := fun w' (hx : Ext w w') => longest_any rv root t c m w' (h.later hx) (ht.later hx) hw c0 c1
  have hA : Ext w (w.alloc (.cells #[.int .u32 c, .int .i64 m] 42)) := (Ext.refl w).alloc _
  obtain ⟨b0, b1⟩ := box2 (w := w.alloc (.cells #[.int .u32 c, .int .i64 m] 42)) (heap_new w _) (w.heap.size + 1) (by omega)
  have hb0 : ∀ w', Ext (w.alloc (.cells #[.int .u32 c, .int .i64 m] 42)) w' → w'.cell? ⟨w.heap.size, 0, none⟩ = some (.int .u32 c) := fun w' hx => b0 w' (hx.but _)
  have hb1 : ∀ w', Ext (w.alloc (.cells #[.int .u32 c, .int .i64 m] 42)) w' → w'.cell? ⟨w.heap.size, 1, none⟩ = some (.int .i64 m) := fun w' hx => b1 w' (hx.but _)
  clear b0 b1
  generalize lastF none (coversS (begS t (c, m)) (c, m)) = o at *
  have hr0 : Ext (w.alloc (.cells #[.int .u32 c, .int .i64 m] 42)) (w.alloc (.cells #[.int .u32 c, .int .i64 m] 42)) := Ext.refl _
  have eg := eq_guard
  cases o with
  | none =>
    go_enter Tryz.func115, Tryz.ntmps115
    go_wp2_with (go_at_call 139; refine (k1 _ hA).mono ?_; rintro e w1 ⟨fa, rfl, hf, hx1⟩; obtain rfl : fa = none := hf)
    generalize (w.alloc (.cells #[.int .u32 c, .int .i64 m] 42)) = W0 at *
    go_region
    go_wp2_with fail
    go_ret2
    exact ⟨rfl, (hA.trans hx1).drew⟩
  | some x =>
    obtain ⟨⟨a, n⟩, u⟩ := x
    have nq := fun w => neq_prefix a n c m w
    have hg : getF (some ((a, n), u)) (c, m) = if (a == c && n == m) = true then (u, true) else (0, false) := by
      simp only [getF, Prod.mk.injEq, Bool.and_eq_true, beq_iff_eq]
    rw [hg]
    clear hg
    generalize (a == c && n == m) = d at *
    go_enter Tryz.func115, Tryz.ntmps115
    go_wp2_with (go_at_call 139; refine (k1 _ hA).mono ?_; rintro e w1 ⟨fa, rfl, hf, hx1⟩; obtain ⟨b, pl, pr, rfl, hh⟩ := hf; obtain ⟨g0, g1, -, g3, -, -⟩ := box_nodeE hh (Ext.refl w1); clear hh)
    generalize (w.alloc (.cells #[.int .u32 c, .int .i64 m] 42)) = W0 at *
    have hr1 := Ext.refl w1
    replace hb0 := hb0 w1 hx1
    replace hb1 := hb1 w1 hx1
    replace g0 := g0 w1 hr1
    replace g1 := g1 w1 hr1
    replace g3 := g3 w1 hr1
    cases d
    · go_region
      go_wp2_with fail
      go_ret2
      exact ⟨rfl, (hA.trans hx1).drew⟩
    · go_region
      go_wp2_with fail
      go_ret2
      exact ⟨rfl, (hA.trans hx1).drew⟩
end Go.Proofs.YtkfhkhgiojpfoaaGreat.Tri
