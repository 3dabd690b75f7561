/- Package trie's New, common, above, needed. -/
import Derived.Test.YtgcnnblngmomhaaTree2
import Derived.Test.YtgcnnblngmomhaaShelf
namespace Go.Proofs.Ytgcnnblngmomhaa.Tri
open Go.RowKit Go.Proofs.Ytgcnnblngmomhaa
set_option linter.unusedVariables false

theorem new_any (w : World) : Calls Try.prog 12 #[] w fun e w' => e = .returned (.pointer (some ⟨w.heap.size, 0, none⟩)) ∧ w' = w.alloc (.cells #[.pointer none] 62) := by
  go_enter Try.func12, Try.ntmps12
  go_wp2
  go_ret
  exact ⟨rfl, rfl⟩

theorem three_new (w : World) (o1 o2 o3 : Obj) : (((w.alloc o1).alloc o2).alloc o3).heap[w.heap.size]? = some o1 ∧ (((w.alloc o1).alloc o2).alloc o3).heap[w.heap.size + 1]? = some o2 ∧ (((w.alloc o1).alloc o2).alloc o3).heap[w.heap.size + 2]? = some o3 := by
  have s1 : (w.alloc o1).heap.size = w.heap.size + 1 := by simp
  have s2 : ((w.alloc o1).alloc o2).heap.size = w.heap.size + 2 := by simp
  refine ⟨?_, ?_, ?_⟩
  · exact (((Ext.refl _).alloc o2).alloc o3).heap (heap_new w o1)
  · rw [← s1]; exact ((Ext.refl _).alloc o3).heap (heap_new _ o2)
  · rw [← s2]; exact heap_new _ o3

theorem common_any (a n b m : Int) (w : World) (hp : Vp (a, n)) (hq : Vp (b, m)) :
    Calls Try.prog 58 #[.agg #[.int .u32 a, .int .i64 n], .agg #[.int .u32 b, .int .i64 m]] w fun e w' => e = .returned (.agg #[.int .u32 (com (a, n) (b, m)).1, .int .i64 (com (a, n) (b, m)).2]) ∧ Ext w w' := by
  obtain ⟨a0, a1, n0, n1⟩ := hp.bd
  obtain ⟨b0, b1, m0, m1⟩ := hq.bd
  simp only at a0 a1 n0 n1 b0 b1 m0 m1
  have hcm := (com_spec hp hq).2.2.2.2.2
  have hxor := u32_xor a b a0 (by omega) b0 (by omega)
  have hxb := u32_xor_bd a b a0 a1 b0 b1
  have k1 := fun w => Try.bits_LeadingZeros32 (bits .xor .u32 a b) w hxb.1 hxb.2
  rw [hxor] at k1
  rw [Int.toNat_natCast] at k1
  have e1 : 32 - (Lib.bitLen (a.toNat ^^^ b.toNat) : Int) = lzV a b := rfl
  have k2 := fun w => norm_any a (comL (a, n) (b, m)) w a0 a1
  rw [e1] at k1
  have hh : holdV (comL (a, n) (b, m)) = comL (a, n) (b, m) := by
    unfold holdV; rw [if_neg (by omega), if_neg (by omega)]
  rw [hh] at k2
  have ec : com (a, n) (b, m) = (normV a (comL (a, n) (b, m)), comL (a, n) (b, m)) := rfl
  rw [ec]
  simp only
  generalize hk : comL (a, n) (b, m) = k at *
  unfold comL min2 at hk
  simp only at hk
  generalize lzV a b = z at *
  generalize normV a k = d at *
  have mn : ∀ w, (Builtin.min_ #[3, 3, 3] 3 #[.int .i64 z, .int .i64 n, .int .i64 m]).run Try.prog w = .ok (.int .i64 k) w := fun w => by
    rw [← hk]; simp [Builtin.min_, Builtin.min2]
  obtain ⟨H1, H2, H3⟩ := three_new w (.cells #[.int .u32 a, .int .i64 n] 32) (.cells #[.int .u32 b, .int .i64 m] 32) (.cells #[.int .u32 0, .int .i64 0] 32)
  have hx0 : Ext w (((w.alloc (.cells #[.int .u32 a, .int .i64 n] 32)).alloc (.cells #[.int .u32 b, .int .i64 m] 32)).alloc (.cells #[.int .u32 0, .int .i64 0] 32)) := (((Ext.refl w).alloc _).alloc _).alloc _
  have HH : Hid _ := H3
  clear ec hh e1 hcm hxb hp hq hk H1 H2 H3
  go_enter Try.func58, Try.ntmps58
  go_wp2_with (first
    | (go_at_call 59; refine (k1 _).mono ?_; rintro e w1 ⟨rfl, rfl⟩)
    | (go_at_call 50; refine (k2 _).mono ?_; rintro e w2 ⟨rfl, hx2⟩; have hh1 := hx2.heap HH.out; have d0 : w2.cell? ⟨w.heap.size + 1 + 1, 0, none⟩ = some (.int .u32 0) := (by rw [heap_cell hh1]; rfl); have d1 : w2.cell? ⟨w.heap.size + 1 + 1, 1, none⟩ = some (.int .i64 0) := (by rw [heap_cell hh1]; rfl); have f0 : w2.frozen? ⟨w.heap.size + 1 + 1, 0, none⟩ = false := heap_frozen hh1; have f1 : w2.frozen? ⟨w.heap.size + 1 + 1, 1, none⟩ = false := heap_frozen hh1; have HH1 : Hid _ := hh1; clear hh1))
  have k3 := heap_set (heap_set HH1.out (k := 0) (.int .u32 d)) (k := 1) (.int .i64 k)
  have d0' : ((w2.setCell ⟨w.heap.size + 1 + 1, 0, none⟩ (.int .u32 d)).setCell ⟨w.heap.size + 1 + 1, 1, none⟩ (.int .i64 k)).cell? ⟨w.heap.size + 1 + 1, 0, none⟩ = some (.int .u32 d) := by rw [heap_cell k3]; rfl
  have d1' : ((w2.setCell ⟨w.heap.size + 1 + 1, 0, none⟩ (.int .u32 d)).setCell ⟨w.heap.size + 1 + 1, 1, none⟩ (.int .i64 k)).cell? ⟨w.heap.size + 1 + 1, 1, none⟩ = some (.int .i64 k) := by rw [heap_cell k3]; rfl
  have hx3 : Ext w ((w2.setCell ⟨w.heap.size + 1 + 1, 0, none⟩ (.int .u32 d)).setCell ⟨w.heap.size + 1 + 1, 1, none⟩ (.int .i64 k)) :=
    ExtX.ext (hx0.trans hx2) (((ExtX.refl (w.heap.size + 1 + 1) w2).setCell (p := ⟨w.heap.size + 1 + 1, 0, none⟩) rfl _).setCell (p := ⟨w.heap.size + 1 + 1, 1, none⟩) rfl _) (by omega)
  clear k3 d0 d1 f0 f1 HH1
  generalize ((w2.setCell ⟨w.heap.size + 1 + 1, 0, none⟩ (.int .u32 d)).setCell ⟨w.heap.size + 1 + 1, 1, none⟩ (.int .i64 k)) = w3 at *
  exact bodyPost_ret (v := .agg #[.int .u32 d, .int .i64 k]) (by simp [results, Try.results58, go_sem, d0', d1']) rfl ⟨rfl, hx3⟩

/-- A new node over one that doesn't cover p. -/
theorem above_any (b : Nat) (q : PX) (th : Bool) (u : Int) (pl pr : Option Addr) (c m : Int) (w : World) (hq : Vp q) (hp : Vp (c, m)) (hh : w.heap[b]? = some (ndO q th u pl pr)) :
    Calls Try.prog 52 #[.pointer (some ⟨b, 0, none⟩), .agg #[.int .u32 c, .int .i64 m]] w fun e w' => ∃ g, e = .returned (.pointer (some ⟨g, 0, none⟩)) ∧ w.heap.size ≤ g ∧
      w'.heap[g]? = some (ndO (com q (c, m)) false 0 (if halfV q.1 (com q (c, m)).2 = 0 then some ⟨b, 0, none⟩ else none) (if halfV q.1 (com q (c, m)).2 = 0 then none else some ⟨b, 0, none⟩)) ∧ Ext w w' := by
  have k1 := fun w => common_any q.1 q.2 c m w hq hp
  obtain ⟨cv, -, -, -, -, cb⟩ := com_spec hq hp
  have cbd := cv.bd
  have k2 := fun w => half_any q.1 (com q (c, m)).2 w cbd.2.2.1 cbd.2.2.2
  have h01 := half_01 q.1 (com q (c, m)).2
  have eq1 : com (q.1, q.2) (c, m) = com q (c, m) := rfl
  rw [eq1] at k1
  clear eq1 cv cb cbd
  generalize com q (c, m) = cm at *
  obtain ⟨ca, cn⟩ := cm
  obtain ⟨qa, qn⟩ := q
  simp only at *
  generalize halfV qa cn = i at *
  obtain ⟨hx0, hb0, hb1⟩ := boxed2 w (.int .u32 c) (.int .i64 m) 32
  obtain ⟨g0, g1, -, -, -, -⟩ := box_nodeE hh hx0
  have HH : Hid _ := hh
  clear hh
  go_enter Try.func52, Try.ntmps52
  go_wp2_with fail
  refine wp_region_eager [(0, false), (1, false), (2, false), (3, false), (4, false), (5, true), (6, false), (7, true), (8, false)] (by kernel_rfl) (by kernel_rfl) rfl (by kernel_rfl) (fun _ _ _ _ _ h => h) ?_
  generalize (w.alloc (.cells #[.int .u32 c, .int .i64 m] 32)).drew = W at *
  repeat (first
    | (refine wpE_read (v := ?_) rfl (by rfl) ?_ ?_; rotate_left; (focus (intro w' hx; go_simp; first | done | with_reducible rfl)); simp only [Act.put, List.setIfInBounds_toArray, List.set_cons_zero, List.set_cons_succ])
    | (refine wpE_call rfl (by rfl) (fun K hK => ?_); go_simp; first
        | (go_at_call 58; refine (k1 _).mono ?_; rintro e w1 ⟨rfl, hx1⟩; refine hK _ _ hx1 ?_; clear hK K)
        | (refine hK _ _ ((Ext.refl _).alloc _) ?_; clear hK K)))
  refine wpE_done ?_
  go_wp2_with fail
  have hG := heap_new w1 (.cells #[.int .u32 ca, .int .i64 cn, .bool false, .int .i64 0, .pointer none, .pointer none] 68)
  have HG : Hid ((w1.alloc (.cells #[.int .u32 ca, .int .i64 cn, .bool false, .int .i64 0, .pointer none, .pointer none] 68)).drew.heap[w1.heap.size]? = some (.cells #[.int .u32 ca, .int .i64 cn, .bool false, .int .i64 0, .pointer none, .pointer none] 68 (0, 0))) := hG
  have hxA : Ext w1 (w1.alloc (.cells #[.int .u32 ca, .int .i64 cn, .bool false, .int .i64 0, .pointer none, .pointer none] 68)).drew := ((Ext.refl w1).alloc _).drew
  have hxw : Ext w (w1.alloc (.cells #[.int .u32 ca, .int .i64 cn, .bool false, .int .i64 0, .pointer none, .pointer none] 68)).drew := (hx0.trans hx1).trans hxA
  have hN := hxw.heap HH.out
  clear hb0 hb1 g0 g1 hG
  obtain ⟨g0, -, -, -, -, -⟩ := box_node (F := []) hN (by simp)
  obtain ⟨-, e1, -, -, e4, e5⟩ := box_node (F := []) HG.out (by simp)
  have d4 := e4 _ (ExtS.refl _ _)
  have d5 := e5 _ (ExtS.refl _ _)
  have f4 : (w1.alloc (.cells #[.int .u32 ca, .int .i64 cn, .bool false, .int .i64 0, .pointer none, .pointer none] 68)).drew.frozen? ⟨w1.heap.size, 4, none⟩ = false := heap_frozen HG.out
  have f5 : (w1.alloc (.cells #[.int .u32 ca, .int .i64 cn, .bool false, .int .i64 0, .pointer none, .pointer none] 68)).drew.frozen? ⟨w1.heap.size, 5, none⟩ = false := heap_frozen HG.out
  clear hN HH e4 e5 hxA
  rcases h01 with rfl | rfl
  · refine wp_region_tailS [] [16] [[0, 13, 14, 15, 16], [1, 2, 3, 4, 5, 11, 15, 16], [2, 3, 4, 5, 11, 15, 16], [3, 4, 5, 11, 15, 16], [4, 5, 11, 15, 16], [5, 11, 15, 16], [6, 7, 8, 9, 10, 11, 15, 16], [7, 8, 9, 10, 11, 15, 16], [8, 9, 10, 11, 15, 16], [9, 10, 11, 15, 16], [10, 11, 15, 16], [12, 15, 16], [13, 14, 15, 16], [14, 15, 16], [], [15, 16]] [(0, false), (1, false), (2, false), (3, false), (4, false), (5, false), (6, false), (7, false), (8, false), (9, false), (10, false), (12, false), (13, false), (14, false), (11, true), (15, false)] (by kernel_rfl) (by kernel_rfl) rfl (by kernel_rfl) (fun _ _ _ _ _ h => h) ?_
    generalize (w1.alloc (.cells #[.int .u32 ca, .int .i64 cn, .bool false, .int .i64 0, .pointer none, .pointer none] 68)).drew = W2 at *
    repeat (first
      | (refine wpE_read (v := ?_) rfl (by rfl) ?_ ?_; rotate_left; (focus (intro w' hx; go_simp; first | done | with_reducible rfl)); simp only [Act.put, List.setIfInBounds_toArray, List.set_cons_zero, List.set_cons_succ])
      | (refine wpE_call rfl (by rfl) (fun K hK => ?_); go_simp; first
          | (go_at_call 47; refine (k2 _).mono ?_; rintro e w3 ⟨rfl, rfl⟩; refine hK _ _ (ExtS.refl _ _) ?_; clear hK K)))
    refine wpT_step rfl (by rfl) (fun K hK => ?_)
    go_simp
    refine hK _ _ ?_
    clear hK K
    refine wpT_done ?_
    go_wp2_with fail
    go_ret
    refine ⟨w1.heap.size, rfl, Nat.le_trans hx0.size hx1.size, ?_, ExtX.ext hxw ((ExtX.refl w1.heap.size _).setCell (p := ⟨w1.heap.size, 4, none⟩) rfl _) (Nat.le_trans hx0.size hx1.size)⟩
    rw [heap_set HG.out]
    rfl
  · refine wp_region_tailS [] [16] [[0, 13, 14, 15, 16], [1, 2, 3, 4, 5, 11, 15, 16], [2, 3, 4, 5, 11, 15, 16], [3, 4, 5, 11, 15, 16], [4, 5, 11, 15, 16], [5, 11, 15, 16], [6, 7, 8, 9, 10, 11, 15, 16], [7, 8, 9, 10, 11, 15, 16], [8, 9, 10, 11, 15, 16], [9, 10, 11, 15, 16], [10, 11, 15, 16], [12, 15, 16], [13, 14, 15, 16], [14, 15, 16], [], [15, 16]] [(0, false), (1, false), (2, false), (3, false), (4, false), (5, false), (6, false), (7, false), (8, false), (9, false), (10, false), (12, false), (13, false), (14, false), (11, true), (15, false)] (by kernel_rfl) (by kernel_rfl) rfl (by kernel_rfl) (fun _ _ _ _ _ h => h) ?_
    generalize (w1.alloc (.cells #[.int .u32 ca, .int .i64 cn, .bool false, .int .i64 0, .pointer none, .pointer none] 68)).drew = W2 at *
    repeat (first
      | (refine wpE_read (v := ?_) rfl (by rfl) ?_ ?_; rotate_left; (focus (intro w' hx; go_simp; first | done | with_reducible rfl)); simp only [Act.put, List.setIfInBounds_toArray, List.set_cons_zero, List.set_cons_succ])
      | (refine wpE_call rfl (by rfl) (fun K hK => ?_); go_simp; first
          | (go_at_call 47; refine (k2 _).mono ?_; rintro e w3 ⟨rfl, rfl⟩; refine hK _ _ (ExtS.refl _ _) ?_; clear hK K)))
    refine wpT_step rfl (by rfl) (fun K hK => ?_)
    go_simp
    refine hK _ _ ?_
    clear hK K
    refine wpT_done ?_
    go_wp2_with fail
    go_ret
    refine ⟨w1.heap.size, rfl, Nat.le_trans hx0.size hx1.size, ?_, ExtX.ext hxw ((ExtX.refl w1.heap.size _).setCell (p := ⟨w1.heap.size, 5, none⟩) rfl _) (Nat.le_trans hx0.size hx1.size)⟩
    rw [heap_set HG.out]
    rfl

/-- What must stay in a node's place. -/
theorem needed_any (b : Nat) (q : PX) (th : Bool) (u : Int) (l r : Sh) (F : List Nat) (w : World) (h : At w (.node q th u l r) (some ⟨b, 0, none⟩) F) :
    Calls Try.prog 48 #[.pointer (some ⟨b, 0, none⟩)] w fun e w' => ∃ a' F', e = .returned (.pointer a') ∧ w' = w ∧ At w (needS (.node q th u l r)) a' F' ∧ ∀ x ∈ F', x ∈ F := by
  have hA := h
  obtain ⟨b', pl, pr, Fl, Fr, e, hF, hh, hl, hr, _⟩ := h
  obtain rfl : b = b' := by cases e; rfl
  have g2 : w.cell? ⟨b, 2, none⟩ = some (.bool th) := by rw [heap_cell hh]; rfl
  have g4 : w.cell? ⟨b, 4, none⟩ = some (.pointer pl) := by rw [heap_cell hh]; rfl
  have g5 : w.cell? ⟨b, 5, none⟩ = some (.pointer pr) := by rw [heap_cell hh]; rfl
  have n1 : ∀ {t : Sh} {a : Option Addr} {G : List Nat}, At w t a G → (t.isNil = true ∧ a = none ∨ t.isNil = false ∧ ∃ x, a = some x) := by
    intro t a G h
    cases t with
    | nil => exact .inl ⟨rfl, h.1⟩
    | node q th u l r => obtain ⟨b, _, _, _, _, rfl, _⟩ := h; exact .inr ⟨rfl, _, rfl⟩
  have m1 := n1 hl
  have m2 := n1 hr
  clear n1
  have HA : Hid (At w (.node q th u l r) (some ⟨b, 0, none⟩) F) := hA
  have HL : Hid (At w l pl Fl ∧ At w r pr Fr ∧ F = b :: (Fl ++ Fr)) := ⟨hl, hr, hF⟩
  clear hA hl hr hF hh e
  cases th
  · rcases m1 with ⟨i1, rfl⟩ | ⟨i1, x1, rfl⟩
    · have HI : Hid _ := i1
      clear i1
      go_enter Try.func48, Try.ntmps48
      go_wp2_with fail
      go_ret
      refine ⟨pr, Fr, rfl, rfl, ?_, fun x hx => by rw [HL.out.2.2]; simp [hx]⟩
      simp only [needS, Bool.false_eq_true, if_false, HI.out, if_true]
      exact HL.out.2.1
    · rcases m2 with ⟨i2, rfl⟩ | ⟨i2, x2, rfl⟩
      · have HI : Hid (l.isNil = false ∧ r.isNil = true) := ⟨i1, i2⟩
        clear i1 i2
        go_enter Try.func48, Try.ntmps48
        go_wp2_with fail
        go_ret
        refine ⟨some x1, Fl, rfl, rfl, ?_, fun x hx => by rw [HL.out.2.2]; simp [hx]⟩
        simp only [needS, Bool.false_eq_true, if_false, HI.out.1, HI.out.2, if_true]
        exact HL.out.1
      · have HI : Hid (l.isNil = false ∧ r.isNil = false) := ⟨i1, i2⟩
        clear i1 i2
        go_enter Try.func48, Try.ntmps48
        go_wp2_with fail
        go_ret
        refine ⟨some ⟨b, 0, none⟩, F, rfl, rfl, ?_, fun x hx => hx⟩
        simp only [needS, Bool.false_eq_true, if_false, HI.out.1, HI.out.2]
        exact HA.out
  · go_enter Try.func48, Try.ntmps48
    go_wp2_with fail
    go_ret
    exact ⟨some ⟨b, 0, none⟩, F, rfl, rfl, by simp only [needS, if_true]; exact HA.out, fun x hx => hx⟩
end Go.Proofs.Ytgcnnblngmomhaa.Tri
