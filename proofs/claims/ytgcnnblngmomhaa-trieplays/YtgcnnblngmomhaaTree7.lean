/- Package trie's put, cut. -/
import Derived.Test.YtgcnnblngmomhaaTree6
namespace Go.Proofs.Ytgcnnblngmomhaa.Tri
open Go.RowKit Go.Proofs.Ytgcnnblngmomhaa
set_option linter.unusedVariables false

theorem extS_set (w : World) (b k : Nat) (u : Value) : ExtS [b] w (w.setCell ⟨b, k, none⟩ u) := (ExtS.refl [b] w).setCell (.inl (by simp)) u

/-- A node whose first half was changed. -/
theorem at_left {w w2 : World} {b : Nat} {q : PX} {th : Bool} {u : Int} {l' r : Sh} {pl pl' pr : Option Addr} {Fl Fl' Fr : List Nat} (hb : w.heap[b]? = some (ndO q th u pl pr)) (hA : At w2 l' pl' Fl') (hr : At w r pr Fr)
    (hx : ExtS Fl w w2) (hn : ∀ x ∈ Fl', x ∈ Fl ∨ w.heap.size ≤ x) (d1 : b ∉ Fl) (d2 : b ∉ Fr) (d3 : ∀ x ∈ Fl, x ∉ Fr) :
    At (w2.setCell ⟨b, 4, none⟩ (.pointer pl')) (.node q th u l' r) (some ⟨b, 0, none⟩) (b :: (Fl' ++ Fr)) ∧ ExtS (b :: (Fl ++ Fr)) w (w2.setCell ⟨b, 4, none⟩ (.pointer pl')) ∧ ∀ x ∈ b :: (Fl' ++ Fr), x ∈ b :: (Fl ++ Fr) ∨ w.heap.size ≤ x := by
  have hbl := heap_lt hb
  have hrl := hr.lt
  have nb : b ∉ Fl' := fun h => by rcases hn b h with h | h; exact d1 h; omega
  have nd : ∀ x ∈ Fl', x ∉ Fr := fun x h h2 => by rcases hn x h with h | h; exact d3 x h h2; have := hrl x h2; omega
  have hs := extS_set w2 b 4 (.pointer pl')
  refine ⟨⟨b, pl', pr, Fl', Fr, rfl, rfl, ?_, hA.later hs (fun x h e => ?_), (hr.later hx (fun x h e => d3 x e h)).later hs (fun x h e => ?_), nb, d2, nd⟩, ?_, fun x h => ?_⟩
  · rw [heap_set (hx.heap d1 hb)]; rfl
  · obtain rfl : x = b := by simpa using e
    exact nb h
  · obtain rfl : x = b := by simpa using e
    exact d2 h
  · exact ExtS.then (hx.mono (fun x h => by simp [h])) hs (fun x h => by simp only [List.mem_singleton] at h; subst h; simp)
  · rcases List.mem_cons.1 h with rfl | h
    · simp
    · rcases List.mem_append.1 h with h | h
      · rcases hn x h with h | h
        · simp [h]
        · exact .inr h
      · simp [h]

theorem at_right {w w2 : World} {b : Nat} {q : PX} {th : Bool} {u : Int} {l r' : Sh} {pl pr pr' : Option Addr} {Fl Fr Fr' : List Nat} (hb : w.heap[b]? = some (ndO q th u pl pr)) (hA : At w2 r' pr' Fr') (hl : At w l pl Fl)
    (hx : ExtS Fr w w2) (hn : ∀ x ∈ Fr', x ∈ Fr ∨ w.heap.size ≤ x) (d1 : b ∉ Fl) (d2 : b ∉ Fr) (d3 : ∀ x ∈ Fl, x ∉ Fr) :
    At (w2.setCell ⟨b, 5, none⟩ (.pointer pr')) (.node q th u l r') (some ⟨b, 0, none⟩) (b :: (Fl ++ Fr')) ∧ ExtS (b :: (Fl ++ Fr)) w (w2.setCell ⟨b, 5, none⟩ (.pointer pr')) ∧ ∀ x ∈ b :: (Fl ++ Fr'), x ∈ b :: (Fl ++ Fr) ∨ w.heap.size ≤ x := by
  have hbl := heap_lt hb
  have hll := hl.lt
  have nb : b ∉ Fr' := fun h => by rcases hn b h with h | h; exact d2 h; omega
  have nd : ∀ x ∈ Fl, x ∉ Fr' := fun x h h2 => by rcases hn x h2 with h2 | h2; exact d3 x h h2; have := hll x h; omega
  have hs := extS_set w2 b 5 (.pointer pr')
  refine ⟨⟨b, pl, pr', Fl, Fr', rfl, rfl, ?_, (hl.later hx (fun x h e => d3 x h e)).later hs (fun x h e => ?_), hA.later hs (fun x h e => ?_), d1, nb, nd⟩, ?_, fun x h => ?_⟩
  · rw [heap_set (hx.heap d2 hb)]; rfl
  · obtain rfl : x = b := by simpa using e
    exact d1 h
  · obtain rfl : x = b := by simpa using e
    exact nb h
  · exact ExtS.then (hx.mono (fun x h => by simp [h])) hs (fun x h => by simp only [List.mem_singleton] at h; subst h; simp)
  · rcases List.mem_cons.1 h with rfl | h
    · simp
    · rcases List.mem_append.1 h with h | h
      · simp [h]
      · rcases hn x h with h | h
        · simp [h]
        · exact .inr h

/-- What put answers. -/
def PutAns (w : World) (F : List Nat) (t' : Sh) (e : Ending) (w' : World) : Prop := ∃ a' F', e = .returned (.pointer a') ∧ At w' t' a' F' ∧ ExtS F w w' ∧ ∀ x ∈ F', x ∈ F ∨ w.heap.size ≤ x

theorem put_nil (c m v : Int) (w : World) : Calls Try.prog 36 #[.pointer none, .agg #[.int .u32 c, .int .i64 m], .int .i64 v] w fun e w' => e = .returned (.pointer (some ⟨w.heap.size + 1, 0, none⟩)) ∧ w'.heap[w.heap.size + 1]? = some (ndO (c, m) true v none none) ∧ Ext w w' := by
  have hA : Ext w ((w.alloc (.cells #[.int .u32 c, .int .i64 m] 32)).alloc (.cells #[.int .u32 c, .int .i64 m, .bool true, .int .i64 v, .pointer none, .pointer none] 68)) := ((Ext.refl w).alloc _).alloc _
  have hN : ((w.alloc (.cells #[.int .u32 c, .int .i64 m] 32)).alloc (.cells #[.int .u32 c, .int .i64 m, .bool true, .int .i64 v, .pointer none, .pointer none] 68)).heap[w.heap.size + 1]? = some (.cells #[.int .u32 c, .int .i64 m, .bool true, .int .i64 v, .pointer none, .pointer none] 68 (0, 0)) := by
    have := heap_new (w.alloc (.cells #[.int .u32 c, .int .i64 m] 32)) (.cells #[.int .u32 c, .int .i64 m, .bool true, .int .i64 v, .pointer none, .pointer none] 68)
    rwa [show (w.alloc (.cells #[.int .u32 c, .int .i64 m] 32)).heap.size = w.heap.size + 1 by simp] at this
  have HN : Hid _ := hN
  clear hN
  go_enter Try.func36, Try.ntmps36
  go_wp2_with fail
  go_ret
  exact ⟨rfl, HN.out, hA⟩

/-- A block of two cells more. -/
theorem box_px {w : World} (c m : Int) (F : List Nat) (hF : ∀ x ∈ F, x < w.heap.size) : ∀ W, W = (w.alloc (.cells #[.int .u32 c, .int .i64 m] 32)) →
    Ext w W ∧ (∀ w', ExtS F W w' → w'.cell? ⟨w.heap.size, 0, none⟩ = some (.int .u32 c)) ∧ (∀ w', ExtS F W w' → w'.cell? ⟨w.heap.size, 1, none⟩ = some (.int .i64 m)) := by
  rintro W rfl
  have hn : w.heap.size ∉ F := fun h => by have := hF _ h; omega
  have hh := heap_new w (.cells #[.int .u32 c, .int .i64 m] 32)
  exact ⟨(Ext.refl w).alloc _, fun w' hx => by rw [heap_cell (hx.heap hn hh)]; rfl, fun w' hx => by rw [heap_cell (hx.heap hn hh)]; rfl⟩

set_option maxHeartbeats 1000000 in
/-- The prefix is the node's own. -/
theorem put_here (b : Nat) (c m v : Int) (th : Bool) (u : Int) (pl pr : Option Addr) (w : World) (c0 : 0 ≤ c) (c1 : c ≤ 4294967295) (hh : w.heap[b]? = some (ndO (c, m) th u pl pr)) :
    Calls Try.prog 36 #[.pointer (some ⟨b, 0, none⟩), .agg #[.int .u32 c, .int .i64 m], .int .i64 v] w fun e w' => e = .returned (.pointer (some ⟨b, 0, none⟩)) ∧ w'.heap[b]? = some (ndO (c, m) true v pl pr) ∧ ExtS [b] w w' := by
  have k1 := fun w => covers_any c m c m w c0 c1 c0 c1
  rw [covers_self] at k1
  have eq := fun w => eql_prefix c m c m w
  simp only [beq_self_eq_true, Bool.and_self] at eq
  have eg := eq_guard
  obtain ⟨hx0, hb0, hb1⟩ := boxed2 w (.int .u32 c) (.int .i64 m) 32
  obtain ⟨g0, g1, -, -, -, -⟩ := box_nodeE hh hx0
  have HH : Hid _ := hh
  clear hh
  go_enter Try.func36, Try.ntmps36
  go_wp2_with fail
  refine wp_region_eager [(0, false), (1, false), (2, false), (3, false), (4, false), (5, true), (6, false)] (by kernel_rfl) (by kernel_rfl) rfl (by kernel_rfl) (fun _ _ _ _ _ h => h) ?_
  generalize (w.alloc (.cells #[.int .u32 c, .int .i64 m] 32)).drew = W at *
  repeat (first
    | (refine wpE_read (v := ?_) rfl (by rfl) ?_ ?_; rotate_left; (focus (intro w' hx; go_simp; first | done | with_reducible rfl)); simp only [Act.put, List.setIfInBounds_toArray, List.set_cons_zero, List.set_cons_succ])
    | (refine wpE_call rfl (by rfl) (fun K hK => ?_); go_simp; first
        | (go_at_call 51; refine (k1 _).mono ?_; rintro e w1 ⟨rfl, hx1⟩; refine hK _ _ hx1 ?_; clear hK K)))
  refine wpE_done ?_
  have e0 := hb0 w1 hx1
  have e1 := hb1 w1 hx1
  have l0 := g0 w1 hx1
  have l1 := g1 w1 hx1
  have hh1 := hx1.heap (hx0.heap HH.out)
  have HH1 : Hid _ := hh1
  have l2 : w1.cell? ⟨b, 2, none⟩ = some (.bool th) := by rw [heap_cell hh1]; rfl
  have l3 : w1.cell? ⟨b, 3, none⟩ = some (.int .i64 u) := by rw [heap_cell hh1]; rfl
  have f2 : w1.frozen? ⟨b, 2, none⟩ = false := heap_frozen hh1
  have f3 : w1.frozen? ⟨b, 3, none⟩ = false := heap_frozen hh1
  clear hb0 hb1 g0 g1 hh1
  go_wp2_with fail
  go_region
  go_wp2_with fail
  go_ret
  have hs := extS_set w1 b 2 (.bool true)
  have hs2 := extS_set (w1.setCell ⟨b, 2, none⟩ (.bool true)) b 3 (.int .i64 v)
  refine ⟨rfl, ?_, ((((hx0.trans hx1).toS [b]).trans hs).trans hs2).drew⟩
  show ((w1.setCell ⟨b, 2, none⟩ (.bool true)).setCell ⟨b, 3, none⟩ (.int .i64 v)).heap[b]? = _
  rw [heap_set (heap_set HH1.out (.bool true)) (.int .i64 v)]
  rfl

def DownAns (b k : Nat) (w : World) (Fk : List Nat) (t' : Sh) (w' : World) : Prop := ∃ w2 a' F', w' = w2.setCell ⟨b, k, none⟩ (.pointer a') ∧ At w2 t' a' F' ∧ ExtS Fk w w2 ∧ ∀ x ∈ F', x ∈ Fk ∨ w.heap.size ≤ x

set_option maxHeartbeats 1000000 in
/-- The way goes on below the node. -/
theorem put_down (b : Nat) (a n c m v i : Int) (th : Bool) (u : Int) (pl pr ka : Option Addr) (Fk : List Nat) (t' : Sh) (w : World) (a0 : 0 ≤ a) (a1 : a ≤ 4294967295) (n0 : 0 ≤ n) (n1 : n ≤ 32) (c0 : 0 ≤ c) (c1 : c ≤ 4294967295)
    (hc : coversV a n c m = true) (hne : (a == c && n == m) = false) (hi : i = 0 ∧ ka = pl ∨ i = 1 ∧ ka = pr) (hv : halfV c n = i) (hh : w.heap[b]? = some (ndO (a, n) th u pl pr)) (hbF : b ∉ Fk) (hF : ∀ x ∈ Fk, x < w.heap.size)
    (kc : ∀ W, Ext w W → Calls Try.prog 36 #[.pointer ka, .agg #[.int .u32 c, .int .i64 m], .int .i64 v] W (PutAns W Fk t')) :
    Calls Try.prog 36 #[.pointer (some ⟨b, 0, none⟩), .agg #[.int .u32 c, .int .i64 m], .int .i64 v] w fun e w' => e = .returned (.pointer (some ⟨b, 0, none⟩)) ∧
      DownAns b (if i = 0 then 4 else 5) w Fk t' w' := by
  have k1 := fun w => covers_any a n c m w a0 a1 c0 c1
  rw [hc] at k1
  have k2 := fun w => half_any c n w n0 n1
  rw [hv] at k2
  have eq := fun w => eql_prefix a n c m w
  rw [hne] at eq
  have eg := eq_guard
  obtain ⟨hx0, hb0, hb1⟩ := boxed2 w (.int .u32 c) (.int .i64 m) 32
  obtain ⟨g0, g1, -, -, g4, g5⟩ := box_nodeE hh hx0
  have HH : Hid _ := hh
  have hbx : (w.alloc (.cells #[.int .u32 c, .int .i64 m] 32)).drew.heap[w.heap.size]? = some (.cells #[.int .u32 c, .int .i64 m] 32 (0, 0)) := heap_new w _
  have HX : Hid _ := hbx
  have hwF : w.heap.size ∉ Fk := fun h => by have := hF _ h; omega
  clear hh hc hne hv hbx
  go_enter Try.func36, Try.ntmps36
  go_wp2_with fail
  refine wp_region_eager [(0, false), (1, false), (2, false), (3, false), (4, false), (5, true), (6, false)] (by kernel_rfl) (by kernel_rfl) rfl (by kernel_rfl) (fun _ _ _ _ _ h => h) ?_
  generalize (w.alloc (.cells #[.int .u32 c, .int .i64 m] 32)).drew = W at *
  repeat (first
    | (refine wpE_read (v := ?_) rfl (by rfl) ?_ ?_; rotate_left; (focus (intro w' hx; go_simp; first | done | with_reducible rfl)); simp only [Act.put, List.setIfInBounds_toArray, List.set_cons_zero, List.set_cons_succ])
    | (refine wpE_call rfl (by rfl) (fun K hK => ?_); go_simp; first
        | (go_at_call 51; refine (k1 _).mono ?_; rintro e w1 ⟨rfl, hx1⟩; refine hK _ _ hx1 ?_; clear hK K)))
  refine wpE_done ?_
  go_wp2_with fail
  refine wp_region_eager [(0, false), (1, false), (2, false), (3, false), (4, false), (5, false)] (by kernel_rfl) (by kernel_rfl) rfl (by kernel_rfl) (fun _ _ _ _ _ h => h) ?_
  replace hx1 := hx1.drew
  generalize w1.drew = W1 at *
  replace hb0 := fun w' h => hb0 w' (hx1.trans h); replace hb1 := fun w' h => hb1 w' (hx1.trans h); replace g0 := fun w' h => g0 w' (hx1.trans h); replace g1 := fun w' h => g1 w' (hx1.trans h); replace g4 := fun w' h => g4 w' (hx1.trans h); replace g5 := fun w' h => g5 w' (hx1.trans h)
  repeat (first
    | (refine wpE_read (v := ?_) rfl (by rfl) ?_ ?_; rotate_left; (focus (intro w' hx; go_simp; first | done | with_reducible rfl)); simp only [Act.put, List.setIfInBounds_toArray, List.set_cons_zero, List.set_cons_succ]))
  refine wpE_done ?_
  go_wp2_with fail
  refine wp_region_eager [(0, false), (1, false), (2, false), (3, false), (4, false), (5, false), (6, false), (7, true), (8, false)] (by kernel_rfl) (by kernel_rfl) rfl (by kernel_rfl) (fun _ _ _ _ _ h => h) ?_
  have hx2 := (Ext.refl W1).drew
  generalize W1.drew = W2 at *
  replace hb0 := fun w' h => hb0 w' (hx2.trans h); replace hb1 := fun w' h => hb1 w' (hx2.trans h); replace g0 := fun w' h => g0 w' (hx2.trans h); replace g1 := fun w' h => g1 w' (hx2.trans h); replace g4 := fun w' h => g4 w' (hx2.trans h); replace g5 := fun w' h => g5 w' (hx2.trans h)
  repeat (first
    | (refine wpE_read (v := ?_) rfl (by rfl) ?_ ?_; rotate_left; (focus (intro w' hx; go_simp; first | done | with_reducible rfl)); simp only [Act.put, List.setIfInBounds_toArray, List.set_cons_zero, List.set_cons_succ])
    | (refine wpE_call rfl (by rfl) (fun K hK => ?_); go_simp; first
        | (go_at_call 47; refine (k2 _).mono ?_; rintro e w3 ⟨rfl, rfl⟩; refine hK _ _ (Ext.refl _) ?_; clear hK K)))
  refine wpE_done ?_
  go_wp2_with fail
  clear hb0 hb1 g0 g1 g4 g5
  have hxw : Ext w w3.drew := ((hx0.trans hx1).trans hx2).drew
  have hN := hxw.heap HH.out
  have hP := ((hx1.trans hx2).drew).heap HX.out
  obtain ⟨-, -, -, -, e4, e5⟩ := box_node (F := Fk) hN hbF
  have p0 : ∀ w', ExtS Fk w3.drew w' → w'.cell? ⟨w.heap.size, 0, none⟩ = some (.int .u32 c) := fun w' h => by rw [heap_cell (h.heap hwF hP)]; rfl
  have p1 : ∀ w', ExtS Fk w3.drew w' → w'.cell? ⟨w.heap.size, 1, none⟩ = some (.int .i64 m) := fun w' h => by rw [heap_cell (h.heap hwF hP)]; rfl
  have HN : Hid _ := hN
  clear hN hP HX HH hx0 hx1 hx2
  rcases hi with ⟨rfl, rfl⟩ | ⟨rfl, rfl⟩
  · refine wp_region_tailS Fk [14] [[0, 11, 12, 13, 14], [1, 13, 14], [2, 4, 5, 6, 7, 10, 13, 14], [3, 6, 7, 10, 13, 14], [4, 5, 6, 7, 10, 13, 14], [5, 6, 7, 10, 13, 14], [6, 7, 10, 13, 14], [7, 10, 13, 14], [8, 10, 13, 14], [9, 10, 13, 14], [11, 12, 13, 14], [12, 13, 14], [], [13, 14]] [(0, false), (1, false), (2, false), (3, false), (4, false), (5, false), (6, false), (7, false), (8, false), (9, false), (11, false), (12, false), (10, true), (13, false)] (by kernel_rfl) (by kernel_rfl) rfl (by kernel_rfl) (fun _ _ _ _ _ h => h) ?_
    generalize w3.drew = W4 at *
    repeat (first
      | (refine wpE_read (v := ?_) rfl (by rfl) ?_ ?_; rotate_left; (focus (intro w' hx; go_simp; first | done | with_reducible rfl)); simp only [Act.put, List.setIfInBounds_toArray, List.set_cons_zero, List.set_cons_succ])
      | (refine wpE_call rfl (by rfl) (fun K hK => ?_); go_simp; first
          | (go_at_call 36; refine (kc _ hxw).mono ?_; rintro e w5 ⟨a', F', rfl, hA', hx5, hn'⟩; refine hK _ _ hx5 ?_; clear hK K; have d4 := e4 w5 hx5; have f4 : w5.frozen? ⟨b, 4, none⟩ = false := heap_frozen (hx5.heap hbF HN.out))))
    clear e4 e5 p0 p1
    refine wpT_step rfl (by rfl) (fun K hK => ?_)
    go_simp
    refine hK _ _ ?_
    clear hK K
    refine wpT_done ?_
    go_wp2_with fail
    go_ret
    exact ⟨rfl, w5, a', F', rfl, hA', (hxw.toS Fk).trans hx5, fun x hx => (hn' x hx).imp id (fun h => Nat.le_trans hxw.size h)⟩
  · refine wp_region_tailS Fk [14] [[0, 11, 12, 13, 14], [1, 13, 14], [2, 4, 5, 6, 7, 10, 13, 14], [3, 6, 7, 10, 13, 14], [4, 5, 6, 7, 10, 13, 14], [5, 6, 7, 10, 13, 14], [6, 7, 10, 13, 14], [7, 10, 13, 14], [8, 10, 13, 14], [9, 10, 13, 14], [11, 12, 13, 14], [12, 13, 14], [], [13, 14]] [(0, false), (1, false), (2, false), (3, false), (4, false), (5, false), (6, false), (7, false), (8, false), (9, false), (11, false), (12, false), (10, true), (13, false)] (by kernel_rfl) (by kernel_rfl) rfl (by kernel_rfl) (fun _ _ _ _ _ h => h) ?_
    generalize w3.drew = W4 at *
    repeat (first
      | (refine wpE_read (v := ?_) rfl (by rfl) ?_ ?_; rotate_left; (focus (intro w' hx; go_simp; first | done | with_reducible rfl)); simp only [Act.put, List.setIfInBounds_toArray, List.set_cons_zero, List.set_cons_succ])
      | (refine wpE_call rfl (by rfl) (fun K hK => ?_); go_simp; first
          | (go_at_call 36; refine (kc _ hxw).mono ?_; rintro e w5 ⟨a', F', rfl, hA', hx5, hn'⟩; refine hK _ _ hx5 ?_; clear hK K; have d4 := e5 w5 hx5; have f4 : w5.frozen? ⟨b, 5, none⟩ = false := heap_frozen (hx5.heap hbF HN.out))))
    clear e4 e5 p0 p1
    refine wpT_step rfl (by rfl) (fun K hK => ?_)
    go_simp
    refine hK _ _ ?_
    clear hK K
    refine wpT_done ?_
    go_wp2_with fail
    go_ret
    exact ⟨rfl, w5, a', F', rfl, hA', (hxw.toS Fk).trans hx5, fun x hx => (hn' x hx).imp id (fun h => Nat.le_trans hxw.size h)⟩
set_option maxHeartbeats 1000000 in
/-- A new node over the old one: the prefix's own place. -/
theorem over_here (b : Nat) (a n c m v : Int) (th : Bool) (u : Int) (pl pr ql qr : Option Addr) (w : World) (a0 : 0 ≤ a) (a1 : a ≤ 4294967295) (c0 : 0 ≤ c) (c1 : c ≤ 4294967295)
    (hc : coversV a n c m = false) (hh : w.heap[b]? = some (ndO (a, n) th u pl pr))
    (ka : ∀ W, Ext w W → Calls Try.prog 52 #[.pointer (some ⟨b, 0, none⟩), .agg #[.int .u32 c, .int .i64 m]] W fun e w' => ∃ g, e = .returned (.pointer (some ⟨g, 0, none⟩)) ∧ W.heap.size ≤ g ∧ w'.heap[g]? = some (ndO (c, m) false 0 ql qr) ∧ Ext W w') :
    Calls Try.prog 36 #[.pointer (some ⟨b, 0, none⟩), .agg #[.int .u32 c, .int .i64 m], .int .i64 v] w fun e w' => ∃ g, e = .returned (.pointer (some ⟨g, 0, none⟩)) ∧ w.heap.size ≤ g ∧ w'.heap[g]? = some (ndO (c, m) true v ql qr) ∧ Ext w w' := by
  have eq := fun w => eql_prefix c m c m w
  simp only [beq_self_eq_true, Bool.and_self] at eq
  have k1 := fun w => covers_any a n c m w a0 a1 c0 c1
  rw [hc] at k1
  have eg := eq_guard
  obtain ⟨hx0, hb0, hb1⟩ := boxed2 w (.int .u32 c) (.int .i64 m) 32
  obtain ⟨g0, g1, -, -, -, -⟩ := box_nodeE hh hx0
  have HH : Hid _ := hh
  clear hh hc
  go_enter Try.func36, Try.ntmps36
  go_wp2_with fail
  refine wp_region_eager [(0, false), (1, false), (2, false), (3, false), (4, false), (5, true), (6, false)] (by kernel_rfl) (by kernel_rfl) rfl (by kernel_rfl) (fun _ _ _ _ _ h => h) ?_
  generalize (w.alloc (.cells #[.int .u32 c, .int .i64 m] 32)).drew = W at *
  repeat (first
    | (refine wpE_read (v := ?_) rfl (by rfl) ?_ ?_; rotate_left; (focus (intro w' hx; go_simp; first | done | with_reducible rfl)); simp only [Act.put, List.setIfInBounds_toArray, List.set_cons_zero, List.set_cons_succ])
    | (refine wpE_call rfl (by rfl) (fun K hK => ?_); go_simp; first
        | (go_at_call 51; refine (k1 _).mono ?_; rintro e w1 ⟨rfl, hx1⟩; refine hK _ _ hx1 ?_; clear hK K)))
  refine wpE_done ?_
  have y0 := hb0 w1 hx1
  have y1 := hb1 w1 hx1
  go_wp2_with (go_at_call 52; refine (ka _ (hx0.trans hx1)).mono ?_; rintro e w2 ⟨g, rfl, hg, hG, hx2⟩; have HG : Hid _ := hG; clear hG)
  clear y0 y1 g0 g1
  have e0 : w2.cell? ⟨w.heap.size, 0, none⟩ = some (.int .u32 c) := hb0 w2 (hx1.trans hx2)
  have e1 : w2.cell? ⟨w.heap.size, 1, none⟩ = some (.int .i64 m) := hb1 w2 (hx1.trans hx2)
  have l0 : w2.cell? ⟨g, 0, none⟩ = some (.int .u32 c) := by rw [heap_cell HG.out]; rfl
  have l1 : w2.cell? ⟨g, 1, none⟩ = some (.int .i64 m) := by rw [heap_cell HG.out]; rfl
  have l2 : w2.cell? ⟨g, 2, none⟩ = some (.bool false) := by rw [heap_cell HG.out]; rfl
  have l3 : w2.cell? ⟨g, 3, none⟩ = some (.int .i64 0) := by rw [heap_cell HG.out]; rfl
  have f2 : w2.frozen? ⟨g, 2, none⟩ = false := heap_frozen HG.out
  have f3 : w2.frozen? ⟨g, 3, none⟩ = false := heap_frozen HG.out
  clear hb0 hb1
  go_region
  go_wp2_with fail
  go_ret
  have hs := extS_set w2 g 2 (.bool true)
  have hs2 := extS_set (w2.setCell ⟨g, 2, none⟩ (.bool true)) g 3 (.int .i64 v)
  have hwg : w.heap.size ≤ g := Nat.le_trans (hx0.trans hx1).size hg
  refine ⟨g, rfl, hwg, ?_, ((((((hx0.trans hx1).trans hx2).toS [g]).trans hs).trans hs2).ext (by simpa using hwg)).drew⟩
  show ((w2.setCell ⟨g, 2, none⟩ (.bool true)).setCell ⟨g, 3, none⟩ (.int .i64 v)).heap[g]? = _
  rw [heap_set (heap_set HG.out (.bool true)) (.int .i64 v)]
  rfl

def ForkAns (w : World) (c m x y v i : Int) (ql qr : Option Addr) (e : Ending) (w' : World) : Prop := ∃ g h, e = .returned (.pointer (some ⟨g, 0, none⟩)) ∧ w.heap.size ≤ g ∧ g < h ∧ w'.heap[h]? = some (ndO (c, m) true v none none) ∧
  w'.heap[g]? = some (ndO (x, y) false 0 (if i = 0 then some ⟨h, 0, none⟩ else ql) (if i = 0 then qr else some ⟨h, 0, none⟩)) ∧ Ext w w'

set_option maxHeartbeats 1000000 in
/-- A new node over the old one: a fork. -/
theorem over_fork (b : Nat) (a n c m x y v i : Int) (th : Bool) (u : Int) (pl pr ql qr : Option Addr) (w : World) (a0 : 0 ≤ a) (a1 : a ≤ 4294967295) (c0 : 0 ≤ c) (c1 : c ≤ 4294967295) (y0 : 0 ≤ y) (y1 : y ≤ 32)
    (hc : coversV a n c m = false) (hne : (x == c && y == m) = false) (hi : i = 0 ∧ ql = none ∨ i = 1 ∧ qr = none) (hv : halfV c y = i) (hh : w.heap[b]? = some (ndO (a, n) th u pl pr))
    (ka : ∀ W, Ext w W → Calls Try.prog 52 #[.pointer (some ⟨b, 0, none⟩), .agg #[.int .u32 c, .int .i64 m]] W fun e w' => ∃ g, e = .returned (.pointer (some ⟨g, 0, none⟩)) ∧ W.heap.size ≤ g ∧ w'.heap[g]? = some (ndO (x, y) false 0 ql qr) ∧ Ext W w') :
    Calls Try.prog 36 #[.pointer (some ⟨b, 0, none⟩), .agg #[.int .u32 c, .int .i64 m], .int .i64 v] w (ForkAns w c m x y v i ql qr) := by
  have eq := fun w => eql_prefix x y c m w
  rw [hne] at eq
  have k2 := fun w => half_any c y w y0 y1
  rw [hv] at k2
  have kn := fun w => put_nil c m v w
  clear hne hv
  have k1 := fun w => covers_any a n c m w a0 a1 c0 c1
  rw [hc] at k1
  have eg := eq_guard
  obtain ⟨hx0, hb0, hb1⟩ := boxed2 w (.int .u32 c) (.int .i64 m) 32
  obtain ⟨g0, g1, -, -, -, -⟩ := box_nodeE hh hx0
  have HH : Hid _ := hh
  clear hh hc
  go_enter Try.func36, Try.ntmps36
  go_wp2_with fail
  refine wp_region_eager [(0, false), (1, false), (2, false), (3, false), (4, false), (5, true), (6, false)] (by kernel_rfl) (by kernel_rfl) rfl (by kernel_rfl) (fun _ _ _ _ _ h => h) ?_
  generalize (w.alloc (.cells #[.int .u32 c, .int .i64 m] 32)).drew = W at *
  repeat (first
    | (refine wpE_read (v := ?_) rfl (by rfl) ?_ ?_; rotate_left; (focus (intro w' hx; go_simp; first | done | with_reducible rfl)); simp only [Act.put, List.setIfInBounds_toArray, List.set_cons_zero, List.set_cons_succ])
    | (refine wpE_call rfl (by rfl) (fun K hK => ?_); go_simp; first
        | (go_at_call 51; refine (k1 _).mono ?_; rintro e w1 ⟨rfl, hx1⟩; refine hK _ _ hx1 ?_; clear hK K)))
  refine wpE_done ?_
  have z0 := hb0 w1 hx1
  have z1 := hb1 w1 hx1
  go_wp2_with (go_at_call 52; refine (ka _ (hx0.trans hx1)).mono ?_; rintro e w2 ⟨g, rfl, hg, hG, hx2⟩; have HG : Hid _ := hG; clear hG)
  clear z0 z1 g0 g1
  refine wp_region_eager [(0, false), (1, false), (2, false), (3, false), (4, false), (5, false)] (by kernel_rfl) (by kernel_rfl) rfl (by kernel_rfl) (fun _ _ _ _ _ h => h) ?_
  have hx3 := (hx1.trans hx2).drew
  have HG3 : Hid (w2.drew.heap[g]? = some (ndO (x, y) false 0 ql qr)) := HG.out
  generalize hW3 : w2.drew = W3 at *
  have hx23 : Ext w2 W3 := by rw [← hW3]; exact (Ext.refl _).drew
  clear hW3
  replace hb0 := fun w' h => hb0 w' (hx3.trans h); replace hb1 := fun w' h => hb1 w' (hx3.trans h)
  obtain ⟨g0, g1, -, -, -, -⟩ := box_nodeE HG3.out (Ext.refl W3)
  repeat (first
    | (refine wpE_read (v := ?_) rfl (by rfl) ?_ ?_; rotate_left; (focus (intro w' hx; go_simp; first | done | with_reducible rfl)); simp only [Act.put, List.setIfInBounds_toArray, List.set_cons_zero, List.set_cons_succ]))
  refine wpE_done ?_
  go_wp2_with fail
  refine wp_region_eager [(0, false), (1, false), (2, false), (3, false), (4, false), (5, false), (6, false), (7, true), (8, false)] (by kernel_rfl) (by kernel_rfl) rfl (by kernel_rfl) (fun _ _ _ _ _ h => h) ?_
  have hx4 := (Ext.refl W3).drew
  generalize W3.drew = W4 at *
  replace hb0 := fun w' h => hb0 w' (hx4.trans h); replace hb1 := fun w' h => hb1 w' (hx4.trans h); replace g0 := fun w' h => g0 w' (hx4.trans h); replace g1 := fun w' h => g1 w' (hx4.trans h)
  repeat (first
    | (refine wpE_read (v := ?_) rfl (by rfl) ?_ ?_; rotate_left; (focus (intro w' hx; go_simp; first | done | with_reducible rfl)); simp only [Act.put, List.setIfInBounds_toArray, List.set_cons_zero, List.set_cons_succ])
    | (refine wpE_call rfl (by rfl) (fun K hK => ?_); go_simp; first
        | (go_at_call 47; refine (k2 _).mono ?_; rintro e w5 ⟨rfl, rfl⟩; refine hK _ _ (Ext.refl _) ?_; clear hK K)))
  refine wpE_done ?_
  go_wp2_with fail
  have hxw : Ext w w5.drew := (((hx0.trans hx3).trans hx4)).drew
  have HN : Hid (w5.drew.heap[g]? = some (ndO (x, y) false 0 ql qr)) := hx4.drew.heap HG3.out
  obtain ⟨-, -, -, -, e4, e5⟩ := box_node (F := []) HN.out (by simp)
  have p0 : ∀ w', ExtS [] w5.drew w' → w'.cell? ⟨w.heap.size, 0, none⟩ = some (.int .u32 c) := fun w' h => hb0 w' ((Ext.refl _).drew.trans (h.ext (by simp)))
  have p1 : ∀ w', ExtS [] w5.drew w' → w'.cell? ⟨w.heap.size, 1, none⟩ = some (.int .i64 m) := fun w' h => hb1 w' ((Ext.refl _).drew.trans (h.ext (by simp)))
  have hwg : w.heap.size ≤ g := Nat.le_trans (hx0.trans hx1).size hg
  have hgl := heap_lt HN.out
  clear hb0 hb1 g0 g1 HG HG3 HH hx0 hx1 hx2 hx3 hx4 hx23 hg
  rcases hi with ⟨rfl, rfl⟩ | ⟨rfl, rfl⟩
  · refine wp_region_tailS [] [14] [[0, 11, 12, 13, 14], [1, 13, 14], [2, 4, 5, 6, 7, 10, 13, 14], [3, 6, 7, 10, 13, 14], [4, 5, 6, 7, 10, 13, 14], [5, 6, 7, 10, 13, 14], [6, 7, 10, 13, 14], [7, 10, 13, 14], [8, 10, 13, 14], [9, 10, 13, 14], [11, 12, 13, 14], [12, 13, 14], [], [13, 14]] [(0, false), (1, false), (2, false), (3, false), (4, false), (5, false), (6, false), (7, false), (8, false), (9, false), (11, false), (12, false), (10, true), (13, false)] (by kernel_rfl) (by kernel_rfl) rfl (by kernel_rfl) (fun _ _ _ _ _ h => h) ?_
    generalize w5.drew = W4 at *
    repeat (first
      | (refine wpE_read (v := ?_) rfl (by rfl) ?_ ?_; rotate_left; (focus (intro w' hx; go_simp; first | done | with_reducible rfl)); simp only [Act.put, List.setIfInBounds_toArray, List.set_cons_zero, List.set_cons_succ])
      | (refine wpE_call rfl (by rfl) (fun K hK => ?_); go_simp; first
          | (go_at_call 36; refine (kn _).mono ?_; rintro e w6 ⟨rfl, hL6, hx6⟩; have HL6 : Hid _ := hL6; clear hL6; refine hK _ _ (hx6.toS _) ?_; clear hK K; have d4 := e4 w6 (hx6.toS _); have f4 : w6.frozen? ⟨g, 4, none⟩ = false := heap_frozen (hx6.heap HN.out))))
    clear e4 e5 p0 p1
    refine wpT_step rfl (by rfl) (fun K hK => ?_)
    go_simp
    refine hK _ _ ?_
    clear hK K
    refine wpT_done ?_
    go_wp2_with fail
    go_ret
    have hs := extS_set w6 g 4 (.pointer (some ⟨W4.heap.size + 1, 0, none⟩))
    refine ⟨g, W4.heap.size + 1, rfl, hwg, by omega, hs.heap (by simp; omega) HL6.out, ?_, (((hxw.trans hx6).toS [g]).trans hs).ext (by simpa using hwg)⟩
    rw [heap_set (hx6.heap HN.out)]
    rfl
  · refine wp_region_tailS [] [14] [[0, 11, 12, 13, 14], [1, 13, 14], [2, 4, 5, 6, 7, 10, 13, 14], [3, 6, 7, 10, 13, 14], [4, 5, 6, 7, 10, 13, 14], [5, 6, 7, 10, 13, 14], [6, 7, 10, 13, 14], [7, 10, 13, 14], [8, 10, 13, 14], [9, 10, 13, 14], [11, 12, 13, 14], [12, 13, 14], [], [13, 14]] [(0, false), (1, false), (2, false), (3, false), (4, false), (5, false), (6, false), (7, false), (8, false), (9, false), (11, false), (12, false), (10, true), (13, false)] (by kernel_rfl) (by kernel_rfl) rfl (by kernel_rfl) (fun _ _ _ _ _ h => h) ?_
    generalize w5.drew = W4 at *
    repeat (first
      | (refine wpE_read (v := ?_) rfl (by rfl) ?_ ?_; rotate_left; (focus (intro w' hx; go_simp; first | done | with_reducible rfl)); simp only [Act.put, List.setIfInBounds_toArray, List.set_cons_zero, List.set_cons_succ])
      | (refine wpE_call rfl (by rfl) (fun K hK => ?_); go_simp; first
          | (go_at_call 36; refine (kn _).mono ?_; rintro e w6 ⟨rfl, hL6, hx6⟩; have HL6 : Hid _ := hL6; clear hL6; refine hK _ _ (hx6.toS _) ?_; clear hK K; have d4 := e5 w6 (hx6.toS _); have f4 : w6.frozen? ⟨g, 5, none⟩ = false := heap_frozen (hx6.heap HN.out))))
    clear e4 e5 p0 p1
    refine wpT_step rfl (by rfl) (fun K hK => ?_)
    go_simp
    refine hK _ _ ?_
    clear hK K
    refine wpT_done ?_
    go_wp2_with fail
    go_ret
    have hs := extS_set w6 g 5 (.pointer (some ⟨W4.heap.size + 1, 0, none⟩))
    refine ⟨g, W4.heap.size + 1, rfl, hwg, by omega, hs.heap (by simp; omega) HL6.out, ?_, (((hxw.trans hx6).toS [g]).trans hs).ext (by simpa using hwg)⟩
    rw [heap_set (hx6.heap HN.out)]
    rfl
end Go.Proofs.Ytgcnnblngmomhaa.Tri
