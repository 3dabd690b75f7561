/- Package trie's put by the tree; cut; Set, Del. -/
import Derived.Test.YtgcnnblngmomhaaTree7
import Derived.Test.YtgcnnblngmomhaaTree3
namespace Go.Proofs.Ytgcnnblngmomhaa.Tri
open Go.RowKit Go.Proofs.Ytgcnnblngmomhaa
set_option linter.unusedVariables false

theorem px_eq {a n c m : Int} : (a == c && n == m) = true ↔ (a, n) = (c, m) := by
  simp only [Bool.and_eq_true, beq_iff_eq, Prod.mk.injEq]

theorem px_ne {a n c m : Int} (h : (a, n) ≠ (c, m)) : (a == c && n == m) = false := by
  cases e : (a == c && n == m) with
  | false => rfl
  | true => exact absurd (px_eq.1 e) h

theorem at_leaf {w : World} {h : Nat} {p : PX} {v : Int} (hh : w.heap[h]? = some (ndO p true v none none)) : At w (leaf p v) (some ⟨h, 0, none⟩) [h] :=
  ⟨h, none, none, [], [], rfl, rfl, hh, ⟨rfl, rfl⟩, ⟨rfl, rfl⟩, by simp, by simp, by simp⟩

theorem put_any (c m v : Int) (hp : Vp (c, m)) (t : Sh) : ∀ (a : Option Addr) (F : List Nat) (w : World), At w t a F → WF t →
    Calls Try.prog 36 #[.pointer a, .agg #[.int .u32 c, .int .i64 m], .int .i64 v] w (PutAns w F (putS t (c, m) v)) := by
  obtain ⟨c0, c1, m0, m1⟩ := hp.bd
  simp only at c0 c1 m0 m1
  induction t with
  | nil =>
    rintro a F w ⟨rfl, rfl⟩ _
    refine (put_nil c m v w).mono ?_
    rintro e w' ⟨rfl, hh, hx⟩
    exact ⟨_, [w.heap.size + 1], rfl, at_leaf hh, hx.toS _, fun x hx => .inr (by simp only [List.mem_singleton] at hx; omega)⟩
  | node q th u l r ihl ihr =>
    intro a F w hA hW
    have hA' := hA
    obtain ⟨b, pl, pr, Fl, Fr, rfl, rfl, hh, hl, hr, d1, d2, d3⟩ := hA
    have hW' := hW
    obtain ⟨hq, hf, rl, rr, wl, wr⟩ := hW
    obtain ⟨a0, a1, n0, n1⟩ := hq.bd
    obtain ⟨qa, qn⟩ := q
    simp only at a0 a1 n0 n1
    simp only [putS]
    by_cases hc : cov (qa, qn) (c, m) = true
    · rw [if_pos hc]
      by_cases he : (qa, qn) = (c, m)
      · rw [if_pos he]
        obtain ⟨rfl, rfl⟩ := Prod.mk.inj he
        refine (put_here b qa qn v th u pl pr w a0 a1 hh).mono ?_
        rintro e w' ⟨rfl, hh', hx⟩
        refine ⟨_, b :: (Fl ++ Fr), rfl, ⟨b, pl, pr, Fl, Fr, rfl, rfl, hh', hl.later hx (fun x h e => ?_), hr.later hx (fun x h e => ?_), d1, d2, d3⟩, hx.mono (by simp), fun x hx => .inl hx⟩
        · simp only [List.mem_singleton] at e; subst e; exact d1 h
        · simp only [List.mem_singleton] at e; subst e; exact d2 h
      · rw [if_neg he]
        by_cases h0 : halfV c qn = 0
        · rw [if_pos h0]
          refine (put_down b qa qn c m v 0 th u pl pr pl Fl _ w a0 a1 n0 n1 c0 c1 hc (px_ne he) (.inl ⟨rfl, rfl⟩) h0 hh d1 hl.lt fun W hx => ihl pl Fl W (hl.later (hx.toS []) (by simp)) wl).mono ?_
          rintro e w' ⟨rfl, w2, a', F', rfl, h1, h2, h3⟩
          obtain ⟨r1, r2, r3⟩ := at_left hh h1 hr h2 h3 d1 d2 d3
          exact ⟨_, _, rfl, r1, r2, r3⟩
        · rw [if_neg h0]
          refine (put_down b qa qn c m v 1 th u pl pr pr Fr _ w a0 a1 n0 n1 c0 c1 hc (px_ne he) (.inr ⟨rfl, rfl⟩) (not_half0 h0) hh d2 hr.lt fun W hx => ihr pr Fr W (hr.later (hx.toS []) (by simp)) wr).mono ?_
          rintro e w' ⟨rfl, w2, a', F', rfl, h1, h2, h3⟩
          obtain ⟨r1, r2, r3⟩ := at_right hh h1 hl h2 h3 d1 d2 d3
          exact ⟨_, _, rfl, r1, r2, r3⟩
    · rw [if_neg hc]
      have hcf : coversV qa qn c m = false := by simpa [cov] using hc
      have ka := fun W (hx : Ext w W) => above_any b (qa, qn) th u pl pr c m W hq hp (hx.heap hh)
      obtain ⟨cv, cq, cp, _, ch, _⟩ := com_spec hq hp
      have hne := com_ne hq hp hc
      have hlt := hA'.lt
      generalize com (qa, qn) (c, m) = cm at *
      obtain ⟨x, y⟩ := cm
      obtain ⟨x0, x1, y0, y1⟩ := cv.bd
      simp only at ka y0 y1 ch
      have fresh : ∀ {g : Nat}, w.heap.size ≤ g → g ∉ b :: (Fl ++ Fr) := fun hg h => by have := hlt _ h; omega
      unfold overS
      by_cases he : (x, y) = (c, m)
      · rw [if_pos he]
        obtain ⟨rfl, rfl⟩ := Prod.mk.inj he
        refine (over_here b qa qn x y v th u pl pr _ _ w a0 a1 c0 c1 hcf hh ka).mono ?_
        rintro e w' ⟨g, rfl, hg, hG, hx⟩
        have hT := hA'.later (hx.toS []) (by simp)
        simp only
        by_cases h0 : halfV qa y = 0
        · simp only [if_pos h0] at hG ⊢
          exact ⟨_, g :: ((b :: (Fl ++ Fr)) ++ []), rfl, ⟨g, _, _, _, _, rfl, rfl, hG, hT, ⟨rfl, rfl⟩, fresh hg, by simp, by simp⟩, hx.toS _, fun z hz => by simp only [List.append_nil, List.mem_cons] at hz ⊢; rcases hz with rfl | hz; exact .inr hg; exact .inl hz⟩
        · simp only [if_neg h0] at hG ⊢
          exact ⟨_, g :: ([] ++ (b :: (Fl ++ Fr))), rfl, ⟨g, _, _, _, _, rfl, rfl, hG, ⟨rfl, rfl⟩, hT, by simp, fresh hg, by simp⟩, hx.toS _, fun z hz => by simp only [List.nil_append, List.mem_cons] at hz ⊢; rcases hz with rfl | hz; exact .inr hg; exact .inl hz⟩
      · rw [if_neg he]
        have hd := ch hne he
        simp only
        by_cases h0 : halfV qa y = 0
        · have h1 : halfV c y = 1 := not_half0 (fun e => hd (by rw [h0, e]))
          simp only [if_pos h0] at ka ⊢
          refine (over_fork b qa qn c m x y v 1 th u pl pr _ _ w a0 a1 c0 c1 y0 y1 hcf (px_ne he) (.inr ⟨rfl, rfl⟩) h1 hh ka).mono ?_
          rintro e w' ⟨g, h, rfl, hg, hgh, hL, hG, hx⟩
          have hT := hA'.later (hx.toS []) (by simp)
          simp only [show ¬ ((1 : Int) = 0) by omega, if_false] at hG
          refine ⟨_, g :: ((b :: (Fl ++ Fr)) ++ [h]), rfl, ⟨g, _, _, _, _, rfl, rfl, hG, hT, at_leaf hL, fresh hg, by simp; omega, fun z hz e => ?_⟩, hx.toS _, fun z hz => ?_⟩
          · simp only [List.mem_singleton] at e
            subst e; exact fresh (by omega) hz
          · rcases List.mem_cons.1 hz with rfl | hz
            · exact .inr hg
            · rcases List.mem_append.1 hz with hz | hz
              · exact .inl hz
              · simp only [List.mem_singleton] at hz; exact .inr (by omega)
        · have h1 : halfV c y = 0 := by
            rcases half_01 c y with h | h
            · exact h
            · exact absurd (by rw [not_half0 h0, h]) hd
          simp only [if_neg h0] at ka ⊢
          refine (over_fork b qa qn c m x y v 0 th u pl pr _ _ w a0 a1 c0 c1 y0 y1 hcf (px_ne he) (.inl ⟨rfl, rfl⟩) h1 hh ka).mono ?_
          rintro e w' ⟨g, h, rfl, hg, hgh, hL, hG, hx⟩
          have hT := hA'.later (hx.toS []) (by simp)
          simp only [if_true] at hG
          refine ⟨_, g :: ([h] ++ (b :: (Fl ++ Fr))), rfl, ⟨g, _, _, _, _, rfl, rfl, hG, at_leaf hL, hT, by simp; omega, fresh hg, fun z hz e => ?_⟩, hx.toS _, fun z hz => ?_⟩
          · simp only [List.mem_singleton] at hz
            subst hz; exact fresh (by omega) e
          · rcases List.mem_cons.1 hz with rfl | hz
            · exact .inr hg
            · rcases List.mem_append.1 hz with hz | hz
              · simp only [List.mem_singleton] at hz; exact .inr (by omega)
              · exact .inl hz

set_option maxHeartbeats 1000000 in
theorem cut_here (b : Nat) (c m : Int) (th : Bool) (u : Int) (pl pr : Option Addr) (w : World) (R : Option Addr → World → Prop) (hh : w.heap[b]? = some (ndO (c, m) th u pl pr))
    (kn : ∀ w2, w2.heap[b]? = some (ndO (c, m) false 0 pl pr) → ExtS [b] w w2 → Calls Try.prog 48 #[.pointer (some ⟨b, 0, none⟩)] w2 fun e w' => ∃ a', e = .returned (.pointer a') ∧ R a' w') :
    Calls Try.prog 33 #[.pointer (some ⟨b, 0, none⟩), .agg #[.int .u32 c, .int .i64 m]] w fun e w' => ∃ a', e = .returned (.pointer a') ∧ R a' w' := by
  have eq := fun w => eql_prefix c m c m w
  simp only [beq_self_eq_true, Bool.and_self] at eq
  have eg := eq_guard
  obtain ⟨hx0, hb0, hb1⟩ := boxed2 w (.int .u32 c) (.int .i64 m) 32
  obtain ⟨g0, g1, g2, g3, -, -⟩ := box_nodeE hh hx0
  have HH : Hid _ := hh
  clear hh
  go_enter Try.func33, Try.ntmps33
  go_wp2_with fail
  refine wp_region_eager [(0, false), (1, false), (2, false), (3, false), (4, false), (5, false)] (by kernel_rfl) (by kernel_rfl) rfl (by kernel_rfl) (fun _ _ _ _ _ h => h) ?_
  generalize (w.alloc (.cells #[.int .u32 c, .int .i64 m] 32)).drew = W at *
  repeat (first
    | (refine wpE_read (v := ?_) rfl (by rfl) ?_ ?_; rotate_left; (focus (intro w' hx; go_simp; first | done | with_reducible rfl)); simp only [Act.put, List.setIfInBounds_toArray, List.set_cons_zero, List.set_cons_succ]))
  refine wpE_done ?_
  have HH1 : Hid (W.heap[b]? = some (ndO (c, m) th u pl pr)) := hx0.heap HH.out
  have l2 := g2 W (Ext.refl W)
  have l3 := g3 W (Ext.refl W)
  have f2 : W.frozen? ⟨b, 2, none⟩ = false := heap_frozen HH1.out
  have f3 : W.frozen? ⟨b, 3, none⟩ = false := heap_frozen HH1.out
  have hs := extS_set W b 2 (.bool false)
  have hs2 := extS_set (W.setCell ⟨b, 2, none⟩ (.bool false)) b 3 (.int .i64 0)
  have hN : ((W.setCell ⟨b, 2, none⟩ (.bool false)).setCell ⟨b, 3, none⟩ (.int .i64 0)).heap[b]? = some (ndO (c, m) false 0 pl pr) := by
    rw [heap_set (heap_set HH1.out (.bool false)) (.int .i64 0)]; rfl
  have k1 := kn _ hN (((hx0.toS [b]).trans hs).trans hs2)
  clear hb0 hb1 g0 g1 g2 g3 hs hs2 hN
  go_wp2_with (go_at_call 48; refine k1.mono ?_; rintro e w3 ⟨a', rfl, hR⟩)
  go_ret
  exact ⟨a', rfl, hR⟩

set_option maxHeartbeats 1000000 in
theorem cut_down (b : Nat) (a n c m i : Int) (th : Bool) (u : Int) (pl pr ka : Option Addr) (Fk : List Nat) (t' : Sh) (w : World) (R : Option Addr → World → Prop) (n0 : 0 ≤ n) (n1 : n ≤ 32)
    (hne : (a == c && n == m) = false) (hi : i = 0 ∧ ka = pl ∨ i = 1 ∧ ka = pr) (hv : halfV c n = i) (hh : w.heap[b]? = some (ndO (a, n) th u pl pr)) (hbF : b ∉ Fk) (hF : ∀ x ∈ Fk, x < w.heap.size)
    (kc : ∀ W, Ext w W → Calls Try.prog 33 #[.pointer ka, .agg #[.int .u32 c, .int .i64 m]] W (PutAns W Fk t'))
    (kn : ∀ w2 a' F', At w2 t' a' F' → ExtS Fk w w2 → (∀ x ∈ F', x ∈ Fk ∨ w.heap.size ≤ x) → Calls Try.prog 48 #[.pointer (some ⟨b, 0, none⟩)] (w2.setCell ⟨b, if i = 0 then 4 else 5, none⟩ (.pointer a')) fun e w' => ∃ a', e = .returned (.pointer a') ∧ R a' w') :
    Calls Try.prog 33 #[.pointer (some ⟨b, 0, none⟩), .agg #[.int .u32 c, .int .i64 m]] w fun e w' => ∃ a', e = .returned (.pointer a') ∧ R a' w' := by
  have k2 := fun w => half_any c n w n0 n1
  rw [hv] at k2
  have eq := fun w => eql_prefix a n c m w
  rw [hne] at eq
  have eg := eq_guard
  obtain ⟨hx0, hb0, hb1⟩ := boxed2 w (.int .u32 c) (.int .i64 m) 32
  obtain ⟨g0, g1, -, -, -, -⟩ := box_nodeE hh hx0
  have HH : Hid _ := hh
  have hbx : (w.alloc (.cells #[.int .u32 c, .int .i64 m] 32)).drew.heap[w.heap.size]? = some (.cells #[.int .u32 c, .int .i64 m] 32 (0, 0)) := heap_new w _
  have HX : Hid _ := hbx
  have hwF : w.heap.size ∉ Fk := fun h => by have := hF _ h; omega
  clear hh hne hv hbx
  go_enter Try.func33, Try.ntmps33
  go_wp2_with fail
  refine wp_region_eager [(0, false), (1, false), (2, false), (3, false), (4, false), (5, false)] (by kernel_rfl) (by kernel_rfl) rfl (by kernel_rfl) (fun _ _ _ _ _ h => h) ?_
  generalize (w.alloc (.cells #[.int .u32 c, .int .i64 m] 32)).drew = W at *
  repeat (first
    | (refine wpE_read (v := ?_) rfl (by rfl) ?_ ?_; rotate_left; (focus (intro w' hx; go_simp; first | done | with_reducible rfl)); simp only [Act.put, List.setIfInBounds_toArray, List.set_cons_zero, List.set_cons_succ]))
  refine wpE_done ?_
  go_wp2_with fail
  refine wp_region_eager [(0, false), (1, false), (2, false), (3, false), (4, false), (5, false), (6, false), (7, true), (8, false)] (by kernel_rfl) (by kernel_rfl) rfl (by kernel_rfl) (fun _ _ _ _ _ h => h) ?_
  have hx2 := (Ext.refl W).drew
  generalize W.drew = W2 at *
  replace hb0 := fun w' h => hb0 w' (hx2.trans h); replace hb1 := fun w' h => hb1 w' (hx2.trans h); replace g0 := fun w' h => g0 w' (hx2.trans h); replace g1 := fun w' h => g1 w' (hx2.trans h)
  repeat (first
    | (refine wpE_read (v := ?_) rfl (by rfl) ?_ ?_; rotate_left; (focus (intro w' hx; go_simp; first | done | with_reducible rfl)); simp only [Act.put, List.setIfInBounds_toArray, List.set_cons_zero, List.set_cons_succ])
    | (refine wpE_call rfl (by rfl) (fun K hK => ?_); go_simp; first
        | (go_at_call 47; refine (k2 _).mono ?_; rintro e w3 ⟨rfl, rfl⟩; refine hK _ _ (Ext.refl _) ?_; clear hK K)))
  refine wpE_done ?_
  go_wp2_with fail
  clear hb0 hb1 g0 g1
  have hxw : Ext w w3.drew := (hx0.trans hx2).drew
  have hN := hxw.heap HH.out
  have hP := hx2.drew.heap HX.out
  obtain ⟨-, -, -, -, e4, e5⟩ := box_node (F := Fk) hN hbF
  have p0 : ∀ w', ExtS Fk w3.drew w' → w'.cell? ⟨w.heap.size, 0, none⟩ = some (.int .u32 c) := fun w' h => by rw [heap_cell (h.heap hwF hP)]; rfl
  have p1 : ∀ w', ExtS Fk w3.drew w' → w'.cell? ⟨w.heap.size, 1, none⟩ = some (.int .i64 m) := fun w' h => by rw [heap_cell (h.heap hwF hP)]; rfl
  have HN : Hid _ := hN
  clear hN hP HX HH hx0 hx2
  rcases hi with ⟨rfl, rfl⟩ | ⟨rfl, rfl⟩
  · refine wp_region_tailS Fk [13] [[0, 10, 11, 12, 13], [1, 12, 13], [2, 4, 5, 6, 7, 9, 12, 13], [3, 6, 7, 9, 12, 13], [4, 5, 6, 7, 9, 12, 13], [5, 6, 7, 9, 12, 13], [6, 7, 9, 12, 13], [7, 9, 12, 13], [8, 9, 12, 13], [10, 11, 12, 13], [11, 12, 13], [], [12, 13]] [(0, false), (1, false), (2, false), (3, false), (4, false), (5, false), (6, false), (7, false), (8, false), (10, false), (11, false), (9, true), (12, false)] (by kernel_rfl) (by kernel_rfl) rfl (by kernel_rfl) (fun _ _ _ _ _ h => h) ?_
    generalize w3.drew = W4 at *
    repeat (first
      | (refine wpE_read (v := ?_) rfl (by rfl) ?_ ?_; rotate_left; (focus (intro w' hx; go_simp; first | done | with_reducible rfl)); simp only [Act.put, List.setIfInBounds_toArray, List.set_cons_zero, List.set_cons_succ])
      | (refine wpE_call rfl (by rfl) (fun K hK => ?_); go_simp; first
          | (go_at_call 33; refine (kc _ hxw).mono ?_; rintro e w5 ⟨a', F', rfl, hA', hx5, hn'⟩; refine hK _ _ hx5 ?_; clear hK K; have d4 := e4 w5 hx5; have f4 : w5.frozen? ⟨b, 4, none⟩ = false := heap_frozen (hx5.heap hbF HN.out))))
    clear e4 e5 p0 p1
    have k5 := kn w5 a' F' hA' ((hxw.toS Fk).trans hx5) (fun x hx => (hn' x hx).imp id (fun h => Nat.le_trans hxw.size h))
    simp only [if_true] at k5
    clear hA' hn' kn kc
    refine wpT_step rfl (by rfl) (fun K hK => ?_)
    go_simp
    refine hK _ _ ?_
    clear hK K
    refine wpT_done ?_
    go_wp2_with (go_at_call 48; refine k5.mono ?_; rintro e w6 ⟨a2, rfl, hR⟩)
    go_ret
    exact ⟨a2, rfl, hR⟩
  · refine wp_region_tailS Fk [13] [[0, 10, 11, 12, 13], [1, 12, 13], [2, 4, 5, 6, 7, 9, 12, 13], [3, 6, 7, 9, 12, 13], [4, 5, 6, 7, 9, 12, 13], [5, 6, 7, 9, 12, 13], [6, 7, 9, 12, 13], [7, 9, 12, 13], [8, 9, 12, 13], [10, 11, 12, 13], [11, 12, 13], [], [12, 13]] [(0, false), (1, false), (2, false), (3, false), (4, false), (5, false), (6, false), (7, false), (8, false), (10, false), (11, false), (9, true), (12, false)] (by kernel_rfl) (by kernel_rfl) rfl (by kernel_rfl) (fun _ _ _ _ _ h => h) ?_
    generalize w3.drew = W4 at *
    repeat (first
      | (refine wpE_read (v := ?_) rfl (by rfl) ?_ ?_; rotate_left; (focus (intro w' hx; go_simp; first | done | with_reducible rfl)); simp only [Act.put, List.setIfInBounds_toArray, List.set_cons_zero, List.set_cons_succ])
      | (refine wpE_call rfl (by rfl) (fun K hK => ?_); go_simp; first
          | (go_at_call 33; refine (kc _ hxw).mono ?_; rintro e w5 ⟨a', F', rfl, hA', hx5, hn'⟩; refine hK _ _ hx5 ?_; clear hK K; have d4 := e5 w5 hx5; have f4 : w5.frozen? ⟨b, 5, none⟩ = false := heap_frozen (hx5.heap hbF HN.out))))
    clear e4 e5 p0 p1
    have k5 := kn w5 a' F' hA' ((hxw.toS Fk).trans hx5) (fun x hx => (hn' x hx).imp id (fun h => Nat.le_trans hxw.size h))
    simp only [show ¬ ((1 : Int) = 0) by omega, if_false] at k5
    clear hA' hn' kn kc
    refine wpT_step rfl (by rfl) (fun K hK => ?_)
    go_simp
    refine hK _ _ ?_
    clear hK K
    refine wpT_done ?_
    go_wp2_with (go_at_call 48; refine k5.mono ?_; rintro e w6 ⟨a2, rfl, hR⟩)
    go_ret
    exact ⟨a2, rfl, hR⟩

theorem cut_any (c m : Int) (t : Sh) : ∀ (a : Option Addr) (F : List Nat) (w : World), At w t a F → WF t → pathS t (c, m) = true →
    Calls Try.prog 33 #[.pointer a, .agg #[.int .u32 c, .int .i64 m]] w (PutAns w F (cutS t (c, m))) := by
  induction t with
  | nil => intro a F w _ _ h; cases h
  | node q th u l r ihl ihr =>
    intro a F w hA hW hpath
    obtain ⟨b, pl, pr, Fl, Fr, rfl, rfl, hh, hl, hr, d1, d2, d3⟩ := hA
    obtain ⟨hq, hf, rl, rr, wl, wr⟩ := hW
    obtain ⟨a0, a1, n0, n1⟩ := hq.bd
    obtain ⟨qa, qn⟩ := q
    simp only at a0 a1 n0 n1
    simp only [cutS]
    simp only [pathS] at hpath
    by_cases he : (qa, qn) = (c, m)
    · rw [if_pos he]
      obtain ⟨rfl, rfl⟩ := Prod.mk.inj he
      refine (cut_here b qa qn th u pl pr w (fun a' w' => ∃ F', At w' (needS (.node (qa, qn) false 0 l r)) a' F' ∧ ExtS (b :: (Fl ++ Fr)) w w' ∧ ∀ x ∈ F', x ∈ b :: (Fl ++ Fr) ∨ w.heap.size ≤ x) hh fun w2 h2 hx2 => ?_).mono ?_
      · have hT : At w2 (.node (qa, qn) false 0 l r) (some ⟨b, 0, none⟩) (b :: (Fl ++ Fr)) := by
          refine ⟨b, pl, pr, Fl, Fr, rfl, rfl, h2, hl.later hx2 (fun x h e => ?_), hr.later hx2 (fun x h e => ?_), d1, d2, d3⟩
          · simp only [List.mem_singleton] at e; subst e; exact d1 h
          · simp only [List.mem_singleton] at e; subst e; exact d2 h
        refine (needed_any b (qa, qn) false 0 l r _ w2 hT).mono ?_
        rintro e w' ⟨a', F', rfl, rfl, h3, h4⟩
        exact ⟨a', rfl, F', h3, hx2.mono (by simp), fun x hx => .inl (h4 x hx)⟩
      · rintro e w' ⟨a', rfl, F', h1, h2, h3⟩
        exact ⟨a', F', rfl, h1, h2, h3⟩
    · rw [if_neg he]
      rw [if_neg he] at hpath
      by_cases h0 : halfV c qn = 0
      · rw [if_pos h0]
        simp only [if_pos h0] at hpath
        refine (cut_down b qa qn c m 0 th u pl pr pl Fl (cutS l (c, m)) w (fun a' w' => ∃ F', At w' (needS (.node (qa, qn) th u (cutS l (c, m)) r)) a' F' ∧ ExtS (b :: (Fl ++ Fr)) w w' ∧ ∀ x ∈ F', x ∈ b :: (Fl ++ Fr) ∨ w.heap.size ≤ x) n0 n1 (px_ne he) (.inl ⟨rfl, rfl⟩) h0 hh d1 hl.lt
          (fun W hx => ihl pl Fl W (hl.later (hx.toS []) (by simp)) wl hpath) fun w2 a' F' h1 h2 h3 => ?_).mono ?_
        · obtain ⟨r1, r2, r3⟩ := at_left hh h1 hr h2 h3 d1 d2 d3
          refine (needed_any b (qa, qn) th u _ r _ _ r1).mono ?_
          rintro e w' ⟨a2, F2, rfl, rfl, h5, h6⟩
          exact ⟨a2, rfl, F2, h5, r2, fun x hx => r3 x (h6 x hx)⟩
        · rintro e w' ⟨a', rfl, F', h1, h2, h3⟩
          exact ⟨a', F', rfl, h1, h2, h3⟩
      · rw [if_neg h0]
        simp only [if_neg h0] at hpath
        refine (cut_down b qa qn c m 1 th u pl pr pr Fr (cutS r (c, m)) w (fun a' w' => ∃ F', At w' (needS (.node (qa, qn) th u l (cutS r (c, m)))) a' F' ∧ ExtS (b :: (Fl ++ Fr)) w w' ∧ ∀ x ∈ F', x ∈ b :: (Fl ++ Fr) ∨ w.heap.size ≤ x) n0 n1 (px_ne he) (.inr ⟨rfl, rfl⟩) (not_half0 h0) hh d2 hr.lt
          (fun W hx => ihr pr Fr W (hr.later (hx.toS []) (by simp)) wr hpath) fun w2 a' F' h1 h2 h3 => ?_).mono ?_
        · obtain ⟨r1, r2, r3⟩ := at_right hh h1 hl h2 h3 d1 d2 d3
          refine (needed_any b (qa, qn) th u l _ _ _ r1).mono ?_
          rintro e w' ⟨a2, F2, rfl, rfl, h5, h6⟩
          exact ⟨a2, rfl, F2, h5, r2, fun x hx => r3 x (h6 x hx)⟩
        · rintro e w' ⟨a', rfl, F', h1, h2, h3⟩
          exact ⟨a', F', rfl, h1, h2, h3⟩
end Go.Proofs.Ytgcnnblngmomhaa.Tri
