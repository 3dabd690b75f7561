/- Texts joined by a program: Tree8, Tree9, TriF, Fib1. -/
import Derived.Test.YtkfhkhgiojpfoaaGreatJ3
import Derived.Test.YtkfhkhgiojpfoaaGreatJ15
import Derived.Test.YtkfhkhgiojpfoaaGreatJ16
namespace Go.Proofs.YtkfhkhgiojpfoaaGreat.Tri

set_option maxRecDepth 100000

open Go.RowKit Go.Proofs.YtkfhkhgiojpfoaaGreat

set_option linter.unusedVariables false

theorem px_eq {a n c m : Int} : (a == c && n == m) = true ↔ (a, n) = (c, m) := by
  simp only [Bool.and_eq_true, beq_iff_eq, Prod.mk.injEq]

theorem px_ne {a n c m : Int} (h : (a, n) ≠ (c, m)) : (a == c && n == m) = false := by
  cases e : (a == c && n == m) with
  | false => rfl
  | true => exact absurd (px_eq.1 e) h

theorem at_leaf {w : World} {h : Nat} {p : PX} {v : Int} (hh : w.heap[h]? = some (ndO p true v none none)) : At w (leaf p v) (some ⟨h, 0, none⟩) [h] :=
  ⟨h, none, none, [], [], rfl, rfl, hh, ⟨rfl, rfl⟩, ⟨rfl, rfl⟩, by simp, by simp, by simp⟩

theorem put_any (c m v : Int) (hp : Vp (c, m)) (t : Sh) : ∀ (a : Option Addr) (F : List Nat) (w : World), At w t a F → WF t →
    Calls Tryz.prog 121 #[.pointer a, .agg #[.int .u32 c, .int .i64 m], .int .i64 v] w (PutAns w F (putS t (c, m) v)) := by
  obtain ⟨c0, c1, m0, m1⟩ := hp.bd
  simp only at c0 c1 m0 m1
  induction t with
  | nil =>
    rintro a F w ⟨rfl, rfl⟩ _
    refine (put_nil c m v w).mono ?_
    rintro e w' ⟨rfl, hh, hx⟩
    exact ⟨_, [w.heap.size + 1], rfl, at_leaf hh, hx.toS _, fun x hx => .inr (by simp only [List.mem_singleton] at hx; omega)⟩
  | node q th u l r ihl ihr =>
    intro a F w hA hW
    have hA' := hA
    obtain ⟨b, pl, pr, Fl, Fr, rfl, rfl, hh, hl, hr, d1, d2, d3⟩ := hA
    have hW' := hW
    obtain ⟨hq, hf, rl, rr, wl, wr⟩ := hW
    obtain ⟨a0, a1, n0, n1⟩ := hq.bd
    obtain ⟨qa, qn⟩ := q
    simp only at a0 a1 n0 n1
    simp only [putS]
    by_cases hc : cov (qa, qn) (c, m) = true
    · rw [if_pos hc]
      by_cases he : (qa, qn) = (c, m)
      · rw [if_pos he]
        obtain ⟨rfl, rfl⟩ := Prod.mk.inj he
        refine (put_here b qa qn v th u pl pr w a0 a1 hh).mono ?_
        rintro e w' ⟨rfl, hh', hx⟩
        refine ⟨_, b :: (Fl ++ Fr), rfl, ⟨b, pl, pr, Fl, Fr, rfl, rfl, hh', hl.later hx (fun x h e => ?_), hr.later hx (fun x h e => ?_), d1, d2, d3⟩, hx.mono (by simp), fun x hx => .inl hx⟩
        · simp only [List.mem_singleton] at e; subst e; exact d1 h
        · simp only [List.mem_singleton] at e; subst e; exact d2 h
      · rw [if_neg he]
        by_cases h0 : halfV c qn = 0
        · rw [if_pos h0]
          refine (put_down b qa qn c m v 0 th u pl pr pl Fl _ w a0 a1 n0 n1 c0 c1 hc (px_ne he) (.inl ⟨rfl, rfl⟩) h0 hh d1 hl.lt fun W hx => ihl pl Fl W (hl.later (hx.toS []) (by simp)) wl).mono ?_
          rintro e w' ⟨rfl, w2, a', F', rfl, h1, h2, h3⟩
          obtain ⟨r1, r2, r3⟩ := at_left hh h1 hr h2 h3 d1 d2 d3
          exact ⟨_, _, rfl, r1, r2, r3⟩
        · rw [if_neg h0]
          refine (put_down b qa qn c m v 1 th u pl pr pr Fr _ w a0 a1 n0 n1 c0 c1 hc (px_ne he) (.inr ⟨rfl, rfl⟩) (not_half0 h0) hh d2 hr.lt fun W hx => ihr pr Fr W (hr.later (hx.toS []) (by simp)) wr).mono ?_
          rintro e w' ⟨rfl, w2, a', F', rfl, h1, h2, h3⟩
          obtain ⟨r1, r2, r3⟩ := at_right hh h1 hl h2 h3 d1 d2 d3
          exact ⟨_, _, rfl, r1, r2, r3⟩
    · rw [if_neg hc]
      have hcf : coversV qa qn c m = false := by simpa [cov] using hc
      have ka := fun W (hx : Ext w W) => above_any b (qa, qn) th u pl pr c m W hq hp (hx.heap hh)
      obtain ⟨cv, cq, cp, _, ch, _⟩ := com_spec hq hp
      have hne := com_ne hq hp hc
      have hlt := hA'.lt
      generalize com (qa, qn) (c, m) = cm at *
      obtain ⟨x, y⟩ := cm
      obtain ⟨x0, x1, y0, y1⟩ := cv.bd
      simp only at ka y0 y1 ch
      have fresh : ∀ {g : Nat}, w.heap.size ≤ g → g ∉ b :: (Fl ++ Fr) := fun hg h => by have := hlt _ h; omega
      unfold overS
      by_cases he : (x, y) = (c, m)
      · rw [if_pos he]
        obtain ⟨rfl, rfl⟩ := Prod.mk.inj he
        refine (over_here b qa qn x y v th u pl pr _ _ w a0 a1 c0 c1 hcf hh ka).mono ?_
        rintro e w' ⟨g, rfl, hg, hG, hx⟩
        have hT := hA'.later (hx.toS []) (by simp)
        simp only
        by_cases h0 : halfV qa y = 0
        · simp only [if_pos h0] at hG ⊢
          exact ⟨_, g :: ((b :: (Fl ++ Fr)) ++ []), rfl, ⟨g, _, _, _, _, rfl, rfl, hG, hT, ⟨rfl, rfl⟩, fresh hg, by simp, by simp⟩, hx.toS _, fun z hz => by simp only [List.append_nil, List.mem_cons] at hz ⊢; rcases hz with rfl | hz; exact .inr hg; exact .inl hz⟩
        · simp only [if_neg h0] at hG ⊢
          exact ⟨_, g :: ([] ++ (b :: (Fl ++ Fr))), rfl, ⟨g, _, _, _, _, rfl, rfl, hG, ⟨rfl, rfl⟩, hT, by simp, fresh hg, by simp⟩, hx.toS _, fun z hz => by simp only [List.nil_append, List.mem_cons] at hz ⊢; rcases hz with rfl | hz; exact .inr hg; exact .inl hz⟩
      · rw [if_neg he]
        have hd := ch hne he
        simp only
        by_cases h0 : halfV qa y = 0
        · have h1 : halfV c y = 1 := not_half0 (fun e => hd (by rw [h0, e]))
          simp only [if_pos h0] at ka ⊢
          refine (over_fork b qa qn c m x y v 1 th u pl pr _ _ w a0 a1 c0 c1 y0 y1 hcf (px_ne he) (.inr ⟨rfl, rfl⟩) h1 hh ka).mono ?_
          rintro e w' ⟨g, h, rfl, hg, hgh, hL, hG, hx⟩
          have hT := hA'.later (hx.toS []) (by simp)
          simp only [show ¬ ((1 : Int) = 0) by omega, if_false] at hG
          refine ⟨_, g :: ((b :: (Fl ++ Fr)) ++ [h]), rfl, ⟨g, _, _, _, _, rfl, rfl, hG, hT, at_leaf hL, fresh hg, by simp; omega, fun z hz e => ?_⟩, hx.toS _, fun z hz => ?_⟩
          · simp only [List.mem_singleton] at e
            subst e; exact fresh (by omega) hz
          · rcases List.mem_cons.1 hz with rfl | hz
            · exact .inr hg
            · rcases List.mem_append.1 hz with hz | hz
              · exact .inl hz
              · simp only [List.mem_singleton] at hz; exact .inr (by omega)
        · have h1 : halfV c y = 0 := by
            rcases half_01 c y with h | h
            · exact h
            · exact absurd (by rw [not_half0 h0, h]) hd
          simp only [if_neg h0] at ka ⊢
          refine (over_fork b qa qn c m x y v 0 th u pl pr _ _ w a0 a1 c0 c1 y0 y1 hcf (px_ne he) (.inl ⟨rfl, rfl⟩) h1 hh ka).mono ?_
          rintro e w' ⟨g, h, rfl, hg, hgh, hL, hG, hx⟩
          have hT := hA'.later (hx.toS []) (by simp)
          simp only [if_true] at hG
          refine ⟨_, g :: ([h] ++ (b :: (Fl ++ Fr))), rfl, ⟨g, _, _, _, _, rfl, rfl, hG, at_leaf hL, hT, by simp; omega, fresh hg, fun z hz e => ?_⟩, hx.toS _, fun z hz => ?_⟩
          · simp only [List.mem_singleton] at hz
            subst hz; exact fresh (by omega) e
          · rcases List.mem_cons.1 hz with rfl | hz
            · exact .inr hg
            · rcases List.mem_append.1 hz with hz | hz
              · simp only [List.mem_singleton] at hz; exact .inr (by omega)
              · exact .inl hz

set_option maxHeartbeats 1000000 in
theorem cut_here (b : Nat) (c m : Int) (th : Bool) (u : Int) (pl pr : Option Addr) (w : World) (R : Option Addr → World → Prop) (hh : w.heap[b]? = some (ndO (c, m) th u pl pr))
    (kn : ∀ w2, w2.heap[b]? = some (ndO (c, m) false 0 pl pr) → ExtS [b] w w2 → Calls Tryz.prog 141 #[.pointer (some ⟨b, 0, none⟩)] w2 fun e w' => ∃ a', e = .returned (.pointer a') ∧ R a' w') :
    Calls Tryz.prog 116 #[.pointer (some ⟨b, 0, none⟩), .agg #[.int .u32 c, .int .i64 m]] w fun e w' => ∃ a', e = .returned (.pointer a') ∧ R a' w' := by
  have eq := fun w => eql_prefix c m c m w
  simp only [beq_self_eq_true, Bool.and_self] at eq
  have eg := eq_guard
  obtain ⟨hx0, hb0, hb1⟩ := boxed2 w (.int .u32 c) (.int .i64 m) 42
  obtain ⟨g0, g1, g2, g3, -, -⟩ := box_nodeE hh hx0
  have HH : Hid _ := hh
  clear hh
  go_enter Tryz.func116, Tryz.ntmps116
  go_wp2_with fail
  refine wp_region_eager [(0, false), (1, false), (2, false), (3, false), (4, false), (5, false)] (by kernel_rfl) (by kernel_rfl) rfl (by kernel_rfl) (fun _ _ _ _ _ h => h) ?_
  generalize (w.alloc (.cells #[.int .u32 c, .int .i64 m] 42)).drew = W at *
  repeat (first
    | (refine wpE_read (v := ?_) rfl (by rfl) ?_ ?_; rotate_left; (focus (intro w' hx; go_simp; first | done | with_reducible rfl)); simp only [Act.put, List.setIfInBounds_toArray, List.set_cons_zero, List.set_cons_succ]))
  refine wpE_done ?_
  have HH1 : Hid (W.heap[b]? = some (ndO (c, m) th u pl pr)) := hx0.heap HH.out
  have l2 := g2 W (Ext.refl W)
  have l3 := g3 W (Ext.refl W)
  have f2 : W.frozen? ⟨b, 2, none⟩ = false := heap_frozen HH1.out
  have f3 : W.frozen? ⟨b, 3, none⟩ = false := heap_frozen HH1.out
  have hs := extS_set W b 2 (.bool false)
  have hs2 := extS_set (W.setCell ⟨b, 2, none⟩ (.bool false)) b 3 (.int .i64 0)
  have hN : ((W.setCell ⟨b, 2, none⟩ (.bool false)).setCell ⟨b, 3, none⟩ (.int .i64 0)).heap[b]? = some (ndO (c, m) false 0 pl pr) := by
    rw [heap_set (heap_set HH1.out (.bool false)) (.int .i64 0)]; rfl
  have k1 := kn _ hN (((hx0.toS [b]).trans hs).trans hs2)
  clear hb0 hb1 g0 g1 g2 g3 hs hs2 hN
  go_wp2_with (go_at_call 141; refine k1.mono ?_; rintro e w3 ⟨a', rfl, hR⟩)
  go_ret
  exact ⟨a', rfl, hR⟩

set_option maxHeartbeats 1000000 in
theorem cut_down (b : Nat) (a n c m i : Int) (th : Bool) (u : Int) (pl pr ka : Option Addr) (Fk : List Nat) (t' : Sh) (w : World) (R : Option Addr → World → Prop) (n0 : 0 ≤ n) (n1 : n ≤ 32)
    (hne : (a == c && n == m) = false) (hi : i = 0 ∧ ka = pl ∨ i = 1 ∧ ka = pr) (hv : halfV c n = i) (hh : w.heap[b]? = some (ndO (a, n) th u pl pr)) (hbF : b ∉ Fk) (hF : ∀ x ∈ Fk, x < w.heap.size)
    (kc : ∀ W, Ext w W → Calls Tryz.prog 116 #[.pointer ka, .agg #[.int .u32 c, .int .i64 m]] W (PutAns W Fk t'))
    (kn : ∀ w2 a' F', At w2 t' a' F' → ExtS Fk w w2 → (∀ x ∈ F', x ∈ Fk ∨ w.heap.size ≤ x) → Calls Tryz.prog 141 #[.pointer (some ⟨b, 0, none⟩)] (w2.setCell ⟨b, if i = 0 then 4 else 5, none⟩ (.pointer a')) fun e w' => ∃ a', e = .returned (.pointer a') ∧ R a' w') :
    Calls Tryz.prog 116 #[.pointer (some ⟨b, 0, none⟩), .agg #[.int .u32 c, .int .i64 m]] w fun e w' => ∃ a', e = .returned (.pointer a') ∧ R a' w' := by
  have k2 := fun w => half_any c n w n0 n1
  rw [hv] at k2
  have eq := fun w => eql_prefix a n c m w
  rw [hne] at eq
  have eg := eq_guard
  obtain ⟨hx0, hb0, hb1⟩ := boxed2 w (.int .u32 c) (.int .i64 m) 42
  obtain ⟨g0, g1, -, -, -, -⟩ := box_nodeE hh hx0
  have HH : Hid _ := hh
  have hbx : (w.alloc (.cells #[.int .u32 c, .int .i64 m] 42)).drew.heap[w.heap.size]? = some (.cells #[.int .u32 c, .int .i64 m] 42 (0, 0)) := heap_new w _
  have HX : Hid _ := hbx
  have hwF : w.heap.size ∉ Fk := fun h => by have := hF _ h; omega
  clear hh hne hv hbx
  go_enter Tryz.func116, Tryz.ntmps116
  go_wp2_with fail
  refine wp_region_eager [(0, false), (1, false), (2, false), (3, false), (4, false), (5, false)] (by kernel_rfl) (by kernel_rfl) rfl (by kernel_rfl) (fun _ _ _ _ _ h => h) ?_
  generalize (w.alloc (.cells #[.int .u32 c, .int .i64 m] 42)).drew = W at *
  repeat (first
    | (refine wpE_read (v := ?_) rfl (by rfl) ?_ ?_; rotate_left; (focus (intro w' hx; go_simp; first | done | with_reducible rfl)); simp only [Act.put, List.setIfInBounds_toArray, List.set_cons_zero, List.set_cons_succ]))
  refine wpE_done ?_
  go_wp2_with fail
  refine wp_region_eager [(0, false), (1, false), (2, false), (3, false), (4, false), (5, false), (6, false), (7, true), (8, false)] (by kernel_rfl) (by kernel_rfl) rfl (by kernel_rfl) (fun _ _ _ _ _ h => h) ?_
  have hx2 := (Ext.refl W).drew
  generalize W.drew = W2 at *
  replace hb0 := fun w' h => hb0 w' (hx2.trans h); replace hb1 := fun w' h => hb1 w' (hx2.trans h); replace g0 := fun w' h => g0 w' (hx2.trans h); replace g1 := fun w' h => g1 w' (hx2.trans h)
  repeat (first
    | (refine wpE_read (v := ?_) rfl (by rfl) ?_ ?_; rotate_left; (focus (intro w' hx; go_simp; first | done | with_reducible rfl)); simp only [Act.put, List.setIfInBounds_toArray, List.set_cons_zero, List.set_cons_succ])
    | (refine wpE_call rfl (by rfl) (fun K hK => ?_); go_simp; first
        | (go_at_call 140; refine (k2 _).mono ?_; rintro e w3 ⟨rfl, rfl⟩; refine hK _ _ (Ext.refl _) ?_; clear hK K)))
  refine wpE_done ?_
  go_wp2_with fail
  clear hb0 hb1 g0 g1
  have hxw : Ext w w3.drew := (hx0.trans hx2).drew
  have hN := hxw.heap HH.out
  have hP := hx2.drew.heap HX.out
  obtain ⟨-, -, -, -, e4, e5⟩ := box_node (F := Fk) hN hbF
  have p0 : ∀ w', ExtS Fk w3.drew w' → w'.cell? ⟨w.heap.size, 0, none⟩ = some (.int .u32 c) := fun w' h => by rw [heap_cell (h.heap hwF hP)]; rfl
  have p1 : ∀ w', ExtS Fk w3.drew w' → w'.cell? ⟨w.heap.size, 1, none⟩ = some (.int .i64 m) := fun w' h => by rw [heap_cell (h.heap hwF hP)]; rfl
  have HN : Hid _ := hN
  clear hN hP HX HH hx0 hx2
  rcases hi with ⟨rfl, rfl⟩ | ⟨rfl, rfl⟩
  · refine wp_region_tailS Fk [13] [[0, 10, 11, 12, 13], [1, 12, 13], [2, 4, 5, 6, 7, 9, 12, 13], [3, 6, 7, 9, 12, 13], [4, 5, 6, 7, 9, 12, 13], [5, 6, 7, 9, 12, 13], [6, 7, 9, 12, 13], [7, 9, 12, 13], [8, 9, 12, 13], [10, 11, 12, 13], [11, 12, 13], [], [12, 13]] [(0, false), (1, false), (2, false), (3, false), (4, false), (5, false), (6, false), (7, false), (8, false), (10, false), (11, false), (9, true), (12, false)] (by kernel_rfl) (by kernel_rfl) rfl (by kernel_rfl) (fun _ _ _ _ _ h => h) ?_
    generalize w3.drew = W4 at *
    repeat (first
      | (refine wpE_read (v := ?_) rfl (by rfl) ?_ ?_; rotate_left; (focus (intro w' hx; go_simp; first | done | with_reducible rfl)); simp only [Act.put, List.setIfInBounds_toArray, List.set_cons_zero, List.set_cons_succ])
      | (refine wpE_call rfl (by rfl) (fun K hK => ?_); go_simp; first
          | (go_at_call 116; refine (kc _ hxw).mono ?_; rintro e w5 ⟨a', F', rfl, hA', hx5, hn'⟩; refine hK _ _ hx5 ?_; clear hK K; have d4 := e4 w5 hx5; have f4 : w5.frozen? ⟨b, 4, none⟩ = false := heap_frozen (hx5.heap hbF HN.out))))
    clear e4 e5 p0 p1
    have k5 := kn w5 a' F' hA' ((hxw.toS Fk).trans hx5) (fun x hx => (hn' x hx).imp id (fun h => Nat.le_trans hxw.size h))
    simp only [if_true] at k5
    clear hA' hn' kn kc
    refine wpT_step rfl (by rfl) (fun K hK => ?_)
    go_simp
    refine hK _ _ ?_
    clear hK K
    refine wpT_done ?_
    go_wp2_with (go_at_call 141; refine k5.mono ?_; rintro e w6 ⟨a2, rfl, hR⟩)
    go_ret
    exact ⟨a2, rfl, hR⟩
  · refine wp_region_tailS Fk [13] [[0, 10, 11, 12, 13], [1, 12, 13], [2, 4, 5, 6, 7, 9, 12, 13], [3, 6, 7, 9, 12, 13], [4, 5, 6, 7, 9, 12, 13], [5, 6, 7, 9, 12, 13], [6, 7, 9, 12, 13], [7, 9, 12, 13], [8, 9, 12, 13], [10, 11, 12, 13], [11, 12, 13], [], [12, 13]] [(0, false), (1, false), (2, false), (3, false), (4, false), (5, false), (6, false), (7, false), (8, false), (10, false), (11, false), (9, true), (12, false)] (by kernel_rfl) (by kernel_rfl) rfl (by kernel_rfl) (fun _ _ _ _ _ h => h) ?_
    generalize w3.drew = W4 at *
    repeat (first
      | (refine wpE_read (v := ?_) rfl (by rfl) ?_ ?_; rotate_left; (focus (intro w' hx; go_simp; first | done | with_reducible rfl)); simp only [Act.put, List.setIfInBounds_toArray, List.set_cons_zero, List.set_cons_succ])
      | (refine wpE_call rfl (by rfl) (fun K hK => ?_); go_simp; first
          | (go_at_call 116; refine (kc _ hxw).mono ?_; rintro e w5 ⟨a', F', rfl, hA', hx5, hn'⟩; refine hK _ _ hx5 ?_; clear hK K; have d4 := e5 w5 hx5; have f4 : w5.frozen? ⟨b, 5, none⟩ = false := heap_frozen (hx5.heap hbF HN.out))))
    clear e4 e5 p0 p1
    have k5 := kn w5 a' F' hA' ((hxw.toS Fk).trans hx5) (fun x hx => (hn' x hx).imp id (fun h => Nat.le_trans hxw.size h))
    simp only [show ¬ ((1 : Int) = 0) by omega, if_false] at k5
    clear hA' hn' kn kc
    refine wpT_step rfl (by rfl) (fun K hK => ?_)
    go_simp
    refine hK _ _ ?_
    clear hK K
    refine wpT_done ?_
    go_wp2_with (go_at_call 141; refine k5.mono ?_; rintro e w6 ⟨a2, rfl, hR⟩)
    go_ret
    exact ⟨a2, rfl, hR⟩

theorem cut_any (c m : Int) (t : Sh) : ∀ (a : Option Addr) (F : List Nat) (w : World), At w t a F → WF t → pathS t (c, m) = true →
    Calls Tryz.prog 116 #[.pointer a, .agg #[.int .u32 c, .int .i64 m]] w (PutAns w F (cutS t (c, m))) := by
  induction t with
  | nil => intro a F w _ _ h; cases h
  | node q th u l r ihl ihr =>
    intro a F w hA hW hpath
    obtain ⟨b, pl, pr, Fl, Fr, rfl, rfl, hh, hl, hr, d1, d2, d3⟩ := hA
    obtain ⟨hq, hf, rl, rr, wl, wr⟩ := hW
    obtain ⟨a0, a1, n0, n1⟩ := hq.bd
    obtain ⟨qa, qn⟩ := q
    simp only at a0 a1 n0 n1
    simp only [cutS]
    simp only [pathS] at hpath
    by_cases he : (qa, qn) = (c, m)
    · rw [if_pos he]
      obtain ⟨rfl, rfl⟩ := Prod.mk.inj he
      refine (cut_here b qa qn th u pl pr w (fun a' w' => ∃ F', At w' (needS (.node (qa, qn) false 0 l r)) a' F' ∧ ExtS (b :: (Fl ++ Fr)) w w' ∧ ∀ x ∈ F', x ∈ b :: (Fl ++ Fr) ∨ w.heap.size ≤ x) hh fun w2 h2 hx2 => ?_).mono ?_
      · have hT : At w2 (.node (qa, qn) false 0 l r) (some ⟨b, 0, none⟩) (b :: (Fl ++ Fr)) := by
          refine ⟨b, pl, pr, Fl, Fr, rfl, rfl, h2, hl.later hx2 (fun x h e => ?_), hr.later hx2 (fun x h e => ?_), d1, d2, d3⟩
          · simp only [List.mem_singleton] at e; subst e; exact d1 h
          · simp only [List.mem_singleton] at e; subst e; exact d2 h
        refine (needed_any b (qa, qn) false 0 l r _ w2 hT).mono ?_
        rintro e w' ⟨a', F', rfl, rfl, h3, h4⟩
        exact ⟨a', rfl, F', h3, hx2.mono (by simp), fun x hx => .inl (h4 x hx)⟩
      · rintro e w' ⟨a', rfl, F', h1, h2, h3⟩
        exact ⟨a', F', rfl, h1, h2, h3⟩
    · rw [if_neg he]
      rw [if_neg he] at hpath
      by_cases h0 : halfV c qn = 0
      · rw [if_pos h0]
        simp only [if_pos h0] at hpath
        refine (cut_down b qa qn c m 0 th u pl pr pl Fl (cutS l (c, m)) w (fun a' w' => ∃ F', At w' (needS (.node (qa, qn) th u (cutS l (c, m)) r)) a' F' ∧ ExtS (b :: (Fl ++ Fr)) w w' ∧ ∀ x ∈ F', x ∈ b :: (Fl ++ Fr) ∨ w.heap.size ≤ x) n0 n1 (px_ne he) (.inl ⟨rfl, rfl⟩) h0 hh d1 hl.lt
          (fun W hx => ihl pl Fl W (hl.later (hx.toS []) (by simp)) wl hpath) fun w2 a' F' h1 h2 h3 => ?_).mono ?_
        · obtain ⟨r1, r2, r3⟩ := at_left hh h1 hr h2 h3 d1 d2 d3
          refine (needed_any b (qa, qn) th u _ r _ _ r1).mono ?_
          rintro e w' ⟨a2, F2, rfl, rfl, h5, h6⟩
          exact ⟨a2, rfl, F2, h5, r2, fun x hx => r3 x (h6 x hx)⟩
        · rintro e w' ⟨a', rfl, F', h1, h2, h3⟩
          exact ⟨a', F', rfl, h1, h2, h3⟩
      · rw [if_neg h0]
        simp only [if_neg h0] at hpath
        refine (cut_down b qa qn c m 1 th u pl pr pr Fr (cutS r (c, m)) w (fun a' w' => ∃ F', At w' (needS (.node (qa, qn) th u l (cutS r (c, m)))) a' F' ∧ ExtS (b :: (Fl ++ Fr)) w w' ∧ ∀ x ∈ F', x ∈ b :: (Fl ++ Fr) ∨ w.heap.size ≤ x) n0 n1 (px_ne he) (.inr ⟨rfl, rfl⟩) (not_half0 h0) hh d2 hr.lt
          (fun W hx => ihr pr Fr W (hr.later (hx.toS []) (by simp)) wr hpath) fun w2 a' F' h1 h2 h3 => ?_).mono ?_
        · obtain ⟨r1, r2, r3⟩ := at_right hh h1 hl h2 h3 d1 d2 d3
          refine (needed_any b (qa, qn) th u l _ _ _ r1).mono ?_
          rintro e w' ⟨a2, F2, rfl, rfl, h5, h6⟩
          exact ⟨a2, rfl, F2, h5, r2, fun x hx => r3 x (h6 x hx)⟩
        · rintro e w' ⟨a', rfl, F', h1, h2, h3⟩
          exact ⟨a', F', rfl, h1, h2, h3⟩
end Go.Proofs.YtkfhkhgiojpfoaaGreat.Tri

namespace Go.Proofs.YtkfhkhgiojpfoaaGreat.Tri

set_option maxRecDepth 100000

open Go.RowKit Go.Proofs.YtkfhkhgiojpfoaaGreat

set_option linter.unusedVariables false

/-- A Trie of the tree t, in the blocks F. -/
def TrieAt (w : World) (tb : Nat) (t : Sh) (F : List Nat) : Prop := ∃ root G, F = tb :: G ∧ w.heap[tb]? = some (.cells #[.pointer root] 103 (0, 0)) ∧ At w t root G ∧ tb ∉ G ∧ WF t

theorem TrieAt.later {w w' : World} {tb : Nat} {t : Sh} {F G : List Nat} (h : TrieAt w tb t F) (hx : ExtS G w w') (hd : ∀ x ∈ F, x ∉ G) : TrieAt w' tb t F := by
  obtain ⟨root, H, rfl, h1, h2, h3, h4⟩ := h
  exact ⟨root, H, rfl, hx.heap (hd tb (by simp)) h1, h2.later hx (fun x hx' => hd x (by simp [hx'])), h3, h4⟩

theorem TrieAt.lt {w : World} {tb : Nat} {t : Sh} {F : List Nat} (h : TrieAt w tb t F) : ∀ x ∈ F, x < w.heap.size := by
  obtain ⟨root, H, rfl, h1, h2, h3, h4⟩ := h
  intro x hx
  rcases List.mem_cons.1 hx with rfl | hx
  · exact heap_lt h1
  · exact h2.lt x hx

theorem TrieAt.wf {w : World} {tb : Nat} {t : Sh} {F : List Nat} (h : TrieAt w tb t F) : WF t := by
  obtain ⟨root, H, rfl, h1, h2, h3, h4⟩ := h
  exact h4

theorem TrieAt.top {w : World} {tb : Nat} {t : Sh} {F : List Nat} (h : TrieAt w tb t F) : ∃ root, Top w (some ⟨tb, 0, none⟩) root ∧ Is w t root := by
  obtain ⟨root, H, rfl, h1, h2, h3, h4⟩ := h
  exact ⟨root, .inr ⟨tb, rfl, h1⟩, h2.is⟩

theorem Set_bad (tb : Nat) (c m v : Int) (w : World) (c0 : 0 ≤ c) (c1 : c ≤ 4294967295) (hv : isV c m = false) : Calls Tryz.prog 98 #[.pointer (some ⟨tb, 0, none⟩), .agg #[.int .u32 c, .int .i64 m], .int .i64 v] w fun e w' => e = .returned (.int .i64 1) ∧ Ext w w' := by
  have k1 := fun w => is_any c m w c0 c1
  rw [hv] at k1
  have hA : Ext w (w.alloc (.cells #[.int .u32 c, .int .i64 m] 42)) := (Ext.refl w).alloc _
  clear hv
  go_enter Tryz.func98, Tryz.ntmps98
  go_wp2_with (go_at_call 87; refine (k1 _).mono ?_; rintro e w1 ⟨rfl, hx1⟩)
  go_ret
  exact ⟨rfl, hA.trans hx1⟩

def TrieAns (w : World) (tb : Nat) (F : List Nat) (t' : Sh) (w' : World) : Prop := ∃ F', TrieAt w' tb t' F' ∧ ExtS F w w' ∧ ∀ x ∈ F', x ∈ F ∨ w.heap.size ≤ x

set_option maxHeartbeats 1000000 in
theorem Set_good (tb : Nat) (c m v : Int) (t : Sh) (F : List Nat) (w : World) (hp : Vp (c, m)) (h : TrieAt w tb t F) :
    Calls Tryz.prog 98 #[.pointer (some ⟨tb, 0, none⟩), .agg #[.int .u32 c, .int .i64 m], .int .i64 v] w fun e w' => e = .returned (.int .i64 0) ∧ TrieAns w tb F (putS t (c, m) v) w' := by
  obtain ⟨c0, c1, -, -⟩ := hp.bd
  simp only at c0 c1
  have k1 := fun w => is_any c m w c0 c1
  rw [hp.is] at k1
  have hwf := put_wf (v := v) h.wf hp
  obtain ⟨root, G, rfl, hT, hA, hn, hw⟩ := h
  have k2 := fun W (hx : Ext w W) => put_any c m v hp t root G W (hA.later (hx.toS []) (by simp)) hw
  have hlt := hA.lt
  have hwG : w.heap.size ∉ G := fun h => by have := hlt _ h; omega
  have HT : Hid _ := hT
  have hxA : Ext w (w.alloc (.cells #[.int .u32 c, .int .i64 m] 42)) := (Ext.refl w).alloc _
  have HB : Hid _ := heap_new w (.cells #[.int .u32 c, .int .i64 m] 42)
  have e0 : (w.alloc (.cells #[.int .u32 c, .int .i64 m] 42)).cell? ⟨w.heap.size, 0, none⟩ = some (.int .u32 c) := by rw [heap_cell HB.out]; rfl
  have e1 : (w.alloc (.cells #[.int .u32 c, .int .i64 m] 42)).cell? ⟨w.heap.size, 1, none⟩ = some (.int .i64 m) := by rw [heap_cell HB.out]; rfl
  have HW : Hid (WF (putS t (c, m) v)) := hwf
  clear hT hA hp hwf hw
  generalize putS t (c, m) v = t' at *
  go_enter Tryz.func98, Tryz.ntmps98
  go_wp2_with (go_at_call 87; refine (k1 _).mono ?_; rintro e w1 ⟨rfl, hx1⟩)
  clear e0 e1
  have hxw : Ext w w1.drew := (hxA.trans hx1).drew
  have HT1 : Hid (w1.drew.heap[tb]? = some (.cells #[.pointer root] 103 (0, 0))) := hxw.heap HT.out
  have hB1 := hx1.drew.heap HB.out
  have p0 : ∀ w', ExtS G w1.drew w' → w'.cell? ⟨w.heap.size, 0, none⟩ = some (.int .u32 c) := fun w' h => by rw [heap_cell (h.heap hwG hB1)]; rfl
  have p1 : ∀ w', ExtS G w1.drew w' → w'.cell? ⟨w.heap.size, 1, none⟩ = some (.int .i64 m) := fun w' h => by rw [heap_cell (h.heap hwG hB1)]; rfl
  have p2 : ∀ w', ExtS G w1.drew w' → w'.cell? ⟨tb, 0, none⟩ = some (.pointer root) := fun w' h => by rw [heap_cell (h.heap hn HT1.out)]; rfl
  clear hB1 HB HT hxA hx1
  refine wp_region_tailS G [10] [[0, 8, 9, 10], [1, 2, 3, 4, 7, 8, 9, 10], [2, 3, 4, 7, 8, 9, 10], [3, 4, 7, 8, 9, 10], [4, 7, 8, 9, 10], [5, 7, 8, 9, 10], [6, 7, 8, 9, 10], [], [8, 9, 10], [9, 10]] [(0, false), (1, false), (2, false), (3, false), (4, false), (5, false), (6, false), (7, true), (8, false), (9, false)] (by kernel_rfl) (by kernel_rfl) rfl (by kernel_rfl) (fun _ _ _ _ _ h => h) ?_
  generalize w1.drew = W at *
  repeat (first
    | (refine wpE_read (v := ?_) rfl (by rfl) ?_ ?_; rotate_left; (focus (intro w' hx; go_simp; first | done | with_reducible rfl)); simp only [Act.put, List.setIfInBounds_toArray, List.set_cons_zero, List.set_cons_succ])
    | (refine wpE_call rfl (by rfl) (fun K hK => ?_); go_simp; first
        | (go_at_call 121; refine (k2 _ hxw).mono ?_; rintro e w5 ⟨a', F', rfl, hA', hx5, hn'⟩; refine hK _ _ hx5 ?_; clear hK K; have d4 := p2 w5 hx5; have f4 : w5.frozen? ⟨tb, 0, none⟩ = false := heap_frozen (hx5.heap hn HT1.out))))
  clear p0 p1 p2
  refine wpT_step rfl (by rfl) (fun K hK => ?_)
  go_simp
  refine hK _ _ ?_
  clear hK K
  refine wpT_done ?_
  go_wp2_with fail
  go_ret
  have hs := extS_set w5 tb 0 (.pointer a')
  have htl := heap_lt HT1.out
  have nt : tb ∉ F' := fun h => by rcases hn' _ h with h | h; exact hn h; omega
  refine ⟨rfl, tb :: F', ⟨a', F', rfl, ?_, hA'.later hs (fun x h e => ?_), nt, HW.out⟩, ?_, fun x hx => ?_⟩
  · rw [heap_set (hx5.heap hn HT1.out)]; rfl
  · simp only [List.mem_singleton] at e; subst e; exact nt h
  · exact ExtS.then (((hxw.toS G).trans hx5).mono (fun x h => by simp [h])) hs (fun x h => by simp only [List.mem_singleton] at h; subst h; simp)
  · rcases List.mem_cons.1 hx with rfl | hx
    · simp
    · rcases hn' x hx with h | h
      · simp [h]
      · exact .inr (Nat.le_trans hxw.size h)

/-- Set, whatever the prefix. -/
theorem Set_any (tb : Nat) (c m v : Int) (t : Sh) (F : List Nat) (w : World) (c0 : 0 ≤ c) (c1 : c ≤ 4294967295) (h : TrieAt w tb t F) :
    Calls Tryz.prog 98 #[.pointer (some ⟨tb, 0, none⟩), .agg #[.int .u32 c, .int .i64 m], .int .i64 v] w fun e w' => e = .returned (.int .i64 (if isV c m = true then 0 else 1)) ∧ TrieAns w tb F (if isV c m = true then putS t (c, m) v else t) w' := by
  by_cases hv : isV c m = true
  · simp only [if_pos hv]
    exact Set_good tb c m v t F w (vp_of c0 c1 hv) h
  · simp only [if_neg hv]
    refine (Set_bad tb c m v w c0 c1 (by simpa using hv)).mono ?_
    rintro e w' ⟨rfl, hx⟩
    exact ⟨rfl, F, h.later (hx.toS []) (by simp), hx.toS F, fun x hx => .inl hx⟩

set_option maxHeartbeats 1000000 in
theorem Del_no (rv root : Option Addr) (t : Sh) (c m : Int) (w : World) (h : Top w rv root) (ht : Is w t root) (hw : WF t) (c0 : 0 ≤ c) (c1 : c ≤ 4294967295) (hg : (getF (lastF none (coversS (begS t (c, m)) (c, m))) (c, m)).2 = false) :
    Calls Tryz.prog 96 #[.pointer rv, .agg #[.int .u32 c, .int .i64 m]] w fun e w' => e = .returned (.bool false) ∧ Ext w w' := by
  have k1 := fun w' (hx : Ext w w') => get_any rv root t c m w' (h.later hx) (ht.later hx) hw c0 c1
  rw [hg] at k1
  generalize (getF (lastF none (coversS (begS t (c, m)) (c, m))) (c, m)).1 = z at *
  have hxA : Ext w (w.alloc (.cells #[.int .u32 c, .int .i64 m] 42)) := (Ext.refl w).alloc _
  clear hg
  go_enter Tryz.func96, Tryz.ntmps96
  go_wp2_with (go_at_call 115; refine (k1 _ hxA).mono ?_; rintro e w1 ⟨rfl, hx1⟩)
  go_ret
  exact ⟨rfl, hxA.trans hx1⟩

set_option maxHeartbeats 1000000 in
theorem Del_yes (tb : Nat) (c m : Int) (t : Sh) (F : List Nat) (w : World) (c0 : 0 ≤ c) (c1 : c ≤ 4294967295) (h : TrieAt w tb t F) (hg : (getF (lastF none (coversS (begS t (c, m)) (c, m))) (c, m)).2 = true) (hpath : pathS t (c, m) = true) :
    Calls Tryz.prog 96 #[.pointer (some ⟨tb, 0, none⟩), .agg #[.int .u32 c, .int .i64 m]] w fun e w' => e = .returned (.bool true) ∧ TrieAns w tb F (cutS t (c, m)) w' := by
  have hwf := cut_wf (p := (c, m)) h.wf
  obtain ⟨root, G, rfl, hT, hA, hn, hw⟩ := h
  have k1 := fun w' (hx : Ext w w') => get_any (some ⟨tb, 0, none⟩) root t c m w' (.inr ⟨tb, rfl, hx.heap hT⟩) (hA.is.later hx) hw c0 c1
  rw [hg] at k1
  generalize (getF (lastF none (coversS (begS t (c, m)) (c, m))) (c, m)).1 = z at *
  have k2 := fun W (hx : Ext w W) => cut_any c m t root G W (hA.later (hx.toS []) (by simp)) hw hpath
  have hlt := hA.lt
  have hwG : w.heap.size ∉ G := fun h => by have := hlt _ h; omega
  have HT : Hid _ := hT
  have hxA : Ext w (w.alloc (.cells #[.int .u32 c, .int .i64 m] 42)) := (Ext.refl w).alloc _
  have HB : Hid _ := heap_new w (.cells #[.int .u32 c, .int .i64 m] 42)
  have e0 : (w.alloc (.cells #[.int .u32 c, .int .i64 m] 42)).cell? ⟨w.heap.size, 0, none⟩ = some (.int .u32 c) := by rw [heap_cell HB.out]; rfl
  have e1 : (w.alloc (.cells #[.int .u32 c, .int .i64 m] 42)).cell? ⟨w.heap.size, 1, none⟩ = some (.int .i64 m) := by rw [heap_cell HB.out]; rfl
  have HW : Hid (WF (cutS t (c, m))) := hwf
  clear hT hA hwf hw hg hpath
  generalize cutS t (c, m) = t' at *
  go_enter Tryz.func96, Tryz.ntmps96
  go_wp2_with (go_at_call 115; refine (k1 _ hxA).mono ?_; rintro e w1 ⟨rfl, hx1⟩)
  clear e0 e1
  have hxw : Ext w w1.drew := (hxA.trans hx1).drew
  have HT1 : Hid (w1.drew.heap[tb]? = some (.cells #[.pointer root] 103 (0, 0))) := hxw.heap HT.out
  have hB1 := hx1.drew.heap HB.out
  have p0 : ∀ w', ExtS G w1.drew w' → w'.cell? ⟨w.heap.size, 0, none⟩ = some (.int .u32 c) := fun w' h => by rw [heap_cell (h.heap hwG hB1)]; rfl
  have p1 : ∀ w', ExtS G w1.drew w' → w'.cell? ⟨w.heap.size, 1, none⟩ = some (.int .i64 m) := fun w' h => by rw [heap_cell (h.heap hwG hB1)]; rfl
  have p2 : ∀ w', ExtS G w1.drew w' → w'.cell? ⟨tb, 0, none⟩ = some (.pointer root) := fun w' h => by rw [heap_cell (h.heap hn HT1.out)]; rfl
  clear hB1 HB HT hxA hx1
  refine wp_region_tailS G [9] [[0, 7, 8, 9], [1, 2, 3, 4, 6, 7, 8, 9], [2, 3, 4, 6, 7, 8, 9], [3, 4, 6, 7, 8, 9], [4, 6, 7, 8, 9], [5, 6, 7, 8, 9], [], [7, 8, 9], [8, 9]] [(0, false), (1, false), (2, false), (3, false), (4, false), (5, false), (6, true), (7, false), (8, false)] (by kernel_rfl) (by kernel_rfl) rfl (by kernel_rfl) (fun _ _ _ _ _ h => h) ?_
  generalize w1.drew = W at *
  repeat (first
    | (refine wpE_read (v := ?_) rfl (by rfl) ?_ ?_; rotate_left; (focus (intro w' hx; go_simp; first | done | with_reducible rfl)); simp only [Act.put, List.setIfInBounds_toArray, List.set_cons_zero, List.set_cons_succ])
    | (refine wpE_call rfl (by rfl) (fun K hK => ?_); go_simp; first
        | (go_at_call 116; refine (k2 _ hxw).mono ?_; rintro e w5 ⟨a', F', rfl, hA', hx5, hn'⟩; refine hK _ _ hx5 ?_; clear hK K; have d4 := p2 w5 hx5; have f4 : w5.frozen? ⟨tb, 0, none⟩ = false := heap_frozen (hx5.heap hn HT1.out))))
  clear p0 p1 p2
  refine wpT_step rfl (by rfl) (fun K hK => ?_)
  go_simp
  refine hK _ _ ?_
  clear hK K
  refine wpT_done ?_
  go_wp2_with fail
  go_ret
  have hs := extS_set w5 tb 0 (.pointer a')
  have htl := heap_lt HT1.out
  have nt : tb ∉ F' := fun h => by rcases hn' _ h with h | h; exact hn h; omega
  refine ⟨rfl, tb :: F', ⟨a', F', rfl, ?_, hA'.later hs (fun x h e => ?_), nt, HW.out⟩, ?_, fun x hx => ?_⟩
  · rw [heap_set (hx5.heap hn HT1.out)]; rfl
  · simp only [List.mem_singleton] at e; subst e; exact nt h
  · exact ExtS.then (((hxw.toS G).trans hx5).mono (fun x h => by simp [h])) hs (fun x h => by simp only [List.mem_singleton] at h; subst h; simp)
  · rcases List.mem_cons.1 hx with rfl | hx
    · simp
    · rcases hn' x hx with h | h
      · simp [h]
      · exact .inr (Nat.le_trans hxw.size h)
end Go.Proofs.YtkfhkhgiojpfoaaGreat.Tri

namespace Go.Proofs.YtkfhkhgiojpfoaaGreat.Tri

set_option maxRecDepth 100000

open Go.RowKit Go.Proofs.YtkfhkhgiojpfoaaGreat

set_option linter.unusedVariables false

theorem trie_new (w : World) : TrieAt (w.alloc (.cells #[.pointer none] 103)) w.heap.size .nil [w.heap.size] :=
  ⟨none, [], rfl, heap_new w _, ⟨rfl, rfl⟩, by simp, trivial⟩

/-- A prefix taken away, if it is there. -/
def delS (t : Sh) (p : PX) : Sh := if foundB (toL t) p = true then cutS t p else t

theorem del_toL {t : Sh} (h : WF t) (p : PX) : toL (delS t p) = delL (toL t) p := by
  unfold delS
  split
  · rename_i hf; exact cut_toL h hf
  · rename_i hf; exact (del_not (srt_toL h) (by simpa using hf)).symm

theorem get_t {t : Sh} (h : WF t) {p : PX} (h0 : 0 ≤ p.1) (h1 : p.1 ≤ 4294967295) : getF (lastF none (coversS (begS t p) p)) p = getL (toL t) p := by
  rw [beg_covL h h0 h1, get_toL (srt_toL h) (fun x hx => h.vp hx) h0 h1]

/-- Del, whatever the prefix. -/
theorem Del_any (tb : Nat) (c m : Int) (t : Sh) (F : List Nat) (w : World) (c0 : 0 ≤ c) (c1 : c ≤ 4294967295) (h : TrieAt w tb t F) :
    Calls Tryz.prog 96 #[.pointer (some ⟨tb, 0, none⟩), .agg #[.int .u32 c, .int .i64 m]] w fun e w' => e = .returned (.bool (foundB (toL t) (c, m))) ∧ TrieAns w tb F (delS t (c, m)) w' := by
  have hg := get_t h.wf (p := (c, m)) c0 c1
  have h2 := getL_two (toL t) (c, m)
  unfold delS
  by_cases hf : foundB (toL t) (c, m) = true
  · rw [if_pos hf, hf]
    obtain ⟨u, hu⟩ := (found_mem (srt_toL h.wf)).1 hf
    exact Del_yes tb c m t F w c0 c1 h (by rw [hg, h2, hf]) (path_of h.wf hu)
  · have hf' : foundB (toL t) (c, m) = false := by simpa using hf
    rw [if_neg hf, hf']
    obtain ⟨root, ht, hi⟩ := h.top
    refine (Del_no _ root t c m w ht hi h.wf c0 c1 (by rw [hg, h2, hf'])).mono ?_
    rintro e w' ⟨rfl, hx⟩
    exact ⟨rfl, F, h.later (hx.toS []) (by simp), hx.toS F, fun x hx => .inl hx⟩

/-- A prefix laid, if it may be. -/
def setS (t : Sh) (p : PX) (v : Int) : Sh := if isV p.1 p.2 = true then putS t p v else t
def setR (L : Row) (p : PX) (v : Int) : Row := if isV p.1 p.2 = true then setL L p v else L
def errV (p : PX) : Int := if isV p.1 p.2 = true then 0 else 1

theorem TrieAt.ext {w w' : World} {tb : Nat} {t : Sh} {F : List Nat} (h : TrieAt w tb t F) (hx : Ext w w') : TrieAt w' tb t F := h.later (hx.toS []) (by simp)

/-- A Trie of the row D, in the blocks F. -/
def TrieR (w : World) (tb : Nat) (D : Row) (F : List Nat) : Prop := ∃ t, TrieAt w tb t F ∧ toL t = D

def TrieRAns (w : World) (F : List Nat) (tb : Nat) (D : Row) (w' : World) : Prop := ∃ F', TrieR w' tb D F' ∧ ExtS F w w' ∧ ∀ x ∈ F', x ∈ F ∨ w.heap.size ≤ x

theorem TrieR.later {w w' : World} {tb : Nat} {D : Row} {F G : List Nat} (h : TrieR w tb D F) (hx : ExtS G w w') (hd : ∀ x ∈ F, x ∉ G) : TrieR w' tb D F := by
  obtain ⟨t, h1, h2⟩ := h
  exact ⟨t, h1.later hx hd, h2⟩

theorem TrieR.ext {w w' : World} {tb : Nat} {D : Row} {F : List Nat} (h : TrieR w tb D F) (hx : Ext w w') : TrieR w' tb D F := h.later (hx.toS []) (by simp)

theorem TrieR.lt {w : World} {tb : Nat} {D : Row} {F : List Nat} (h : TrieR w tb D F) : ∀ x ∈ F, x < w.heap.size := by
  obtain ⟨t, h1, h2⟩ := h
  exact h1.lt

theorem tset {w : World} {tb : Nat} {D : Row} {F : List Nat} (h : TrieR w tb D F) (a n v : Int) (a0 : 0 ≤ a) (a1 : a ≤ 4294967295) (hv : isV a n = true) :
    Calls Tryz.prog 98 #[.pointer (some ⟨tb, 0, none⟩), .agg #[.int .u32 a, .int .i64 n], .int .i64 v] w fun e w' => e = .returned (.int .i64 0) ∧ TrieRAns w F tb (setL D (a, n) v) w' := by
  obtain ⟨t, h1, rfl⟩ := h
  have k := Set_any tb a n v t F w a0 a1 h1
  rw [if_pos hv, if_pos hv] at k
  refine k.mono ?_
  rintro e w' ⟨rfl, F', k1, k2, k3⟩
  exact ⟨rfl, F', ⟨_, k1, put_toL h1.wf (vp_of a0 a1 hv) v⟩, k2, k3⟩

theorem tdel {w : World} {tb : Nat} {D : Row} {F : List Nat} (h : TrieR w tb D F) (a n : Int) (a0 : 0 ≤ a) (a1 : a ≤ 4294967295) :
    Calls Tryz.prog 96 #[.pointer (some ⟨tb, 0, none⟩), .agg #[.int .u32 a, .int .i64 n]] w fun e w' => e = .returned (.bool (foundB D (a, n))) ∧ TrieRAns w F tb (delL D (a, n)) w' := by
  obtain ⟨t, h1, rfl⟩ := h
  refine (Del_any tb a n t F w a0 a1 h1).mono ?_
  rintro e w' ⟨rfl, F', k1, k2, k3⟩
  exact ⟨rfl, F', ⟨_, k1, del_toL h1.wf (a, n)⟩, k2, k3⟩

theorem tnew (w : World) : Calls Tryz.prog 45 #[] w fun e w' => e = .returned (.pointer (some ⟨w.heap.size, 0, none⟩)) ∧ Ext w w' ∧ TrieR w' w.heap.size [] [w.heap.size] := by
  have h := trie_new w
  have hx : Ext w (w.alloc (.cells #[.pointer none] 103)) := (Ext.refl w).alloc _
  refine (new_any w).mono ?_
  rintro e w' ⟨rfl, rfl⟩
  exact ⟨rfl, hx, .nil, h, rfl⟩
end Go.Proofs.YtkfhkhgiojpfoaaGreat.Tri

namespace Go.Proofs.YtkfhkhgiojpfoaaGreat.Fb

set_option maxRecDepth 100000

open Go.RowKit Go.Proofs.YtkfhkhgiojpfoaaGreat Go.Proofs.YtkfhkhgiojpfoaaGreat.Rb

set_option linter.unusedVariables false

set_option linter.unusedSimpArgs false

def ubk (q : Option Addr) : List Nat := match q with
  | none => []
  | some a => [a.block]

theorem Ups.later {w w' : World} {q : Option Addr} {m : Nat} {U : List Bool} {G : List Nat} (h : Ups w q m U) (hx : ExtS G w w') (hd : ∀ x ∈ ubk q, x ∉ G) : Ups w' q m U := by
  refine ⟨h.len, h.small, ?_⟩
  rcases h.cells with h0 | ⟨b, off, rfl, hc⟩
  · exact .inl h0
  · refine .inr ⟨b, off, rfl, fun j u hj => ?_⟩
    have := hc j u hj
    unfold World.cell? at *
    rw [hx.block b (block_lt (hc j u hj)) (hd b (by simp [ubk]))]
    exact this

theorem has_any (fb : Nat) (i : Int) (q : Option Addr) (m d : Nat) (w : World) (h1 : w.cell? ⟨fb, 1, none⟩ = some (.slice q m d)) :
    Calls Tryz.prog 47 #[.pointer (some ⟨fb, 0, none⟩), .int .i64 i] w fun e w' => e = .returned (.bool (decide (0 ≤ i) && decide (i < (m : Int)))) ∧ w' = w := by
  by_cases h0 : 0 ≤ i
  · have e : (decide (0 ≤ i) && decide (i < (m : Int))) = decide (i < (m : Int)) := by simp [h0]
    rw [e]
    go_enter Tryz.func47, Tryz.ntmps47
    go_wp2_with fail
    go_ret
    exact ⟨rfl, rfl⟩
  · have e : (decide (0 ≤ i) && decide (i < (m : Int))) = false := by simp [h0]
    rw [e]
    clear e
    go_enter Tryz.func47, Tryz.ntmps47
    go_wp2_with fail
    go_ret
    exact ⟨rfl, rfl⟩

theorem of_any (fb i : Nat) (w : World) (hi : i < 4) :
    Calls Tryz.prog 75 #[.pointer (some ⟨fb, 0, none⟩), .int .i64 (i : Int)] w fun e w' => e = .returned (.pointer (some ⟨fb, 2 + i * 3, none⟩)) ∧ w' = w := by
  have h0 : ¬ ((i : Int) < 0) := by omega
  have h1 : ¬ (4 ≤ (i : Int)) := by omega
  go_enter Tryz.func75, Tryz.ntmps75
  go_wp2_with fail
  go_ret
  exact ⟨rfl, rfl⟩

theorem of_none (fb : Nat) (i : Int) (w : World) (hi : i < 0 ∨ 4 ≤ i) :
    Calls Tryz.prog 75 #[.pointer (some ⟨fb, 0, none⟩), .int .i64 i] w fun e w' => e = .returned (.pointer none) ∧ w' = w := by
  rcases hi with h0 | h0
  · go_enter Tryz.func75, Tryz.ntmps75
    go_wp2_with fail
    go_ret
    exact ⟨rfl, rfl⟩
  · have h1 : ¬ (i < 0) := by omega
    go_enter Tryz.func75, Tryz.ntmps75
    go_wp2_with fail
    go_ret
    exact ⟨rfl, rfl⟩

theorem way_no (a : Option Addr) (i : Int) (w : World) : Calls Tryz.prog 77 #[.pointer a, .int .i64 i, .bool false] w (BestAns w none) := by
  have hA : Ext w (w.alloc (.cells #[.int .i64 zeroR.t, .int .u32 zeroR.a, .int .i64 zeroR.l, .int .i64 zeroR.i, .int .u32 zeroR.g, .int .i64 zeroR.m] 48)) := (Ext.refl w).alloc _
  have HB : Hid _ := heap_new w (.cells #[.int .i64 zeroR.t, .int .u32 zeroR.a, .int .i64 zeroR.l, .int .i64 zeroR.i, .int .u32 zeroR.g, .int .i64 zeroR.m] 48)
  go_enter Tryz.func77, Tryz.ntmps77
  go_wp2_with (refine wpl_store (by rfl) 48 _ _ rfl rfl 6 w.heap.size #[.int .i64 zeroR.t, .int .u32 zeroR.a, .int .i64 zeroR.l, .int .i64 zeroR.i, .int .u32 zeroR.g, .int .i64 zeroR.m] _ _ rfl rfl HB.out rt_size rfl rfl (by simp [Value.oneCell']) ?_; intro w5 hx5 k5)
  exact bodyPost_ret (results_two Tryz.results77 _ rfl k5 Tryz.underlying48 rfl rt_size) rfl ⟨rfl, ExtX.ext hA hx5 (Nat.le_refl _)⟩

theorem way_yes (fb o : Nat) (p : Option Addr) (n c : Nat) (A : List Rt) (k : Nat) (r : Rt) (w : World) (hc : w.cell? ⟨fb, o, none⟩ = some (.slice p n c)) (hR : Rd w p n c A) (hk : A[k]? = some r) :
    Calls Tryz.prog 77 #[.pointer (some ⟨fb, o, none⟩), .int .i64 (k : Int), .bool true] w (BestAns w (some r)) := by
  have hA : Ext w (w.alloc (.cells #[.int .i64 0, .int .u32 0, .int .i64 0, .int .i64 0, .int .u32 0, .int .i64 0] 48)) := (Ext.refl w).alloc _
  have HB : Hid _ := heap_new w (.cells #[.int .i64 0, .int .u32 0, .int .i64 0, .int .i64 0, .int .u32 0, .int .i64 0] 48)
  have hn := hR.len
  have hkn : k < n := by rw [← hn]; exact (List.getElem?_eq_some_iff.1 hk).1
  have hki : (k : Int) < (n : Int) := by omega
  have hc' : (w.alloc (.cells #[.int .i64 0, .int .u32 0, .int .i64 0, .int .i64 0, .int .u32 0, .int .i64 0] 48)).cell? ⟨fb, o, none⟩ = some (.slice p n c) := by rw [hA.below.cell (p := ⟨fb, o, none⟩) (block_lt hc)]; exact hc
  obtain ⟨b, off, rfl, hb, g0, g1, g2, g3, g4, g5⟩ := (hR.ext hA).cell hk
  clear hc hR hk hn hA
  go_enter Tryz.func77, Tryz.ntmps77
  go_wp2_with (refine wpl_store (by rfl) 48 _ _ rfl rfl 6 w.heap.size #[.int .i64 r.t, .int .u32 r.a, .int .i64 r.l, .int .i64 r.i, .int .u32 r.g, .int .i64 r.m] _ _ rfl rfl HB.out rt_size rfl rfl (by simp [Value.oneCell']) ?_; intro w5 hx5 k5)
  exact bodyPost_ret (results_two Tryz.results77 _ rfl k5 Tryz.underlying48 rfl rt_size) rfl ⟨rfl, ExtX.ext ((Ext.refl w).alloc _) hx5 (Nat.le_refl _)⟩
end Go.Proofs.YtkfhkhgiojpfoaaGreat.Fb
