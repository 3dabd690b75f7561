/- Package trie's Longest, Covers. -/
import Derived.Test.YtgcnnblngmomhaaTree3
import Derived.Test.YtgcnnblngmomhaaTree4
namespace Go.Proofs.Ytgcnnblngmomhaa.Tri
open Go.RowKit Go.Proofs.Ytgcnnblngmomhaa
set_option linter.unusedVariables false

/-- What is answered of what was found. -/
def ansO (o : Option (PX × Int)) : Value := match o with
  | none => .tuple #[.agg #[.int .u32 0, .int .i64 0], .int .i64 0, .bool false]
  | some x => .tuple #[.agg #[.int .u32 x.1.1, .int .i64 x.1.2], .int .i64 x.2, .bool true]

set_option maxHeartbeats 1000000 in
theorem Longest_any (rv root : Option Addr) (t : Sh) (c : Int) (w : World) (h : Top w rv root) (ht : Is w t root) (hw : WF t) (c0 : 0 ≤ c) (c1 : c ≤ 4294967295) :
    Calls Try.prog 22 #[.pointer rv, .int .u32 c] w fun e w' => e = .returned (ansO (lastF none (coversS (begS t (c, 32)) (c, 32)))) ∧ Ext w w' := by
  have k1 := fun w' (hx : Ext w w') => longest_any rv root t c 32 w' (h.later hx) (ht.later hx) hw c0 c1
  have hA : Ext w (w.alloc (.cells #[.int .u32 0, .int .i64 0] 32)) := (Ext.refl w).alloc _
  have hx0 := heap_new w (.cells #[.int .u32 0, .int .i64 0] 32)
  generalize lastF none (coversS (begS t (c, 32)) (c, 32)) = o at *
  have HH : Hid _ := hx0
  clear hx0
  cases o with
  | none =>
    go_enter Try.func22, Try.ntmps22
    go_wp2_with (go_at_call 38; refine (k1 _ hA).mono ?_; rintro e w1 ⟨fa, rfl, hf, hx1⟩; obtain rfl : fa = none := hf; have hh1 := hx1.heap HH.out; have d0 : w1.cell? ⟨w.heap.size, 0, none⟩ = some (.int .u32 0) := (by rw [heap_cell hh1]; rfl); have d1 : w1.cell? ⟨w.heap.size, 1, none⟩ = some (.int .i64 0) := (by rw [heap_cell hh1]; rfl); have f0 : w1.frozen? ⟨w.heap.size, 0, none⟩ = false := heap_frozen hh1; have f1 : w1.frozen? ⟨w.heap.size, 1, none⟩ = false := heap_frozen hh1; have HH1 : Hid _ := hh1; clear hh1)
    have k2 := heap_set (heap_set HH1.out (k := 0) (.int .u32 0)) (k := 1) (.int .i64 0)
    have d0' : ((w1.setCell ⟨w.heap.size, 0, none⟩ (.int .u32 0)).setCell ⟨w.heap.size, 1, none⟩ (.int .i64 0)).cell? ⟨w.heap.size, 0, none⟩ = some (.int .u32 0) := by rw [heap_cell k2]; rfl
    have d1' : ((w1.setCell ⟨w.heap.size, 0, none⟩ (.int .u32 0)).setCell ⟨w.heap.size, 1, none⟩ (.int .i64 0)).cell? ⟨w.heap.size, 1, none⟩ = some (.int .i64 0) := by rw [heap_cell k2]; rfl
    have hx2 : Ext w ((w1.setCell ⟨w.heap.size, 0, none⟩ (.int .u32 0)).setCell ⟨w.heap.size, 1, none⟩ (.int .i64 0)) :=
      ExtX.ext (hA.trans hx1) (((ExtX.refl w.heap.size w1).setCell (p := ⟨w.heap.size, 0, none⟩) rfl _).setCell (p := ⟨w.heap.size, 1, none⟩) rfl _) (Nat.le_refl _)
    clear k2 d0 d1 f0 f1 HH1
    generalize ((w1.setCell ⟨w.heap.size, 0, none⟩ (.int .u32 0)).setCell ⟨w.heap.size, 1, none⟩ (.int .i64 0)) = w2 at *
    exact bodyPost_ret (v := ansO none) (by simp [ansO, results, Try.results22, go_sem, d0', d1']) rfl ⟨rfl, hx2⟩
  | some x =>
    obtain ⟨⟨a, n⟩, u⟩ := x
    go_enter Try.func22, Try.ntmps22
    go_wp2_with (go_at_call 38; refine (k1 _ hA).mono ?_; rintro e w1 ⟨fa, rfl, hf, hx1⟩; obtain ⟨b, pl, pr, rfl, hh⟩ := hf; have HB : Hid _ := hh; clear hh)
    have hh1 := hx1.heap HH.out
    have hbx : b ≠ w.heap.size := by
      intro e
      have h1 := HB.out
      rw [e, hh1] at h1
      cases h1
    refine wp_region_eagerX w.heap.size [(0, false), (1, false), (2, false), (3, false), (4, false), (5, false), (6, false), (7, false), (8, true), (9, false), (10, false)] (by kernel_rfl) (by kernel_rfl) rfl (by kernel_rfl) (fun _ _ _ _ _ h => h) ?_
    have hbl := heap_lt HB.out
    have gk : ∀ k w', ExtX w.heap.size w1.drew w' → w'.cell? ⟨b, k, none⟩ = #[Value.int .u32 a, .int .i64 n, .bool true, .int .i64 u, .pointer pl, .pointer pr][k]? := fun k w' hx => heap_cell ((hx.block b hbl hbx).trans HB.out)
    have g0 := gk 0
    have g1 := gk 1
    have g3 := gk 3
    simp only [List.getElem?_toArray, List.getElem?_cons_zero, List.getElem?_cons_succ] at g0 g1 g3
    have d0 : w1.drew.cell? ⟨w.heap.size, 0, none⟩ = some (.int .u32 0) := by rw [heap_cell (w := w1.drew) hh1]; rfl
    have d1 : w1.drew.cell? ⟨w.heap.size, 1, none⟩ = some (.int .i64 0) := by rw [heap_cell (w := w1.drew) hh1]; rfl
    have f0 : w1.drew.frozen? ⟨w.heap.size, 0, none⟩ = false := heap_frozen (w := w1.drew) hh1
    have f1 : w1.drew.frozen? ⟨w.heap.size, 1, none⟩ = false := heap_frozen (w := w1.drew) hh1
    have k2 := heap_set (heap_set (w := w1.drew) hh1 (k := 0) (.int .u32 a)) (k := 1) (.int .i64 n)
    have hx2 : Ext w ((w1.drew.setCell ⟨w.heap.size, 0, none⟩ (.int .u32 a)).setCell ⟨w.heap.size, 1, none⟩ (.int .i64 n)) :=
      ExtX.ext (hA.trans hx1).drew (((ExtX.refl w.heap.size w1.drew).setCell (p := ⟨w.heap.size, 0, none⟩) rfl _).setCell (p := ⟨w.heap.size, 1, none⟩) rfl _) (Nat.le_refl _)
    have H2 : Hid _ := k2
    clear k2 gk hh1 HB HH hx1 hbl
    generalize w1.drew = W at *
    repeat (first
      | (refine wpE_read (v := ?_) rfl (by rfl) ?_ ?_; rotate_left; (focus (intro w' hx; go_simp; first | done | with_reducible rfl)); simp only [Act.put, List.setIfInBounds_toArray, List.set_cons_zero, List.set_cons_succ]))
    refine wpE_call rfl (by rfl) (fun K hK => ?_)
    go_simp
    refine hK _ _ (((ExtX.refl _ _).setCell (p := ⟨w.heap.size, 0, none⟩) rfl _).setCell (p := ⟨w.heap.size, 1, none⟩) rfl _) ?_
    clear hK K
    have d0' : ((W.setCell ⟨w.heap.size, 0, none⟩ (.int .u32 a)).setCell ⟨w.heap.size, 1, none⟩ (.int .i64 n)).cell? ⟨w.heap.size, 0, none⟩ = some (.int .u32 a) := by rw [heap_cell H2.out]; rfl
    have d1' : ((W.setCell ⟨w.heap.size, 0, none⟩ (.int .u32 a)).setCell ⟨w.heap.size, 1, none⟩ (.int .i64 n)).cell? ⟨w.heap.size, 1, none⟩ = some (.int .i64 n) := by rw [heap_cell H2.out]; rfl
    clear g0 g1 g3 d0 d1 f0 f1 H2
    generalize ((W.setCell ⟨w.heap.size, 0, none⟩ (.int .u32 a)).setCell ⟨w.heap.size, 1, none⟩ (.int .i64 n)) = w2 at *
    repeat (first
      | (refine wpE_read (v := ?_) rfl (by rfl) ?_ ?_; rotate_left; (focus (intro w' hx; go_simp; first | done | with_reducible rfl)); simp only [Act.put, List.setIfInBounds_toArray, List.set_cons_zero, List.set_cons_succ]))
    refine wpE_done ?_
    go_wp2_with fail
    exact bodyPost_ret (v := ansO (some ((a, n), u))) (by simp [ansO, results, Try.results22, go_sem, d0', d1']) rfl ⟨rfl, hx2⟩

set_option maxHeartbeats 1000000 in
theorem Covers_any (rv root : Option Addr) (t : Sh) (c m : Int) (w : World) (h : Top w rv root) (ht : Is w t root) (hw : WF t) (hsz : szS t ≤ 1000000) (c0 : 0 ≤ c) (c1 : c ≤ 4294967295) :
    Calls Try.prog 25 #[.pointer rv, .agg #[.int .u32 c, .int .i64 m]] w fun e w' => ∃ v, e = .returned v ∧ OwnP w' w.heap.size v ((coversS (begS t (c, m)) (c, m)).map (·.1)) ∧ Ext w w' := by
  have k1 := fun w' (hx : Ext w w') => first_any rv root t c m w' (h.later hx) (ht.later hx) hw c0 c1
  have hA : Ext w (w.alloc (.cells #[.int .u32 c, .int .i64 m] 32)) := (Ext.refl w).alloc _
  have hn := heap_new w (.cells #[.int .u32 c, .int .i64 m] 32)
  have hbw := beg_wf hw (c, m)
  have hbt := beg_twice t (c, m)
  have hbs : szS (begS t (c, m)) ≤ 1000000 := by unfold begS; split; exact Nat.le_trans (sz_cov _ _) hsz; exact Nat.zero_le _
  generalize begS t (c, m) = s0 at *
  have HN : Hid _ := hn
  clear hn
  have e0 : (w.alloc (.cells #[.int .u32 c, .int .i64 m] 32)).cell? ⟨w.heap.size, 0, none⟩ = some (.int .u32 c) := by rw [heap_cell HN.out]; rfl
  have e1 : (w.alloc (.cells #[.int .u32 c, .int .i64 m] 32)).cell? ⟨w.heap.size, 1, none⟩ = some (.int .i64 m) := by rw [heap_cell HN.out]; rfl
  go_enter Try.func25, Try.ntmps25
  go_wp2_with (go_at_call 40; refine (k1 _ hA).mono ?_; rintro e w1 ⟨na0, rfl, hna, hx1⟩)
  clear e0 e1
  have hA1 : Ext w w1 := hA.trans hx1
  have hn1 := hx1.heap HN.out
  have HN1 : Hid (w1.heap[w.heap.size]? = some (.cells #[.int .u32 c, .int .i64 m] 32 (0, 0))) := hn1
  clear HN hn1 hx1 hA k1 h ht
  -- the tree lies below w1's end; what is appended, behind it
  go_loopg [5, 6] (szS s0) (fun k f n wr => ∃ (na : Option Addr) (s : Sh) (L : List PX), n = .pointer na ∧ Is w1 s na ∧ OwnP wr w1.heap.size f L ∧ Ext w1 wr ∧ Hid (szS s = k ∧ L.length + szS s ≤ 1000000 ∧ WF s ∧ covS s (c, m) = s ∧ L ++ (coversS s (c, m)).map (·.1) = (coversS s0 (c, m)).map (·.1)))
  case atStart => exact ⟨na0, s0, [], rfl, hna, OwnP.nil _ _, Ext.refl _, ⟨rfl, by simpa using hbs, hbw, hbt, rfl⟩⟩
  case round =>
    obtain ⟨na, s, L, rfl, hs, hown, hx, H⟩ := hrel
    clear hna hbw hbt hbs
    cases s with
    | nil =>
      obtain rfl : na = none := hs
      go_wp2_with fail
      go_ret
      refine ⟨_, rfl, ?_, hA1.trans hx⟩
      obtain ⟨_, _, _, _, hL⟩ := H.out
      simp only [coversS, List.map_nil, List.append_nil] at hL
      rw [← hL]
      exact owns_base hown hA1.size
    | node q th u l r =>
      obtain ⟨b, pl, pr, rfl, hh, hl, hr⟩ := hs
      obtain ⟨hk, hlen, hws, hcs, hL⟩ := H.out
      have k2 := fun w' (hx : Ext w1 w') => next_all b q th u l r pl pr c m w' hws c0 c1 (hx.heap hh) (hl.later hx) (hr.later hx)
      have hhr := hx.heap hh
      have g0 : wr.cell? ⟨b, 0, none⟩ = some (.int .u32 q.1) := by rw [heap_cell hhr]; rfl
      have g1 : wr.cell? ⟨b, 1, none⟩ = some (.int .i64 q.2) := by rw [heap_cell hhr]; rfl
      have g2 : wr.cell? ⟨b, 2, none⟩ = some (.bool th) := by rw [heap_cell hhr]; rfl
      have hp : ∀ w', Ext w1 w' → w'.cell? ⟨w.heap.size, 0, none⟩ = some (.int .u32 c) ∧ w'.cell? ⟨w.heap.size, 1, none⟩ = some (.int .i64 m) := fun w' hx => ⟨by rw [heap_cell (hx.heap HN1.out)]; rfl, by rw [heap_cell (hx.heap HN1.out)]; rfl⟩
      have HP : Hid _ := hp
      have hm := sz_kid (c, m) q th u l r
      have hkw := kid_wf (p := (c, m)) hws
      have hstep := covers_step hcs
      have hkt := covS_twice (kidS (c, m) (.node q th u l r)) (c, m)
      generalize covS (kidS (c, m) (.node q th u l r)) (c, m) = s' at *
      rw [hstep] at hL
      have HA : Aside (szS s' < gk ∧ (L ++ (own q th u).map (·.1)).length + szS s' ≤ 1000000 ∧ WF s' ∧ covS s' (c, m) = s' ∧ (L ++ (own q th u).map (·.1)) ++ (coversS s' (c, m)).map (·.1) = (coversS s0 (c, m)).map (·.1) ∧ Is w1 l pl ∧ Is w1 r pr) := by
        refine ⟨by omega, ?_, hkw, hkt, by rw [← hL]; simp, hl, hr⟩
        have : (own q th u).length ≤ 1 := by unfold own; split <;> simp
        simp only [List.length_append, List.length_map]
        omega
      have hLl : L.length ≤ 1000000 := by omega
      clear hk hws hcs hL hm hkw hstep hkt hh hhr hl hr H hlen hp
      cases th
      · obtain ⟨e0, e1⟩ := HP.out wr hx
        go_wp2_with (go_at_call 41; refine (k2 _ hx).mono ?_; rintro e w2 ⟨na', rfl, hn', hx2⟩)
        obtain ⟨hm, hlen, hkw, hkt, hL, hl, hr⟩ := HA.out
        simp only [own, Bool.false_eq_true, if_false, List.map_nil, List.append_nil] at hL hlen
        go_roundg (szS s')
        case measure => exact hm
        case rel => exact ⟨na', s', L, rfl, hn' w1 hl hr, owns_later hown hx2, hx.trans hx2, ⟨rfl, hlen, hkw, hkt, hL⟩⟩
      · have hB : Ext wr (wr.alloc (.cells #[.int .u32 q.1, .int .i64 q.2] 32)) := (Ext.refl wr).alloc _
        have hoA : OwnP (wr.alloc (.cells #[.int .u32 q.1, .int .i64 q.2] 32)) w1.heap.size u5 L := owns_later hown hB
        have hu := heap_new wr (.cells #[.int .u32 q.1, .int .i64 q.2] 32)
        have HU : Hid _ := hu
        have hxA : Ext w1 (wr.alloc (.cells #[.int .u32 q.1, .int .i64 q.2] 32)) := hx.trans hB
        clear hu
        go_wp2_with (first
          | (at_builtin; refine append_px rfl (.tmp 19) (.tmp 24) rfl w1.heap.size u5 L rfl hoA wr.heap.size 1 q.1 q.2 rfl HU.out (by omega) hxA.size ?_; intro v' w3 hown' hgrow; have hx3 := grown_ext hxA hoA hgrow; obtain ⟨e0, e1⟩ := HP.out w3 hx3; clear hgrow)
          | (go_at_call 41; refine (k2 _ hx3).mono ?_; rintro e w2 ⟨na', rfl, hn', hx2⟩))
        obtain ⟨hm, hlen, hkw, hkt, hL, hl, hr⟩ := HA.out
        go_roundg (szS s')
        case measure => exact hm
        case rel => exact ⟨na', s', L ++ [(q.1, q.2)], rfl, hn' w1 hl hr, owns_later hown' hx2, hx3.trans hx2, ⟨rfl, hlen, hkw, hkt, hL⟩⟩
end Go.Proofs.Ytgcnnblngmomhaa.Tri
