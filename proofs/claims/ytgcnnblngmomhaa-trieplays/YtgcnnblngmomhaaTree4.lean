/- Package trie's walk, count, Walk, Len, Nodes. -/
import Derived.Test.YtgcnnblngmomhaaTree2
import Derived.Test.YtgcnnblngmomhaaRowP
namespace Go.Proofs.Ytgcnnblngmomhaa.Tri
open Go.RowKit Go.Proofs.Ytgcnnblngmomhaa
set_option linter.unusedVariables false

theorem toL_len (t : Sh) : (toL t).length ≤ szS t := by
  induction t with
  | nil => exact Nat.le_refl _
  | node q th u l r ihl ihr =>
    simp only [toL, szS, List.length_append]
    have : (own q th u).length ≤ 1 := by unfold own; split <;> simp
    omega

set_option maxHeartbeats 1000000 in
/-- walk, by the tree: the row that is handed in, and what is there behind it. -/
theorem walk_any (w0 : World) (t : Sh) : ∀ (a : Option Addr) (w : World) (v : Value) (L : List PX), Is w0 t a → Ext w0 w → OwnP w w0.heap.size v L → L.length + szS t ≤ 1000000 →
    Calls Try.prog 42 #[.pointer a, v] w fun e w' => ∃ v', e = .returned v' ∧ OwnP w' w0.heap.size v' (L ++ (toL t).map (·.1)) ∧ ExtN w0.heap.size w w' := by
  induction t with
  | nil =>
    intro a w v L hs hx hown hsz
    obtain rfl : a = none := hs
    go_enter Try.func42, Try.ntmps42
    go_wp2_with fail
    go_ret
    exact ⟨v, rfl, by simpa [toL] using hown, ExtN.refl _ _⟩
  | node q th u l r ihl ihr =>
    intro a w v L hs hx hown hsz
    obtain ⟨b, pl, pr, rfl, hh, hl, hr⟩ := hs
    have hbl : b < w0.heap.size := heap_lt hh
    have hhw := hx.heap hh
    have g0 : w.cell? ⟨b, 0, none⟩ = some (.int .u32 q.1) := by rw [heap_cell hhw]; rfl
    have g1 : w.cell? ⟨b, 1, none⟩ = some (.int .i64 q.2) := by rw [heap_cell hhw]; rfl
    have g2 : w.cell? ⟨b, 2, none⟩ = some (.bool th) := by rw [heap_cell hhw]; rfl
    have hc : ∀ W, Ext w0 W → (∀ w', ExtN w0.heap.size W w' → w'.cell? ⟨b, 4, none⟩ = some (.pointer pl)) ∧ (∀ w', ExtN w0.heap.size W w' → w'.cell? ⟨b, 5, none⟩ = some (.pointer pr)) := fun W hW =>
      ⟨fun w' h => by rw [heap_cell (h.heap hbl (hW.heap hh))]; rfl, fun w' h => by rw [heap_cell (h.heap hbl (hW.heap hh))]; rfl⟩
    have HC : Hid _ := hc
    have HT : Hid (L.length + szS (.node q th u l r) ≤ 1000000) := hsz
    have hL : L.length ≤ 1000000 := by omega
    have hll := toL_len l
    simp only [szS] at hsz
    clear hc hh hhw
    have tok1 : Hid True := trivial
    have H1 := fun W v2 (hW : Ext w0 W) (ho : OwnP W w0.heap.size v2 (L ++ (own q th u).map (·.1))) => ihl pl W v2 _ hl hW ho (by have : (own q th u).length ≤ 1 := (by unfold own; split <;> simp); simp only [List.length_append, List.length_map]; omega)
    have H2 := fun W v2 (hW : Ext w0 W) (ho : OwnP W w0.heap.size v2 ((L ++ (own q th u).map (·.1)) ++ (toL l).map (·.1))) => ihr pr W v2 _ hr hW ho (by have : (own q th u).length ≤ 1 := (by unfold own; split <;> simp); simp only [List.length_append, List.length_map]; omega)
    have HR : ((L ++ (own q th u).map (·.1)) ++ (toL l).map (·.1)) ++ (toL r).map (·.1) = L ++ (toL (.node q th u l r)).map (·.1) := by simp [toL]
    rw [HR] at H2
    generalize (L ++ (own q th u).map (·.1)) ++ (toL l).map (·.1) = L1 at *
    generalize L ++ (toL (.node q th u l r)).map (·.1) = L2 at *
    clear ihl ihr HR hll hsz HT
    cases th
    · have e0 : L ++ (own q false u).map (·.1) = L := by simp [own]
      rw [e0] at H1
      clear e0
      go_enter Try.func42, Try.ntmps42
      go_wp2_with fail
      refine wp_region_eagerN w0.heap.size [(0, false), (1, false), (2, false), (3, false), (4, false), (5, false), (6, false), (7, false), (8, false), (9, false), (10, false), (11, true), (12, true), (13, false)] (by kernel_rfl) (by kernel_rfl) rfl (by kernel_rfl) (fun _ _ _ _ _ h => h) ?_
      have hxd := hx.drew
      have hN0 : ExtN w0.heap.size w w.drew := ((Ext.refl w).drew).upto _
      have hod : OwnP w.drew w0.heap.size v L := owns_later hown (Ext.refl w).drew
      obtain ⟨g4, g5⟩ := HC.out _ hxd
      clear g0 g1 g2 hx hown
      generalize w.drew = W at *
      repeat (first
        | (refine wpE_read (v := ?_) rfl (by rfl) ?_ ?_; rotate_left; (focus (intro w' hx; go_simp; first | done | with_reducible rfl)); simp only [Act.put, List.setIfInBounds_toArray, List.set_cons_zero, List.set_cons_succ])
        | (refine wpE_call rfl (by rfl) (fun K hK => ?_); go_simp; first
            | (go_at_call 42; clear tok1; refine (H1 _ _ hxd hod).mono ?_; rintro e w1 ⟨v1, rfl, ho1, hn1⟩; refine hK _ _ hn1 ?_; clear hK K; have hx1 := ExtN.ext hxd hn1 (Nat.le_refl _))
            | (go_at_call 42; refine (H2 _ _ hx1 ho1).mono ?_; rintro e w2 ⟨v2, rfl, ho2, hn2⟩; refine hK _ _ hn2 ?_; clear hK K)))
      refine wpE_done ?_
      go_wp2_with fail
      go_ret
      exact ⟨v2, rfl, ho2, (hN0.trans hn1).trans hn2⟩
    · have e0 : L ++ (own q true u).map (·.1) = L ++ [(q.1, q.2)] := by simp [own]
      rw [e0] at H1
      clear e0
      have hA : Ext w (w.alloc (.cells #[.int .u32 q.1, .int .i64 q.2] 32)) := (Ext.refl w).alloc _
      have hoA : OwnP (w.alloc (.cells #[.int .u32 q.1, .int .i64 q.2] 32)) w0.heap.size v L := owns_later hown hA
      have hu := heap_new w (.cells #[.int .u32 q.1, .int .i64 q.2] 32)
      have HU : Hid _ := hu
      have hxA : Ext w0 (w.alloc (.cells #[.int .u32 q.1, .int .i64 q.2] 32)) := hx.trans hA
      clear hu
      go_enter Try.func42, Try.ntmps42
      go_wp2_with (at_builtin; refine append_px rfl (.tmp 12) (.tmp 17) rfl w0.heap.size v L rfl hoA w.heap.size 1 q.1 q.2 rfl HU.out (by omega) hxA.size ?_; intro v' w3 hown' hgrow)
      have hn3 : ExtN w0.heap.size w w3 := (hA.upto _).trans (grown_extN hoA (Nat.le_refl _) hgrow)
      have hx3 : Ext w0 w3 := ExtN.ext hx hn3 (Nat.le_refl _)
      clear hgrow hoA hxA HU
      refine wp_region_eagerN w0.heap.size [(0, false), (1, false), (2, false), (3, false), (4, false), (5, false), (6, false), (7, false), (8, false), (9, false), (10, false), (11, true), (12, true), (13, false)] (by kernel_rfl) (by kernel_rfl) rfl (by kernel_rfl) (fun _ _ _ _ _ h => h) ?_
      have hxd := hx3.drew
      have hN0 : ExtN w0.heap.size w w3.drew := hn3.trans (((Ext.refl w3).drew).upto _)
      have hod : OwnP w3.drew w0.heap.size v' (L ++ [(q.1, q.2)]) := owns_later hown' (Ext.refl w3).drew
      obtain ⟨g4, g5⟩ := HC.out _ hxd
      clear g0 g1 g2 hx hown hn3 hx3 hown'
      generalize w3.drew = W at *
      repeat (first
        | (refine wpE_read (v := ?_) rfl (by rfl) ?_ ?_; rotate_left; (focus (intro w' hx; go_simp; first | done | with_reducible rfl)); simp only [Act.put, List.setIfInBounds_toArray, List.set_cons_zero, List.set_cons_succ])
        | (refine wpE_call rfl (by rfl) (fun K hK => ?_); go_simp; first
            | (go_at_call 42; clear tok1; refine (H1 _ _ hxd hod).mono ?_; rintro e w1 ⟨v1, rfl, ho1, hn1⟩; refine hK _ _ hn1 ?_; clear hK K; have hx1 := ExtN.ext hxd hn1 (Nat.le_refl _))
            | (go_at_call 42; refine (H2 _ _ hx1 ho1).mono ?_; rintro e w2 ⟨v2, rfl, ho2, hn2⟩; refine hK _ _ hn2 ?_; clear hK K)))
      refine wpE_done ?_
      go_wp2_with fail
      go_ret
      exact ⟨v2, rfl, ho2, (hN0.trans hn1).trans hn2⟩

theorem Walk_any (rv root : Option Addr) (t : Sh) (w : World) (h : Top w rv root) (ht : Is w t root) (hs : szS t ≤ 1000000) :
    Calls Try.prog 27 #[.pointer rv] w fun e w' => ∃ v, e = .returned v ∧ OwnP w' w.heap.size v ((toL t).map (·.1)) ∧ Ext w w' := by
  have k1 := top_any rv root w h
  have k2 := walk_any w t root w (.slice none 0 0) [] ht (Ext.refl w) (OwnP.nil _ _) (by simpa using hs)
  simp only [List.nil_append] at k2
  go_enter Try.func27, Try.ntmps27
  go_wp2_with (first
    | (go_at_call 43; refine k1.mono ?_; rintro e w1 ⟨rfl, rfl⟩)
    | (go_at_call 42; refine k2.mono ?_; rintro e w2 ⟨v, rfl, ho, hn⟩))
  go_ret
  exact ⟨v, rfl, ho, ExtN.ext (Ext.refl _) hn (Nat.le_refl _)⟩

theorem ix_kids (pl pr : Option Addr) (w : World) : (Instr.index 66 (.agg #[.pointer pl, .pointer pr]) (.int .i64 0)).run Try.prog w = .ok (.pointer pl) w ∧ (Instr.index 66 (.agg #[.pointer pl, .pointer pr]) (.int .i64 1)).run Try.prog w = .ok (.pointer pr) w := by
  constructor
  · first | rfl | (simp [Instr.index, go_sem]; done) | kernel_rfl
  · first | rfl | (simp [Instr.index, go_sem]; done) | kernel_rfl

set_option maxHeartbeats 1000000 in
theorem count_any (t : Sh) : ∀ (a : Option Addr) (w : World), Is w t a → szS t ≤ 1000000 →
    Calls Try.prog 44 #[.pointer a] w fun e w' => e = .returned (.tuple #[.int .i64 (szS t : Int), .int .i64 ((toL t).length : Int)]) ∧ w' = w := by
  induction t with
  | nil =>
    intro a w hs hsz
    obtain rfl : a = none := hs
    go_enter Try.func44, Try.ntmps44
    go_wp2_with fail
    go_ret2
    exact ⟨rfl, rfl⟩
  | node q th u l r ihl ihr =>
    intro a w hs hsz
    obtain ⟨b, pl, pr, rfl, hh, hl, hr⟩ := hs
    have hll := toL_len l
    have hlr := toL_len r
    have e1 : szS (.node q th u l r) = szS l + szS r + 1 := rfl
    have e2 : (toL (.node q th u l r)).length = (if th then 1 else 0) + ((toL l).length + (toL r).length) := by
      simp only [toL, own, List.length_append]; cases th <;> simp
    rw [e1] at hsz ⊢
    rw [e2]
    have k1 := ihl pl w hl (by omega)
    have k2 := ihr pr w hr (by omega)
    have g2 : w.cell? ⟨b, 2, none⟩ = some (.bool th) := by rw [heap_cell hh]; rfl
    have g4 : w.cell? ⟨b, 4, none⟩ = some (.pointer pl) := by rw [heap_cell hh]; rfl
    have g5 : w.cell? ⟨b, 5, none⟩ = some (.pointer pr) := by rw [heap_cell hh]; rfl
    clear ihl ihr hh e1 e2 hl hr
    have ix0 := fun w => (ix_kids pl pr w).1
    have ix1 := fun w => (ix_kids pl pr w).2
    generalize szS l = sl at *
    generalize szS r = sr at *
    generalize (toL l).length = nl at *
    generalize (toL r).length = nr at *
    go_enter Try.func44, Try.ntmps44
    go_wp2_with fail
    go_loop [2, 3, 14] (fun n m i => (i = .int .i64 0 ∧ n = .int .i64 0 ∧ m = .int .i64 0) ∨ (i = .int .i64 1 ∧ n = .int .i64 sl ∧ m = .int .i64 nl) ∨ (i = .int .i64 2 ∧ n = .int .i64 (sl + sr) ∧ m = .int .i64 (nl + nr))) (fun _ _ i => 2 - (intOf i).toNat)
    case atStart => exact .inl ⟨rfl, rfl, rfl⟩
    case round =>
      rcases hrel with ⟨rfl, rfl, rfl⟩ | ⟨rfl, rfl, rfl⟩ | ⟨rfl, rfl, rfl⟩
      · go_wp2_with (go_at_call 44; refine k1.mono ?_; rintro e w1 ⟨rfl, rfl⟩)
        go_round
        case rel => exact .inr (.inl ⟨rfl, rfl, rfl⟩)
        case measure => simp [intOf]
      · go_wp2_with (go_at_call 44; refine k2.mono ?_; rintro e w1 ⟨rfl, rfl⟩)
        go_round
        case rel => exact .inr (.inr ⟨rfl, rfl, rfl⟩)
        case measure => simp [intOf]
      · cases th
        · go_wp2_with fail
          go_ret2
          exact ⟨by simp, rfl⟩
        · go_wp2_with fail
          go_ret2
          exact ⟨by simp; omega, rfl⟩

theorem Nodes_any (rv root : Option Addr) (t : Sh) (w : World) (h : Top w rv root) (ht : Is w t root) (hs : szS t ≤ 1000000) :
    Calls Try.prog 28 #[.pointer rv] w fun e w' => e = .returned (.int .i64 (szS t : Int)) ∧ w' = w := by
  have k1 := top_any rv root w h
  have k2 := count_any t root w ht hs
  go_enter Try.func28, Try.ntmps28
  go_wp2_with (first
    | (go_at_call 43; refine k1.mono ?_; rintro e w1 ⟨rfl, rfl⟩)
    | (go_at_call 44; refine k2.mono ?_; rintro e w2 ⟨rfl, rfl⟩))
  go_ret
  exact ⟨rfl, rfl⟩

theorem Len_any (rv root : Option Addr) (t : Sh) (w : World) (h : Top w rv root) (ht : Is w t root) (hs : szS t ≤ 1000000) :
    Calls Try.prog 31 #[.pointer rv] w fun e w' => e = .returned (.int .i64 ((toL t).length : Int)) ∧ w' = w := by
  have k1 := top_any rv root w h
  have k2 := count_any t root w ht hs
  go_enter Try.func31, Try.ntmps31
  go_wp2_with (first
    | (go_at_call 43; refine k1.mono ?_; rintro e w1 ⟨rfl, rfl⟩)
    | (go_at_call 44; refine k2.mono ?_; rintro e w2 ⟨rfl, rfl⟩))
  go_ret
  exact ⟨rfl, rfl⟩
end Go.Proofs.Ytgcnnblngmomhaa.Tri
