/- The document's Dir: New, Set, Look. -/
import Derived.Test.YtlnmdlachfnmkaaRefO
import Derived.Test.YtlnmdlachfnmkaaRefDr5
import Derived.Test.YtlnmdlachfnmkaaMake
namespace Go.Proofs.Ytlnmdlachfnmkaa.Dr
set_option maxRecDepth 100000
open Go.RowKit Go.Proofs.Ytlnmdlachfnmkaa Go.Proofs.Ytlnmdlachfnmkaa.Tri
set_option linter.unusedVariables false

theorem newR_any (n : Int) (w : World) : Calls Try.prog 11 #[.int .i64 n] w fun e w' => e = .returned (.pointer (some ⟨w.heap.size, 0, none⟩)) ∧ Ext w w' ∧ TriD.RefAt (maxV n) w' w.heap.size [] [w.heap.size] := by
  have hx0 : ∀ o : Obj, Ext w (w.alloc o) := fun o => (Ext.refl w).alloc o
  have hat : ∀ n : Int, TriD.RefAt n (w.alloc (.cells #[.slice none 0 0, .slice none 0 0, .int .i64 n] 40)) w.heap.size [] [w.heap.size] := fun n => ⟨.slice none 0 0, .slice none 0 0, rfl, heap_new w _, OwnP.nil _ _, World.ownsRow_nil _ _ _ _, .inl ⟨rfl, rfl⟩⟩
  have HAT : Hid _ := hat
  clear hat
  go_enter Try.func11, Try.ntmps11
  go_wp2_with fail
  all_goals go_ret
  · refine ⟨rfl, hx0 _, ?_⟩
    rw [show maxV n = n by unfold maxV; rw [if_neg (by omega)]]
    exact HAT.out n
  · refine ⟨rfl, hx0 _, ?_⟩
    rw [show maxV n = 0 by unfold maxV; split <;> omega]
    exact HAT.out 0

theorem lookR_any {mst : Int} (xb : Nat) (L : Row) (F : List Nat) (a : Int) (w : World) (h : TriD.RefAt mst w xb L F) (hs : Srt L) (hv : ∀ x ∈ L, Vp x.1) (hl : L.length ≤ 1000000) (a0 : 0 ≤ a) (a1 : a ≤ 4294967295) :
    Calls Try.prog 19 #[.pointer (some ⟨xb, 0, none⟩), .int .u32 a] w fun e w' => e = .returned (numO (lastF none (covL L (a, 32)))) ∧ Ext w w' := by
  have k := TriD.refLongest_any xb L F a w h hs hv hl a0 a1
  obtain ⟨p0, p1, v, ok, ho1, ho2⟩ : ∃ p0 p1 v ok, ansO (lastF none (covL L (a, 32))) = .tuple #[.agg #[.int .u32 p0, .int .i64 p1], .int .i64 v, .bool ok] ∧ numO (lastF none (covL L (a, 32))) = .tuple #[.int .i64 v, .bool ok] := by
    cases lastF none (covL L (a, 32)) with
    | none => exact ⟨0, 0, 0, false, rfl, rfl⟩
    | some x => exact ⟨_, _, _, _, rfl, rfl⟩
  rw [ho1] at k
  rw [ho2]
  clear h hs hv ho1 ho2
  go_enter Try.func19, Try.ntmps19
  go_wp2_with (go_at_call 23; refine k.mono ?_; rintro e w2 ⟨rfl, hx2⟩)
  go_ret2
  exact ⟨rfl, hx2.alloc _⟩

/-- The document's Trie: a new prefix writes the Trie's own block alone. -/
theorem refSet_far (xb : Nat) (L : Row) (F : List Nat) (c m v : Int) (w : World) (h : RefAt w xb L F) (hl : L.length ≤ 1000000) (c0 : 0 ≤ c) (c1 : c ≤ 4294967295) (hv : isV c m = true) (hf' : foundB L (c, m) = false) :
    Calls Try.prog 22 #[.pointer (some ⟨xb, 0, none⟩), .agg #[.int .u32 c, .int .i64 m], .int .i64 v] w fun e w' => e = .returned (.int .i64 0) ∧ RefAns w xb F (Tri.setL L (c, m) v) w' ∧ ExtS [xb] w w' := by
  have hp := vp_of c0 c1 hv
  have k0 := fun w => refIs_any c m w c0 c1
  rw [hv] at k0
  have k1 := fun w' (hx : Ext w w') => Tri.place_any xb L F c m w' (h.later (hx.toS []) (by simp)) hl
  rw [hf'] at k1
  have hset := setL_new v hf'
  have hk := placeN_le L (c, m)
  obtain ⟨vp, vi, hxF, hX, hr⟩ := h.rows
  obtain ⟨⟨p1, c1', t1, s1⟩, ⟨p2, c2, t2, s2⟩, ⟨p3, c3, t3, s3, _⟩, ⟨p4, c4, t4, s4, _⟩⟩ := hr _ hk
  generalize placeN L (c, m) = k at *
  refine (refSet_walk xb c m v k L.length vp vi p1 p2 p3 p4 c1' c2 c3 c4 _ _ _ _ w hk hl hX k0 k1 t1 t2 t3 t4 s1 s2 s3 s4).mono ?_
  rintro e w' ⟨rfl, hN⟩
  have hxx : ExtS [xb] w w' := by obtain ⟨_, _, _, _, _, _, _, hx⟩ := hN; exact hx
  refine ⟨rfl, Tri.new_ref hN ?_ ?_ ?_ hxF, hxx⟩
  · rw [hset]; simp; omega
  · rw [hset]
    simp only [List.map_append, List.map_take, List.map_drop, List.map_cons, pxC_append]
    rw [List.append_assoc]
    congr 1
  · rw [hset]
    simp

set_option maxHeartbeats 4000000 in
theorem dset_any {mst : Int} (xb : Nat) (L : Row) (F : List Nat) (c m v : Int) (w : World) (h : TriD.RefAt mst w xb L F) (hs : Srt L) (hval : ∀ x ∈ L, Vp x.1) (hl : L.length ≤ 10000) (hroom : ((ownN (keysL L) : Nat) : Int) ≤ mst) (c0 : 0 ≤ c) (c1 : c ≤ 4294967295) :
    Calls Try.prog 26 #[.pointer (some ⟨xb, 0, none⟩), .agg #[.int .u32 c, .int .i64 m], .int .i64 v] w fun e w' => e = .returned (.int .i64 (setR mst L (c, m) v).1) ∧ TriD.RefAns mst w xb F (setR mst L (c, m) v).2 w' := by
  have hA : Ext w (w.alloc (.cells #[.int .u32 c, .int .i64 m] 30)) := (Ext.refl w).alloc _
  have HQ : Hid _ := heap_new w (.cells #[.int .u32 c, .int .i64 m] 30)
  have HH : Hid (TriD.RefAt mst w xb L F) := h
  obtain ⟨vp, vi, hF, hX, hP, hI, hsh⟩ := h
  obtain ⟨ap, cp, e1, -, -, -⟩ := owns_slice hP
  obtain ⟨ai, ci, e2, -, -, -⟩ := owns_slice hI
  rw [List.length_map] at e1 e2
  subst e1 e2
  have sI : Tri.Src w 1 ai L.length ci ((L.map (·.2)).map (Value.int .i64)) := by
    have hI' : w.ownsRow 0 3 1 (.slice ai L.length ci) L.length ((L.map (·.2)).map (Value.int .i64)) := by
      have := hI
      unfold OwnI at this
      rwa [List.length_map] at this
    exact src_own hI' (fun u hu => int_one hu)
  have HSI : Hid _ := sI
  have HX : Hid (w.heap[xb]? = some (.cells #[.slice ap L.length cp, .slice ai L.length ci, .int .i64 mst] 40 (0, 0))) := hX
  have HP : Hid (OwnP w 0 (.slice ap L.length cp) (L.map (·.1))) := hP
  have HSH : Hid _ := hsh
  have HVAL : Hid (∀ x ∈ L, Vp x.1) := hval
  clear hX hP hI hsh sI hval
  go_enter Try.func26, Try.ntmps26
  go_wp2_with fail
  refine wp_region_makeN (w.alloc (.cells #[.int .u32 c, .int .i64 m] 30)).heap.size (w.alloc (.cells #[.int .u32 c, .int .i64 m] 30)).heap.size (Nat.le_refl _) [(0, 0), (1, 0), (2, 0), (3, 0), (4, 0), (6, 0), (7, 0), (8, 0), (9, 0), (10, 0), (5, 3), (13, 3), (5, 2), (11, 1), (12, 0), (13, 2), (14, 4)] (by kernel_rfl) (by kernel_rfl) rfl (by kernel_rfl) (fun _ _ _ _ _ => Iff.rfl) ?_
  have hxd : Ext (w.alloc (.cells #[.int .u32 c, .int .i64 m] 30)) (w.alloc (.cells #[.int .u32 c, .int .i64 m] 30)).drew := (Ext.refl _).drew
  generalize hW0 : (w.alloc (.cells #[.int .u32 c, .int .i64 m] 30)) = W0 at *
  have HX0 : Hid (W0.drew.heap[xb]? = some (.cells #[.slice ap L.length cp, .slice ai L.length ci, .int .i64 mst] 40 (0, 0))) := (hA.trans hxd).heap HX.out
  have hxl : xb < W0.heap.size := Nat.lt_of_lt_of_le (heap_lt HX.out) hA.size
  have x0 : ∀ w', ExtN W0.heap.size W0.drew w' → w'.cell? ⟨xb, 0, none⟩ = some (.slice ap L.length cp) := fun w' h => by rw [heap_cell (h.heap hxl HX0.out)]; rfl
  have x1 : ∀ w', ExtN W0.heap.size W0.drew w' → w'.cell? ⟨xb, 1, none⟩ = some (.slice ai L.length ci) := fun w' h => by rw [heap_cell (h.heap hxl HX0.out)]; rfl
  generalize W0.drew = W at *
  iterate 10 (refine wpW_read (v := ?_) rfl (by rfl) ?_ ?_; rotate_left; (focus (intro w' hx; go_simp; first | done | with_reducible rfl)); simp only [Act.put, List.setIfInBounds_toArray, List.set_cons_zero, List.set_cons_succ])
  (refine wpW_say _ (fun g => .slice (some ⟨g, 0, none⟩) 0 0) rfl (by rfl) (fun w' => by go_simp; first | done | with_reducible rfl) ?_)
  refine wpW_say _ (fun g => .pointer (some ⟨g, 0, none⟩)) rfl (by rfl) (fun w' => by go_simp; first | done | with_reducible rfl) ?_
  refine wpW_make _ (fun g => .slice (some ⟨g, 0, none⟩) 0 0) rfl (by rfl) (fun w' => by go_simp; first | done | with_reducible rfl) ?_; simp only [Act.put, List.setIfInBounds_toArray, List.set_cons_zero, List.set_cons_succ]
  intro W2 g hx2 hg2 hG
  refine wpW_call rfl (by rfl) (fun W3 hx3 K hK => ?_)
  refine wp_app_lit_int (.tmp 13) (.tmp 18) rfl g rfl (hx3.heap hG) W0.heap.size hg2 ai L.length ci _ rfl (Src.ext HSI.out (by omega) (hA.trans (hxd.trans (hx2.trans hx3)))) (by omega) ?_
  intro v4 W4 ho4 hne4 hx4
  refine hK _ _ hx4 ?_
  clear hK K
  simp only [Act.put, List.setIfInBounds_toArray, List.set_cons_zero, List.set_cons_succ]
  obtain ⟨a4, d4, rfl, -, -, -⟩ := owns_slice ho4
  (refine wpW_read (v := ?_) rfl (by rfl) ?_ ?_; rotate_left; (focus (intro w' hx; go_simp; first | done | with_reducible rfl)); simp only [Act.put, List.setIfInBounds_toArray, List.set_cons_zero, List.set_cons_succ])
  refine wpW_make _ (fun g => .pointer (some ⟨g, 0, none⟩)) rfl (by rfl) (fun w' => by go_simp; first | done | with_reducible rfl) ?_; simp only [Act.put, List.setIfInBounds_toArray, List.set_cons_zero, List.set_cons_succ]; intro W5 g5 hx5 hg5 hG5
  have d0 : W5.cell? ⟨g5, 0, none⟩ = some (.slice none 0 0) := by rw [heap_cell hG5]; rfl
  have d1 : W5.cell? ⟨g5, 1, none⟩ = some (.slice none 0 0) := by rw [heap_cell hG5]; rfl
  have f0 : ∀ k, W5.frozen? ⟨g5, k, none⟩ = false := fun k => heap_frozen hG5
  have hxW5 : Ext W0 W5 := hxd.trans (hx2.trans (hx3.trans (hx4.trans hx5)))
  refine wpW_last rfl (by rfl) (fun K hK => ?_)
  go_simp
  have G6 := heap_set (heap_set (k := 0) hG5 (.slice ap L.length cp)) (k := 1) (.slice a4 L.length d4)
  have N6 : ExtN W0.heap.size W5 ((W5.setCell ⟨g5, 0, none⟩ (.slice ap L.length cp)).setCell ⟨g5, 1, none⟩ (.slice a4 L.length d4)) := ((ExtN.refl _ _).setCell (p := ⟨g5, 0, none⟩) hg5 _).setCell (p := ⟨g5, 1, none⟩) hg5 _
  have S6 : ExtS [g5] W5 ((W5.setCell ⟨g5, 0, none⟩ (.slice ap L.length cp)).setCell ⟨g5, 1, none⟩ (.slice a4 L.length d4)) := (extS_set W5 g5 0 _).trans (extS_set _ g5 1 _)
  have HG6 : Hid (((W5.setCell ⟨g5, 0, none⟩ (.slice ap L.length cp)).setCell ⟨g5, 1, none⟩ (.slice a4 L.length d4)).heap[g5]? = some (.cells #[.slice ap L.length cp, .slice a4 L.length d4] 38 (0, 0))) := G6
  refine hK _ _ N6 ?_
  clear hK K
  refine wpW_done ?_
  have hx6 : Ext w ((W5.setCell ⟨g5, 0, none⟩ (.slice ap L.length cp)).setCell ⟨g5, 1, none⟩ (.slice a4 L.length d4)) := ExtN.ext (hA.trans hxW5) N6 hA.size
  have hx06 : Ext W0 ((W5.setCell ⟨g5, 0, none⟩ (.slice ap L.length cp)).setCell ⟨g5, 1, none⟩ (.slice a4 L.length d4)) := ExtN.ext hxW5 N6 (Nat.le_refl _)
  have ho6 := owns_laterS (owns_later ho4 hx5) S6 (fun g hg hh => by
    obtain ⟨_, _, cur, hc⟩ := owns_block (owns_later ho4 hx5) hg
    rw [List.mem_singleton.1 hh, hG5] at hc
    simp only [Option.some.injEq, Obj.cells.injEq] at hc
    exact absurd hc.2.1 (by decide))
  generalize ((W5.setCell ⟨g5, 0, none⟩ (.slice ap L.length cp)).setCell ⟨g5, 1, none⟩ (.slice a4 L.length d4)) = W6 at *
  clear x0 x1 d0 d1 f0 G6 N6 S6 hG5 hG hx2 hx3 hx4 hx5 hxW5 hxd ho4 HX0
  obtain ⟨g4, d4', e4, -⟩ := owns_some ho6 hne4
  cases e4
  have HQ6 : Hid (W6.heap[w.heap.size]? = some (.cells #[.int .u32 c, .int .i64 m] 30 (0, 0))) := hx06.heap HQ.out
  have q0 : W6.cell? ⟨w.heap.size, 0, none⟩ = some (.int .u32 c) := by rw [heap_cell HQ6.out]; rfl
  have q1 : W6.cell? ⟨w.heap.size, 1, none⟩ = some (.int .i64 m) := by rw [heap_cell HQ6.out]; rfl
  have hR6 : Tri.RefAt W6 g5 L (g5 :: (blks (.slice ap L.length cp) ++ blks (.slice (some ⟨g4, 0, none⟩) L.length d4))) := by
    refine ⟨_, _, rfl, HG6.out, owns_later HP.out hx6, ?_, ?_⟩
    · unfold OwnI
      rw [List.length_map]
      exact owns_base ho6 (Nat.zero_le _)
    · rcases HSH.out with ⟨h1, -⟩ | ⟨h1, -⟩ | ⟨h1, -⟩
      · exact .inr (.inr ⟨h1, _, _, rfl⟩)
      · exact .inr (.inl ⟨h1, _, _, rfl⟩)
      · exact .inr (.inr ⟨h1, _, _, rfl⟩)
  have hFx : ∀ y ∈ g5 :: (blks (.slice ap L.length cp) ++ blks (.slice (some ⟨g4, 0, none⟩) L.length d4)), y ∈ F ∨ w.heap.size ≤ y := fun y hy => by
    rcases List.mem_cons.1 hy with rfl | hy
    · exact .inr (Nat.le_trans hA.size hg5)
    · rcases List.mem_append.1 hy with hy | hy
      · exact .inl (by rw [hF]; simp [hy])
      · exact .inr (Nat.le_trans hA.size (owns_block ho6 (mem_blks.1 hy)).1)
  have hxbF : xb ∈ F := by rw [hF]; simp
  have hxbx : xb ∉ g5 :: (blks (.slice ap L.length cp) ++ blks (.slice (some ⟨g4, 0, none⟩) L.length d4)) := fun hy => by
    have hX6 := hx6.heap HX.out
    rcases List.mem_cons.1 hy with rfl | hy
    · rw [HG6.out] at hX6
      simp only [Option.some.injEq, Obj.cells.injEq] at hX6
      exact absurd hX6.2.1 (by decide)
    · rcases List.mem_append.1 hy with hy | hy
      · obtain ⟨_, _, cur, hc⟩ := owns_block (owns_later HP.out hx6) (mem_blks.1 hy)
        rw [hX6] at hc
        simp only [Option.some.injEq, Obj.cells.injEq] at hc
        exact absurd hc.2.1 (by decide)
      · obtain ⟨_, _, cur, hc⟩ := owns_block ho6 (mem_blks.1 hy)
        rw [hX6] at hc
        simp only [Option.some.injEq, Obj.cells.injEq] at hc
        exact absurd hc.2.1 (by decide)
  generalize (g5 :: (blks (.slice ap L.length cp) ++ blks (.slice (some ⟨g4, 0, none⟩) L.length d4))) = Fx at *
  have HR6 : Hid (Tri.RefAt W6 g5 L Fx) := hR6
  have hRef : ∀ w', Ext W6 w' → TriD.RefAns mst w xb F L w' := fun w' hx => ⟨F, HH.out.later ((hx6.trans hx).toS []) (by simp), (hx6.trans hx).toS F, fun y hy => .inl hy⟩
  have HREF : Hid _ := hRef
  clear hR6 hRef ho6 hne4
  by_cases hneg : v < 0
  · have e : setR mst L (c, m) v = (1, L) := by unfold setR; rw [if_pos (.inr hneg)]
    have HE : Hid (setR mst L (c, m) v = (1, L)) := e
    clear e
    go_wp2_with fail
    go_ret
    exact ⟨by rw [HE.out]; rfl, by rw [HE.out]; exact HREF.out _ (Ext.refl _)⟩
  have hv0 : 0 ≤ v := by omega
  cases hiv : isV c m with
  | false =>
    have e : setR mst L (c, m) v = (1, L) := by unfold setR; rw [if_pos (.inl hiv)]
    have HE : Hid (setR mst L (c, m) v = (1, L)) := e
    have kS := refSet_bad g5 c m v W6 c0 c1 hiv
    clear e hneg
    go_wp2_with (go_at_call 22; refine kS.mono ?_; rintro e w7 ⟨rfl, hx7⟩)
    go_ret
    exact ⟨by rw [HE.out]; rfl, by rw [HE.out]; exact HREF.out _ hx7⟩
  | true =>
    have hp := vp_of c0 c1 hiv
    have kS : Calls Try.prog 22 #[.pointer (some ⟨g5, 0, none⟩), .agg #[.int .u32 c, .int .i64 m], .int .i64 v] W6 fun e w' => e = .returned (.int .i64 0) ∧ Tri.RefAns W6 g5 Fx (Tri.setL L (c, m) v) w' ∧ (mst < ((ownN (keysL (Tri.setL L (c, m) v)) : Nat) : Int) → ExtS [g5] W6 w') := by
      cases hf : foundB L (c, m) with
      | true =>
        refine (refSet_here g5 L Fx c m v W6 HR6.out (by omega) hp hf).mono ?_
        rintro e w' ⟨rfl, ha⟩
        refine ⟨rfl, ha, fun hlt => ?_⟩
        rw [keys_set_found v hf] at hlt
        omega
      | false =>
        refine (refSet_far g5 L Fx c m v W6 HR6.out (by omega) c0 c1 hiv hf).mono ?_
        rintro e w' ⟨rfl, ha, hx⟩
        exact ⟨rfl, ha, fun _ => hx⟩
    have hval2 : ∀ p ∈ keysL (Tri.setL L (c, m) v), Vp p := fun p hp' => by
      obtain ⟨x, hx, rfl⟩ := List.mem_map.1 hp'
      rcases (set_mem hs (c, m) v x).1 hx with rfl | ⟨h1, -⟩
      · exact hp
      · exact HVAL.out x h1
    have hlen2 : (Tri.setL L (c, m) v).length ≤ L.length + 1 := by
      cases hf : foundB L (c, m) with
      | true => rw [setL_found v hf, List.length_set]; omega
      | false =>
        rw [setL_new v hf]
        simp only [List.length_append, List.length_cons, List.length_take, List.length_drop]
        omega
    have hset : setR mst L (c, m) v = if mst < ((ownN (keysL (Tri.setL L (c, m) v)) : Nat) : Int) then (6, L) else (0, Tri.setL L (c, m) v) := by
      unfold setR
      rw [if_neg (by rw [hiv]; simp; omega)]
    have HSET : Hid _ := hset
    have HVAL2 : Hid (∀ p ∈ keysL (Tri.setL L (c, m) v), Vp p) := hval2
    have hklen : (keysL (Tri.setL L (c, m) v)).length ≤ 100000 := by simp only [keysL, List.length_map]; omega
    have HKL : Hid _ := hklen
    have HHS : Hid (Srt L) := hs
    clear hset hval2 hlen2 hklen hneg hs hroom
    generalize Tri.setL L (c, m) v = L2 at *
    go_wp2_with (go_at_call 22; refine kS.mono ?_; rintro e w7 ⟨rfl, ⟨F7, R7, X7, n7⟩, hfar⟩)
    have HR7 : Hid (Tri.RefAt w7 g5 L2 F7) := R7
    obtain ⟨vp7, vi7, hF7, hG7, hP7, hI7, hsh7⟩ := R7
    obtain ⟨ap7, cp7, e1, -, -, -⟩ := owns_slice hP7
    obtain ⟨ai7, ci7, e2, -, -, -⟩ := owns_slice hI7
    rw [List.length_map] at e1 e2
    subst e1 e2
    have HX7 : Hid (w7.heap[xb]? = some (.cells #[.slice ap L.length cp, .slice ai L.length ci, .int .i64 mst] 40 (0, 0))) := X7.heap hxbx (hx6.heap HX.out)
    have HG7 : Hid (w7.heap[g5]? = some (.cells #[.slice ap7 L2.length cp7, .slice ai7 L2.length ci7] 38 (0, 0))) := hG7
    have hx78 : Ext w7 w7.drew := (Ext.refl w7).drew
    have kO := owned_any 0 (.slice ap7 L2.length cp7) (keysL L2) w7.drew (owns_later hP7 hx78) HVAL2.out HKL.out
    refine wp_region_eager [(0, false), (1, false), (3, false), (4, false), (5, false), (6, false), (2, true), (7, false)] (by kernel_rfl) (by kernel_rfl) rfl (by kernel_rfl) (fun _ _ _ _ _ h => h) ?_
    have r0 : ∀ w', Ext w7.drew w' → w'.cell? ⟨g5, 0, none⟩ = some (.slice ap7 L2.length cp7) := fun w' h => by rw [heap_cell ((hx78.trans h).heap HG7.out)]; rfl
    have r2 : ∀ w', Ext w7.drew w' → w'.cell? ⟨xb, 2, none⟩ = some (.int .i64 mst) := fun w' h => by rw [heap_cell ((hx78.trans h).heap HX7.out)]; rfl
    generalize w7.drew = W8 at *
    generalize hown : ownN (keysL L2) = ow at *
    iterate 6 (refine wpE_read (v := ?_) rfl (by rfl) ?_ ?_; rotate_left; (focus (intro w' hx; go_simp; first | done | with_reducible rfl)); simp only [Act.put, List.setIfInBounds_toArray, List.set_cons_zero, List.set_cons_succ])
    refine wpE_call rfl (by rfl) (fun K hK => ?_); go_simp; first | (go_at_call 14; refine kO.mono ?_; rintro e w9 ⟨rfl, hx9⟩; refine hK _ _ hx9 ?_; clear hK K)
    (refine wpE_read (v := ?_) rfl (by rfl) ?_ ?_; rotate_left; (focus (intro w' hx; go_simp; first | done | with_reducible rfl)); simp only [Act.put, List.setIfInBounds_toArray, List.set_cons_zero, List.set_cons_succ])
    refine wpE_done ?_
    have hx79 : Ext w7 w9 := hx78.trans hx9
    clear r0 r2 kO kS
    by_cases hfull : mst < (ow : Int)
    · have hx67 := hfar hfull
      go_wp2_with fail
      go_ret
      rw [HSET.out, if_pos hfull]
      have hxs : ExtS [g5] W6 w9 := hx67.trans (hx79.toS _)
      refine ⟨rfl, F, HH.out.later ((hx6.toS [g5]).trans hxs) (fun y hy => ?_), ((hx6.toS F).then hxs (fun y hy => by rw [List.mem_singleton.1 hy]; exact .inr (Nat.le_trans hA.size hg5))), fun y hy => .inl hy⟩
      have := HH.out.lt y hy
      have := hA.size
      simp; omega
    · have HX9 : Hid (w9.heap[xb]? = some (.cells #[.slice ap L.length cp, .slice ai L.length ci, .int .i64 mst] 40 (0, 0))) := hx79.heap HX7.out
      have y0 : w9.cell? ⟨g5, 0, none⟩ = some (.slice ap7 L2.length cp7) := by rw [heap_cell (hx79.heap HG7.out)]; rfl
      have y1 : w9.cell? ⟨g5, 1, none⟩ = some (.slice ai7 L2.length ci7) := by rw [heap_cell (hx79.heap HG7.out)]; rfl
      have z0 : w9.cell? ⟨xb, 0, none⟩ = some (.slice ap L.length cp) := by rw [heap_cell HX9.out]; rfl
      have z1 : w9.cell? ⟨xb, 1, none⟩ = some (.slice ai L.length ci) := by rw [heap_cell HX9.out]; rfl
      have zf : ∀ k, w9.frozen? ⟨xb, k, none⟩ = false := fun k => heap_frozen HX9.out
      have HY := heap_set (heap_set (k := 0) HX9.out (.slice ap7 L2.length cp7)) (k := 1) (.slice ai7 L2.length ci7)
      have HYH : Hid (((w9.setCell ⟨xb, 0, none⟩ (.slice ap7 L2.length cp7)).setCell ⟨xb, 1, none⟩ (.slice ai7 L2.length ci7)).heap[xb]? = some (.cells #[.slice ap7 L2.length cp7, .slice ai7 L2.length ci7, .int .i64 mst] 40 (0, 0))) := HY
      clear HY
      have zf1 : ∀ k, (w9.setCell ⟨xb, 0, none⟩ (.slice ap7 L2.length cp7)).frozen? ⟨xb, k, none⟩ = false := fun k => heap_frozen (heap_set (k := 0) HX9.out (.slice ap7 L2.length cp7))
      have XS : ExtS [xb] w9 ((w9.setCell ⟨xb, 0, none⟩ (.slice ap7 L2.length cp7)).setCell ⟨xb, 1, none⟩ (.slice ai7 L2.length ci7)) := (extS_set w9 xb 0 _).trans (extS_set _ xb 1 _)
      have HXS : Hid _ := XS
      have HP7 : Hid (OwnP w7 0 (.slice ap7 L2.length cp7) (L2.map (·.1))) := hP7
      have HI7 : Hid (OwnI w7 0 (.slice ai7 L2.length ci7) (L2.map (·.2))) := hI7
      have HS7 : Hid _ := hsh7
      clear XS hP7 hI7 hsh7
      go_wp2_with fail
      go_ret
      rw [HSET.out, if_neg (by omega), ← hF]
      have q1 : ∀ g, (Value.slice ap7 L2.length cp7).ownBlock = some g → g ∉ [xb] := fun g hg hh => by
        obtain ⟨_, _, cur, hc⟩ := owns_block (owns_later HP7.out hx79) hg
        rw [List.mem_singleton.1 hh, HX9.out] at hc
        simp only [Option.some.injEq, Obj.cells.injEq] at hc
        exact absurd hc.2.1 (by decide)
      have q2 : ∀ g, (Value.slice ai7 L2.length ci7).ownBlock = some g → g ∉ [xb] := fun g hg hh => by
        obtain ⟨_, _, cur, hc⟩ := owns_block (owns_later HI7.out hx79) hg
        rw [List.mem_singleton.1 hh, HX9.out] at hc
        simp only [Option.some.injEq, Obj.cells.injEq] at hc
        exact absurd hc.2.1 (by decide)
      refine ⟨rfl, xb :: (blks (.slice ap7 L2.length cp7) ++ blks (.slice ai7 L2.length ci7)), ⟨_, _, rfl, HYH.out, owns_laterS (owns_later HP7.out hx79) HXS.out q1, owns_laterS (owns_later HI7.out hx79) HXS.out q2, HS7.out⟩, ?_, ?_⟩
      · exact ((((hx6.toS F).then X7 hFx).trans (hx79.toS F)).then HXS.out (fun y hy => by rw [List.mem_singleton.1 hy]; exact .inl hxbF))
      · intro y hy
        rcases List.mem_cons.1 hy with rfl | hy
        · exact .inl hxbF
        · have hy7 : y ∈ F7 := by rw [hF7]; exact List.mem_cons_of_mem _ hy
          rcases n7 y hy7 with h1 | h1
          · exact hFx y h1
          · exact .inr (Nat.le_trans hx6.size h1)
end Go.Proofs.Ytlnmdlachfnmkaa.Dr
