/- slices.Insert of one way. -/
import Derived.Test.YtbchfmadmcppkaaRib2
import Derived.Lib.Overlaps
namespace Go.Proofs.Ytbchfmadmcppkaa.Rb
set_option maxRecDepth 100000
open Go.RowKit Go.Proofs.Ytbchfmadmcppkaa
set_option linter.unusedVariables false
set_option linter.unusedSimpArgs false

/-- A row that was v is the row L' now. -/
def RowAns (w : World) (v : Value) (L' : List Rt) (e : Ending) (w' : World) : Prop := ∃ v', e = .returned v' ∧ OwnR w' 0 v' L' ∧ ExtS (blks v) w w' ∧ ∀ x ∈ blks v', x ∈ blks v ∨ w.heap.size ≤ x

theorem rd_lit {w : World} {g : Nat} {r : Rt} (h : w.heap[g]? = some (.cells #[.int .i64 r.t, .int .u32 r.a, .int .i64 r.l, .int .i64 r.i, .int .u32 r.g, .int .i64 r.m] 27 (0, 0))) : Rd w (some ⟨g, 0, none⟩) 1 1 [r] :=
  ⟨rfl, by simp, fun u hu => rtCs_cell hu, .inr ⟨g, 0, rfl, fun j u hj => by
    rw [heap_cell h, Nat.zero_add]
    rw [rtCs_one] at hj
    match j, hj with
    | 0, hj => exact hj
    | 1, hj => exact hj
    | 2, hj => exact hj
    | 3, hj => exact hj
    | 4, hj => exact hj
    | 5, hj => exact hj
    | j + 6, hj => simp [rtC] at hj⟩⟩

theorem grown_S {w w' : World} {v : Value} (h : w.grownBy w' v.ownBlock) : ExtS (blks v) w w' :=
  ⟨h.os, h.tape, h.output, h.size, fun i hi hne => h.block i hi fun e => hne (mem_blks.2 e.symm)⟩

theorem blks_at {w : World} {v v' : Value} (h : v'.ownBlock = v.ownBlock ∨ v'.ownBlock = some w.heap.size) : ∀ x ∈ blks v', x ∈ blks v ∨ w.heap.size ≤ x := fun x hx => by
  rw [mem_blks] at hx
  rcases h with h | h
  · rw [h] at hx; exact .inl (mem_blks.2 hx)
  · rw [h] at hx; cases hx; exact .inr (Nat.le_refl _)

/-- At the end. -/
theorem insert_end (v : Value) (L : List Rt) (r : Rt) (vb : Nat) (w : World) (hO : OwnR w 0 v L) (hl : L.length ≤ 100000) (hb : w.heap[vb]? = some (.cells #[.int .i64 r.t, .int .u32 r.a, .int .i64 r.l, .int .i64 r.i, .int .u32 r.g, .int .i64 r.m] 27 (0, 0))) :
    Calls Try.prog 41 #[v, .int .i64 (L.length : Nat), .slice (some ⟨vb, 0, none⟩) 1 1] w (RowAns w v (L ++ [r])) := by
  obtain ⟨p, c, hv, hc1, hc2, hR⟩ := hO.slice
  have HO : Hid (OwnR w 0 v L) := hO
  have HB : Hid _ := hb
  clear hO hb hR
  subst hv
  obtain ⟨X, hX⟩ : ∃ X, ∀ w, (Instr.slice 33 (.slice p L.length c) (some (.int .i64 (L.length : Nat))) none none).run Try.prog w = .ok X w := ⟨_, cut_l p L.length c L.length (Nat.le_refl _) hc1⟩
  have HN : Hid _ := hl
  generalize hn : L.length = n at *
  have hn2 : n ≤ 100000 := HN.out
  go_enter Try.func41, Try.ntmps41
  go_wp2_with (at_builtin; refine wpList_want rfl (fun K hK => wp_app_rt (.tmp 23) (.tmp 24) rfl 0 (.slice p n c) L [r] rfl HO.out (some ⟨vb, 0, none⟩) 1 1 rfl (rd_lit HB.out) (by omega) (Nat.zero_le _) ?_); intro v' w' ho' hg' hat'; refine hK _ _ ?_; clear hK K)
  go_ret
  exact ⟨v', rfl, ho', grown_S hg', blks_at hat'⟩

theorem size_rt : ∀ w, (Go.sizeOf 27).run Try.prog w = .ok 6 w := by
  obtain ⟨i, hi, hz, hsz, hby⟩ := info_rt
  intro w
  simp [sizeOf, typeInfo, hi, hsz]

theorem run_overlaps (w : World) (vb g : Nat) (A B : Array Value) (ha : w.heap[vb]? = some (.cells A 27 (0, 0))) (hb : w.heap[g]? = some (.cells B 27 (0, 0))) (hB : B.size ≠ 0) (hne : vb ≠ g) (o la ca lb cb : Nat) :
    (callFunc 55 #[.slice (some ⟨vb, 0, none⟩) la ca, .slice (some ⟨g, o, none⟩) lb cb]).run Try.prog w = .ok (.value (.bool false)) w := by
  rw [run_callFunc_extern Try.func55 (by kernel_rfl) (by kernel_rfl) (by kernel_rfl) (e := Extern.SlicesOverlaps.overlaps #[33, 33] #[4]) (by kernel_rfl),
    Lib.run_overlaps_apart w 33 4 27 Try.underlying33 6 size_rt ⟨vb, 0, none⟩ ⟨g, o, none⟩ la ca lb cb hne 27 27 A.size B.size (by simp [World.shape?, ha]) (by simp [World.shape?, hb]) hB (heap_frozen ha) (heap_frozen ha)]
  rfl

/-- What stands in the row's block behind both copies. -/
theorem shift_row {cur : List Value} {L : List Rt} {r : Rt} {i c : Nat} (hi : i < L.length) (hc : L.length + 1 ≤ c) (hs : cur.length = c * 6) (ht : cur.take (L.length * 6) = rtCs L) (cur1 cur2 : List Value)
    (h1 : cur1 = cur.take ((i + 1) * 6) ++ rtCs (L.drop i) ++ cur.drop ((i + 1) * 6 + (rtCs (L.drop i)).length)) (h2 : cur2 = cur1.take (i * 6) ++ rtC r ++ cur1.drop (i * 6 + (rtC r).length)) :
    cur2.length = c * 6 ∧ cur2.take ((L.length + 1) * 6) = rtCs (L.take i ++ r :: L.drop i) := by
  have hl : (rtCs (L.drop i)).length = (L.length - i) * 6 := by rw [rtCs_length, List.length_drop]
  have l1 : (cur.take ((i + 1) * 6)).length = (i + 1) * 6 := by rw [List.length_take]; omega
  have e1 : cur1.take (i * 6) = rtCs (L.take i) := by
    rw [h1, List.append_assoc, List.take_append_of_le_length (by omega), List.take_take, Nat.min_eq_left (by omega), ← rtCs_take, ← ht, List.take_take, Nat.min_eq_left (by omega)]
  have e2 : cur1.drop (i * 6 + (rtC r).length) = rtCs (L.drop i) ++ cur.drop ((L.length + 1) * 6) := by
    rw [h1, rtC_length, List.append_assoc, show i * 6 + 6 = (i + 1) * 6 by omega, List.drop_left' l1, hl, show (i + 1) * 6 + (L.length - i) * 6 = (L.length + 1) * 6 by omega]
  rw [e1, e2] at h2
  have l2 : (rtCs (L.take i)).length = i * 6 := by rw [rtCs_length, List.length_take, Nat.min_eq_left (by omega)]
  constructor
  · rw [h2]
    simp only [List.length_append, hl, l2, rtC_length, List.length_drop, hs]
    omega
  · rw [h2, rtCs_append, rtCs_cons, ← List.append_assoc, ← List.append_assoc]
    refine List.take_left' ?_
    simp only [List.length_append, hl, l2, rtC_length]
    omega

set_option maxHeartbeats 1000000 in
/-- In place. -/
theorem insert_room (g c : Nat) (cur : Array Value) (L : List Rt) (i : Nat) (r : Rt) (vb : Nat) (w : World) (hi : i < L.length) (hc1 : L.length + 1 ≤ c) (hc2 : c ≤ maxLen) (hg : w.heap[g]? = some (.cells cur 27 (0, 0))) (hs : cur.size = c * 6) (ht : cur.toList.take (L.length * 6) = rtCs L)
    (hl : L.length ≤ 100000) (hb : w.heap[vb]? = some (.cells #[.int .i64 r.t, .int .u32 r.a, .int .i64 r.l, .int .i64 r.i, .int .u32 r.g, .int .i64 r.m] 27 (0, 0))) (hne : vb ≠ g) :
    Calls Try.prog 41 #[.slice (some ⟨g, 0, none⟩) L.length c, .int .i64 (i : Nat), .slice (some ⟨vb, 0, none⟩) 1 1] w (RowAns w (.slice (some ⟨g, 0, none⟩) L.length c) (L.take i ++ r :: L.drop i)) := by
  obtain ⟨n, hn⟩ : ∃ n, n = L.length := ⟨_, rfl⟩
  have hov := fun o la ca lb cb => run_overlaps w vb g #[.int .i64 r.t, .int .u32 r.a, .int .i64 r.l, .int .i64 r.i, .int .u32 r.g, .int .i64 r.m] cur hb hg (by omega) hne o la ca lb cb
  have hcl : (rtCs (L.drop i)).length = (n - i) * 6 := by rw [rtCs_length, List.length_drop, hn]
  have hcell : ∀ (j : Nat) (u : Value), (rtCs (L.drop i))[j]? = some u → cur.toList[i * 6 + j]? = some u := fun j u hj => by
    rw [← rtCs_drop, List.getElem?_drop, ← ht, List.getElem?_take] at hj
    split at hj
    · exact hj
    · cases hj
  have cp1 : ∀ ty dc sc, (Builtin.copy_ #[33, 33] ty #[.slice (some ⟨g, (i + 1) * 6, none⟩) (n - i) dc, .slice (some ⟨g, i * 6, none⟩) (n + 1 - i) sc]).run Try.prog w.drew =
      .ok (goInt (Nat.min (n + 1 - i) (n - i))) (w.drew.setRow g (cur.toList.take ((i + 1) * 6) ++ rtCs (L.drop i) ++ cur.toList.drop ((i + 1) * 6 + (rtCs (L.drop i)).length)).toArray) := fun ty dc sc =>
    run_copy_rt w.drew ty g ((i + 1) * 6) (n - i) dc ⟨g, i * 6, none⟩ (n + 1 - i) sc cur _ (rtCs (L.drop i)) hg (by rw [hcl, show Nat.min (n + 1 - i) (n - i) = n - i by show min _ _ = _; omega])
      (fun j u hj => by rw [addr_add']; show w.cell? _ = _; rw [heap_cell hg, ← Array.getElem?_toList]; exact hcell j u hj) (by rw [hcl, hs]; omega) (fun u hu => rtCs_cell hu)
  obtain ⟨cur1, hcur1⟩ : ∃ cur1, cur1 = (cur.toList.take ((i + 1) * 6) ++ rtCs (L.drop i) ++ cur.toList.drop ((i + 1) * 6 + (rtCs (L.drop i)).length)) := ⟨_, rfl⟩
  rw [← hcur1] at cp1
  obtain ⟨W1, hW1⟩ : ∃ W1, W1 = w.drew.setRow g cur1.toArray := ⟨_, rfl⟩
  have hg1 : W1.heap[g]? = some (.cells cur1.toArray 27 (0, 0)) := by rw [hW1]; exact setRow_heap w.drew g cur _ _ _ hg
  have hb1 : W1.heap[vb]? = some (.cells #[.int .i64 r.t, .int .u32 r.a, .int .i64 r.l, .int .i64 r.i, .int .u32 r.g, .int .i64 r.m] 27 (0, 0)) := by rw [hW1]; exact (setRow_other w.drew g vb _ hne).trans hb
  have hx1 : ExtX g w.drew W1 := by rw [hW1]; exact ⟨rfl, rfl, rfl, by simp [World.setRow], fun k hk hx => setRow_other w.drew g k _ hx⟩
  have hS1 : ExtS [g] w W1 := by rw [hW1]; exact ExtS.trans ((Ext.refl w).drew.toS _) (extS_row w.drew g _)
  rw [← hW1] at cp1
  have hl1 : cur1.length = c * 6 := by
    rw [hcur1]
    simp only [List.length_append, List.length_take, List.length_drop, hcl, Array.length_toList, hs]
    omega
  have cp2 : ∀ ty dc, (Builtin.copy_ #[33, 33] ty #[.slice (some ⟨g, i * 6, none⟩) (n + 1 - i) dc, .slice (some ⟨vb, 0, none⟩) 1 1]).run Try.prog W1 =
      .ok (goInt (Nat.min 1 (n + 1 - i))) (W1.setRow g (cur1.toArray.toList.take (i * 6) ++ rtC r ++ cur1.toArray.toList.drop (i * 6 + (rtC r).length)).toArray) := fun ty dc =>
    run_copy_rt W1 ty g (i * 6) (n + 1 - i) dc ⟨vb, 0, none⟩ 1 1 cur1.toArray _ (rtC r) hg1 (by rw [rtC_length, show Nat.min 1 (n + 1 - i) = 1 by show min _ _ = _; omega])
      (fun j u hj => by
        have := Tri.Src.cells (rd_lit hb1)
        rcases this with h0 | ⟨b, off, h0, h2⟩
        · omega
        · cases h0
          rw [addr_add']; exact h2 j u (by rw [rtCs_one]; exact hj)) (by rw [rtC_length, List.size_toArray, hl1]; omega) (fun u hu => rtC_cell hu)
  obtain ⟨cur2, hcur2⟩ : ∃ cur2, cur2 = (cur1.take (i * 6) ++ rtC r ++ cur1.drop (i * 6 + (rtC r).length)) := ⟨_, rfl⟩
  rw [List.toList_toArray, ← hcur2] at cp2
  have hfin := shift_row (r := r) hi hc1 (by simpa using hs) ht cur1 cur2 hcur1 hcur2
  have HF : Hid _ := hfin
  have HG : Hid _ := hg1
  have HS : Hid _ := hS1
  have HC : Hid (c ≤ maxLen) := hc2
  have HN : Hid _ := hn
  have hin : i < n := by omega
  have hc1' : n + 1 ≤ c := by omega
  have hl' : n ≤ 100000 := by omega
  have hc63 : c ≤ 9223372036854775807 := by unfold maxLen at hc2; omega
  rw [← hn]
  clear hfin hg1 hS1 hb1 hcur1 hcur2 hcell hcl hs ht hg hb hl hi hc1 hc2 hl1 hW1 hn hne
  have z1 : ¬ (c = i + 1) := by omega
  have z2 : ¬ (c = i) := by omega
  have z3 : ¬ ((i : Int) = (n : Int)) := by omega
  have z4 : ((i : Int) + 1).toNat = i + 1 := by omega
  have z5 : ((n : Int) + 1).toNat = n + 1 := by omega
  have z6 : (i : Int) ≤ (n : Int) := by omega
  have z7 : (n : Int) + 1 ≤ (c : Int) := by omega
  have z8 : (i : Int) ≤ (n : Int) + 1 := by omega
  have z9 : IntKind.i64.wrap ((i : Int) + 1) = (i : Int) + 1 := by rw [IntKind.wrap_i64]; omega
  have z10 : (0 : Int) ≤ (i : Int) + 1 := by omega
  have z11 : i ≤ n := by omega
  go_enter Try.func41, Try.ntmps41
  go_wp2_with (simp only [hov])
  refine wp_region_eagerX g [(0, false), (1, false), (2, false), (3, false), (4, false), (5, false), (6, false), (7, false), (8, true)] (by kernel_rfl) (by kernel_rfl) rfl (by kernel_rfl) (fun _ _ _ _ _ h => h) ?_
  iterate 8 (refine wpE_read (v := ?_) rfl (by rfl) ?_ ?_; rotate_left; (focus (intro w' hx; go_simp; first | done | with_reducible rfl)); simp only [Act.put, List.setIfInBounds_toArray, List.set_cons_zero, List.set_cons_succ])
  refine wpE_call rfl (by rfl) (fun K hK => ?_)
  refine wp_copy_is (.tmp 73) (.tmp 76) rfl _ _ rfl rfl (cp1 _ _ _) ?_
  refine hK _ _ hx1 ?_
  clear hK K cp1 hov
  simp only [Act.put, List.setIfInBounds_toArray, List.set_cons_zero, List.set_cons_succ]
  refine wpE_done ?_
  go_wp2_with (refine wpList_want rfl (fun K hK => wp_copy_is (.tmp 80) (.tmp 81) rfl _ _ rfl rfl (cp2 _ _) ?_); refine hK _ _ ?_; clear hK K)
  go_ret
  refine ⟨_, rfl, ?_, HS.out.then (extS_row _ g _) (by simp [blks, Value.ownBlock]) |>.mono (by simp [blks, Value.ownBlock]), fun x hx => .inl hx⟩
  have hlen : (L.take i ++ r :: L.drop i).length = n + 1 := by
    rw [HN.out] at *
    simp only [List.length_append, List.length_take, List.length_cons, List.length_drop]; omega
  have := ownR_of (w := W1.setRow g cur2.toArray) (B := 0) (g := g) (c := c) (cur := cur2.toArray) (L := L.take i ++ r :: L.drop i) (Nat.zero_le _) (setRow_heap W1 g _ _ _ _ HG.out) (by rw [hlen]; exact hc1') HC.out (by simpa using HF.out.1) (by rw [hlen, HN.out]; exact HF.out.2)
  rw [hlen] at this
  exact this

/-- append(s[:i], make(..)...) where there is no room. -/
theorem run_grow_rt (w : World) (ty : TypeId) (g c : Nat) (cur : Array Value) (L : List Rt) (i n : Nat) (hn : L.length = n) (hi : i < n) (hc : c < n + 1) (hg : w.heap[g]? = some (.cells cur 27 (0, 0))) (ht : cur.toList.take (n * 6) = rtCs L) (hl : n ≤ 100000) :
    ∃ W1 cur1 c1, (Builtin.append_ #[33, 3] ty #[.slice (some ⟨g, 0, none⟩) i c, .int .i64 ((n : Int) + 1 - (i : Int))]).run Try.prog w = .ok (.slice (some ⟨w.heap.size, 0, none⟩) (n + 1) c1) W1 ∧ Ext w W1 ∧
      W1.heap[w.heap.size]? = some (.cells cur1 27 (0, 0)) ∧ cur1.size = c1 * 6 ∧ n + 1 ≤ c1 ∧ c1 ≤ maxLen ∧ cur1.toList.take (i * 6) = rtCs (L.take i) := by
  obtain ⟨i0, hi0, hz, hsz, hby⟩ := info_rt
  have hkk : (n : Int) + 1 - (i : Int) = ((n + 1 - i : Nat) : Int) := by omega
  have hik : i + (n + 1 - i) = n + 1 := by omega
  have htl : (rtCs (L.take i)).length = i * 6 := by rw [rtCs_length, List.length_take, Nat.min_eq_left (by omega)]
  have hold : (Builtin.firstCells i0.size i (.slice (some ⟨g, 0, none⟩) i c)).run Try.prog w.drew = .ok (rtCs (L.take i)).toArray w.drew := by
    rw [hsz]
    refine run_firstCells_some w.drew 6 i ⟨g, 0, none⟩ i c (rtCs (L.take i)) htl (fun j v hj => ?_)
    rw [addr_add', Nat.zero_add]
    show w.cell? _ = _
    rw [heap_cell hg, ← Array.getElem?_toList]
    rw [← rtCs_take, List.getElem?_take] at hj
    split at hj
    · rw [← ht, List.getElem?_take] at hj
      split at hj
      · exact hj
      · cases hj
    · cases hj
  have h := Lib.run_append_grow_zeros w 33 3 ty 27 i0 _ .i64 .i64 Try.underlying33 Try.underlying3 hi0 hz (some ⟨g, 0, none⟩) i c (rtCs (L.take i)) hold (n + 1 - i) (by omega) (by omega) (by omega) (by omega) (by rw [hby]; omega) (by rw [hby, hik]; exact growslice_fits hc (by omega))
  rw [hik] at h
  rw [hkk]
  have hge := grownCap_ge w (n + 1) c 27
  have hcm : grownCap w (n + 1) c 27 ≤ maxLen := grownCap_le_maxLen w (n + 1) c 27 (by unfold maxLen; omega)
  refine ⟨_, _, _, h, ((Ext.refl w).drew).alloc _, heap_new w.drew _, ?_, hge, hcm, ?_⟩
  · simp only [Array.size_append, List.size_toArray, size_zeroCells, htl]
    show i * 6 + (n + 1 - i) * 6 + _ * 6 = _
    omega
  · simp only [Array.toList_append, List.append_assoc]
    exact List.take_left' htl

theorem grow_row {cur1 : List Value} {L : List Rt} {r : Rt} {i c n : Nat} (hn : n = L.length) (hi : i < n) (hc : n + 1 ≤ c) (hs : cur1.length = c * 6) (ht : cur1.take (i * 6) = rtCs (L.take i)) (cur2 cur3 : List Value)
    (h2 : cur2 = cur1.take (i * 6) ++ rtC r ++ cur1.drop (i * 6 + (rtC r).length)) (h3 : cur3 = cur2.take ((i + 1) * 6) ++ rtCs (L.drop i) ++ cur2.drop ((i + 1) * 6 + (rtCs (L.drop i)).length)) :
    cur2.length = c * 6 ∧ cur3.length = c * 6 ∧ cur3.take ((n + 1) * 6) = rtCs (L.take i ++ r :: L.drop i) := by
  have hl : (rtCs (L.drop i)).length = (n - i) * 6 := by rw [rtCs_length, List.length_drop, hn]
  have l2 : (rtCs (L.take i)).length = i * 6 := by rw [rtCs_length, List.length_take, Nat.min_eq_left (by omega)]
  have e2 : cur2.length = c * 6 := by
    rw [h2, ht]
    simp only [List.length_append, l2, rtC_length, List.length_drop, hs]
    omega
  have e3 : cur2.take ((i + 1) * 6) = rtCs (L.take i) ++ rtC r := by
    rw [h2, ht]
    refine List.take_left' ?_
    rw [List.length_append, l2, rtC_length]
    omega
  rw [e3] at h3
  refine ⟨e2, ?_, ?_⟩
  · rw [h3]
    simp only [List.length_append, hl, l2, rtC_length, List.length_drop, e2]
    omega
  · rw [h3, rtCs_append, rtCs_cons, ← List.append_assoc]
    refine List.take_left' ?_
    simp only [List.length_append, hl, l2, rtC_length]
    omega

set_option maxHeartbeats 1000000 in
/-- In new memory. -/
theorem insert_grow (g c : Nat) (cur : Array Value) (L : List Rt) (i : Nat) (r : Rt) (vb : Nat) (w : World) (hi : i < L.length) (hc0 : L.length ≤ c) (hc1 : c < L.length + 1) (hg : w.heap[g]? = some (.cells cur 27 (0, 0))) (ht : cur.toList.take (L.length * 6) = rtCs L)
    (hl : L.length ≤ 100000) (hb : w.heap[vb]? = some (.cells #[.int .i64 r.t, .int .u32 r.a, .int .i64 r.l, .int .i64 r.i, .int .u32 r.g, .int .i64 r.m] 27 (0, 0))) :
    Calls Try.prog 41 #[.slice (some ⟨g, 0, none⟩) L.length c, .int .i64 (i : Nat), .slice (some ⟨vb, 0, none⟩) 1 1] w (RowAns w (.slice (some ⟨g, 0, none⟩) L.length c) (L.take i ++ r :: L.drop i)) := by
  obtain ⟨n, hn⟩ : ∃ n, n = L.length := ⟨_, rfl⟩
  rw [← hn] at hi hc0 hc1 ht hl
  obtain ⟨W1, cur1, c1, hr, hE1, hg1, hs1, hn1, hm1, ht1⟩ := run_grow_rt w 33 g c cur L i n hn.symm hi hc1 hg ht hl
  have hgN : g < w.heap.size := heap_lt hg
  have hb1 := hE1.heap hb
  have hcl : (rtCs (L.drop i)).length = (n - i) * 6 := by rw [rtCs_length, List.length_drop, hn]
  have cp1 : ∀ ty dc, (Builtin.copy_ #[33, 33] ty #[.slice (some ⟨w.heap.size, i * 6, none⟩) (n + 1 - i) dc, .slice (some ⟨vb, 0, none⟩) 1 1]).run Try.prog W1 =
      .ok (goInt (Nat.min 1 (n + 1 - i))) (W1.setRow w.heap.size (cur1.toList.take (i * 6) ++ rtC r ++ cur1.toList.drop (i * 6 + (rtC r).length)).toArray) := fun ty dc =>
    run_copy_rt W1 ty w.heap.size (i * 6) (n + 1 - i) dc ⟨vb, 0, none⟩ 1 1 cur1 _ (rtC r) hg1 (by rw [rtC_length, show Nat.min 1 (n + 1 - i) = 1 by show min _ _ = _; omega])
      (fun j u hj => by
        have := Tri.Src.cells (rd_lit hb1)
        rcases this with h0 | ⟨b, off, h0, h2⟩
        · omega
        · cases h0
          rw [addr_add']; exact h2 j u (by rw [rtCs_one]; exact hj)) (by rw [rtC_length, hs1]; omega) (fun u hu => rtC_cell hu)
  obtain ⟨cur2, hcur2⟩ : ∃ cur2, cur2 = (cur1.toList.take (i * 6) ++ rtC r ++ cur1.toList.drop (i * 6 + (rtC r).length)) := ⟨_, rfl⟩
  rw [← hcur2] at cp1
  obtain ⟨W2, hW2⟩ : ∃ W2, W2 = W1.setRow w.heap.size cur2.toArray := ⟨_, rfl⟩
  rw [← hW2] at cp1
  have hg2 : W2.heap[w.heap.size]? = some (.cells cur2.toArray 27 (0, 0)) := by rw [hW2]; exact setRow_heap W1 _ cur1 _ _ _ hg1
  have hE2 : Ext w W2 := by
    rw [hW2]
    exact ExtS.ext (ExtS.then (hE1.toS [w.heap.size]) (extS_row W1 w.heap.size _) (by simp)) (by simp)
  have hgo : W2.heap[g]? = some (.cells cur 27 (0, 0)) := hE2.heap hg
  obtain ⟨cur3, hcur3⟩ : ∃ cur3, cur3 = cur2.take ((i + 1) * 6) ++ rtCs (L.drop i) ++ cur2.drop ((i + 1) * 6 + (rtCs (L.drop i)).length) := ⟨_, rfl⟩
  obtain ⟨f1, f2, f3⟩ := grow_row (r := r) hn hi hn1 (by simpa using hs1) ht1 cur2 cur3 hcur2 hcur3
  have hcell : ∀ (j : Nat) (u : Value), (rtCs (L.drop i))[j]? = some u → cur.toList[i * 6 + j]? = some u := fun j u hj => by
    rw [← rtCs_drop, List.getElem?_drop, ← ht, List.getElem?_take] at hj
    split at hj
    · exact hj
    · cases hj
  have cp2 : ∀ ty dc sc, (Builtin.copy_ #[33, 33] ty #[.slice (some ⟨w.heap.size, (i + 1) * 6, none⟩) (n - i) dc, .slice (some ⟨g, i * 6, none⟩) (n - i) sc]).run Try.prog W2.drew =
      .ok (goInt (Nat.min (n - i) (n - i))) (W2.drew.setRow w.heap.size (cur2.toArray.toList.take ((i + 1) * 6) ++ rtCs (L.drop i) ++ cur2.toArray.toList.drop ((i + 1) * 6 + (rtCs (L.drop i)).length)).toArray) := fun ty dc sc =>
    run_copy_rt W2.drew ty w.heap.size ((i + 1) * 6) (n - i) dc ⟨g, i * 6, none⟩ (n - i) sc cur2.toArray _ (rtCs (L.drop i)) hg2 (by rw [hcl, show Nat.min (n - i) (n - i) = n - i by show min _ _ = _; omega])
      (fun j u hj => by rw [addr_add']; show W2.cell? _ = _; rw [heap_cell hgo, ← Array.getElem?_toList]; exact hcell j u hj) (by rw [hcl, List.size_toArray, f1]; omega) (fun u hu => rtCs_cell hu)
  rw [List.toList_toArray, ← hcur3] at cp2
  obtain ⟨W3, hW3⟩ : ∃ W3, W3 = W2.drew.setRow w.heap.size cur3.toArray := ⟨_, rfl⟩
  rw [← hW3] at cp2
  have hg3 : W3.heap[w.heap.size]? = some (.cells cur3.toArray 27 (0, 0)) := by rw [hW3]; exact setRow_heap W2.drew _ cur2.toArray _ _ _ hg2
  have hx3 : ExtX w.heap.size W2.drew W3 := by rw [hW3]; exact ⟨rfl, rfl, rfl, by simp [World.setRow], fun k hk hx => setRow_other W2.drew _ k _ hx⟩
  have hE3 : Ext w W3 := ExtX.ext hE2.drew hx3 (Nat.le_refl _)
  have HF : Hid (cur3.length = c1 * 6 ∧ cur3.take ((n + 1) * 6) = rtCs (L.take i ++ r :: L.drop i)) := ⟨f2, f3⟩
  have HG : Hid _ := hg3
  have HM : Hid _ := hm1
  have HN : Hid _ := hn
  have HE : Hid (Ext w W3) := hE3
  have hc63 : c1 ≤ 9223372036854775807 := by unfold maxLen at hm1; omega
  rw [← hn]
  clear hg hb ht hn hE1 hg1 hs1 hm1 ht1 hb1 hcl hcur2 hW2 hg2 hE2 hgo hcur3 f1 f2 f3 hcell hW3 hg3 hE3 hgN
  have z2 : ¬ (c = i) := by omega
  have z3 : ¬ ((i : Int) = (n : Int)) := by omega
  have z4 : ((i : Int) + 1).toNat = i + 1 := by omega
  have z6 : (i : Int) ≤ (n : Int) := by omega
  have z7 : (c : Int) < (n : Int) + 1 := by omega
  have z8 : (i : Int) ≤ (n : Int) + 1 := by omega
  have z9 : IntKind.i64.wrap ((i : Int) + 1) = (i : Int) + 1 := by rw [IntKind.wrap_i64]; omega
  have z10 : (0 : Int) ≤ (i : Int) + 1 := by omega
  have z11 : i ≤ n := by omega
  have z12 : (i : Int) ≤ (c : Int) := by omega
  have y1 : ¬ (c1 = i) := by omega
  have y2 : ¬ (c1 = i + 1) := by omega
  go_enter Try.func41, Try.ntmps41
  go_wp2_with (at_builtin; refine wpList_want rfl (fun K hK => wp_app_is (.tmp 34) (.tmp 39) 3 rfl _ _ rfl rfl hr ?_); refine hK _ _ ?_; clear hK K hr)
  refine wp_region_eagerX w.heap.size [(0, false), (1, false), (2, false), (3, false), (4, false), (5, false), (6, false), (7, false), (8, true)] (by kernel_rfl) (by kernel_rfl) rfl (by kernel_rfl) (fun _ _ _ _ _ h => h) ?_
  iterate 8 (refine wpE_read (v := ?_) rfl (by rfl) ?_ ?_; rotate_left; (focus (intro w' hx; go_simp; first | done | with_reducible rfl)); simp only [Act.put, List.setIfInBounds_toArray, List.set_cons_zero, List.set_cons_succ])
  refine wpE_call rfl (by rfl) (fun K hK => ?_)
  refine wp_copy_is (.tmp 50) (.tmp 53) rfl _ _ rfl rfl (cp2 _ _ _) ?_
  refine hK _ _ hx3 ?_
  clear hK K cp1 cp2
  simp only [Act.put, List.setIfInBounds_toArray, List.set_cons_zero, List.set_cons_succ]
  refine wpE_done ?_
  go_wp2_with fail
  go_ret
  refine ⟨_, rfl, ?_, HE.out.toS _, fun x hx => .inr (by rw [mem_blks] at hx; cases hx; exact Nat.le_refl _)⟩
  have hlen : (L.take i ++ r :: L.drop i).length = n + 1 := by
    rw [HN.out] at *
    simp only [List.length_append, List.length_take, List.length_cons, List.length_drop]; omega
  have := ownR_of (w := W3) (B := 0) (g := w.heap.size) (c := c1) (cur := cur3.toArray) (L := L.take i ++ r :: L.drop i) (Nat.zero_le _) HG.out (by rw [hlen]; exact hn1) HM.out (by simpa using HF.out.1) (by rw [hlen]; exact HF.out.2)
  rw [hlen] at this
  exact this

theorem insert_any (v : Value) (L : List Rt) (i : Nat) (r : Rt) (vb : Nat) (w : World) (hO : OwnR w 0 v L) (hi : i ≤ L.length) (hl : L.length ≤ 100000) (hb : w.heap[vb]? = some (.cells #[.int .i64 r.t, .int .u32 r.a, .int .i64 r.l, .int .i64 r.i, .int .u32 r.g, .int .i64 r.m] 27 (0, 0))) (hne : vb ∉ blks v) :
    Calls Try.prog 41 #[v, .int .i64 (i : Nat), .slice (some ⟨vb, 0, none⟩) 1 1] w (RowAns w v (L.take i ++ r :: L.drop i)) := by
  rcases Nat.lt_or_ge i L.length with hlt | hge
  · obtain ⟨g, c, cur, rfl, -, hg, h1, h2, h3, h4⟩ := hO.block (by omega)
    have hn : vb ≠ g := fun e => hne (by simp [blks, Value.ownBlock, e])
    rcases Nat.lt_or_ge c (L.length + 1) with hc | hc
    · exact insert_grow g c cur L i r vb w hlt h1 hc hg h4 hl hb
    · exact insert_room g c cur L i r vb w hlt hc h2 hg h3 h4 hl hb hn
  · obtain rfl : i = L.length := by omega
    have := insert_end v L r vb w hO hl hb
    rw [List.take_length, List.drop_length]
    exact this
end Go.Proofs.Ytbchfmadmcppkaa.Rb
