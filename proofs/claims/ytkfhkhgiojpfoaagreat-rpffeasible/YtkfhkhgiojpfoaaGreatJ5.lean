/- Texts joined by a program: Rib3, Grow5, Rib5, Rib6. -/
import Derived.Lib.Overlaps
import Derived.Lib.SliceRun
import Derived.Test.YtkfhkhgiojpfoaaGreatJ2
import Derived.Test.YtkfhkhgiojpfoaaGreatJ4
namespace Go.Proofs.YtkfhkhgiojpfoaaGreat.Rb

set_option maxRecDepth 100000

open Go.RowKit Go.Proofs.YtkfhkhgiojpfoaaGreat

set_option linter.unusedVariables false

set_option linter.unusedSimpArgs false

/-- A row that was v is the row L' now. -/
def RowAns (w : World) (v : Value) (L' : List Rt) (e : Ending) (w' : World) : Prop := ∃ v', e = .returned v' ∧ OwnR w' 0 v' L' ∧ ExtS (blks v) w w' ∧ ∀ x ∈ blks v', x ∈ blks v ∨ w.heap.size ≤ x

theorem rd_lit {w : World} {g : Nat} {r : Rt} (h : w.heap[g]? = some (.cells #[.int .i64 r.t, .int .u32 r.a, .int .i64 r.l, .int .i64 r.i, .int .u32 r.g, .int .i64 r.m] 48 (0, 0))) : Rd w (some ⟨g, 0, none⟩) 1 1 [r] :=
  ⟨rfl, by simp, fun u hu => rtCs_cell hu, .inr ⟨g, 0, rfl, fun j u hj => by
    rw [heap_cell h, Nat.zero_add]
    rw [rtCs_one] at hj
    match j, hj with
    | 0, hj => exact hj
    | 1, hj => exact hj
    | 2, hj => exact hj
    | 3, hj => exact hj
    | 4, hj => exact hj
    | 5, hj => exact hj
    | j + 6, hj => simp [rtC] at hj⟩⟩

theorem grown_S {w w' : World} {v : Value} (h : w.grownBy w' v.ownBlock) : ExtS (blks v) w w' :=
  ⟨h.os, h.tape, h.output, h.size, fun i hi hne => h.block i hi fun e => hne (mem_blks.2 e.symm)⟩

theorem blks_at {w : World} {v v' : Value} (h : v'.ownBlock = v.ownBlock ∨ v'.ownBlock = some w.heap.size) : ∀ x ∈ blks v', x ∈ blks v ∨ w.heap.size ≤ x := fun x hx => by
  rw [mem_blks] at hx
  rcases h with h | h
  · rw [h] at hx; exact .inl (mem_blks.2 hx)
  · rw [h] at hx; cases hx; exact .inr (Nat.le_refl _)

/-- At the end. -/
theorem insert_end (v : Value) (L : List Rt) (r : Rt) (vb : Nat) (w : World) (hO : OwnR w 0 v L) (hl : L.length ≤ 100000) (hb : w.heap[vb]? = some (.cells #[.int .i64 r.t, .int .u32 r.a, .int .i64 r.l, .int .i64 r.i, .int .u32 r.g, .int .i64 r.m] 48 (0, 0))) :
    Calls Tryz.prog 68 #[v, .int .i64 (L.length : Nat), .slice (some ⟨vb, 0, none⟩) 1 1] w (RowAns w v (L ++ [r])) := by
  obtain ⟨p, c, hv, hc1, hc2, hR⟩ := hO.slice
  have HO : Hid (OwnR w 0 v L) := hO
  have HB : Hid _ := hb
  clear hO hb hR
  subst hv
  obtain ⟨X, hX⟩ : ∃ X, ∀ w, (Instr.slice 22 (.slice p L.length c) (some (.int .i64 (L.length : Nat))) none none).run Tryz.prog w = .ok X w := ⟨_, cut_l p L.length c L.length (Nat.le_refl _) hc1⟩
  have HN : Hid _ := hl
  generalize hn : L.length = n at *
  have hn2 : n ≤ 100000 := HN.out
  go_enter Tryz.func68, Tryz.ntmps68
  go_wp2_with (at_builtin; refine wpList_want rfl (fun K hK => wp_app_rt (.tmp 23) (.tmp 24) rfl 0 (.slice p n c) L [r] rfl HO.out (some ⟨vb, 0, none⟩) 1 1 rfl (rd_lit HB.out) (by omega) (Nat.zero_le _) ?_); intro v' w' ho' hg' hat'; refine hK _ _ ?_; clear hK K)
  go_ret
  exact ⟨v', rfl, ho', grown_S hg', blks_at hat'⟩

theorem size_rt : ∀ w, (Go.sizeOf 48).run Tryz.prog w = .ok 6 w := by
  obtain ⟨i, hi, hz, hsz, hby⟩ := info_rt
  intro w
  simp [sizeOf, typeInfo, hi, hsz]

theorem run_overlaps (w : World) (vb g : Nat) (A B : Array Value) (ha : w.heap[vb]? = some (.cells A 48 (0, 0))) (hb : w.heap[g]? = some (.cells B 48 (0, 0))) (hB : B.size ≠ 0) (hne : vb ≠ g) (o la ca lb cb : Nat) :
    (callFunc 90 #[.slice (some ⟨vb, 0, none⟩) la ca, .slice (some ⟨g, o, none⟩) lb cb]).run Tryz.prog w = .ok (.value (.bool false)) w := by
  rw [run_callFunc_extern Tryz.func90 (by kernel_rfl) (by kernel_rfl) (by kernel_rfl) (e := Extern.SlicesOverlaps.overlaps #[22, 22] #[4]) (by kernel_rfl),
    Lib.run_overlaps_apart w 22 4 48 Tryz.underlying22 6 size_rt ⟨vb, 0, none⟩ ⟨g, o, none⟩ la ca lb cb hne 48 48 A.size B.size (by simp [World.shape?, ha]) (by simp [World.shape?, hb]) hB (heap_frozen ha) (heap_frozen ha)]
  rfl

/-- What stands in the row's block behind both copies. -/
theorem shift_row {cur : List Value} {L : List Rt} {r : Rt} {i c : Nat} (hi : i < L.length) (hc : L.length + 1 ≤ c) (hs : cur.length = c * 6) (ht : cur.take (L.length * 6) = rtCs L) (cur1 cur2 : List Value)
    (h1 : cur1 = cur.take ((i + 1) * 6) ++ rtCs (L.drop i) ++ cur.drop ((i + 1) * 6 + (rtCs (L.drop i)).length)) (h2 : cur2 = cur1.take (i * 6) ++ rtC r ++ cur1.drop (i * 6 + (rtC r).length)) :
    cur2.length = c * 6 ∧ cur2.take ((L.length + 1) * 6) = rtCs (L.take i ++ r :: L.drop i) := by
  have hl : (rtCs (L.drop i)).length = (L.length - i) * 6 := by rw [rtCs_length, List.length_drop]
  have l1 : (cur.take ((i + 1) * 6)).length = (i + 1) * 6 := by rw [List.length_take]; omega
  have e1 : cur1.take (i * 6) = rtCs (L.take i) := by
    rw [h1, List.append_assoc, List.take_append_of_le_length (by omega), List.take_take, Nat.min_eq_left (by omega), ← rtCs_take, ← ht, List.take_take, Nat.min_eq_left (by omega)]
  have e2 : cur1.drop (i * 6 + (rtC r).length) = rtCs (L.drop i) ++ cur.drop ((L.length + 1) * 6) := by
    rw [h1, rtC_length, List.append_assoc, show i * 6 + 6 = (i + 1) * 6 by omega, List.drop_left' l1, hl, show (i + 1) * 6 + (L.length - i) * 6 = (L.length + 1) * 6 by omega]
  rw [e1, e2] at h2
  have l2 : (rtCs (L.take i)).length = i * 6 := by rw [rtCs_length, List.length_take, Nat.min_eq_left (by omega)]
  constructor
  · rw [h2]
    simp only [List.length_append, hl, l2, rtC_length, List.length_drop, hs]
    omega
  · rw [h2, rtCs_append, rtCs_cons, ← List.append_assoc, ← List.append_assoc]
    refine List.take_left' ?_
    simp only [List.length_append, hl, l2, rtC_length]
    omega

set_option maxHeartbeats 1000000 in
/-- In place. -/
theorem insert_room (g c : Nat) (cur : Array Value) (L : List Rt) (i : Nat) (r : Rt) (vb : Nat) (w : World) (hi : i < L.length) (hc1 : L.length + 1 ≤ c) (hc2 : c ≤ maxLen) (hg : w.heap[g]? = some (.cells cur 48 (0, 0))) (hs : cur.size = c * 6) (ht : cur.toList.take (L.length * 6) = rtCs L)
    (hl : L.length ≤ 100000) (hb : w.heap[vb]? = some (.cells #[.int .i64 r.t, .int .u32 r.a, .int .i64 r.l, .int .i64 r.i, .int .u32 r.g, .int .i64 r.m] 48 (0, 0))) (hne : vb ≠ g) :
    Calls Tryz.prog 68 #[.slice (some ⟨g, 0, none⟩) L.length c, .int .i64 (i : Nat), .slice (some ⟨vb, 0, none⟩) 1 1] w (RowAns w (.slice (some ⟨g, 0, none⟩) L.length c) (L.take i ++ r :: L.drop i)) := by
  obtain ⟨n, hn⟩ : ∃ n, n = L.length := ⟨_, rfl⟩
  have hov := fun o la ca lb cb => run_overlaps w vb g #[.int .i64 r.t, .int .u32 r.a, .int .i64 r.l, .int .i64 r.i, .int .u32 r.g, .int .i64 r.m] cur hb hg (by omega) hne o la ca lb cb
  have hcl : (rtCs (L.drop i)).length = (n - i) * 6 := by rw [rtCs_length, List.length_drop, hn]
  have hcell : ∀ (j : Nat) (u : Value), (rtCs (L.drop i))[j]? = some u → cur.toList[i * 6 + j]? = some u := fun j u hj => by
    rw [← rtCs_drop, List.getElem?_drop, ← ht, List.getElem?_take] at hj
    split at hj
    · exact hj
    · cases hj
  have cp1 : ∀ ty dc sc, (Builtin.copy_ #[22, 22] ty #[.slice (some ⟨g, (i + 1) * 6, none⟩) (n - i) dc, .slice (some ⟨g, i * 6, none⟩) (n + 1 - i) sc]).run Tryz.prog w.drew =
      .ok (goInt (Nat.min (n + 1 - i) (n - i))) (w.drew.setRow g (cur.toList.take ((i + 1) * 6) ++ rtCs (L.drop i) ++ cur.toList.drop ((i + 1) * 6 + (rtCs (L.drop i)).length)).toArray) := fun ty dc sc =>
    run_copy_rt w.drew ty g ((i + 1) * 6) (n - i) dc ⟨g, i * 6, none⟩ (n + 1 - i) sc cur _ (rtCs (L.drop i)) hg (by rw [hcl, show Nat.min (n + 1 - i) (n - i) = n - i by show min _ _ = _; omega])
      (fun j u hj => by rw [addr_add']; show w.cell? _ = _; rw [heap_cell hg, ← Array.getElem?_toList]; exact hcell j u hj) (by rw [hcl, hs]; omega) (fun u hu => rtCs_cell hu)
  obtain ⟨cur1, hcur1⟩ : ∃ cur1, cur1 = (cur.toList.take ((i + 1) * 6) ++ rtCs (L.drop i) ++ cur.toList.drop ((i + 1) * 6 + (rtCs (L.drop i)).length)) := ⟨_, rfl⟩
  rw [← hcur1] at cp1
  obtain ⟨W1, hW1⟩ : ∃ W1, W1 = w.drew.setRow g cur1.toArray := ⟨_, rfl⟩
  have hg1 : W1.heap[g]? = some (.cells cur1.toArray 48 (0, 0)) := by rw [hW1]; exact setRow_heap w.drew g cur _ _ _ hg
  have hb1 : W1.heap[vb]? = some (.cells #[.int .i64 r.t, .int .u32 r.a, .int .i64 r.l, .int .i64 r.i, .int .u32 r.g, .int .i64 r.m] 48 (0, 0)) := by rw [hW1]; exact (setRow_other w.drew g vb _ hne).trans hb
  have hx1 : ExtX g w.drew W1 := by rw [hW1]; exact ⟨rfl, rfl, rfl, by simp [World.setRow], fun k hk hx => setRow_other w.drew g k _ hx⟩
  have hS1 : ExtS [g] w W1 := by rw [hW1]; exact ExtS.trans ((Ext.refl w).drew.toS _) (extS_row w.drew g _)
  rw [← hW1] at cp1
  have hl1 : cur1.length = c * 6 := by
    rw [hcur1]
    simp only [List.length_append, List.length_take, List.length_drop, hcl, Array.length_toList, hs]
    omega
  have cp2 : ∀ ty dc, (Builtin.copy_ #[22, 22] ty #[.slice (some ⟨g, i * 6, none⟩) (n + 1 - i) dc, .slice (some ⟨vb, 0, none⟩) 1 1]).run Tryz.prog W1 =
      .ok (goInt (Nat.min 1 (n + 1 - i))) (W1.setRow g (cur1.toArray.toList.take (i * 6) ++ rtC r ++ cur1.toArray.toList.drop (i * 6 + (rtC r).length)).toArray) := fun ty dc =>
    run_copy_rt W1 ty g (i * 6) (n + 1 - i) dc ⟨vb, 0, none⟩ 1 1 cur1.toArray _ (rtC r) hg1 (by rw [rtC_length, show Nat.min 1 (n + 1 - i) = 1 by show min _ _ = _; omega])
      (fun j u hj => by
        have := Tri.Src.cells (rd_lit hb1)
        rcases this with h0 | ⟨b, off, h0, h2⟩
        · omega
        · cases h0
          rw [addr_add']; exact h2 j u (by rw [rtCs_one]; exact hj)) (by rw [rtC_length, List.size_toArray, hl1]; omega) (fun u hu => rtC_cell hu)
  obtain ⟨cur2, hcur2⟩ : ∃ cur2, cur2 = (cur1.take (i * 6) ++ rtC r ++ cur1.drop (i * 6 + (rtC r).length)) := ⟨_, rfl⟩
  rw [List.toList_toArray, ← hcur2] at cp2
  have hfin := shift_row (r := r) hi hc1 (by simpa using hs) ht cur1 cur2 hcur1 hcur2
  have HF : Hid _ := hfin
  have HG : Hid _ := hg1
  have HS : Hid _ := hS1
  have HC : Hid (c ≤ maxLen) := hc2
  have HN : Hid _ := hn
  have hin : i < n := by omega
  have hc1' : n + 1 ≤ c := by omega
  have hl' : n ≤ 100000 := by omega
  have hc63 : c ≤ 9223372036854775807 := by unfold maxLen at hc2; omega
  rw [← hn]
  clear hfin hg1 hS1 hb1 hcur1 hcur2 hcell hcl hs ht hg hb hl hi hc1 hc2 hl1 hW1 hn hne
  have z1 : ¬ (c = i + 1) := by omega
  have z2 : ¬ (c = i) := by omega
  have z3 : ¬ ((i : Int) = (n : Int)) := by omega
  have z4 : ((i : Int) + 1).toNat = i + 1 := by omega
  have z5 : ((n : Int) + 1).toNat = n + 1 := by omega
  have z6 : (i : Int) ≤ (n : Int) := by omega
  have z7 : (n : Int) + 1 ≤ (c : Int) := by omega
  have z8 : (i : Int) ≤ (n : Int) + 1 := by omega
  have z9 : IntKind.i64.wrap ((i : Int) + 1) = (i : Int) + 1 := by rw [IntKind.wrap_i64]; omega
  have z10 : (0 : Int) ≤ (i : Int) + 1 := by omega
  have z11 : i ≤ n := by omega
  go_enter Tryz.func68, Tryz.ntmps68
  go_wp2_with (simp only [hov])
  refine wp_region_eagerX g [(0, false), (1, false), (2, false), (3, false), (4, false), (5, false), (6, false), (7, false), (8, true)] (by kernel_rfl) (by kernel_rfl) rfl (by kernel_rfl) (fun _ _ _ _ _ h => h) ?_
  iterate 8 (refine wpE_read (v := ?_) rfl (by rfl) ?_ ?_; rotate_left; (focus (intro w' hx; go_simp; first | done | with_reducible rfl)); simp only [Act.put, List.setIfInBounds_toArray, List.set_cons_zero, List.set_cons_succ])
  refine wpE_call rfl (by rfl) (fun K hK => ?_)
  refine wp_copy_is (.tmp 73) (.tmp 76) rfl _ _ rfl rfl (cp1 _ _ _) ?_
  refine hK _ _ hx1 ?_
  clear hK K cp1 hov
  simp only [Act.put, List.setIfInBounds_toArray, List.set_cons_zero, List.set_cons_succ]
  refine wpE_done ?_
  go_wp2_with (refine wpList_want rfl (fun K hK => wp_copy_is (.tmp 80) (.tmp 81) rfl _ _ rfl rfl (cp2 _ _) ?_); refine hK _ _ ?_; clear hK K)
  go_ret
  refine ⟨_, rfl, ?_, HS.out.then (extS_row _ g _) (by simp [blks, Value.ownBlock]) |>.mono (by simp [blks, Value.ownBlock]), fun x hx => .inl hx⟩
  have hlen : (L.take i ++ r :: L.drop i).length = n + 1 := by
    rw [HN.out] at *
    simp only [List.length_append, List.length_take, List.length_cons, List.length_drop]; omega
  have := ownR_of (w := W1.setRow g cur2.toArray) (B := 0) (g := g) (c := c) (cur := cur2.toArray) (L := L.take i ++ r :: L.drop i) (Nat.zero_le _) (setRow_heap W1 g _ _ _ _ HG.out) (by rw [hlen]; exact hc1') HC.out (by simpa using HF.out.1) (by rw [hlen, HN.out]; exact HF.out.2)
  rw [hlen] at this
  exact this

/-- append(s[:i], make(..)...) where there is no room. -/
theorem run_grow_rt (w : World) (ty : TypeId) (g c : Nat) (cur : Array Value) (L : List Rt) (i n : Nat) (hn : L.length = n) (hi : i < n) (hc : c < n + 1) (hg : w.heap[g]? = some (.cells cur 48 (0, 0))) (ht : cur.toList.take (n * 6) = rtCs L) (hl : n ≤ 100000) :
    ∃ W1 cur1 c1, (Builtin.append_ #[22, 3] ty #[.slice (some ⟨g, 0, none⟩) i c, .int .i64 ((n : Int) + 1 - (i : Int))]).run Tryz.prog w = .ok (.slice (some ⟨w.heap.size, 0, none⟩) (n + 1) c1) W1 ∧ Ext w W1 ∧
      W1.heap[w.heap.size]? = some (.cells cur1 48 (0, 0)) ∧ cur1.size = c1 * 6 ∧ n + 1 ≤ c1 ∧ c1 ≤ maxLen ∧ cur1.toList.take (i * 6) = rtCs (L.take i) := by
  obtain ⟨i0, hi0, hz, hsz, hby⟩ := info_rt
  have hkk : (n : Int) + 1 - (i : Int) = ((n + 1 - i : Nat) : Int) := by omega
  have hik : i + (n + 1 - i) = n + 1 := by omega
  have htl : (rtCs (L.take i)).length = i * 6 := by rw [rtCs_length, List.length_take, Nat.min_eq_left (by omega)]
  have hold : (Builtin.firstCells i0.size i (.slice (some ⟨g, 0, none⟩) i c)).run Tryz.prog w.drew = .ok (rtCs (L.take i)).toArray w.drew := by
    rw [hsz]
    refine run_firstCells_some w.drew 6 i ⟨g, 0, none⟩ i c (rtCs (L.take i)) htl (fun j v hj => ?_)
    rw [addr_add', Nat.zero_add]
    show w.cell? _ = _
    rw [heap_cell hg, ← Array.getElem?_toList]
    rw [← rtCs_take, List.getElem?_take] at hj
    split at hj
    · rw [← ht, List.getElem?_take] at hj
      split at hj
      · exact hj
      · cases hj
    · cases hj
  have h := Lib.run_append_grow_zeros w 22 3 ty 48 i0 _ .i64 .i64 Tryz.underlying22 Tryz.underlying3 hi0 hz (some ⟨g, 0, none⟩) i c (rtCs (L.take i)) hold (n + 1 - i) (by omega) (by omega) (by omega) (by omega) (by rw [hby]; omega) (by rw [hby, hik]; exact growslice_fits hc (by omega))
  rw [hik] at h
  rw [hkk]
  have hge := grownCap_ge w (n + 1) c 48
  have hcm : grownCap w (n + 1) c 48 ≤ maxLen := grownCap_le_maxLen w (n + 1) c 48 (by unfold maxLen; omega)
  refine ⟨_, _, _, h, ((Ext.refl w).drew).alloc _, heap_new w.drew _, ?_, hge, hcm, ?_⟩
  · simp only [Array.size_append, List.size_toArray, size_zeroCells, htl]
    show i * 6 + (n + 1 - i) * 6 + _ * 6 = _
    omega
  · simp only [Array.toList_append, List.append_assoc]
    exact List.take_left' htl

theorem grow_row {cur1 : List Value} {L : List Rt} {r : Rt} {i c n : Nat} (hn : n = L.length) (hi : i < n) (hc : n + 1 ≤ c) (hs : cur1.length = c * 6) (ht : cur1.take (i * 6) = rtCs (L.take i)) (cur2 cur3 : List Value)
    (h2 : cur2 = cur1.take (i * 6) ++ rtC r ++ cur1.drop (i * 6 + (rtC r).length)) (h3 : cur3 = cur2.take ((i + 1) * 6) ++ rtCs (L.drop i) ++ cur2.drop ((i + 1) * 6 + (rtCs (L.drop i)).length)) :
    cur2.length = c * 6 ∧ cur3.length = c * 6 ∧ cur3.take ((n + 1) * 6) = rtCs (L.take i ++ r :: L.drop i) := by
  have hl : (rtCs (L.drop i)).length = (n - i) * 6 := by rw [rtCs_length, List.length_drop, hn]
  have l2 : (rtCs (L.take i)).length = i * 6 := by rw [rtCs_length, List.length_take, Nat.min_eq_left (by omega)]
  have e2 : cur2.length = c * 6 := by
    rw [h2, ht]
    simp only [List.length_append, l2, rtC_length, List.length_drop, hs]
    omega
  have e3 : cur2.take ((i + 1) * 6) = rtCs (L.take i) ++ rtC r := by
    rw [h2, ht]
    refine List.take_left' ?_
    rw [List.length_append, l2, rtC_length]
    omega
  rw [e3] at h3
  refine ⟨e2, ?_, ?_⟩
  · rw [h3]
    simp only [List.length_append, hl, l2, rtC_length, List.length_drop, e2]
    omega
  · rw [h3, rtCs_append, rtCs_cons, ← List.append_assoc]
    refine List.take_left' ?_
    simp only [List.length_append, hl, l2, rtC_length]
    omega

set_option maxHeartbeats 1000000 in
/-- In new memory. -/
theorem insert_grow (g c : Nat) (cur : Array Value) (L : List Rt) (i : Nat) (r : Rt) (vb : Nat) (w : World) (hi : i < L.length) (hc0 : L.length ≤ c) (hc1 : c < L.length + 1) (hg : w.heap[g]? = some (.cells cur 48 (0, 0))) (ht : cur.toList.take (L.length * 6) = rtCs L)
    (hl : L.length ≤ 100000) (hb : w.heap[vb]? = some (.cells #[.int .i64 r.t, .int .u32 r.a, .int .i64 r.l, .int .i64 r.i, .int .u32 r.g, .int .i64 r.m] 48 (0, 0))) :
    Calls Tryz.prog 68 #[.slice (some ⟨g, 0, none⟩) L.length c, .int .i64 (i : Nat), .slice (some ⟨vb, 0, none⟩) 1 1] w (RowAns w (.slice (some ⟨g, 0, none⟩) L.length c) (L.take i ++ r :: L.drop i)) := by
  obtain ⟨n, hn⟩ : ∃ n, n = L.length := ⟨_, rfl⟩
  rw [← hn] at hi hc0 hc1 ht hl
  obtain ⟨W1, cur1, c1, hr, hE1, hg1, hs1, hn1, hm1, ht1⟩ := run_grow_rt w 22 g c cur L i n hn.symm hi hc1 hg ht hl
  have hgN : g < w.heap.size := heap_lt hg
  have hb1 := hE1.heap hb
  have hcl : (rtCs (L.drop i)).length = (n - i) * 6 := by rw [rtCs_length, List.length_drop, hn]
  have cp1 : ∀ ty dc, (Builtin.copy_ #[22, 22] ty #[.slice (some ⟨w.heap.size, i * 6, none⟩) (n + 1 - i) dc, .slice (some ⟨vb, 0, none⟩) 1 1]).run Tryz.prog W1 =
      .ok (goInt (Nat.min 1 (n + 1 - i))) (W1.setRow w.heap.size (cur1.toList.take (i * 6) ++ rtC r ++ cur1.toList.drop (i * 6 + (rtC r).length)).toArray) := fun ty dc =>
    run_copy_rt W1 ty w.heap.size (i * 6) (n + 1 - i) dc ⟨vb, 0, none⟩ 1 1 cur1 _ (rtC r) hg1 (by rw [rtC_length, show Nat.min 1 (n + 1 - i) = 1 by show min _ _ = _; omega])
      (fun j u hj => by
        have := Tri.Src.cells (rd_lit hb1)
        rcases this with h0 | ⟨b, off, h0, h2⟩
        · omega
        · cases h0
          rw [addr_add']; exact h2 j u (by rw [rtCs_one]; exact hj)) (by rw [rtC_length, hs1]; omega) (fun u hu => rtC_cell hu)
  obtain ⟨cur2, hcur2⟩ : ∃ cur2, cur2 = (cur1.toList.take (i * 6) ++ rtC r ++ cur1.toList.drop (i * 6 + (rtC r).length)) := ⟨_, rfl⟩
  rw [← hcur2] at cp1
  obtain ⟨W2, hW2⟩ : ∃ W2, W2 = W1.setRow w.heap.size cur2.toArray := ⟨_, rfl⟩
  rw [← hW2] at cp1
  have hg2 : W2.heap[w.heap.size]? = some (.cells cur2.toArray 48 (0, 0)) := by rw [hW2]; exact setRow_heap W1 _ cur1 _ _ _ hg1
  have hE2 : Ext w W2 := by
    rw [hW2]
    exact ExtS.ext (ExtS.then (hE1.toS [w.heap.size]) (extS_row W1 w.heap.size _) (by simp)) (by simp)
  have hgo : W2.heap[g]? = some (.cells cur 48 (0, 0)) := hE2.heap hg
  obtain ⟨cur3, hcur3⟩ : ∃ cur3, cur3 = cur2.take ((i + 1) * 6) ++ rtCs (L.drop i) ++ cur2.drop ((i + 1) * 6 + (rtCs (L.drop i)).length) := ⟨_, rfl⟩
  obtain ⟨f1, f2, f3⟩ := grow_row (r := r) hn hi hn1 (by simpa using hs1) ht1 cur2 cur3 hcur2 hcur3
  have hcell : ∀ (j : Nat) (u : Value), (rtCs (L.drop i))[j]? = some u → cur.toList[i * 6 + j]? = some u := fun j u hj => by
    rw [← rtCs_drop, List.getElem?_drop, ← ht, List.getElem?_take] at hj
    split at hj
    · exact hj
    · cases hj
  have cp2 : ∀ ty dc sc, (Builtin.copy_ #[22, 22] ty #[.slice (some ⟨w.heap.size, (i + 1) * 6, none⟩) (n - i) dc, .slice (some ⟨g, i * 6, none⟩) (n - i) sc]).run Tryz.prog W2.drew =
      .ok (goInt (Nat.min (n - i) (n - i))) (W2.drew.setRow w.heap.size (cur2.toArray.toList.take ((i + 1) * 6) ++ rtCs (L.drop i) ++ cur2.toArray.toList.drop ((i + 1) * 6 + (rtCs (L.drop i)).length)).toArray) := fun ty dc sc =>
    run_copy_rt W2.drew ty w.heap.size ((i + 1) * 6) (n - i) dc ⟨g, i * 6, none⟩ (n - i) sc cur2.toArray _ (rtCs (L.drop i)) hg2 (by rw [hcl, show Nat.min (n - i) (n - i) = n - i by show min _ _ = _; omega])
      (fun j u hj => by rw [addr_add']; show W2.cell? _ = _; rw [heap_cell hgo, ← Array.getElem?_toList]; exact hcell j u hj) (by rw [hcl, List.size_toArray, f1]; omega) (fun u hu => rtCs_cell hu)
  rw [List.toList_toArray, ← hcur3] at cp2
  obtain ⟨W3, hW3⟩ : ∃ W3, W3 = W2.drew.setRow w.heap.size cur3.toArray := ⟨_, rfl⟩
  rw [← hW3] at cp2
  have hg3 : W3.heap[w.heap.size]? = some (.cells cur3.toArray 48 (0, 0)) := by rw [hW3]; exact setRow_heap W2.drew _ cur2.toArray _ _ _ hg2
  have hx3 : ExtX w.heap.size W2.drew W3 := by rw [hW3]; exact ⟨rfl, rfl, rfl, by simp [World.setRow], fun k hk hx => setRow_other W2.drew _ k _ hx⟩
  have hE3 : Ext w W3 := ExtX.ext hE2.drew hx3 (Nat.le_refl _)
  have HF : Hid (cur3.length = c1 * 6 ∧ cur3.take ((n + 1) * 6) = rtCs (L.take i ++ r :: L.drop i)) := ⟨f2, f3⟩
  have HG : Hid _ := hg3
  have HM : Hid _ := hm1
  have HN : Hid _ := hn
  have HE : Hid (Ext w W3) := hE3
  have hc63 : c1 ≤ 9223372036854775807 := by unfold maxLen at hm1; omega
  rw [← hn]
  clear hg hb ht hn hE1 hg1 hs1 hm1 ht1 hb1 hcl hcur2 hW2 hg2 hE2 hgo hcur3 f1 f2 f3 hcell hW3 hg3 hE3 hgN
  have z2 : ¬ (c = i) := by omega
  have z3 : ¬ ((i : Int) = (n : Int)) := by omega
  have z4 : ((i : Int) + 1).toNat = i + 1 := by omega
  have z6 : (i : Int) ≤ (n : Int) := by omega
  have z7 : (c : Int) < (n : Int) + 1 := by omega
  have z8 : (i : Int) ≤ (n : Int) + 1 := by omega
  have z9 : IntKind.i64.wrap ((i : Int) + 1) = (i : Int) + 1 := by rw [IntKind.wrap_i64]; omega
  have z10 : (0 : Int) ≤ (i : Int) + 1 := by omega
  have z11 : i ≤ n := by omega
  have z12 : (i : Int) ≤ (c : Int) := by omega
  have y1 : ¬ (c1 = i) := by omega
  have y2 : ¬ (c1 = i + 1) := by omega
  go_enter Tryz.func68, Tryz.ntmps68
  go_wp2_with (at_builtin; refine wpList_want rfl (fun K hK => wp_app_is (.tmp 34) (.tmp 39) 3 rfl _ _ rfl rfl hr ?_); refine hK _ _ ?_; clear hK K hr)
  refine wp_region_eagerX w.heap.size [(0, false), (1, false), (2, false), (3, false), (4, false), (5, false), (6, false), (7, false), (8, true)] (by kernel_rfl) (by kernel_rfl) rfl (by kernel_rfl) (fun _ _ _ _ _ h => h) ?_
  iterate 8 (refine wpE_read (v := ?_) rfl (by rfl) ?_ ?_; rotate_left; (focus (intro w' hx; go_simp; first | done | with_reducible rfl)); simp only [Act.put, List.setIfInBounds_toArray, List.set_cons_zero, List.set_cons_succ])
  refine wpE_call rfl (by rfl) (fun K hK => ?_)
  refine wp_copy_is (.tmp 50) (.tmp 53) rfl _ _ rfl rfl (cp2 _ _ _) ?_
  refine hK _ _ hx3 ?_
  clear hK K cp1 cp2
  simp only [Act.put, List.setIfInBounds_toArray, List.set_cons_zero, List.set_cons_succ]
  refine wpE_done ?_
  go_wp2_with fail
  go_ret
  refine ⟨_, rfl, ?_, HE.out.toS _, fun x hx => .inr (by rw [mem_blks] at hx; cases hx; exact Nat.le_refl _)⟩
  have hlen : (L.take i ++ r :: L.drop i).length = n + 1 := by
    rw [HN.out] at *
    simp only [List.length_append, List.length_take, List.length_cons, List.length_drop]; omega
  have := ownR_of (w := W3) (B := 0) (g := w.heap.size) (c := c1) (cur := cur3.toArray) (L := L.take i ++ r :: L.drop i) (Nat.zero_le _) HG.out (by rw [hlen]; exact hn1) HM.out (by simpa using HF.out.1) (by rw [hlen]; exact HF.out.2)
  rw [hlen] at this
  exact this

theorem insert_any (v : Value) (L : List Rt) (i : Nat) (r : Rt) (vb : Nat) (w : World) (hO : OwnR w 0 v L) (hi : i ≤ L.length) (hl : L.length ≤ 100000) (hb : w.heap[vb]? = some (.cells #[.int .i64 r.t, .int .u32 r.a, .int .i64 r.l, .int .i64 r.i, .int .u32 r.g, .int .i64 r.m] 48 (0, 0))) (hne : vb ∉ blks v) :
    Calls Tryz.prog 68 #[v, .int .i64 (i : Nat), .slice (some ⟨vb, 0, none⟩) 1 1] w (RowAns w v (L.take i ++ r :: L.drop i)) := by
  rcases Nat.lt_or_ge i L.length with hlt | hge
  · obtain ⟨g, c, cur, rfl, -, hg, h1, h2, h3, h4⟩ := hO.block (by omega)
    have hn : vb ≠ g := fun e => hne (by simp [blks, Value.ownBlock, e])
    rcases Nat.lt_or_ge c (L.length + 1) with hc | hc
    · exact insert_grow g c cur L i r vb w hlt h1 hc hg h4 hl hb
    · exact insert_room g c cur L i r vb w hlt hc h2 hg h3 h4 hl hb hn
  · obtain rfl : i = L.length := by omega
    have := insert_end v L r vb w hO hl hb
    rw [List.take_length, List.drop_length]
    exact this
end Go.Proofs.YtkfhkhgiojpfoaaGreat.Rb

namespace Go.Proofs.YtkfhkhgiojpfoaaGreat

open Go.RowKit

section

variable {P : Program} {ops : Array Oper} {Q : Exit → Act → World → Prop} {E : Act → Prop}

def wpM (P : Program) (ops : Array Oper) (E : Act → Prop) : List Nat → Act → Prop
  | [], a => E a
  | i :: rest, a =>
    match ops[i]? with
    | none => False
    | some o => Region.wanted o (yielded ops a.tmps) = true ∧ ∃ v, (∀ w', (execOp a.eval o).run P w' = .ok (.value v) w') ∧ wpM P ops E rest (a.put o.dst v)

def setN : List Nat → Array Bool → Array Bool
  | [], l => l
  | i :: r, l => setN r (l.setIfInBounds i true)

def freeB (ops : Array Oper) : List Nat → Array Bool → Bool
  | [], _ => true
  | i :: r, l => Region.free .any ops l i && (Region.ready .any ops l).contains i && freeB ops r (l.setIfInBounds i true)

theorem wpAny_of_M (hs : Region.noSelect ops = true) (hQ : ∀ c a d v w, Q (.panic c) (Act.put a (some d) v) w → Q (.panic c) a w) (fuel : Nat) (w : World) :
    ∀ (ms : List Nat) (listed : Array Bool) (a : Act), freeB ops ms listed = true → wpM P ops (fun a' => wpAny P .any ops Q fuel (setN ms listed) a' w) ms a → wpAny P .any ops Q (ms.length + fuel) listed a w
  | [], listed, a, _, h => by simpa [wpM, setN] using h
  | i :: r, listed, a, he, h => by
    simp only [freeB, Bool.and_eq_true] at he
    unfold wpM at h
    split at h
    · exact h.elim
    · rename_i o ho
      obtain ⟨hw, v, hv, hn⟩ := h
      rw [show (i :: r).length + fuel = (r.length + fuel) + 1 by simp; omega]
      exact wpAny_take ho hs he.1.1 he.1.2 (fun c a w h => by cases hd : o.dst with | none => rw [hd] at h; exact h | some d => rw [hd] at h; exact hQ c a d _ w h) (.inl ⟨hw, hv⟩) (wpAny_of_M hs hQ fuel w r _ _ he.2 hn)

/-- **The region: first those of ms, then as wp_region_tailS, whatever relation holds what is read.** -/
theorem wp_region_tailMR (R : World → World → Prop) (rr : ∀ w, R w w) (rt : ∀ a b c, R a b → R b c → R a c) (ms : List Nat) (T : List Nat) (Ds : List (List Nat)) {id : Nat} {a : Act} {w : World} {l : List Oper} (sched : List (Nat × Bool)) (hm : P.follows .mixedOrders = true)
    (hs : Region.noSelect l.toArray = true) (hl : ms.length + (sched.length + T.length) = l.toArray.size)
    (he : (freeB l.toArray ms (Array.replicate l.toArray.size false) && eagerD l.toArray T sched Ds (setN ms (Array.replicate l.toArray.size false))) = true)
    (hQ : ∀ c a d v w, Q (.panic c) (Act.put a (some d) v) w → Q (.panic c) a w) (h : wpM P l.toArray (fun a' => wpE (R) P l.toArray Q (wpT P l.toArray Q T) sched a' w.drew) ms a) : (Code.region id l.toArray true).wp P Q a w := by
  simp only [Bool.and_eq_true] at he
  have key : ∀ a', wpE (R) P l.toArray Q (wpT P l.toArray Q T) sched a' w.drew → wpAny P .any l.toArray Q (sched.length + T.length) (setN ms (Array.replicate l.toArray.size false)) a' w.drew :=
    fun a' h => wpAny_of_L _ _ _ _ (wpAnyL_of_D rr rt hs hQ sched Ds _ a' w.drew he.2 h)
  have mono : ∀ (ms : List Nat) (a : Act) {E E' : Act → Prop}, (∀ a, E a → E' a) → wpM P l.toArray E ms a → wpM P l.toArray E' ms a := by
    intro ms
    induction ms with
    | nil => intro a E E' hE h; exact hE _ h
    | cons i r ih =>
      intro a E E' hE h
      unfold wpM at h ⊢
      split
      · rename_i ho; rw [ho] at h; exact h
      · rename_i o ho
        rw [ho] at h
        obtain ⟨hw, v, hv, hn⟩ := h
        exact ⟨hw, v, hv, ih _ hE hn⟩
  have := wpAny_of_M hs hQ (sched.length + T.length) w.drew ms _ a he.1 (mono ms a key h)
  rw [hl] at this
  exact wp_region_any hm this

theorem wpM_done {a : Act} (h : E a) : wpM P ops E [] a := h

end
end Go.Proofs.YtkfhkhgiojpfoaaGreat

namespace Go.Proofs.YtkfhkhgiojpfoaaGreat.Rb

set_option maxRecDepth 100000

open Go.RowKit Go.Proofs.YtkfhkhgiojpfoaaGreat

set_option linter.unusedVariables false

set_option linter.unusedSimpArgs false

/-- A new row of the ways L. -/
def RowNew (w : World) (L : List Rt) (e : Ending) (w' : World) : Prop := ∃ v', e = .returned v' ∧ OwnR w' w.heap.size v' L ∧ Ext w w'

theorem clone_any (v : Value) (L : List Rt) (w : World) (hO : OwnR w 0 v L) (hl : L.length ≤ 100000) :
    Calls Tryz.prog 85 #[v] w (RowNew w L) := by
  obtain ⟨p, c, rfl, h1, h2, hR⟩ := hO.slice
  cases p with
  | none =>
    have hL : L = [] := by
      rcases Tri.Src.cells hR with h0 | ⟨b, off, h0, _⟩
      · exact List.length_eq_zero_iff.1 h0
      · cases h0
    have hc : c = 0 := Tri.Src.nil hR rfl
    subst hL hc
    have en : ∀ w, (binOp .eql 22 (.slice none 0 0) (.slice none 0 0)).run Tryz.prog w = .ok (.bool true) w := fun w => Lib.run_eql_slice_nil w 22 48 none 0 0 0 0 Tryz.underlying22
    go_enter Tryz.func85, Tryz.ntmps85
    go_wp2_with fail
    go_ret
    exact ⟨_, rfl, OwnR.nil w _, Ext.refl w⟩
  | some ad =>
    have hA : Ext w (w.alloc (.cells #[] 48)) := (Ext.refl w).alloc _
    have HB : Hid _ := heap_new w (.cells #[] 48)
    have HR : Hid _ := hR.ext hA
    have HL : Hid _ := hl
    have en : ∀ w, (binOp .eql 22 (.slice (some ad) L.length c) (.slice none 0 0)).run Tryz.prog w = .ok (.bool false) w := fun w => Lib.run_eql_slice_nil w 22 48 (some ad) L.length c 0 0 Tryz.underlying22
    clear hO hR hl
    go_enter Tryz.func85, Tryz.ntmps85
    go_wp2_with (at_builtin; refine wpList_want rfl (fun K hK => wp_lit_rt (.tmp 5) (.tmp 6) rfl w.heap.size rfl HB.out w.heap.size (Nat.le_refl _) (some ad) L.length c L rfl HR.out (by have := HL.out; omega) ?_); intro v' w' ho' hx'; refine hK _ _ ?_; clear hK K)
    go_ret
    exact ⟨_, rfl, ho', hA.trans hx'⟩

theorem new_any (w : World) : Calls Tryz.prog 43 #[] w fun e w' => e = .returned (.pointer (some ⟨w.heap.size, 0, none⟩)) ∧ RibAt 98 w' w.heap.size [] [w.heap.size] ∧ Ext w w' := by
  go_enter Tryz.func43, Tryz.ntmps43
  go_wp2
  go_ret
  exact ⟨rfl, ⟨.slice none 0 0, rfl, heap_new w _, OwnR.nil _ _⟩, (Ext.refl w).alloc _⟩

theorem all_any (rb : Nat) (L : List Rt) (F : List Nat) (w : World) (h : RibAt 98 w rb L F) (hl : L.length ≤ 100000) :
    Calls Tryz.prog 65 #[.pointer (some ⟨rb, 0, none⟩)] w (RowNew w L) := by
  obtain ⟨v, -, hX, hO⟩ := h
  have v0 : w.cell? ⟨rb, 0, none⟩ = some v := by rw [heap_cell hX]; rfl
  have hv := hO.slice
  have c1 := clone_any v L w hO hl
  obtain ⟨p, c, rfl, -, -, -⟩ := hv
  clear hO hX
  go_enter Tryz.func65, Tryz.ntmps65
  go_wp2_with (go_at_call 85; refine c1.mono ?_; rintro e w1 ⟨v', rfl, ho1, hx1⟩)
  go_ret
  exact ⟨_, rfl, ho1, hx1⟩

def CopyAns (w : World) (L : List Rt) (e : Ending) (w' : World) : Prop := ∃ db F', e = .returned (.pointer (some ⟨db, 0, none⟩)) ∧ RibAt 98 w' db L F' ∧ Ext w w' ∧ ∀ x ∈ F', w.heap.size ≤ x

theorem copy_any (rb : Nat) (L : List Rt) (F : List Nat) (w : World) (h : RibAt 98 w rb L F) (hl : L.length ≤ 100000) :
    Calls Tryz.prog 48 #[.pointer (some ⟨rb, 0, none⟩)] w (CopyAns w L) := by
  have c1 := all_any rb L F w h hl
  clear h
  go_enter Tryz.func48, Tryz.ntmps48
  go_wp2_with (go_at_call 65; refine c1.mono ?_; rintro e w1 ⟨v', rfl, ho1, hx1⟩; obtain ⟨p', c', hv', -, -, -⟩ := ho1.slice; subst hv'; have HO1 : Hid (OwnR w1 w.heap.size (.slice p' L.length c') L) := ho1; clear ho1)
  go_ret
  refine ⟨w1.heap.size, w1.heap.size :: blks (.slice p' L.length c'), rfl, ⟨_, rfl, heap_new w1 _, (HO1.out.base (Nat.zero_le _)).ext ((Ext.refl w1).alloc _)⟩, hx1.trans ((Ext.refl w1).alloc _), fun x hx => ?_⟩
  rcases List.mem_cons.1 hx with rfl | hx
  · exact hx1.size
  · exact (HO1.out.lt x hx).1

theorem within_any (x t : Int) (w : World) : Calls Tryz.prog 86 #[.int .i64 x, .int .i64 t] w fun e w' => e = .returned (.bool (decide (0 ≤ x) && decide (x ≤ t))) ∧ Ext w w' := by
  by_cases h : 0 ≤ x
  · go_enter Tryz.func86, Tryz.ntmps86
    go_wp2
    go_ret
    exact ⟨by simp [h], Ext.refl w⟩
  · go_enter Tryz.func86, Tryz.ntmps86
    go_wp2
    go_ret
    exact ⟨by have h' : ¬ 0 ≤ x := by omega
              simp [h'], Ext.refl w⟩

theorem is_any' (r : Rt) (w : World) (a0 : 0 ≤ r.a) (a1 : r.a ≤ 4294967295) : Calls Tryz.prog 66 #[(.agg #[.int .i64 r.t, .int .u32 r.a, .int .i64 r.l, .int .i64 r.i, .int .u32 r.g, .int .i64 r.m])] w fun e w' => e = .returned (.bool (isR r)) ∧ Ext w w' := by
  have k1 := fun w => within_any r.t 3 w
  have k2 := fun w => is_any r.a r.l w a0 a1
  have k3 := fun w => within_any r.i 7 w
  have k4 := fun w => within_any r.m 255 w
  have hr : isR r = ((decide (0 ≤ r.t) && decide (r.t ≤ 3)) && (isV r.a r.l && ((decide (0 ≤ r.i) && decide (r.i ≤ 7)) && (decide (0 ≤ r.m) && decide (r.m ≤ 255))))) := rfl
  rw [hr]
  clear hr
  generalize (decide (0 ≤ r.t) && decide (r.t ≤ 3)) = b1 at *
  generalize isV r.a r.l = b2 at *
  generalize (decide (0 ≤ r.i) && decide (r.i ≤ 7)) = b3 at *
  generalize (decide (0 ≤ r.m) && decide (r.m ≤ 255)) = b4 at *
  have hA : Ext w (w.alloc (.cells #[.int .i64 r.t, .int .u32 r.a, .int .i64 r.l, .int .i64 r.i, .int .u32 r.g, .int .i64 r.m] 48)) := (Ext.refl w).alloc _
  obtain ⟨q0, q1, q2, q3, q4, q5⟩ := box_rtE (heap_new w (.cells #[.int .i64 r.t, .int .u32 r.a, .int .i64 r.l, .int .i64 r.i, .int .u32 r.g, .int .i64 r.m] 48))
  have p0 := q0 _ (Ext.refl _)
  cases b1
  · go_enter Tryz.func66, Tryz.ntmps66
    go_wp2_with (go_at_call 86; refine (k1 _).mono ?_; rintro e w1 ⟨rfl, hx1⟩)
    go_ret
    exact ⟨rfl, hA.trans hx1⟩
  · cases b2
    · go_enter Tryz.func66, Tryz.ntmps66
      go_wp2_with (first
        | (go_at_call 86; refine (k1 _).mono ?_; rintro e w1 ⟨rfl, hx1⟩; have p1 := q1 _ hx1; have p2 := q2 _ hx1)
        | (go_at_call 87; refine (k2 _).mono ?_; rintro e w2 ⟨rfl, hx2⟩))
      go_ret
      exact ⟨rfl, hA.trans (hx1.trans hx2)⟩
    · have tok1 : Hid True := trivial
      cases b3
      · go_enter Tryz.func66, Tryz.ntmps66
        go_wp2_with (first
          | (go_at_call 86; clear tok1; refine (k1 _).mono ?_; rintro e w1 ⟨rfl, hx1⟩; have p1 := q1 _ hx1; have p2 := q2 _ hx1)
          | (go_at_call 87; refine (k2 _).mono ?_; rintro e w2 ⟨rfl, hx2⟩; replace hx2 := hx1.trans hx2; have p3 := q3 _ hx2)
          | (go_at_call 86; refine (k3 _).mono ?_; rintro e w3 ⟨rfl, hx3⟩))
        go_ret
        exact ⟨rfl, hA.trans (hx2.trans hx3)⟩
      · have tok2 : Hid True := trivial
        go_enter Tryz.func66, Tryz.ntmps66
        go_wp2_with (first
          | (go_at_call 86; clear tok1; refine (k1 _).mono ?_; rintro e w1 ⟨rfl, hx1⟩; have p1 := q1 _ hx1; have p2 := q2 _ hx1)
          | (go_at_call 87; refine (k2 _).mono ?_; rintro e w2 ⟨rfl, hx2⟩; replace hx2 := hx1.trans hx2; have p3 := q3 _ hx2)
          | (go_at_call 86; clear tok2; refine (k3 _).mono ?_; rintro e w3 ⟨rfl, hx3⟩; replace hx3 := hx2.trans hx3; have p5 := q5 _ hx3)
          | (go_at_call 86; refine (k4 _).mono ?_; rintro e w4 ⟨rfl, hx4⟩))
        go_ret
        exact ⟨rfl, hA.trans (hx3.trans hx4)⟩

/-- The Rib has the ways L' now. -/
def RibAns (ty : TypeId) (w : World) (rb : Nat) (F : List Nat) (L' : List Rt) (w' : World) : Prop := ∃ F', RibAt ty w' rb L' F' ∧ ExtS F w w' ∧ ∀ x ∈ F', x ∈ F ∨ w.heap.size ≤ x

theorem RibAns.same {ty : TypeId} {w w' : World} {rb : Nat} {F : List Nat} {L : List Rt} (h : RibAt ty w rb L F) (hx : Ext w w') : RibAns ty w rb F L w' :=
  ⟨F, h.ext hx, hx.toS F, fun x hx => .inl hx⟩

theorem rtCs_set : ∀ {L : List Rt} {k : Nat} {x r : Rt}, L[k]? = some x → Same x r → rtCs (L.set k r) = (rtCs L).set (k * 6 + 5) (.int .i64 r.m)
  | [], k, x, r, h, hs => by simp at h
  | y :: L, 0, x, r, h, hs => by
    obtain rfl : y = x := by simpa using h
    obtain ⟨h1, h2, h3, h4, h5⟩ := hs
    rw [List.set_cons_zero, rtCs_cons, rtCs_cons]
    simp only [rtC, List.cons_append, List.nil_append, List.set_cons_succ, List.set_cons_zero, h1, h2, h3, h4, h5, Nat.zero_mul, Nat.zero_add]
  | y :: L, k + 1, x, r, h, hs => by
    have ih := rtCs_set (L := L) (k := k) (x := x) (r := r) (by simpa using h) hs
    rw [List.set_cons_succ, rtCs_cons, rtCs_cons, ih, List.set_append_right _ _ (by rw [rtC_length]; omega), rtC_length]
    congr 2
    omega

/-- The Metric of a way that is there. -/
theorem OwnR.metric {w : World} {g c : Nat} {L : List Rt} {k : Nat} {x r : Rt} (h : OwnR w 0 (.slice (some ⟨g, 0, none⟩) L.length c) L) (hk : L[k]? = some x) (hs : Same x r) :
    OwnR (w.setCell ⟨g, k * 6 + 5, none⟩ (.int .i64 r.m)) 0 (.slice (some ⟨g, 0, none⟩) L.length c) (L.set k r) := by
  have := (World.ownsRow.stored h (k * 6 + 5) (.int .i64 r.m)).1
  unfold OwnR
  rw [List.length_set, rtCs_set hk hs]
  exact this

set_option maxHeartbeats 1000000 in
theorem add_here (rb : Nat) (L : List Rt) (F : List Nat) (r : Rt) (w : World) (h : RibAt 98 w rb L F) (hg : Good L) (a0 : 0 ≤ r.a) (a1 : r.a ≤ 4294967295) (hi : isR r = true) (hh : hereB L r = true) :
    Calls Tryz.prog 49 #[.pointer (some ⟨rb, 0, none⟩), (.agg #[.int .i64 r.t, .int .u32 r.a, .int .i64 r.l, .int .i64 r.i, .int .u32 r.g, .int .i64 r.m])] w fun e w' => e = .returned (.int .i64 0) ∧ RibAns 98 w rb F (insR L r) w' := by
  have k1 := fun w => is_any' r w a0 a1
  rw [hi] at k1
  have k2 := fun w' (hx : Ext w w') => find_any rb L F r w' (h.ext hx) hg.srt (by have := hg.len; omega)
  rw [hh] at k2
  obtain ⟨x, hx, hsame⟩ := here_same hh
  have hins := ins_here hh
  have hlt := here_pos hh
  have hlen := hg.len
  generalize posR L r = k at *
  obtain ⟨v, rfl, hX, hO⟩ := h
  obtain ⟨g, c, cur, rfl, -, hgb, hc1, hc2, hc3, hc4⟩ := hO.block (by omega)
  have hA : Ext w (w.alloc (.cells #[.int .i64 r.t, .int .u32 r.a, .int .i64 r.l, .int .i64 r.i, .int .u32 r.g, .int .i64 r.m] 48)) := (Ext.refl w).alloc _
  have HQ : Hid _ := box_rtE (heap_new w (.cells #[.int .i64 r.t, .int .u32 r.a, .int .i64 r.l, .int .i64 r.i, .int .u32 r.g, .int .i64 r.m] 48))
  have HX : Hid _ := hX
  have HO : Hid (OwnR w 0 (.slice (some ⟨g, 0, none⟩) L.length c) L) := hO
  have HI : Hid _ := hins
  have HK : Hid (L[k]? = some x ∧ Same x r) := ⟨hx, hsame⟩
  have hcell : ∃ u, w.cell? ⟨g, k * 6 + 5, none⟩ = some u := by
    obtain ⟨p, c', hv, -, -, hR⟩ := hO.slice
    cases hv
    obtain ⟨b, off, hp, -, -, -, -, -, -, g5⟩ := hR.cell hx
    cases hp
    exact ⟨_, by simpa using g5⟩
  obtain ⟨u, hu⟩ := hcell
  have HU : Hid _ := hu
  have HG : Hid _ := hgb
  have hrg : rb ≠ g := by
    intro e
    rw [e, hgb] at hX
    cases hX
  obtain ⟨q0, q1, q2, q3, q4, q5⟩ := HQ.out
  have hW : Ext (w.alloc (.cells #[.int .i64 r.t, .int .u32 r.a, .int .i64 r.l, .int .i64 r.i, .int .u32 r.g, .int .i64 r.m] 48)) (w.alloc (.cells #[.int .i64 r.t, .int .u32 r.a, .int .i64 r.l, .int .i64 r.i, .int .u32 r.g, .int .i64 r.m] 48)) := Ext.refl _
  have p0 := q0 _ hW
  have p1 := q1 _ hW
  have p2 := q2 _ hW
  have p3 := q3 _ hW
  have p4 := q4 _ hW
  have p5 := q5 _ hW
  clear hX hO hins hx hsame hu hgb hc2 hc3 hc4 hg hi hh hW
  go_enter Tryz.func49, Tryz.ntmps49
  have hki : (k : Int) < (L.length : Int) := by omega
  go_wp2_with (first
    | (go_at_call 66; refine (k1 _).mono ?_; rintro e w1 ⟨rfl, hx1⟩; have r0 := q0 _ hx1; have r1 := q1 _ hx1; have r2 := q2 _ hx1; have r3 := q3 _ hx1; have r4 := q4 _ hx1; have r5 := q5 _ hx1)
    | (go_at_call 67; refine (k2 _ (hA.trans hx1)).mono ?_; rintro e w2 ⟨rfl, hx2⟩))
  have hE := (hA.trans (hx1.trans hx2)).drew
  have hE0 := (hx1.trans hx2).drew
  clear r0 r1 r2 r3 r4 r5 p0 p1 p2 p3 p4 p5 k1 k2
  refine wp_region_eagerX g [(0, false), (1, false), (2, false), (3, false), (4, false), (5, false), (6, false), (7, false), (8, false), (9, true)] (by kernel_rfl) (by kernel_rfl) rfl (by kernel_rfl) (fun _ _ _ _ _ h => h) ?_
  have hgs : w.heap.size ≠ g := by have := heap_lt HG.out; omega
  have x0 : ∀ w', ExtX g w2.drew w' → w'.cell? ⟨rb, 0, none⟩ = some (.slice (some ⟨g, 0, none⟩) L.length c) := fun w' h => by
    rw [heap_cell ((h.block rb (heap_lt (hE.heap HX.out)) hrg).trans (hE.heap HX.out))]; rfl
  have q : w2.drew.cell? ⟨w.heap.size, 5, none⟩ = some (.int .i64 r.m) := q5 _ hE0
  have x1 : ∀ w', ExtX g w2.drew w' → w'.cell? ⟨w.heap.size, 5, none⟩ = some (.int .i64 r.m) := fun w' h => by
    have hb := h.block w.heap.size (block_lt q) hgs
    rw [← q]
    unfold World.cell?
    rw [hb]
  have hu2 : w2.drew.cell? ⟨g, k * 6 + 5, none⟩ = some u := by rw [hE.below.cell (p := ⟨g, k * 6 + 5, none⟩) (block_lt HU.out)]; exact HU.out
  have hf2 : w2.drew.frozen? ⟨g, k * 6 + 5, none⟩ = false := heap_frozen (hE.heap HG.out)
  have HW : Hid (Ext w w2.drew) := hE
  clear hE hE0 hx1 hx2 q q0 q1 q2 q3 q4 q5
  generalize w2.drew = W at *
  iterate 9 (refine wpE_read (v := ?_) rfl (by rfl) ?_ ?_; rotate_left; (focus (intro w' hx; go_simp; first | done | with_reducible rfl)); simp only [Act.put, List.setIfInBounds_toArray, List.set_cons_zero, List.set_cons_succ])
  refine wpE_call rfl (by rfl) (fun K hK => ?_)
  go_simp
  refine hK _ _ ((ExtX.refl g W).setCell rfl _) ?_
  clear hK K
  refine wpE_done ?_
  go_wp2_with fail
  go_ret
  refine ⟨rfl, rb :: blks (.slice (some ⟨g, 0, none⟩) L.length c), ⟨.slice (some ⟨g, 0, none⟩) L.length c, rfl, ?_, ?_⟩, ?_, fun x hx => .inl hx⟩
  · exact (Below.heap_setCell _ _ _ _ (by exact hrg)).trans (HW.out.heap HX.out)
  · rw [HI.out]
    exact (HO.out.ext HW.out).metric HK.out.1 HK.out.2
  · refine ExtS.then (HW.out.toS _) (ExtS.setCell (ExtS.refl [g] W) (p := ⟨g, k * 6 + 5, none⟩) (.inl (by simp)) _) fun b hb => .inl ?_
    simp only [List.mem_singleton] at hb
    subst hb
    simp [blks, Value.ownBlock]
end Go.Proofs.YtkfhkhgiojpfoaaGreat.Rb

namespace Go.Proofs.YtkfhkhgiojpfoaaGreat.Rb

set_option maxRecDepth 100000

open Go.RowKit Go.Proofs.YtkfhkhgiojpfoaaGreat

set_option linter.unusedVariables false

set_option linter.unusedSimpArgs false

theorem own_ne {w : World} {B : Nat} {v : Value} {L : List Rt} {rb : Nat} {cur : Array Value} {ty : TypeId} (h : OwnR w B v L) (hX : w.heap[rb]? = some (.cells cur ty (0, 0))) (ht : ty ≠ 48) : rb ∉ blks v := fun hm => by
  obtain ⟨_, _, cur2, hc⟩ := Tri.owns_block h (mem_blks.1 hm)
  rw [hX] at hc
  cases hc
  exact ht rfl

/-- A Rib whose row is put anew. -/
theorem RibAns.put {ty : TypeId} {w W3 : World} {rb : Nat} {L L' : List Rt} {v v' : Value} (hw : w.heap[rb]? = some (.cells #[v] ty (0, 0))) (ht : ty ≠ 48) (hO : OwnR w 0 v L) (hS : ExtS (blks v) w W3) (ho : OwnR W3 0 v' L') (hb : ∀ x ∈ blks v', x ∈ blks v ∨ w.heap.size ≤ x) :
    RibAns ty w rb (rb :: blks v) L' (W3.setCell ⟨rb, 0, none⟩ v') := by
  have h1 := own_ne hO hw ht
  have h3 := hS.heap h1 hw
  have h4 := own_ne ho h3 ht
  have hx : ExtS [rb] W3 (W3.setCell ⟨rb, 0, none⟩ v') := ExtS.setCell (ExtS.refl [rb] W3) (p := ⟨rb, 0, none⟩) (.inl (by simp)) _
  refine ⟨rb :: blks v', ⟨v', rfl, ?_, ho.later hx fun g hg e => h4 (by simp only [List.mem_singleton] at e; rwa [e] at hg)⟩, ?_, fun x hx => ?_⟩
  · rw [heap_set h3]; rfl
  · refine ExtS.then (hS.mono fun b hb => by simp [hb]) hx fun b hb => .inl ?_
    simp only [List.mem_singleton] at hb
    simp [hb]
  · rcases List.mem_cons.1 hx with rfl | hx
    · exact .inl (by simp)
    · rcases hb x hx with h | h
      · exact .inl (by simp [h])
      · exact .inr h

theorem RibAns.from {ty : TypeId} {w w1 w' : World} {rb : Nat} {F : List Nat} {L' : List Rt} (hx : Ext w w1) (h : RibAns ty w1 rb F L' w') : RibAns ty w rb F L' w' := by
  obtain ⟨F', h1, h2, h3⟩ := h
  exact ⟨F', h1, ExtS.then (hx.toS F) h2 fun b hb => .inl hb, fun x hx' => (h3 x hx').imp_right fun h => Nat.le_trans hx.size h⟩

set_option maxHeartbeats 1000000 in
theorem add_new (rb : Nat) (L : List Rt) (F : List Nat) (r : Rt) (w : World) (h : RibAt 98 w rb L F) (hg : Good L) (a0 : 0 ≤ r.a) (a1 : r.a ≤ 4294967295) (hi : isR r = true) (hh : hereB L r = false) (hr : L.length < 256) :
    Calls Tryz.prog 49 #[.pointer (some ⟨rb, 0, none⟩), (.agg #[.int .i64 r.t, .int .u32 r.a, .int .i64 r.l, .int .i64 r.i, .int .u32 r.g, .int .i64 r.m])] w fun e w' => e = .returned (.int .i64 0) ∧ RibAns 98 w rb F (insR L r) w' := by
  have k1 := fun w => is_any' r w a0 a1
  rw [hi] at k1
  have k2 := fun w' (hx : Ext w w') => find_any rb L F r w' (h.ext hx) hg.srt (by have := hg.len; omega)
  rw [hh] at k2
  have hins := ins_new hh
  have hle : posR L r ≤ L.length := twN_le _ _
  generalize posR L r = k at *
  obtain ⟨v, rfl, hX, hO⟩ := h
  obtain ⟨p, c, rfl, hc1, -, -⟩ := hO.slice
  have hA : Ext w (w.alloc (.cells #[.int .i64 r.t, .int .u32 r.a, .int .i64 r.l, .int .i64 r.i, .int .u32 r.g, .int .i64 r.m] 48)) := (Ext.refl w).alloc _
  have HQ : Hid _ := box_rtE (heap_new w (.cells #[.int .i64 r.t, .int .u32 r.a, .int .i64 r.l, .int .i64 r.i, .int .u32 r.g, .int .i64 r.m] 48))
  have HX : Hid _ := hX
  have HO : Hid (OwnR w 0 (.slice p L.length c) L) := hO
  have HI : Hid _ := hins
  have hne := own_ne hO hX (by decide)
  have HV : Hid (∀ g ∈ blks (.slice p L.length c), 0 ≤ g ∧ g < w.heap.size) := hO.lt
  obtain ⟨q0, q1, q2, q3, q4, q5⟩ := HQ.out
  have hW : Ext (w.alloc (.cells #[.int .i64 r.t, .int .u32 r.a, .int .i64 r.l, .int .i64 r.i, .int .u32 r.g, .int .i64 r.m] 48)) (w.alloc (.cells #[.int .i64 r.t, .int .u32 r.a, .int .i64 r.l, .int .i64 r.i, .int .u32 r.g, .int .i64 r.m] 48)) := Ext.refl _
  have p0 := q0 _ hW
  have p1 := q1 _ hW
  have p2 := q2 _ hW
  have p3 := q3 _ hW
  have p4 := q4 _ hW
  have p5 := q5 _ hW
  clear hX hO hins hg hi hh hW
  go_enter Tryz.func49, Tryz.ntmps49
  have hrz : (L.length : Int) < 256 := by omega
  go_wp2_with (first
    | (go_at_call 66; refine (k1 _).mono ?_; rintro e w1 ⟨rfl, hx1⟩; have r0 := q0 _ hx1; have r1 := q1 _ hx1; have r2 := q2 _ hx1; have r3 := q3 _ hx1; have r4 := q4 _ hx1; have r5 := q5 _ hx1)
    | (go_at_call 67; refine (k2 _ (hA.trans hx1)).mono ?_; rintro e w2 ⟨rfl, hx2⟩; have hE2 := hA.trans (hx1.trans hx2); have v2 : w2.cell? ⟨rb, 0, none⟩ = some (.slice p L.length c) := (by rw [heap_cell (hE2.heap HX.out)]; rfl)))
  have hE := hE2.drew
  have hE0 := (hx1.trans hx2).drew
  clear r0 r1 r2 r3 r4 r5 p0 p1 p2 p3 p4 p5 k1 k2 v2
  refine wp_region_tailS (blks (.slice p L.length c)) [11] [[0, 9, 10, 11], [1, 2, 3, 4, 8, 9, 10, 11], [2, 3, 4, 8, 9, 10, 11], [3, 4, 8, 9, 10, 11], [4, 8, 9, 10, 11], [5, 8, 9, 10, 11], [6, 7, 8, 9, 10, 11], [], [], [9, 10, 11], [10, 11]] [(0, false), (1, false), (2, false), (3, false), (4, false), (5, false), (6, false), (7, true), (8, true), (9, false), (10, false)] (by kernel_rfl) (by kernel_rfl) rfl (by kernel_rfl) (fun _ _ _ _ _ h => h) ?_
  have hbs : w.heap.size ∉ blks (.slice p L.length c) := fun hm => by have := (HV.out _ hm).2; omega
  have x0 : ∀ w', ExtS (blks (.slice p L.length c)) w2.drew w' → w'.cell? ⟨rb, 0, none⟩ = some (.slice p L.length c) := fun w' h => by
    rw [heap_cell (h.heap hne (hE.heap HX.out))]; rfl
  have bx : w2.drew.heap[w.heap.size]? = some (.cells #[.int .i64 r.t, .int .u32 r.a, .int .i64 r.l, .int .i64 r.i, .int .u32 r.g, .int .i64 r.m] 48 (0, 0)) := hE0.heap (heap_new w _)
  have hb : ∀ k w', ExtS (blks (.slice p L.length c)) w2.drew w' → w'.cell? ⟨w.heap.size, k, none⟩ = #[.int .i64 r.t, .int .u32 r.a, .int .i64 r.l, .int .i64 r.i, .int .u32 r.g, .int .i64 r.m][k]? := fun k w' h => heap_cell (h.heap hbs bx)
  have t0 : ∀ w', ExtS (blks (.slice p L.length c)) w2.drew w' → w'.cell? ⟨w.heap.size, 0, none⟩ = some (.int .i64 r.t) := hb 0
  have t1 : ∀ w', ExtS (blks (.slice p L.length c)) w2.drew w' → w'.cell? ⟨w.heap.size, 1, none⟩ = some (.int .u32 r.a) := hb 1
  have t2 : ∀ w', ExtS (blks (.slice p L.length c)) w2.drew w' → w'.cell? ⟨w.heap.size, 2, none⟩ = some (.int .i64 r.l) := hb 2
  have t3 : ∀ w', ExtS (blks (.slice p L.length c)) w2.drew w' → w'.cell? ⟨w.heap.size, 3, none⟩ = some (.int .i64 r.i) := hb 3
  have t4 : ∀ w', ExtS (blks (.slice p L.length c)) w2.drew w' → w'.cell? ⟨w.heap.size, 4, none⟩ = some (.int .u32 r.g) := hb 4
  have t5 : ∀ w', ExtS (blks (.slice p L.length c)) w2.drew w' → w'.cell? ⟨w.heap.size, 5, none⟩ = some (.int .i64 r.m) := hb 5
  have HW : Hid (Ext w w2.drew) := hE
  clear hE hE0 hE2 hx1 hx2 q0 q1 q2 q3 q4 q5 hb bx
  generalize w2.drew = W at *
  iterate 7 (refine wpE_read (v := ?_) rfl (by rfl) ?_ ?_; rotate_left; (focus (intro w' hx; go_simp; first | done | with_reducible rfl)); simp only [Act.put, List.setIfInBounds_toArray, List.set_cons_zero, List.set_cons_succ])
  clear t0 t1 t2 t3 t4 t5 x0
  refine wpE_call rfl (by rfl) (fun K hK => ?_)
  go_simp
  refine hK _ _ (((Ext.refl W).alloc _).toS _) ?_
  clear hK K
  have hA3 : Ext w (W.alloc (.cells #[.int .i64 r.t, .int .u32 r.a, .int .i64 r.l, .int .i64 r.i, .int .u32 r.g, .int .i64 r.m] 48)) := HW.out.trans ((Ext.refl W).alloc _)
  have ci := insert_any (.slice p L.length c) L k r W.heap.size (W.alloc (.cells #[.int .i64 r.t, .int .u32 r.a, .int .i64 r.l, .int .i64 r.i, .int .u32 r.g, .int .i64 r.m] 48)) (HO.out.ext hA3) hle (by omega) (heap_new W _) (fun hm => by have := (HV.out _ hm).2; have := HW.out.size; omega)
  have HA3 : Hid (Ext w (W.alloc (.cells #[.int .i64 r.t, .int .u32 r.a, .int .i64 r.l, .int .i64 r.i, .int .u32 r.g, .int .i64 r.m] 48))) := hA3
  clear hA3
  refine wpE_call rfl (by rfl) (fun K hK => ?_)
  go_simp
  go_at_call 68
  refine ci.mono ?_
  rintro e W3 ⟨v', rfl, ho3, hS3, hb3⟩
  refine hK _ _ hS3 ?_
  clear hK K ci
  obtain ⟨p', c', hv', -, -, -⟩ := ho3.slice
  subst hv'
  have hX3 : W3.heap[rb]? = some (.cells #[.slice p L.length c] 98 (0, 0)) := hS3.heap hne (HA3.out.heap HX.out)
  have HX3 : Hid _ := hX3
  have y0 : W3.cell? ⟨rb, 0, none⟩ = some (.slice p L.length c) := by rw [heap_cell hX3]; rfl
  have y1 : W3.frozen? ⟨rb, 0, none⟩ = false := heap_frozen hX3
  have HO3 : Hid (OwnR W3 0 (.slice p' (List.take k L ++ r :: List.drop k L).length c') (List.take k L ++ r :: List.drop k L)) := ho3
  have HS3 : Hid (ExtS (blks (.slice p L.length c)) (W.alloc (.cells #[.int .i64 r.t, .int .u32 r.a, .int .i64 r.l, .int .i64 r.i, .int .u32 r.g, .int .i64 r.m] 48)) W3) := hS3
  have HB3 : Hid _ := hb3
  clear hX3 ho3 hS3 hb3
  generalize (List.take k L ++ r :: List.drop k L).length = n' at *
  iterate 2 (refine wpE_read (v := ?_) rfl (by rfl) ?_ ?_; rotate_left; (focus (intro w' hx; go_simp; first | done | with_reducible rfl)); simp only [Act.put, List.setIfInBounds_toArray, List.set_cons_zero, List.set_cons_succ])
  refine wpT_step rfl (by rfl) (fun K hK => ?_)
  go_simp
  refine hK _ _ ?_
  clear hK K
  refine wpT_done ?_
  go_wp2_with fail
  go_ret
  refine ⟨rfl, RibAns.from HA3.out ?_⟩
  rw [HI.out]
  exact RibAns.put (HA3.out.heap HX.out) (by decide) (HO.out.ext HA3.out) HS3.out HO3.out HB3.out

theorem add_bad (rb : Nat) (r : Rt) (w : World) (a0 : 0 ≤ r.a) (a1 : r.a ≤ 4294967295) (hi : isR r = false) :
    Calls Tryz.prog 49 #[.pointer (some ⟨rb, 0, none⟩), (.agg #[.int .i64 r.t, .int .u32 r.a, .int .i64 r.l, .int .i64 r.i, .int .u32 r.g, .int .i64 r.m])] w fun e w' => e = .returned (.int .i64 1) ∧ Ext w w' := by
  have k1 := fun w => is_any' r w a0 a1
  rw [hi] at k1
  have hA : Ext w (w.alloc (.cells #[.int .i64 r.t, .int .u32 r.a, .int .i64 r.l, .int .i64 r.i, .int .u32 r.g, .int .i64 r.m] 48)) := (Ext.refl w).alloc _
  obtain ⟨q0, q1, q2, q3, q4, q5⟩ := box_rtE (heap_new w (.cells #[.int .i64 r.t, .int .u32 r.a, .int .i64 r.l, .int .i64 r.i, .int .u32 r.g, .int .i64 r.m] 48))
  have hW : Ext (w.alloc (.cells #[.int .i64 r.t, .int .u32 r.a, .int .i64 r.l, .int .i64 r.i, .int .u32 r.g, .int .i64 r.m] 48)) (w.alloc (.cells #[.int .i64 r.t, .int .u32 r.a, .int .i64 r.l, .int .i64 r.i, .int .u32 r.g, .int .i64 r.m] 48)) := Ext.refl _
  have p0 := q0 _ hW
  have p1 := q1 _ hW
  have p2 := q2 _ hW
  have p3 := q3 _ hW
  have p4 := q4 _ hW
  have p5 := q5 _ hW
  clear hi hW
  go_enter Tryz.func49, Tryz.ntmps49
  go_wp2_with (go_at_call 66; refine (k1 _).mono ?_; rintro e w1 ⟨rfl, hx1⟩)
  go_ret
  exact ⟨rfl, hA.trans hx1⟩

theorem add_full (rb : Nat) (L : List Rt) (F : List Nat) (r : Rt) (w : World) (h : RibAt 98 w rb L F) (hg : Good L) (a0 : 0 ≤ r.a) (a1 : r.a ≤ 4294967295) (hi : isR r = true) (hh : hereB L r = false) (hr : 256 ≤ L.length) :
    Calls Tryz.prog 49 #[.pointer (some ⟨rb, 0, none⟩), (.agg #[.int .i64 r.t, .int .u32 r.a, .int .i64 r.l, .int .i64 r.i, .int .u32 r.g, .int .i64 r.m])] w fun e w' => e = .returned (.int .i64 6) ∧ Ext w w' := by
  have k1 := fun w => is_any' r w a0 a1
  rw [hi] at k1
  have k2 := fun w' (hx : Ext w w') => find_any rb L F r w' (h.ext hx) hg.srt (by have := hg.len; omega)
  rw [hh] at k2
  generalize posR L r = k at *
  obtain ⟨v, rfl, hX, hO⟩ := h
  obtain ⟨p, c, rfl, hc1, -, -⟩ := hO.slice
  have hA : Ext w (w.alloc (.cells #[.int .i64 r.t, .int .u32 r.a, .int .i64 r.l, .int .i64 r.i, .int .u32 r.g, .int .i64 r.m] 48)) := (Ext.refl w).alloc _
  have HX : Hid _ := hX
  obtain ⟨q0, q1, q2, q3, q4, q5⟩ := box_rtE (heap_new w (.cells #[.int .i64 r.t, .int .u32 r.a, .int .i64 r.l, .int .i64 r.i, .int .u32 r.g, .int .i64 r.m] 48))
  have hW : Ext (w.alloc (.cells #[.int .i64 r.t, .int .u32 r.a, .int .i64 r.l, .int .i64 r.i, .int .u32 r.g, .int .i64 r.m] 48)) (w.alloc (.cells #[.int .i64 r.t, .int .u32 r.a, .int .i64 r.l, .int .i64 r.i, .int .u32 r.g, .int .i64 r.m] 48)) := Ext.refl _
  have p0 := q0 _ hW
  have p1 := q1 _ hW
  have p2 := q2 _ hW
  have p3 := q3 _ hW
  have p4 := q4 _ hW
  have p5 := q5 _ hW
  have hrz : (256 : Int) ≤ (L.length : Int) := by omega
  clear hX hO hg hi hh hW
  go_enter Tryz.func49, Tryz.ntmps49
  go_wp2_with (first
    | (go_at_call 66; refine (k1 _).mono ?_; rintro e w1 ⟨rfl, hx1⟩; have r0 := q0 _ hx1; have r1 := q1 _ hx1; have r2 := q2 _ hx1; have r3 := q3 _ hx1; have r4 := q4 _ hx1; have r5 := q5 _ hx1)
    | (go_at_call 67; refine (k2 _ (hA.trans hx1)).mono ?_; rintro e w2 ⟨rfl, hx2⟩; have hE2 := hA.trans (hx1.trans hx2); have v2 : w2.cell? ⟨rb, 0, none⟩ = some (.slice p L.length c) := (by rw [heap_cell (hE2.heap HX.out)]; rfl)))
  go_ret
  exact ⟨rfl, hE2⟩

theorem add_any (rb : Nat) (L : List Rt) (F : List Nat) (r : Rt) (w : World) (h : RibAt 98 w rb L F) (hg : Good L) (hr : RtOk r) :
    Calls Tryz.prog 49 #[.pointer (some ⟨rb, 0, none⟩), (.agg #[.int .i64 r.t, .int .u32 r.a, .int .i64 r.l, .int .i64 r.i, .int .u32 r.g, .int .i64 r.m])] w fun e w' => e = .returned (.int .i64 (addE L r)) ∧ RibAns 98 w rb F (addS L r) w' := by
  obtain ⟨-, -, a0, a1, -⟩ := hr
  unfold addS addE
  cases hi : isR r with
  | false =>
    simp only [Bool.false_eq_true, if_false]
    exact (add_bad rb r w a0 a1 hi).mono fun e w' ⟨he, hx⟩ => ⟨he, RibAns.same h hx⟩
  | true =>
    simp only [if_true]
    cases hh : hereB L r with
    | true =>
      simp only [if_true]
      exact add_here rb L F r w h hg a0 a1 hi hh
    | false =>
      simp only [Bool.false_eq_true, if_false]
      by_cases hf : 256 ≤ L.length
      · simp only [hf, if_true]
        exact (add_full rb L F r w h hg a0 a1 hi hh hf).mono fun e w' ⟨he, hx⟩ => ⟨he, RibAns.same h hx⟩
      · simp only [hf, if_false, if_true]
        exact add_new rb L F r w h hg a0 a1 hi hh (by omega)
end Go.Proofs.YtkfhkhgiojpfoaaGreat.Rb
