/- Texts joined by a program: RefO, FibK. -/
import Derived.Maps.AppendAt
import Derived.WideKeyEntry
import Derived.Test.YtkfhkhgiojpfoaaGreatJ3
import Derived.Test.YtkfhkhgiojpfoaaGreatJ10
import Derived.Test.YtkfhkhgiojpfoaaGreatJ15
namespace Go.Proofs.YtkfhkhgiojpfoaaGreat.Dr

set_option maxRecDepth 100000

open Go.RowKit Go.Proofs.YtkfhkhgiojpfoaaGreat Go.Proofs.YtkfhkhgiojpfoaaGreat.Tri

set_option linter.unusedVariables false

/-- A row of numbers of four bytes, of the call's own. -/
def OwnU (w : World) (B : Nat) (v : Value) (xs : List Nat) : Prop := w.ownsRow B 23 1 v xs.length (xs.map fun y : Nat => Value.int .u32 (y : Int))

theorem OwnU.cell {w : World} {B : Nat} {v : Value} {L : List Nat} (h : OwnU w B v L) {i : Nat} {p : Nat} (hi : L[i]? = some p) :
    ∃ g c, v = .slice (some ⟨g, 0, none⟩) L.length c ∧ w.cell? ⟨g, i, none⟩ = some (.int .u32 p) := by
  obtain ⟨hl, h⟩ := h
  have hil := (List.getElem?_eq_some_iff.1 hi).1
  rcases h with ⟨_, h0⟩ | ⟨g, cap, cur, rfl, _, hg, _, _, _, hc⟩
  · omega
  · have h1 : (L.map fun y : Nat => Value.int .u32 (y : Int))[i]? = some (.int .u32 p) := by simp [hi]
    refine ⟨g, cap, rfl, ?_⟩
    rw [heap_cell hg, ← Array.getElem?_toList]
    rw [← hc, List.getElem?_take, if_pos (by omega)] at h1
    exact h1

theorem info_u32 : ∃ i, Tryz.prog.info? 23 = some i ∧ i.zero = some (.int .u32 0) ∧ i.size = 1 ∧ i.bytes = 4 := ⟨_, rfl, by kernel_rfl, by kernel_rfl, by kernel_rfl⟩

/-- append(row, n). -/
theorem append_u32 {w : World} {ops : Array Oper} {rest : List Oper} {o : Oper} {a : Act} {Q : Exit → Act → World → Prop} (hgd : o.guard = none) (s x : Operand)
    (ho : o.op = .call { callee := .builtin .append, args := #[s, x], argTypes := #[182, 182] })
    (B : Nat) (v : Value) (L : List Nat) (hs : a.eval s = v) (hown : OwnU w B v L)
    (g c : Nat) (y : Nat) (hx : a.eval x = .slice (some ⟨g, 0, none⟩) 1 c) (hu : w.heap[g]? = some (.cells #[.int .u32 y] 23 (0, 0)))
    (hsm : L.length ≤ 10000000) (hbase : B ≤ w.heap.size)
    (h : ∀ v' w', OwnU w' B v' (L ++ [y]) → w.grownBy w' v.ownBlock → (v'.ownBlock = v.ownBlock ∨ v'.ownBlock = some w.heap.size) → wpList Tryz.prog ops Q rest (a.put o.dst v') w') : wpList Tryz.prog ops Q (o :: rest) a w := by
  obtain ⟨i, hi, hz, hsz, hby⟩ := info_u32
  refine wpList_append_own_at w hgd s x 182 ho B 23 i _ 1 4 Tryz.underlying182 hi hz hsz hby rfl (by omega) v L.length _ hs hown ⟨g, 0, none⟩ 1 c [.int .u32 y] hx rfl ?_ ?_ (by unfold maxLen; omega) (by omega) hbase ?_
  · intro j u hj
    match j, hj with
    | 0, hj =>
      obtain rfl : Value.int .u32 y = u := by simpa using hj
      show w.cell? ((⟨g, 0, none⟩ : Addr).add 0) = _
      rw [show (⟨g, 0, none⟩ : Addr).add 0 = ⟨g, 0, none⟩ from rfl, heap_cell hu]; rfl
    | j + 1, hj => simp at hj
  · intro u hu'
    rw [List.mem_singleton.1 hu']; rfl
  · intro v' w' h2 h3 _ h5
    refine h v' w' ?_ h3 h5
    unfold OwnU
    rw [List.map_append, List.length_append]
    exact h2

set_option maxHeartbeats 1000000 in
theorem has_any (B : Nat) (v : Value) (xs : List Nat) (y : Nat) (w : World) (h : OwnU w B v xs) (hl : xs.length ≤ 1000000) :
    Calls Tryz.prog 129 #[v, .int .u32 y] w fun e w' => e = .returned (.bool (decide (y ∈ xs))) ∧ w' = w := by
  obtain ⟨a, cp, rfl, -, -, -⟩ := owns_slice h
  have H : Hid (OwnU w B (.slice a xs.length cp) xs) := h
  clear h
  obtain ⟨r, hr⟩ : ∃ r, r = decide (y ∈ xs) := ⟨_, rfl⟩
  rw [← hr]
  have HR : Hid (r = decide (y ∈ xs)) := hr
  clear hr
  go_enter Tryz.func129, Tryz.ntmps129
  go_wp2_with fail
  go_loopw [5] (fun i wr => ∃ k : Nat, k ≤ xs.length ∧ i = .int .i64 k ∧ wr = w ∧ Hid (∀ j, j < k → xs[j]? ≠ some y)) (fun i _ => xs.length - (intOf i).toNat)
  case atStart => exact ⟨0, Nat.zero_le _, rfl, rfl, fun j hj => absurd hj (Nat.not_lt_zero _)⟩
  case round =>
    obtain ⟨k, hk, rfl, rfl, HK⟩ := hrel
    by_cases hlt : k < xs.length
    · obtain ⟨x, hx⟩ : ∃ x, xs[k]? = some x := ⟨_, List.getElem?_eq_getElem hlt⟩
      obtain ⟨g, c, e, hc⟩ := H.out.cell hx
      cases e
      by_cases e : x = y
      · subst e
        go_wp2_with fail
        go_ret
        exact ⟨by rw [HR.out, decide_eq_true (List.mem_of_getElem? hx)]; rfl, rfl⟩
      · have e' : ((x : Int) == (y : Int)) = false := by rw [beq_eq_false_iff_ne]; omega
        go_wp2_with fail
        refine ⟨⟨k + 1, by omega, by simp, trivial, fun j hj => ?_⟩, by simp only [intOf]; omega⟩
        by_cases ej : j = k
        · subst ej; rw [hx]; simpa using e
        · exact HK.out j (by omega)
    · obtain rfl : k = xs.length := by omega
      go_wp2_with fail
      go_ret
      refine ⟨?_, rfl⟩
      rw [HR.out, decide_eq_false]
      · rfl
      · intro hm
        obtain ⟨j, hj, e⟩ := List.getElem_of_mem hm
        exact HK.out j hj (by rw [List.getElem?_eq_getElem hj, e])

theorem own_next {K : List PX} {k A N : Nat} (hk : K[k]? = some ((A : Int), (N : Int))) (hp : Vp ((A : Int), (N : Int))) : ownN (K.take (k + 1)) = ownN (K.take k) + moreN (K.take k) A (lvN N) := by
  have e : K.take (k + 1) = K.take k ++ [((A : Int), (N : Int))] := by
    rw [List.take_add_one, hk]; rfl
  rw [e, own_perm (List.perm_append_singleton _ _)]
  have := own_cons _ hp (K.take k)
  simpa using this

theorem dom_next {K : List PX} {k A N : Nat} (hk : K[k]? = some ((A : Int), (N : Int))) (j n : Nat) : domB (K.take (k + 1)) j n = true ↔ domB (K.take k) j n = true ∨ (loN j ≤ N ∧ A / 2 ^ beN (j - 1) = n) := by
  have e : K.take (k + 1) = K.take k ++ [((A : Int), (N : Int))] := by
    rw [List.take_add_one, hk]; rfl
  rw [e, dom_app]
  simp

/-- Where Owned stands: what its rows hold. -/
def Rows2 (K : List PX) (k : Nat) (hs bs : List Nat) : Prop := (∀ y, y ∈ hs ↔ domB (K.take k) 1 y = true) ∧ (∀ y, y ∈ bs ↔ domB (K.take k) 2 y = true) ∧ hs.length ≤ k ∧ bs.length ≤ k

/-- The two rows in memory. -/
def Mem2 (w wr : World) (vh vb : Value) (hs bs : List Nat) : Prop := OwnU wr w.heap.size vh hs ∧ OwnU wr w.heap.size vb bs ∧ (∀ g, vh.ownBlock = some g → vb.ownBlock ≠ some g)

theorem Mem2.put1 {w wr w' : World} {vh vb v' : Value} {hs bs : List Nat} {y : Nat} (h : Mem2 w wr vh vb hs bs) (h1 : OwnU w' w.heap.size v' (hs ++ [y])) (h2 : wr.grownBy w' vh.ownBlock) (h3 : v'.ownBlock = vh.ownBlock ∨ v'.ownBlock = some wr.heap.size) : Mem2 w w' v' vb (hs ++ [y]) bs := by
  obtain ⟨a, b, c⟩ := h
  have far : ∀ g, vb.ownBlock = some g → some g ≠ vh.ownBlock := fun g hg e => c g e.symm hg
  refine ⟨h1, ?_, fun g hg hb => ?_⟩
  · obtain ⟨hl, hh⟩ := b
    refine ⟨hl, ?_⟩
    rcases hh with hh | ⟨g, cap, cur, rfl, hB, hg, r⟩
    · exact .inl hh
    · exact .inr ⟨g, cap, cur, rfl, hB, (h2.block g (heap_lt hg) (far g rfl)).trans hg, r⟩
  · rcases h3 with h3 | h3
    · exact c g (h3 ▸ hg) hb
    · rw [h3] at hg
      cases hg
      have := (owns_block b hb).2.1
      omega

theorem Mem2.put2 {w wr w' : World} {vh vb v' : Value} {hs bs : List Nat} {y : Nat} (h : Mem2 w wr vh vb hs bs) (h1 : OwnU w' w.heap.size v' (bs ++ [y])) (h2 : wr.grownBy w' vb.ownBlock) (h3 : v'.ownBlock = vb.ownBlock ∨ v'.ownBlock = some wr.heap.size) : Mem2 w w' vh v' hs (bs ++ [y]) := by
  obtain ⟨a, b, c⟩ := h
  have hsw : Mem2 w wr vb vh bs hs := ⟨b, a, fun g hg hh => c g hh hg⟩
  obtain ⟨a', b', c'⟩ := hsw.put1 h1 h2 h3
  exact ⟨b', a', fun g hg hh => c' g hh hg⟩

theorem Mem2.ext {w wr w' : World} {vh vb : Value} {hs bs : List Nat} (h : Mem2 w wr vh vb hs bs) (hx : Ext wr w') : Mem2 w w' vh vb hs bs := ⟨owns_later h.1 hx, owns_later h.2.1 hx, h.2.2⟩

theorem cellK {w w' : World} (hx : Ext w w') {b j : Nat} {u : Value} (hb : b < w.heap.size) (h : w.cell? ⟨b, j, none⟩ = some u) : w'.cell? ⟨b, j, none⟩ = some u := by
  rw [hx.cell (p := ⟨b, j, none⟩) hb]; exact h

set_option maxHeartbeats 4000000 in
theorem owned_any (B : Nat) (vp : Value) (K : List PX) (w : World) (h : OwnP w B vp K) (hv : ∀ p ∈ K, Vp p) (hl : K.length ≤ 100000) :
    Calls Tryz.prog 102 #[vp] w fun e w' => e = .returned (.int .i64 (ownN K : Nat)) ∧ Ext w w' := by
  obtain ⟨a, cp, rfl, -, -, -⟩ := owns_slice h
  have H : Hid (OwnP w B (.slice a K.length cp) K) := h
  have HV : Hid (∀ p ∈ K, Vp p) := hv
  have hnot : ∀ (x : Bool) (w : World), (Op.unary .not (.bool x)).run Tryz.prog w = .ok (.bool (!x)) w := fun _ _ => rfl
  clear h hv
  go_enter Tryz.func102, Tryz.ntmps102
  go_wp2_with fail
  go_loopw [3, 4, 5, 6] (fun n vh vb i wr => ∃ (k : Nat) (hs bs : List Nat), k ≤ K.length ∧ i = .int .i64 k ∧ n = .int .i64 (ownN (K.take k) : Nat) ∧ Ext w wr ∧ Hid (Mem2 w wr vh vb hs bs) ∧ Hid (Rows2 K k hs bs)) (fun _ _ _ i _ => K.length - (intOf i).toNat)
  case atStart => exact ⟨0, [], [], Nat.zero_le _, rfl, rfl, Ext.refl w, ⟨World.ownsRow_nil _ _ _ _, World.ownsRow_nil _ _ _ _, (fun g hg => by cases hg)⟩, ⟨by simp [domB], by simp [domB], Nat.le_refl _, Nat.le_refl _⟩⟩
  case round =>
    obtain ⟨k, hs, bs, hk, rfl, rfl, hx, HM, HR⟩ := hrel
    by_cases hlt : k < K.length
    · obtain ⟨p, hpk⟩ : ∃ p, K[k]? = some p := ⟨_, List.getElem?_eq_getElem hlt⟩
      have hvp := HV.out p (List.mem_of_getElem? hpk)
      have hvp' := hvp
      obtain ⟨A, N, rfl, hN, hA, hZ⟩ := hvp'
      obtain ⟨g, c', e, g0, g1⟩ := OwnP.cell H.out hpk
      cases e
      have hgl := World.block_lt_of_cell? w _ g0
      simp only at g0 g1
      have hnx := own_next hpk hvp
      have hd1 := fun n => dom_next hpk 1 n
      have hd2 := fun n => dom_next hpk 2 n
      have hok := own_le (K.take k)
      have htl : (K.take k).length ≤ 100000 := by rw [List.length_take]; omega
      obtain ⟨r1, r2, r3, r4⟩ := HR.out
      have hki : (k : Int) < (K.length : Int) := by omega
      have kh1 := has_any w.heap.size u4 hs (A / 65536) wr HM.out.1 (by omega)
      have kh2 := fun W (h : Mem2 w W u4 u5 hs bs) => has_any w.heap.size u5 bs (A / 256) W h.2.1 (by omega)
      have kh3 := fun W (v' : Value) (h : Mem2 w W v' u5 (hs ++ [A / 65536]) bs) => has_any w.heap.size u5 bs (A / 256) W h.2.1 (by omega)
      have hq1 : ((A / 65536 : Nat) : Int) = (A : Int) / 65536 := by omega
      have hq2 : ((A / 256 : Nat) : Int) = (A : Int) / 256 := by omega
      have q0 := cellK hx hgl g0
      have q1 := cellK hx hgl g1
      have HG : Hid (w.cell? ⟨g, k * 2, none⟩ = some (.int .u32 (A : Int)) ∧ w.cell? ⟨g, k * 2 + 1, none⟩ = some (.int .i64 (N : Int))) := ⟨g0, g1⟩
      rw [hq1] at kh1
      simp only [hq2] at kh2 kh3
      have hmem1 : (A / 65536 ∈ hs) ↔ domB (K.take k) 1 (plN 0 A) = true := r1 _
      have hmem2 : (A / 256 ∈ bs) ↔ domB (K.take k) 2 (plN 1 A) = true := r2 _
      generalize hoc : ownN (K.take k) = oc at *
      clear g0 g1
      have HU1 : ∀ W : World, (W.alloc (.cells #[.int .u32 ((A : Int) / 65536)] 23)).heap[W.heap.size]? = some (.cells #[.int .u32 ((A / 65536 : Nat) : Int)] 23 (0, 0)) := fun W => by rw [hq1]; exact heap_new W _
      have HU2 : ∀ W : World, (W.alloc (.cells #[.int .u32 ((A : Int) / 256)] 23)).heap[W.heap.size]? = some (.cells #[.int .u32 ((A / 256 : Nat) : Int)] 23 (0, 0)) := fun W => by rw [hq2]; exact heap_new W _
      have tok1 : Hid True := trivial
      have tok2 : Hid True := trivial
      have HD1 : Hid _ := hd1
      have HD2 : Hid _ := hd2
      have HNX : Hid _ := hnx
      have HRR : Hid (Rows2 K k hs bs) := HR.out
      clear hd1 hd2 hnx r1 r2 HR
      rcases (by omega : N ≤ 16 ∨ (16 < N ∧ N ≤ 24) ∨ 24 < N) with h | h | h
      · have i16 : (N : Int) ≤ 16 := by omega
        have i24 : (N : Int) ≤ 24 := by omega
        go_wp2_with (fail)
        refine ⟨⟨k + 1, hs, bs, by omega, by simp, ?_, hx, HM.out, ?_⟩, by simp only [intOf]; omega⟩
        · rw [HNX.out, show lvN N = 0 by unfold lvN; rw [if_pos h]]
          simp [moreN]
        · obtain ⟨r1, r2, r3, r4⟩ := HRR.out
          refine ⟨fun y => ?_, fun y => ?_, ?_, ?_⟩
          · rw [HD1.out y, ← r1 y]
            constructor
            · exact fun h => .inl h
            · rintro (h' | ⟨h', -⟩)
              · exact h'
              · simp only [loN] at h'; omega
          · rw [HD2.out y, ← r2 y]
            constructor
            · exact fun h => .inl h
            · rintro (h' | ⟨h', -⟩)
              · exact h'
              · simp only [loN] at h'; omega
          · omega
          · omega
      · have i16 : 16 < (N : Int) := by omega
        have i24 : (N : Int) ≤ 24 := by omega
        by_cases hm1 : A / 65536 ∈ hs
        · rw [decide_eq_true hm1] at kh1
          go_wp2_with ((go_at_call 129; clear tok1; refine kh1.mono ?_; rintro e w2 ⟨rfl, rfl⟩))
          refine ⟨⟨k + 1, hs, bs, by omega, by simp, ?_, hx, HM.out, ?_⟩, by simp only [intOf]; omega⟩
          · rw [HNX.out, show lvN N = 1 by unfold lvN; rw [if_neg (by omega), if_pos h.2]]
            have z1 : domB (K.take k) (0 + 1) (plN 0 A) = true := hmem1.1 hm1
            simp only [moreN, z1]
            simp <;> omega
          · obtain ⟨r1, r2, r3, r4⟩ := HRR.out
            refine ⟨fun y => ?_, fun y => ?_, ?_, ?_⟩
            · rw [HD1.out y, ← r1 y]
              constructor
              · exact fun h => .inl h
              · rintro (h' | ⟨-, h'⟩)
                · exact h'
                · rw [← h']; exact hm1
            · rw [HD2.out y, ← r2 y]
              constructor
              · exact fun h => .inl h
              · rintro (h' | ⟨h', -⟩)
                · exact h'
                · simp only [loN] at h'; omega
            · omega
            · omega
        · rw [decide_eq_false hm1] at kh1
          go_wp2_with (first | (go_at_call 129; clear tok1; refine kh1.mono ?_; rintro e w2 ⟨rfl, rfl⟩) | (at_builtin; clear tok2; refine append_u32 rfl (.tmp 30) (.tmp 37) rfl w.heap.size u4 hs rfl (owns_later HM.out.1 ((Ext.refl _).alloc _)) _ 1 (A / 65536) rfl (HU1 _) (by omega) (Nat.le_trans hx.size ((Ext.refl _).alloc _).size) ?_; intro v3 w3 hown3 hgrow3 hat3; have M3 := (HM.out.ext ((Ext.refl _).alloc _)).put1 hown3 hgrow3 hat3; have hx3 : Ext w w3 := grown_ext (hx.trans ((Ext.refl _).alloc _)) (owns_later HM.out.1 ((Ext.refl _).alloc _)) hgrow3; have q2 := cellK hx3 hgl HG.out.1; have q3 := cellK hx3 hgl HG.out.2; clear hown3 hgrow3 hat3))
          refine ⟨⟨k + 1, (hs ++ [A / 65536]), bs, by omega, by simp, ?_, hx3, M3, ?_⟩, by simp only [intOf]; omega⟩
          · rw [HNX.out, show lvN N = 1 by unfold lvN; rw [if_neg (by omega), if_pos h.2]]
            have z1 : domB (K.take k) (0 + 1) (plN 0 A) = false := by
              cases hh : domB (K.take k) (0 + 1) (plN 0 A) with
              | false => rfl
              | true => exact absurd (hmem1.2 hh) hm1
            simp only [moreN, z1]
            simp <;> omega
          · obtain ⟨r1, r2, r3, r4⟩ := HRR.out
            refine ⟨fun y => ?_, fun y => ?_, ?_, ?_⟩
            · rw [HD1.out y, List.mem_append, r1 y, List.mem_singleton]
              constructor
              · rintro (h' | h')
                · exact .inl h'
                · exact .inr ⟨by simp only [loN]; omega, h'.symm⟩
              · rintro (h' | ⟨-, h'⟩)
                · exact .inl h'
                · exact .inr h'.symm
            · rw [HD2.out y, ← r2 y]
              constructor
              · exact fun h => .inl h
              · rintro (h' | ⟨h', -⟩)
                · exact h'
                · simp only [loN] at h'; omega
            · rw [List.length_append]; simp only [List.length_cons, List.length_nil]; omega
            · omega
      · have i16 : 16 < (N : Int) := by omega
        have i24 : 24 < (N : Int) := by omega
        by_cases hm1 : A / 65536 ∈ hs
        · rw [decide_eq_true hm1] at kh1
          by_cases hm2 : A / 256 ∈ bs
          · simp only [decide_eq_true hm2] at kh2 kh3
            go_wp2_with (first | (go_at_call 129; clear tok1; refine kh1.mono ?_; rintro e w2 ⟨rfl, rfl⟩) | (go_at_call 129; refine (kh2 _ HM.out).mono ?_; rintro e w4 ⟨rfl, rfl⟩))
            refine ⟨⟨k + 1, hs, bs, by omega, by simp, ?_, hx, HM.out, ?_⟩, by simp only [intOf]; omega⟩
            · rw [HNX.out, show lvN N = 2 by unfold lvN; rw [if_neg (by omega), if_neg (by omega)]]
              have z1 : domB (K.take k) (0 + 1) (plN 0 A) = true := hmem1.1 hm1
              have z2 : domB (K.take k) (1 + 1) (plN 1 A) = true := hmem2.1 hm2
              simp only [moreN, z1, z2]
              simp <;> omega
            · obtain ⟨r1, r2, r3, r4⟩ := HRR.out
              refine ⟨fun y => ?_, fun y => ?_, ?_, ?_⟩
              · rw [HD1.out y, ← r1 y]
                constructor
                · exact fun h => .inl h
                · rintro (h' | ⟨-, h'⟩)
                  · exact h'
                  · rw [← h']; exact hm1
              · rw [HD2.out y, ← r2 y]
                constructor
                · exact fun h => .inl h
                · rintro (h' | ⟨-, h'⟩)
                  · exact h'
                  · rw [← h']; exact hm2
              · omega
              · omega
          · simp only [decide_eq_false hm2] at kh2 kh3
            go_wp2_with (first | (go_at_call 129; clear tok1; refine kh1.mono ?_; rintro e w2 ⟨rfl, rfl⟩) | (go_at_call 129; refine (kh2 _ HM.out).mono ?_; rintro e w4 ⟨rfl, rfl⟩) | (at_builtin; refine append_u32 rfl (.tmp 58) (.tmp 65) rfl w.heap.size u5 bs rfl (owns_later HM.out.2.1 ((Ext.refl _).alloc _)) _ 1 (A / 256) rfl (HU2 _) (by omega) (Nat.le_trans hx.size ((Ext.refl _).alloc _).size) ?_; intro v5 w5 hown5 hgrow5 hat5; have M5 := (HM.out.ext ((Ext.refl _).alloc _)).put2 hown5 hgrow5 hat5; have hx5 : Ext w w5 := grown_ext (hx.trans ((Ext.refl _).alloc _)) (owns_later HM.out.2.1 ((Ext.refl _).alloc _)) hgrow5; clear hown5 hgrow5 hat5))
            refine ⟨⟨k + 1, hs, (bs ++ [A / 256]), by omega, by simp, ?_, hx5, M5, ?_⟩, by simp only [intOf]; omega⟩
            · rw [HNX.out, show lvN N = 2 by unfold lvN; rw [if_neg (by omega), if_neg (by omega)]]
              have z1 : domB (K.take k) (0 + 1) (plN 0 A) = true := hmem1.1 hm1
              have z2 : domB (K.take k) (1 + 1) (plN 1 A) = false := by
                cases hh : domB (K.take k) (1 + 1) (plN 1 A) with
                | false => rfl
                | true => exact absurd (hmem2.2 hh) hm2
              simp only [moreN, z1, z2]
              simp <;> omega
            · obtain ⟨r1, r2, r3, r4⟩ := HRR.out
              refine ⟨fun y => ?_, fun y => ?_, ?_, ?_⟩
              · rw [HD1.out y, ← r1 y]
                constructor
                · exact fun h => .inl h
                · rintro (h' | ⟨-, h'⟩)
                  · exact h'
                  · rw [← h']; exact hm1
              · rw [HD2.out y, List.mem_append, r2 y, List.mem_singleton]
                constructor
                · rintro (h' | h')
                  · exact .inl h'
                  · exact .inr ⟨by simp only [loN]; omega, h'.symm⟩
                · rintro (h' | ⟨-, h'⟩)
                  · exact .inl h'
                  · exact .inr h'.symm
              · omega
              · rw [List.length_append]; simp only [List.length_cons, List.length_nil]; omega
        · rw [decide_eq_false hm1] at kh1
          by_cases hm2 : A / 256 ∈ bs
          · simp only [decide_eq_true hm2] at kh2 kh3
            go_wp2_with (first | (go_at_call 129; clear tok1; refine kh1.mono ?_; rintro e w2 ⟨rfl, rfl⟩) | (at_builtin; clear tok2; refine append_u32 rfl (.tmp 30) (.tmp 37) rfl w.heap.size u4 hs rfl (owns_later HM.out.1 ((Ext.refl _).alloc _)) _ 1 (A / 65536) rfl (HU1 _) (by omega) (Nat.le_trans hx.size ((Ext.refl _).alloc _).size) ?_; intro v3 w3 hown3 hgrow3 hat3; have M3 := (HM.out.ext ((Ext.refl _).alloc _)).put1 hown3 hgrow3 hat3; have hx3 : Ext w w3 := grown_ext (hx.trans ((Ext.refl _).alloc _)) (owns_later HM.out.1 ((Ext.refl _).alloc _)) hgrow3; have q2 := cellK hx3 hgl HG.out.1; have q3 := cellK hx3 hgl HG.out.2; clear hown3 hgrow3 hat3) | (go_at_call 129; refine (kh3 _ _ M3).mono ?_; rintro e w4 ⟨rfl, rfl⟩))
            refine ⟨⟨k + 1, (hs ++ [A / 65536]), bs, by omega, by simp, ?_, hx3, M3, ?_⟩, by simp only [intOf]; omega⟩
            · rw [HNX.out, show lvN N = 2 by unfold lvN; rw [if_neg (by omega), if_neg (by omega)]]
              have z1 : domB (K.take k) (0 + 1) (plN 0 A) = false := by
                cases hh : domB (K.take k) (0 + 1) (plN 0 A) with
                | false => rfl
                | true => exact absurd (hmem1.2 hh) hm1
              have z2 : domB (K.take k) (1 + 1) (plN 1 A) = true := hmem2.1 hm2
              simp only [moreN, z1, z2]
              simp <;> omega
            · obtain ⟨r1, r2, r3, r4⟩ := HRR.out
              refine ⟨fun y => ?_, fun y => ?_, ?_, ?_⟩
              · rw [HD1.out y, List.mem_append, r1 y, List.mem_singleton]
                constructor
                · rintro (h' | h')
                  · exact .inl h'
                  · exact .inr ⟨by simp only [loN]; omega, h'.symm⟩
                · rintro (h' | ⟨-, h'⟩)
                  · exact .inl h'
                  · exact .inr h'.symm
              · rw [HD2.out y, ← r2 y]
                constructor
                · exact fun h => .inl h
                · rintro (h' | ⟨-, h'⟩)
                  · exact h'
                  · rw [← h']; exact hm2
              · rw [List.length_append]; simp only [List.length_cons, List.length_nil]; omega
              · omega
          · simp only [decide_eq_false hm2] at kh2 kh3
            go_wp2_with (first | (go_at_call 129; clear tok1; refine kh1.mono ?_; rintro e w2 ⟨rfl, rfl⟩) | (at_builtin; clear tok2; refine append_u32 rfl (.tmp 30) (.tmp 37) rfl w.heap.size u4 hs rfl (owns_later HM.out.1 ((Ext.refl _).alloc _)) _ 1 (A / 65536) rfl (HU1 _) (by omega) (Nat.le_trans hx.size ((Ext.refl _).alloc _).size) ?_; intro v3 w3 hown3 hgrow3 hat3; have M3 := (HM.out.ext ((Ext.refl _).alloc _)).put1 hown3 hgrow3 hat3; have hx3 : Ext w w3 := grown_ext (hx.trans ((Ext.refl _).alloc _)) (owns_later HM.out.1 ((Ext.refl _).alloc _)) hgrow3; have q2 := cellK hx3 hgl HG.out.1; have q3 := cellK hx3 hgl HG.out.2; clear hown3 hgrow3 hat3) | (go_at_call 129; refine (kh3 _ _ M3).mono ?_; rintro e w4 ⟨rfl, rfl⟩) | (at_builtin; refine append_u32 rfl (.tmp 58) (.tmp 65) rfl w.heap.size u5 bs rfl (owns_later M3.2.1 ((Ext.refl _).alloc _)) _ 1 (A / 256) rfl (HU2 _) (by omega) (Nat.le_trans hx3.size ((Ext.refl _).alloc _).size) ?_; intro v5 w5 hown5 hgrow5 hat5; have M5 := (M3.ext ((Ext.refl _).alloc _)).put2 hown5 hgrow5 hat5; have hx5 : Ext w w5 := grown_ext (hx3.trans ((Ext.refl _).alloc _)) (owns_later M3.2.1 ((Ext.refl _).alloc _)) hgrow5; clear hown5 hgrow5 hat5))
            refine ⟨⟨k + 1, (hs ++ [A / 65536]), (bs ++ [A / 256]), by omega, by simp, ?_, hx5, M5, ?_⟩, by simp only [intOf]; omega⟩
            · rw [HNX.out, show lvN N = 2 by unfold lvN; rw [if_neg (by omega), if_neg (by omega)]]
              have z1 : domB (K.take k) (0 + 1) (plN 0 A) = false := by
                cases hh : domB (K.take k) (0 + 1) (plN 0 A) with
                | false => rfl
                | true => exact absurd (hmem1.2 hh) hm1
              have z2 : domB (K.take k) (1 + 1) (plN 1 A) = false := by
                cases hh : domB (K.take k) (1 + 1) (plN 1 A) with
                | false => rfl
                | true => exact absurd (hmem2.2 hh) hm2
              simp only [moreN, z1, z2]
              simp <;> omega
            · obtain ⟨r1, r2, r3, r4⟩ := HRR.out
              refine ⟨fun y => ?_, fun y => ?_, ?_, ?_⟩
              · rw [HD1.out y, List.mem_append, r1 y, List.mem_singleton]
                constructor
                · rintro (h' | h')
                  · exact .inl h'
                  · exact .inr ⟨by simp only [loN]; omega, h'.symm⟩
                · rintro (h' | ⟨-, h'⟩)
                  · exact .inl h'
                  · exact .inr h'.symm
              · rw [HD2.out y, List.mem_append, r2 y, List.mem_singleton]
                constructor
                · rintro (h' | h')
                  · exact .inl h'
                  · exact .inr ⟨by simp only [loN]; omega, h'.symm⟩
                · rintro (h' | ⟨-, h'⟩)
                  · exact .inl h'
                  · exact .inr h'.symm
              · rw [List.length_append]; simp only [List.length_cons, List.length_nil]; omega
              · rw [List.length_append]; simp only [List.length_cons, List.length_nil]; omega
    · obtain rfl : k = K.length := by omega
      go_wp2_with fail
      go_ret
      exact ⟨by rw [List.take_length]; rfl, hx⟩
end Go.Proofs.YtkfhkhgiojpfoaaGreat.Dr

namespace Go.Proofs.YtkfhkhgiojpfoaaGreat.Fb

set_option maxRecDepth 100000

open Go.RowKit Go.Proofs.YtkfhkhgiojpfoaaGreat Go.Proofs.YtkfhkhgiojpfoaaGreat.Rb

open Go.Proofs.YtkfhkhgiojpfoaaGreat.Tri (PX Vp)

open Go.Proofs.YtkfhkhgiojpfoaaGreat.Dr (keyV setB setB_ext setB_same equal_px check_px ownN moreN domB lvN plN loN beN own_next dom_next)

set_option linter.unusedVariables false

set_option linter.unusedSimpArgs false

/-! Plainly. -/

def addK (M : List PX) (p : PX) : List PX := if p ∈ M then M else M ++ [p]

theorem addK_mem {M : List PX} {p q : PX} : q ∈ addK M p ↔ q ∈ M ∨ q = p := by
  unfold addK
  split
  · rename_i h
    exact ⟨.inl, fun h' => h'.elim id fun e => e ▸ h⟩
  · simp

theorem addK_len (M : List PX) (p : PX) : (addK M p).length = M.length + if p ∈ M then 0 else 1 := by
  unfold addK
  split <;> simp

/-- What is counted of a way. -/
def keyOf (r : Rt) (n : Int) : PX := (normV r.a n, holdV n)

def stepK (M : List PX) (r : Rt) (n : Int) : List PX := if n < r.l then addK M (keyOf r n) else M

def keysB (A : List Rt) : Nat → List PX
  | 0 => []
  | k + 1 => match A[k]? with
    | some r => stepK (stepK (keysB A k) r 16) r 24
    | none => keysB A k

theorem keysB_next {A : List Rt} {k : Nat} {r : Rt} (h : A[k]? = some r) : keysB A (k + 1) = stepK (stepK (keysB A k) r 16) r 24 := by
  simp only [keysB, h]

theorem norm16 (a : Nat) : normV (a : Int) 16 = ((a / 65536 * 65536 : Nat) : Int) := by
  unfold normV
  rw [Int.toNat_natCast, show sizeN 16 = 65536 by decide]

theorem norm24 (a : Nat) : normV (a : Int) 24 = ((a / 256 * 256 : Nat) : Int) := by
  unfold normV
  rw [Int.toNat_natCast, show sizeN 24 = 256 by decide]

structure CntK (K : List PX) (M : List PX) : Prop where
  len : M.length = ownN K
  one : ∀ y : Nat, (((y * 65536 : Nat) : Int), (16 : Int)) ∈ M ↔ domB K 1 y = true
  two : ∀ y : Nat, (((y * 256 : Nat) : Int), (24 : Int)) ∈ M ↔ domB K 2 y = true

theorem cnt_keys {A : List Rt} (hv : ∀ x ∈ A, Vp (pxR x)) : ∀ k, k ≤ A.length → CntK ((A.map pxR).take k) (keysB A k)
  | 0, _ => ⟨rfl, fun y => by simp [keysB, domB], fun y => by simp [keysB, domB]⟩
  | k + 1, h => by
    have ih := cnt_keys hv k (by omega)
    obtain ⟨r, hr⟩ : ∃ r, A[k]? = some r := ⟨_, List.getElem?_eq_getElem (by omega)⟩
    have hvp := hv r (List.mem_of_getElem? hr)
    have hvp' := hvp
    obtain ⟨a, N, e, hN, hA, hZ⟩ := hvp'
    have ea : r.a = (a : Int) := congrArg Prod.fst e
    have el : r.l = (N : Int) := congrArg Prod.snd e
    have hK : (A.map pxR)[k]? = some ((a : Int), (N : Int)) := by rw [List.getElem?_map, hr]; simp [pxR, ea, el]
    rw [e] at hvp
    have hnx := own_next hK hvp
    have d1 := fun y => dom_next hK 1 y
    have d2 := fun y => dom_next hK 2 y
    rw [keysB_next hr]
    have k16 : keyOf r 16 = (((a / 65536 * 65536 : Nat) : Int), 16) := by unfold keyOf; rw [ea, norm16]; rfl
    have k24 : keyOf r 24 = (((a / 256 * 256 : Nat) : Int), 24) := by unfold keyOf; rw [ea, norm24]; rfl
    have p1 : a / 2 ^ beN (1 - 1) = a / 65536 := rfl
    have p2 : a / 2 ^ beN (2 - 1) = a / 256 := rfl
    have q1 : plN 0 a = a / 65536 := rfl
    have q2 : plN 1 a = a / 256 := rfl
    have m1 : keyOf r 16 ∈ keysB A k ↔ domB ((A.map pxR).take k) 1 (a / 65536) = true := by rw [k16]; exact ih.one _
    have m2 : keyOf r 24 ∈ keysB A k ↔ domB ((A.map pxR).take k) 2 (a / 256) = true := by rw [k24]; exact ih.two _
    have x1 : ∀ y : Nat, ((((y * 65536 : Nat) : Int), (16 : Int)) : PX) = keyOf r 16 ↔ a / 65536 = y := fun y => by
      rw [k16, Prod.mk.injEq]; constructor
      · rintro ⟨h1, -⟩; omega
      · intro h1; exact ⟨by omega, rfl⟩
    have x2 : ∀ y : Nat, ((((y * 256 : Nat) : Int), (24 : Int)) : PX) = keyOf r 24 ↔ a / 256 = y := fun y => by
      rw [k24, Prod.mk.injEq]; constructor
      · rintro ⟨h1, -⟩; omega
      · intro h1; exact ⟨by omega, rfl⟩
    have n1 : ∀ y : Nat, ((((y * 65536 : Nat) : Int), (16 : Int)) : PX) ≠ keyOf r 24 := fun y h1 => by
      rw [k24, Prod.mk.injEq] at h1; omega
    have n2 : ∀ y : Nat, ((((y * 256 : Nat) : Int), (24 : Int)) : PX) ≠ keyOf r 16 := fun y h1 => by
      rw [k16, Prod.mk.injEq] at h1; omega
    have n3 : keyOf r 24 ≠ keyOf r 16 := by rw [k16, k24]; intro h1; rw [Prod.mk.injEq] at h1; omega
    rcases (by omega : N ≤ 16 ∨ (16 < N ∧ N ≤ 24) ∨ 24 < N) with h1 | h1 | h1
    · have s : stepK (stepK (keysB A k) r 16) r 24 = keysB A k := by
        unfold stepK
        rw [if_neg (by omega), if_neg (by omega)]
      rw [s]
      refine ⟨?_, fun y => ?_, fun y => ?_⟩
      · rw [hnx, ih.len, show lvN N = 0 by unfold lvN; rw [if_pos h1]]; rfl
      · rw [d1 y, ih.one]
        exact ⟨.inl, fun h2 => h2.elim id fun h3 => by have := h3.1; simp only [loN] at this; omega⟩
      · rw [d2 y, ih.two]
        exact ⟨.inl, fun h2 => h2.elim id fun h3 => by have := h3.1; simp only [loN] at this; omega⟩
    · have s : stepK (stepK (keysB A k) r 16) r 24 = addK (keysB A k) (keyOf r 16) := by
        unfold stepK
        rw [if_neg (by omega), if_pos (by omega)]
      rw [s]
      refine ⟨?_, fun y => ?_, fun y => ?_⟩
      · rw [hnx, addK_len, ih.len, show lvN N = 1 by unfold lvN; rw [if_neg (by omega), if_pos h1.2]]
        simp only [moreN, q1, Nat.zero_add, m1]
      · rw [d1 y, addK_mem, ih.one, x1, p1]
        exact ⟨fun h2 => h2.imp_right fun h3 => ⟨by simp only [loN]; omega, h3⟩, fun h2 => h2.imp_right fun h3 => h3.2⟩
      · rw [d2 y, addK_mem, ih.two]
        exact ⟨fun h2 => h2.elim .inl fun h3 => absurd h3 (n2 y), fun h2 => h2.elim .inl fun h3 => by have := h3.1; simp only [loN] at this; omega⟩
    · have s : stepK (stepK (keysB A k) r 16) r 24 = addK (addK (keysB A k) (keyOf r 16)) (keyOf r 24) := by
        unfold stepK
        rw [if_pos (by omega), if_pos (by omega)]
      rw [s]
      refine ⟨?_, fun y => ?_, fun y => ?_⟩
      · rw [hnx, addK_len, addK_len, ih.len, show lvN N = 2 by unfold lvN; rw [if_neg (by omega), if_neg (by omega)]]
        have m3 : keyOf r 24 ∈ addK (keysB A k) (keyOf r 16) ↔ domB ((A.map pxR).take k) 2 (a / 256) = true := by
          rw [addK_mem, m2]
          exact ⟨fun h2 => h2.elim id fun h3 => absurd h3 n3, .inl⟩
        simp only [moreN, q1, q2, Nat.zero_add, m1, m3]
        rw [Nat.add_assoc]
      · rw [d1 y, addK_mem, addK_mem, ih.one, x1, p1]
        exact ⟨fun h2 => h2.elim (fun h3 => h3.imp_right fun h4 => ⟨by simp only [loN]; omega, h4⟩) fun h3 => absurd h3 (n1 y), fun h2 => .inl (h2.imp_right fun h3 => h3.2)⟩
      · rw [d2 y, addK_mem, addK_mem, ih.two, x2, p2]
        exact ⟨fun h2 => h2.elim (fun h3 => h3.elim .inl fun h4 => absurd h4 (n2 y)) fun h3 => .inr ⟨by simp only [loN]; omega, h3⟩, fun h2 => h2.elim (fun h3 => .inl (.inl h3)) fun h3 => .inr h3.2⟩

theorem keysB_own {A : List Rt} (hv : ∀ x ∈ A, Vp (pxR x)) : (keysB A A.length).length = ownA A := by
  have := (cnt_keys hv A.length (Nat.le_refl _)).len
  rw [this, List.take_of_length_le (by simp)]
  rfl

/-! The map in memory. -/

structure MapE (w : World) (mb : Nat) (es : Array MapEntry) (clock : Nat) (M : List PX) : Prop where
  heap : w.heap[mb]? = some (.map es clock)
  keys : es.toList.map (·.key) = M.map keyV
  ints : ∀ e ∈ es.toList, ∃ n : Int, e.val = .int .i64 n
  born : ∀ e ∈ es.toList, e.born < clock
  once : (es.toList.map (·.born)).Nodup

def MapI (w : World) (mb : Nat) (M : List PX) : Prop := ∃ es clock, MapE w mb es clock M

theorem MapI.later {w w' : World} {mb : Nat} {M : List PX} {G : List Nat} (h : MapI w mb M) (hx : ExtS G w w') (hd : mb ∉ G) : MapI w' mb M := by
  obtain ⟨es, clock, h⟩ := h
  exact ⟨es, clock, hx.heap hd h.heap, h.keys, h.ints, h.born, h.once⟩

theorem MapI.lt {w : World} {mb : Nat} {M : List PX} (h : MapI w mb M) : mb < w.heap.size := by
  obtain ⟨es, clock, h⟩ := h
  exact heap_lt h.heap

def fk : List MapEntry → List PX → PX → Nat → Option (Nat × Value)
  | [], _, _, _ => none
  | _ :: _, [], _, _ => none
  | e :: l, q :: M, p, i => if q = p then some (i, e.val) else fk l M p (i + 1)

theorem asking_k (p : PX) (w : World) : ∀ (l : List MapEntry) (M : List PX) (i : Nat), l.map (·.key) = M.map keyV →
    (Instr.findAsking 42 (keyV p) l i).run Tryz.prog w = .ok (fk l M p i) w
  | [], [], i, _ => rfl
  | [], y :: E, i, h => by simp at h
  | e :: l, [], i, h => by simp at h
  | e :: l, y :: E, i, h => by
    simp only [List.map_cons, List.cons.injEq] at h
    have ih := asking_k p w l E (i + 1) h.2
    simp only [Instr.findAsking, Sem.run_bind, h.1, equal_px, Result.andThen_ok, fk]
    by_cases e1 : y = p
    · simp [e1]
    · simp only [e1, decide_false, Bool.false_eq_true, if_false]; exact ih

theorem find_k (p : PX) (w : World) (l : List MapEntry) (M : List PX) (h : l.map (·.key) = M.map keyV) :
    (Instr.findKey 42 (keyV p) l).run Tryz.prog w = .ok (fk l M p 0) w := by
  have ha := asking_k p w l M 0 h
  unfold Instr.findKey
  simp only [Sem.run_bind, run_underlying Tryz.underlying42, Result.andThen_ok]
  cases l with
  | nil =>
    cases M with
    | nil => rfl
    | cons y E => simp at h
  | cons e l =>
    have : ∀ fs, Instr.findNow (.struct fs) (keyV p) (e :: l) 0 = none := fun fs => by simp [Instr.findNow, Instr.sameNow]
    rw [this]
    exact ha

theorem fk_none : ∀ {l : List MapEntry} {M : List PX} {p : PX} (i : Nat), l.length = M.length → p ∉ M → fk l M p i = none
  | [], _, p, i, _, _ => rfl
  | _ :: _, [], p, i, _, _ => rfl
  | e :: l, q :: M, p, i, hl, h => by
    simp only [List.mem_cons, not_or] at h
    have h1 : ¬ q = p := fun e => h.1 e.symm
    simp only [fk, if_neg h1]
    exact fk_none (i + 1) (by simpa using hl) h.2

theorem fk_some : ∀ {l : List MapEntry} {M : List PX} {p : PX} (i : Nat), l.length = M.length → p ∈ M → ∃ j e, l[j]? = some e ∧ M[j]? = some p ∧ fk l M p i = some (i + j, e.val)
  | [], [], p, i, _, h => by cases h
  | [], _ :: _, p, i, h, _ => by simp at h
  | _ :: _, [], p, i, h, _ => by simp at h
  | e :: l, q :: M, p, i, hl, h => by
    by_cases e1 : q = p
    · exact ⟨0, e, rfl, by simp [e1], by simp [fk, e1]⟩
    · have h2 : p ∈ M := (List.mem_cons.1 h).resolve_left fun h' => e1 h'.symm
      obtain ⟨j, x, h3, h4, h5⟩ := fk_some (i + 1) (by simpa using hl) h2
      exact ⟨j + 1, x, by simpa using h3, by simpa using h4, by simp only [fk, if_neg e1, h5]; congr 2; omega⟩

theorem zero_int (w : World) : (zeroValue 3).run Tryz.prog w = .ok (.int .i64 0) w := by kernel_rfl

def fv (o : Option (Nat × Value)) : Value := match o with
  | some x => x.2
  | none => .int .i64 0

theorem look_k {w : World} {mb : Nat} {es : Array MapEntry} {clock : Nat} {M : List PX} (h : MapE w mb es clock M) (p : PX) :
    (Instr.lookup 168 (.map (some mb)) (keyV p) false).run Tryz.prog w = .ok (fv (fk es.toList M p 0)) w := by
  simp only [Instr.lookup, Sem.run_bind, run_underlying Tryz.underlying168, Result.andThen_ok, MapKept.run_getObj_map h.heap, check_px, Sem.run_pure, find_k p w _ M h.keys]
  cases fk es.toList M p 0 with
  | none =>
    simp only [Sem.run_bind, zero_int, Result.andThen_ok, Sem.run_pure]
    rfl
  | some x => rfl

theorem fv_int {w : World} {mb : Nat} {es : Array MapEntry} {clock : Nat} {M : List PX} (h : MapE w mb es clock M) (p : PX) : ∃ n : Int, fv (fk es.toList M p 0) = .int .i64 n := by
  have hl : es.toList.length = M.length := by have := congrArg List.length h.keys; simpa using this
  by_cases hp : p ∈ M
  · obtain ⟨j, e, h1, h2, h3⟩ := fk_some 0 hl hp
    rw [h3]
    exact h.ints e (List.mem_of_getElem? h1)
  · rw [fk_none 0 hl hp]
    exact ⟨0, rfl⟩

/-- What is told of the prefix p there. -/
def Lk (w : World) (mb : Nat) (p : PX) (v : Value) : Prop := (Instr.lookup 168 (.map (some mb)) (keyV p) false).run Tryz.prog w = .ok v w

/-- All but the map stands; of p the same is told. -/
def RM (mb : Nat) (p : PX) (w w' : World) : Prop := ExtS [mb] w w' ∧ ∀ v, Lk w mb p v → Lk w' mb p v

theorem RM.refl (mb : Nat) (p : PX) (w : World) : RM mb p w w := ⟨ExtS.refl _ w, fun _ h => h⟩

theorem RM.trans {mb : Nat} {p : PX} {a b c : World} (h : RM mb p a b) (k : RM mb p b c) : RM mb p a c := ⟨h.1.trans k.1, fun v hv => k.2 v (h.2 v hv)⟩

theorem RM.ext {mb : Nat} {p : PX} {w w' : World} {M : List PX} (h : MapI w mb M) (hx : Ext w w') : RM mb p w w' := by
  obtain ⟨es, clock, h⟩ := h
  have h' : MapE w' mb es clock M := ⟨hx.heap h.heap, h.keys, h.ints, h.born, h.once⟩
  refine ⟨hx.toS _, fun v hv => ?_⟩
  have h1 := look_k h p
  have h2 := look_k h' p
  unfold Lk at *
  rw [h1] at hv
  rw [h2]
  cases hv
  rfl

theorem stays_px (p : PX) (w : World) : (Instr.keyThatStays (keyV p) (keyV p)).run Tryz.prog w = .ok (keyV p) w := by
  have : Instr.sameBits 10000 (keyV p) (keyV p) = true := by
    simp [keyV, Instr.sameBits]
  unfold Instr.keyThatStays
  rw [if_pos this]
  rfl

theorem keys_at {es : Array MapEntry} {M : List PX} (h : es.toList.map (·.key) = M.map keyV) {j : Nat} {e : MapEntry} {p : PX} (he : es.toList[j]? = some e) (hp : M[j]? = some p) : e.key = keyV p := by
  have h1 : (es.toList.map (·.key))[j]? = some e.key := by rw [List.getElem?_map, he]; rfl
  rw [h, List.getElem?_map, hp] at h1
  simpa using h1.symm

theorem estore (w : World) (mb : Nat) (es : Array MapEntry) (clock st i : Nat) (v : Value) (hb : w.heap[mb]? = some (.map es clock)) (hidx : es.findIdx? (fun e => ((e.born : Nat) : Int) == ((st : Nat) : Int)) = some i) :
    (Instr.entryStore 168 (.map (some mb)) (.int .i64 st) v).run Tryz.prog w = .ok () (setB w mb (.map (es.modify i fun e => { e with val := v }) clock)) := by
  simp [Instr.entryStore, MapKept.run_getObj_map hb, asInt, asIntOf, hidx, MapKept.run_setObj_map _ hb, Result.andThen, setB]

theorem entry_k {w : World} {mb : Nat} {M : List PX} (h : MapI w mb M) (p : PX) : ∃ (v0 : Value) (st : Nat) (w1 : World),
    (Instr.mapEntry 168 (.map (some mb)) (keyV p)).run Tryz.prog w = .ok (.tuple #[v0, .int .i64 st]) w1 ∧ RM mb p w w1 ∧ w1.heap.size = w.heap.size ∧
    ∀ n : Int, ∃ w2, (Instr.entryStore 168 (.map (some mb)) (.int .i64 st) (.int .i64 n)).run Tryz.prog w1 = .ok () w2 ∧ MapI w2 mb (addK M p) ∧ ExtS [mb] w1 w2 ∧ w2.heap.size = w1.heap.size := by
  obtain ⟨es, clock, h⟩ := h
  have hl : es.toList.length = M.length := by have := congrArg List.length h.keys; simpa using this
  by_cases hp : p ∈ M
  · obtain ⟨j, e0, h1, h2, h3⟩ := fk_some 0 hl hp
    have hk := keys_at h.keys h1 h2
    rw [Nat.zero_add] at h3
    have hj : es[j]? = some e0 := by simpa using h1
    have hsame : es.modify j (fun e => { e with key := keyV p }) = es := by
      apply Array.ext'
      rw [Array.toList_modify, ChangeMaps.modify_eq_set _ _ _ _ h1]
      have : ({ e0 with key := keyV p } : MapEntry) = e0 := by rw [← hk]
      rw [this]
      exact WideElems.set_self _ _ _ h1
    have hset : setB w mb (.map es clock) = w := by
      unfold setB
      have : w.heap.setIfInBounds mb (.map es clock) = w.heap := by
        apply Array.ext
        · simp
        · intro i hi1 hi2
          rw [Array.getElem_setIfInBounds]
          · split
            · rename_i e
              subst e
              have := h.heap
              rw [Array.getElem?_eq_getElem hi2] at this
              exact (Option.some.inj this).symm
            · rfl
      rw [this]
    refine ⟨e0.val, e0.born, w, ?_, RM.refl _ _ _, rfl, fun n => ?_⟩
    · have : (Instr.mapEntry 168 (.map (some mb)) (keyV p)).run Tryz.prog w = .ok (.tuple #[e0.val, goInt e0.born]) (setB w mb (.map es clock)) := by
        simp [Instr.mapEntry, run_underlying Tryz.underlying168, MapKept.run_getObj_map h.heap, check_px, find_k p w _ M h.keys, h3, hj, hk, stays_px, hsame, MapKept.run_setObj_map _ h.heap, Result.andThen, setB]
      rw [this, hset]
      rfl
    · have hidx : es.findIdx? (fun e => ((e.born : Nat) : Int) == ((e0.born : Nat) : Int)) = some j := by
        rw [WideElems.findIdx_arr]
        exact WideElems.findIdx_born h.once h1
      have hmod : (es.modify j fun e => { e with val := Value.int .i64 n }).toList = es.toList.set j { e0 with val := .int .i64 n } := by
        rw [Array.toList_modify, ChangeMaps.modify_eq_set _ _ _ _ h1]
      have hgk : ∀ {β : Type} (f : MapEntry → β), f { e0 with val := .int .i64 n } = f e0 → (es.toList.set j { e0 with val := .int .i64 n }).map f = es.toList.map f := fun f hf => by
        rw [List.map_set, hf]
        exact WideElems.set_self _ _ _ (by rw [List.getElem?_map, h1]; rfl)
      refine ⟨setB w mb (.map (es.modify j fun e => { e with val := .int .i64 n }) clock), ?_, ?_, setB_ext _ _ _, by simp [setB]⟩
      · simp [Instr.entryStore, MapKept.run_getObj_map h.heap, asInt, asIntOf, hidx, MapKept.run_setObj_map _ h.heap, Result.andThen, setB]
      · have ha : addK M p = M := by unfold addK; rw [if_pos hp]
        rw [ha]
        refine ⟨_, _, setB_same h.heap, ?_, ?_, ?_, ?_⟩
        · rw [hmod, hgk (·.key) rfl]; exact h.keys
        · intro e he
          rw [hmod] at he
          rcases List.mem_or_eq_of_mem_set he with h4 | h4
          · exact h.ints e h4
          · exact ⟨n, by rw [h4]⟩
        · intro e he
          rw [hmod] at he
          rcases List.mem_or_eq_of_mem_set he with h4 | h4
          · exact h.born e h4
          · rw [h4]; exact h.born e0 (List.mem_of_getElem? h1)
        · rw [hmod, hgk (·.born) rfl]; exact h.once
  · have h3 := fk_none 0 hl hp
    have hE : MapE (setB w mb (.map (es.push ⟨keyV p, .int .i64 0, clock⟩) (clock + 1))) mb (es.push ⟨keyV p, .int .i64 0, clock⟩) (clock + 1) (M ++ [p]) := by
      refine ⟨setB_same h.heap, ?_, ?_, ?_, ?_⟩
      · rw [Array.toList_push, List.map_append, List.map_append, h.keys]; rfl
      · intro e he
        rw [Array.toList_push, List.mem_append, List.mem_singleton] at he
        rcases he with h4 | h4
        · exact h.ints e h4
        · exact ⟨0, by rw [h4]⟩
      · intro e he
        rw [Array.toList_push, List.mem_append, List.mem_singleton] at he
        rcases he with h4 | h4
        · have := h.born e h4; omega
        · rw [h4]; exact Nat.lt_succ_self _
      · rw [Array.toList_push, List.map_append]
        refine List.nodup_append.2 ⟨h.once, by simp, fun a ha c hc e1 => ?_⟩
        simp only [List.map_cons, List.map_nil, List.mem_singleton] at hc
        obtain ⟨x, hx, rfl⟩ := List.mem_map.1 ha
        have := h.born x hx
        omega
    refine ⟨.int .i64 0, clock, _, ?_, ⟨setB_ext w mb (.map (es.push ⟨keyV p, .int .i64 0, clock⟩) (clock + 1)), fun v hv => ?_⟩, by simp [setB], fun n => ?_⟩
    · have hz : ∀ w, (zeroValue 3).run Tryz.prog w = .ok (.int .i64 0) w := zero_int
      simp [Instr.mapEntry, run_underlying Tryz.underlying168, MapKept.run_getObj_map h.heap, check_px, find_k p w _ M h.keys, h3, hz, MapKept.run_setObj_map _ h.heap, Result.andThen, setB, goInt]
    · have h1 := look_k h p
      have h2 := look_k hE p
      unfold Lk at *
      rw [h1, h3] at hv
      rw [h2]
      have hl2 : (es.push ⟨keyV p, .int .i64 0, clock⟩).toList.length = (M ++ [p]).length := by rw [Array.toList_push]; simp at hl ⊢; exact hl
      obtain ⟨j, e, k1, k2, k3⟩ := fk_some 0 hl2 (by simp : p ∈ M ++ [p])
      have hv0 : e.val = .int .i64 0 := by
        have hjl : j = M.length := by
          rcases Nat.lt_or_ge j M.length with hlt | hge
          · rw [List.getElem?_append_left hlt] at k2
            exact absurd (List.mem_of_getElem? k2) hp
          · have := (List.getElem?_eq_some_iff.1 k2).1
            simp at this
            omega
        rw [Array.toList_push, hjl, ← hl, List.getElem?_append_right (Nat.le_refl _)] at k1
        simp at k1
        rw [← k1]
      rw [k3]
      cases hv
      simp only [fv, hv0]
    · have hidx : (es.push ⟨keyV p, .int .i64 0, clock⟩).findIdx? (fun e => ((e.born : Nat) : Int) == ((clock : Nat) : Int)) = some es.size := by
        rw [WideElems.findIdx_arr]
        have := WideElems.findIdx_born (l := (es.push ⟨keyV p, .int .i64 0, clock⟩).toList) (j := es.size) (e0 := ⟨keyV p, .int .i64 0, clock⟩) hE.once (by simp)
        exact this
      have hmod : (es.push ⟨keyV p, .int .i64 0, clock⟩).modify es.size (fun e => { e with val := .int .i64 n }) = es.push ⟨keyV p, .int .i64 n, clock⟩ := by
        apply Array.ext'
        rw [Array.toList_modify, Array.toList_push, Array.toList_push, ← Array.length_toList, WideElems.modify_last]
      refine ⟨setB (setB w mb (.map (es.push ⟨keyV p, .int .i64 0, clock⟩) (clock + 1))) mb (.map (es.push ⟨keyV p, .int .i64 n, clock⟩) (clock + 1)), ?_, ?_, setB_ext _ _ _, by simp [setB]⟩
      · have h9 := estore _ mb _ _ clock es.size (.int .i64 n) hE.heap hidx
        rw [hmod] at h9
        exact h9
      · have ha : addK M p = M ++ [p] := by unfold addK; rw [if_neg hp]
        rw [ha]
        refine ⟨_, _, setB_same hE.heap, ?_, ?_, ?_, ?_⟩
        · rw [Array.toList_push, List.map_append, List.map_append, h.keys]; rfl
        · intro e he
          rw [Array.toList_push, List.mem_append, List.mem_singleton] at he
          rcases he with h4 | h4
          · exact h.ints e h4
          · exact ⟨n, by rw [h4]⟩
        · intro e he
          rw [Array.toList_push, List.mem_append, List.mem_singleton] at he
          rcases he with h4 | h4
          · have := h.born e h4; omega
          · rw [h4]; exact Nat.lt_succ_self _
        · have := hE.once
          rw [Array.toList_push, List.map_append] at this ⊢
          exact this

theorem len_k {w : World} {mb : Nat} {M : List PX} (h : MapI w mb M) (ty : TypeId) : (Builtin.len_ #[168] ty #[.map (some mb)]).run Tryz.prog w = .ok (.int .i64 (M.length : Int)) w := by
  obtain ⟨es, clock, h⟩ := h
  have hl : es.size = M.length := by have := congrArg List.length h.keys; simpa using this
  simp [Builtin.len_, run_underlying Tryz.underlying168, MapKept.run_getObj_map h.heap, Result.andThen, hl]
  rfl
end Go.Proofs.YtkfhkhgiojpfoaaGreat.Fb
