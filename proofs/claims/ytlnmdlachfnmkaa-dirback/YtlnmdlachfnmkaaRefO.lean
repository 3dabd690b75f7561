/- The document's Owned, has. -/
import Derived.Test.YtlnmdlachfnmkaaDirL
import Derived.Test.YtlnmdlachfnmkaaRowP
import Derived.Maps.AppendAt
namespace Go.Proofs.Ytlnmdlachfnmkaa.Dr
set_option maxRecDepth 100000
open Go.RowKit Go.Proofs.Ytlnmdlachfnmkaa Go.Proofs.Ytlnmdlachfnmkaa.Tri
set_option linter.unusedVariables false

/-- A row of numbers of four bytes, of the call's own. -/
def OwnU (w : World) (B : Nat) (v : Value) (xs : List Nat) : Prop := w.ownsRow B 28 1 v xs.length (xs.map fun y : Nat => Value.int .u32 (y : Int))

theorem OwnU.cell {w : World} {B : Nat} {v : Value} {L : List Nat} (h : OwnU w B v L) {i : Nat} {p : Nat} (hi : L[i]? = some p) :
    ∃ g c, v = .slice (some ⟨g, 0, none⟩) L.length c ∧ w.cell? ⟨g, i, none⟩ = some (.int .u32 p) := by
  obtain ⟨hl, h⟩ := h
  have hil := (List.getElem?_eq_some_iff.1 hi).1
  rcases h with ⟨_, h0⟩ | ⟨g, cap, cur, rfl, _, hg, _, _, _, hc⟩
  · omega
  · have h1 : (L.map fun y : Nat => Value.int .u32 (y : Int))[i]? = some (.int .u32 p) := by simp [hi]
    refine ⟨g, cap, rfl, ?_⟩
    rw [heap_cell hg, ← Array.getElem?_toList]
    rw [← hc, List.getElem?_take, if_pos (by omega)] at h1
    exact h1

theorem info_u32 : ∃ i, Try.prog.info? 28 = some i ∧ i.zero = some (.int .u32 0) ∧ i.size = 1 ∧ i.bytes = 4 := ⟨_, rfl, by kernel_rfl, by kernel_rfl, by kernel_rfl⟩

/-- append(row, n). -/
theorem append_u32 {w : World} {ops : Array Oper} {rest : List Oper} {o : Oper} {a : Act} {Q : Exit → Act → World → Prop} (hgd : o.guard = none) (s x : Operand)
    (ho : o.op = .call { callee := .builtin .append, args := #[s, x], argTypes := #[43, 43] })
    (B : Nat) (v : Value) (L : List Nat) (hs : a.eval s = v) (hown : OwnU w B v L)
    (g c : Nat) (y : Nat) (hx : a.eval x = .slice (some ⟨g, 0, none⟩) 1 c) (hu : w.heap[g]? = some (.cells #[.int .u32 y] 28 (0, 0)))
    (hsm : L.length ≤ 10000000) (hbase : B ≤ w.heap.size)
    (h : ∀ v' w', OwnU w' B v' (L ++ [y]) → w.grownBy w' v.ownBlock → (v'.ownBlock = v.ownBlock ∨ v'.ownBlock = some w.heap.size) → wpList Try.prog ops Q rest (a.put o.dst v') w') : wpList Try.prog ops Q (o :: rest) a w := by
  obtain ⟨i, hi, hz, hsz, hby⟩ := info_u32
  refine wpList_append_own_at w hgd s x 43 ho B 28 i _ 1 4 Try.underlying43 hi hz hsz hby rfl (by omega) v L.length _ hs hown ⟨g, 0, none⟩ 1 c [.int .u32 y] hx rfl ?_ ?_ (by unfold maxLen; omega) (by omega) hbase ?_
  · intro j u hj
    match j, hj with
    | 0, hj =>
      obtain rfl : Value.int .u32 y = u := by simpa using hj
      show w.cell? ((⟨g, 0, none⟩ : Addr).add 0) = _
      rw [show (⟨g, 0, none⟩ : Addr).add 0 = ⟨g, 0, none⟩ from rfl, heap_cell hu]; rfl
    | j + 1, hj => simp at hj
  · intro u hu'
    rw [List.mem_singleton.1 hu']; rfl
  · intro v' w' h2 h3 _ h5
    refine h v' w' ?_ h3 h5
    unfold OwnU
    rw [List.map_append, List.length_append]
    exact h2

set_option maxHeartbeats 1000000 in
theorem has_any (B : Nat) (v : Value) (xs : List Nat) (y : Nat) (w : World) (h : OwnU w B v xs) (hl : xs.length ≤ 1000000) :
    Calls Try.prog 27 #[v, .int .u32 y] w fun e w' => e = .returned (.bool (decide (y ∈ xs))) ∧ w' = w := by
  obtain ⟨a, cp, rfl, -, -, -⟩ := owns_slice h
  have H : Hid (OwnU w B (.slice a xs.length cp) xs) := h
  clear h
  obtain ⟨r, hr⟩ : ∃ r, r = decide (y ∈ xs) := ⟨_, rfl⟩
  rw [← hr]
  have HR : Hid (r = decide (y ∈ xs)) := hr
  clear hr
  go_enter Try.func27, Try.ntmps27
  go_wp2_with fail
  go_loopw [5] (fun i wr => ∃ k : Nat, k ≤ xs.length ∧ i = .int .i64 k ∧ wr = w ∧ Hid (∀ j, j < k → xs[j]? ≠ some y)) (fun i _ => xs.length - (intOf i).toNat)
  case atStart => exact ⟨0, Nat.zero_le _, rfl, rfl, fun j hj => absurd hj (Nat.not_lt_zero _)⟩
  case round =>
    obtain ⟨k, hk, rfl, rfl, HK⟩ := hrel
    by_cases hlt : k < xs.length
    · obtain ⟨x, hx⟩ : ∃ x, xs[k]? = some x := ⟨_, List.getElem?_eq_getElem hlt⟩
      obtain ⟨g, c, e, hc⟩ := H.out.cell hx
      cases e
      by_cases e : x = y
      · subst e
        go_wp2_with fail
        go_ret
        exact ⟨by rw [HR.out, decide_eq_true (List.mem_of_getElem? hx)]; rfl, rfl⟩
      · have e' : ((x : Int) == (y : Int)) = false := by rw [beq_eq_false_iff_ne]; omega
        go_wp2_with fail
        refine ⟨⟨k + 1, by omega, by simp, trivial, fun j hj => ?_⟩, by simp only [intOf]; omega⟩
        by_cases ej : j = k
        · subst ej; rw [hx]; simpa using e
        · exact HK.out j (by omega)
    · obtain rfl : k = xs.length := by omega
      go_wp2_with fail
      go_ret
      refine ⟨?_, rfl⟩
      rw [HR.out, decide_eq_false]
      · rfl
      · intro hm
        obtain ⟨j, hj, e⟩ := List.getElem_of_mem hm
        exact HK.out j hj (by rw [List.getElem?_eq_getElem hj, e])

theorem own_next {K : List PX} {k A N : Nat} (hk : K[k]? = some ((A : Int), (N : Int))) (hp : Vp ((A : Int), (N : Int))) : ownN (K.take (k + 1)) = ownN (K.take k) + moreN (K.take k) A (lvN N) := by
  have e : K.take (k + 1) = K.take k ++ [((A : Int), (N : Int))] := by
    rw [List.take_add_one, hk]; rfl
  rw [e, own_perm (List.perm_append_singleton _ _)]
  have := own_cons _ hp (K.take k)
  simpa using this

theorem dom_next {K : List PX} {k A N : Nat} (hk : K[k]? = some ((A : Int), (N : Int))) (j n : Nat) : domB (K.take (k + 1)) j n = true ↔ domB (K.take k) j n = true ∨ (loN j ≤ N ∧ A / 2 ^ beN (j - 1) = n) := by
  have e : K.take (k + 1) = K.take k ++ [((A : Int), (N : Int))] := by
    rw [List.take_add_one, hk]; rfl
  rw [e, dom_app]
  simp

/-- Where Owned stands: what its rows hold. -/
def Rows2 (K : List PX) (k : Nat) (hs bs : List Nat) : Prop := (∀ y, y ∈ hs ↔ domB (K.take k) 1 y = true) ∧ (∀ y, y ∈ bs ↔ domB (K.take k) 2 y = true) ∧ hs.length ≤ k ∧ bs.length ≤ k

/-- The two rows in memory. -/
def Mem2 (w wr : World) (vh vb : Value) (hs bs : List Nat) : Prop := OwnU wr w.heap.size vh hs ∧ OwnU wr w.heap.size vb bs ∧ (∀ g, vh.ownBlock = some g → vb.ownBlock ≠ some g)

theorem Mem2.put1 {w wr w' : World} {vh vb v' : Value} {hs bs : List Nat} {y : Nat} (h : Mem2 w wr vh vb hs bs) (h1 : OwnU w' w.heap.size v' (hs ++ [y])) (h2 : wr.grownBy w' vh.ownBlock) (h3 : v'.ownBlock = vh.ownBlock ∨ v'.ownBlock = some wr.heap.size) : Mem2 w w' v' vb (hs ++ [y]) bs := by
  obtain ⟨a, b, c⟩ := h
  have far : ∀ g, vb.ownBlock = some g → some g ≠ vh.ownBlock := fun g hg e => c g e.symm hg
  refine ⟨h1, ?_, fun g hg hb => ?_⟩
  · obtain ⟨hl, hh⟩ := b
    refine ⟨hl, ?_⟩
    rcases hh with hh | ⟨g, cap, cur, rfl, hB, hg, r⟩
    · exact .inl hh
    · exact .inr ⟨g, cap, cur, rfl, hB, (h2.block g (heap_lt hg) (far g rfl)).trans hg, r⟩
  · rcases h3 with h3 | h3
    · exact c g (h3 ▸ hg) hb
    · rw [h3] at hg
      cases hg
      have := (owns_block b hb).2.1
      omega

theorem Mem2.put2 {w wr w' : World} {vh vb v' : Value} {hs bs : List Nat} {y : Nat} (h : Mem2 w wr vh vb hs bs) (h1 : OwnU w' w.heap.size v' (bs ++ [y])) (h2 : wr.grownBy w' vb.ownBlock) (h3 : v'.ownBlock = vb.ownBlock ∨ v'.ownBlock = some wr.heap.size) : Mem2 w w' vh v' hs (bs ++ [y]) := by
  obtain ⟨a, b, c⟩ := h
  have hsw : Mem2 w wr vb vh bs hs := ⟨b, a, fun g hg hh => c g hh hg⟩
  obtain ⟨a', b', c'⟩ := hsw.put1 h1 h2 h3
  exact ⟨b', a', fun g hg hh => c' g hh hg⟩

theorem Mem2.ext {w wr w' : World} {vh vb : Value} {hs bs : List Nat} (h : Mem2 w wr vh vb hs bs) (hx : Ext wr w') : Mem2 w w' vh vb hs bs := ⟨owns_later h.1 hx, owns_later h.2.1 hx, h.2.2⟩

theorem cellK {w w' : World} (hx : Ext w w') {b j : Nat} {u : Value} (hb : b < w.heap.size) (h : w.cell? ⟨b, j, none⟩ = some u) : w'.cell? ⟨b, j, none⟩ = some u := by
  rw [hx.cell (p := ⟨b, j, none⟩) hb]; exact h

set_option maxHeartbeats 4000000 in
theorem owned_any (B : Nat) (vp : Value) (K : List PX) (w : World) (h : OwnP w B vp K) (hv : ∀ p ∈ K, Vp p) (hl : K.length ≤ 100000) :
    Calls Try.prog 14 #[vp] w fun e w' => e = .returned (.int .i64 (ownN K : Nat)) ∧ Ext w w' := by
  obtain ⟨a, cp, rfl, -, -, -⟩ := owns_slice h
  have H : Hid (OwnP w B (.slice a K.length cp) K) := h
  have HV : Hid (∀ p ∈ K, Vp p) := hv
  have hnot : ∀ (x : Bool) (w : World), (Op.unary .not (.bool x)).run Try.prog w = .ok (.bool (!x)) w := fun _ _ => rfl
  clear h hv
  go_enter Try.func14, Try.ntmps14
  go_wp2_with fail
  go_loopw [3, 4, 5, 6] (fun n vh vb i wr => ∃ (k : Nat) (hs bs : List Nat), k ≤ K.length ∧ i = .int .i64 k ∧ n = .int .i64 (ownN (K.take k) : Nat) ∧ Ext w wr ∧ Hid (Mem2 w wr vh vb hs bs) ∧ Hid (Rows2 K k hs bs)) (fun _ _ _ i _ => K.length - (intOf i).toNat)
  case atStart => exact ⟨0, [], [], Nat.zero_le _, rfl, rfl, Ext.refl w, ⟨World.ownsRow_nil _ _ _ _, World.ownsRow_nil _ _ _ _, (fun g hg => by cases hg)⟩, ⟨by simp [domB], by simp [domB], Nat.le_refl _, Nat.le_refl _⟩⟩
  case round =>
    obtain ⟨k, hs, bs, hk, rfl, rfl, hx, HM, HR⟩ := hrel
    by_cases hlt : k < K.length
    · obtain ⟨p, hpk⟩ : ∃ p, K[k]? = some p := ⟨_, List.getElem?_eq_getElem hlt⟩
      have hvp := HV.out p (List.mem_of_getElem? hpk)
      have hvp' := hvp
      obtain ⟨A, N, rfl, hN, hA, hZ⟩ := hvp'
      obtain ⟨g, c', e, g0, g1⟩ := OwnP.cell H.out hpk
      cases e
      have hgl := World.block_lt_of_cell? w _ g0
      simp only at g0 g1
      have hnx := own_next hpk hvp
      have hd1 := fun n => dom_next hpk 1 n
      have hd2 := fun n => dom_next hpk 2 n
      have hok := own_le (K.take k)
      have htl : (K.take k).length ≤ 100000 := by rw [List.length_take]; omega
      obtain ⟨r1, r2, r3, r4⟩ := HR.out
      have hki : (k : Int) < (K.length : Int) := by omega
      have kh1 := has_any w.heap.size u4 hs (A / 65536) wr HM.out.1 (by omega)
      have kh2 := fun W (h : Mem2 w W u4 u5 hs bs) => has_any w.heap.size u5 bs (A / 256) W h.2.1 (by omega)
      have kh3 := fun W (v' : Value) (h : Mem2 w W v' u5 (hs ++ [A / 65536]) bs) => has_any w.heap.size u5 bs (A / 256) W h.2.1 (by omega)
      have hq1 : ((A / 65536 : Nat) : Int) = (A : Int) / 65536 := by omega
      have hq2 : ((A / 256 : Nat) : Int) = (A : Int) / 256 := by omega
      have q0 := cellK hx hgl g0
      have q1 := cellK hx hgl g1
      have HG : Hid (w.cell? ⟨g, k * 2, none⟩ = some (.int .u32 (A : Int)) ∧ w.cell? ⟨g, k * 2 + 1, none⟩ = some (.int .i64 (N : Int))) := ⟨g0, g1⟩
      rw [hq1] at kh1
      simp only [hq2] at kh2 kh3
      have hmem1 : (A / 65536 ∈ hs) ↔ domB (K.take k) 1 (plN 0 A) = true := r1 _
      have hmem2 : (A / 256 ∈ bs) ↔ domB (K.take k) 2 (plN 1 A) = true := r2 _
      generalize hoc : ownN (K.take k) = oc at *
      clear g0 g1
      have HU1 : ∀ W : World, (W.alloc (.cells #[.int .u32 ((A : Int) / 65536)] 28)).heap[W.heap.size]? = some (.cells #[.int .u32 ((A / 65536 : Nat) : Int)] 28 (0, 0)) := fun W => by rw [hq1]; exact heap_new W _
      have HU2 : ∀ W : World, (W.alloc (.cells #[.int .u32 ((A : Int) / 256)] 28)).heap[W.heap.size]? = some (.cells #[.int .u32 ((A / 256 : Nat) : Int)] 28 (0, 0)) := fun W => by rw [hq2]; exact heap_new W _
      have tok1 : Hid True := trivial
      have tok2 : Hid True := trivial
      have HD1 : Hid _ := hd1
      have HD2 : Hid _ := hd2
      have HNX : Hid _ := hnx
      have HRR : Hid (Rows2 K k hs bs) := HR.out
      clear hd1 hd2 hnx r1 r2 HR
      rcases (by omega : N ≤ 16 ∨ (16 < N ∧ N ≤ 24) ∨ 24 < N) with h | h | h
      · have i16 : (N : Int) ≤ 16 := by omega
        have i24 : (N : Int) ≤ 24 := by omega
        go_wp2_with (fail)
        refine ⟨⟨k + 1, hs, bs, by omega, by simp, ?_, hx, HM.out, ?_⟩, by simp only [intOf]; omega⟩
        · rw [HNX.out, show lvN N = 0 by unfold lvN; rw [if_pos h]]
          simp [moreN]
        · obtain ⟨r1, r2, r3, r4⟩ := HRR.out
          refine ⟨fun y => ?_, fun y => ?_, ?_, ?_⟩
          · rw [HD1.out y, ← r1 y]
            constructor
            · exact fun h => .inl h
            · rintro (h' | ⟨h', -⟩)
              · exact h'
              · simp only [loN] at h'; omega
          · rw [HD2.out y, ← r2 y]
            constructor
            · exact fun h => .inl h
            · rintro (h' | ⟨h', -⟩)
              · exact h'
              · simp only [loN] at h'; omega
          · omega
          · omega
      · have i16 : 16 < (N : Int) := by omega
        have i24 : (N : Int) ≤ 24 := by omega
        by_cases hm1 : A / 65536 ∈ hs
        · rw [decide_eq_true hm1] at kh1
          go_wp2_with ((go_at_call 27; clear tok1; refine kh1.mono ?_; rintro e w2 ⟨rfl, rfl⟩))
          refine ⟨⟨k + 1, hs, bs, by omega, by simp, ?_, hx, HM.out, ?_⟩, by simp only [intOf]; omega⟩
          · rw [HNX.out, show lvN N = 1 by unfold lvN; rw [if_neg (by omega), if_pos h.2]]
            have z1 : domB (K.take k) (0 + 1) (plN 0 A) = true := hmem1.1 hm1
            simp only [moreN, z1]
            simp <;> omega
          · obtain ⟨r1, r2, r3, r4⟩ := HRR.out
            refine ⟨fun y => ?_, fun y => ?_, ?_, ?_⟩
            · rw [HD1.out y, ← r1 y]
              constructor
              · exact fun h => .inl h
              · rintro (h' | ⟨-, h'⟩)
                · exact h'
                · rw [← h']; exact hm1
            · rw [HD2.out y, ← r2 y]
              constructor
              · exact fun h => .inl h
              · rintro (h' | ⟨h', -⟩)
                · exact h'
                · simp only [loN] at h'; omega
            · omega
            · omega
        · rw [decide_eq_false hm1] at kh1
          go_wp2_with (first | (go_at_call 27; clear tok1; refine kh1.mono ?_; rintro e w2 ⟨rfl, rfl⟩) | (at_builtin; clear tok2; refine append_u32 rfl (.tmp 30) (.tmp 37) rfl w.heap.size u4 hs rfl (owns_later HM.out.1 ((Ext.refl _).alloc _)) _ 1 (A / 65536) rfl (HU1 _) (by omega) (Nat.le_trans hx.size ((Ext.refl _).alloc _).size) ?_; intro v3 w3 hown3 hgrow3 hat3; have M3 := (HM.out.ext ((Ext.refl _).alloc _)).put1 hown3 hgrow3 hat3; have hx3 : Ext w w3 := grown_ext (hx.trans ((Ext.refl _).alloc _)) (owns_later HM.out.1 ((Ext.refl _).alloc _)) hgrow3; have q2 := cellK hx3 hgl HG.out.1; have q3 := cellK hx3 hgl HG.out.2; clear hown3 hgrow3 hat3))
          refine ⟨⟨k + 1, (hs ++ [A / 65536]), bs, by omega, by simp, ?_, hx3, M3, ?_⟩, by simp only [intOf]; omega⟩
          · rw [HNX.out, show lvN N = 1 by unfold lvN; rw [if_neg (by omega), if_pos h.2]]
            have z1 : domB (K.take k) (0 + 1) (plN 0 A) = false := by
              cases hh : domB (K.take k) (0 + 1) (plN 0 A) with
              | false => rfl
              | true => exact absurd (hmem1.2 hh) hm1
            simp only [moreN, z1]
            simp <;> omega
          · obtain ⟨r1, r2, r3, r4⟩ := HRR.out
            refine ⟨fun y => ?_, fun y => ?_, ?_, ?_⟩
            · rw [HD1.out y, List.mem_append, r1 y, List.mem_singleton]
              constructor
              · rintro (h' | h')
                · exact .inl h'
                · exact .inr ⟨by simp only [loN]; omega, h'.symm⟩
              · rintro (h' | ⟨-, h'⟩)
                · exact .inl h'
                · exact .inr h'.symm
            · rw [HD2.out y, ← r2 y]
              constructor
              · exact fun h => .inl h
              · rintro (h' | ⟨h', -⟩)
                · exact h'
                · simp only [loN] at h'; omega
            · rw [List.length_append]; simp only [List.length_cons, List.length_nil]; omega
            · omega
      · have i16 : 16 < (N : Int) := by omega
        have i24 : 24 < (N : Int) := by omega
        by_cases hm1 : A / 65536 ∈ hs
        · rw [decide_eq_true hm1] at kh1
          by_cases hm2 : A / 256 ∈ bs
          · simp only [decide_eq_true hm2] at kh2 kh3
            go_wp2_with (first | (go_at_call 27; clear tok1; refine kh1.mono ?_; rintro e w2 ⟨rfl, rfl⟩) | (go_at_call 27; refine (kh2 _ HM.out).mono ?_; rintro e w4 ⟨rfl, rfl⟩))
            refine ⟨⟨k + 1, hs, bs, by omega, by simp, ?_, hx, HM.out, ?_⟩, by simp only [intOf]; omega⟩
            · rw [HNX.out, show lvN N = 2 by unfold lvN; rw [if_neg (by omega), if_neg (by omega)]]
              have z1 : domB (K.take k) (0 + 1) (plN 0 A) = true := hmem1.1 hm1
              have z2 : domB (K.take k) (1 + 1) (plN 1 A) = true := hmem2.1 hm2
              simp only [moreN, z1, z2]
              simp <;> omega
            · obtain ⟨r1, r2, r3, r4⟩ := HRR.out
              refine ⟨fun y => ?_, fun y => ?_, ?_, ?_⟩
              · rw [HD1.out y, ← r1 y]
                constructor
                · exact fun h => .inl h
                · rintro (h' | ⟨-, h'⟩)
                  · exact h'
                  · rw [← h']; exact hm1
              · rw [HD2.out y, ← r2 y]
                constructor
                · exact fun h => .inl h
                · rintro (h' | ⟨-, h'⟩)
                  · exact h'
                  · rw [← h']; exact hm2
              · omega
              · omega
          · simp only [decide_eq_false hm2] at kh2 kh3
            go_wp2_with (first | (go_at_call 27; clear tok1; refine kh1.mono ?_; rintro e w2 ⟨rfl, rfl⟩) | (go_at_call 27; refine (kh2 _ HM.out).mono ?_; rintro e w4 ⟨rfl, rfl⟩) | (at_builtin; refine append_u32 rfl (.tmp 58) (.tmp 65) rfl w.heap.size u5 bs rfl (owns_later HM.out.2.1 ((Ext.refl _).alloc _)) _ 1 (A / 256) rfl (HU2 _) (by omega) (Nat.le_trans hx.size ((Ext.refl _).alloc _).size) ?_; intro v5 w5 hown5 hgrow5 hat5; have M5 := (HM.out.ext ((Ext.refl _).alloc _)).put2 hown5 hgrow5 hat5; have hx5 : Ext w w5 := grown_ext (hx.trans ((Ext.refl _).alloc _)) (owns_later HM.out.2.1 ((Ext.refl _).alloc _)) hgrow5; clear hown5 hgrow5 hat5))
            refine ⟨⟨k + 1, hs, (bs ++ [A / 256]), by omega, by simp, ?_, hx5, M5, ?_⟩, by simp only [intOf]; omega⟩
            · rw [HNX.out, show lvN N = 2 by unfold lvN; rw [if_neg (by omega), if_neg (by omega)]]
              have z1 : domB (K.take k) (0 + 1) (plN 0 A) = true := hmem1.1 hm1
              have z2 : domB (K.take k) (1 + 1) (plN 1 A) = false := by
                cases hh : domB (K.take k) (1 + 1) (plN 1 A) with
                | false => rfl
                | true => exact absurd (hmem2.2 hh) hm2
              simp only [moreN, z1, z2]
              simp <;> omega
            · obtain ⟨r1, r2, r3, r4⟩ := HRR.out
              refine ⟨fun y => ?_, fun y => ?_, ?_, ?_⟩
              · rw [HD1.out y, ← r1 y]
                constructor
                · exact fun h => .inl h
                · rintro (h' | ⟨-, h'⟩)
                  · exact h'
                  · rw [← h']; exact hm1
              · rw [HD2.out y, List.mem_append, r2 y, List.mem_singleton]
                constructor
                · rintro (h' | h')
                  · exact .inl h'
                  · exact .inr ⟨by simp only [loN]; omega, h'.symm⟩
                · rintro (h' | ⟨-, h'⟩)
                  · exact .inl h'
                  · exact .inr h'.symm
              · omega
              · rw [List.length_append]; simp only [List.length_cons, List.length_nil]; omega
        · rw [decide_eq_false hm1] at kh1
          by_cases hm2 : A / 256 ∈ bs
          · simp only [decide_eq_true hm2] at kh2 kh3
            go_wp2_with (first | (go_at_call 27; clear tok1; refine kh1.mono ?_; rintro e w2 ⟨rfl, rfl⟩) | (at_builtin; clear tok2; refine append_u32 rfl (.tmp 30) (.tmp 37) rfl w.heap.size u4 hs rfl (owns_later HM.out.1 ((Ext.refl _).alloc _)) _ 1 (A / 65536) rfl (HU1 _) (by omega) (Nat.le_trans hx.size ((Ext.refl _).alloc _).size) ?_; intro v3 w3 hown3 hgrow3 hat3; have M3 := (HM.out.ext ((Ext.refl _).alloc _)).put1 hown3 hgrow3 hat3; have hx3 : Ext w w3 := grown_ext (hx.trans ((Ext.refl _).alloc _)) (owns_later HM.out.1 ((Ext.refl _).alloc _)) hgrow3; have q2 := cellK hx3 hgl HG.out.1; have q3 := cellK hx3 hgl HG.out.2; clear hown3 hgrow3 hat3) | (go_at_call 27; refine (kh3 _ _ M3).mono ?_; rintro e w4 ⟨rfl, rfl⟩))
            refine ⟨⟨k + 1, (hs ++ [A / 65536]), bs, by omega, by simp, ?_, hx3, M3, ?_⟩, by simp only [intOf]; omega⟩
            · rw [HNX.out, show lvN N = 2 by unfold lvN; rw [if_neg (by omega), if_neg (by omega)]]
              have z1 : domB (K.take k) (0 + 1) (plN 0 A) = false := by
                cases hh : domB (K.take k) (0 + 1) (plN 0 A) with
                | false => rfl
                | true => exact absurd (hmem1.2 hh) hm1
              have z2 : domB (K.take k) (1 + 1) (plN 1 A) = true := hmem2.1 hm2
              simp only [moreN, z1, z2]
              simp <;> omega
            · obtain ⟨r1, r2, r3, r4⟩ := HRR.out
              refine ⟨fun y => ?_, fun y => ?_, ?_, ?_⟩
              · rw [HD1.out y, List.mem_append, r1 y, List.mem_singleton]
                constructor
                · rintro (h' | h')
                  · exact .inl h'
                  · exact .inr ⟨by simp only [loN]; omega, h'.symm⟩
                · rintro (h' | ⟨-, h'⟩)
                  · exact .inl h'
                  · exact .inr h'.symm
              · rw [HD2.out y, ← r2 y]
                constructor
                · exact fun h => .inl h
                · rintro (h' | ⟨-, h'⟩)
                  · exact h'
                  · rw [← h']; exact hm2
              · rw [List.length_append]; simp only [List.length_cons, List.length_nil]; omega
              · omega
          · simp only [decide_eq_false hm2] at kh2 kh3
            go_wp2_with (first | (go_at_call 27; clear tok1; refine kh1.mono ?_; rintro e w2 ⟨rfl, rfl⟩) | (at_builtin; clear tok2; refine append_u32 rfl (.tmp 30) (.tmp 37) rfl w.heap.size u4 hs rfl (owns_later HM.out.1 ((Ext.refl _).alloc _)) _ 1 (A / 65536) rfl (HU1 _) (by omega) (Nat.le_trans hx.size ((Ext.refl _).alloc _).size) ?_; intro v3 w3 hown3 hgrow3 hat3; have M3 := (HM.out.ext ((Ext.refl _).alloc _)).put1 hown3 hgrow3 hat3; have hx3 : Ext w w3 := grown_ext (hx.trans ((Ext.refl _).alloc _)) (owns_later HM.out.1 ((Ext.refl _).alloc _)) hgrow3; have q2 := cellK hx3 hgl HG.out.1; have q3 := cellK hx3 hgl HG.out.2; clear hown3 hgrow3 hat3) | (go_at_call 27; refine (kh3 _ _ M3).mono ?_; rintro e w4 ⟨rfl, rfl⟩) | (at_builtin; refine append_u32 rfl (.tmp 58) (.tmp 65) rfl w.heap.size u5 bs rfl (owns_later M3.2.1 ((Ext.refl _).alloc _)) _ 1 (A / 256) rfl (HU2 _) (by omega) (Nat.le_trans hx3.size ((Ext.refl _).alloc _).size) ?_; intro v5 w5 hown5 hgrow5 hat5; have M5 := (M3.ext ((Ext.refl _).alloc _)).put2 hown5 hgrow5 hat5; have hx5 : Ext w w5 := grown_ext (hx3.trans ((Ext.refl _).alloc _)) (owns_later M3.2.1 ((Ext.refl _).alloc _)) hgrow5; clear hown5 hgrow5 hat5))
            refine ⟨⟨k + 1, (hs ++ [A / 65536]), (bs ++ [A / 256]), by omega, by simp, ?_, hx5, M5, ?_⟩, by simp only [intOf]; omega⟩
            · rw [HNX.out, show lvN N = 2 by unfold lvN; rw [if_neg (by omega), if_neg (by omega)]]
              have z1 : domB (K.take k) (0 + 1) (plN 0 A) = false := by
                cases hh : domB (K.take k) (0 + 1) (plN 0 A) with
                | false => rfl
                | true => exact absurd (hmem1.2 hh) hm1
              have z2 : domB (K.take k) (1 + 1) (plN 1 A) = false := by
                cases hh : domB (K.take k) (1 + 1) (plN 1 A) with
                | false => rfl
                | true => exact absurd (hmem2.2 hh) hm2
              simp only [moreN, z1, z2]
              simp <;> omega
            · obtain ⟨r1, r2, r3, r4⟩ := HRR.out
              refine ⟨fun y => ?_, fun y => ?_, ?_, ?_⟩
              · rw [HD1.out y, List.mem_append, r1 y, List.mem_singleton]
                constructor
                · rintro (h' | h')
                  · exact .inl h'
                  · exact .inr ⟨by simp only [loN]; omega, h'.symm⟩
                · rintro (h' | ⟨-, h'⟩)
                  · exact .inl h'
                  · exact .inr h'.symm
              · rw [HD2.out y, List.mem_append, r2 y, List.mem_singleton]
                constructor
                · rintro (h' | h')
                  · exact .inl h'
                  · exact .inr ⟨by simp only [loN]; omega, h'.symm⟩
                · rintro (h' | ⟨-, h'⟩)
                  · exact .inl h'
                  · exact .inr h'.symm
              · rw [List.length_append]; simp only [List.length_cons, List.length_nil]; omega
              · rw [List.length_append]; simp only [List.length_cons, List.length_nil]; omega
    · obtain rfl : k = K.length := by omega
      go_wp2_with fail
      go_ret
      exact ⟨by rw [List.take_length]; rfl, hx⟩
end Go.Proofs.Ytlnmdlachfnmkaa.Dr
