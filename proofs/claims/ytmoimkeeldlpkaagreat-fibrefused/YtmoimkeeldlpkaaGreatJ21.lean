/- Texts joined by a program: Fib8, Fib9, FibA, ShelfM. -/
import Derived.Shelf.Bits.Mul64
import Derived.Ground.Names2Prog
import Derived.Test.YtmoimkeeldlpkaaGreatProg
import Derived.Test.YtmoimkeeldlpkaaGreatJ20
namespace Go.Proofs.YtmoimkeeldlpkaaGreat.Fb

set_option maxRecDepth 100000

open Go.RowKit Go.Proofs.YtmoimkeeldlpkaaGreat Go.Proofs.YtmoimkeeldlpkaaGreat.Rb

open Go.Proofs.YtmoimkeeldlpkaaGreat.Tri (PX Vp Row TrieR TrieRAns delL foundB tdel tset)

open Go.Proofs.YtmoimkeeldlpkaaGreat.Dr (DirAt DirAns del_at set_at keysL ownN)

set_option linter.unusedVariables false

set_option linter.unusedSimpArgs false

theorem FibIn.congr {w : World} {fb rb : Nat} {q : Option Addr} {m d : Nat} {C : Array Value} {L : List Rt} {U : List Bool} {A A' : Nat → List Rt} {Fr : List Nat} {E : Nat → Eng} {F : List Nat} (h : FibIn w fb rb q m d C L U A Fr E F) (hA : ∀ i, i < 4 → A' i = A i) : FibIn w fb rb q m d C L U A' Fr E F :=
  { h with
    eng := fun i hi => by rw [hA i hi]; exact h.eng i hi
    pf := fun i hi => by rw [hA i hi]; exact h.pf i hi }

/-- Other ways, others up: the engines as they were. -/
theorem FibIn.turn {w W : World} {fb rb rb' : Nat} {q q' : Option Addr} {m d m' d' : Nat} {C : Array Value} {L L' : List Rt} {U U' : List Bool} {A : Nat → List Rt} {Fr Fr' : List Nat} {E : Nat → Eng} {F : List Nat} (h : FibIn w fb rb q m d C L U A Fr E F) (hx : ExtS [fb] w W)
    (hC : W.heap[fb]? = some (.cells ((C.setIfInBounds 0 (.pointer (some ⟨rb', 0, none⟩))).setIfInBounds 1 (.slice q' m' d')) 72 (0, 0))) (hr : RibAt 90 w rb' L' Fr') (hg : Rb.Good L') (hu : Ups w q' m' U') (ho : OwnB w 0 (.slice q' m' d') U') (h8 : U'.length ≤ 8)
    (ql : ∀ x ∈ ubk q', x < w.heap.size) (far : ∀ x, x ∈ Fr' ∨ x ∈ ubk q' → (∀ j, j < 4 → x ∉ (E j).F) ∧ x ≠ fb) :
    FibIn W fb rb' q' m' d' ((C.setIfInBounds 0 (.pointer (some ⟨rb', 0, none⟩))).setIfInBounds 1 (.slice q' m' d')) L' U' A Fr' E (F ++ (Fr' ++ ubk q')) := by
  have cell : ∀ j, 2 ≤ j → ((C.setIfInBounds 0 (.pointer (some ⟨rb', 0, none⟩))).setIfInBounds 1 (.slice q' m' d'))[j]? = C[j]? := fun j hj => by
    rw [Array.getElem?_setIfInBounds, if_neg (by omega), Array.getElem?_setIfInBounds, if_neg (by omega)]
  refine { obj := hC, size := by rw [Array.size_setIfInBounds, Array.size_setIfInBounds]; exact h.size, c0 := ?_, c1 := ?_, cv := fun i hi => by rw [cell _ (by omega)]; exact h.cv i hi, ct := fun i hi => by rw [cell _ (by omega)]; exact h.ct i hi, cd := fun i hi => by rw [cell _ (by omega)]; exact h.cd i hi,
           rib := hr.later hx fun x hh e => (far x (.inl hh)).2 (List.mem_singleton.1 e), ups := Ups.later hu hx fun x hh e => (far x (.inr hh)).2 (List.mem_singleton.1 e), own := ho.later hx fun x hh e => (far x (.inr (by rw [blks_ubk] at hh; exact hh))).2 (List.mem_singleton.1 e), good := hg, eight := h8,
           eng := fun i hi => (h.eng i hi).later hx (fun x hh e => h.fE i hi (by rw [← List.mem_singleton.1 e]; exact hh)) fun x hh e => h.fv i hi (by rw [← List.mem_singleton.1 e]; exact hh), pf := h.pf,
           fF := List.mem_append_left _ h.fF, rF := fun x hh => List.mem_append_right _ (List.mem_append_left _ hh), uF := fun x hh => List.mem_append_right _ (List.mem_append_right _ hh), eF := fun i hi x hh => List.mem_append_left _ (h.eF i hi x hh), vF := fun i hi x hh => List.mem_append_left _ (h.vF i hi x hh), lt := fun x hh => ?_,
           fE := h.fE, rE := fun i hi x hh => (far x (.inl hh)).1 i hi, uE := fun i hi x hh => (far x (.inr hh)).1 i hi, vE := h.vE, eE := h.eE, fr := fun hh => (far fb (.inl hh)).2 rfl, fu := fun hh => (far fb (.inr hh)).2 rfl, fv := h.fv }
  · rw [Array.getElem?_setIfInBounds, if_neg (by omega), Array.getElem?_setIfInBounds, if_pos rfl, if_pos (by rw [h.size]; omega)]
  · rw [Array.getElem?_setIfInBounds, if_pos rfl, if_pos (by rw [Array.size_setIfInBounds, h.size]; omega)]
  · have := hx.size
    rcases List.mem_append.1 hh with hh | hh
    · have := h.lt x hh; omega
    · rcases List.mem_append.1 hh with hh | hh
      · have := hr.lt x hh; omega
      · have := ql x hh; omega

theorem ix4 {C : Array Value} {k : Nat} {p : Option Addr} {n c : Nat} (hk : k < 4) (hs : C.size = 4) (h : C[k]? = some (.slice p n c)) (w : World) : (Instr.index 132 (.agg C) (.int .i64 (k : Int))).run Tryz.prog w = .ok (.slice p n c) w := by
  obtain ⟨l⟩ := C
  match l, hs with
  | [v0, v1, v2, v3], _ =>
    rcases (by omega : k = 0 ∨ k = 1 ∨ k = 2 ∨ k = 3) with rfl | rfl | rfl | rfl
    · obtain rfl : v0 = .slice p n c := by simpa using h
      rfl
    · obtain rfl : v1 = .slice p n c := by simpa using h
      rfl
    · obtain rfl : v2 = .slice p n c := by simpa using h
      rfl
    · obtain rfl : v3 = .slice p n c := by simpa using h
      rfl

def actK (L : List Rt) (U : List Bool) (A : Nat → List Rt) (k : Nat) : Nat → List Rt := fun i => if i < k then actL L (i : Int) U else A i

theorem actK_next (L : List Rt) (U : List Bool) (A : Nat → List Rt) (k : Nat) : upd (actK L U A k) k (actL L (k : Int) U) = actK L U A (k + 1) := by
  funext i
  unfold upd actK
  by_cases e : i = k
  · subst e; rw [if_pos rfl, if_pos (by omega)]
  · rw [if_neg e]
    by_cases h : i < k
    · rw [if_pos h, if_pos (by omega)]
    · rw [if_neg h, if_neg (by omega)]

/-- Where change stands: the tables below k are laid. -/
structure ChgW (w wr : World) (fb rb : Nat) (q : Option Addr) (m d : Nat) (L : List Rt) (U : List Bool) (A : Nat → List Rt) (Fr F : List Nat) (E : Nat → Eng) (C4 C : Array Value) (E1 : Nat → Eng) (F1 : List Nat) (k : Nat) : Prop where
  fib : FibIn wr fb rb q m d C L U (actK L U A k) Fr E1 F1
  ext : ExtS F w wr
  sub : ∀ x ∈ F1, x ∈ F ∨ x ∈ Fr ++ ubk q ∨ w.heap.size ≤ x
  old : ∀ i, k ≤ i → i < 4 → E1 i = E i
  rows : ∀ j : Nat, j < 4 → ∃ v, C4[j]? = some v ∧ OwnR wr w.heap.size v (actL L (j : Int) U) ∧ ∀ x ∈ blks v, ∀ i, i < 4 → x ∉ (E1 i).F

theorem ChgW.step {w wr w' : World} {fb rb : Nat} {q : Option Addr} {m d : Nat} {L : List Rt} {U : List Bool} {A : Nat → List Rt} {Fr F : List Nat} {E : Nat → Eng} {C4 C : Array Value} {E1 : Nat → Eng} {F1 : List Nat} {k : Nat} (h : ChgW w wr fb rb q m d L U A Fr F E C4 C E1 F1 k) (hk : k < 4) (hfF : fb ∈ F) (hlt : ∀ x ∈ F, x < w.heap.size) (hEF : ∀ i, i < 4 → ∀ x ∈ (E i).F, x ∈ F)
    {v : Value} (hv : C4[k]? = some v) (ha : LayAns wr fb k C (E1 k) v (actL L (k : Int) U) w') : ∃ C' E' F', ChgW w w' fb rb q m d L U A Fr F E C4 C' E' F' (k + 1) := by
  obtain ⟨v', e', hv1, hv2⟩ := h.rows k hk
  rw [hv] at e'
  obtain rfl := (Option.some.inj e')
  have hfl : fb < w.heap.size := hlt fb hfF
  obtain ⟨C', e1, h1, h2, h3, h4⟩ := h.fib.step hk (hv1.base (Nat.zero_le _)) (fun j hj x hx => hv2 x hx j hj) (fun hx => by have := (hv1.lt fb hx).1; omega) (act_pf h.fib.good (k : Int) U) ha
  rw [actK_next] at h1
  have hsz := h.ext.size
  have hk1 : E1 k = E k := h.old k (Nat.le_refl _) hk
  refine ⟨C', _, _, h1, h.ext.then h2 fun b hb => ?_, fun x hx => ?_, fun i hi hi4 => ?_, fun j hj => ?_⟩
  · rcases List.mem_cons.1 hb with rfl | hb
    · exact .inl hfF
    · rw [hk1] at hb; exact .inl (hEF k hk b hb)
  · rcases List.mem_append.1 hx with hx | hx
    · exact h.sub x hx
    · rcases List.mem_append.1 hx with hx | hx
      · rcases h3 x hx with h5 | h5
        · rw [hk1] at h5; exact .inl (hEF k hk x h5)
        · exact .inr (.inr (by omega))
      · rcases h4 with h5 | h5
        · rw [h5] at hx; exact h.sub x (h.fib.vF k hk x hx)
        · rw [h5] at hx; exact .inr (.inr (hv1.lt x hx).1)
  · rw [upd_other _ _ (by omega)]; exact h.old i (by omega) hi4
  · obtain ⟨u, hu0, hu1, hu2⟩ := h.rows j hj
    refine ⟨u, hu0, hu1.later h2 fun x hx hm => ?_, fun x hx i hi => ?_⟩
    · rcases List.mem_cons.1 hm with rfl | hm
      · have := (hu1.lt x hx).1; omega
      · exact hu2 x hx k hk hm
    · by_cases e : i = k
      · subst e
        rw [upd_same]
        intro hm
        rcases h3 x hm with h5 | h5
        · exact hu2 x hx i hi h5
        · have := (hu1.lt x hx).2; omega
      · rw [upd_other _ _ e]; exact hu2 x hx i hi

theorem rows_open {w w' : World} {L : List Rt} {U : List Bool} {C : Array Value} (h : RowsK w w' L U C 4) : ∃ p0 n0 c0 p1 n1 c1 p2 n2 c2 p3 n3 c3, C = #[.slice p0 n0 c0, .slice p1 n1 c1, .slice p2 n2 c2, .slice p3 n3 c3] := by
  obtain ⟨l⟩ := C
  match l, h.size with
  | [v0, v1, v2, v3], _ =>
    have key : ∀ j (hj : j < 4), ∃ p n c, ((#[v0, v1, v2, v3] : Array Value)[j]?) = some (.slice p n c) := fun j hj => by
      obtain ⟨v, h1, h2⟩ := h.rows j hj
      obtain ⟨p, c, rfl, -, -, -⟩ := h2.slice
      exact ⟨p, _, c, h1⟩
    obtain ⟨p0, n0, c0, h0⟩ := key 0 (by omega)
    obtain ⟨p1, n1, c1, h1⟩ := key 1 (by omega)
    obtain ⟨p2, n2, c2, h2⟩ := key 2 (by omega)
    obtain ⟨p3, n3, c3, h3⟩ := key 3 (by omega)
    obtain rfl : v0 = .slice p0 n0 c0 := by simpa using h0
    obtain rfl : v1 = .slice p1 n1 c1 := by simpa using h1
    obtain rfl : v2 = .slice p2 n2 c2 := by simpa using h2
    obtain rfl : v3 = .slice p3 n3 c3 := by simpa using h3
    exact ⟨p0, n0, c0, p1, n1, c1, p2, n2, c2, p3, n3, c3, rfl⟩

def ChgAns (w : World) (fb : Nat) (F X : List Nat) (L : List Rt) (U : List Bool) (e : Ending) (w' : World) : Prop :=
  (fullB L U = true ∧ e = .returned (.int .i64 6) ∧ Ext w w') ∨ (fullB L U = false ∧ e = .returned (.int .i64 0) ∧ ∃ F', FibAt w' fb L U F' ∧ ExtS F w w' ∧ ∀ x ∈ F', x ∈ F ∨ x ∈ X ∨ w.heap.size ≤ x)

set_option maxHeartbeats 4000000 in
theorem change_any (fb rb rb' : Nat) (q q' : Option Addr) (m d m' d' : Nat) (C : Array Value) (L L' : List Rt) (U U' : List Bool) (A : Nat → List Rt) (Fr Fr' : List Nat) (E : Nat → Eng) (F : List Nat) (w : World) (h : FibIn w fb rb q m d C L U A Fr E F)
    (hr : RibAt 90 w rb' L' Fr') (hg : Rb.Good L') (hu : Ups w q' m' U') (ho : OwnB w 0 (.slice q' m' d') U') (h8 : U'.length ≤ 8) (ql : ∀ x ∈ ubk q', x < w.heap.size) (far : ∀ x, x ∈ Fr' ∨ x ∈ ubk q' → (∀ j, j < 4 → x ∉ (E j).F) ∧ x ≠ fb) :
    Calls Tryz.prog 46 #[.pointer (some ⟨fb, 0, none⟩), .pointer (some ⟨rb', 0, none⟩), .slice q' m' d'] w (ChgAns w fb F (Fr' ++ ubk q') L' U') := by
  have HF : Hid (FibIn w fb rb q m d C L U A Fr E F) := h
  have HR : Hid (RibAt 90 w rb' L' Fr' ∧ Rb.Good L' ∧ Ups w q' m' U' ∧ U'.length ≤ 8) := ⟨hr, hg, hu, h8⟩
  have HOU : Hid (OwnB w 0 (.slice q' m' d') U') := ho
  have HQ : Hid ((∀ x ∈ ubk q', x < w.heap.size) ∧ ∀ x, x ∈ Fr' ∨ x ∈ ubk q' → (∀ j, j < 4 → x ∉ (E j).F) ∧ x ≠ fb) := ⟨ql, far⟩
  have ct := try_any rb' L' Fr' q' m' d' U' w hr hg hu
  clear h hr hg hu ho h8 ql far
  go_enter Tryz.func46, Tryz.ntmps46
  go_wp2_with fail
  go_at_call 63
  refine ct.mono ?_
  rintro e w2 ⟨hx2, ⟨hfu, rfl⟩ | ⟨hnf, C4, HC4, rfl⟩⟩
  · have HFU : Hid _ := hfu
    have HB2 : Hid _ := heap_new w2 (.cells #[.slice none 0 0, .slice none 0 0, .slice none 0 0, .slice none 0 0] 132)
    clear hfu
    simp only [z4]
    go_wp2_with fail
    go_ret
    exact .inl ⟨HFU.out, rfl, hx2.alloc _⟩
  · have HNF : Hid (fullB L' U' = false) := hnf
    have H4 : Hid (RowsK w w2 L' U' C4 4) := HC4
    clear hnf HC4 ct
    obtain ⟨p0, n0, c0, p1, n1, c1, p2, n2, c2, p3, n3, c3, rfl⟩ := rows_open H4.out
    have hA2 : Ext w2 (w2.alloc (.cells #[.slice p0 n0 c0, .slice p1 n1 c1, .slice p2 n2 c2, .slice p3 n3 c3] 132)) := (Ext.refl w2).alloc _
    have HB2 : Hid ((w2.alloc (.cells #[.slice p0 n0 c0, .slice p1 n1 c1, .slice p2 n2 c2, .slice p3 n3 c3] 132)).heap[w2.heap.size]? = some (.cells #[.slice p0 n0 c0, .slice p1 n1 c1, .slice p2 n2 c2, .slice p3 n3 c3] 132 (0, 0))) := heap_new w2 _
    have hx3 := hx2.trans hA2
    have HF3 : Hid _ := HF.out.ext hx3
    have e0 : (w2.alloc (.cells #[.slice p0 n0 c0, .slice p1 n1 c1, .slice p2 n2 c2, .slice p3 n3 c3] 132)).cell? ⟨fb, 0, none⟩ = some (.pointer (some ⟨rb, 0, none⟩)) := by rw [heap_cell HF3.out.obj, HF.out.c0]
    have e1 : (w2.alloc (.cells #[.slice p0 n0 c0, .slice p1 n1 c1, .slice p2 n2 c2, .slice p3 n3 c3] 132)).cell? ⟨fb, 1, none⟩ = some (.slice q m d) := by rw [heap_cell HF3.out.obj, HF.out.c1]
    have f0 : ∀ k, (w2.alloc (.cells #[.slice p0 n0 c0, .slice p1 n1 c1, .slice p2 n2 c2, .slice p3 n3 c3] 132)).frozen? ⟨fb, k, none⟩ = false := fun k => heap_frozen HF3.out.obj
    have hx5 : ExtS [fb] (w2.alloc (.cells #[.slice p0 n0 c0, .slice p1 n1 c1, .slice p2 n2 c2, .slice p3 n3 c3] 132)) (((w2.alloc (.cells #[.slice p0 n0 c0, .slice p1 n1 c1, .slice p2 n2 c2, .slice p3 n3 c3] 132)).setCell ⟨fb, 0, none⟩ (.pointer (some ⟨rb', 0, none⟩))).setCell ⟨fb, 1, none⟩ (.slice q' m' d')) := (ExtS.setCell (ExtS.refl [fb] _) (p := ⟨fb, 0, none⟩) (.inl (by simp)) _).setCell (p := ⟨fb, 1, none⟩) (.inl (by simp)) _
    have hfl : fb < w2.heap.size := Nat.lt_of_lt_of_le (heap_lt HF.out.obj) hx2.size
    have HN5 : Hid ((((w2.alloc (.cells #[.slice p0 n0 c0, .slice p1 n1 c1, .slice p2 n2 c2, .slice p3 n3 c3] 132)).setCell ⟨fb, 0, none⟩ (.pointer (some ⟨rb', 0, none⟩))).setCell ⟨fb, 1, none⟩ (.slice q' m' d')).heap[w2.heap.size]? = some (.cells #[.slice p0 n0 c0, .slice p1 n1 c1, .slice p2 n2 c2, .slice p3 n3 c3] 132 (0, 0))) := hx5.heap (by simp; omega) HB2.out
    have HF5 : Hid (FibIn (((w2.alloc (.cells #[.slice p0 n0 c0, .slice p1 n1 c1, .slice p2 n2 c2, .slice p3 n3 c3] 132)).setCell ⟨fb, 0, none⟩ (.pointer (some ⟨rb', 0, none⟩))).setCell ⟨fb, 1, none⟩ (.slice q' m' d')) fb rb' q' m' d' ((C.setIfInBounds 0 (.pointer (some ⟨rb', 0, none⟩))).setIfInBounds 1 (.slice q' m' d')) L' U' A Fr' E (F ++ (Fr' ++ ubk q'))) :=
      HF3.out.turn hx5 (heap_set (heap_set HF3.out.obj _) _) (HR.out.1.ext hx3) HR.out.2.1 (HR.out.2.2.1.ext hx3) (HOU.out.ext hx3) HR.out.2.2.2 (fun x hx => Nat.lt_of_lt_of_le (HQ.out.1 x hx) hx3.size) HQ.out.2
    have HX5 : Hid (ExtS F w (((w2.alloc (.cells #[.slice p0 n0 c0, .slice p1 n1 c1, .slice p2 n2 c2, .slice p3 n3 c3] 132)).setCell ⟨fb, 0, none⟩ (.pointer (some ⟨rb', 0, none⟩))).setCell ⟨fb, 1, none⟩ (.slice q' m' d'))) := (hx3.toS F).then hx5 fun b hb => .inl (by rw [List.mem_singleton.1 hb]; exact HF.out.fF)
    have HK5 : Hid (RowsK w (((w2.alloc (.cells #[.slice p0 n0 c0, .slice p1 n1 c1, .slice p2 n2 c2, .slice p3 n3 c3] 132)).setCell ⟨fb, 0, none⟩ (.pointer (some ⟨rb', 0, none⟩))).setCell ⟨fb, 1, none⟩ (.slice q' m' d')) L' U' #[.slice p0 n0 c0, .slice p1 n1 c1, .slice p2 n2 c2, .slice p3 n3 c3] 4) :=
      ⟨rfl, fun j hj => by
        obtain ⟨v, h1, h2⟩ := H4.out.rows j hj
        refine ⟨v, h1, (h2.ext hA2).later hx5 fun g hg e => ?_⟩
        have := (h2.lt g hg).1
        have := heap_lt HF.out.obj
        rw [List.mem_singleton.1 e] at *
        omega, H4.out.one⟩
    clear hx5 hfl hx3 hA2
    go_wp2_with (refine wpl_load (by rfl) 132 _ rfl w2.heap.size #[.slice p0 n0 c0, .slice p1 n1 c1, .slice p2 n2 c2, .slice p3 n3 c3] _ _ rfl HN5.out Tryz.underlying132 rfl arr4_size ?_)
    clear e0 e1 f0
    generalize hC4 : (#[.slice p0 n0 c0, .slice p1 n1 c1, .slice p2 n2 c2, .slice p3 n3 c3] : Array Value) = C4 at *
    clear hC4 HN5 HB2 HF3 H4
    generalize (((w2.alloc (.cells C4 132)).setCell ⟨fb, 0, none⟩ (.pointer (some ⟨rb', 0, none⟩))).setCell ⟨fb, 1, none⟩ (.slice q' m' d')) = W5 at *
    have HW0 : Hid (ChgW w W5 fb rb' q' m' d' L' U' A Fr' F E C4 ((C.setIfInBounds 0 (.pointer (some ⟨rb', 0, none⟩))).setIfInBounds 1 (.slice q' m' d')) E (F ++ (Fr' ++ ubk q')) 0) :=
      ⟨HF5.out.congr fun i hi => by unfold actK; rw [if_neg (by omega)], HX5.out, fun x hx => (List.mem_append.1 hx).imp_right .inl, fun i _ _ => rfl, fun j hj => by
        obtain ⟨v, h1, h2⟩ := HK5.out.rows j hj
        exact ⟨v, h1, h2, fun x hx i hi hm => by have := (h2.lt x hx).1; have := HF.out.lt x (HF.out.eF i hi x hm); omega⟩⟩
    have HS4 : Hid (C4.size = 4) := HK5.out.size
    clear HF5 HX5 HK5
    go_loopg [29] 4 (fun kx s29 wr => ∃ (k : Nat) (C1 : Array Value) (E1 : Nat → Eng) (F1 : List Nat), s29 = .int .i64 k ∧ k ≤ 4 ∧ 4 - k ≤ kx ∧ Hid (ChgW w wr fb rb' q' m' d' L' U' A Fr' F E C4 C1 E1 F1 k))
    case atStart => exact ⟨0, _, _, _, rfl, by omega, by omega, HW0⟩
    case round =>
      obtain ⟨k, C1, E1, F1, rfl, hk4, hkx, HW⟩ := hrel
      clear HW0
      by_cases hlt : k < 4
      · have hki : (k : Int) < 4 := by omega
        obtain ⟨v, hv1, hv2, hv3⟩ := HW.out.rows k hlt
        obtain ⟨p, c, rfl, -, -, -⟩ := hv2.slice
        have hix := ix4 hlt HS4.out hv1
        have HV1 : Hid _ := hv1
        have cl := lay_any fb k rb' C1 q' m' d' L' U' Fr' (E1 k) (.slice p (actL L' (k : Int) U').length c) (actK L' U' A k k) (actL L' (k : Int) U') wr (HW.out.fib.lay hlt (hv2.base (Nat.zero_le _)) fun x hx => hv3 x hx k hlt) (HW.out.fib.eng k hlt) hlt (HW.out.fib.pf k hlt) HR.out.2.1 rfl (fullB_le HNF.out hlt)
        clear hv1 hv2 hv3
        go_wp2_with (go_at_call 64; refine cl.mono ?_; rintro x w6 ⟨rfl, hla⟩; have HLA : Hid (LayAns wr fb k C1 (E1 k) (.slice p (actL L' (k : Int) U').length c) (actL L' (k : Int) U') w6) := hla; clear hla)
        obtain ⟨C2, E2, F2, hW2⟩ := HW.out.step hlt HF.out.fF HF.out.lt HF.out.eF HV1.out HLA.out
        go_roundg (4 - (k + 1))
        case measure => omega
        case rel => exact ⟨k + 1, C2, E2, F2, by go_num, by omega, Nat.le_refl _, hW2⟩
      · obtain rfl : k = 4 := by omega
        go_wp2_with fail
        go_ret
        have hlen := HW.out.fib.ups.len
        have hf := HW.out.fib
        rw [← hlen] at hf
        exact .inr ⟨HNF.out, rfl, F1, ⟨rb', q', d', C1, Fr', E1, hf.congr fun i hi => by unfold actK; rw [if_pos hi]⟩, HW.out.ext, HW.out.sub⟩
end Go.Proofs.YtmoimkeeldlpkaaGreat.Fb

namespace Go.Proofs.YtmoimkeeldlpkaaGreat.Fb

set_option maxRecDepth 100000

open Go.RowKit Go.Proofs.YtmoimkeeldlpkaaGreat Go.Proofs.YtmoimkeeldlpkaaGreat.Rb

open Go.Proofs.YtmoimkeeldlpkaaGreat.Tri (PX Vp Row TrieR tlong ansO lastF covL)

open Go.Proofs.YtmoimkeeldlpkaaGreat.Dr (DirAt keysL ownN look_at numO blocks_at)

set_option linter.unusedVariables false

set_option linter.unusedSimpArgs false

/-- Of no table nothing is active. -/
theorem act_table {L : List Rt} (h : Rb.Good L) {t : Int} {U : List Bool} (ht : t < 0 ∨ 4 ≤ t) : actL L t U = [] := by
  cases hl : actL L t U with
  | nil => rfl
  | cons s M =>
    have hs : s ∈ actL L t U := by rw [hl]; exact List.mem_cons_self
    obtain ⟨h1, h2, h3, h4⟩ := act_is hs
    have := (isR_iff s).1 (h.is s h2)
    omega

theorem byTrie_no (fb : Nat) (t a : Int) (w : World) (ht : t < 0 ∨ 4 ≤ t) : Calls Tryz.prog 18 #[.pointer (some ⟨fb, 0, none⟩), .int .i64 t, .int .u32 a] w (BestAns w none) := by
  have hA : Ext w (w.alloc (.cells #[.int .i64 0, .int .u32 0, .int .i64 0, .int .i64 0, .int .u32 0, .int .i64 0] 33)) := (Ext.refl w).alloc _
  have HB : Hid _ := heap_new w (.cells #[.int .i64 0, .int .u32 0, .int .i64 0, .int .i64 0, .int .u32 0, .int .i64 0] 33)
  have c0 := fun W => of_none fb t W ht
  go_enter Tryz.func18, Tryz.ntmps18
  go_wp2_with (first
    | (go_at_call 40; refine (c0 _).mono ?_; rintro e w1 ⟨rfl, hw⟩; obtain rfl := hw.symm; clear hw)
    | (refine wpl_store (by rfl) 33 _ _ rfl rfl 6 w.heap.size #[.int .i64 zeroR.t, .int .u32 zeroR.a, .int .i64 zeroR.l, .int .i64 zeroR.i, .int .u32 zeroR.g, .int .i64 zeroR.m] _ _ rfl rfl HB.out rt_size rfl rfl (by simp [Value.oneCell']) ?_; intro w5 hx5 k5))
  exact bodyPost_ret (results_two Tryz.results18 _ rfl k5 Tryz.underlying33 rfl rt_size) rfl ⟨rfl, ExtX.ext hA hx5 (Nat.le_refl _)⟩

theorem byDir_no (fb : Nat) (t a : Int) (w : World) (ht : t < 0 ∨ 4 ≤ t) : Calls Tryz.prog 19 #[.pointer (some ⟨fb, 0, none⟩), .int .i64 t, .int .u32 a] w (BestAns w none) := by
  have hA : Ext w (w.alloc (.cells #[.int .i64 0, .int .u32 0, .int .i64 0, .int .i64 0, .int .u32 0, .int .i64 0] 33)) := (Ext.refl w).alloc _
  have HB : Hid _ := heap_new w (.cells #[.int .i64 0, .int .u32 0, .int .i64 0, .int .i64 0, .int .u32 0, .int .i64 0] 33)
  have c0 := fun W => of_none fb t W ht
  go_enter Tryz.func19, Tryz.ntmps19
  go_wp2_with (first
    | (go_at_call 40; refine (c0 _).mono ?_; rintro e w1 ⟨rfl, hw⟩; obtain rfl := hw.symm; clear hw)
    | (refine wpl_store (by rfl) 33 _ _ rfl rfl 6 w.heap.size #[.int .i64 zeroR.t, .int .u32 zeroR.a, .int .i64 zeroR.l, .int .i64 zeroR.i, .int .u32 zeroR.g, .int .i64 zeroR.m] _ _ rfl rfl HB.out rt_size rfl rfl (by simp [Value.oneCell']) ?_; intro w5 hx5 k5))
  exact bodyPost_ret (results_two Tryz.results19 _ rfl k5 Tryz.underlying33 rfl rt_size) rfl ⟨rfl, ExtX.ext hA hx5 (Nat.le_refl _)⟩

/-- What way is asked, by what was found. -/
theorem way_of {w : World} {fb i : Nat} {A : List Rt} {v : Value} (a : Int) (a0 : 0 ≤ a) (a1 : a ≤ 4294967295) (hA : Pf A) (hv : w.cell? ⟨fb, 2 + i * 3, none⟩ = some v) (hO : OwnR w 0 v A) : ∃ (n : Int) (ok : Bool), (match lastF none (covL (rowOf A) (a, 32)) with | none => (0, false) | some x => (x.2, true)) = (n, ok) ∧
    ∀ W, Ext w W → Calls Tryz.prog 42 #[.pointer (some ⟨fb, 2 + i * 3, none⟩), .int .i64 n, .bool ok] W (BestAns W (lookO A a)) := by
  obtain ⟨p, c, rfl, -, -, hR⟩ := hO.slice
  cases hl : lastF none (covL (rowOf A) (a, 32)) with
  | none =>
    refine ⟨0, false, rfl, fun W hx => ?_⟩
    have e : lookO A a = none := by unfold lookO; rw [hl]
    rw [e]
    exact way_no _ 0 W
  | some x =>
    obtain ⟨k, r, h1, h2, h3⟩ := last_row hA a0 a1 hl
    refine ⟨x.2, true, rfl, fun W hx => ?_⟩
    rw [h3, h2]
    have hc : W.cell? ⟨fb, 2 + i * 3, none⟩ = some (.slice p A.length c) := by rw [hx.below.cell (p := ⟨fb, 2 + i * 3, none⟩) (block_lt hv)]; exact hv
    exact way_yes fb (2 + i * 3) p A.length c A k r W hc (hR.ext hx) h1

set_option maxHeartbeats 1000000 in
theorem byTrie_at (fb i : Nat) (a : Int) (L : List Rt) (U : List Bool) (F : List Nat) (w : World) (h : FibAt w fb L U F) (hi : i < 4) (a0 : 0 ≤ a) (a1 : a ≤ 4294967295) : Calls Tryz.prog 18 #[.pointer (some ⟨fb, 0, none⟩), .int .i64 (i : Int), .int .u32 a] w (BestAns w (lookO (actL L (i : Int) U) a)) := by
  obtain ⟨rb, q, d, C, Fr, E, h⟩ := h
  have hA : Ext w (w.alloc (.cells #[.int .i64 0, .int .u32 0, .int .i64 0, .int .i64 0, .int .u32 0, .int .i64 0] 33)) := (Ext.refl w).alloc _
  have HB : Hid _ := heap_new w (.cells #[.int .i64 0, .int .u32 0, .int .i64 0, .int .i64 0, .int .u32 0, .int .i64 0] 33)
  have h' := h.ext hA
  have hct : (w.alloc (.cells #[.int .i64 0, .int .u32 0, .int .i64 0, .int .i64 0, .int .u32 0, .int .i64 0] 33)).cell? ⟨fb, 2 + i * 3 + 1, none⟩ = some (.pointer (some ⟨(E i).tb, 0, none⟩)) := by rw [heap_cell h'.obj, h'.ct i hi]
  have hcv : (w.alloc (.cells #[.int .i64 0, .int .u32 0, .int .i64 0, .int .i64 0, .int .u32 0, .int .i64 0] 33)).cell? ⟨fb, 2 + i * 3, none⟩ = some (E i).v := by rw [heap_cell h'.obj, h'.cv i hi]
  obtain ⟨n, ok, hno, cw⟩ := way_of a a0 a1 (h'.pf i hi) hcv (h'.eng i hi).row
  have c0 := fun W => of_any fb i W hi
  have c1 := tlong (h'.eng i hi).tree a a0 a1
  have hans : ∃ p0 p1, ansO (lastF none (covL (rowOf (actL L (i : Int) U)) (a, 32))) = .tuple #[.agg #[.int .u32 p0, .int .i64 p1], .int .i64 n, .bool ok] := by
    cases hl : lastF none (covL (rowOf (actL L (i : Int) U)) (a, 32)) with
    | none => rw [hl] at hno; cases hno; exact ⟨0, 0, rfl⟩
    | some x => rw [hl] at hno; cases hno; exact ⟨_, _, rfl⟩
  obtain ⟨p0, p1, hans⟩ := hans
  rw [hans] at c1
  clear hans hno h h' hcv
  generalize lookO (actL L (i : Int) U) a = oo at *
  go_enter Tryz.func18, Tryz.ntmps18
  go_wp2_with (first
    | (go_at_call 40; refine (c0 _).mono ?_; rintro e w1 ⟨rfl, hw⟩; obtain rfl := hw.symm; clear hw)
    | (go_at_call 41; refine c1.mono ?_; rintro e w2 ⟨rfl, hx2⟩)
    | (go_at_call 42; refine (cw _ (hx2.alloc _)).mono ?_; rintro e w3 ⟨rfl, hx3⟩; have hx4 := (hx2.alloc _).trans hx3; have HB4 : Hid _ := hx4.heap HB.out)
    | (refine wpl_store (by rfl) 33 _ _ rfl rfl 6 w.heap.size #[.int .i64 (theR oo).t, .int .u32 (theR oo).a, .int .i64 (theR oo).l, .int .i64 (theR oo).i, .int .u32 (theR oo).g, .int .i64 (theR oo).m] _ _ rfl rfl HB4.out rt_size rfl rfl (by simp [Value.oneCell']) ?_; intro w5 hx5 k5))
  exact bodyPost_ret (results_two Tryz.results18 _ rfl k5 Tryz.underlying33 rfl rt_size) rfl ⟨rfl, ExtX.ext (hA.trans hx4) hx5 (Nat.le_refl _)⟩

set_option maxHeartbeats 1000000 in
theorem byDir_at (fb i : Nat) (a : Int) (L : List Rt) (U : List Bool) (F : List Nat) (w : World) (h : FibAt w fb L U F) (hi : i < 4) (a0 : 0 ≤ a) (a1 : a ≤ 4294967295) : Calls Tryz.prog 19 #[.pointer (some ⟨fb, 0, none⟩), .int .i64 (i : Int), .int .u32 a] w (BestAns w (lookO (actL L (i : Int) U) a)) := by
  obtain ⟨rb, q, d, C, Fr, E, h⟩ := h
  have hA : Ext w (w.alloc (.cells #[.int .i64 0, .int .u32 0, .int .i64 0, .int .i64 0, .int .u32 0, .int .i64 0] 33)) := (Ext.refl w).alloc _
  have HB : Hid _ := heap_new w (.cells #[.int .i64 0, .int .u32 0, .int .i64 0, .int .i64 0, .int .u32 0, .int .i64 0] 33)
  have h' := h.ext hA
  have hcd : (w.alloc (.cells #[.int .i64 0, .int .u32 0, .int .i64 0, .int .i64 0, .int .u32 0, .int .i64 0] 33)).cell? ⟨fb, 2 + i * 3 + 2, none⟩ = some (.pointer (some ⟨(E i).db, 0, none⟩)) := by rw [heap_cell h'.obj, h'.cd i hi]
  have hcv : (w.alloc (.cells #[.int .i64 0, .int .u32 0, .int .i64 0, .int .i64 0, .int .u32 0, .int .i64 0] 33)).cell? ⟨fb, 2 + i * 3, none⟩ = some (E i).v := by rw [heap_cell h'.obj, h'.cv i hi]
  obtain ⟨n, ok, hno, cw⟩ := way_of a a0 a1 (h'.pf i hi) hcv (h'.eng i hi).row
  have c0 := fun W => of_any fb i W hi
  have c1 := look_at (h'.eng i hi).dir a a0 a1
  have hans : numO (lastF none (covL (rowOf (actL L (i : Int) U)) (a, 32))) = .tuple #[.int .i64 n, .bool ok] := by
    cases hl : lastF none (covL (rowOf (actL L (i : Int) U)) (a, 32)) with
    | none => rw [hl] at hno; cases hno; rfl
    | some x => rw [hl] at hno; cases hno; rfl
  rw [hans] at c1
  clear hans hno h h' hcv
  generalize lookO (actL L (i : Int) U) a = oo at *
  go_enter Tryz.func19, Tryz.ntmps19
  go_wp2_with (first
    | (go_at_call 40; refine (c0 _).mono ?_; rintro e w1 ⟨rfl, hw⟩; obtain rfl := hw.symm; clear hw)
    | (go_at_call 43; refine c1.mono ?_; rintro e w2 ⟨rfl, hw⟩; obtain rfl := hw.symm; clear hw)
    | (go_at_call 42; refine (cw _ (Ext.refl _)).mono ?_; rintro e w3 ⟨rfl, hx3⟩; have HB4 : Hid _ := hx3.heap HB.out)
    | (refine wpl_store (by rfl) 33 _ _ rfl rfl 6 w.heap.size #[.int .i64 (theR oo).t, .int .u32 (theR oo).a, .int .i64 (theR oo).l, .int .i64 (theR oo).i, .int .u32 (theR oo).g, .int .i64 (theR oo).m] _ _ rfl rfl HB4.out rt_size rfl rfl (by simp [Value.oneCell']) ?_; intro w5 hx5 k5))
  exact bodyPost_ret (results_two Tryz.results19 _ rfl k5 Tryz.underlying33 rfl rt_size) rfl ⟨rfl, ExtX.ext (hA.trans hx3) hx5 (Nat.le_refl _)⟩

/-- The way to an address, in a table. -/
def wayO (L : List Rt) (U : List Bool) (t a : Int) : Option Rt := lookO (actL L t U) a

theorem way_table {L : List Rt} (h : Rb.Good L) {t : Int} {U : List Bool} (a : Int) (ht : t < 0 ∨ 4 ≤ t) : wayO L U t a = none := by
  unfold wayO
  rw [act_table h ht]
  unfold lookO rowOf rowF covL
  split <;> first | rfl | (rename_i x hx; revert hx; split <;> simp [lastF])

theorem byTrie_any (fb : Nat) (t a : Int) (L : List Rt) (U : List Bool) (F : List Nat) (w : World) (h : FibAt w fb L U F) (a0 : 0 ≤ a) (a1 : a ≤ 4294967295) : Calls Tryz.prog 18 #[.pointer (some ⟨fb, 0, none⟩), .int .i64 t, .int .u32 a] w (BestAns w (wayO L U t a)) := by
  by_cases ht : t < 0 ∨ 4 ≤ t
  · rw [way_table h.good a ht]
    exact byTrie_no fb t a w ht
  · obtain ⟨i, rfl⟩ : ∃ i : Nat, t = (i : Int) := ⟨t.toNat, by omega⟩
    exact byTrie_at fb i a L U F w h (by omega) a0 a1

theorem byDir_any (fb : Nat) (t a : Int) (L : List Rt) (U : List Bool) (F : List Nat) (w : World) (h : FibAt w fb L U F) (a0 : 0 ≤ a) (a1 : a ≤ 4294967295) : Calls Tryz.prog 19 #[.pointer (some ⟨fb, 0, none⟩), .int .i64 t, .int .u32 a] w (BestAns w (wayO L U t a)) := by
  by_cases ht : t < 0 ∨ 4 ≤ t
  · rw [way_table h.good a ht]
    exact byDir_no fb t a w ht
  · obtain ⟨i, rfl⟩ : ∃ i : Nat, t = (i : Int) := ⟨t.toNat, by omega⟩
    exact byDir_at fb i a L U F w h (by omega) a0 a1

theorem look_any (fb : Nat) (t a : Int) (L : List Rt) (U : List Bool) (F : List Nat) (w : World) (h : FibAt w fb L U F) (a0 : 0 ≤ a) (a1 : a ≤ 4294967295) : Calls Tryz.prog 16 #[.pointer (some ⟨fb, 0, none⟩), .int .i64 t, .int .u32 a] w (BestAns w (wayO L U t a)) := by
  have hA : Ext w (w.alloc (.cells #[.int .i64 0, .int .u32 0, .int .i64 0, .int .i64 0, .int .u32 0, .int .i64 0] 33)) := (Ext.refl w).alloc _
  have HB : Hid _ := heap_new w (.cells #[.int .i64 0, .int .u32 0, .int .i64 0, .int .i64 0, .int .u32 0, .int .i64 0] 33)
  have c0 := byDir_any fb t a L U F _ (h.ext hA) a0 a1
  clear h
  generalize wayO L U t a = oo at *
  go_enter Tryz.func16, Tryz.ntmps16
  go_wp2_with (first
    | (go_at_call 19; refine c0.mono ?_; rintro e w3 ⟨rfl, hx3⟩; have HB4 : Hid _ := hx3.heap HB.out)
    | (refine wpl_store (by rfl) 33 _ _ rfl rfl 6 w.heap.size #[.int .i64 (theR oo).t, .int .u32 (theR oo).a, .int .i64 (theR oo).l, .int .i64 (theR oo).i, .int .u32 (theR oo).g, .int .i64 (theR oo).m] _ _ rfl rfl HB4.out rt_size rfl rfl (by simp [Value.oneCell']) ?_; intro w5 hx5 k5))
  exact bodyPost_ret (results_two Tryz.results16 _ rfl k5 Tryz.underlying33 rfl rt_size) rfl ⟨rfl, ExtX.ext (hA.trans hx3) hx5 (Nat.le_refl _)⟩

theorem fblocks_any (fb : Nat) (t : Int) (L : List Rt) (U : List Bool) (F : List Nat) (w : World) (h : FibAt w fb L U F) : Calls Tryz.prog 27 #[.pointer (some ⟨fb, 0, none⟩), .int .i64 t] w fun e w' => e = .returned (.int .i64 (ownA (actL L t U) : Nat)) ∧ w' = w := by
  by_cases ht : t < 0 ∨ 4 ≤ t
  · rw [act_table h.good ht]
    have c0 := fun W => of_none fb t W ht
    clear h
    go_enter Tryz.func27, Tryz.ntmps27
    go_wp2_with (go_at_call 40; refine (c0 _).mono ?_; rintro e w1 ⟨rfl, hw⟩; obtain rfl := hw.symm; clear hw)
    go_ret
    exact ⟨rfl, rfl⟩
  · obtain ⟨i, rfl⟩ : ∃ i : Nat, t = (i : Int) := ⟨t.toNat, by omega⟩
    have hi : i < 4 := by omega
    obtain ⟨rb, q, d, C, Fr, E, h⟩ := h
    have c0 := fun W => of_any fb i W hi
    have c1 := blocks_at (h.eng i hi).dir
    rw [own_row] at c1
    have hcd : w.cell? ⟨fb, 2 + i * 3 + 2, none⟩ = some (.pointer (some ⟨(E i).db, 0, none⟩)) := by rw [heap_cell h.obj, h.cd i hi]
    clear h ht
    go_enter Tryz.func27, Tryz.ntmps27
    go_wp2_with (first
      | (go_at_call 40; refine (c0 _).mono ?_; rintro e w1 ⟨rfl, hw⟩; obtain rfl := hw.symm; clear hw)
      | (go_at_call 51; refine c1.mono ?_; rintro e w2 ⟨rfl, hw⟩; obtain rfl := hw.symm; clear hw))
    go_ret
    exact ⟨rfl, rfl⟩

theorem fall_any (fb : Nat) (L : List Rt) (U : List Bool) (F : List Nat) (w : World) (h : FibAt w fb L U F) : Calls Tryz.prog 20 #[.pointer (some ⟨fb, 0, none⟩)] w (RowNew w L) := by
  obtain ⟨rb, q, d, C, Fr, E, h⟩ := h
  have c1 := all_any rb L Fr w h.rib (by have := h.good.len; omega)
  have h0 : w.cell? ⟨fb, 0, none⟩ = some (.pointer (some ⟨rb, 0, none⟩)) := by rw [heap_cell h.obj, h.c0]
  clear h
  go_enter Tryz.func20, Tryz.ntmps20
  go_wp2_with (go_at_call 44; refine c1.mono ?_; rintro e w1 ⟨v', rfl, ho, hx⟩)
  go_ret
  exact ⟨v', rfl, ho, hx⟩
end Go.Proofs.YtmoimkeeldlpkaaGreat.Fb

namespace Go.Proofs.YtmoimkeeldlpkaaGreat.Fb

set_option maxRecDepth 100000

open Go.RowKit Go.Proofs.YtmoimkeeldlpkaaGreat Go.Proofs.YtmoimkeeldlpkaaGreat.Rb

open Go.Proofs.YtmoimkeeldlpkaaGreat.Tri (PX Vp Row)

set_option linter.unusedVariables false

set_option linter.unusedSimpArgs false

/-! Plainly. -/

def hasB (U : List Bool) (i : Int) : Bool := decide (0 ≤ i) && decide (i < (U.length : Int))

def addF (L : List Rt) (U : List Bool) (r : Rt) : Int × List Rt :=
  if hasB U r.i = false then (1, L) else if addE L r = 0 then (if fullB (addS L r) U = true then (6, L) else (0, addS L r)) else (addE L r, L)

def setF (L : List Rt) (U : List Bool) (i : Int) (b : Bool) : Int × List Bool :=
  if hasB U i = false then (1, U) else if fullB L (U.set i.toNat b) = true then (6, U) else (0, U.set i.toNat b)

theorem ownA_sub {A B : List Rt} (h : ∀ x ∈ A, ∃ y ∈ B, pxR y = pxR x) : ownA A ≤ ownA B := by
  unfold ownA
  refine own_sub fun p hp => ?_
  obtain ⟨x, hx, rfl⟩ := List.mem_map.1 hp
  obtain ⟨y, hy, e⟩ := h x hx
  exact List.mem_map.2 ⟨y, hy, e⟩

/-- Fewer ways, fewer up: no more blocks. -/
theorem fullB_sub {L L' : List Rt} {U U' : List Bool} (hL : ∀ x ∈ L', x ∈ L) (hU : ∀ i, upB U' i = true → upB U i = true) (h : fullB L U = false) : fullB L' U' = false := by
  refine fullB_false fun k hk => Nat.le_trans (ownA_sub fun x hx => ?_) (fullB_le h hk)
  obtain ⟨h1, h2, h3, h4⟩ := act_is hx
  have hs : selB (k : Int) x.a x.l x = true := (selB_iff _ _ _ _).2 ⟨h3, rfl, rfl⟩
  obtain ⟨b, hb, -⟩ := bestL_best (U := U) (R := L.filter (selB (k : Int) x.a x.l)) (List.mem_filter.2 ⟨hL x h2, hs⟩) (hU _ h4)
  obtain ⟨s, hs1, hs2⟩ := act_gone (L := L) (t := (k : Int)) (U := U) (r := x) (by unfold bestO; rw [hb]; rfl)
  exact ⟨s, hs1, hs2⟩

theorem delR_sub : ∀ (L : List Rt) (r : Rt), ∀ x ∈ delR L r, x ∈ L
  | [], r, x, hx => hx
  | y :: L, r, x, hx => by
    unfold delR at hx
    split at hx
    · rcases List.mem_cons.1 hx with rfl | h
      · exact List.mem_cons_self
      · exact List.mem_cons_of_mem _ (delR_sub L r x h)
    · split at hx
      · exact hx
      · exact List.mem_cons_of_mem _ hx

theorem delS_sub {L : List Rt} {r : Rt} : ∀ x ∈ delS L r, x ∈ L := by
  unfold delS
  split
  · intro x hx
    exact delR_sub _ _ x hx
  · exact fun x hx => hx

theorem del_full {L : List Rt} {U : List Bool} (r : Rt) (h : fullB L U = false) : fullB (delS L r) U = false := fullB_sub delS_sub (fun _ h => h) h

/-! In memory. -/

theorem OwnB.put {w : World} {g c i : Nat} {U : List Bool} {B : Nat} (h : OwnB w B (.slice (some ⟨g, 0, none⟩) U.length c) U) (b : Bool) : OwnB (w.setCell ⟨g, i, none⟩ (.bool b)) B (.slice (some ⟨g, 0, none⟩) U.length c) (U.set i b) := by
  have := (World.ownsRow.stored h i (.bool b)).1
  unfold OwnB
  rw [List.length_set, List.map_set]
  exact this

/-- The row's block. -/
theorem OwnB.block {w : World} {B : Nat} {v : Value} {U : List Bool} (h : OwnB w B v U) (h0 : 0 < U.length) :
    ∃ g c cur, v = .slice (some ⟨g, 0, none⟩) U.length c ∧ B ≤ g ∧ w.heap[g]? = some (.cells cur 4 (0, 0)) ∧ ∀ (i : Nat) (u : Bool), U[i]? = some u → cur[i]? = some (.bool u) := by
  obtain ⟨hl, h⟩ := h
  rcases h with ⟨_, h⟩ | ⟨g, cap, cur, rfl, hb, hg, h1, h2, h3, h4⟩
  · omega
  · refine ⟨g, cap, cur, rfl, hb, hg, fun i u hi => ?_⟩
    have hil := (List.getElem?_eq_some_iff.1 hi).1
    have h5 : (U.map Value.bool)[i]? = some (.bool u) := by rw [List.getElem?_map, hi]; rfl
    rw [← h4, List.getElem?_take, if_pos (by omega)] at h5
    rw [← Array.getElem?_toList]
    exact h5

/-- What is up, as a row of the Fib's own. -/
theorem up_any (fb : Nat) (L : List Rt) (U : List Bool) (F : List Nat) (w : World) (h : FibAt w fb L U F) :
    Calls Tryz.prog 26 #[.pointer (some ⟨fb, 0, none⟩)] w (RowB w U) := by
  obtain ⟨rb, q, d, C, Fr, E, h⟩ := h
  have c1 := cloneB_any _ U w h.own (by have := h.eight; omega)
  have h1 : w.cell? ⟨fb, 1, none⟩ = some (.slice q U.length d) := by rw [heap_cell h.obj, h.c1]
  clear h
  go_enter Tryz.func26, Tryz.ntmps26
  go_wp2_with (go_at_call 50; refine c1.mono ?_; rintro e w1 ⟨v', rfl, ho, hx⟩)
  go_ret
  exact ⟨v', rfl, ho, hx⟩

/-- What change leaves, where what is new is new. -/
theorem ans_of {w w1 w' : World} {fb : Nat} {F X : List Nat} {L : List Rt} {U : List Bool} (hx : Ext w w1) (hX : ∀ x ∈ X, x ∈ F ∨ w.heap.size ≤ x) (h : ∃ F', FibAt w' fb L U F' ∧ ExtS F w1 w' ∧ ∀ x ∈ F', x ∈ F ∨ x ∈ X ∨ w1.heap.size ≤ x) : FibAns w fb F L U w' := by
  obtain ⟨F', h1, h2, h3⟩ := h
  refine ⟨F', h1, (hx.toS F).trans h2, fun x hh => ?_⟩
  rcases h3 x hh with h | h | h
  · exact .inl h
  · exact hX x h
  · exact .inr (Nat.le_trans hx.size h)

/-- What is new is apart from all that is written; so is what is up. -/
theorem FibIn.far {w : World} {fb rb : Nat} {q : Option Addr} {m d : Nat} {C : Array Value} {L : List Rt} {U : List Bool} {A : Nat → List Rt} {Fr : List Nat} {E : Nat → Eng} {F : List Nat} (h : FibIn w fb rb q m d C L U A Fr E F) {G : List Nat} (hG : ∀ x ∈ G, w.heap.size ≤ x) : ∀ x, x ∈ G ∨ x ∈ ubk q → (∀ j, j < 4 → x ∉ (E j).F) ∧ x ≠ fb := fun x hx => by
  rcases hx with hx | hx
  · have := hG x hx
    exact ⟨fun j hj hm => by have := h.lt x (h.eF j hj x hm); omega, fun e => by have := h.lt fb h.fF; omega⟩
  · exact ⟨fun j hj => h.uE j hj x hx, fun e => h.fu (e ▸ hx)⟩

/-- The ways that are there are apart, too. -/
theorem FibIn.far2 {w : World} {fb rb : Nat} {q : Option Addr} {m d : Nat} {C : Array Value} {L : List Rt} {U : List Bool} {A : Nat → List Rt} {Fr : List Nat} {E : Nat → Eng} {F : List Nat} (h : FibIn w fb rb q m d C L U A Fr E F) {G : List Nat} (hG : ∀ x ∈ G, w.heap.size ≤ x) : ∀ x, x ∈ Fr ∨ x ∈ G → (∀ j, j < 4 → x ∉ (E j).F) ∧ x ≠ fb := fun x hx => by
  rcases hx with hx | hx
  · exact ⟨fun j hj => h.rE j hj x hx, fun e => h.fr (e ▸ hx)⟩
  · have := hG x hx
    exact ⟨fun j hj hm => by have := h.lt x (h.eF j hj x hm); omega, fun e => by have := h.lt fb h.fF; omega⟩

set_option maxHeartbeats 1000000 in
theorem add_any (fb : Nat) (L : List Rt) (U : List Bool) (F : List Nat) (r : Rt) (w : World) (h : FibAt w fb L U F) (hr : RtOk r) :
    Calls Tryz.prog 24 #[.pointer (some ⟨fb, 0, none⟩), (.agg #[.int .i64 r.t, .int .u32 r.a, .int .i64 r.l, .int .i64 r.i, .int .u32 r.g, .int .i64 r.m])] w fun e w' => e = .returned (.int .i64 (addF L U r).1) ∧ FibAns w fb F (addF L U r).2 U w' := by
  have HFA : Hid (FibAt w fb L U F) := h
  obtain ⟨rb, q, d, C, Fr, E, hI⟩ := h
  have hA : Ext w (w.alloc (.cells #[.int .i64 r.t, .int .u32 r.a, .int .i64 r.l, .int .i64 r.i, .int .u32 r.g, .int .i64 r.m] 33)) := (Ext.refl w).alloc _
  have HQ : Hid _ := box_rtE (heap_new w (.cells #[.int .i64 r.t, .int .u32 r.a, .int .i64 r.l, .int .i64 r.i, .int .u32 r.g, .int .i64 r.m] 33))
  have HI : Hid (FibIn (w.alloc (.cells #[.int .i64 r.t, .int .u32 r.a, .int .i64 r.l, .int .i64 r.i, .int .u32 r.g, .int .i64 r.m] 33)) fb rb q U.length d C L U (fun i => actL L (i : Int) U) Fr E F) := hI.ext hA
  have HLT : Hid (∀ x ∈ F, x < w.heap.size) := hI.lt
  clear hI
  obtain ⟨b0, b1, b2, b3, b4, b5⟩ := HQ.out
  have y0 := b0 _ (Ext.refl _)
  have y1 := b1 _ (Ext.refl _)
  have y2 := b2 _ (Ext.refl _)
  have y3 := b3 _ (Ext.refl _)
  have y4 := b4 _ (Ext.refl _)
  have y5 := b5 _ (Ext.refl _)
  have e0 : (w.alloc (.cells #[.int .i64 r.t, .int .u32 r.a, .int .i64 r.l, .int .i64 r.i, .int .u32 r.g, .int .i64 r.m] 33)).cell? ⟨fb, 0, none⟩ = some (.pointer (some ⟨rb, 0, none⟩)) := by rw [heap_cell HI.out.obj, HI.out.c0]
  have e1 : (w.alloc (.cells #[.int .i64 r.t, .int .u32 r.a, .int .i64 r.l, .int .i64 r.i, .int .u32 r.g, .int .i64 r.m] 33)).cell? ⟨fb, 1, none⟩ = some (.slice q U.length d) := by rw [heap_cell HI.out.obj, HI.out.c1]
  have ch := has_any fb r.i q U.length d (w.alloc (.cells #[.int .i64 r.t, .int .u32 r.a, .int .i64 r.l, .int .i64 r.i, .int .u32 r.g, .int .i64 r.m] 33)) e1
  have hh : hasB U r.i = (decide (0 ≤ r.i) && decide (r.i < (U.length : Int))) := rfl
  rw [← hh] at ch
  clear hh
  cases hb : hasB U r.i with
  | false =>
    have ha : addF L U r = (1, L) := by unfold addF; rw [if_pos hb]
    rw [hb] at ch
    rw [ha]
    clear ha hb
    go_enter Tryz.func24, Tryz.ntmps24
    go_wp2_with (go_at_call 45; refine ch.mono ?_; rintro e w1 ⟨rfl, hw⟩; obtain rfl := hw.symm; clear hw)
    go_ret
    exact ⟨rfl, FibAns.same HFA.out hA⟩
  | true =>
    rw [hb] at ch
    have cc := copy_any rb L Fr (w.alloc (.cells #[.int .i64 r.t, .int .u32 r.a, .int .i64 r.l, .int .i64 r.i, .int .u32 r.g, .int .i64 r.m] 33)) HI.out.rib (by have := HI.out.good.len; omega)
    have hgl := HI.out.good
    have HG : Hid (Rb.Good L) := hgl
    have HRK : Hid (RtOk r) := hr
    clear hgl hr
    have stepA : ∀ w3 db G, RibAt 90 w3 db L G → Calls Tryz.prog 48 #[.pointer (some ⟨db, 0, none⟩), (.agg #[.int .i64 r.t, .int .u32 r.a, .int .i64 r.l, .int .i64 r.i, .int .u32 r.g, .int .i64 r.m])] w3 fun e w' => e = .returned (.int .i64 (addE L r)) ∧ RibAns 90 w3 db G (addS L r) w' := fun w3 db G hG => Rb.add_any db L G r w3 hG HG.out HRK.out
    have facts : ∀ w3 w4 db G, Ext (w.alloc (.cells #[.int .i64 r.t, .int .u32 r.a, .int .i64 r.l, .int .i64 r.i, .int .u32 r.g, .int .i64 r.m] 33)) w3 → (∀ x ∈ G, (w.alloc (.cells #[.int .i64 r.t, .int .u32 r.a, .int .i64 r.l, .int .i64 r.i, .int .u32 r.g, .int .i64 r.m] 33)).heap.size ≤ x) → RibAns 90 w3 db G (addS L r) w4 → ∃ G', RibAt 90 w4 db (addS L r) G' ∧ Ext (w.alloc (.cells #[.int .i64 r.t, .int .u32 r.a, .int .i64 r.l, .int .i64 r.i, .int .u32 r.g, .int .i64 r.m] 33)) w4 ∧ ∀ x ∈ G', (w.alloc (.cells #[.int .i64 r.t, .int .u32 r.a, .int .i64 r.l, .int .i64 r.i, .int .u32 r.g, .int .i64 r.m] 33)).heap.size ≤ x := fun w3 w4 db G hx3 hG ⟨G', k1, k2, k3⟩ =>
      ⟨G', k1, ExtS.ext ((hx3.toS G).trans k2) hG, fun x hx => (k3 x hx).elim (hG x) fun h => Nat.le_trans hx3.size h⟩
    by_cases he : addE L r = 0
    · have hs : addE L r = 0 := he
      rw [he] at stepA
      have HE : Hid (addE L r = 0) := he
      clear he hs
      go_enter Tryz.func24, Tryz.ntmps24
      go_wp2_with (first
        | (go_at_call 45; refine ch.mono ?_; rintro e w1 ⟨rfl, hw⟩; obtain rfl := hw.symm; clear hw)
        | (go_at_call 47; refine cc.mono ?_; rintro e w3 ⟨db, G, rfl, HC, hx3, hG⟩; have cA := stepA w3 db G HC; have HG3 : Hid (Ext _ w3 ∧ ∀ x ∈ G, _ ≤ x) := ⟨hx3, hG⟩; have z0 := b0 _ hx3; have z1 := b1 _ hx3; have z2 := b2 _ hx3; have z3 := b3 _ hx3; have z4 := b4 _ hx3; have z5 := b5 _ hx3; clear HC hx3 hG)
        | (go_at_call 48; refine cA.mono ?_; rintro e w4 ⟨rfl, hA4⟩; obtain ⟨G', k1, k2, k3⟩ := facts w3 w4 db G HG3.out.1 HG3.out.2 hA4; have HK : Hid (RibAt 90 w4 db (addS L r) G' ∧ Ext _ w4 ∧ ∀ x ∈ G', _ ≤ x) := ⟨k1, k2, k3⟩; have e2 : w4.cell? ⟨fb, 1, none⟩ = some (.slice q U.length d) := (by rw [heap_cell (k2.heap HI.out.obj), HI.out.c1]); clear hA4 k1 k2 k3))
      clear z0 z1 z2 z3 z4 z5
      go_at_call 46
      refine (change_any fb rb db q q U.length d U.length d C L (addS L r) U U (fun i => actL L (i : Int) U) Fr G' E F w4 (HI.out.ext HK.out.2.1) HK.out.1 (HG.out.add HRK.out) (HI.out.ups.ext HK.out.2.1) (HI.out.own.ext HK.out.2.1) HI.out.eight (fun x hx => Nat.lt_of_lt_of_le (HI.out.lt x (HI.out.uF x hx)) HK.out.2.1.size) (HI.out.far HK.out.2.2)).mono ?_
      rintro e w5 (⟨hf, rfl, hx5⟩ | ⟨hf, rfl, hF5⟩)
      · have HF : Hid _ := hf
        clear hf
        go_wp2_with fail
        go_ret
        have ha : addF L U r = (6, L) := by unfold addF; rw [if_neg (by rw [hb]; simp), if_pos HE.out, if_pos HF.out]
        rw [ha]
        exact ⟨rfl, FibAns.same HFA.out (hA.trans (HK.out.2.1.trans hx5))⟩
      · have HF : Hid _ := hf
        have HF5 : Hid _ := hF5
        clear hf hF5
        go_wp2_with fail
        go_ret
        have ha : addF L U r = (0, addS L r) := by unfold addF; rw [if_neg (by rw [hb]; simp), if_pos HE.out, if_neg (by rw [HF.out]; simp)]
        rw [ha]
        refine ⟨rfl, ans_of (hA.trans HK.out.2.1) (fun x hx => ?_) HF5.out⟩
        rcases List.mem_append.1 hx with hx | hx
        · exact .inr (Nat.le_trans hA.size (HK.out.2.2 x hx))
        · exact .inl (HI.out.uF x hx)
    · have ha : addF L U r = (addE L r, L) := by unfold addF; rw [if_neg (by rw [hb]; simp), if_neg he]
      rw [ha]
      have hne : ¬ (addE L r = 0) := he
      clear ha
      generalize addE L r = er at *
      go_enter Tryz.func24, Tryz.ntmps24
      go_wp2_with (first
        | (go_at_call 45; refine ch.mono ?_; rintro e w1 ⟨rfl, hw⟩; obtain rfl := hw.symm; clear hw)
        | (go_at_call 47; refine cc.mono ?_; rintro e w3 ⟨db, G, rfl, HC, hx3, hG⟩; have cA := stepA w3 db G HC; have HG3 : Hid (Ext _ w3 ∧ ∀ x ∈ G, _ ≤ x) := ⟨hx3, hG⟩; have z0 := b0 _ hx3; have z1 := b1 _ hx3; have z2 := b2 _ hx3; have z3 := b3 _ hx3; have z4 := b4 _ hx3; have z5 := b5 _ hx3; clear HC hx3 hG)
        | (go_at_call 48; refine cA.mono ?_; rintro e w4 ⟨rfl, hA4⟩; obtain ⟨G', k1, k2, k3⟩ := facts w3 w4 db G HG3.out.1 HG3.out.2 hA4; have HK : Hid (Ext _ w4) := k2; clear hA4 k1 k2 k3))
      go_ret
      exact ⟨rfl, FibAns.same HFA.out (hA.trans HK.out)⟩

theorem delS_no {L : List Rt} {r : Rt} (h : ¬ delE L r = 0) : delS L r = L := by
  unfold delS delE at *
  split
  · rename_i hh; rw [if_pos hh] at h; exact absurd rfl h
  · rfl

set_option maxHeartbeats 1000000 in
theorem del_any (fb : Nat) (L : List Rt) (U : List Bool) (F : List Nat) (r : Rt) (w : World) (h : FibAt w fb L U F) :
    Calls Tryz.prog 25 #[.pointer (some ⟨fb, 0, none⟩), (.agg #[.int .i64 r.t, .int .u32 r.a, .int .i64 r.l, .int .i64 r.i, .int .u32 r.g, .int .i64 r.m])] w fun e w' => e = .returned (.int .i64 (delE L r)) ∧ FibAns w fb F (delS L r) U w' := by
  have HFA : Hid (FibAt w fb L U F) := h
  have hroom := h.room
  obtain ⟨rb, q, d, C, Fr, E, hI⟩ := h
  have hA : Ext w (w.alloc (.cells #[.int .i64 r.t, .int .u32 r.a, .int .i64 r.l, .int .i64 r.i, .int .u32 r.g, .int .i64 r.m] 33)) := (Ext.refl w).alloc _
  have HQ : Hid _ := box_rtE (heap_new w (.cells #[.int .i64 r.t, .int .u32 r.a, .int .i64 r.l, .int .i64 r.i, .int .u32 r.g, .int .i64 r.m] 33))
  have HI : Hid (FibIn (w.alloc (.cells #[.int .i64 r.t, .int .u32 r.a, .int .i64 r.l, .int .i64 r.i, .int .u32 r.g, .int .i64 r.m] 33)) fb rb q U.length d C L U (fun i => actL L (i : Int) U) Fr E F) := hI.ext hA
  clear hI
  obtain ⟨b0, b1, b2, b3, b4, b5⟩ := HQ.out
  have e0 : (w.alloc (.cells #[.int .i64 r.t, .int .u32 r.a, .int .i64 r.l, .int .i64 r.i, .int .u32 r.g, .int .i64 r.m] 33)).cell? ⟨fb, 0, none⟩ = some (.pointer (some ⟨rb, 0, none⟩)) := by rw [heap_cell HI.out.obj, HI.out.c0]
  have cc := copy_any rb L Fr (w.alloc (.cells #[.int .i64 r.t, .int .u32 r.a, .int .i64 r.l, .int .i64 r.i, .int .u32 r.g, .int .i64 r.m] 33)) HI.out.rib (by have := HI.out.good.len; omega)
  have hgl := HI.out.good
  have HG : Hid (Rb.Good L) := hgl
  have HRM : Hid (fullB L U = false) := hroom
  clear hgl hroom
  have stepA : ∀ w3 db G, RibAt 90 w3 db L G → Calls Tryz.prog 49 #[.pointer (some ⟨db, 0, none⟩), (.agg #[.int .i64 r.t, .int .u32 r.a, .int .i64 r.l, .int .i64 r.i, .int .u32 r.g, .int .i64 r.m])] w3 fun e w' => e = .returned (.int .i64 (delE L r)) ∧ RibAns 90 w3 db G (delS L r) w' := fun w3 db G hG => Rb.del_any db L G r w3 hG HG.out
  have facts : ∀ w3 w4 db G, Ext (w.alloc (.cells #[.int .i64 r.t, .int .u32 r.a, .int .i64 r.l, .int .i64 r.i, .int .u32 r.g, .int .i64 r.m] 33)) w3 → (∀ x ∈ G, (w.alloc (.cells #[.int .i64 r.t, .int .u32 r.a, .int .i64 r.l, .int .i64 r.i, .int .u32 r.g, .int .i64 r.m] 33)).heap.size ≤ x) → RibAns 90 w3 db G (delS L r) w4 → ∃ G', RibAt 90 w4 db (delS L r) G' ∧ Ext (w.alloc (.cells #[.int .i64 r.t, .int .u32 r.a, .int .i64 r.l, .int .i64 r.i, .int .u32 r.g, .int .i64 r.m] 33)) w4 ∧ ∀ x ∈ G', (w.alloc (.cells #[.int .i64 r.t, .int .u32 r.a, .int .i64 r.l, .int .i64 r.i, .int .u32 r.g, .int .i64 r.m] 33)).heap.size ≤ x := fun w3 w4 db G hx3 hG ⟨G', k1, k2, k3⟩ =>
    ⟨G', k1, ExtS.ext ((hx3.toS G).trans k2) hG, fun x hx => (k3 x hx).elim (hG x) fun h => Nat.le_trans hx3.size h⟩
  by_cases he : delE L r = 0
  · rw [he] at stepA
    rw [he]
    clear he
    go_enter Tryz.func25, Tryz.ntmps25
    go_wp2_with (first
      | (go_at_call 47; refine cc.mono ?_; rintro e w3 ⟨db, G, rfl, HC, hx3, hG⟩; have cA := stepA w3 db G HC; have HG3 : Hid (Ext _ w3 ∧ ∀ x ∈ G, _ ≤ x) := ⟨hx3, hG⟩; have z0 := b0 _ hx3; have z1 := b1 _ hx3; have z2 := b2 _ hx3; have z3 := b3 _ hx3; have z4 := b4 _ hx3; have z5 := b5 _ hx3; clear HC hx3 hG)
      | (go_at_call 49; refine cA.mono ?_; rintro e w4 ⟨rfl, hA4⟩; obtain ⟨G', k1, k2, k3⟩ := facts w3 w4 db G HG3.out.1 HG3.out.2 hA4; have HK : Hid (RibAt 90 w4 db (delS L r) G' ∧ Ext _ w4 ∧ ∀ x ∈ G', _ ≤ x) := ⟨k1, k2, k3⟩; have e2 : w4.cell? ⟨fb, 1, none⟩ = some (.slice q U.length d) := (by rw [heap_cell (k2.heap HI.out.obj), HI.out.c1]); clear hA4 k1 k2 k3))
    clear z0 z1 z2 z3 z4 z5
    go_at_call 46
    refine (change_any fb rb db q q U.length d U.length d C L (delS L r) U U (fun i => actL L (i : Int) U) Fr G' E F w4 (HI.out.ext HK.out.2.1) HK.out.1 (HG.out.del r) (HI.out.ups.ext HK.out.2.1) (HI.out.own.ext HK.out.2.1) HI.out.eight (fun x hx => Nat.lt_of_lt_of_le (HI.out.lt x (HI.out.uF x hx)) HK.out.2.1.size) (HI.out.far HK.out.2.2)).mono ?_
    rintro e w5 (⟨hf, rfl, hx5⟩ | ⟨hf, rfl, hF5⟩)
    · rw [del_full r HRM.out] at hf
      cases hf
    · have HF5 : Hid _ := hF5
      clear hf hF5
      go_wp2_with fail
      go_ret
      refine ⟨rfl, ans_of (hA.trans HK.out.2.1) (fun x hx => ?_) HF5.out⟩
      rcases List.mem_append.1 hx with hx | hx
      · exact .inr (Nat.le_trans hA.size (HK.out.2.2 x hx))
      · exact .inl (HI.out.uF x hx)
  · have HS : Hid (delS L r = L) := delS_no he
    have hne : ¬ (delE L r = 0) := he
    clear he
    generalize delE L r = er at *
    go_enter Tryz.func25, Tryz.ntmps25
    go_wp2_with (first
      | (go_at_call 47; refine cc.mono ?_; rintro e w3 ⟨db, G, rfl, HC, hx3, hG⟩; have cA := stepA w3 db G HC; have HG3 : Hid (Ext _ w3 ∧ ∀ x ∈ G, _ ≤ x) := ⟨hx3, hG⟩; have z0 := b0 _ hx3; have z1 := b1 _ hx3; have z2 := b2 _ hx3; have z3 := b3 _ hx3; have z4 := b4 _ hx3; have z5 := b5 _ hx3; clear HC hx3 hG)
      | (go_at_call 49; refine cA.mono ?_; rintro e w4 ⟨rfl, hA4⟩; obtain ⟨G', k1, k2, k3⟩ := facts w3 w4 db G HG3.out.1 HG3.out.2 hA4; have HK : Hid (Ext _ w4) := k2; clear hA4 k1 k2 k3))
    go_ret
    refine ⟨rfl, ?_⟩
    rw [HS.out]
    exact FibAns.same HFA.out (hA.trans HK.out)

set_option maxHeartbeats 1000000 in
theorem setUp_any (fb : Nat) (L : List Rt) (U : List Bool) (F : List Nat) (i : Int) (b : Bool) (w : World) (h : FibAt w fb L U F) :
    Calls Tryz.prog 23 #[.pointer (some ⟨fb, 0, none⟩), .int .i64 i, .bool b] w fun e w' => e = .returned (.int .i64 (setF L U i b).1) ∧ FibAns w fb F L (setF L U i b).2 w' := by
  have HFA : Hid (FibAt w fb L U F) := h
  have cu := up_any fb L U F w h
  obtain ⟨rb, q, d, C, Fr, E, hI⟩ := h
  have HI : Hid (FibIn w fb rb q U.length d C L U (fun i => actL L (i : Int) U) Fr E F) := hI
  have e1 : w.cell? ⟨fb, 1, none⟩ = some (.slice q U.length d) := by rw [heap_cell hI.obj, hI.c1]
  have ch := has_any fb i q U.length d w e1
  have hh : hasB U i = (decide (0 ≤ i) && decide (i < (U.length : Int))) := rfl
  rw [← hh] at ch
  clear hh hI e1
  cases hb : hasB U i with
  | false =>
    have ha : setF L U i b = (1, U) := by unfold setF; rw [if_pos hb]
    rw [hb] at ch
    rw [ha]
    clear ha hb cu
    go_enter Tryz.func23, Tryz.ntmps23
    go_wp2_with (go_at_call 45; refine ch.mono ?_; rintro e w1 ⟨rfl, hw⟩; obtain rfl := hw.symm; clear hw)
    go_ret
    exact ⟨rfl, FibAns.same HFA.out (Ext.refl w)⟩
  | true =>
    rw [hb] at ch
    have hb' := hb
    unfold hasB at hb'
    simp only [Bool.and_eq_true, decide_eq_true_eq] at hb'
    obtain ⟨j, rfl⟩ : ∃ j : Nat, i = (j : Int) := ⟨i.toNat, by omega⟩
    have hj : j < U.length := by omega
    have hji : (j : Int) < (U.length : Int) := hb'.2
    obtain ⟨u, huj⟩ : ∃ u, U[j]? = some u := ⟨_, List.getElem?_eq_getElem hj⟩
    have HU : Hid (U[j]? = some u) := huj
    have HB : Hid (hasB U (j : Int) = true) := hb
    have HJ : Hid (j < U.length) := hj
    clear hb hb' huj hj
    go_enter Tryz.func23, Tryz.ntmps23
    go_wp2_with (first
      | (go_at_call 45; refine ch.mono ?_; rintro e w1 ⟨rfl, hw⟩; obtain rfl := hw.symm; clear hw)
      | (go_at_call 26; refine cu.mono ?_; rintro e w2 ⟨v2, rfl, hO2, hx2⟩; obtain ⟨g, c, cur, rfl, hgB, hg, hcu⟩ := hO2.block (by have := HJ.out; omega); have s0 : w2.cell? ⟨g, j, none⟩ = some (.bool u) := (by rw [heap_cell hg]; exact hcu j u HU.out); have f0 : w2.frozen? ⟨g, j, none⟩ = false := heap_frozen hg; have HO2 : Hid (OwnB w2 w.heap.size (.slice (some ⟨g, 0, none⟩) U.length c) U) := hO2; have HX2 : Hid (Ext w w2 ∧ w.heap.size ≤ g ∧ w2.heap[g]? = some (.cells cur 4 (0, 0))) := ⟨hx2, hgB, hg⟩; have hx3 : Ext w (w2.setCell ⟨g, j, none⟩ (.bool b)) := ExtS.ext ((hx2.toS [g]).trans (ExtS.setCell (ExtS.refl [g] w2) (p := ⟨g, j, none⟩) (.inl (by simp)) _)) (fun x hx => (by rw [List.mem_singleton.1 hx]; exact hgB)); have HX3 : Hid _ := hx3; have z0 : (w2.setCell ⟨g, j, none⟩ (.bool b)).cell? ⟨fb, 0, none⟩ = some (.pointer (some ⟨rb, 0, none⟩)) := (by rw [heap_cell (hx3.heap HI.out.obj), HI.out.c0]); clear hO2 hx2 hg hgB hcu hx3))
    clear s0 f0 z0 cu ch
    have hO3 := HO2.out.put b (i := j)
    have hl3 : (U.set j b).length = U.length := List.length_set ..
    have hO3' : OwnB (w2.setCell ⟨g, j, none⟩ (.bool b)) 0 (.slice (some ⟨g, 0, none⟩) U.length c) (U.set j b) := hO3.base (Nat.zero_le _)
    have HO3 : Hid _ := hO3'
    have hU3 : Ups (w2.setCell ⟨g, j, none⟩ (.bool b)) (some ⟨g, 0, none⟩) U.length (U.set j b) := hO3'.ups (by rw [hl3]; have := HI.out.eight; omega)
    have HU3 : Hid _ := hU3
    clear hO3 hO3' hU3
    go_at_call 46
    refine (change_any fb rb rb q (some ⟨g, 0, none⟩) U.length d U.length c C L L U (U.set j b) (fun i => actL L (i : Int) U) Fr Fr E F (w2.setCell ⟨g, j, none⟩ (.bool b)) (HI.out.ext HX3.out) (HI.out.rib.ext HX3.out) HI.out.good HU3.out HO3.out (by rw [hl3]; exact HI.out.eight) (fun x hx => by simp only [ubk, List.mem_singleton] at hx; subst hx; exact Nat.lt_of_lt_of_le (heap_lt HX2.out.2.2) (by simp [World.setCell])) (HI.out.far2 (G := ubk (some ⟨g, 0, none⟩)) fun x hx => by simp only [ubk, List.mem_singleton] at hx; subst hx; exact HX2.out.2.1)).mono ?_
    rintro e w5 (⟨hf, rfl, hx5⟩ | ⟨hf, rfl, hF5⟩)
    · have HF : Hid _ := hf
      clear hf
      go_wp2_with fail
      go_ret
      have ha : setF L U (j : Int) b = (6, U) := by unfold setF; rw [if_neg (by rw [HB.out]; simp), if_pos (by rw [Int.toNat_natCast]; exact HF.out)]
      rw [ha]
      exact ⟨rfl, FibAns.same HFA.out (Ext.trans HX3.out hx5)⟩
    · have HF : Hid _ := hf
      have HF5 : Hid _ := hF5
      clear hf hF5
      go_wp2_with fail
      go_ret
      have ha : setF L U (j : Int) b = (0, U.set j b) := by unfold setF; rw [if_neg (by rw [HB.out]; simp), if_neg (by rw [Int.toNat_natCast, HF.out]; simp), Int.toNat_natCast]
      rw [ha]
      refine ⟨rfl, ans_of HX3.out (fun x hx => ?_) HF5.out⟩
      rcases List.mem_append.1 hx with hx | hx
      · exact .inl (HI.out.rF x hx)
      · simp only [ubk, List.mem_singleton] at hx
        subst hx
        exact .inr HX2.out.2.1
end Go.Proofs.YtmoimkeeldlpkaaGreat.Fb

namespace Go.Proofs

open Go.Shelf

def Tryz.lays212_ren : Go.Shelf.Ren := ⟨fun | 212 => 52 | 263 => 69 | 264 => 70 | n => n, fun | 46 => 91 | 51 => 29 | 146 => 139 | 53 => 116 | 148 => 141 | n => n, fun | n => n⟩
theorem Tryz.lays212 : Go.Proofs.Lays.n212 Tryz.prog Tryz.lays212_ren := {
  mixed := by kernel_rfl
  f212 := Tryz.func52.trans (congrArg some (by kernel_rfl))
  f263 := Tryz.func69.trans (congrArg some (by kernel_rfl))
  f264 := Tryz.func70.trans (congrArg some (by kernel_rfl))
  t46 := Tryz.underlying91
  a46 := Tryz.isAgg91
  z46 := Tryz.sizeOf91
  v46 := Tryz.zeroValue91
  t51 := Tryz.underlying29
  a51 := Tryz.isAgg29
  z51 := Tryz.sizeOf29
  v51 := Tryz.zeroValue29
  t53 := Tryz.underlying116
  a53 := Tryz.isAgg116
  z53 := Tryz.sizeOf116
  v53 := Tryz.zeroValue116
  t146 := Tryz.underlying139
  a146 := Tryz.isAgg139
  z146 := Tryz.sizeOf139
  v146 := Tryz.zeroValue139
  t148 := Tryz.underlying141
  a148 := Tryz.isAgg141
  z148 := Tryz.sizeOf141
  v148 := Tryz.zeroValue141 }

open Go.RowKit Go.Lib in

theorem Tryz.bits_Mul (x y : Nat) (hx : x < 18446744073709551616) (hy : y < 18446744073709551616) (w : World) :
    Calls Tryz.prog 52 #[.int .u64 x, .int .u64 y] w fun e w' => e = .returned (.tuple #[.int .u64 ((x * y / 18446744073709551616 : Nat) : Int), .int .u64 ((x * y % 18446744073709551616 : Nat) : Int)]) ∧ w' = w := Any.bits_Mul Tryz.lays212 x y hx hy w
end Go.Proofs
