/- Texts joined by a program: DirA, DirR, DirB, DirC. -/
import Derived.Test.YtmoimkeeldlpkaaGreatJ13
namespace Go.Proofs.YtmoimkeeldlpkaaGreat.Dr

set_option maxRecDepth 100000

open Go.RowKit Go.Proofs.YtmoimkeeldlpkaaGreat Go.Proofs.YtmoimkeeldlpkaaGreat.Tri

set_option linter.unusedVariables false

theorem set_arg (db : Nat) (a n v : Int) (w : World) (a0 : 0 ≤ a) (a1 : a ≤ 4294967295) (h : isV a n = false ∨ v < 0) : Calls Tryz.prog 84 #[.pointer (some ⟨db, 0, none⟩), .agg #[.int .u32 a, .int .i64 n], .int .i64 v] w fun e w' => e = .returned (.int .i64 1) ∧ Ext w w' := by
  have hx0 : Ext w (w.alloc (.cells #[.int .u32 a, .int .i64 n] 31)) := (Ext.refl w).alloc _
  have ci := fun w => is_any a n w a0 a1
  have hnot : ∀ (x : Bool) (w : World), (Op.unary .not (.bool x)).run Tryz.prog w = .ok (.bool (!x)) w := fun _ _ => rfl
  cases hi : isV a n with
  | false =>
    rw [hi] at ci
    clear hi h
    go_enter Tryz.func84, Tryz.ntmps84
    go_wp2_with (go_at_call 86; refine (ci _).mono ?_; rintro e w1 ⟨rfl, hx1⟩)
    go_ret
    exact ⟨rfl, hx0.trans hx1⟩
  | true =>
    have hv : v < 0 := by rcases h with h | h; rw [hi] at h; cases h; exact h
    rw [hi] at ci
    clear hi h
    go_enter Tryz.func84, Tryz.ntmps84
    go_wp2_with (go_at_call 86; refine (ci _).mono ?_; rintro e w1 ⟨rfl, hx1⟩)
    go_ret
    exact ⟨rfl, hx0.trans hx1⟩

theorem DirIn.look {w : World} {db : Nat} {most : Int} {E : List (PX × Nat)} {V : PX → Int} {T f : Nat → Nat → Option Nat} {mb : Option Nat} {F : List Nat} (h : DirIn w db most E V T f mb F) (p : PX) : (Instr.lookup 97 (.map mb) (keyV p) false).run Tryz.prog w = .ok (ptV (lk E p)) w := by
  cases mb with
  | none => rw [h.nomap rfl]; exact look_nil w p
  | some m => exact look_px (h.map m rfl) p

theorem ms_more {T : Nat → Nat → Option Nat} {K : List PX} (h : DisR T K 0 0 0) (A : Nat) : ∀ j, j ≤ 2 → msN T A j = moreN K A j
  | 0, _ => rfl
  | j + 1, hj => by
    have ih := ms_more h A j (by omega)
    simp only [msN, moreN, ih]
    congr 1
    have := h (j + 1) (plN j A) (by omega) hj
    cases hh : T (j + 1) (plN j A) with
    | none =>
      rw [hh] at this
      have hd : domB K (j + 1) (plN j A) = false := by
        cases hd : domB K (j + 1) (plN j A) with
        | false => rfl
        | true => have := this.2 (.inl hd); cases this
      rw [hd]; rfl
    | some b =>
      rw [hh] at this
      have hd : domB K (j + 1) (plN j A) = true := by
        rcases this.1 rfl with h | h
        · exact h
        · omega
      rw [hd]; rfl

/-- What of a Dir is read, in every later world. -/
theorem DirIn.reads {w : World} {db : Nat} {most : Int} {E : List (PX × Nat)} {V : PX → Int} {T f : Nat → Nat → Option Nat} {mb : Option Nat} {F : List Nat} (h : DirIn w db most E V T f mb F) : ∀ w', Ext w w' →
    w'.cell? ⟨db, 0, none⟩ = some (.int .i64 most) ∧ w'.cell? ⟨db, 1, none⟩ = some (.int .i64 (ownN (E.map (·.1)) : Nat)) ∧ w'.cell? ⟨db, 2, none⟩ = some (.map mb) ∧ w'.cell? ⟨db, 6, none⟩ = some (tbV 0 (T 0 0)) := fun w' hx => by
  have := hx.heap h.obj
  exact ⟨by rw [heap_cell this]; rfl, by rw [heap_cell this]; rfl, by rw [heap_cell this]; rfl, by rw [heap_cell this]; rfl⟩

section

variable {w : World} {db : Nat} {most : Int} {E : List (PX × Nat)} {V : PX → Int} {T f : Nat → Nat → Option Nat} {mb : Option Nat} {F : List Nat}

set_option maxHeartbeats 1000000 in
theorem set_here (h : DirIn w db most E V T f mb F) (a n v : Int) (hp : Vp (a, n)) (hv : 0 ≤ v) (b : Nat) (hl : lk E (a, n) = some b) :
    Calls Tryz.prog 84 #[.pointer (some ⟨db, 0, none⟩), .agg #[.int .u32 a, .int .i64 n], .int .i64 v] w fun e w' => e = .returned (.int .i64 0) ∧ DirIn w' db most E (fun q => if q = (a, n) then v else V q) T f mb F ∧ ExtS F w w' := by
  obtain ⟨a0, a1, -, -⟩ := hp.bd
  have hx0 : Ext w (w.alloc (.cells #[.int .u32 a, .int .i64 n] 31)) := (Ext.refl w).alloc _
  have hn := heap_new w (.cells #[.int .u32 a, .int .i64 n] 31)
  have hq : ∀ w', Ext (w.alloc (.cells #[.int .u32 a, .int .i64 n] 31)) w' → w'.cell? ⟨w.heap.size, 0, none⟩ = some (.int .u32 a) ∧ w'.cell? ⟨w.heap.size, 1, none⟩ = some (.int .i64 n) := fun w' hx => ⟨by rw [heap_cell (hx.heap hn)]; rfl, by rw [heap_cell (hx.heap hn)]; rfl⟩
  have HQ : Hid _ := hq
  have ci := fun w => is_any a n w a0 a1
  rw [hp.is] at ci
  have hnot : ∀ (x : Bool) (w : World), (Op.unary .not (.bool x)).run Tryz.prog w = .ok (.bool (!x)) w := fun _ _ => rfl
  have hr : ∀ w', Ext w w' → w'.cell? ⟨db, 2, none⟩ = some (.map mb) := fun w' hx => (h.reads w' hx).2.2.1
  have hlk : ∀ w', Ext w w' → (Instr.lookup 97 (.map mb) (.agg #[.int .u32 a, .int .i64 n]) false).run Tryz.prog w' = .ok (.pointer (some ⟨b, 0, none⟩)) w' := fun w' hx => by
    have := (h.ext hx).look (a, n)
    rw [hl] at this; exact this
  have hmem := lk_mem hl
  have hld : ∀ w', Ext w w' → w'.cell? ⟨b, 1, none⟩ = some (.int .i64 (V (a, n))) ∧ w'.frozen? ⟨b, 1, none⟩ = false := fun w' hx => by
    have := hx.heap (h.laid _ hmem)
    exact ⟨by rw [heap_cell this]; rfl, heap_frozen this⟩
  have hfin : ∀ w', Ext w w' → DirIn (w'.setCell ⟨b, 1, none⟩ (.int .i64 v)) db most E (fun q => if q = (a, n) then v else V q) T f mb F ∧ ExtS F w (w'.setCell ⟨b, 1, none⟩ (.int .i64 v)) := fun w' hx => by
    have h' := h.ext hx
    have hxs : ExtS [b] w' (w'.setCell ⟨b, 1, none⟩ (.int .i64 v)) := (ExtS.refl _ _).setCell (.inl (by simp)) _
    have hbo := h'.laid _ hmem
    have hbx := heap_set (k := 1) hbo (.int .i64 v)
    refine ⟨⟨?_, h'.begun, fun m e => (h'.map m e).later hxs ?_, h'.nomap, h'.tabs.later hxs (fun k n' b' e => ?_), h'.dom, h'.paint, h'.valid, h'.keys, h'.blks, fun x hx' => ?_, h'.fdb, h'.fmap, h'.ftab, h'.flaid, fun x hx' => Nat.lt_of_lt_of_le (h'.lt x hx') hxs.size⟩, ((hx.toS F).then hxs (fun x hx' => by rw [List.mem_singleton.1 hx']; exact .inl (h.flaid _ hmem)))⟩
    · refine hxs.heap ?_ h'.obj
      intro e
      have e := List.mem_singleton.1 e
      have ho := h'.obj
      rw [e, hbo] at ho
      simp only [dirO, Option.some.injEq, Obj.cells.injEq] at ho
      exact absurd ho.2.1 (by decide)
    · intro e
      have e := List.mem_singleton.1 e
      obtain ⟨es, cl, hm, -⟩ := h'.map m (by assumption)
      rw [e, hbo] at hm; cases hm
    · intro e2
      have e2 := List.mem_singleton.1 e2
      obtain ⟨cs, hc, -, -⟩ := h'.tabs.tab k n' b' e
      rw [e2, hbo] at hc
      simp only [Option.some.injEq, Obj.cells.injEq] at hc
      have : tyN k ≠ 130 := by match k with
        | 0 => decide
        | k + 1 => rw [ty_next]; decide
      exact this hc.2.1.symm
    · by_cases e : x.2 = b
      · have ex : x = ((a, n), b) := by
          have h1 := nvE_of (V := fun q => q.1) h.blks (p := x.1) (b := b) (by rw [← e]; exact hx')
          have h2 := nvE_of (V := fun q => q.1) h.blks hmem
          have h3 := nvE_of (V := fun q => q.2) h.blks (p := x.1) (b := b) (by rw [← e]; exact hx')
          have h4 := nvE_of (V := fun q => q.2) h.blks hmem
          have e1 : x.1 = (a, n) := Prod.ext (h1.symm.trans h2) (h3.symm.trans h4)
          exact Prod.ext e1 e
        subst ex
        simp only [if_true]
        exact hbx
      · have ne : x.1 ≠ (a, n) := by
          intro e2
          have key : ∀ (E : List (PX × Nat)), (E.map (·.1)).Nodup → ∀ p b, lk E p = some b → ∀ x ∈ E, x.1 = p → x.2 = b := by
            intro E; induction E with
            | nil => intro _ p b _ x hx; cases hx
            | cons z E ih =>
              intro hn p b hl x hx e
              rw [List.map_cons, List.nodup_cons] at hn
              simp only [lk] at hl
              rcases List.mem_cons.1 hx with rfl | hx1
              · rw [if_pos e] at hl; cases hl; rfl
              · by_cases ez : z.1 = p
                · exact absurd (List.mem_map.2 ⟨x, hx1, e.trans ez.symm⟩) hn.1
                · rw [if_neg ez] at hl
                  exact ih hn.2 p b hl x hx1 e
          exact e (key E h.keys _ _ hl x hx' e2)
        rw [if_neg ne]
        exact hxs.heap (by simpa using e) (h'.laid x hx')
  have HFIN : Hid _ := hfin
  have HR : Hid _ := hr
  have HLK : Hid _ := hlk
  have HLD : Hid _ := hld
  clear hq hn hr hlk hld hfin h hmem hl hp
  generalize hW0 : (w.alloc (.cells #[.int .u32 a, .int .i64 n] 31)) = W0 at *
  go_enter Tryz.func84, Tryz.ntmps84
  obtain ⟨q0, q1⟩ := HQ.out _ (Ext.refl _)
  go_wp2_with (go_at_call 86; refine (ci _).mono ?_; rintro e w1 ⟨rfl, hx1⟩)
  have hx2 := hx1.drew
  refine wp_region_eager [(0, false), (1, false), (2, false), (3, false), (4, false), (5, false), (6, false)] (by kernel_rfl) (by kernel_rfl) rfl (by kernel_rfl) (fun _ _ _ _ _ h => h) ?_
  generalize w1.drew = W2 at *
  have g0 : ∀ w', Ext W2 w' → w'.cell? ⟨w.heap.size, 0, none⟩ = some (.int .u32 a) := fun w' h => (HQ.out _ (hx2.trans h)).1
  have g1 : ∀ w', Ext W2 w' → w'.cell? ⟨w.heap.size, 1, none⟩ = some (.int .i64 n) := fun w' h => (HQ.out _ (hx2.trans h)).2
  have g2 : ∀ w', Ext W2 w' → w'.cell? ⟨db, 2, none⟩ = some (.map mb) := fun w' h => HR.out _ ((hx0.trans hx2).trans h)
  have g3 : ∀ w', Ext W2 w' → (Instr.lookup 97 (.map mb) (.agg #[.int .u32 a, .int .i64 n]) false).run Tryz.prog w' = .ok (.pointer (some ⟨b, 0, none⟩)) w' := fun w' h => HLK.out _ ((hx0.trans hx2).trans h)
  clear q0 q1
  iterate 7 (refine wpE_read (v := ?_) rfl (by rfl) ?_ ?_; rotate_left; (focus (intro w' hx; go_simp; first | done | with_reducible rfl)); simp only [Act.put, List.setIfInBounds_toArray, List.set_cons_zero, List.set_cons_succ])
  refine wpE_done ?_
  clear g0 g1 g2 g3
  obtain ⟨l1, l2⟩ := HLD.out _ (hx0.trans hx2)
  go_wp2_with fail
  go_ret
  exact ⟨rfl, HFIN.out _ (hx0.trans hx2)⟩

end
end Go.Proofs.YtmoimkeeldlpkaaGreat.Dr

namespace Go.Proofs.YtmoimkeeldlpkaaGreat.Dr

open Go.RowKit Go.Proofs.YtmoimkeeldlpkaaGreat Go.Proofs.YtmoimkeeldlpkaaGreat.Tri

set_option linter.unusedVariables false

def lenB (E : List (PX × Nat)) (b : Nat) : Int := nvE E (fun p => p.2) b

theorem bst_keep {E : List (PX × Nat)} {x : PX × Nat} {lo hi A : Nat} {o : Option Nat} (h : Bst E lo hi A o) (hx : (lo : Int) ≤ x.1.2 → x.1.2 < (hi : Int) → cov x.1 ((A : Int), 32) = false) : Bst (E ++ [x]) lo hi A o := by
  cases o with
  | none =>
    intro y hy a1 a2
    rcases List.mem_append.1 hy with hy | hy
    · exact h y hy a1 a2
    · rw [List.mem_singleton.1 hy] at a1 a2 ⊢; exact hx a1 a2
  | some b =>
    obtain ⟨p, h1, h2, h3, h4, h5⟩ := h
    refine ⟨p, List.mem_append_left _ h1, h2, h3, h4, fun y hy a1 a2 a3 => ?_⟩
    rcases List.mem_append.1 hy with hy | hy
    · exact h5 y hy a1 a2 a3
    · rw [List.mem_singleton.1 hy] at a1 a2 a3
      rw [hx a1 a2] at a3; cases a3

theorem bst_new {E : List (PX × Nat)} {x : PX × Nat} {lo hi A : Nat} {o : Option Nat} (hn : (E.map (·.2)).Nodup) (h : Bst E lo hi A o) (h1 : (lo : Int) ≤ x.1.2) (h2 : x.1.2 < (hi : Int)) (h3 : cov x.1 ((A : Int), 32) = true) (h4 : ∀ b, o = some b → lenB E b < x.1.2) : Bst (E ++ [x]) lo hi A (some x.2) := by
  refine ⟨x.1, List.mem_append_right _ (List.mem_singleton.2 rfl), h1, h2, h3, fun y hy a1 a2 a3 => ?_⟩
  rcases List.mem_append.1 hy with hy | hy
  · cases o with
    | none => rw [h y hy a1 a2] at a3; cases a3
    | some b =>
      obtain ⟨p, k1, k2, k3, k4, k5⟩ := h
      have := k5 y hy a1 a2 a3
      have h4' := h4 b rfl
      unfold lenB at h4'
      rw [nvE_of hn k1] at h4'
      omega
  · rw [List.mem_singleton.1 hy]; exact Int.le_refl _

theorem bst_old {E : List (PX × Nat)} {x : PX × Nat} {lo hi A b : Nat} (hn : (E.map (·.2)).Nodup) (h : Bst E lo hi A (some b)) (h4 : x.1.2 ≤ lenB E b) : Bst (E ++ [x]) lo hi A (some b) := by
  obtain ⟨p, k1, k2, k3, k4, k5⟩ := h
  unfold lenB at h4
  rw [nvE_of hn k1] at h4
  refine ⟨p, List.mem_append_left _ k1, k2, k3, k4, fun y hy a1 a2 a3 => ?_⟩
  rcases List.mem_append.1 hy with hy | hy
  · exact k5 y hy a1 a2 a3
  · rw [List.mem_singleton.1 hy]; exact h4

/-- A prefix's places are those of its level that it has. -/
theorem cov_range {A N m : Nat} (hA : A < 4294967296) (hN : N ≤ 32) (hZ : A % 2 ^ (32 - N) = 0) : cov ((A : Int), (N : Int)) ((adN (lvN N) m : Nat), 32) = true ↔ plN (lvN N) A ≤ m ∧ m < plN (lvN N) A + cntN N := by
  have hv : Vp ((A : Int), (N : Int)) := ⟨A, N, rfl, hN, hA, hZ⟩
  rw [cov_add hv]
  simp only [Int.toNat_natCast]
  have hb := lv_be N hN
  have e1 : adN (lvN N) m / 2 ^ (32 - N) = m / cntN N := by
    rw [div_be (a := beN (lvN N)) (b := 32 - N) (by omega)]
    unfold adN cntN
    rw [Nat.mul_div_cancel _ (Nat.pow_pos (by omega))]
    congr 2
    omega
  have e2 : A / 2 ^ (32 - N) = plN (lvN N) A / cntN N := by
    rw [div_be (a := beN (lvN N)) (b := 32 - N) (by omega)]
    unfold plN cntN
    congr 2
    omega
  rw [e1, e2]
  obtain ⟨q, hq⟩ := cnt_dvd A N hN hZ
  have hc : 0 < cntN N := Nat.pow_pos (by omega)
  rw [hq, Nat.mul_div_cancel_left _ hc]
  constructor
  · intro h
    have h1 := Nat.div_add_mod m (cntN N)
    have h2 := Nat.mod_lt m hc
    rw [← h] at h1
    omega
  · rintro ⟨h1, h2⟩
    symm
    rw [Nat.div_eq_iff hc]
    rw [Nat.mul_comm] at h1 h2
    constructor
    · exact h1
    · omega

/-- Behind cover. -/
def covF (f : Nat → Nat → Option Nat) (bt : Nat → Int) (lv pm cnt l : Nat) : Nat → Nat → Option Nat := fun k m => if k = lv ∧ pm ≤ m ∧ m < pm + cnt ∧ (∀ b, f k m = some b → bt b < bt l) then some l else f k m

/-- Behind uncover. -/
def uncF (f : Nat → Nat → Option Nat) (lv pm cnt l : Nat) (u : Option Nat) : Nat → Nat → Option Nat := fun k m => if k = lv ∧ pm ≤ m ∧ m < pm + cnt ∧ f k m = some l then u else f k m

theorem lv_only {N k : Nat} (hN : N ≤ 32) (hk : k ≤ 2) (h1 : loN k ≤ N) (h2 : N < loN (k + 1)) : k = lvN N := by
  unfold lvN
  match k, hk with
  | 0, _ => simp only [loN] at h1 h2; rw [if_pos (by omega)]
  | 1, _ => simp only [loN] at h1 h2; rw [if_neg (by omega), if_pos (by omega)]
  | 2, _ => simp only [loN] at h1 h2; rw [if_neg (by omega), if_neg (by omega)]

theorem bst_block {E : List (PX × Nat)} {lo hi A b : Nat} (h : Bst E lo hi A (some b)) : b ∈ E.map (·.2) := by
  obtain ⟨p, h1, -⟩ := h
  exact List.mem_map.2 ⟨_, h1, rfl⟩

theorem lenB_app {E : List (PX × Nat)} {x : PX × Nat} {b : Nat} (hn : ((E ++ [x]).map (·.2)).Nodup) (hb : b ∈ E.map (·.2)) : lenB (E ++ [x]) b = lenB E b := by
  obtain ⟨y, hy, rfl⟩ := List.mem_map.1 hb
  have hn' : (E.map (·.2)).Nodup := by
    rw [List.map_append] at hn; exact (List.nodup_append.1 hn).1
  unfold lenB
  rw [nvE_of (p := y.1) (b := y.2) hn (List.mem_append_left _ hy), nvE_of (p := y.1) (b := y.2) hn' hy]

theorem paint_new {E : List (PX × Nat)} {f : Nat → Nat → Option Nat} {A N l : Nat} (hp : Painted E f) (hn : ((E ++ [(((A : Int), (N : Int)), l)]).map (·.2)).Nodup) (hA : A < 4294967296) (hN : N ≤ 32) (hZ : A % 2 ^ (32 - N) = 0) :
    Painted (E ++ [(((A : Int), (N : Int)), l)]) (covF f (lenB (E ++ [(((A : Int), (N : Int)), l)])) (lvN N) (plN (lvN N) A) (cntN N) l) := by
  have hn' : (E.map (·.2)).Nodup := by
    rw [List.map_append] at hn; exact (List.nodup_append.1 hn).1
  have hll : lenB (E ++ [(((A : Int), (N : Int)), l)]) l = N := by
    unfold lenB
    exact nvE_of (V := fun p : PX => p.2) (p := ((A : Int), (N : Int))) hn (List.mem_append_right _ (List.mem_singleton.2 rfl))
  intro k m hk hm
  have hb := hp k m hk hm
  by_cases hkl : k = lvN N
  · subst hkl
    have hlo := lvN_lo N hN
    have hcov := cov_range (m := m) hA hN hZ
    by_cases hr : plN (lvN N) A ≤ m ∧ m < plN (lvN N) A + cntN N
    · have hc := hcov.2 hr
      by_cases hlt : ∀ b, f (lvN N) m = some b → lenB (E ++ [(((A : Int), (N : Int)), l)]) b < lenB (E ++ [(((A : Int), (N : Int)), l)]) l
      · simp only [covF]
        rw [if_pos ⟨trivial, hr.1, hr.2, hlt⟩]
        refine bst_new (x := (((A : Int), (N : Int)), l)) hn' hb (show (_ : Int) ≤ (N : Int) by omega) (show (N : Int) < _ by omega) hc (fun b e => ?_)
        have h1 := hlt b e
        rw [e] at hb
        rw [hll, lenB_app hn (bst_block hb)] at h1
        exact h1
      · simp only [covF]
        rw [if_neg (fun h => hlt h.2.2.2)]
        cases hf : f (lvN N) m with
        | none => exact absurd (fun b e => by rw [hf] at e; cases e) hlt
        | some b =>
          rw [hf] at hb
          refine bst_old hn' hb ?_
          show (N : Int) ≤ _
          rcases Int.lt_or_le (lenB E b) N with h | h
          · exact absurd (fun b' e => by rw [hf] at e; cases e; rw [hll, lenB_app hn (bst_block hb)]; exact h) hlt
          · exact h
    · simp only [covF]
      rw [if_neg (fun h => hr ⟨h.2.1, h.2.2.1⟩)]
      refine bst_keep hb (fun _ _ => ?_)
      cases hc : cov ((A : Int), (N : Int)) ((adN (lvN N) m : Nat), 32) with
      | false => rfl
      | true => exact absurd (hcov.1 hc) hr
  · simp only [covF]
    rw [if_neg (fun h => hkl h.1)]
    refine bst_keep hb (fun a1 a2 => ?_)
    exact absurd (lv_only hN hk (by simpa using a1) (by simpa using a2)) hkl

theorem mem_delE {E : List (PX × Nat)} {p : PX} (hn : (E.map (·.1)).Nodup) {x : PX × Nat} : x ∈ delE E p ↔ x ∈ E ∧ x.1 ≠ p := by
  induction E with
  | nil => simp [delE]
  | cons y E ih =>
    rw [List.map_cons, List.nodup_cons] at hn
    simp only [delE]
    split
    · rename_i e
      constructor
      · intro hx
        refine ⟨List.mem_cons_of_mem _ hx, fun e2 => hn.1 ?_⟩
        rw [e, ← e2]; exact List.mem_map.2 ⟨x, hx, rfl⟩
      · rintro ⟨hx, h2⟩
        rcases List.mem_cons.1 hx with rfl | hx
        · exact absurd e h2
        · exact hx
    · rename_i e
      rw [List.mem_cons, ih hn.2, List.mem_cons]
      constructor
      · rintro (rfl | ⟨h1, h2⟩)
        · exact ⟨.inl rfl, e⟩
        · exact ⟨.inr h1, h2⟩
      · rintro ⟨rfl | h1, h2⟩
        · exact .inl rfl
        · exact .inr ⟨h1, h2⟩

theorem perm_delE {E : List (PX × Nat)} {p : PX} {b : Nat} (h : lk E p = some b) : E.Perm ((p, b) :: delE E p) := by
  induction E with
  | nil => cases h
  | cons y E ih =>
    simp only [lk] at h
    simp only [delE]
    split
    · rename_i e
      rw [if_pos e] at h
      cases h
      rw [← e]
    · rename_i e
      rw [if_neg e] at h
      exact ((ih h).cons y).trans (List.Perm.swap _ _ _)

/-- Of a shorter one: it has a prefix's address if it has any address that the prefix has. -/
theorem cov_shorter {p x : PX} (hp : Vp p) (hx : Vp x) {B : Nat} (hb : cov p ((B : Int), 32) = true) (hl : x.2 ≤ p.2) : cov x ((p.1.toNat : Nat), 32) = cov x ((B : Int), 32) := by
  rw [Bool.eq_iff_iff, cov_add hx, cov_add hx]
  rw [cov_add hp] at hb
  obtain ⟨A, N, rfl, hN, hA, -⟩ := hp
  obtain ⟨C, M, rfl, hM, hC, -⟩ := hx
  simp only [Int.toNat_natCast] at *
  have : A / 2 ^ (32 - M) = B / 2 ^ (32 - M) := by
    rw [div_be (a := 32 - N) (b := 32 - M) (by omega), hb, ← div_be (by omega)]
  rw [this]

theorem paint_del {E : List (PX × Nat)} {f : Nat → Nat → Option Nat} {A N l : Nat} {u : Option Nat} (hp : Painted E f) (hv : ∀ x ∈ E, Vp x.1) (hk : (E.map (·.1)).Nodup) (hn : (E.map (·.2)).Nodup) (hA : A < 4294967296) (hN : N ≤ 32) (hZ : A % 2 ^ (32 - N) = 0)
    (hl : (((A : Int), (N : Int)), l) ∈ E) (hu : Bst E (loN (lvN N)) N A u) :
    Painted (delE E ((A : Int), (N : Int))) (uncF f (lvN N) (plN (lvN N) A) (cntN N) l u) := by
  have hvp : Vp ((A : Int), (N : Int)) := ⟨A, N, rfl, hN, hA, hZ⟩
  have hlo := lvN_lo N hN
  have one : ∀ q, (q, l) ∈ E → q = ((A : Int), (N : Int)) := fun q hq => by
    have h1 := nvE_of (V := fun q => q.1) hn hq
    have h2 := nvE_of (V := fun q => q.1) hn hl
    have h3 := nvE_of (V := fun q => q.2) hn hq
    have h4 := nvE_of (V := fun q => q.2) hn hl
    exact Prod.ext (h1.symm.trans h2) (h3.symm.trans h4)
  intro k m hk2 hm
  have hb := hp k m hk2 hm
  by_cases hc : k = lvN N ∧ plN (lvN N) A ≤ m ∧ m < plN (lvN N) A + cntN N ∧ f k m = some l
  · simp only [uncF]
    rw [if_pos hc]
    obtain ⟨rfl, h1, h2, h3⟩ := hc
    have hcov := (cov_range (m := m) hA hN hZ).2 ⟨h1, h2⟩
    rw [h3] at hb
    obtain ⟨q, k1, k2, k3, k4, k5⟩ := hb
    obtain rfl := one q k1
    have sh : ∀ x ∈ E, x.1.2 ≤ (N : Int) → cov x.1 ((A : Int), 32) = cov x.1 ((adN (lvN N) m : Nat), 32) := fun x hx hle => cov_shorter hvp (hv x hx) hcov hle
    have less : ∀ x ∈ delE E ((A : Int), (N : Int)), (loN (lvN N) : Int) ≤ x.1.2 → x.1.2 < (loN (lvN N + 1) : Int) → cov x.1 ((adN (lvN N) m : Nat), 32) = true → x.1.2 < (N : Int) := fun x hx a1 a2 a3 => by
      obtain ⟨hxE, hne⟩ := (mem_delE hk).1 hx
      have hle := k5 x hxE a1 a2 a3
      simp only at hle
      rcases Int.lt_or_eq_of_le hle with h | h
      · exact h
      · exact absurd (same_len (hv x hxE) hvp a3 hcov h) hne
    cases u with
    | none =>
      intro x hx a1 a2
      cases hcx : cov x.1 ((adN (lvN N) m : Nat), 32) with
      | false => rfl
      | true =>
        have hl2 := less x hx a1 a2 hcx
        have hxE := ((mem_delE hk).1 hx).1
        have := hu x hxE a1 hl2
        rw [sh x hxE (by omega), hcx] at this; cases this
    | some b =>
      obtain ⟨r, r1, r2, r3, r4, r5⟩ := hu
      have hrE : (r, b) ∈ delE E ((A : Int), (N : Int)) := (mem_delE hk).2 ⟨r1, fun e => by simp only at e; rw [e] at r3; simp only at r3; omega⟩
      refine ⟨r, hrE, r2, by omega, by rw [← sh _ r1 (by simp only; omega)]; exact r4, fun x hx a1 a2 a3 => ?_⟩
      have hl2 := less x hx a1 a2 a3
      have hxE := ((mem_delE hk).1 hx).1
      exact r5 x hxE a1 hl2 (by rw [sh x hxE (by omega)]; exact a3)
  · simp only [uncF]
    rw [if_neg hc]
    cases hf : f k m with
    | none =>
      rw [hf] at hb
      intro x hx a1 a2
      exact hb x ((mem_delE hk).1 hx).1 a1 a2
    | some b =>
      rw [hf] at hb
      obtain ⟨q, k1, k2, k3, k4, k5⟩ := hb
      refine ⟨q, (mem_delE hk).2 ⟨k1, fun e => hc ?_⟩, k2, k3, k4, fun x hx a1 a2 a3 => k5 x ((mem_delE hk).1 hx).1 a1 a2 a3⟩
      simp only at e
      subst e
      have hbl : b = l := by
        have key : ∀ (E : List (PX × Nat)), (E.map (·.1)).Nodup → ∀ x ∈ E, ∀ y ∈ E, x.1 = y.1 → x = y := by
          intro E; induction E with
          | nil => intro _ x hx; cases hx
          | cons z E ih =>
            intro hn x hx y hy e
            rw [List.map_cons, List.nodup_cons] at hn
            rcases List.mem_cons.1 hx with rfl | hx1
            · rcases List.mem_cons.1 hy with rfl | hy1
              · rfl
              · exact absurd (List.mem_map.2 ⟨y, hy1, e.symm⟩) hn.1
            · rcases List.mem_cons.1 hy with rfl | hy1
              · exact absurd (List.mem_map.2 ⟨x, hx1, e⟩) hn.1
              · exact ih hn.2 x hx1 y hy1 e
        exact congrArg Prod.snd (key E hk _ k1 _ hl rfl)
      subst hbl
      have hkl : k = lvN N := lv_only hN hk2 (by simpa using k2) (by simpa using k3)
      subst hkl
      have := (cov_range (m := m) hA hN hZ).1 k4
      exact ⟨rfl, this.1, this.2, hf⟩
end Go.Proofs.YtmoimkeeldlpkaaGreat.Dr

namespace Go.Proofs.YtmoimkeeldlpkaaGreat.Dr

set_option maxRecDepth 100000

open Go.RowKit Go.Proofs.YtmoimkeeldlpkaaGreat Go.Proofs.YtmoimkeeldlpkaaGreat.Tri

set_option linter.unusedVariables false

/-- Is this block a table, or a Dir's? -/
def isT (w : World) (x : Nat) : Bool := match w.heap[x]? with
  | some (.cells _ t _) => t == 127 || t == 183 || t == 111
  | _ => false

def tabF (w : World) (F : List Nat) : List Nat := F.filter (isT w)

theorem isT_dir {w : World} {db : Nat} {mo ow mp dn st sm fi : Value} (h : w.heap[db]? = some (dirO mo ow mp dn st sm fi)) : isT w db = true := by
  unfold isT; rw [h]; rfl

theorem isT_tab {w : World} {T f : Nat → Nat → Option Nat} (h : Tabs w T f) {k n b : Nat} (e : T k n = some b) : isT w b = true := by
  obtain ⟨cs, h1, -, -⟩ := h.tab k n b e
  unfold isT; rw [h1]
  match k with
  | 0 => rfl
  | k + 1 => rfl

theorem isT_laid {w : World} {b : Nat} {cs : Array Value} (h : w.heap[b]? = some (.cells cs 130 (0, 0))) : isT w b = false := by
  unfold isT; rw [h]; rfl

theorem isT_map {w : World} {m : Nat} {E : List (PX × Nat)} (h : MapAt w m E) : isT w m = false := by
  obtain ⟨es, cl, h1, -⟩ := h
  unfold isT; rw [h1]

def setV (V : PX → Int) (p : PX) (v : Int) : PX → Int := fun q => if q = p then v else V q

theorem dom_app (K : List PX) (p : PX) (j n : Nat) : domB (K ++ [p]) j n = true ↔ domB K j n = true ∨ ((loN j : Int) ≤ p.2 ∧ p.1.toNat / 2 ^ beN (j - 1) = n) := by
  rw [dom_iff, dom_iff]
  constructor
  · rintro ⟨q, hq, h1, h2⟩
    rcases List.mem_append.1 hq with hq | hq
    · exact .inl ⟨q, hq, h1, h2⟩
    · rw [List.mem_singleton.1 hq] at h1 h2; exact .inr ⟨h1, h2⟩
  · rintro (⟨q, hq, h1, h2⟩ | ⟨h1, h2⟩)
    · exact ⟨q, List.mem_append_left _ hq, h1, h2⟩
    · exact ⟨p, List.mem_append_right _ (List.mem_singleton.2 rfl), h1, h2⟩

theorem set_done {w0 w4 w5 w6 w7 w8 : World} {db m nl b A N : Nat} {most v : Int} {E : List (PX × Nat)} {V : PX → Int} {T1 T2 f : Nat → Nat → Option Nat} {F1 : List Nat} (D : DirIn w4 db most E V T1 f (some m) F1)
    (hnl : w4.heap[nl]? = some (.cells #[.int .i64 N, .int .i64 v] 130 (0, 0))) (hnF : nl ∉ F1) (hl : lk E ((A : Int), (N : Int)) = none) (hA : A < 4294967296) (hN : N ≤ 32) (hZ : A % 2 ^ (32 - N) = 0)
    (m5 : MapAt w5 m (E ++ [(((A : Int), (N : Int)), nl)])) (x5 : ExtS [m] w4 w5) (t6 : Tabs w6 T2 f)
    (o6 : w6.heap[db]? = some (dirO (.int .i64 most) (.int .i64 (ownN (E.map (·.1)) + moreN (E.map (·.1)) A (lvN N) : Nat)) (.map (some m)) (.int .u32 1) (.int .i32 0) (.int .u32 0) (tbV 0 (T2 0 0))))
    (x6 : ExtS (tabF w5 F1) w5 w6) (g6 : Grown T1 T2 A (lvN N) w5.heap.size) (x7 : Ext w6 w7) (hb : onT T2 A (lvN N) = some b) (x8 : ExtS [b] w7 w8)
    (t8 : TabAt w8 b (szN (lvN N)) (tyN (lvN N)) (covB (fun i => f (lvN N) (plN (lvN N) A / szN (lvN N) * szN (lvN N) + i)) (lenB (E ++ [(((A : Int), (N : Int)), nl)])) (plN (lvN N) A % szN (lvN N)) (cntN N) nl) (fun i => T2 (lvN N + 1) (plN (lvN N) A / szN (lvN N) * szN (lvN N) + i)))
    (hw0 : w0.heap.size ≤ w4.heap.size) (hwl : w0.heap.size ≤ nl) :
    ∃ T' f' F', DirIn w8 db most (E ++ [(((A : Int), (N : Int)), nl)]) (setV V ((A : Int), (N : Int)) v) T' f' (some m) F' ∧ ∀ x ∈ F', x ∈ F1 ∨ w0.heap.size ≤ x := by
  have hvp : Vp ((A : Int), (N : Int)) := ⟨A, N, rfl, hN, hA, hZ⟩
  have hlv := lvN_le N
  -- what stands
  have hmF : m ∉ tabF w5 F1 := fun h => by have := (List.mem_filter.1 h).2; rw [isT_map m5] at this; cases this
  have bT := isT_tab t6 hb
  have bm : m ≠ b := by
    rintro rfl
    have := isT_map (m5.later x6 hmF)
    rw [this] at bT; cases bT
  have keep : ∀ (y : Nat) (cs : Array Value), w4.heap[y]? = some (.cells cs 130 (0, 0)) → w8.heap[y]? = some (.cells cs 130 (0, 0)) := fun y cs hy => by
    have y1 : y ∉ [m] := by
      intro e
      rw [List.mem_singleton.1 e] at hy
      obtain ⟨es, cl, hm, -⟩ := D.map m rfl
      rw [hm] at hy; cases hy
    have hy5 := x5.heap y1 hy
    have y2 : y ∉ tabF w5 F1 := fun h => by have := (List.mem_filter.1 h).2; rw [isT_laid hy5] at this; cases this
    have hy7 := x7.heap (x6.heap y2 hy5)
    have y3 : y ∉ [b] := by
      intro e
      rw [List.mem_singleton.1 e] at hy7
      have := isT_tab (t6.ext x7) hb
      rw [isT_laid hy7] at this; cases this
    exact x8.heap y3 hy7
  have hmap : MapAt w8 m (E ++ [(((A : Int), (N : Int)), nl)]) := ((m5.later x6 hmF).later (x7.toS []) (by simp)).later x8 (by simpa using bm)
  have hnd : (((E ++ [(((A : Int), (N : Int)), nl)]).map (·.2))).Nodup := by
    rw [List.map_append]
    refine List.nodup_append.2 ⟨D.blks, by simp, fun a ha c hc e => ?_⟩
    obtain ⟨x, hx, rfl⟩ := List.mem_map.1 ha
    simp only [List.map_cons, List.map_nil, List.mem_singleton] at hc
    exact hnF (by rw [← hc, ← e]; exact D.flaid x hx)
  have hkd : (((E ++ [(((A : Int), (N : Int)), nl)]).map (·.1))).Nodup := by
    rw [List.map_append]
    refine List.nodup_append.2 ⟨D.keys, by simp, fun a ha c hc e => ?_⟩
    obtain ⟨x, hx, rfl⟩ := List.mem_map.1 ha
    simp only [List.map_cons, List.map_nil, List.mem_singleton] at hc
    exact lk_none hl x hx (e.trans hc)
  have hpn := paint_new D.paint hnd hA hN hZ
  have dbb : db ≠ b := fun e => t6.ne_dir o6 hb e.symm
  -- the tables
  have htab : Tabs w8 T2 (covF f (lenB (E ++ [(((A : Int), (N : Int)), nl)])) (lvN N) (plN (lvN N) A) (cntN N) nl) := by
    refine (t6.ext x7).paint hb x8 (fun k n b' _ hne => by simpa using hne) (t8.congr (fun i hi => ?_) (fun i hi => rfl)) (fun k' m' hne => ?_)
    · have hs := pl_split (lvN N) A
      simp only [covF, covB]
      have hr : (plN (lvN N) A % szN (lvN N) ≤ i ∧ i < plN (lvN N) A % szN (lvN N) + cntN N) ↔ (plN (lvN N) A ≤ plN (lvN N) A / szN (lvN N) * szN (lvN N) + i ∧ plN (lvN N) A / szN (lvN N) * szN (lvN N) + i < plN (lvN N) A + cntN N) := by omega
      by_cases c : ∀ b, f (lvN N) (plN (lvN N) A / szN (lvN N) * szN (lvN N) + i) = some b → lenB (E ++ [(((A : Int), (N : Int)), nl)]) b < lenB (E ++ [(((A : Int), (N : Int)), nl)]) nl
      · by_cases r : plN (lvN N) A % szN (lvN N) ≤ i ∧ i < plN (lvN N) A % szN (lvN N) + cntN N
        · rw [if_pos ⟨trivial, (hr.1 r).1, (hr.1 r).2, c⟩, if_pos ⟨r.1, r.2, c⟩]
        · rw [if_neg (fun h => r (hr.2 ⟨h.2.1, h.2.2.1⟩)), if_neg (fun h => r ⟨h.1, h.2.1⟩)]
      · rw [if_neg (fun h => c h.2.2.2), if_neg (fun h => c h.2.2)]
    · simp only [covF]
      rw [if_neg ?_]
      rintro ⟨rfl, h1, h2, -⟩
      apply hne
      refine ⟨rfl, ?_⟩
      have hok := cnt_ok A N hN hZ
      have hs := pl_split (lvN N) A
      have : m' = plN (lvN N) A / szN (lvN N) * szN (lvN N) + (m' - plN (lvN N) A / szN (lvN N) * szN (lvN N)) := by omega
      rw [this]
      exact mul_add_div (by omega)
  refine ⟨T2, _, F1 ++ (List.range w8.heap.size).filter (fun x => decide (w0.heap.size ≤ x)), ⟨?_, ?_, fun m' e => ?_, (fun e => by cases e), htab, fun j n h1 h2 => ?_, hpn, fun x hx => ?_, hkd, hnd, fun x hx => ?_, List.mem_append_left _ D.fdb, fun m' e => List.mem_append_left _ (D.fmap m' e), fun k n b' e => ?_, fun x hx => ?_, fun x hx => ?_⟩, fun x hx => ?_⟩
  · have := x8.heap (by simpa using dbb) (x7.heap o6)
    have e1 := own_cons ((A : Int), (N : Int)) hvp (E.map (·.1))
    have e2 : ownN (E.map (·.1) ++ [((A : Int), (N : Int))]) = ownN (((A : Int), (N : Int)) :: E.map (·.1)) := own_perm (List.perm_append_singleton _ _)
    simp only [Int.toNat_natCast] at e1
    have e3 : ownN ((E ++ [(((A : Int), (N : Int)), nl)]).map (·.1)) = ownN (E.map (·.1)) + moreN (E.map (·.1)) A (lvN N) := by rw [List.map_append, ← e1, ← e2]; rfl
    rw [e3]
    exact this
  · refine ⟨(fun e => by cases e), fun e => ?_⟩
    exfalso
    cases hh : T1 0 0 with
    | none => have := D.begun.2 hh; cases this
    | some b0 => rw [g6.old _ _ b0 hh] at e; cases e
  · cases e; exact hmap
  · rw [List.map_append]
    show (T2 j n).isSome = true ↔ domB (E.map (·.1) ++ [((A : Int), (N : Int))]) j n = true ∨ _
    rw [dom_app]
    have hd := D.dom j n h1 h2
    have hlo : (loN j : Int) ≤ (N : Int) ↔ j ≤ lvN N := by
      obtain ⟨i, rfl⟩ : ∃ i, j = i + 1 := ⟨j - 1, by omega⟩
      have := lvN_lt N i (by omega)
      omega
    constructor
    · intro hs
      cases hh : T1 j n with
      | some b1 =>
        rw [hh] at hd
        rcases hd.1 rfl with h | h
        · exact .inl (.inl h)
        · omega
      | none =>
        obtain ⟨b2, hb2⟩ := Option.isSome_iff_exists.1 hs
        obtain ⟨-, i, hi, rfl, rfl⟩ := g6.new j n b2 hh hb2
        refine .inl (.inr ⟨hlo.2 (by omega), ?_⟩)
        simp [plN]
    · rintro ((h | ⟨h3, h4⟩) | h)
      · have := hd.2 (.inl h)
        obtain ⟨b1, hb1⟩ := Option.isSome_iff_exists.1 this
        rw [g6.old _ _ _ hb1]; rfl
      · obtain ⟨i, rfl⟩ : ∃ i, j = i + 1 := ⟨j - 1, by omega⟩
        have hj := hlo.1 h3
        have := g6.way i (by omega)
        simp only [Int.toNat_natCast, Nat.add_sub_cancel] at h4
        have e : plN i A = n := h4
        rw [e] at this
        cases hh : T2 (i + 1) n with
        | none => exact absurd hh this
        | some _ => rfl
      · omega
  · rcases List.mem_append.1 hx with hx | hx
    · exact D.valid x hx
    · rw [List.mem_singleton.1 hx]; exact hvp
  · rcases List.mem_append.1 hx with hx | hx
    · have hne : x.1 ≠ ((A : Int), (N : Int)) := lk_none hl x hx
      have := keep x.2 _ (D.laid x hx)
      rw [this]
      simp only [setV, if_neg hne]
    · rw [List.mem_singleton.1 hx]
      have := keep nl _ hnl
      simp only [setV, if_true]
      exact this
  · cases hh : T1 k n with
    | some b1 =>
      have := g6.old _ _ _ hh
      rw [e] at this
      cases this
      exact List.mem_append_left _ (D.ftab _ _ _ hh)
    | none =>
      have h1 := (g6.new _ _ _ hh e).1
      have h2 := (htab.tab _ _ _ e).lt
      have h3 := x5.size
      exact List.mem_append_right _ (List.mem_filter.2 ⟨List.mem_range.2 h2, decide_eq_true (by omega)⟩)
  · rcases List.mem_append.1 hx with hx | hx
    · exact List.mem_append_left _ (D.flaid x hx)
    · rw [List.mem_singleton.1 hx]
      have h2 := heap_lt (keep nl _ hnl)
      exact List.mem_append_right _ (List.mem_filter.2 ⟨List.mem_range.2 h2, decide_eq_true hwl⟩)
  · rcases List.mem_append.1 hx with hx | hx
    · have h1 := D.lt x hx
      have h2 := x5.size
      have h3 := x6.size
      have h4 := x7.size
      have h5 := x8.size
      omega
    · exact List.mem_range.1 (List.mem_filter.1 hx).1
  · rcases List.mem_append.1 hx with hx | hx
    · exact .inl hx
    · exact .inr (of_decide_eq_true (List.mem_filter.1 hx).2)
end Go.Proofs.YtmoimkeeldlpkaaGreat.Dr

namespace Go.Proofs.YtmoimkeeldlpkaaGreat.Dr

set_option maxRecDepth 100000

open Go.RowKit Go.Proofs.YtmoimkeeldlpkaaGreat Go.Proofs.YtmoimkeeldlpkaaGreat.Tri

set_option linter.unusedVariables false

theorem laid_keep {w4 w5 w6 w7 : World} {m y : Nat} {E0 : List (PX × Nat)} {F1 : List Nat} {cs : Array Value} (hm : MapAt w4 m E0) (x5 : ExtS [m] w4 w5) (x6 : ExtS (tabF w5 F1) w5 w6) (x7 : Ext w6 w7) (hy : w4.heap[y]? = some (.cells cs 130 (0, 0))) : w7.heap[y]? = some (.cells cs 130 (0, 0)) := by
  have y1 : y ∉ [m] := by
    intro e
    rw [List.mem_singleton.1 e] at hy
    obtain ⟨es, cl, hm, -⟩ := hm
    rw [hm] at hy; cases hy
  have hy5 := x5.heap y1 hy
  have y2 : y ∉ tabF w5 F1 := fun h => by have := (List.mem_filter.1 h).2; rw [isT_laid hy5] at this; cases this
  exact x7.heap (x6.heap y2 hy5)

theorem tab_lt (k A i : Nat) (hk : k ≤ 2) (hA : A < 4294967296) (hi : i < szN k) : plN k A / szN k * szN k + i < 2 ^ (32 - beN k) := by
  have h := pl_lt k A hA hk
  match k, hk with
  | 0, _ => simp only [szN, beN] at *; omega
  | 1, _ => simp only [szN, beN] at *; omega
  | 2, _ => simp only [szN, beN] at *; omega

/-- What Set of a new prefix leaves. -/
def NewAns (w : World) (F : List Nat) (db : Nat) (most : Int) (E : List (PX × Nat)) (V : PX → Int) (A N : Nat) (v : Int) (w' : World) : Prop := ∃ m nl T' f' F', DirIn w' db most (E ++ [(((A : Int), (N : Int)), nl)]) (setV V ((A : Int), (N : Int)) v) T' f' (some m) F' ∧ ExtS F w w' ∧ ∀ x ∈ F', x ∈ F ∨ w.heap.size ≤ x

section

variable {w : World} {db : Nat} {most : Int} {E : List (PX × Nat)} {V : PX → Int} {T f : Nat → Nat → Option Nat} {mb : Option Nat} {F : List Nat}

set_option maxHeartbeats 2000000 in
theorem set_full (h : DirIn w db most E V T f mb F) (A N : Nat) (v : Int) (hA : A < 4294967296) (hN : N ≤ 32) (hZ : A % 2 ^ (32 - N) = 0) (hv : 0 ≤ v) (hl : lk E ((A : Int), (N : Int)) = none) (hown : ownN (E.map (·.1)) ≤ 1000000)
    (hfull : most < ((ownN (E.map (·.1)) + moreN (E.map (·.1)) A (lvN N) : Nat) : Int)) :
    Calls Tryz.prog 84 #[.pointer (some ⟨db, 0, none⟩), .agg #[.int .u32 A, .int .i64 N], .int .i64 v] w fun e w' => e = .returned (.int .i64 6) ∧ Ext w w' := by
  have hp : Vp ((A : Int), (N : Int)) := ⟨A, N, rfl, hN, hA, hZ⟩
  obtain ⟨a0, a1, -, -⟩ := hp.bd
  have hx0 : Ext w (w.alloc (.cells #[.int .u32 A, .int .i64 N] 31)) := (Ext.refl w).alloc _
  have hn := heap_new w (.cells #[.int .u32 A, .int .i64 N] 31)
  have hq : ∀ w', Ext (w.alloc (.cells #[.int .u32 A, .int .i64 N] 31)) w' → w'.cell? ⟨w.heap.size, 0, none⟩ = some (.int .u32 A) ∧ w'.cell? ⟨w.heap.size, 1, none⟩ = some (.int .i64 N) := fun w' hx => ⟨by rw [heap_cell (hx.heap hn)]; rfl, by rw [heap_cell (hx.heap hn)]; rfl⟩
  have HQ : Hid _ := hq
  have ci := fun w => is_any (A : Int) (N : Int) w a0 a1
  rw [hp.is] at ci
  have hnot : ∀ (x : Bool) (w : World), (Op.unary .not (.bool x)).run Tryz.prog w = .ok (.bool (!x)) w := fun _ _ => rfl
  have hr := h.reads
  have hlk : ∀ w', Ext w w' → (Instr.lookup 97 (.map mb) (.agg #[.int .u32 A, .int .i64 N]) false).run Tryz.prog w' = .ok (.pointer none) w' := fun w' hx => by
    have := (h.ext hx).look ((A : Int), (N : Int))
    rw [hl] at this; exact this
  have cm : ∀ w', Ext w w' → Calls Tryz.prog 108 #[.pointer (some ⟨db, 0, none⟩), .agg #[.int .u32 A, .int .i64 N]] w' fun e w2 => e = .returned (.int .i64 (moreN (E.map (·.1)) A (lvN N) : Nat)) ∧ Ext w' w2 := fun w' hx => by
    rw [← ms_more h.dom A (lvN N) (lvN_le N)]
    exact missing_any db A N T f w' (h.tabs.ext hx) (h.reads w' hx).2.2.2 hA hN
  have hmo := more_le (E.map (·.1)) A (lvN N)
  have hlv := lvN_le N
  have HR : Hid _ := hr
  have HLK : Hid _ := hlk
  have HCM : Hid _ := cm
  clear hq hn hr hlk cm h hl hp hZ
  generalize ownN (E.map (·.1)) = ow at *
  generalize moreN (E.map (·.1)) A (lvN N) = mo at *
  obtain ⟨hi1, hi2⟩ : (ow : Int) ≤ 1000000 ∧ (mo : Int) ≤ 2 := by omega
  have hsum : IntKind.i64.wrap ((ow : Int) + (mo : Int)) = (ow : Int) + (mo : Int) := by rw [IntKind.wrap_i64]; omega
  have hgt : most < (ow : Int) + (mo : Int) := by omega
  generalize hW0 : (w.alloc (.cells #[.int .u32 A, .int .i64 N] 31)) = W0 at *
  clear hfull
  go_enter Tryz.func84, Tryz.ntmps84
  obtain ⟨q0, q1⟩ := HQ.out _ (Ext.refl _)
  go_wp2_with (go_at_call 86; refine (ci _).mono ?_; rintro e w1 ⟨rfl, hx1⟩)
  have hx2 := hx1.drew
  refine wp_region_eager [(0, false), (1, false), (2, false), (3, false), (4, false), (5, false), (6, false)] (by kernel_rfl) (by kernel_rfl) rfl (by kernel_rfl) (fun _ _ _ _ _ h => h) ?_
  generalize w1.drew = W2 at *
  have g0 : ∀ w', Ext W2 w' → w'.cell? ⟨w.heap.size, 0, none⟩ = some (.int .u32 A) := fun w' h => (HQ.out _ (hx2.trans h)).1
  have g1 : ∀ w', Ext W2 w' → w'.cell? ⟨w.heap.size, 1, none⟩ = some (.int .i64 N) := fun w' h => (HQ.out _ (hx2.trans h)).2
  have g2 : ∀ w', Ext W2 w' → w'.cell? ⟨db, 2, none⟩ = some (.map mb) := fun w' h => (HR.out _ ((hx0.trans hx2).trans h)).2.2.1
  have g3 : ∀ w', Ext W2 w' → (Instr.lookup 97 (.map mb) (.agg #[.int .u32 A, .int .i64 N]) false).run Tryz.prog w' = .ok (.pointer none) w' := fun w' h => HLK.out _ ((hx0.trans hx2).trans h)
  clear q0 q1
  iterate 7 (refine wpE_read (v := ?_) rfl (by rfl) ?_ ?_; rotate_left; (focus (intro w' hx; go_simp; first | done | with_reducible rfl)); simp only [Act.put, List.setIfInBounds_toArray, List.set_cons_zero, List.set_cons_succ])
  refine wpE_done ?_
  clear g0 g1 g2 g3
  go_wp2_with fail
  have hx3 := hx2.drew
  refine wp_region_eager [(0, false), (1, false), (2, false), (3, false), (4, false), (5, false), (8, false), (9, false), (10, false), (11, false), (6, true), (7, false), (12, false)] (by kernel_rfl) (by kernel_rfl) rfl (by kernel_rfl) (fun _ _ _ _ _ h => h) ?_
  generalize W2.drew = W3 at *
  have g0 : ∀ w', Ext W3 w' → w'.cell? ⟨w.heap.size, 0, none⟩ = some (.int .u32 A) := fun w' h => (HQ.out _ (hx3.trans h)).1
  have g1 : ∀ w', Ext W3 w' → w'.cell? ⟨w.heap.size, 1, none⟩ = some (.int .i64 N) := fun w' h => (HQ.out _ (hx3.trans h)).2
  have g2 : ∀ w', Ext W3 w' → w'.cell? ⟨db, 1, none⟩ = some (.int .i64 ow) := fun w' h => (HR.out _ ((hx0.trans hx3).trans h)).2.1
  have g3 : ∀ w', Ext W3 w' → w'.cell? ⟨db, 0, none⟩ = some (.int .i64 most) := fun w' h => (HR.out _ ((hx0.trans hx3).trans h)).1
  iterate 10 (refine wpE_read (v := ?_) rfl (by rfl) ?_ ?_; rotate_left; (focus (intro w' hx; go_simp; first | done | with_reducible rfl)); simp only [Act.put, List.setIfInBounds_toArray, List.set_cons_zero, List.set_cons_succ])
  refine wpE_call rfl (by rfl) (fun K hK => ?_); go_simp; first | (go_at_call 108; refine (HCM.out _ (hx0.trans hx3)).mono ?_; rintro e w4 ⟨rfl, hx4⟩; refine hK _ _ hx4 ?_; clear hK K)
  iterate 2 (refine wpE_read (v := ?_) rfl (by rfl) ?_ ?_; rotate_left; (focus (intro w' hx; go_simp; first | done | with_reducible rfl)); simp only [Act.put, List.setIfInBounds_toArray, List.set_cons_zero, List.set_cons_succ])
  refine wpE_done ?_
  clear g0 g1 g2 g3
  go_wp2_with fail
  go_ret
  exact ⟨rfl, (hx0.trans hx3).trans hx4⟩
set_option maxHeartbeats 2000000 in
theorem set_new (h : DirIn w db most E V T f mb F) (A N : Nat) (v : Int) (hA : A < 4294967296) (hN : N ≤ 32) (hZ : A % 2 ^ (32 - N) = 0) (hv : 0 ≤ v) (hl : lk E ((A : Int), (N : Int)) = none) (hown : ownN (E.map (·.1)) ≤ 1000000)
    (hroom : ((ownN (E.map (·.1)) + moreN (E.map (·.1)) A (lvN N) : Nat) : Int) ≤ most) :
    Calls Tryz.prog 84 #[.pointer (some ⟨db, 0, none⟩), .agg #[.int .u32 A, .int .i64 N], .int .i64 v] w fun e w' => e = .returned (.int .i64 0) ∧ NewAns w F db most E V A N v w' := by
  have hp : Vp ((A : Int), (N : Int)) := ⟨A, N, rfl, hN, hA, hZ⟩
  obtain ⟨a0, a1, -, -⟩ := hp.bd
  have hx0 : Ext w (w.alloc (.cells #[.int .u32 A, .int .i64 N] 31)) := (Ext.refl w).alloc _
  have hn := heap_new w (.cells #[.int .u32 A, .int .i64 N] 31)
  have hqS : ∀ w', ExtS F (w.alloc (.cells #[.int .u32 A, .int .i64 N] 31)) w' → w'.cell? ⟨w.heap.size, 0, none⟩ = some (.int .u32 A) ∧ w'.cell? ⟨w.heap.size, 1, none⟩ = some (.int .i64 N) := fun w' hx => by
    have hnF : w.heap.size ∉ F := fun hh => Nat.lt_irrefl _ (h.lt _ hh)
    exact ⟨by rw [heap_cell (hx.heap hnF hn)]; rfl, by rw [heap_cell (hx.heap hnF hn)]; rfl⟩
  have HQS : Hid _ := hqS
  have hq : ∀ w', Ext (w.alloc (.cells #[.int .u32 A, .int .i64 N] 31)) w' → w'.cell? ⟨w.heap.size, 0, none⟩ = some (.int .u32 A) ∧ w'.cell? ⟨w.heap.size, 1, none⟩ = some (.int .i64 N) := fun w' hx => hqS w' (hx.toS F)
  have HQ : Hid _ := hq
  have ci := fun w => is_any (A : Int) (N : Int) w a0 a1
  rw [hp.is] at ci
  have hnot : ∀ (x : Bool) (w : World), (Op.unary .not (.bool x)).run Tryz.prog w = .ok (.bool (!x)) w := fun _ _ => rfl
  have hr := h.reads
  have hlk : ∀ w', Ext w w' → (Instr.lookup 97 (.map mb) (.agg #[.int .u32 A, .int .i64 N]) false).run Tryz.prog w' = .ok (.pointer none) w' := fun w' hx => by
    have := (h.ext hx).look ((A : Int), (N : Int))
    rw [hl] at this; exact this
  have cm : ∀ w', Ext w w' → Calls Tryz.prog 108 #[.pointer (some ⟨db, 0, none⟩), .agg #[.int .u32 A, .int .i64 N]] w' fun e w2 => e = .returned (.int .i64 (moreN (E.map (·.1)) A (lvN N) : Nat)) ∧ Ext w' w2 := fun w' hx => by
    rw [← ms_more h.dom A (lvN N) (lvN_le N)]
    exact missing_any db A N T f w' (h.tabs.ext hx) (h.reads w' hx).2.2.2 hA hN
  have hmo := more_le (E.map (·.1)) A (lvN N)
  have hlv := lvN_le N
  have HR : Hid _ := hr
  have HLK : Hid _ := hlk
  have HCM : Hid _ := cm
  have HD : Hid (DirIn w db most E V T f mb F) := h
  have HL : Hid (lk E ((A : Int), (N : Int)) = none) := hl
  have HZ : Hid (A % 2 ^ (32 - N) = 0) := hZ
  clear hq hqS hn hr hlk cm h hl hp hZ
  obtain ⟨ow, how⟩ : ∃ ow, ow = ownN (E.map (·.1)) := ⟨_, rfl⟩
  obtain ⟨mo, hmo'⟩ : ∃ mo, mo = moreN (E.map (·.1)) A (lvN N) := ⟨_, rfl⟩
  rw [← how] at hown hroom
  rw [← hmo'] at hmo hroom HCM
  have HOW : Hid (ow = ownN (E.map (·.1))) := how
  have HMO : Hid (mo = moreN (E.map (·.1)) A (lvN N)) := hmo'
  clear how hmo'
  have hmf : ∀ (fn : Fn) (first cap : Array Value) (w : World), (Instr.makeFunc fn first cap).run Tryz.prog w = .ok (.func fn first cap) w := fun _ _ _ _ => rfl
  obtain ⟨hi1, hi2⟩ : (ow : Int) ≤ 1000000 ∧ (mo : Int) ≤ 2 := by omega
  have hsum : IntKind.i64.wrap ((ow : Int) + (mo : Int)) = (ow : Int) + (mo : Int) := by rw [IntKind.wrap_i64]; omega
  have hgt : (ow : Int) + (mo : Int) ≤ most := by omega
  generalize hW0 : (w.alloc (.cells #[.int .u32 A, .int .i64 N] 31)) = W0 at *
  clear hroom
  go_enter Tryz.func84, Tryz.ntmps84
  obtain ⟨q0, q1⟩ := HQ.out _ (Ext.refl _)
  go_wp2_with (go_at_call 86; refine (ci _).mono ?_; rintro e w1 ⟨rfl, hx1⟩)
  have hx2 := hx1.drew
  refine wp_region_eager [(0, false), (1, false), (2, false), (3, false), (4, false), (5, false), (6, false)] (by kernel_rfl) (by kernel_rfl) rfl (by kernel_rfl) (fun _ _ _ _ _ h => h) ?_
  generalize w1.drew = W2 at *
  have g0 : ∀ w', Ext W2 w' → w'.cell? ⟨w.heap.size, 0, none⟩ = some (.int .u32 A) := fun w' h => (HQ.out _ (hx2.trans h)).1
  have g1 : ∀ w', Ext W2 w' → w'.cell? ⟨w.heap.size, 1, none⟩ = some (.int .i64 N) := fun w' h => (HQ.out _ (hx2.trans h)).2
  have g2 : ∀ w', Ext W2 w' → w'.cell? ⟨db, 2, none⟩ = some (.map mb) := fun w' h => (HR.out _ ((hx0.trans hx2).trans h)).2.2.1
  have g3 : ∀ w', Ext W2 w' → (Instr.lookup 97 (.map mb) (.agg #[.int .u32 A, .int .i64 N]) false).run Tryz.prog w' = .ok (.pointer none) w' := fun w' h => HLK.out _ ((hx0.trans hx2).trans h)
  clear q0 q1
  iterate 7 (refine wpE_read (v := ?_) rfl (by rfl) ?_ ?_; rotate_left; (focus (intro w' hx; go_simp; first | done | with_reducible rfl)); simp only [Act.put, List.setIfInBounds_toArray, List.set_cons_zero, List.set_cons_succ])
  refine wpE_done ?_
  clear g0 g1 g2 g3
  go_wp2_with fail
  have hx3 := hx2.drew
  refine wp_region_eager [(0, false), (1, false), (2, false), (3, false), (4, false), (5, false), (8, false), (9, false), (10, false), (11, false), (6, true), (7, false), (12, false)] (by kernel_rfl) (by kernel_rfl) rfl (by kernel_rfl) (fun _ _ _ _ _ h => h) ?_
  generalize W2.drew = W3 at *
  have g0 : ∀ w', Ext W3 w' → w'.cell? ⟨w.heap.size, 0, none⟩ = some (.int .u32 A) := fun w' h => (HQ.out _ (hx3.trans h)).1
  have g1 : ∀ w', Ext W3 w' → w'.cell? ⟨w.heap.size, 1, none⟩ = some (.int .i64 N) := fun w' h => (HQ.out _ (hx3.trans h)).2
  have g2 : ∀ w', Ext W3 w' → w'.cell? ⟨db, 1, none⟩ = some (.int .i64 ow) := fun w' h => by rw [HOW.out]; exact (HR.out _ ((hx0.trans hx3).trans h)).2.1
  have g3 : ∀ w', Ext W3 w' → w'.cell? ⟨db, 0, none⟩ = some (.int .i64 most) := fun w' h => (HR.out _ ((hx0.trans hx3).trans h)).1
  iterate 10 (refine wpE_read (v := ?_) rfl (by rfl) ?_ ?_; rotate_left; (focus (intro w' hx; go_simp; first | done | with_reducible rfl)); simp only [Act.put, List.setIfInBounds_toArray, List.set_cons_zero, List.set_cons_succ])
  refine wpE_call rfl (by rfl) (fun K hK => ?_); go_simp; first | (go_at_call 108; refine (HCM.out _ (hx0.trans hx3)).mono ?_; rintro e w4 ⟨rfl, hx4⟩; refine hK _ _ hx4 ?_; clear hK K)
  iterate 2 (refine wpE_read (v := ?_) rfl (by rfl) ?_ ?_; rotate_left; (focus (intro w' hx; go_simp; first | done | with_reducible rfl)); simp only [Act.put, List.setIfInBounds_toArray, List.set_cons_zero, List.set_cons_succ])
  refine wpE_done ?_
  clear g0 g1 g2 g3
  have hx34 := hx3.trans hx4
  go_wp2_with (go_at_call 109; refine (once_any (HD.out.ext (hx0.trans hx34))).mono ?_; rintro e w5 ⟨rfl, m, T1, F1, d1, x1, f1, f2, tt⟩; obtain ⟨q0, q1⟩ := HQS.out _ ((hx34.toS F).trans x1))
  clear q0 q1
  have hx6 : Ext w5 (w5.alloc (.cells #[.int .i64 N, .int .i64 v] 130)).drew := ((Ext.refl w5).alloc _).drew
  have hnl : (w5.alloc (.cells #[.int .i64 N, .int .i64 v] 130)).drew.heap[w5.heap.size]? = some (.cells #[.int .i64 N, .int .i64 v] 130 (0, 0)) := heap_new w5 _
  have hF1 : ∀ x ∈ F1, x ∈ F ∨ W0.heap.size ≤ x := fun x hx => by
    rcases f1 x hx with h | h
    · exact .inl h
    · exact .inr (Nat.le_trans hx34.size h)
  have XS : ExtS F W0 (w5.alloc (.cells #[.int .i64 N, .int .i64 v] 130)).drew := ((hx34.toS F).trans x1).trans (hx6.toS F)
  have hnF : w5.heap.size ∉ F1 := fun hh => Nat.lt_irrefl _ (d1.lt _ hh)
  have hs5 : W0.heap.size ≤ w5.heap.size := Nat.le_trans hx34.size x1.size
  have D6 := d1.ext hx6
  refine wp_region_eagerS [m] [(0, false), (1, false), (2, false), (3, false), (4, false), (5, false), (6, true)] (by kernel_rfl) (by kernel_rfl) rfl (by kernel_rfl) (fun _ _ _ _ _ h => h) ?_
  generalize hnn : w5.heap.size = nl at *
  generalize (w5.alloc (.cells #[.int .i64 N, .int .i64 v] 130)).drew = W6 at *
  clear hx6 d1
  obtain ⟨w7, hst, m7, x7, s7⟩ := store_px (D6.map m rfl) ((A : Int), (N : Int)) nl HL.out
  have hmF := hF1 m (D6.fmap m rfl)
  have hdm : db ∉ [m] := by
    intro e
    obtain ⟨es, cl, hm, -⟩ := D6.map m rfl
    have := D6.obj
    rw [List.mem_singleton.1 e, hm] at this; cases this
  have g0 : ∀ w', ExtS [m] W6 w' → w'.cell? ⟨w.heap.size, 0, none⟩ = some (.int .u32 A) := fun w' h => (HQS.out _ (XS.then h (fun b hb => by rw [List.mem_singleton.1 hb]; exact hmF))).1
  have g1 : ∀ w', ExtS [m] W6 w' → w'.cell? ⟨w.heap.size, 1, none⟩ = some (.int .i64 N) := fun w' h => (HQS.out _ (XS.then h (fun b hb => by rw [List.mem_singleton.1 hb]; exact hmF))).2
  have g2 : ∀ w', ExtS [m] W6 w' → w'.cell? ⟨db, 2, none⟩ = some (.map (some m)) := fun w' h => by rw [heap_cell (h.heap hdm D6.obj)]; rfl
  have HM7 : Hid _ := m7
  have HX7 : Hid _ := x7
  have HD6 : Hid _ := D6
  simp only [keyV, ptV, Option.map_some] at hst
  clear m7 D6
  iterate 6 (refine wpE_read (v := ?_) rfl (by rfl) ?_ ?_; rotate_left; (focus (intro w' hx; go_simp; first | done | with_reducible rfl)); simp only [Act.put, List.setIfInBounds_toArray, List.set_cons_zero, List.set_cons_succ])
  refine wpE_call rfl (by rfl) (fun K hK => ?_); go_simp; first | (refine hK _ _ HX7.out ?_; clear hK K)
  refine wpE_done ?_
  clear g0 g1 g2 hst x7
  have hvp : Vp ((A : Int), (N : Int)) := ⟨A, N, rfl, hN, hA, HZ.out⟩
  have XS7 : ExtS F W0 w7 := XS.then HX7.out (fun b hb => by rw [List.mem_singleton.1 hb]; exact hmF)
  have obj7 := HX7.out.heap hdm HD6.out.obj
  have tabs7 : Tabs w7 T1 f := HD6.out.tabs.later HX7.out (fun k n b e => by
    intro hh
    have h1 := isT_tab HD6.out.tabs e
    rw [List.mem_singleton.1 hh, isT_map (HD6.out.map m rfl)] at h1; cases h1)
  have co := own_any db A N (ownN (E.map (·.1))) (.int .i64 most) (.map (some m)) (.int .u32 1) (.int .i32 0) (.int .u32 0) T1 f (tabF w7 F1) w7 tabs7 (fun e => by have := HD6.out.begun.2 e; cases this) obj7
    (List.mem_filter.2 ⟨HD6.out.fdb, isT_dir obj7⟩) (fun k n b e => List.mem_filter.2 ⟨HD6.out.ftab k n b e, isT_tab tabs7 e⟩) (fun x hx => Nat.lt_of_lt_of_le (HD6.out.lt x (List.mem_filter.1 hx).1) HX7.out.size) (by rw [← HOW.out]; exact hown) hA hN
  have hms : msN T1 A (lvN N) = moreN (E.map (·.1)) A (lvN N) := ms_more HD6.out.dom A (lvN N) hlv
  rw [hms] at co
  obtain ⟨q0, q1⟩ := HQS.out _ XS7
  have HXS7 : Hid _ := XS7
  clear obj7 tabs7 hms XS XS7
  go_wp2_with (go_at_call 111; refine co.mono ?_; rintro e w8 ⟨rfl, T2, t8, o8, x8, g8⟩; obtain ⟨q0', q1'⟩ := HQS.out _ (HXS7.out.then x8 (fun b hb => hF1 b (List.mem_filter.1 hb).1)))
  have hon : ∃ b, onT T2 A (lvN N) = some b := by
    cases hlv0 : lvN N with
    | zero =>
      have : onT T2 A 0 = T2 0 0 := by unfold onT; rw [pl_zero A hA]
      rw [this]
      cases hh : T1 0 0 with
      | none => have := HD6.out.begun.2 hh; cases this
      | some b => exact ⟨b, g8.old _ _ _ hh⟩
    | succ j =>
      have hw := g8.way j (by omega)
      rw [on_next T2 A j (by omega)]
      cases hh : T2 (j + 1) (plN j A) with
      | none => exact absurd hh hw
      | some b => exact ⟨b, rfl⟩
  obtain ⟨b, hb⟩ := hon
  have cp := places_any db A N T2 f w8 t8 (by rw [heap_cell o8]; rfl) hA hN HZ.out b hb
  refine cp.mono ?_
  rintro e w9 ⟨⟨cp', rfl⟩, hx9⟩
  have hE' : ((E ++ [(((A : Int), (N : Int)), nl)]).map (·.2)).Nodup := by
    rw [List.map_append]
    refine List.nodup_append.2 ⟨HD6.out.blks, by simp, fun a ha c hc e => ?_⟩
    obtain ⟨x, hx, rfl⟩ := List.mem_map.1 ha
    simp only [List.map_cons, List.map_nil, List.mem_singleton] at hc
    exact hnF (by rw [← hc, ← e]; exact HD6.out.flaid x hx)
  have keep9 : ∀ (y : Nat) (cs : Array Value), W6.heap[y]? = some (.cells cs 130 (0, 0)) → w9.heap[y]? = some (.cells cs 130 (0, 0)) := fun y cs hy => laid_keep (HD6.out.map m rfl) HX7.out x8 hx9 hy
  have hnb : ∀ (y : Nat) (cs : Array Value), w9.heap[y]? = some (.cells cs 130 (0, 0)) → y ≠ b := fun y cs hy e => by
    have h1 := isT_tab (t8.ext hx9) hb
    rw [← e, isT_laid hy] at h1; cases h1
  have nl9 := keep9 nl _ hnl
  have ccv := cover_any b (szN (lvN N)) (plN (lvN N) A % szN (lvN N)) (cntN N) cp' nl (tyN (lvN N)) (fun i => f (lvN N) (plN (lvN N) A / szN (lvN N) * szN (lvN N) + i)) (fun i => T2 (lvN N + 1) (plN (lvN N) A / szN (lvN N) * szN (lvN N) + i)) (lenB (E ++ [(((A : Int), (N : Int)), nl)])) w9
    ((t8.ext hx9).tab _ _ _ hb) (cnt_ok A N hN HZ.out) (sz_le _)
    (by
      rw [heap_cell nl9]
      unfold lenB
      rw [nvE_of (V := fun p : PX => p.2) (p := ((A : Int), (N : Int))) hE' (List.mem_append_right _ (List.mem_singleton.2 rfl))]
      rfl) (hnb _ _ nl9) (fun i b' hi e => by
      have hbs := HD6.out.paint (lvN N) _ hlv (tab_lt (lvN N) A i hlv hA hi)
      rw [e] at hbs
      obtain ⟨q, k1, -⟩ := hbs
      have h9 := keep9 _ _ (HD6.out.laid _ k1)
      refine ⟨hnb _ _ h9, ?_⟩
      unfold lenB
      rw [heap_cell h9, nvE_of (V := fun p : PX => p.2) (p := q) hE' (List.mem_append_left _ k1)]
      rfl)
  have hend := fun w10 x10 t10 => set_done (w0 := w) (w8 := w10) HD6.out hnl hnF HL.out hA hN HZ.out HM7.out HX7.out t8 o8 x8 g8 hx9 hb x10 t10 (Nat.le_trans (Nat.le_trans hx0.size hs5) (Nat.le_of_lt (heap_lt hnl))) (Nat.le_trans hx0.size hs5)
  have XS9 : ExtS F W0 w9 := (HXS7.out.then x8 (fun b hb => hF1 b (List.mem_filter.1 hb).1)).trans (hx9.toS F)
  have hbF : b ∈ F ∨ W0.heap.size ≤ b := by
    cases hh : T1 (lvN N) (plN (lvN N) A / szN (lvN N)) with
    | some b1 =>
      have := g8.old _ _ _ hh
      unfold onT at hb
      rw [hb] at this
      cases this
      exact hF1 b (HD6.out.ftab _ _ _ hh)
    | none =>
      have h1 := (g8.new _ _ _ hh hb).1
      exact .inr (Nat.le_trans HXS7.out.size h1)
  generalize plN (lvN N) A % szN (lvN N) * 2 = off at *
  clear cp
  go_wp2_with (go_at_call 112; refine ccv.mono ?_; rintro e w10 ⟨rfl, t10, x10⟩)
  go_ret
  obtain ⟨T', f', F', dd, ff⟩ := hend w10 x10 t10
  refine ⟨rfl, m, nl, T', f', F', dd, (hx0.toS F).trans (XS9.then x10 (fun y hy => by rw [List.mem_singleton.1 hy]; exact hbF)), fun x hx => ?_⟩
  rcases ff x hx with h | h
  · rcases hF1 x h with h | h
    · exact .inl h
    · exact .inr (Nat.le_trans hx0.size h)
  · exact .inr h

end
end Go.Proofs.YtmoimkeeldlpkaaGreat.Dr
