/- Texts joined by a program: DirB, DirC, DirD. -/
import Derived.Test.YtkfhkhgiojpfoaaGreatJ13
namespace Go.Proofs.YtkfhkhgiojpfoaaGreat.Dr

set_option maxRecDepth 100000

open Go.RowKit Go.Proofs.YtkfhkhgiojpfoaaGreat Go.Proofs.YtkfhkhgiojpfoaaGreat.Tri

set_option linter.unusedVariables false

/-- Is this block a table, or a Dir's? -/
def isT (w : World) (x : Nat) : Bool := match w.heap[x]? with
  | some (.cells _ t _) => t == 156 || t == 197 || t == 118
  | _ => false

def tabF (w : World) (F : List Nat) : List Nat := F.filter (isT w)

theorem isT_dir {w : World} {db : Nat} {mo ow mp dn st sm fi : Value} (h : w.heap[db]? = some (dirO mo ow mp dn st sm fi)) : isT w db = true := by
  unfold isT; rw [h]; rfl

theorem isT_tab {w : World} {T f : Nat → Nat → Option Nat} (h : Tabs w T f) {k n b : Nat} (e : T k n = some b) : isT w b = true := by
  obtain ⟨cs, h1, -, -⟩ := h.tab k n b e
  unfold isT; rw [h1]
  match k with
  | 0 => rfl
  | k + 1 => rfl

theorem isT_laid {w : World} {b : Nat} {cs : Array Value} (h : w.heap[b]? = some (.cells cs 159 (0, 0))) : isT w b = false := by
  unfold isT; rw [h]; rfl

theorem isT_map {w : World} {m : Nat} {E : List (PX × Nat)} (h : MapAt w m E) : isT w m = false := by
  obtain ⟨es, cl, h1, -⟩ := h
  unfold isT; rw [h1]

def setV (V : PX → Int) (p : PX) (v : Int) : PX → Int := fun q => if q = p then v else V q

theorem dom_app (K : List PX) (p : PX) (j n : Nat) : domB (K ++ [p]) j n = true ↔ domB K j n = true ∨ ((loN j : Int) ≤ p.2 ∧ p.1.toNat / 2 ^ beN (j - 1) = n) := by
  rw [dom_iff, dom_iff]
  constructor
  · rintro ⟨q, hq, h1, h2⟩
    rcases List.mem_append.1 hq with hq | hq
    · exact .inl ⟨q, hq, h1, h2⟩
    · rw [List.mem_singleton.1 hq] at h1 h2; exact .inr ⟨h1, h2⟩
  · rintro (⟨q, hq, h1, h2⟩ | ⟨h1, h2⟩)
    · exact ⟨q, List.mem_append_left _ hq, h1, h2⟩
    · exact ⟨p, List.mem_append_right _ (List.mem_singleton.2 rfl), h1, h2⟩

theorem set_done {w0 w4 w5 w6 w7 w8 : World} {db m nl b A N : Nat} {most v : Int} {E : List (PX × Nat)} {V : PX → Int} {T1 T2 f : Nat → Nat → Option Nat} {F1 : List Nat} (D : DirIn w4 db most E V T1 f (some m) F1)
    (hnl : w4.heap[nl]? = some (.cells #[.int .i64 N, .int .i64 v] 159 (0, 0))) (hnF : nl ∉ F1) (hl : lk E ((A : Int), (N : Int)) = none) (hA : A < 4294967296) (hN : N ≤ 32) (hZ : A % 2 ^ (32 - N) = 0)
    (m5 : MapAt w5 m (E ++ [(((A : Int), (N : Int)), nl)])) (x5 : ExtS [m] w4 w5) (t6 : Tabs w6 T2 f)
    (o6 : w6.heap[db]? = some (dirO (.int .i64 most) (.int .i64 (ownN (E.map (·.1)) + moreN (E.map (·.1)) A (lvN N) : Nat)) (.map (some m)) (.int .u32 1) (.int .i32 0) (.int .u32 0) (tbV 0 (T2 0 0))))
    (x6 : ExtS (tabF w5 F1) w5 w6) (g6 : Grown T1 T2 A (lvN N) w5.heap.size) (x7 : Ext w6 w7) (hb : onT T2 A (lvN N) = some b) (x8 : ExtS [b] w7 w8)
    (t8 : TabAt w8 b (szN (lvN N)) (tyN (lvN N)) (covB (fun i => f (lvN N) (plN (lvN N) A / szN (lvN N) * szN (lvN N) + i)) (lenB (E ++ [(((A : Int), (N : Int)), nl)])) (plN (lvN N) A % szN (lvN N)) (cntN N) nl) (fun i => T2 (lvN N + 1) (plN (lvN N) A / szN (lvN N) * szN (lvN N) + i)))
    (hw0 : w0.heap.size ≤ w4.heap.size) (hwl : w0.heap.size ≤ nl) :
    ∃ T' f' F', DirIn w8 db most (E ++ [(((A : Int), (N : Int)), nl)]) (setV V ((A : Int), (N : Int)) v) T' f' (some m) F' ∧ ∀ x ∈ F', x ∈ F1 ∨ w0.heap.size ≤ x := by
  have hvp : Vp ((A : Int), (N : Int)) := ⟨A, N, rfl, hN, hA, hZ⟩
  have hlv := lvN_le N
  -- what stands
  have hmF : m ∉ tabF w5 F1 := fun h => by have := (List.mem_filter.1 h).2; rw [isT_map m5] at this; cases this
  have bT := isT_tab t6 hb
  have bm : m ≠ b := by
    rintro rfl
    have := isT_map (m5.later x6 hmF)
    rw [this] at bT; cases bT
  have keep : ∀ (y : Nat) (cs : Array Value), w4.heap[y]? = some (.cells cs 159 (0, 0)) → w8.heap[y]? = some (.cells cs 159 (0, 0)) := fun y cs hy => by
    have y1 : y ∉ [m] := by
      intro e
      rw [List.mem_singleton.1 e] at hy
      obtain ⟨es, cl, hm, -⟩ := D.map m rfl
      rw [hm] at hy; cases hy
    have hy5 := x5.heap y1 hy
    have y2 : y ∉ tabF w5 F1 := fun h => by have := (List.mem_filter.1 h).2; rw [isT_laid hy5] at this; cases this
    have hy7 := x7.heap (x6.heap y2 hy5)
    have y3 : y ∉ [b] := by
      intro e
      rw [List.mem_singleton.1 e] at hy7
      have := isT_tab (t6.ext x7) hb
      rw [isT_laid hy7] at this; cases this
    exact x8.heap y3 hy7
  have hmap : MapAt w8 m (E ++ [(((A : Int), (N : Int)), nl)]) := ((m5.later x6 hmF).later (x7.toS []) (by simp)).later x8 (by simpa using bm)
  have hnd : (((E ++ [(((A : Int), (N : Int)), nl)]).map (·.2))).Nodup := by
    rw [List.map_append]
    refine List.nodup_append.2 ⟨D.blks, by simp, fun a ha c hc e => ?_⟩
    obtain ⟨x, hx, rfl⟩ := List.mem_map.1 ha
    simp only [List.map_cons, List.map_nil, List.mem_singleton] at hc
    exact hnF (by rw [← hc, ← e]; exact D.flaid x hx)
  have hkd : (((E ++ [(((A : Int), (N : Int)), nl)]).map (·.1))).Nodup := by
    rw [List.map_append]
    refine List.nodup_append.2 ⟨D.keys, by simp, fun a ha c hc e => ?_⟩
    obtain ⟨x, hx, rfl⟩ := List.mem_map.1 ha
    simp only [List.map_cons, List.map_nil, List.mem_singleton] at hc
    exact lk_none hl x hx (e.trans hc)
  have hpn := paint_new D.paint hnd hA hN hZ
  have dbb : db ≠ b := fun e => t6.ne_dir o6 hb e.symm
  -- the tables
  have htab : Tabs w8 T2 (covF f (lenB (E ++ [(((A : Int), (N : Int)), nl)])) (lvN N) (plN (lvN N) A) (cntN N) nl) := by
    refine (t6.ext x7).paint hb x8 (fun k n b' _ hne => by simpa using hne) (t8.congr (fun i hi => ?_) (fun i hi => rfl)) (fun k' m' hne => ?_)
    · have hs := pl_split (lvN N) A
      simp only [covF, covB]
      have hr : (plN (lvN N) A % szN (lvN N) ≤ i ∧ i < plN (lvN N) A % szN (lvN N) + cntN N) ↔ (plN (lvN N) A ≤ plN (lvN N) A / szN (lvN N) * szN (lvN N) + i ∧ plN (lvN N) A / szN (lvN N) * szN (lvN N) + i < plN (lvN N) A + cntN N) := by omega
      by_cases c : ∀ b, f (lvN N) (plN (lvN N) A / szN (lvN N) * szN (lvN N) + i) = some b → lenB (E ++ [(((A : Int), (N : Int)), nl)]) b < lenB (E ++ [(((A : Int), (N : Int)), nl)]) nl
      · by_cases r : plN (lvN N) A % szN (lvN N) ≤ i ∧ i < plN (lvN N) A % szN (lvN N) + cntN N
        · rw [if_pos ⟨trivial, (hr.1 r).1, (hr.1 r).2, c⟩, if_pos ⟨r.1, r.2, c⟩]
        · rw [if_neg (fun h => r (hr.2 ⟨h.2.1, h.2.2.1⟩)), if_neg (fun h => r ⟨h.1, h.2.1⟩)]
      · rw [if_neg (fun h => c h.2.2.2), if_neg (fun h => c h.2.2)]
    · simp only [covF]
      rw [if_neg ?_]
      rintro ⟨rfl, h1, h2, -⟩
      apply hne
      refine ⟨rfl, ?_⟩
      have hok := cnt_ok A N hN hZ
      have hs := pl_split (lvN N) A
      have : m' = plN (lvN N) A / szN (lvN N) * szN (lvN N) + (m' - plN (lvN N) A / szN (lvN N) * szN (lvN N)) := by omega
      rw [this]
      exact mul_add_div (by omega)
  refine ⟨T2, _, F1 ++ (List.range w8.heap.size).filter (fun x => decide (w0.heap.size ≤ x)), ⟨?_, ?_, fun m' e => ?_, (fun e => by cases e), htab, fun j n h1 h2 => ?_, hpn, fun x hx => ?_, hkd, hnd, fun x hx => ?_, List.mem_append_left _ D.fdb, fun m' e => List.mem_append_left _ (D.fmap m' e), fun k n b' e => ?_, fun x hx => ?_, fun x hx => ?_⟩, fun x hx => ?_⟩
  · have := x8.heap (by simpa using dbb) (x7.heap o6)
    have e1 := own_cons ((A : Int), (N : Int)) hvp (E.map (·.1))
    have e2 : ownN (E.map (·.1) ++ [((A : Int), (N : Int))]) = ownN (((A : Int), (N : Int)) :: E.map (·.1)) := own_perm (List.perm_append_singleton _ _)
    simp only [Int.toNat_natCast] at e1
    have e3 : ownN ((E ++ [(((A : Int), (N : Int)), nl)]).map (·.1)) = ownN (E.map (·.1)) + moreN (E.map (·.1)) A (lvN N) := by rw [List.map_append, ← e1, ← e2]; rfl
    rw [e3]
    exact this
  · refine ⟨(fun e => by cases e), fun e => ?_⟩
    exfalso
    cases hh : T1 0 0 with
    | none => have := D.begun.2 hh; cases this
    | some b0 => rw [g6.old _ _ b0 hh] at e; cases e
  · cases e; exact hmap
  · rw [List.map_append]
    show (T2 j n).isSome = true ↔ domB (E.map (·.1) ++ [((A : Int), (N : Int))]) j n = true ∨ _
    rw [dom_app]
    have hd := D.dom j n h1 h2
    have hlo : (loN j : Int) ≤ (N : Int) ↔ j ≤ lvN N := by
      obtain ⟨i, rfl⟩ : ∃ i, j = i + 1 := ⟨j - 1, by omega⟩
      have := lvN_lt N i (by omega)
      omega
    constructor
    · intro hs
      cases hh : T1 j n with
      | some b1 =>
        rw [hh] at hd
        rcases hd.1 rfl with h | h
        · exact .inl (.inl h)
        · omega
      | none =>
        obtain ⟨b2, hb2⟩ := Option.isSome_iff_exists.1 hs
        obtain ⟨-, i, hi, rfl, rfl⟩ := g6.new j n b2 hh hb2
        refine .inl (.inr ⟨hlo.2 (by omega), ?_⟩)
        simp [plN]
    · rintro ((h | ⟨h3, h4⟩) | h)
      · have := hd.2 (.inl h)
        obtain ⟨b1, hb1⟩ := Option.isSome_iff_exists.1 this
        rw [g6.old _ _ _ hb1]; rfl
      · obtain ⟨i, rfl⟩ : ∃ i, j = i + 1 := ⟨j - 1, by omega⟩
        have hj := hlo.1 h3
        have := g6.way i (by omega)
        simp only [Int.toNat_natCast, Nat.add_sub_cancel] at h4
        have e : plN i A = n := h4
        rw [e] at this
        cases hh : T2 (i + 1) n with
        | none => exact absurd hh this
        | some _ => rfl
      · omega
  · rcases List.mem_append.1 hx with hx | hx
    · exact D.valid x hx
    · rw [List.mem_singleton.1 hx]; exact hvp
  · rcases List.mem_append.1 hx with hx | hx
    · have hne : x.1 ≠ ((A : Int), (N : Int)) := lk_none hl x hx
      have := keep x.2 _ (D.laid x hx)
      rw [this]
      simp only [setV, if_neg hne]
    · rw [List.mem_singleton.1 hx]
      have := keep nl _ hnl
      simp only [setV, if_true]
      exact this
  · cases hh : T1 k n with
    | some b1 =>
      have := g6.old _ _ _ hh
      rw [e] at this
      cases this
      exact List.mem_append_left _ (D.ftab _ _ _ hh)
    | none =>
      have h1 := (g6.new _ _ _ hh e).1
      have h2 := (htab.tab _ _ _ e).lt
      have h3 := x5.size
      exact List.mem_append_right _ (List.mem_filter.2 ⟨List.mem_range.2 h2, decide_eq_true (by omega)⟩)
  · rcases List.mem_append.1 hx with hx | hx
    · exact List.mem_append_left _ (D.flaid x hx)
    · rw [List.mem_singleton.1 hx]
      have h2 := heap_lt (keep nl _ hnl)
      exact List.mem_append_right _ (List.mem_filter.2 ⟨List.mem_range.2 h2, decide_eq_true hwl⟩)
  · rcases List.mem_append.1 hx with hx | hx
    · have h1 := D.lt x hx
      have h2 := x5.size
      have h3 := x6.size
      have h4 := x7.size
      have h5 := x8.size
      omega
    · exact List.mem_range.1 (List.mem_filter.1 hx).1
  · rcases List.mem_append.1 hx with hx | hx
    · exact .inl hx
    · exact .inr (of_decide_eq_true (List.mem_filter.1 hx).2)
end Go.Proofs.YtkfhkhgiojpfoaaGreat.Dr

namespace Go.Proofs.YtkfhkhgiojpfoaaGreat.Dr

set_option maxRecDepth 100000

open Go.RowKit Go.Proofs.YtkfhkhgiojpfoaaGreat Go.Proofs.YtkfhkhgiojpfoaaGreat.Tri

set_option linter.unusedVariables false

theorem laid_keep {w4 w5 w6 w7 : World} {m y : Nat} {E0 : List (PX × Nat)} {F1 : List Nat} {cs : Array Value} (hm : MapAt w4 m E0) (x5 : ExtS [m] w4 w5) (x6 : ExtS (tabF w5 F1) w5 w6) (x7 : Ext w6 w7) (hy : w4.heap[y]? = some (.cells cs 159 (0, 0))) : w7.heap[y]? = some (.cells cs 159 (0, 0)) := by
  have y1 : y ∉ [m] := by
    intro e
    rw [List.mem_singleton.1 e] at hy
    obtain ⟨es, cl, hm, -⟩ := hm
    rw [hm] at hy; cases hy
  have hy5 := x5.heap y1 hy
  have y2 : y ∉ tabF w5 F1 := fun h => by have := (List.mem_filter.1 h).2; rw [isT_laid hy5] at this; cases this
  exact x7.heap (x6.heap y2 hy5)

theorem tab_lt (k A i : Nat) (hk : k ≤ 2) (hA : A < 4294967296) (hi : i < szN k) : plN k A / szN k * szN k + i < 2 ^ (32 - beN k) := by
  have h := pl_lt k A hA hk
  match k, hk with
  | 0, _ => simp only [szN, beN] at *; omega
  | 1, _ => simp only [szN, beN] at *; omega
  | 2, _ => simp only [szN, beN] at *; omega

/-- What Set of a new prefix leaves. -/
def NewAns (w : World) (F : List Nat) (db : Nat) (most : Int) (E : List (PX × Nat)) (V : PX → Int) (A N : Nat) (v : Int) (w' : World) : Prop := ∃ m nl T' f' F', DirIn w' db most (E ++ [(((A : Int), (N : Int)), nl)]) (setV V ((A : Int), (N : Int)) v) T' f' (some m) F' ∧ ExtS F w w' ∧ ∀ x ∈ F', x ∈ F ∨ w.heap.size ≤ x

section

variable {w : World} {db : Nat} {most : Int} {E : List (PX × Nat)} {V : PX → Int} {T f : Nat → Nat → Option Nat} {mb : Option Nat} {F : List Nat}

set_option maxHeartbeats 2000000 in
theorem set_full (h : DirIn w db most E V T f mb F) (A N : Nat) (v : Int) (hA : A < 4294967296) (hN : N ≤ 32) (hZ : A % 2 ^ (32 - N) = 0) (hv : 0 ≤ v) (hl : lk E ((A : Int), (N : Int)) = none) (hown : ownN (E.map (·.1)) ≤ 1000000)
    (hfull : most < ((ownN (E.map (·.1)) + moreN (E.map (·.1)) A (lvN N) : Nat) : Int)) :
    Calls Tryz.prog 99 #[.pointer (some ⟨db, 0, none⟩), .agg #[.int .u32 A, .int .i64 N], .int .i64 v] w fun e w' => e = .returned (.int .i64 6) ∧ Ext w w' := by
  have hp : Vp ((A : Int), (N : Int)) := ⟨A, N, rfl, hN, hA, hZ⟩
  obtain ⟨a0, a1, -, -⟩ := hp.bd
  have hx0 : Ext w (w.alloc (.cells #[.int .u32 A, .int .i64 N] 42)) := (Ext.refl w).alloc _
  have hn := heap_new w (.cells #[.int .u32 A, .int .i64 N] 42)
  have hq : ∀ w', Ext (w.alloc (.cells #[.int .u32 A, .int .i64 N] 42)) w' → w'.cell? ⟨w.heap.size, 0, none⟩ = some (.int .u32 A) ∧ w'.cell? ⟨w.heap.size, 1, none⟩ = some (.int .i64 N) := fun w' hx => ⟨by rw [heap_cell (hx.heap hn)]; rfl, by rw [heap_cell (hx.heap hn)]; rfl⟩
  have HQ : Hid _ := hq
  have ci := fun w => is_any (A : Int) (N : Int) w a0 a1
  rw [hp.is] at ci
  have hnot : ∀ (x : Bool) (w : World), (Op.unary .not (.bool x)).run Tryz.prog w = .ok (.bool (!x)) w := fun _ _ => rfl
  have hr := h.reads
  have hlk : ∀ w', Ext w w' → (Instr.lookup 104 (.map mb) (.agg #[.int .u32 A, .int .i64 N]) false).run Tryz.prog w' = .ok (.pointer none) w' := fun w' hx => by
    have := (h.ext hx).look ((A : Int), (N : Int))
    rw [hl] at this; exact this
  have cm : ∀ w', Ext w w' → Calls Tryz.prog 122 #[.pointer (some ⟨db, 0, none⟩), .agg #[.int .u32 A, .int .i64 N]] w' fun e w2 => e = .returned (.int .i64 (moreN (E.map (·.1)) A (lvN N) : Nat)) ∧ Ext w' w2 := fun w' hx => by
    rw [← ms_more h.dom A (lvN N) (lvN_le N)]
    exact missing_any db A N T f w' (h.tabs.ext hx) (h.reads w' hx).2.2.2 hA hN
  have hmo := more_le (E.map (·.1)) A (lvN N)
  have hlv := lvN_le N
  have HR : Hid _ := hr
  have HLK : Hid _ := hlk
  have HCM : Hid _ := cm
  clear hq hn hr hlk cm h hl hp hZ
  generalize ownN (E.map (·.1)) = ow at *
  generalize moreN (E.map (·.1)) A (lvN N) = mo at *
  obtain ⟨hi1, hi2⟩ : (ow : Int) ≤ 1000000 ∧ (mo : Int) ≤ 2 := by omega
  have hsum : IntKind.i64.wrap ((ow : Int) + (mo : Int)) = (ow : Int) + (mo : Int) := by rw [IntKind.wrap_i64]; omega
  have hgt : most < (ow : Int) + (mo : Int) := by omega
  generalize hW0 : (w.alloc (.cells #[.int .u32 A, .int .i64 N] 42)) = W0 at *
  clear hfull
  go_enter Tryz.func99, Tryz.ntmps99
  obtain ⟨q0, q1⟩ := HQ.out _ (Ext.refl _)
  go_wp2_with (go_at_call 87; refine (ci _).mono ?_; rintro e w1 ⟨rfl, hx1⟩)
  have hx2 := hx1.drew
  refine wp_region_eager [(0, false), (1, false), (2, false), (3, false), (4, false), (5, false), (6, false)] (by kernel_rfl) (by kernel_rfl) rfl (by kernel_rfl) (fun _ _ _ _ _ h => h) ?_
  generalize w1.drew = W2 at *
  have g0 : ∀ w', Ext W2 w' → w'.cell? ⟨w.heap.size, 0, none⟩ = some (.int .u32 A) := fun w' h => (HQ.out _ (hx2.trans h)).1
  have g1 : ∀ w', Ext W2 w' → w'.cell? ⟨w.heap.size, 1, none⟩ = some (.int .i64 N) := fun w' h => (HQ.out _ (hx2.trans h)).2
  have g2 : ∀ w', Ext W2 w' → w'.cell? ⟨db, 2, none⟩ = some (.map mb) := fun w' h => (HR.out _ ((hx0.trans hx2).trans h)).2.2.1
  have g3 : ∀ w', Ext W2 w' → (Instr.lookup 104 (.map mb) (.agg #[.int .u32 A, .int .i64 N]) false).run Tryz.prog w' = .ok (.pointer none) w' := fun w' h => HLK.out _ ((hx0.trans hx2).trans h)
  clear q0 q1
  iterate 7 (refine wpE_read (v := ?_) rfl (by rfl) ?_ ?_; rotate_left; (focus (intro w' hx; go_simp; first | done | with_reducible rfl)); simp only [Act.put, List.setIfInBounds_toArray, List.set_cons_zero, List.set_cons_succ])
  refine wpE_done ?_
  clear g0 g1 g2 g3
  go_wp2_with fail
  have hx3 := hx2.drew
  refine wp_region_eager [(0, false), (1, false), (2, false), (3, false), (4, false), (5, false), (8, false), (9, false), (10, false), (11, false), (6, true), (7, false), (12, false)] (by kernel_rfl) (by kernel_rfl) rfl (by kernel_rfl) (fun _ _ _ _ _ h => h) ?_
  generalize W2.drew = W3 at *
  have g0 : ∀ w', Ext W3 w' → w'.cell? ⟨w.heap.size, 0, none⟩ = some (.int .u32 A) := fun w' h => (HQ.out _ (hx3.trans h)).1
  have g1 : ∀ w', Ext W3 w' → w'.cell? ⟨w.heap.size, 1, none⟩ = some (.int .i64 N) := fun w' h => (HQ.out _ (hx3.trans h)).2
  have g2 : ∀ w', Ext W3 w' → w'.cell? ⟨db, 1, none⟩ = some (.int .i64 ow) := fun w' h => (HR.out _ ((hx0.trans hx3).trans h)).2.1
  have g3 : ∀ w', Ext W3 w' → w'.cell? ⟨db, 0, none⟩ = some (.int .i64 most) := fun w' h => (HR.out _ ((hx0.trans hx3).trans h)).1
  iterate 10 (refine wpE_read (v := ?_) rfl (by rfl) ?_ ?_; rotate_left; (focus (intro w' hx; go_simp; first | done | with_reducible rfl)); simp only [Act.put, List.setIfInBounds_toArray, List.set_cons_zero, List.set_cons_succ])
  refine wpE_call rfl (by rfl) (fun K hK => ?_); go_simp; first | (go_at_call 122; refine (HCM.out _ (hx0.trans hx3)).mono ?_; rintro e w4 ⟨rfl, hx4⟩; refine hK _ _ hx4 ?_; clear hK K)
  iterate 2 (refine wpE_read (v := ?_) rfl (by rfl) ?_ ?_; rotate_left; (focus (intro w' hx; go_simp; first | done | with_reducible rfl)); simp only [Act.put, List.setIfInBounds_toArray, List.set_cons_zero, List.set_cons_succ])
  refine wpE_done ?_
  clear g0 g1 g2 g3
  go_wp2_with fail
  go_ret
  exact ⟨rfl, (hx0.trans hx3).trans hx4⟩
set_option maxHeartbeats 2000000 in
theorem set_new (h : DirIn w db most E V T f mb F) (A N : Nat) (v : Int) (hA : A < 4294967296) (hN : N ≤ 32) (hZ : A % 2 ^ (32 - N) = 0) (hv : 0 ≤ v) (hl : lk E ((A : Int), (N : Int)) = none) (hown : ownN (E.map (·.1)) ≤ 1000000)
    (hroom : ((ownN (E.map (·.1)) + moreN (E.map (·.1)) A (lvN N) : Nat) : Int) ≤ most) :
    Calls Tryz.prog 99 #[.pointer (some ⟨db, 0, none⟩), .agg #[.int .u32 A, .int .i64 N], .int .i64 v] w fun e w' => e = .returned (.int .i64 0) ∧ NewAns w F db most E V A N v w' := by
  have hp : Vp ((A : Int), (N : Int)) := ⟨A, N, rfl, hN, hA, hZ⟩
  obtain ⟨a0, a1, -, -⟩ := hp.bd
  have hx0 : Ext w (w.alloc (.cells #[.int .u32 A, .int .i64 N] 42)) := (Ext.refl w).alloc _
  have hn := heap_new w (.cells #[.int .u32 A, .int .i64 N] 42)
  have hqS : ∀ w', ExtS F (w.alloc (.cells #[.int .u32 A, .int .i64 N] 42)) w' → w'.cell? ⟨w.heap.size, 0, none⟩ = some (.int .u32 A) ∧ w'.cell? ⟨w.heap.size, 1, none⟩ = some (.int .i64 N) := fun w' hx => by
    have hnF : w.heap.size ∉ F := fun hh => Nat.lt_irrefl _ (h.lt _ hh)
    exact ⟨by rw [heap_cell (hx.heap hnF hn)]; rfl, by rw [heap_cell (hx.heap hnF hn)]; rfl⟩
  have HQS : Hid _ := hqS
  have hq : ∀ w', Ext (w.alloc (.cells #[.int .u32 A, .int .i64 N] 42)) w' → w'.cell? ⟨w.heap.size, 0, none⟩ = some (.int .u32 A) ∧ w'.cell? ⟨w.heap.size, 1, none⟩ = some (.int .i64 N) := fun w' hx => hqS w' (hx.toS F)
  have HQ : Hid _ := hq
  have ci := fun w => is_any (A : Int) (N : Int) w a0 a1
  rw [hp.is] at ci
  have hnot : ∀ (x : Bool) (w : World), (Op.unary .not (.bool x)).run Tryz.prog w = .ok (.bool (!x)) w := fun _ _ => rfl
  have hr := h.reads
  have hlk : ∀ w', Ext w w' → (Instr.lookup 104 (.map mb) (.agg #[.int .u32 A, .int .i64 N]) false).run Tryz.prog w' = .ok (.pointer none) w' := fun w' hx => by
    have := (h.ext hx).look ((A : Int), (N : Int))
    rw [hl] at this; exact this
  have cm : ∀ w', Ext w w' → Calls Tryz.prog 122 #[.pointer (some ⟨db, 0, none⟩), .agg #[.int .u32 A, .int .i64 N]] w' fun e w2 => e = .returned (.int .i64 (moreN (E.map (·.1)) A (lvN N) : Nat)) ∧ Ext w' w2 := fun w' hx => by
    rw [← ms_more h.dom A (lvN N) (lvN_le N)]
    exact missing_any db A N T f w' (h.tabs.ext hx) (h.reads w' hx).2.2.2 hA hN
  have hmo := more_le (E.map (·.1)) A (lvN N)
  have hlv := lvN_le N
  have HR : Hid _ := hr
  have HLK : Hid _ := hlk
  have HCM : Hid _ := cm
  have HD : Hid (DirIn w db most E V T f mb F) := h
  have HL : Hid (lk E ((A : Int), (N : Int)) = none) := hl
  have HZ : Hid (A % 2 ^ (32 - N) = 0) := hZ
  clear hq hqS hn hr hlk cm h hl hp hZ
  obtain ⟨ow, how⟩ : ∃ ow, ow = ownN (E.map (·.1)) := ⟨_, rfl⟩
  obtain ⟨mo, hmo'⟩ : ∃ mo, mo = moreN (E.map (·.1)) A (lvN N) := ⟨_, rfl⟩
  rw [← how] at hown hroom
  rw [← hmo'] at hmo hroom HCM
  have HOW : Hid (ow = ownN (E.map (·.1))) := how
  have HMO : Hid (mo = moreN (E.map (·.1)) A (lvN N)) := hmo'
  clear how hmo'
  have hmf : ∀ (fn : Fn) (first cap : Array Value) (w : World), (Instr.makeFunc fn first cap).run Tryz.prog w = .ok (.func fn first cap) w := fun _ _ _ _ => rfl
  obtain ⟨hi1, hi2⟩ : (ow : Int) ≤ 1000000 ∧ (mo : Int) ≤ 2 := by omega
  have hsum : IntKind.i64.wrap ((ow : Int) + (mo : Int)) = (ow : Int) + (mo : Int) := by rw [IntKind.wrap_i64]; omega
  have hgt : (ow : Int) + (mo : Int) ≤ most := by omega
  generalize hW0 : (w.alloc (.cells #[.int .u32 A, .int .i64 N] 42)) = W0 at *
  clear hroom
  go_enter Tryz.func99, Tryz.ntmps99
  obtain ⟨q0, q1⟩ := HQ.out _ (Ext.refl _)
  go_wp2_with (go_at_call 87; refine (ci _).mono ?_; rintro e w1 ⟨rfl, hx1⟩)
  have hx2 := hx1.drew
  refine wp_region_eager [(0, false), (1, false), (2, false), (3, false), (4, false), (5, false), (6, false)] (by kernel_rfl) (by kernel_rfl) rfl (by kernel_rfl) (fun _ _ _ _ _ h => h) ?_
  generalize w1.drew = W2 at *
  have g0 : ∀ w', Ext W2 w' → w'.cell? ⟨w.heap.size, 0, none⟩ = some (.int .u32 A) := fun w' h => (HQ.out _ (hx2.trans h)).1
  have g1 : ∀ w', Ext W2 w' → w'.cell? ⟨w.heap.size, 1, none⟩ = some (.int .i64 N) := fun w' h => (HQ.out _ (hx2.trans h)).2
  have g2 : ∀ w', Ext W2 w' → w'.cell? ⟨db, 2, none⟩ = some (.map mb) := fun w' h => (HR.out _ ((hx0.trans hx2).trans h)).2.2.1
  have g3 : ∀ w', Ext W2 w' → (Instr.lookup 104 (.map mb) (.agg #[.int .u32 A, .int .i64 N]) false).run Tryz.prog w' = .ok (.pointer none) w' := fun w' h => HLK.out _ ((hx0.trans hx2).trans h)
  clear q0 q1
  iterate 7 (refine wpE_read (v := ?_) rfl (by rfl) ?_ ?_; rotate_left; (focus (intro w' hx; go_simp; first | done | with_reducible rfl)); simp only [Act.put, List.setIfInBounds_toArray, List.set_cons_zero, List.set_cons_succ])
  refine wpE_done ?_
  clear g0 g1 g2 g3
  go_wp2_with fail
  have hx3 := hx2.drew
  refine wp_region_eager [(0, false), (1, false), (2, false), (3, false), (4, false), (5, false), (8, false), (9, false), (10, false), (11, false), (6, true), (7, false), (12, false)] (by kernel_rfl) (by kernel_rfl) rfl (by kernel_rfl) (fun _ _ _ _ _ h => h) ?_
  generalize W2.drew = W3 at *
  have g0 : ∀ w', Ext W3 w' → w'.cell? ⟨w.heap.size, 0, none⟩ = some (.int .u32 A) := fun w' h => (HQ.out _ (hx3.trans h)).1
  have g1 : ∀ w', Ext W3 w' → w'.cell? ⟨w.heap.size, 1, none⟩ = some (.int .i64 N) := fun w' h => (HQ.out _ (hx3.trans h)).2
  have g2 : ∀ w', Ext W3 w' → w'.cell? ⟨db, 1, none⟩ = some (.int .i64 ow) := fun w' h => by rw [HOW.out]; exact (HR.out _ ((hx0.trans hx3).trans h)).2.1
  have g3 : ∀ w', Ext W3 w' → w'.cell? ⟨db, 0, none⟩ = some (.int .i64 most) := fun w' h => (HR.out _ ((hx0.trans hx3).trans h)).1
  iterate 10 (refine wpE_read (v := ?_) rfl (by rfl) ?_ ?_; rotate_left; (focus (intro w' hx; go_simp; first | done | with_reducible rfl)); simp only [Act.put, List.setIfInBounds_toArray, List.set_cons_zero, List.set_cons_succ])
  refine wpE_call rfl (by rfl) (fun K hK => ?_); go_simp; first | (go_at_call 122; refine (HCM.out _ (hx0.trans hx3)).mono ?_; rintro e w4 ⟨rfl, hx4⟩; refine hK _ _ hx4 ?_; clear hK K)
  iterate 2 (refine wpE_read (v := ?_) rfl (by rfl) ?_ ?_; rotate_left; (focus (intro w' hx; go_simp; first | done | with_reducible rfl)); simp only [Act.put, List.setIfInBounds_toArray, List.set_cons_zero, List.set_cons_succ])
  refine wpE_done ?_
  clear g0 g1 g2 g3
  have hx34 := hx3.trans hx4
  go_wp2_with (go_at_call 123; refine (once_any (HD.out.ext (hx0.trans hx34))).mono ?_; rintro e w5 ⟨rfl, m, T1, F1, d1, x1, f1, f2, tt⟩; obtain ⟨q0, q1⟩ := HQS.out _ ((hx34.toS F).trans x1))
  clear q0 q1
  have hx6 : Ext w5 (w5.alloc (.cells #[.int .i64 N, .int .i64 v] 159)).drew := ((Ext.refl w5).alloc _).drew
  have hnl : (w5.alloc (.cells #[.int .i64 N, .int .i64 v] 159)).drew.heap[w5.heap.size]? = some (.cells #[.int .i64 N, .int .i64 v] 159 (0, 0)) := heap_new w5 _
  have hF1 : ∀ x ∈ F1, x ∈ F ∨ W0.heap.size ≤ x := fun x hx => by
    rcases f1 x hx with h | h
    · exact .inl h
    · exact .inr (Nat.le_trans hx34.size h)
  have XS : ExtS F W0 (w5.alloc (.cells #[.int .i64 N, .int .i64 v] 159)).drew := ((hx34.toS F).trans x1).trans (hx6.toS F)
  have hnF : w5.heap.size ∉ F1 := fun hh => Nat.lt_irrefl _ (d1.lt _ hh)
  have hs5 : W0.heap.size ≤ w5.heap.size := Nat.le_trans hx34.size x1.size
  have D6 := d1.ext hx6
  refine wp_region_eagerS [m] [(0, false), (1, false), (2, false), (3, false), (4, false), (5, false), (6, true)] (by kernel_rfl) (by kernel_rfl) rfl (by kernel_rfl) (fun _ _ _ _ _ h => h) ?_
  generalize hnn : w5.heap.size = nl at *
  generalize (w5.alloc (.cells #[.int .i64 N, .int .i64 v] 159)).drew = W6 at *
  clear hx6 d1
  obtain ⟨w7, hst, m7, x7, s7⟩ := store_px (D6.map m rfl) ((A : Int), (N : Int)) nl HL.out
  have hmF := hF1 m (D6.fmap m rfl)
  have hdm : db ∉ [m] := by
    intro e
    obtain ⟨es, cl, hm, -⟩ := D6.map m rfl
    have := D6.obj
    rw [List.mem_singleton.1 e, hm] at this; cases this
  have g0 : ∀ w', ExtS [m] W6 w' → w'.cell? ⟨w.heap.size, 0, none⟩ = some (.int .u32 A) := fun w' h => (HQS.out _ (XS.then h (fun b hb => by rw [List.mem_singleton.1 hb]; exact hmF))).1
  have g1 : ∀ w', ExtS [m] W6 w' → w'.cell? ⟨w.heap.size, 1, none⟩ = some (.int .i64 N) := fun w' h => (HQS.out _ (XS.then h (fun b hb => by rw [List.mem_singleton.1 hb]; exact hmF))).2
  have g2 : ∀ w', ExtS [m] W6 w' → w'.cell? ⟨db, 2, none⟩ = some (.map (some m)) := fun w' h => by rw [heap_cell (h.heap hdm D6.obj)]; rfl
  have HM7 : Hid _ := m7
  have HX7 : Hid _ := x7
  have HD6 : Hid _ := D6
  simp only [keyV, ptV, Option.map_some] at hst
  clear m7 D6
  iterate 6 (refine wpE_read (v := ?_) rfl (by rfl) ?_ ?_; rotate_left; (focus (intro w' hx; go_simp; first | done | with_reducible rfl)); simp only [Act.put, List.setIfInBounds_toArray, List.set_cons_zero, List.set_cons_succ])
  refine wpE_call rfl (by rfl) (fun K hK => ?_); go_simp; first | (refine hK _ _ HX7.out ?_; clear hK K)
  refine wpE_done ?_
  clear g0 g1 g2 hst x7
  have hvp : Vp ((A : Int), (N : Int)) := ⟨A, N, rfl, hN, hA, HZ.out⟩
  have XS7 : ExtS F W0 w7 := XS.then HX7.out (fun b hb => by rw [List.mem_singleton.1 hb]; exact hmF)
  have obj7 := HX7.out.heap hdm HD6.out.obj
  have tabs7 : Tabs w7 T1 f := HD6.out.tabs.later HX7.out (fun k n b e => by
    intro hh
    have h1 := isT_tab HD6.out.tabs e
    rw [List.mem_singleton.1 hh, isT_map (HD6.out.map m rfl)] at h1; cases h1)
  have co := own_any db A N (ownN (E.map (·.1))) (.int .i64 most) (.map (some m)) (.int .u32 1) (.int .i32 0) (.int .u32 0) T1 f (tabF w7 F1) w7 tabs7 (fun e => by have := HD6.out.begun.2 e; cases this) obj7
    (List.mem_filter.2 ⟨HD6.out.fdb, isT_dir obj7⟩) (fun k n b e => List.mem_filter.2 ⟨HD6.out.ftab k n b e, isT_tab tabs7 e⟩) (fun x hx => Nat.lt_of_lt_of_le (HD6.out.lt x (List.mem_filter.1 hx).1) HX7.out.size) (by rw [← HOW.out]; exact hown) hA hN
  have hms : msN T1 A (lvN N) = moreN (E.map (·.1)) A (lvN N) := ms_more HD6.out.dom A (lvN N) hlv
  rw [hms] at co
  obtain ⟨q0, q1⟩ := HQS.out _ XS7
  have HXS7 : Hid _ := XS7
  clear obj7 tabs7 hms XS XS7
  go_wp2_with (go_at_call 125; refine co.mono ?_; rintro e w8 ⟨rfl, T2, t8, o8, x8, g8⟩; obtain ⟨q0', q1'⟩ := HQS.out _ (HXS7.out.then x8 (fun b hb => hF1 b (List.mem_filter.1 hb).1)))
  have hon : ∃ b, onT T2 A (lvN N) = some b := by
    cases hlv0 : lvN N with
    | zero =>
      have : onT T2 A 0 = T2 0 0 := by unfold onT; rw [pl_zero A hA]
      rw [this]
      cases hh : T1 0 0 with
      | none => have := HD6.out.begun.2 hh; cases this
      | some b => exact ⟨b, g8.old _ _ _ hh⟩
    | succ j =>
      have hw := g8.way j (by omega)
      rw [on_next T2 A j (by omega)]
      cases hh : T2 (j + 1) (plN j A) with
      | none => exact absurd hh hw
      | some b => exact ⟨b, rfl⟩
  obtain ⟨b, hb⟩ := hon
  have cp := places_any db A N T2 f w8 t8 (by rw [heap_cell o8]; rfl) hA hN HZ.out b hb
  refine cp.mono ?_
  rintro e w9 ⟨⟨cp', rfl⟩, hx9⟩
  have hE' : ((E ++ [(((A : Int), (N : Int)), nl)]).map (·.2)).Nodup := by
    rw [List.map_append]
    refine List.nodup_append.2 ⟨HD6.out.blks, by simp, fun a ha c hc e => ?_⟩
    obtain ⟨x, hx, rfl⟩ := List.mem_map.1 ha
    simp only [List.map_cons, List.map_nil, List.mem_singleton] at hc
    exact hnF (by rw [← hc, ← e]; exact HD6.out.flaid x hx)
  have keep9 : ∀ (y : Nat) (cs : Array Value), W6.heap[y]? = some (.cells cs 159 (0, 0)) → w9.heap[y]? = some (.cells cs 159 (0, 0)) := fun y cs hy => laid_keep (HD6.out.map m rfl) HX7.out x8 hx9 hy
  have hnb : ∀ (y : Nat) (cs : Array Value), w9.heap[y]? = some (.cells cs 159 (0, 0)) → y ≠ b := fun y cs hy e => by
    have h1 := isT_tab (t8.ext hx9) hb
    rw [← e, isT_laid hy] at h1; cases h1
  have nl9 := keep9 nl _ hnl
  have ccv := cover_any b (szN (lvN N)) (plN (lvN N) A % szN (lvN N)) (cntN N) cp' nl (tyN (lvN N)) (fun i => f (lvN N) (plN (lvN N) A / szN (lvN N) * szN (lvN N) + i)) (fun i => T2 (lvN N + 1) (plN (lvN N) A / szN (lvN N) * szN (lvN N) + i)) (lenB (E ++ [(((A : Int), (N : Int)), nl)])) w9
    ((t8.ext hx9).tab _ _ _ hb) (cnt_ok A N hN HZ.out) (sz_le _)
    (by
      rw [heap_cell nl9]
      unfold lenB
      rw [nvE_of (V := fun p : PX => p.2) (p := ((A : Int), (N : Int))) hE' (List.mem_append_right _ (List.mem_singleton.2 rfl))]
      rfl) (hnb _ _ nl9) (fun i b' hi e => by
      have hbs := HD6.out.paint (lvN N) _ hlv (tab_lt (lvN N) A i hlv hA hi)
      rw [e] at hbs
      obtain ⟨q, k1, -⟩ := hbs
      have h9 := keep9 _ _ (HD6.out.laid _ k1)
      refine ⟨hnb _ _ h9, ?_⟩
      unfold lenB
      rw [heap_cell h9, nvE_of (V := fun p : PX => p.2) (p := q) hE' (List.mem_append_left _ k1)]
      rfl)
  have hend := fun w10 x10 t10 => set_done (w0 := w) (w8 := w10) HD6.out hnl hnF HL.out hA hN HZ.out HM7.out HX7.out t8 o8 x8 g8 hx9 hb x10 t10 (Nat.le_trans (Nat.le_trans hx0.size hs5) (Nat.le_of_lt (heap_lt hnl))) (Nat.le_trans hx0.size hs5)
  have XS9 : ExtS F W0 w9 := (HXS7.out.then x8 (fun b hb => hF1 b (List.mem_filter.1 hb).1)).trans (hx9.toS F)
  have hbF : b ∈ F ∨ W0.heap.size ≤ b := by
    cases hh : T1 (lvN N) (plN (lvN N) A / szN (lvN N)) with
    | some b1 =>
      have := g8.old _ _ _ hh
      unfold onT at hb
      rw [hb] at this
      cases this
      exact hF1 b (HD6.out.ftab _ _ _ hh)
    | none =>
      have h1 := (g8.new _ _ _ hh hb).1
      exact .inr (Nat.le_trans HXS7.out.size h1)
  generalize plN (lvN N) A % szN (lvN N) * 2 = off at *
  clear cp
  go_wp2_with (go_at_call 126; refine ccv.mono ?_; rintro e w10 ⟨rfl, t10, x10⟩)
  go_ret
  obtain ⟨T', f', F', dd, ff⟩ := hend w10 x10 t10
  refine ⟨rfl, m, nl, T', f', F', dd, (hx0.toS F).trans (XS9.then x10 (fun y hy => by rw [List.mem_singleton.1 hy]; exact hbF)), fun x hx => ?_⟩
  rcases ff x hx with h | h
  · rcases hF1 x h with h | h
    · exact .inl h
    · exact .inr (Nat.le_trans hx0.size h)
  · exact .inr h

end
end Go.Proofs.YtkfhkhgiojpfoaaGreat.Dr

namespace Go.Proofs.YtkfhkhgiojpfoaaGreat.Dr

set_option maxRecDepth 100000

open Go.RowKit Go.Proofs.YtkfhkhgiojpfoaaGreat Go.Proofs.YtkfhkhgiojpfoaaGreat.Tri

set_option linter.unusedVariables false

set_option maxHeartbeats 1000000 in
theorem del_nil (a n : Int) (w : World) : Calls Tryz.prog 97 #[.pointer none, .agg #[.int .u32 a, .int .i64 n]] w fun e w' => e = .returned (.bool false) ∧ Ext w w' := by
  have hx0 : Ext w (w.alloc (.cells #[.int .u32 a, .int .i64 n] 42)) := (Ext.refl w).alloc _
  go_enter Tryz.func97, Tryz.ntmps97
  go_wp2_with fail
  have hx1 := hx0.drew
  refine wp_region_eager [(0, false), (1, false), (2, false), (3, false), (4, false), (5, false), (6, false), (7, false), (8, false), (9, false), (10, false)] (by kernel_rfl) (by kernel_rfl) rfl (by kernel_rfl) (fun _ _ _ _ _ h => h) ?_
  generalize (w.alloc (.cells #[.int .u32 a, .int .i64 n] 42)).drew = W1 at *
  repeat (first | (refine wpE_read (v := ?_) rfl (by rfl) ?_ ?_; rotate_left; (focus (intro w' hx; go_simp; first | done | with_reducible rfl)); simp only [Act.put, List.setIfInBounds_toArray, List.set_cons_zero, List.set_cons_succ]) | (rw [wpE_skip_eq _ rfl (by rfl)]; simp only [Act.put, List.setIfInBounds_toArray, List.set_cons_zero, List.set_cons_succ]))
  refine wpE_done ?_
  go_wp2_with fail
  go_ret
  exact ⟨rfl, hx1⟩

section

variable {w : World} {db : Nat} {most : Int} {E : List (PX × Nat)} {V : PX → Int} {T f : Nat → Nat → Option Nat} {mb : Option Nat} {F : List Nat}

set_option maxHeartbeats 1000000 in
theorem del_no (h : DirIn w db most E V T f mb F) (a n : Int) (hl : lk E (a, n) = none) : Calls Tryz.prog 97 #[.pointer (some ⟨db, 0, none⟩), .agg #[.int .u32 a, .int .i64 n]] w fun e w' => e = .returned (.bool false) ∧ Ext w w' := by
  have hx0 : Ext w (w.alloc (.cells #[.int .u32 a, .int .i64 n] 42)) := (Ext.refl w).alloc _
  have hn := heap_new w (.cells #[.int .u32 a, .int .i64 n] 42)
  have hq : ∀ w', Ext (w.alloc (.cells #[.int .u32 a, .int .i64 n] 42)) w' → w'.cell? ⟨w.heap.size, 0, none⟩ = some (.int .u32 a) ∧ w'.cell? ⟨w.heap.size, 1, none⟩ = some (.int .i64 n) := fun w' hx => ⟨by rw [heap_cell (hx.heap hn)]; rfl, by rw [heap_cell (hx.heap hn)]; rfl⟩
  have HQ : Hid _ := hq
  have hr := h.reads
  have hlk : ∀ w', Ext w w' → (Instr.lookup 104 (.map mb) (.agg #[.int .u32 a, .int .i64 n]) false).run Tryz.prog w' = .ok (.pointer none) w' := fun w' hx => by
    have := (h.ext hx).look (a, n)
    rw [hl] at this; exact this
  have HR : Hid _ := hr
  have HLK : Hid _ := hlk
  clear hq hn hr hlk h hl
  go_enter Tryz.func97, Tryz.ntmps97
  go_wp2_with fail
  have hx1 := hx0.drew
  refine wp_region_eager [(0, false), (1, false), (2, false), (3, false), (4, false), (5, false), (6, false), (7, false), (8, false), (9, false), (10, false)] (by kernel_rfl) (by kernel_rfl) rfl (by kernel_rfl) (fun _ _ _ _ _ h => h) ?_
  have hx2 : Ext (w.alloc (.cells #[.int .u32 a, .int .i64 n] 42)) (w.alloc (.cells #[.int .u32 a, .int .i64 n] 42)).drew := (Ext.refl _).drew
  generalize (w.alloc (.cells #[.int .u32 a, .int .i64 n] 42)).drew = W1 at *
  have g0 : ∀ w', Ext W1 w' → w'.cell? ⟨w.heap.size, 0, none⟩ = some (.int .u32 a) := fun w' h => (HQ.out _ (hx2.trans h)).1
  have g1 : ∀ w', Ext W1 w' → w'.cell? ⟨w.heap.size, 1, none⟩ = some (.int .i64 n) := fun w' h => (HQ.out _ (hx2.trans h)).2
  have g2 : ∀ w', Ext W1 w' → w'.cell? ⟨db, 2, none⟩ = some (.map mb) := fun w' h => (HR.out _ (hx1.trans h)).2.2.1
  have g3 : ∀ w', Ext W1 w' → (Instr.lookup 104 (.map mb) (.agg #[.int .u32 a, .int .i64 n]) false).run Tryz.prog w' = .ok (.pointer none) w' := fun w' h => HLK.out _ (hx1.trans h)
  iterate 11 (refine wpE_read (v := ?_) rfl (by rfl) ?_ ?_; rotate_left; (focus (intro w' hx; go_simp; first | done | with_reducible rfl)); simp only [Act.put, List.setIfInBounds_toArray, List.set_cons_zero, List.set_cons_succ])
  refine wpE_done ?_
  clear g0 g1 g2 g3
  go_wp2_with fail
  go_ret
  exact ⟨rfl, hx1⟩

end

theorem perm_map_delE {E : List (PX × Nat)} {p : PX} {b : Nat} (h : lk E p = some b) : (E.map (·.1)).Perm (p :: (delE E p).map (·.1)) := by
  have := (perm_delE h).map (·.1)
  exact this

theorem dis_pre {T : Nat → Nat → Option Nat} {K K' : List PX} {A N : Nat} (h : DisR T K 0 0 0) (hp : K.Perm (((A : Int), (N : Int)) :: K')) : DisR T K' A (lvN N) (lvN N) := by
  intro j n h1 h2
  rw [h j n h1 h2, dom_perm hp]
  have hlo : (loN j : Int) ≤ (N : Int) ↔ j ≤ lvN N := by
    obtain ⟨i, rfl⟩ : ∃ i, j = i + 1 := ⟨j - 1, by omega⟩
    have := lvN_lt N i (by omega)
    omega
  rw [dom_iff, dom_iff]
  constructor
  · rintro (⟨q, hq, a1, a2⟩ | hh)
    · rcases List.mem_cons.1 hq with rfl | hq
      · exact .inr ⟨hlo.1 a1, hlo.1 a1, by simp only [Int.toNat_natCast] at a2; exact a2.symm⟩
      · exact .inl ⟨q, hq, a1, a2⟩
    · omega
  · rintro (⟨q, hq, a1, a2⟩ | ⟨hh, -, rfl⟩)
    · exact .inl ⟨q, List.mem_cons_of_mem _ hq, a1, a2⟩
    · exact .inl ⟨_, List.mem_cons_self, hlo.2 hh, by simp [plN]⟩

theorem del_done {w3 w4 w6 w8 : World} {db m l b A N : Nat} {most : Int} {E : List (PX × Nat)} {V : PX → Int} {T f f' : Nat → Nat → Option Nat} {F : List Nat} (D : DirIn w3 db most E V T f (some m) F)
    (hl : lk E ((A : Int), (N : Int)) = some l) (hA : A < 4294967296) (hN : N ≤ 32) (hZ : A % 2 ^ (32 - N) = 0) (hb : onT T A (lvN N) = some b) (x4 : ExtS [b] w3 w4) (m6 : MapAt w6 m (delE E ((A : Int), (N : Int)))) (x6 : ExtS [m] w4 w6)
    (hpd : Painted (delE E ((A : Int), (N : Int))) f') (hans : DisAns db A (lvN N) 0 (ownN (E.map (·.1)) : Nat) (.int .i64 most) (.map (some m)) (.int .u32 1) (.int .i32 0) (.int .u32 0) ((delE E ((A : Int), (N : Int))).map (·.1)) T f' (tabF w6 F) w6 w8) :
    ∃ T', DirIn w8 db most (delE E ((A : Int), (N : Int))) V T' f' (some m) F := by
  obtain ⟨T', t1, t2, t3, t4, t5, t6⟩ := hans
  have hvp : Vp ((A : Int), (N : Int)) := ⟨A, N, rfl, hN, hA, hZ⟩
  have hpm := perm_map_delE hl
  have hsub : ∀ x ∈ delE E ((A : Int), (N : Int)), x ∈ E := fun x hx => ((mem_delE D.keys).1 hx).1
  have hmF : m ∉ tabF w6 F := fun h => by have := (List.mem_filter.1 h).2; rw [isT_map m6] at this; cases this
  have keep : ∀ (y : Nat) (cs : Array Value), w3.heap[y]? = some (.cells cs 159 (0, 0)) → w8.heap[y]? = some (.cells cs 159 (0, 0)) := fun y cs hy => by
    have y1 : y ∉ [b] := by
      intro e
      rw [List.mem_singleton.1 e] at hy
      have := isT_tab D.tabs hb
      rw [isT_laid hy] at this; cases this
    have hy4 := x4.heap y1 hy
    have y2 : y ∉ [m] := by
      intro e
      rw [List.mem_singleton.1 e] at hy
      obtain ⟨es, cl, hm, -⟩ := D.map m rfl
      rw [hm] at hy; cases hy
    have hy6 := x6.heap y2 hy4
    have y3 : y ∉ tabF w6 F := fun h => by have := (List.mem_filter.1 h).2; rw [isT_laid hy6] at this; cases this
    exact t3.heap y3 hy6
  have hown : ownN (E.map (·.1)) = ownN ((delE E ((A : Int), (N : Int))).map (·.1)) + moreN ((delE E ((A : Int), (N : Int))).map (·.1)) A (lvN N) := by
    rw [own_perm hpm]
    have := own_cons ((A : Int), (N : Int)) hvp ((delE E ((A : Int), (N : Int))).map (·.1))
    simpa using this
  refine ⟨T', ?_, ⟨(fun e => by cases e), fun e => ?_⟩, fun m' e => ?_, (fun e => by cases e), t1, fun j n h1 h2 => ?_, hpd, fun x hx => D.valid x (hsub x hx), ?_, ?_, fun x hx => keep _ _ (D.laid x (hsub x hx)), D.fdb, D.fmap, fun k n b' e => D.ftab k n b' (t6 k n b' e), fun x hx => D.flaid x (hsub x hx), fun x hx => ?_⟩
  · rw [t2]
    have e : ((ownN (E.map (·.1)) : Nat) : Int) - ((moreN ((delE E ((A : Int), (N : Int))).map (·.1)) A (lvN N) : Int) - (moreN ((delE E ((A : Int), (N : Int))).map (·.1)) A 0 : Int)) = ((ownN ((delE E ((A : Int), (N : Int))).map (·.1)) : Nat) : Int) := by
      rw [hown]; simp only [moreN]; omega
    rw [e]
    rfl
  · rw [t5 0 0 (Nat.le_refl _)] at e
    have := D.begun.2 e; cases this
  · cases e; exact m6.later t3 hmF
  · rw [t4 j n h1 h2]
    constructor
    · rintro (h | ⟨h, -⟩)
      · exact .inl h
      · omega
    · rintro (h | ⟨h, -⟩)
      · exact .inl h
      · omega
  · have := hpm.nodup_iff.1 D.keys
    exact (List.nodup_cons.1 this).2
  · have := ((perm_delE hl).map (·.2)).nodup_iff.1 D.blks
    exact (List.nodup_cons.1 this).2
  · have h1 := D.lt x hx
    have h2 := x4.size
    have h3 := x6.size
    have h4 := t3.size
    omega

theorem drop_all {w : World} {mb : Nat} {E : List (PX × Nat)} (h : MapAt w mb E) (p : PX) (b : Nat) (hn : lk E p = some b) :
    ∃ w', (∀ ty, (Builtin.delete_ #[104, 42] ty #[.map (some mb), keyV p]).run Tryz.prog w = .ok (.tuple #[]) w') ∧ MapAt w' mb (delE E p) ∧ ExtS [mb] w w' := by
  obtain ⟨es, clock, hb, he⟩ := h
  obtain ⟨j, h1, h2, h3⟩ := fa_some hn 0
  have hl : es.size = E.length := by have := congrArg List.length he; simpa using this
  have hjs : j < es.size := by omega
  have hsub : (es.eraseIdxIfInBounds j).toList = es.toList.eraseIdx j := by
    unfold Array.eraseIdxIfInBounds
    rw [dif_pos hjs]
    simp
  refine ⟨setB w mb (.map (es.eraseIdxIfInBounds j) clock), fun ty => ?_, ⟨_, _, setB_same hb, ?_⟩, setB_ext _ _ _⟩
  · rw [Nat.zero_add] at h2
    simp [Builtin.delete_, run_underlying Tryz.underlying104, MapKept.run_getObj_map hb, check_px, find_px p w _ E he, h2, MapKept.run_setObj_map _ hb, Result.andThen, setB]
  · rw [hsub, ← h3, map_erase, map_erase, he]

/-- Blocks of F may be written, but a cell of a Dir's stays. -/
def RD (F : List Nat) (db : Nat) (W w' : World) : Prop := ExtS F W w' ∧ w'.cell? ⟨db, 6, none⟩ = W.cell? ⟨db, 6, none⟩

theorem RD.refl (F : List Nat) (db : Nat) (W : World) : RD F db W W := ⟨ExtS.refl F W, rfl⟩

theorem RD.trans {F : List Nat} {db : Nat} {A B C : World} (h : RD F db A B) (k : RD F db B C) : RD F db A C := ⟨h.1.trans k.1, k.2.trans h.2⟩

/-- What Del leaves. -/
def DelAns (w : World) (F : List Nat) (db : Nat) (most : Int) (E : List (PX × Nat)) (V : PX → Int) (p : PX) (w' : World) : Prop := ∃ T' f' m, DirIn w' db most (delE E p) V T' f' (some m) F ∧ ExtS F w w'

section

variable {w : World} {db : Nat} {most : Int} {E : List (PX × Nat)} {V : PX → Int} {T f : Nat → Nat → Option Nat} {mb : Option Nat} {F : List Nat}

set_option maxHeartbeats 2000000 in
theorem del_yes (h : DirIn w db most E V T f mb F) (A N l : Nat) (hA : A < 4294967296) (hN : N ≤ 32) (hZ : A % 2 ^ (32 - N) = 0) (hl : lk E ((A : Int), (N : Int)) = some l) (hown : ownN (E.map (·.1)) ≤ 1000000) :
    Calls Tryz.prog 97 #[.pointer (some ⟨db, 0, none⟩), .agg #[.int .u32 A, .int .i64 N]] w fun e w' => e = .returned (.bool true) ∧ DelAns w F db most E V ((A : Int), (N : Int)) w' := by
  have hvp : Vp ((A : Int), (N : Int)) := ⟨A, N, rfl, hN, hA, hZ⟩
  have hmem := lk_mem hl
  obtain ⟨m, rfl⟩ : ∃ m, mb = some m := by
    cases mb with
    | none => rw [h.nomap rfl] at hmem; cases hmem
    | some m => exact ⟨m, rfl⟩
  have hlv := lvN_le N
  have hon : ∃ b, onT T A (lvN N) = some b := by
    cases hlv0 : lvN N with
    | zero =>
      have : onT T A 0 = T 0 0 := by unfold onT; rw [pl_zero A hA]
      rw [this]
      cases hh : T 0 0 with
      | none => have := h.begun.2 hh; cases this
      | some b => exact ⟨b, rfl⟩
    | succ j =>
      rw [on_next T A j (by omega)]
      have hd := (h.dom (j + 1) (plN j A) (by omega) (by omega)).2 (.inl (dom_iff.2 ⟨_, List.mem_map.2 ⟨_, hmem, rfl⟩, by
        have := (lvN_lt N j (by omega)).1 (by omega)
        show ((loN (j + 1) : Nat) : Int) ≤ (N : Int)
        omega, by simp [plN]⟩))
      exact Option.isSome_iff_exists.1 hd
  obtain ⟨b, hb⟩ := hon
  have hx0 : Ext w (w.alloc (.cells #[.int .u32 A, .int .i64 N] 42)) := (Ext.refl w).alloc _
  have hn := heap_new w (.cells #[.int .u32 A, .int .i64 N] 42)
  have hqS : ∀ w', ExtS F (w.alloc (.cells #[.int .u32 A, .int .i64 N] 42)) w' → w'.cell? ⟨w.heap.size, 0, none⟩ = some (.int .u32 A) ∧ w'.cell? ⟨w.heap.size, 1, none⟩ = some (.int .i64 N) := fun w' hx => by
    have hnF : w.heap.size ∉ F := fun hh => Nat.lt_irrefl _ (h.lt _ hh)
    exact ⟨by rw [heap_cell (hx.heap hnF hn)]; rfl, by rw [heap_cell (hx.heap hnF hn)]; rfl⟩
  have HQS : Hid _ := hqS
  have hbF : b ∈ F := h.ftab _ _ _ hb
  have hmF : m ∈ F := h.fmap m rfl
  have hbm : m ≠ b := by
    rintro rfl
    have := isT_tab h.tabs hb
    rw [isT_map (h.map m rfl)] at this; cases this
  have hdbb : db ≠ b := fun e => h.tabs.ne_dir h.obj hb e.symm
  have hdbm : db ≠ m := by
    rintro rfl
    obtain ⟨es, cl, hm, -⟩ := h.map db rfl
    have := h.obj
    rw [hm] at this; cases this
  have hlk : ∀ w', ExtS [b] w w' → (Instr.lookup 104 (.map (some m)) (.agg #[.int .u32 A, .int .i64 N]) false).run Tryz.prog w' = .ok (.pointer (some ⟨l, 0, none⟩)) w' := fun w' hx => by
    have := look_px ((h.map m rfl).later hx (by simpa using hbm)) ((A : Int), (N : Int))
    rw [hl] at this; exact this
  have hrd : ∀ w', ExtS [b] w w' → w'.cell? ⟨db, 2, none⟩ = some (.map (some m)) := fun w' hx => by rw [heap_cell (hx.heap (by simpa using hdbb) h.obj)]; rfl
  have HLK : Hid _ := hlk
  have HRD : Hid _ := hrd
  have HD : Hid (DirIn w db most E V T f (some m) F) := h
  have HL : Hid (lk E ((A : Int), (N : Int)) = some l) := hl
  have HZ : Hid (A % 2 ^ (32 - N) = 0) := hZ
  have HB : Hid (onT T A (lvN N) = some b) := hb
  have HOWN : Hid _ := hown
  clear hqS hn hlk hrd h hl hZ hb hown hmem
  generalize hW0 : (w.alloc (.cells #[.int .u32 A, .int .i64 N] 42)) = W0 at *
  go_enter Tryz.func97, Tryz.ntmps97
  go_wp2_with fail
  have hx1 : Ext W0 W0.drew := (Ext.refl W0).drew
  refine wp_region_eagerS [b] [(0, false), (1, false), (2, false), (3, false), (4, false), (5, false), (6, false), (7, false), (8, false), (9, false), (10, false)] (by kernel_rfl) (by kernel_rfl) rfl (by kernel_rfl) (fun _ _ _ _ _ h => h) ?_
  generalize W0.drew = W1 at *
  have hbx : ∀ {W W' : World}, ExtS F W0 W → ExtS [b] W W' → ExtS F W0 W' := fun h1 h2 => h1.then h2 (fun y hy => by rw [List.mem_singleton.1 hy]; exact .inl hbF)
  have g0 : ∀ w', ExtS [b] W1 w' → w'.cell? ⟨w.heap.size, 0, none⟩ = some (.int .u32 A) := fun w' h => (HQS.out _ (hbx (hx1.toS F) h)).1
  have g1 : ∀ w', ExtS [b] W1 w' → w'.cell? ⟨w.heap.size, 1, none⟩ = some (.int .i64 N) := fun w' h => (HQS.out _ (hbx (hx1.toS F) h)).2
  have g2 : ∀ w', ExtS [b] W1 w' → w'.cell? ⟨db, 2, none⟩ = some (.map (some m)) := fun w' h => HRD.out _ (((hx0.trans hx1).toS [b]).trans h)
  have g3 : ∀ w', ExtS [b] W1 w' → (Instr.lookup 104 (.map (some m)) (.agg #[.int .u32 A, .int .i64 N]) false).run Tryz.prog w' = .ok (.pointer (some ⟨l, 0, none⟩)) w' := fun w' h => HLK.out _ (((hx0.trans hx1).toS [b]).trans h)
  iterate 11 (refine wpE_read (v := ?_) rfl (by rfl) ?_ ?_; rotate_left; (focus (intro w' hx; go_simp; first | done | with_reducible rfl)); simp only [Act.put, List.setIfInBounds_toArray, List.set_cons_zero, List.set_cons_succ])
  refine wpE_done ?_
  clear g0 g1 g2 g3
  go_wp2_with fail
  have hx2 := hx1.drew
  refine wp_region_eagerS [b] [(0, false), (1, false), (3, false), (4, false), (5, false), (6, false), (7, false), (8, false), (9, false), (10, false), (2, true), (11, true), (12, true)] (by kernel_rfl) (by kernel_rfl) rfl (by kernel_rfl) (fun _ _ _ _ _ h => h) ?_
  generalize W1.drew = W2 at *
  have g0 : ∀ w', ExtS [b] W2 w' → w'.cell? ⟨w.heap.size, 0, none⟩ = some (.int .u32 A) := fun w' h => (HQS.out _ (hbx (hx2.toS F) h)).1
  have g1 : ∀ w', ExtS [b] W2 w' → w'.cell? ⟨w.heap.size, 1, none⟩ = some (.int .i64 N) := fun w' h => (HQS.out _ (hbx (hx2.toS F) h)).2
  have g2 : ∀ w', ExtS [b] W2 w' → w'.cell? ⟨db, 2, none⟩ = some (.map (some m)) := fun w' h => HRD.out _ (((hx0.trans hx2).toS [b]).trans h)
  have g3 : ∀ w', ExtS [b] W2 w' → (Instr.lookup 104 (.map (some m)) (.agg #[.int .u32 A, .int .i64 N]) false).run Tryz.prog w' = .ok (.pointer (some ⟨l, 0, none⟩)) w' := fun w' h => HLK.out _ (((hx0.trans hx2).toS [b]).trans h)
  iterate 10 (refine wpE_read (v := ?_) rfl (by rfl) ?_ ?_; rotate_left; (focus (intro w' hx; go_simp; first | done | with_reducible rfl)); simp only [Act.put, List.setIfInBounds_toArray, List.set_cons_zero, List.set_cons_succ])
  clear g0 g1 g2 g3
  have D2 := HD.out.ext (hx0.trans hx2)
  have cp := places_any db A N T f W2 D2.tabs (by rw [heap_cell D2.obj]; rfl) hA hN HZ.out b HB.out
  generalize hoff : plN (lvN N) A % szN (lvN N) * 2 = off at *
  refine wpE_call rfl (by rfl) (fun K hK => ?_); go_simp; first | (go_at_call 118; refine cp.mono ?_; rintro e w3 ⟨⟨cap, rfl⟩, hx3⟩; refine hK _ _ (hx3.toS [b]) ?_; clear hK K)
  clear cp
  have D3 := D2.ext hx3
  have cu := under_any db m A N E w3 (D3.map m rfl) (by rw [heap_cell D3.obj]; rfl) hA hN D3.valid
  refine wpE_call rfl (by rfl) (fun K hK => ?_); go_simp; first | (go_at_call 119; refine cu.mono ?_; rintro e w4 ⟨⟨u, rfl, hu⟩, hx4⟩; refine hK _ _ (hx4.toS [b]) ?_; clear hK K)
  clear cu
  have D4 := D3.ext hx4
  have hmem := lk_mem HL.out
  have hnb : ∀ (y : Nat) (cs : Array Value), w4.heap[y]? = some (.cells cs 159 (0, 0)) → y ≠ b := fun y cs hy e => by
    have h1 := isT_tab D4.tabs HB.out
    rw [← e, isT_laid hy] at h1; cases h1
  have cun := uncover_any b (szN (lvN N)) (plN (lvN N) A % szN (lvN N)) (cntN N) cap l u (tyN (lvN N)) (fun i => f (lvN N) (plN (lvN N) A / szN (lvN N) * szN (lvN N) + i)) (fun i => T (lvN N + 1) (plN (lvN N) A / szN (lvN N) * szN (lvN N) + i)) w4
    (D4.tabs.tab _ _ _ HB.out) (cnt_ok A N hN HZ.out) (sz_le _) (hnb _ _ (D4.laid _ hmem)) (D4.laid _ hmem) (fun i b' hi e => by
      have hbs := D4.paint (lvN N) _ hlv (tab_lt (lvN N) A i hlv hA hi)
      rw [e] at hbs
      obtain ⟨q, k1, -⟩ := hbs
      exact ⟨hnb _ _ (D4.laid _ k1), _, _, D4.laid _ k1⟩)
  rw [hoff] at cun
  refine wpE_call rfl (by rfl) (fun K hK => ?_); go_simp; first | (go_at_call 117; refine cun.mono ?_; rintro e w5 ⟨rfl, t5, x5⟩; refine hK _ _ x5 ?_; clear hK K)
  clear cun
  refine wpE_done ?_
  have HT5 : Hid _ := t5
  have HU : Hid _ := hu
  clear t5 hu
  go_wp2_with fail
  have x45 : ExtS [b] w4 w5.drew := x5.drew
  have X5 : ExtS F W0 w5.drew := hbx ((((hx2.trans hx3).trans hx4).toS F)) x45
  obtain ⟨w7, hdr, m7, x7⟩ := drop_all (w := w5.drew) (((D4.map m rfl).later x45 (by simpa using hbm))) ((A : Int), (N : Int)) l HL.out
  have obj5 : w5.drew.heap[db]? = _ := x45.heap (by simpa using hdbb) D4.obj
  simp only [keyV] at hdr
  refine wp_region_eagerS [m] [(0, false), (1, false), (2, false), (3, false), (4, false), (5, true)] (by kernel_rfl) (by kernel_rfl) rfl (by kernel_rfl) (fun _ _ _ _ _ h => h) ?_
  have HT5' : Hid (TabAt w5.drew b (szN (lvN N)) (tyN (lvN N)) (uncB (fun i => f (lvN N) (plN (lvN N) A / szN (lvN N) * szN (lvN N) + i)) (plN (lvN N) A % szN (lvN N)) (cntN N) l u) (fun i => T (lvN N + 1) (plN (lvN N) A / szN (lvN N) * szN (lvN N) + i))) := HT5.out
  clear HT5 x5
  generalize w5.drew = W6 at *
  have hmx : ∀ {W W' : World}, ExtS F W0 W → ExtS [m] W W' → ExtS F W0 W' := fun h1 h2 => h1.then h2 (fun y hy => by rw [List.mem_singleton.1 hy]; exact .inl hmF)
  have g0 : ∀ w', ExtS [m] W6 w' → w'.cell? ⟨w.heap.size, 0, none⟩ = some (.int .u32 A) := fun w' h => (HQS.out _ (hmx X5 h)).1
  have g1 : ∀ w', ExtS [m] W6 w' → w'.cell? ⟨w.heap.size, 1, none⟩ = some (.int .i64 N) := fun w' h => (HQS.out _ (hmx X5 h)).2
  have g2 : ∀ w', ExtS [m] W6 w' → w'.cell? ⟨db, 2, none⟩ = some (.map (some m)) := fun w' h => by rw [heap_cell (h.heap (by simpa using hdbm) obj5)]; rfl
  have HM7 : Hid _ := m7
  have HX7 : Hid _ := x7
  have HD4 : Hid _ := D4
  clear m7 D4 D3 D2
  iterate 5 (refine wpE_read (v := ?_) rfl (by rfl) ?_ ?_; rotate_left; (focus (intro w' hx; go_simp; first | done | with_reducible rfl)); simp only [Act.put, List.setIfInBounds_toArray, List.set_cons_zero, List.set_cons_succ])
  refine wpE_call rfl (by rfl) (fun K hK => ?_); go_simp; first | (refine hK _ _ HX7.out ?_; clear hK K)
  refine wpE_done ?_
  clear g0 g1 g2 hdr x7
  go_wp2_with fail
  have x67 : ExtS [m] W6 w7.drew := HX7.out.drew
  have X8 : ExtS F W0 w7.drew := hmx X5 x67
  have m8 : MapAt w7.drew m (delE E ((A : Int), (N : Int))) := HM7.out
  have obj8 := x67.heap (by simpa using hdbm) obj5
  have hpd := paint_del HD4.out.paint HD4.out.valid HD4.out.keys HD4.out.blks hA hN HZ.out hmem HU.out
  have tabs6 : Tabs W6 T (uncF f (lvN N) (plN (lvN N) A) (cntN N) l u) := by
    refine HD4.out.tabs.paint HB.out x45 (fun k n b' _ hne => by simpa using hne) (HT5'.out.congr (fun i hi => ?_) (fun i hi => rfl)) (fun k' m' hne => ?_)
    · have hs := pl_split (lvN N) A
      simp only [uncF, uncB]
      have hr : (plN (lvN N) A % szN (lvN N) ≤ i ∧ i < plN (lvN N) A % szN (lvN N) + cntN N) ↔ (plN (lvN N) A ≤ plN (lvN N) A / szN (lvN N) * szN (lvN N) + i ∧ plN (lvN N) A / szN (lvN N) * szN (lvN N) + i < plN (lvN N) A + cntN N) := by omega
      by_cases c : f (lvN N) (plN (lvN N) A / szN (lvN N) * szN (lvN N) + i) = some l
      · by_cases r : plN (lvN N) A % szN (lvN N) ≤ i ∧ i < plN (lvN N) A % szN (lvN N) + cntN N
        · rw [if_pos ⟨trivial, (hr.1 r).1, (hr.1 r).2, c⟩, if_pos ⟨r.1, r.2, c⟩]
        · rw [if_neg (fun h => r (hr.2 ⟨h.2.1, h.2.2.1⟩)), if_neg (fun h => r ⟨h.1, h.2.1⟩)]
      · rw [if_neg (fun h => c h.2.2.2), if_neg (fun h => c h.2.2)]
    · simp only [uncF]
      rw [if_neg ?_]
      rintro ⟨rfl, h1, h2, -⟩
      apply hne
      refine ⟨rfl, ?_⟩
      have hok := cnt_ok A N hN HZ.out
      have hs := pl_split (lvN N) A
      have : m' = plN (lvN N) A / szN (lvN N) * szN (lvN N) + (m' - plN (lvN N) A / szN (lvN N) * szN (lvN N)) := by omega
      rw [this]
      exact mul_add_div (by omega)
  have tabs8 : Tabs w7.drew T (uncF f (lvN N) (plN (lvN N) A) (cntN N) l u) := tabs6.later x67 (fun k n b' e hh => by
    have h1 := isT_tab HD4.out.tabs e
    rw [List.mem_singleton.1 hh, isT_map (HD4.out.map m rfl)] at h1; cases h1)
  have z0 : onT T A 0 = T 0 0 := by unfold onT; rw [pl_zero A hA]
  have hT0 : T 0 0 ≠ none := fun e => by have := HD4.out.begun.2 e; cases this
  have hlt8 : ∀ x ∈ tabF w7.drew F, x < w7.drew.heap.size := fun x hx => Nat.lt_of_lt_of_le (HD4.out.lt x (List.mem_filter.1 hx).1) (Nat.le_trans x45.size x67.size)
  have cd := disown_any db A N (.int .i64 most) (.map (some m)) (.int .u32 1) (.int .i32 0) (.int .u32 0) (delE E ((A : Int), (N : Int))) (uncF f (lvN N) (plN (lvN N) A) (cntN N) l u) hpd (fun x hx => HD4.out.valid x ((mem_delE HD4.out.keys).1 hx).1) hA hN (ownN (E.map (·.1)) : Nat) T (tabF w7.drew F) (lvN N) 0 w7.drew (by omega) tabs8 obj8
    (List.mem_filter.2 ⟨HD4.out.fdb, isT_dir obj8⟩) (fun k n b' e => List.mem_filter.2 ⟨HD4.out.ftab k n b' e, isT_tab tabs8 e⟩) hlt8 (dis_pre HD4.out.dom (perm_map_delE HL.out)) (by rw [z0]; exact hT0) (Int.natCast_nonneg _) (by have := HOWN.out; omega)
  rw [z0, show ((beN 0 : Nat) : Int) = 16 from rfl] at cd
  have c6 : w7.drew.cell? ⟨db, 6, none⟩ = some (tbV 0 (T 0 0)) := by rw [heap_cell obj8]; rfl
  refine wp_region_eagerR (RD (tabF w7.drew F) db) (RD.refl _ _) (fun _ _ _ h k => h.trans k) [(0, false), (1, false), (2, false), (3, false), (4, false), (5, false), (6, true)] (by kernel_rfl) (by kernel_rfl) rfl (by kernel_rfl) (fun _ _ _ _ _ h => h) ?_
  have hend : ∀ w9, DisAns db A (lvN N) 0 (ownN (E.map (·.1)) : Nat) (.int .i64 most) (.map (some m)) (.int .u32 1) (.int .i32 0) (.int .u32 0) ((delE E ((A : Int), (N : Int))).map (·.1)) T (uncF f (lvN N) (plN (lvN N) A) (cntN N) l u) (tabF w7.drew F) w7.drew w9 → DelAns w F db most E V ((A : Int), (N : Int)) w9 := fun w9 ha => by
    obtain ⟨T', dd⟩ := del_done HD4.out HL.out hA hN HZ.out HB.out x45 m8 x67 hpd ha
    obtain ⟨_, _, _, ex, _⟩ := ha
    exact ⟨T', _, m, dd, (hx0.toS F).trans (X8.then ex (fun y hy => .inl (List.mem_filter.1 hy).1))⟩
  have hcell : ∀ w9, DisAns db A (lvN N) 0 (ownN (E.map (·.1)) : Nat) (.int .i64 most) (.map (some m)) (.int .u32 1) (.int .i32 0) (.int .u32 0) ((delE E ((A : Int), (N : Int))).map (·.1)) T (uncF f (lvN N) (plN (lvN N) A) (cntN N) l u) (tabF w7.drew F) w7.drew w9 → RD (tabF w7.drew F) db w7.drew w9 := fun w9 ha => by
    obtain ⟨T', _, o9, ex, _, t5, _⟩ := ha
    refine ⟨ex, ?_⟩
    rw [c6, heap_cell o9, t5 0 0 (Nat.le_refl _)]; rfl
  have hFx : ∀ w', RD (tabF w7.drew F) db w7.drew w' → ExtS F W0 w' := fun w' h => X8.then h.1 (fun y hy => .inl (List.mem_filter.1 hy).1)
  generalize tabF w7.drew F = F8 at *
  have g0 : ∀ w', RD F8 db w7.drew w' → w'.cell? ⟨w.heap.size, 0, none⟩ = some (.int .u32 A) := fun w' h => (HQS.out _ (hFx w' h)).1
  have g1 : ∀ w', RD F8 db w7.drew w' → w'.cell? ⟨w.heap.size, 1, none⟩ = some (.int .i64 N) := fun w' h => (HQS.out _ (hFx w' h)).2
  have g2 : ∀ w', RD F8 db w7.drew w' → w'.cell? ⟨db, 6, none⟩ = some (tbV 0 (T 0 0)) := fun w' h => h.2.trans c6
  generalize tbV 0 (T 0 0) = v0 at *
  generalize uncF f (lvN N) (plN (lvN N) A) (cntN N) l u = f' at *
  clear tabs8 tabs6 m8 obj8 x67 X8 hlt8 c6 hpd
  generalize w7.drew = W8 at *
  iterate 6 (refine wpE_read (v := ?_) rfl (by rfl) ?_ ?_; rotate_left; (focus (intro w' hx; go_simp; first | done | with_reducible rfl)); simp only [Act.put, List.setIfInBounds_toArray, List.set_cons_zero, List.set_cons_succ])
  refine wpE_call rfl (by rfl) (fun K hK => ?_); go_simp; first | (go_at_call 120; refine cd.mono ?_; rintro e w9 ⟨rfl, ha⟩; have HA : Hid _ := hend w9 ha; refine hK _ _ (hcell w9 ha) ?_; clear hK K ha)
  refine wpE_done ?_
  clear g0 g1 g2
  go_wp2_with fail
  go_ret
  exact ⟨rfl, HA.out⟩

end
end Go.Proofs.YtkfhkhgiojpfoaaGreat.Dr
