/- Package dir: Set of a new prefix. -/
import Derived.Test.YtlnmdlachfnmkaaDirR
namespace Go.Proofs.Ytlnmdlachfnmkaa.Dr
set_option maxRecDepth 100000
open Go.RowKit Go.Proofs.Ytlnmdlachfnmkaa Go.Proofs.Ytlnmdlachfnmkaa.Tri
set_option linter.unusedVariables false

/-- Is this block a table, or a Dir's? -/
def isT (w : World) (x : Nat) : Bool := match w.heap[x]? with
  | some (.cells _ t _) => t == 82 || t == 102 || t == 73
  | _ => false

def tabF (w : World) (F : List Nat) : List Nat := F.filter (isT w)

theorem isT_dir {w : World} {db : Nat} {mo ow mp dn st sm fi : Value} (h : w.heap[db]? = some (dirO mo ow mp dn st sm fi)) : isT w db = true := by
  unfold isT; rw [h]; rfl

theorem isT_tab {w : World} {T f : Nat → Nat → Option Nat} (h : Tabs w T f) {k n b : Nat} (e : T k n = some b) : isT w b = true := by
  obtain ⟨cs, h1, -, -⟩ := h.tab k n b e
  unfold isT; rw [h1]
  match k with
  | 0 => rfl
  | k + 1 => rfl

theorem isT_laid {w : World} {b : Nat} {cs : Array Value} (h : w.heap[b]? = some (.cells cs 85 (0, 0))) : isT w b = false := by
  unfold isT; rw [h]; rfl

theorem isT_map {w : World} {m : Nat} {E : List (PX × Nat)} (h : MapAt w m E) : isT w m = false := by
  obtain ⟨es, cl, h1, -⟩ := h
  unfold isT; rw [h1]

def setV (V : PX → Int) (p : PX) (v : Int) : PX → Int := fun q => if q = p then v else V q

theorem dom_app (K : List PX) (p : PX) (j n : Nat) : domB (K ++ [p]) j n = true ↔ domB K j n = true ∨ ((loN j : Int) ≤ p.2 ∧ p.1.toNat / 2 ^ beN (j - 1) = n) := by
  rw [dom_iff, dom_iff]
  constructor
  · rintro ⟨q, hq, h1, h2⟩
    rcases List.mem_append.1 hq with hq | hq
    · exact .inl ⟨q, hq, h1, h2⟩
    · rw [List.mem_singleton.1 hq] at h1 h2; exact .inr ⟨h1, h2⟩
  · rintro (⟨q, hq, h1, h2⟩ | ⟨h1, h2⟩)
    · exact ⟨q, List.mem_append_left _ hq, h1, h2⟩
    · exact ⟨p, List.mem_append_right _ (List.mem_singleton.2 rfl), h1, h2⟩

theorem set_done {w0 w4 w5 w6 w7 w8 : World} {db m nl b A N : Nat} {most v : Int} {E : List (PX × Nat)} {V : PX → Int} {T1 T2 f : Nat → Nat → Option Nat} {F1 : List Nat} (D : DirIn w4 db most E V T1 f (some m) F1)
    (hnl : w4.heap[nl]? = some (.cells #[.int .i64 N, .int .i64 v] 85 (0, 0))) (hnF : nl ∉ F1) (hl : lk E ((A : Int), (N : Int)) = none) (hA : A < 4294967296) (hN : N ≤ 32) (hZ : A % 2 ^ (32 - N) = 0)
    (m5 : MapAt w5 m (E ++ [(((A : Int), (N : Int)), nl)])) (x5 : ExtS [m] w4 w5) (t6 : Tabs w6 T2 f)
    (o6 : w6.heap[db]? = some (dirO (.int .i64 most) (.int .i64 (ownN (E.map (·.1)) + moreN (E.map (·.1)) A (lvN N) : Nat)) (.map (some m)) (.int .u32 1) (.int .i32 0) (.int .u32 0) (tbV 0 (T2 0 0))))
    (x6 : ExtS (tabF w5 F1) w5 w6) (g6 : Grown T1 T2 A (lvN N) w5.heap.size) (x7 : Ext w6 w7) (hb : onT T2 A (lvN N) = some b) (x8 : ExtS [b] w7 w8)
    (t8 : TabAt w8 b (szN (lvN N)) (tyN (lvN N)) (covB (fun i => f (lvN N) (plN (lvN N) A / szN (lvN N) * szN (lvN N) + i)) (lenB (E ++ [(((A : Int), (N : Int)), nl)])) (plN (lvN N) A % szN (lvN N)) (cntN N) nl) (fun i => T2 (lvN N + 1) (plN (lvN N) A / szN (lvN N) * szN (lvN N) + i)))
    (hw0 : w0.heap.size ≤ w4.heap.size) (hwl : w0.heap.size ≤ nl) :
    ∃ T' f' F', DirIn w8 db most (E ++ [(((A : Int), (N : Int)), nl)]) (setV V ((A : Int), (N : Int)) v) T' f' (some m) F' ∧ ∀ x ∈ F', x ∈ F1 ∨ w0.heap.size ≤ x := by
  have hvp : Vp ((A : Int), (N : Int)) := ⟨A, N, rfl, hN, hA, hZ⟩
  have hlv := lvN_le N
  -- what stands
  have hmF : m ∉ tabF w5 F1 := fun h => by have := (List.mem_filter.1 h).2; rw [isT_map m5] at this; cases this
  have bT := isT_tab t6 hb
  have bm : m ≠ b := by
    rintro rfl
    have := isT_map (m5.later x6 hmF)
    rw [this] at bT; cases bT
  have keep : ∀ (y : Nat) (cs : Array Value), w4.heap[y]? = some (.cells cs 85 (0, 0)) → w8.heap[y]? = some (.cells cs 85 (0, 0)) := fun y cs hy => by
    have y1 : y ∉ [m] := by
      intro e
      rw [List.mem_singleton.1 e] at hy
      obtain ⟨es, cl, hm, -⟩ := D.map m rfl
      rw [hm] at hy; cases hy
    have hy5 := x5.heap y1 hy
    have y2 : y ∉ tabF w5 F1 := fun h => by have := (List.mem_filter.1 h).2; rw [isT_laid hy5] at this; cases this
    have hy7 := x7.heap (x6.heap y2 hy5)
    have y3 : y ∉ [b] := by
      intro e
      rw [List.mem_singleton.1 e] at hy7
      have := isT_tab (t6.ext x7) hb
      rw [isT_laid hy7] at this; cases this
    exact x8.heap y3 hy7
  have hmap : MapAt w8 m (E ++ [(((A : Int), (N : Int)), nl)]) := ((m5.later x6 hmF).later (x7.toS []) (by simp)).later x8 (by simpa using bm)
  have hnd : (((E ++ [(((A : Int), (N : Int)), nl)]).map (·.2))).Nodup := by
    rw [List.map_append]
    refine List.nodup_append.2 ⟨D.blks, by simp, fun a ha c hc e => ?_⟩
    obtain ⟨x, hx, rfl⟩ := List.mem_map.1 ha
    simp only [List.map_cons, List.map_nil, List.mem_singleton] at hc
    exact hnF (by rw [← hc, ← e]; exact D.flaid x hx)
  have hkd : (((E ++ [(((A : Int), (N : Int)), nl)]).map (·.1))).Nodup := by
    rw [List.map_append]
    refine List.nodup_append.2 ⟨D.keys, by simp, fun a ha c hc e => ?_⟩
    obtain ⟨x, hx, rfl⟩ := List.mem_map.1 ha
    simp only [List.map_cons, List.map_nil, List.mem_singleton] at hc
    exact lk_none hl x hx (e.trans hc)
  have hpn := paint_new D.paint hnd hA hN hZ
  have dbb : db ≠ b := fun e => t6.ne_dir o6 hb e.symm
  -- the tables
  have htab : Tabs w8 T2 (covF f (lenB (E ++ [(((A : Int), (N : Int)), nl)])) (lvN N) (plN (lvN N) A) (cntN N) nl) := by
    refine (t6.ext x7).paint hb x8 (fun k n b' _ hne => by simpa using hne) (t8.congr (fun i hi => ?_) (fun i hi => rfl)) (fun k' m' hne => ?_)
    · have hs := pl_split (lvN N) A
      simp only [covF, covB]
      have hr : (plN (lvN N) A % szN (lvN N) ≤ i ∧ i < plN (lvN N) A % szN (lvN N) + cntN N) ↔ (plN (lvN N) A ≤ plN (lvN N) A / szN (lvN N) * szN (lvN N) + i ∧ plN (lvN N) A / szN (lvN N) * szN (lvN N) + i < plN (lvN N) A + cntN N) := by omega
      by_cases c : ∀ b, f (lvN N) (plN (lvN N) A / szN (lvN N) * szN (lvN N) + i) = some b → lenB (E ++ [(((A : Int), (N : Int)), nl)]) b < lenB (E ++ [(((A : Int), (N : Int)), nl)]) nl
      · by_cases r : plN (lvN N) A % szN (lvN N) ≤ i ∧ i < plN (lvN N) A % szN (lvN N) + cntN N
        · rw [if_pos ⟨trivial, (hr.1 r).1, (hr.1 r).2, c⟩, if_pos ⟨r.1, r.2, c⟩]
        · rw [if_neg (fun h => r (hr.2 ⟨h.2.1, h.2.2.1⟩)), if_neg (fun h => r ⟨h.1, h.2.1⟩)]
      · rw [if_neg (fun h => c h.2.2.2), if_neg (fun h => c h.2.2)]
    · simp only [covF]
      rw [if_neg ?_]
      rintro ⟨rfl, h1, h2, -⟩
      apply hne
      refine ⟨rfl, ?_⟩
      have hok := cnt_ok A N hN hZ
      have hs := pl_split (lvN N) A
      have : m' = plN (lvN N) A / szN (lvN N) * szN (lvN N) + (m' - plN (lvN N) A / szN (lvN N) * szN (lvN N)) := by omega
      rw [this]
      exact mul_add_div (by omega)
  refine ⟨T2, _, F1 ++ (List.range w8.heap.size).filter (fun x => decide (w0.heap.size ≤ x)), ⟨?_, ?_, fun m' e => ?_, (fun e => by cases e), htab, fun j n h1 h2 => ?_, hpn, fun x hx => ?_, hkd, hnd, fun x hx => ?_, List.mem_append_left _ D.fdb, fun m' e => List.mem_append_left _ (D.fmap m' e), fun k n b' e => ?_, fun x hx => ?_, fun x hx => ?_⟩, fun x hx => ?_⟩
  · have := x8.heap (by simpa using dbb) (x7.heap o6)
    have e1 := own_cons ((A : Int), (N : Int)) hvp (E.map (·.1))
    have e2 : ownN (E.map (·.1) ++ [((A : Int), (N : Int))]) = ownN (((A : Int), (N : Int)) :: E.map (·.1)) := own_perm (List.perm_append_singleton _ _)
    simp only [Int.toNat_natCast] at e1
    have e3 : ownN ((E ++ [(((A : Int), (N : Int)), nl)]).map (·.1)) = ownN (E.map (·.1)) + moreN (E.map (·.1)) A (lvN N) := by rw [List.map_append, ← e1, ← e2]; rfl
    rw [e3]
    exact this
  · refine ⟨(fun e => by cases e), fun e => ?_⟩
    exfalso
    cases hh : T1 0 0 with
    | none => have := D.begun.2 hh; cases this
    | some b0 => rw [g6.old _ _ b0 hh] at e; cases e
  · cases e; exact hmap
  · rw [List.map_append]
    show (T2 j n).isSome = true ↔ domB (E.map (·.1) ++ [((A : Int), (N : Int))]) j n = true ∨ _
    rw [dom_app]
    have hd := D.dom j n h1 h2
    have hlo : (loN j : Int) ≤ (N : Int) ↔ j ≤ lvN N := by
      obtain ⟨i, rfl⟩ : ∃ i, j = i + 1 := ⟨j - 1, by omega⟩
      have := lvN_lt N i (by omega)
      omega
    constructor
    · intro hs
      cases hh : T1 j n with
      | some b1 =>
        rw [hh] at hd
        rcases hd.1 rfl with h | h
        · exact .inl (.inl h)
        · omega
      | none =>
        obtain ⟨b2, hb2⟩ := Option.isSome_iff_exists.1 hs
        obtain ⟨-, i, hi, rfl, rfl⟩ := g6.new j n b2 hh hb2
        refine .inl (.inr ⟨hlo.2 (by omega), ?_⟩)
        simp [plN]
    · rintro ((h | ⟨h3, h4⟩) | h)
      · have := hd.2 (.inl h)
        obtain ⟨b1, hb1⟩ := Option.isSome_iff_exists.1 this
        rw [g6.old _ _ _ hb1]; rfl
      · obtain ⟨i, rfl⟩ : ∃ i, j = i + 1 := ⟨j - 1, by omega⟩
        have hj := hlo.1 h3
        have := g6.way i (by omega)
        simp only [Int.toNat_natCast, Nat.add_sub_cancel] at h4
        have e : plN i A = n := h4
        rw [e] at this
        cases hh : T2 (i + 1) n with
        | none => exact absurd hh this
        | some _ => rfl
      · omega
  · rcases List.mem_append.1 hx with hx | hx
    · exact D.valid x hx
    · rw [List.mem_singleton.1 hx]; exact hvp
  · rcases List.mem_append.1 hx with hx | hx
    · have hne : x.1 ≠ ((A : Int), (N : Int)) := lk_none hl x hx
      have := keep x.2 _ (D.laid x hx)
      rw [this]
      simp only [setV, if_neg hne]
    · rw [List.mem_singleton.1 hx]
      have := keep nl _ hnl
      simp only [setV, if_true]
      exact this
  · cases hh : T1 k n with
    | some b1 =>
      have := g6.old _ _ _ hh
      rw [e] at this
      cases this
      exact List.mem_append_left _ (D.ftab _ _ _ hh)
    | none =>
      have h1 := (g6.new _ _ _ hh e).1
      have h2 := (htab.tab _ _ _ e).lt
      have h3 := x5.size
      exact List.mem_append_right _ (List.mem_filter.2 ⟨List.mem_range.2 h2, decide_eq_true (by omega)⟩)
  · rcases List.mem_append.1 hx with hx | hx
    · exact List.mem_append_left _ (D.flaid x hx)
    · rw [List.mem_singleton.1 hx]
      have h2 := heap_lt (keep nl _ hnl)
      exact List.mem_append_right _ (List.mem_filter.2 ⟨List.mem_range.2 h2, decide_eq_true hwl⟩)
  · rcases List.mem_append.1 hx with hx | hx
    · have h1 := D.lt x hx
      have h2 := x5.size
      have h3 := x6.size
      have h4 := x7.size
      have h5 := x8.size
      omega
    · exact List.mem_range.1 (List.mem_filter.1 hx).1
  · rcases List.mem_append.1 hx with hx | hx
    · exact .inl hx
    · exact .inr (of_decide_eq_true (List.mem_filter.1 hx).2)
end Go.Proofs.Ytlnmdlachfnmkaa.Dr
