/- Package dir: Set. -/
import Derived.Test.YtlnmdlachfnmkaaDir9
namespace Go.Proofs.Ytlnmdlachfnmkaa.Dr
set_option maxRecDepth 100000
open Go.RowKit Go.Proofs.Ytlnmdlachfnmkaa Go.Proofs.Ytlnmdlachfnmkaa.Tri
set_option linter.unusedVariables false

theorem set_nil (a n v : Int) (w : World) : Calls Try.prog 20 #[.pointer none, .agg #[.int .u32 a, .int .i64 n], .int .i64 v] w fun e w' => e = .returned (.int .i64 1) ∧ Ext w w' := by
  have hx0 : Ext w (w.alloc (.cells #[.int .u32 a, .int .i64 n] 30)) := (Ext.refl w).alloc _
  go_enter Try.func20, Try.ntmps20
  go_wp2_with fail
  go_ret
  exact ⟨rfl, hx0⟩

theorem set_arg (db : Nat) (a n v : Int) (w : World) (a0 : 0 ≤ a) (a1 : a ≤ 4294967295) (h : isV a n = false ∨ v < 0) : Calls Try.prog 20 #[.pointer (some ⟨db, 0, none⟩), .agg #[.int .u32 a, .int .i64 n], .int .i64 v] w fun e w' => e = .returned (.int .i64 1) ∧ Ext w w' := by
  have hx0 : Ext w (w.alloc (.cells #[.int .u32 a, .int .i64 n] 30)) := (Ext.refl w).alloc _
  have ci := fun w => is_any a n w a0 a1
  have hnot : ∀ (x : Bool) (w : World), (Op.unary .not (.bool x)).run Try.prog w = .ok (.bool (!x)) w := fun _ _ => rfl
  cases hi : isV a n with
  | false =>
    rw [hi] at ci
    clear hi h
    go_enter Try.func20, Try.ntmps20
    go_wp2_with (go_at_call 31; refine (ci _).mono ?_; rintro e w1 ⟨rfl, hx1⟩)
    go_ret
    exact ⟨rfl, hx0.trans hx1⟩
  | true =>
    have hv : v < 0 := by rcases h with h | h; rw [hi] at h; cases h; exact h
    rw [hi] at ci
    clear hi h
    go_enter Try.func20, Try.ntmps20
    go_wp2_with (go_at_call 31; refine (ci _).mono ?_; rintro e w1 ⟨rfl, hx1⟩)
    go_ret
    exact ⟨rfl, hx0.trans hx1⟩

theorem DirIn.look {w : World} {db : Nat} {most : Int} {E : List (PX × Nat)} {V : PX → Int} {T f : Nat → Nat → Option Nat} {mb : Option Nat} {F : List Nat} (h : DirIn w db most E V T f mb F) (p : PX) : (Instr.lookup 59 (.map mb) (keyV p) false).run Try.prog w = .ok (ptV (lk E p)) w := by
  cases mb with
  | none => rw [h.nomap rfl]; exact look_nil w p
  | some m => exact look_px (h.map m rfl) p

theorem ms_more {T : Nat → Nat → Option Nat} {K : List PX} (h : DisR T K 0 0 0) (A : Nat) : ∀ j, j ≤ 2 → msN T A j = moreN K A j
  | 0, _ => rfl
  | j + 1, hj => by
    have ih := ms_more h A j (by omega)
    simp only [msN, moreN, ih]
    congr 1
    have := h (j + 1) (plN j A) (by omega) hj
    cases hh : T (j + 1) (plN j A) with
    | none =>
      rw [hh] at this
      have hd : domB K (j + 1) (plN j A) = false := by
        cases hd : domB K (j + 1) (plN j A) with
        | false => rfl
        | true => have := this.2 (.inl hd); cases this
      rw [hd]; rfl
    | some b =>
      rw [hh] at this
      have hd : domB K (j + 1) (plN j A) = true := by
        rcases this.1 rfl with h | h
        · exact h
        · omega
      rw [hd]; rfl

/-- What of a Dir is read, in every later world. -/
theorem DirIn.reads {w : World} {db : Nat} {most : Int} {E : List (PX × Nat)} {V : PX → Int} {T f : Nat → Nat → Option Nat} {mb : Option Nat} {F : List Nat} (h : DirIn w db most E V T f mb F) : ∀ w', Ext w w' →
    w'.cell? ⟨db, 0, none⟩ = some (.int .i64 most) ∧ w'.cell? ⟨db, 1, none⟩ = some (.int .i64 (ownN (E.map (·.1)) : Nat)) ∧ w'.cell? ⟨db, 2, none⟩ = some (.map mb) ∧ w'.cell? ⟨db, 6, none⟩ = some (tbV 0 (T 0 0)) := fun w' hx => by
  have := hx.heap h.obj
  exact ⟨by rw [heap_cell this]; rfl, by rw [heap_cell this]; rfl, by rw [heap_cell this]; rfl, by rw [heap_cell this]; rfl⟩

section
variable {w : World} {db : Nat} {most : Int} {E : List (PX × Nat)} {V : PX → Int} {T f : Nat → Nat → Option Nat} {mb : Option Nat} {F : List Nat}

set_option maxHeartbeats 1000000 in
theorem set_here (h : DirIn w db most E V T f mb F) (a n v : Int) (hp : Vp (a, n)) (hv : 0 ≤ v) (b : Nat) (hl : lk E (a, n) = some b) :
    Calls Try.prog 20 #[.pointer (some ⟨db, 0, none⟩), .agg #[.int .u32 a, .int .i64 n], .int .i64 v] w fun e w' => e = .returned (.int .i64 0) ∧ DirIn w' db most E (fun q => if q = (a, n) then v else V q) T f mb F ∧ ExtS F w w' := by
  obtain ⟨a0, a1, -, -⟩ := hp.bd
  have hx0 : Ext w (w.alloc (.cells #[.int .u32 a, .int .i64 n] 30)) := (Ext.refl w).alloc _
  have hn := heap_new w (.cells #[.int .u32 a, .int .i64 n] 30)
  have hq : ∀ w', Ext (w.alloc (.cells #[.int .u32 a, .int .i64 n] 30)) w' → w'.cell? ⟨w.heap.size, 0, none⟩ = some (.int .u32 a) ∧ w'.cell? ⟨w.heap.size, 1, none⟩ = some (.int .i64 n) := fun w' hx => ⟨by rw [heap_cell (hx.heap hn)]; rfl, by rw [heap_cell (hx.heap hn)]; rfl⟩
  have HQ : Hid _ := hq
  have ci := fun w => is_any a n w a0 a1
  rw [hp.is] at ci
  have hnot : ∀ (x : Bool) (w : World), (Op.unary .not (.bool x)).run Try.prog w = .ok (.bool (!x)) w := fun _ _ => rfl
  have hr : ∀ w', Ext w w' → w'.cell? ⟨db, 2, none⟩ = some (.map mb) := fun w' hx => (h.reads w' hx).2.2.1
  have hlk : ∀ w', Ext w w' → (Instr.lookup 59 (.map mb) (.agg #[.int .u32 a, .int .i64 n]) false).run Try.prog w' = .ok (.pointer (some ⟨b, 0, none⟩)) w' := fun w' hx => by
    have := (h.ext hx).look (a, n)
    rw [hl] at this; exact this
  have hmem := lk_mem hl
  have hld : ∀ w', Ext w w' → w'.cell? ⟨b, 1, none⟩ = some (.int .i64 (V (a, n))) ∧ w'.frozen? ⟨b, 1, none⟩ = false := fun w' hx => by
    have := hx.heap (h.laid _ hmem)
    exact ⟨by rw [heap_cell this]; rfl, heap_frozen this⟩
  have hfin : ∀ w', Ext w w' → DirIn (w'.setCell ⟨b, 1, none⟩ (.int .i64 v)) db most E (fun q => if q = (a, n) then v else V q) T f mb F ∧ ExtS F w (w'.setCell ⟨b, 1, none⟩ (.int .i64 v)) := fun w' hx => by
    have h' := h.ext hx
    have hxs : ExtS [b] w' (w'.setCell ⟨b, 1, none⟩ (.int .i64 v)) := (ExtS.refl _ _).setCell (.inl (by simp)) _
    have hbo := h'.laid _ hmem
    have hbx := heap_set (k := 1) hbo (.int .i64 v)
    refine ⟨⟨?_, h'.begun, fun m e => (h'.map m e).later hxs ?_, h'.nomap, h'.tabs.later hxs (fun k n' b' e => ?_), h'.dom, h'.paint, h'.valid, h'.keys, h'.blks, fun x hx' => ?_, h'.fdb, h'.fmap, h'.ftab, h'.flaid, fun x hx' => Nat.lt_of_lt_of_le (h'.lt x hx') hxs.size⟩, ((hx.toS F).then hxs (fun x hx' => by rw [List.mem_singleton.1 hx']; exact .inl (h.flaid _ hmem)))⟩
    · refine hxs.heap ?_ h'.obj
      intro e
      have e := List.mem_singleton.1 e
      have ho := h'.obj
      rw [e, hbo] at ho
      simp only [dirO, Option.some.injEq, Obj.cells.injEq] at ho
      exact absurd ho.2.1 (by decide)
    · intro e
      have e := List.mem_singleton.1 e
      obtain ⟨es, cl, hm, -⟩ := h'.map m (by assumption)
      rw [e, hbo] at hm; cases hm
    · intro e2
      have e2 := List.mem_singleton.1 e2
      obtain ⟨cs, hc, -, -⟩ := h'.tabs.tab k n' b' e
      rw [e2, hbo] at hc
      simp only [Option.some.injEq, Obj.cells.injEq] at hc
      have : tyN k ≠ 85 := by match k with
        | 0 => decide
        | k + 1 => rw [ty_next]; decide
      exact this hc.2.1.symm
    · by_cases e : x.2 = b
      · have ex : x = ((a, n), b) := by
          have h1 := nvE_of (V := fun q => q.1) h.blks (p := x.1) (b := b) (by rw [← e]; exact hx')
          have h2 := nvE_of (V := fun q => q.1) h.blks hmem
          have h3 := nvE_of (V := fun q => q.2) h.blks (p := x.1) (b := b) (by rw [← e]; exact hx')
          have h4 := nvE_of (V := fun q => q.2) h.blks hmem
          have e1 : x.1 = (a, n) := Prod.ext (h1.symm.trans h2) (h3.symm.trans h4)
          exact Prod.ext e1 e
        subst ex
        simp only [if_true]
        exact hbx
      · have ne : x.1 ≠ (a, n) := by
          intro e2
          have key : ∀ (E : List (PX × Nat)), (E.map (·.1)).Nodup → ∀ p b, lk E p = some b → ∀ x ∈ E, x.1 = p → x.2 = b := by
            intro E; induction E with
            | nil => intro _ p b _ x hx; cases hx
            | cons z E ih =>
              intro hn p b hl x hx e
              rw [List.map_cons, List.nodup_cons] at hn
              simp only [lk] at hl
              rcases List.mem_cons.1 hx with rfl | hx1
              · rw [if_pos e] at hl; cases hl; rfl
              · by_cases ez : z.1 = p
                · exact absurd (List.mem_map.2 ⟨x, hx1, e.trans ez.symm⟩) hn.1
                · rw [if_neg ez] at hl
                  exact ih hn.2 p b hl x hx1 e
          exact e (key E h.keys _ _ hl x hx' e2)
        rw [if_neg ne]
        exact hxs.heap (by simpa using e) (h'.laid x hx')
  have HFIN : Hid _ := hfin
  have HR : Hid _ := hr
  have HLK : Hid _ := hlk
  have HLD : Hid _ := hld
  clear hq hn hr hlk hld hfin h hmem hl hp
  generalize hW0 : (w.alloc (.cells #[.int .u32 a, .int .i64 n] 30)) = W0 at *
  go_enter Try.func20, Try.ntmps20
  obtain ⟨q0, q1⟩ := HQ.out _ (Ext.refl _)
  go_wp2_with (go_at_call 31; refine (ci _).mono ?_; rintro e w1 ⟨rfl, hx1⟩)
  have hx2 := hx1.drew
  refine wp_region_eager [(0, false), (1, false), (2, false), (3, false), (4, false), (5, false), (6, false)] (by kernel_rfl) (by kernel_rfl) rfl (by kernel_rfl) (fun _ _ _ _ _ h => h) ?_
  generalize w1.drew = W2 at *
  have g0 : ∀ w', Ext W2 w' → w'.cell? ⟨w.heap.size, 0, none⟩ = some (.int .u32 a) := fun w' h => (HQ.out _ (hx2.trans h)).1
  have g1 : ∀ w', Ext W2 w' → w'.cell? ⟨w.heap.size, 1, none⟩ = some (.int .i64 n) := fun w' h => (HQ.out _ (hx2.trans h)).2
  have g2 : ∀ w', Ext W2 w' → w'.cell? ⟨db, 2, none⟩ = some (.map mb) := fun w' h => HR.out _ ((hx0.trans hx2).trans h)
  have g3 : ∀ w', Ext W2 w' → (Instr.lookup 59 (.map mb) (.agg #[.int .u32 a, .int .i64 n]) false).run Try.prog w' = .ok (.pointer (some ⟨b, 0, none⟩)) w' := fun w' h => HLK.out _ ((hx0.trans hx2).trans h)
  clear q0 q1
  iterate 7 (refine wpE_read (v := ?_) rfl (by rfl) ?_ ?_; rotate_left; (focus (intro w' hx; go_simp; first | done | with_reducible rfl)); simp only [Act.put, List.setIfInBounds_toArray, List.set_cons_zero, List.set_cons_succ])
  refine wpE_done ?_
  clear g0 g1 g2 g3
  obtain ⟨l1, l2⟩ := HLD.out _ (hx0.trans hx2)
  go_wp2_with fail
  go_ret
  exact ⟨rfl, HFIN.out _ (hx0.trans hx2)⟩
end
end Go.Proofs.Ytlnmdlachfnmkaa.Dr
