/- Texts joined by a program: DirD, DirL, TriQ. -/
import Derived.Test.YtmoimkeeldlpkaaGreatJ11
import Derived.Test.YtmoimkeeldlpkaaGreatJ14
namespace Go.Proofs.YtmoimkeeldlpkaaGreat.Dr

set_option maxRecDepth 100000

open Go.RowKit Go.Proofs.YtmoimkeeldlpkaaGreat Go.Proofs.YtmoimkeeldlpkaaGreat.Tri

set_option linter.unusedVariables false

set_option maxHeartbeats 1000000 in
theorem del_nil (a n : Int) (w : World) : Calls Tryz.prog 82 #[.pointer none, .agg #[.int .u32 a, .int .i64 n]] w fun e w' => e = .returned (.bool false) ∧ Ext w w' := by
  have hx0 : Ext w (w.alloc (.cells #[.int .u32 a, .int .i64 n] 31)) := (Ext.refl w).alloc _
  go_enter Tryz.func82, Tryz.ntmps82
  go_wp2_with fail
  have hx1 := hx0.drew
  refine wp_region_eager [(0, false), (1, false), (2, false), (3, false), (4, false), (5, false), (6, false), (7, false), (8, false), (9, false), (10, false)] (by kernel_rfl) (by kernel_rfl) rfl (by kernel_rfl) (fun _ _ _ _ _ h => h) ?_
  generalize (w.alloc (.cells #[.int .u32 a, .int .i64 n] 31)).drew = W1 at *
  repeat (first | (refine wpE_read (v := ?_) rfl (by rfl) ?_ ?_; rotate_left; (focus (intro w' hx; go_simp; first | done | with_reducible rfl)); simp only [Act.put, List.setIfInBounds_toArray, List.set_cons_zero, List.set_cons_succ]) | (rw [wpE_skip_eq _ rfl (by rfl)]; simp only [Act.put, List.setIfInBounds_toArray, List.set_cons_zero, List.set_cons_succ]))
  refine wpE_done ?_
  go_wp2_with fail
  go_ret
  exact ⟨rfl, hx1⟩

section

variable {w : World} {db : Nat} {most : Int} {E : List (PX × Nat)} {V : PX → Int} {T f : Nat → Nat → Option Nat} {mb : Option Nat} {F : List Nat}

set_option maxHeartbeats 1000000 in
theorem del_no (h : DirIn w db most E V T f mb F) (a n : Int) (hl : lk E (a, n) = none) : Calls Tryz.prog 82 #[.pointer (some ⟨db, 0, none⟩), .agg #[.int .u32 a, .int .i64 n]] w fun e w' => e = .returned (.bool false) ∧ Ext w w' := by
  have hx0 : Ext w (w.alloc (.cells #[.int .u32 a, .int .i64 n] 31)) := (Ext.refl w).alloc _
  have hn := heap_new w (.cells #[.int .u32 a, .int .i64 n] 31)
  have hq : ∀ w', Ext (w.alloc (.cells #[.int .u32 a, .int .i64 n] 31)) w' → w'.cell? ⟨w.heap.size, 0, none⟩ = some (.int .u32 a) ∧ w'.cell? ⟨w.heap.size, 1, none⟩ = some (.int .i64 n) := fun w' hx => ⟨by rw [heap_cell (hx.heap hn)]; rfl, by rw [heap_cell (hx.heap hn)]; rfl⟩
  have HQ : Hid _ := hq
  have hr := h.reads
  have hlk : ∀ w', Ext w w' → (Instr.lookup 97 (.map mb) (.agg #[.int .u32 a, .int .i64 n]) false).run Tryz.prog w' = .ok (.pointer none) w' := fun w' hx => by
    have := (h.ext hx).look (a, n)
    rw [hl] at this; exact this
  have HR : Hid _ := hr
  have HLK : Hid _ := hlk
  clear hq hn hr hlk h hl
  go_enter Tryz.func82, Tryz.ntmps82
  go_wp2_with fail
  have hx1 := hx0.drew
  refine wp_region_eager [(0, false), (1, false), (2, false), (3, false), (4, false), (5, false), (6, false), (7, false), (8, false), (9, false), (10, false)] (by kernel_rfl) (by kernel_rfl) rfl (by kernel_rfl) (fun _ _ _ _ _ h => h) ?_
  have hx2 : Ext (w.alloc (.cells #[.int .u32 a, .int .i64 n] 31)) (w.alloc (.cells #[.int .u32 a, .int .i64 n] 31)).drew := (Ext.refl _).drew
  generalize (w.alloc (.cells #[.int .u32 a, .int .i64 n] 31)).drew = W1 at *
  have g0 : ∀ w', Ext W1 w' → w'.cell? ⟨w.heap.size, 0, none⟩ = some (.int .u32 a) := fun w' h => (HQ.out _ (hx2.trans h)).1
  have g1 : ∀ w', Ext W1 w' → w'.cell? ⟨w.heap.size, 1, none⟩ = some (.int .i64 n) := fun w' h => (HQ.out _ (hx2.trans h)).2
  have g2 : ∀ w', Ext W1 w' → w'.cell? ⟨db, 2, none⟩ = some (.map mb) := fun w' h => (HR.out _ (hx1.trans h)).2.2.1
  have g3 : ∀ w', Ext W1 w' → (Instr.lookup 97 (.map mb) (.agg #[.int .u32 a, .int .i64 n]) false).run Tryz.prog w' = .ok (.pointer none) w' := fun w' h => HLK.out _ (hx1.trans h)
  iterate 11 (refine wpE_read (v := ?_) rfl (by rfl) ?_ ?_; rotate_left; (focus (intro w' hx; go_simp; first | done | with_reducible rfl)); simp only [Act.put, List.setIfInBounds_toArray, List.set_cons_zero, List.set_cons_succ])
  refine wpE_done ?_
  clear g0 g1 g2 g3
  go_wp2_with fail
  go_ret
  exact ⟨rfl, hx1⟩

end

theorem perm_map_delE {E : List (PX × Nat)} {p : PX} {b : Nat} (h : lk E p = some b) : (E.map (·.1)).Perm (p :: (delE E p).map (·.1)) := by
  have := (perm_delE h).map (·.1)
  exact this

theorem dis_pre {T : Nat → Nat → Option Nat} {K K' : List PX} {A N : Nat} (h : DisR T K 0 0 0) (hp : K.Perm (((A : Int), (N : Int)) :: K')) : DisR T K' A (lvN N) (lvN N) := by
  intro j n h1 h2
  rw [h j n h1 h2, dom_perm hp]
  have hlo : (loN j : Int) ≤ (N : Int) ↔ j ≤ lvN N := by
    obtain ⟨i, rfl⟩ : ∃ i, j = i + 1 := ⟨j - 1, by omega⟩
    have := lvN_lt N i (by omega)
    omega
  rw [dom_iff, dom_iff]
  constructor
  · rintro (⟨q, hq, a1, a2⟩ | hh)
    · rcases List.mem_cons.1 hq with rfl | hq
      · exact .inr ⟨hlo.1 a1, hlo.1 a1, by simp only [Int.toNat_natCast] at a2; exact a2.symm⟩
      · exact .inl ⟨q, hq, a1, a2⟩
    · omega
  · rintro (⟨q, hq, a1, a2⟩ | ⟨hh, -, rfl⟩)
    · exact .inl ⟨q, List.mem_cons_of_mem _ hq, a1, a2⟩
    · exact .inl ⟨_, List.mem_cons_self, hlo.2 hh, by simp [plN]⟩

theorem del_done {w3 w4 w6 w8 : World} {db m l b A N : Nat} {most : Int} {E : List (PX × Nat)} {V : PX → Int} {T f f' : Nat → Nat → Option Nat} {F : List Nat} (D : DirIn w3 db most E V T f (some m) F)
    (hl : lk E ((A : Int), (N : Int)) = some l) (hA : A < 4294967296) (hN : N ≤ 32) (hZ : A % 2 ^ (32 - N) = 0) (hb : onT T A (lvN N) = some b) (x4 : ExtS [b] w3 w4) (m6 : MapAt w6 m (delE E ((A : Int), (N : Int)))) (x6 : ExtS [m] w4 w6)
    (hpd : Painted (delE E ((A : Int), (N : Int))) f') (hans : DisAns db A (lvN N) 0 (ownN (E.map (·.1)) : Nat) (.int .i64 most) (.map (some m)) (.int .u32 1) (.int .i32 0) (.int .u32 0) ((delE E ((A : Int), (N : Int))).map (·.1)) T f' (tabF w6 F) w6 w8) :
    ∃ T', DirIn w8 db most (delE E ((A : Int), (N : Int))) V T' f' (some m) F := by
  obtain ⟨T', t1, t2, t3, t4, t5, t6⟩ := hans
  have hvp : Vp ((A : Int), (N : Int)) := ⟨A, N, rfl, hN, hA, hZ⟩
  have hpm := perm_map_delE hl
  have hsub : ∀ x ∈ delE E ((A : Int), (N : Int)), x ∈ E := fun x hx => ((mem_delE D.keys).1 hx).1
  have hmF : m ∉ tabF w6 F := fun h => by have := (List.mem_filter.1 h).2; rw [isT_map m6] at this; cases this
  have keep : ∀ (y : Nat) (cs : Array Value), w3.heap[y]? = some (.cells cs 130 (0, 0)) → w8.heap[y]? = some (.cells cs 130 (0, 0)) := fun y cs hy => by
    have y1 : y ∉ [b] := by
      intro e
      rw [List.mem_singleton.1 e] at hy
      have := isT_tab D.tabs hb
      rw [isT_laid hy] at this; cases this
    have hy4 := x4.heap y1 hy
    have y2 : y ∉ [m] := by
      intro e
      rw [List.mem_singleton.1 e] at hy
      obtain ⟨es, cl, hm, -⟩ := D.map m rfl
      rw [hm] at hy; cases hy
    have hy6 := x6.heap y2 hy4
    have y3 : y ∉ tabF w6 F := fun h => by have := (List.mem_filter.1 h).2; rw [isT_laid hy6] at this; cases this
    exact t3.heap y3 hy6
  have hown : ownN (E.map (·.1)) = ownN ((delE E ((A : Int), (N : Int))).map (·.1)) + moreN ((delE E ((A : Int), (N : Int))).map (·.1)) A (lvN N) := by
    rw [own_perm hpm]
    have := own_cons ((A : Int), (N : Int)) hvp ((delE E ((A : Int), (N : Int))).map (·.1))
    simpa using this
  refine ⟨T', ?_, ⟨(fun e => by cases e), fun e => ?_⟩, fun m' e => ?_, (fun e => by cases e), t1, fun j n h1 h2 => ?_, hpd, fun x hx => D.valid x (hsub x hx), ?_, ?_, fun x hx => keep _ _ (D.laid x (hsub x hx)), D.fdb, D.fmap, fun k n b' e => D.ftab k n b' (t6 k n b' e), fun x hx => D.flaid x (hsub x hx), fun x hx => ?_⟩
  · rw [t2]
    have e : ((ownN (E.map (·.1)) : Nat) : Int) - ((moreN ((delE E ((A : Int), (N : Int))).map (·.1)) A (lvN N) : Int) - (moreN ((delE E ((A : Int), (N : Int))).map (·.1)) A 0 : Int)) = ((ownN ((delE E ((A : Int), (N : Int))).map (·.1)) : Nat) : Int) := by
      rw [hown]; simp only [moreN]; omega
    rw [e]
    rfl
  · rw [t5 0 0 (Nat.le_refl _)] at e
    have := D.begun.2 e; cases this
  · cases e; exact m6.later t3 hmF
  · rw [t4 j n h1 h2]
    constructor
    · rintro (h | ⟨h, -⟩)
      · exact .inl h
      · omega
    · rintro (h | ⟨h, -⟩)
      · exact .inl h
      · omega
  · have := hpm.nodup_iff.1 D.keys
    exact (List.nodup_cons.1 this).2
  · have := ((perm_delE hl).map (·.2)).nodup_iff.1 D.blks
    exact (List.nodup_cons.1 this).2
  · have h1 := D.lt x hx
    have h2 := x4.size
    have h3 := x6.size
    have h4 := t3.size
    omega

theorem drop_all {w : World} {mb : Nat} {E : List (PX × Nat)} (h : MapAt w mb E) (p : PX) (b : Nat) (hn : lk E p = some b) :
    ∃ w', (∀ ty, (Builtin.delete_ #[97, 31] ty #[.map (some mb), keyV p]).run Tryz.prog w = .ok (.tuple #[]) w') ∧ MapAt w' mb (delE E p) ∧ ExtS [mb] w w' := by
  obtain ⟨es, clock, hb, he⟩ := h
  obtain ⟨j, h1, h2, h3⟩ := fa_some hn 0
  have hl : es.size = E.length := by have := congrArg List.length he; simpa using this
  have hjs : j < es.size := by omega
  have hsub : (es.eraseIdxIfInBounds j).toList = es.toList.eraseIdx j := by
    unfold Array.eraseIdxIfInBounds
    rw [dif_pos hjs]
    simp
  refine ⟨setB w mb (.map (es.eraseIdxIfInBounds j) clock), fun ty => ?_, ⟨_, _, setB_same hb, ?_⟩, setB_ext _ _ _⟩
  · rw [Nat.zero_add] at h2
    simp [Builtin.delete_, run_underlying Tryz.underlying97, MapKept.run_getObj_map hb, check_px, find_px p w _ E he, h2, MapKept.run_setObj_map _ hb, Result.andThen, setB]
  · rw [hsub, ← h3, map_erase, map_erase, he]

/-- Blocks of F may be written, but a cell of a Dir's stays. -/
def RD (F : List Nat) (db : Nat) (W w' : World) : Prop := ExtS F W w' ∧ w'.cell? ⟨db, 6, none⟩ = W.cell? ⟨db, 6, none⟩

theorem RD.refl (F : List Nat) (db : Nat) (W : World) : RD F db W W := ⟨ExtS.refl F W, rfl⟩

theorem RD.trans {F : List Nat} {db : Nat} {A B C : World} (h : RD F db A B) (k : RD F db B C) : RD F db A C := ⟨h.1.trans k.1, k.2.trans h.2⟩

/-- What Del leaves. -/
def DelAns (w : World) (F : List Nat) (db : Nat) (most : Int) (E : List (PX × Nat)) (V : PX → Int) (p : PX) (w' : World) : Prop := ∃ T' f' m, DirIn w' db most (delE E p) V T' f' (some m) F ∧ ExtS F w w'

section

variable {w : World} {db : Nat} {most : Int} {E : List (PX × Nat)} {V : PX → Int} {T f : Nat → Nat → Option Nat} {mb : Option Nat} {F : List Nat}

set_option maxHeartbeats 2000000 in
theorem del_yes (h : DirIn w db most E V T f mb F) (A N l : Nat) (hA : A < 4294967296) (hN : N ≤ 32) (hZ : A % 2 ^ (32 - N) = 0) (hl : lk E ((A : Int), (N : Int)) = some l) (hown : ownN (E.map (·.1)) ≤ 1000000) :
    Calls Tryz.prog 82 #[.pointer (some ⟨db, 0, none⟩), .agg #[.int .u32 A, .int .i64 N]] w fun e w' => e = .returned (.bool true) ∧ DelAns w F db most E V ((A : Int), (N : Int)) w' := by
  have hvp : Vp ((A : Int), (N : Int)) := ⟨A, N, rfl, hN, hA, hZ⟩
  have hmem := lk_mem hl
  obtain ⟨m, rfl⟩ : ∃ m, mb = some m := by
    cases mb with
    | none => rw [h.nomap rfl] at hmem; cases hmem
    | some m => exact ⟨m, rfl⟩
  have hlv := lvN_le N
  have hon : ∃ b, onT T A (lvN N) = some b := by
    cases hlv0 : lvN N with
    | zero =>
      have : onT T A 0 = T 0 0 := by unfold onT; rw [pl_zero A hA]
      rw [this]
      cases hh : T 0 0 with
      | none => have := h.begun.2 hh; cases this
      | some b => exact ⟨b, rfl⟩
    | succ j =>
      rw [on_next T A j (by omega)]
      have hd := (h.dom (j + 1) (plN j A) (by omega) (by omega)).2 (.inl (dom_iff.2 ⟨_, List.mem_map.2 ⟨_, hmem, rfl⟩, by
        have := (lvN_lt N j (by omega)).1 (by omega)
        show ((loN (j + 1) : Nat) : Int) ≤ (N : Int)
        omega, by simp [plN]⟩))
      exact Option.isSome_iff_exists.1 hd
  obtain ⟨b, hb⟩ := hon
  have hx0 : Ext w (w.alloc (.cells #[.int .u32 A, .int .i64 N] 31)) := (Ext.refl w).alloc _
  have hn := heap_new w (.cells #[.int .u32 A, .int .i64 N] 31)
  have hqS : ∀ w', ExtS F (w.alloc (.cells #[.int .u32 A, .int .i64 N] 31)) w' → w'.cell? ⟨w.heap.size, 0, none⟩ = some (.int .u32 A) ∧ w'.cell? ⟨w.heap.size, 1, none⟩ = some (.int .i64 N) := fun w' hx => by
    have hnF : w.heap.size ∉ F := fun hh => Nat.lt_irrefl _ (h.lt _ hh)
    exact ⟨by rw [heap_cell (hx.heap hnF hn)]; rfl, by rw [heap_cell (hx.heap hnF hn)]; rfl⟩
  have HQS : Hid _ := hqS
  have hbF : b ∈ F := h.ftab _ _ _ hb
  have hmF : m ∈ F := h.fmap m rfl
  have hbm : m ≠ b := by
    rintro rfl
    have := isT_tab h.tabs hb
    rw [isT_map (h.map m rfl)] at this; cases this
  have hdbb : db ≠ b := fun e => h.tabs.ne_dir h.obj hb e.symm
  have hdbm : db ≠ m := by
    rintro rfl
    obtain ⟨es, cl, hm, -⟩ := h.map db rfl
    have := h.obj
    rw [hm] at this; cases this
  have hlk : ∀ w', ExtS [b] w w' → (Instr.lookup 97 (.map (some m)) (.agg #[.int .u32 A, .int .i64 N]) false).run Tryz.prog w' = .ok (.pointer (some ⟨l, 0, none⟩)) w' := fun w' hx => by
    have := look_px ((h.map m rfl).later hx (by simpa using hbm)) ((A : Int), (N : Int))
    rw [hl] at this; exact this
  have hrd : ∀ w', ExtS [b] w w' → w'.cell? ⟨db, 2, none⟩ = some (.map (some m)) := fun w' hx => by rw [heap_cell (hx.heap (by simpa using hdbb) h.obj)]; rfl
  have HLK : Hid _ := hlk
  have HRD : Hid _ := hrd
  have HD : Hid (DirIn w db most E V T f (some m) F) := h
  have HL : Hid (lk E ((A : Int), (N : Int)) = some l) := hl
  have HZ : Hid (A % 2 ^ (32 - N) = 0) := hZ
  have HB : Hid (onT T A (lvN N) = some b) := hb
  have HOWN : Hid _ := hown
  clear hqS hn hlk hrd h hl hZ hb hown hmem
  generalize hW0 : (w.alloc (.cells #[.int .u32 A, .int .i64 N] 31)) = W0 at *
  go_enter Tryz.func82, Tryz.ntmps82
  go_wp2_with fail
  have hx1 : Ext W0 W0.drew := (Ext.refl W0).drew
  refine wp_region_eagerS [b] [(0, false), (1, false), (2, false), (3, false), (4, false), (5, false), (6, false), (7, false), (8, false), (9, false), (10, false)] (by kernel_rfl) (by kernel_rfl) rfl (by kernel_rfl) (fun _ _ _ _ _ h => h) ?_
  generalize W0.drew = W1 at *
  have hbx : ∀ {W W' : World}, ExtS F W0 W → ExtS [b] W W' → ExtS F W0 W' := fun h1 h2 => h1.then h2 (fun y hy => by rw [List.mem_singleton.1 hy]; exact .inl hbF)
  have g0 : ∀ w', ExtS [b] W1 w' → w'.cell? ⟨w.heap.size, 0, none⟩ = some (.int .u32 A) := fun w' h => (HQS.out _ (hbx (hx1.toS F) h)).1
  have g1 : ∀ w', ExtS [b] W1 w' → w'.cell? ⟨w.heap.size, 1, none⟩ = some (.int .i64 N) := fun w' h => (HQS.out _ (hbx (hx1.toS F) h)).2
  have g2 : ∀ w', ExtS [b] W1 w' → w'.cell? ⟨db, 2, none⟩ = some (.map (some m)) := fun w' h => HRD.out _ (((hx0.trans hx1).toS [b]).trans h)
  have g3 : ∀ w', ExtS [b] W1 w' → (Instr.lookup 97 (.map (some m)) (.agg #[.int .u32 A, .int .i64 N]) false).run Tryz.prog w' = .ok (.pointer (some ⟨l, 0, none⟩)) w' := fun w' h => HLK.out _ (((hx0.trans hx1).toS [b]).trans h)
  iterate 11 (refine wpE_read (v := ?_) rfl (by rfl) ?_ ?_; rotate_left; (focus (intro w' hx; go_simp; first | done | with_reducible rfl)); simp only [Act.put, List.setIfInBounds_toArray, List.set_cons_zero, List.set_cons_succ])
  refine wpE_done ?_
  clear g0 g1 g2 g3
  go_wp2_with fail
  have hx2 := hx1.drew
  refine wp_region_eagerS [b] [(0, false), (1, false), (3, false), (4, false), (5, false), (6, false), (7, false), (8, false), (9, false), (10, false), (2, true), (11, true), (12, true)] (by kernel_rfl) (by kernel_rfl) rfl (by kernel_rfl) (fun _ _ _ _ _ h => h) ?_
  generalize W1.drew = W2 at *
  have g0 : ∀ w', ExtS [b] W2 w' → w'.cell? ⟨w.heap.size, 0, none⟩ = some (.int .u32 A) := fun w' h => (HQS.out _ (hbx (hx2.toS F) h)).1
  have g1 : ∀ w', ExtS [b] W2 w' → w'.cell? ⟨w.heap.size, 1, none⟩ = some (.int .i64 N) := fun w' h => (HQS.out _ (hbx (hx2.toS F) h)).2
  have g2 : ∀ w', ExtS [b] W2 w' → w'.cell? ⟨db, 2, none⟩ = some (.map (some m)) := fun w' h => HRD.out _ (((hx0.trans hx2).toS [b]).trans h)
  have g3 : ∀ w', ExtS [b] W2 w' → (Instr.lookup 97 (.map (some m)) (.agg #[.int .u32 A, .int .i64 N]) false).run Tryz.prog w' = .ok (.pointer (some ⟨l, 0, none⟩)) w' := fun w' h => HLK.out _ (((hx0.trans hx2).toS [b]).trans h)
  iterate 10 (refine wpE_read (v := ?_) rfl (by rfl) ?_ ?_; rotate_left; (focus (intro w' hx; go_simp; first | done | with_reducible rfl)); simp only [Act.put, List.setIfInBounds_toArray, List.set_cons_zero, List.set_cons_succ])
  clear g0 g1 g2 g3
  have D2 := HD.out.ext (hx0.trans hx2)
  have cp := places_any db A N T f W2 D2.tabs (by rw [heap_cell D2.obj]; rfl) hA hN HZ.out b HB.out
  generalize hoff : plN (lvN N) A % szN (lvN N) * 2 = off at *
  refine wpE_call rfl (by rfl) (fun K hK => ?_); go_simp; first | (go_at_call 104; refine cp.mono ?_; rintro e w3 ⟨⟨cap, rfl⟩, hx3⟩; refine hK _ _ (hx3.toS [b]) ?_; clear hK K)
  clear cp
  have D3 := D2.ext hx3
  have cu := under_any db m A N E w3 (D3.map m rfl) (by rw [heap_cell D3.obj]; rfl) hA hN D3.valid
  refine wpE_call rfl (by rfl) (fun K hK => ?_); go_simp; first | (go_at_call 105; refine cu.mono ?_; rintro e w4 ⟨⟨u, rfl, hu⟩, hx4⟩; refine hK _ _ (hx4.toS [b]) ?_; clear hK K)
  clear cu
  have D4 := D3.ext hx4
  have hmem := lk_mem HL.out
  have hnb : ∀ (y : Nat) (cs : Array Value), w4.heap[y]? = some (.cells cs 130 (0, 0)) → y ≠ b := fun y cs hy e => by
    have h1 := isT_tab D4.tabs HB.out
    rw [← e, isT_laid hy] at h1; cases h1
  have cun := uncover_any b (szN (lvN N)) (plN (lvN N) A % szN (lvN N)) (cntN N) cap l u (tyN (lvN N)) (fun i => f (lvN N) (plN (lvN N) A / szN (lvN N) * szN (lvN N) + i)) (fun i => T (lvN N + 1) (plN (lvN N) A / szN (lvN N) * szN (lvN N) + i)) w4
    (D4.tabs.tab _ _ _ HB.out) (cnt_ok A N hN HZ.out) (sz_le _) (hnb _ _ (D4.laid _ hmem)) (D4.laid _ hmem) (fun i b' hi e => by
      have hbs := D4.paint (lvN N) _ hlv (tab_lt (lvN N) A i hlv hA hi)
      rw [e] at hbs
      obtain ⟨q, k1, -⟩ := hbs
      exact ⟨hnb _ _ (D4.laid _ k1), _, _, D4.laid _ k1⟩)
  rw [hoff] at cun
  refine wpE_call rfl (by rfl) (fun K hK => ?_); go_simp; first | (go_at_call 103; refine cun.mono ?_; rintro e w5 ⟨rfl, t5, x5⟩; refine hK _ _ x5 ?_; clear hK K)
  clear cun
  refine wpE_done ?_
  have HT5 : Hid _ := t5
  have HU : Hid _ := hu
  clear t5 hu
  go_wp2_with fail
  have x45 : ExtS [b] w4 w5.drew := x5.drew
  have X5 : ExtS F W0 w5.drew := hbx ((((hx2.trans hx3).trans hx4).toS F)) x45
  obtain ⟨w7, hdr, m7, x7⟩ := drop_all (w := w5.drew) (((D4.map m rfl).later x45 (by simpa using hbm))) ((A : Int), (N : Int)) l HL.out
  have obj5 : w5.drew.heap[db]? = _ := x45.heap (by simpa using hdbb) D4.obj
  simp only [keyV] at hdr
  refine wp_region_eagerS [m] [(0, false), (1, false), (2, false), (3, false), (4, false), (5, true)] (by kernel_rfl) (by kernel_rfl) rfl (by kernel_rfl) (fun _ _ _ _ _ h => h) ?_
  have HT5' : Hid (TabAt w5.drew b (szN (lvN N)) (tyN (lvN N)) (uncB (fun i => f (lvN N) (plN (lvN N) A / szN (lvN N) * szN (lvN N) + i)) (plN (lvN N) A % szN (lvN N)) (cntN N) l u) (fun i => T (lvN N + 1) (plN (lvN N) A / szN (lvN N) * szN (lvN N) + i))) := HT5.out
  clear HT5 x5
  generalize w5.drew = W6 at *
  have hmx : ∀ {W W' : World}, ExtS F W0 W → ExtS [m] W W' → ExtS F W0 W' := fun h1 h2 => h1.then h2 (fun y hy => by rw [List.mem_singleton.1 hy]; exact .inl hmF)
  have g0 : ∀ w', ExtS [m] W6 w' → w'.cell? ⟨w.heap.size, 0, none⟩ = some (.int .u32 A) := fun w' h => (HQS.out _ (hmx X5 h)).1
  have g1 : ∀ w', ExtS [m] W6 w' → w'.cell? ⟨w.heap.size, 1, none⟩ = some (.int .i64 N) := fun w' h => (HQS.out _ (hmx X5 h)).2
  have g2 : ∀ w', ExtS [m] W6 w' → w'.cell? ⟨db, 2, none⟩ = some (.map (some m)) := fun w' h => by rw [heap_cell (h.heap (by simpa using hdbm) obj5)]; rfl
  have HM7 : Hid _ := m7
  have HX7 : Hid _ := x7
  have HD4 : Hid _ := D4
  clear m7 D4 D3 D2
  iterate 5 (refine wpE_read (v := ?_) rfl (by rfl) ?_ ?_; rotate_left; (focus (intro w' hx; go_simp; first | done | with_reducible rfl)); simp only [Act.put, List.setIfInBounds_toArray, List.set_cons_zero, List.set_cons_succ])
  refine wpE_call rfl (by rfl) (fun K hK => ?_); go_simp; first | (refine hK _ _ HX7.out ?_; clear hK K)
  refine wpE_done ?_
  clear g0 g1 g2 hdr x7
  go_wp2_with fail
  have x67 : ExtS [m] W6 w7.drew := HX7.out.drew
  have X8 : ExtS F W0 w7.drew := hmx X5 x67
  have m8 : MapAt w7.drew m (delE E ((A : Int), (N : Int))) := HM7.out
  have obj8 := x67.heap (by simpa using hdbm) obj5
  have hpd := paint_del HD4.out.paint HD4.out.valid HD4.out.keys HD4.out.blks hA hN HZ.out hmem HU.out
  have tabs6 : Tabs W6 T (uncF f (lvN N) (plN (lvN N) A) (cntN N) l u) := by
    refine HD4.out.tabs.paint HB.out x45 (fun k n b' _ hne => by simpa using hne) (HT5'.out.congr (fun i hi => ?_) (fun i hi => rfl)) (fun k' m' hne => ?_)
    · have hs := pl_split (lvN N) A
      simp only [uncF, uncB]
      have hr : (plN (lvN N) A % szN (lvN N) ≤ i ∧ i < plN (lvN N) A % szN (lvN N) + cntN N) ↔ (plN (lvN N) A ≤ plN (lvN N) A / szN (lvN N) * szN (lvN N) + i ∧ plN (lvN N) A / szN (lvN N) * szN (lvN N) + i < plN (lvN N) A + cntN N) := by omega
      by_cases c : f (lvN N) (plN (lvN N) A / szN (lvN N) * szN (lvN N) + i) = some l
      · by_cases r : plN (lvN N) A % szN (lvN N) ≤ i ∧ i < plN (lvN N) A % szN (lvN N) + cntN N
        · rw [if_pos ⟨trivial, (hr.1 r).1, (hr.1 r).2, c⟩, if_pos ⟨r.1, r.2, c⟩]
        · rw [if_neg (fun h => r (hr.2 ⟨h.2.1, h.2.2.1⟩)), if_neg (fun h => r ⟨h.1, h.2.1⟩)]
      · rw [if_neg (fun h => c h.2.2.2), if_neg (fun h => c h.2.2)]
    · simp only [uncF]
      rw [if_neg ?_]
      rintro ⟨rfl, h1, h2, -⟩
      apply hne
      refine ⟨rfl, ?_⟩
      have hok := cnt_ok A N hN HZ.out
      have hs := pl_split (lvN N) A
      have : m' = plN (lvN N) A / szN (lvN N) * szN (lvN N) + (m' - plN (lvN N) A / szN (lvN N) * szN (lvN N)) := by omega
      rw [this]
      exact mul_add_div (by omega)
  have tabs8 : Tabs w7.drew T (uncF f (lvN N) (plN (lvN N) A) (cntN N) l u) := tabs6.later x67 (fun k n b' e hh => by
    have h1 := isT_tab HD4.out.tabs e
    rw [List.mem_singleton.1 hh, isT_map (HD4.out.map m rfl)] at h1; cases h1)
  have z0 : onT T A 0 = T 0 0 := by unfold onT; rw [pl_zero A hA]
  have hT0 : T 0 0 ≠ none := fun e => by have := HD4.out.begun.2 e; cases this
  have hlt8 : ∀ x ∈ tabF w7.drew F, x < w7.drew.heap.size := fun x hx => Nat.lt_of_lt_of_le (HD4.out.lt x (List.mem_filter.1 hx).1) (Nat.le_trans x45.size x67.size)
  have cd := disown_any db A N (.int .i64 most) (.map (some m)) (.int .u32 1) (.int .i32 0) (.int .u32 0) (delE E ((A : Int), (N : Int))) (uncF f (lvN N) (plN (lvN N) A) (cntN N) l u) hpd (fun x hx => HD4.out.valid x ((mem_delE HD4.out.keys).1 hx).1) hA hN (ownN (E.map (·.1)) : Nat) T (tabF w7.drew F) (lvN N) 0 w7.drew (by omega) tabs8 obj8
    (List.mem_filter.2 ⟨HD4.out.fdb, isT_dir obj8⟩) (fun k n b' e => List.mem_filter.2 ⟨HD4.out.ftab k n b' e, isT_tab tabs8 e⟩) hlt8 (dis_pre HD4.out.dom (perm_map_delE HL.out)) (by rw [z0]; exact hT0) (Int.natCast_nonneg _) (by have := HOWN.out; omega)
  rw [z0, show ((beN 0 : Nat) : Int) = 16 from rfl] at cd
  have c6 : w7.drew.cell? ⟨db, 6, none⟩ = some (tbV 0 (T 0 0)) := by rw [heap_cell obj8]; rfl
  refine wp_region_eagerR (RD (tabF w7.drew F) db) (RD.refl _ _) (fun _ _ _ h k => h.trans k) [(0, false), (1, false), (2, false), (3, false), (4, false), (5, false), (6, true)] (by kernel_rfl) (by kernel_rfl) rfl (by kernel_rfl) (fun _ _ _ _ _ h => h) ?_
  have hend : ∀ w9, DisAns db A (lvN N) 0 (ownN (E.map (·.1)) : Nat) (.int .i64 most) (.map (some m)) (.int .u32 1) (.int .i32 0) (.int .u32 0) ((delE E ((A : Int), (N : Int))).map (·.1)) T (uncF f (lvN N) (plN (lvN N) A) (cntN N) l u) (tabF w7.drew F) w7.drew w9 → DelAns w F db most E V ((A : Int), (N : Int)) w9 := fun w9 ha => by
    obtain ⟨T', dd⟩ := del_done HD4.out HL.out hA hN HZ.out HB.out x45 m8 x67 hpd ha
    obtain ⟨_, _, _, ex, _⟩ := ha
    exact ⟨T', _, m, dd, (hx0.toS F).trans (X8.then ex (fun y hy => .inl (List.mem_filter.1 hy).1))⟩
  have hcell : ∀ w9, DisAns db A (lvN N) 0 (ownN (E.map (·.1)) : Nat) (.int .i64 most) (.map (some m)) (.int .u32 1) (.int .i32 0) (.int .u32 0) ((delE E ((A : Int), (N : Int))).map (·.1)) T (uncF f (lvN N) (plN (lvN N) A) (cntN N) l u) (tabF w7.drew F) w7.drew w9 → RD (tabF w7.drew F) db w7.drew w9 := fun w9 ha => by
    obtain ⟨T', _, o9, ex, _, t5, _⟩ := ha
    refine ⟨ex, ?_⟩
    rw [c6, heap_cell o9, t5 0 0 (Nat.le_refl _)]; rfl
  have hFx : ∀ w', RD (tabF w7.drew F) db w7.drew w' → ExtS F W0 w' := fun w' h => X8.then h.1 (fun y hy => .inl (List.mem_filter.1 hy).1)
  generalize tabF w7.drew F = F8 at *
  have g0 : ∀ w', RD F8 db w7.drew w' → w'.cell? ⟨w.heap.size, 0, none⟩ = some (.int .u32 A) := fun w' h => (HQS.out _ (hFx w' h)).1
  have g1 : ∀ w', RD F8 db w7.drew w' → w'.cell? ⟨w.heap.size, 1, none⟩ = some (.int .i64 N) := fun w' h => (HQS.out _ (hFx w' h)).2
  have g2 : ∀ w', RD F8 db w7.drew w' → w'.cell? ⟨db, 6, none⟩ = some (tbV 0 (T 0 0)) := fun w' h => h.2.trans c6
  generalize tbV 0 (T 0 0) = v0 at *
  generalize uncF f (lvN N) (plN (lvN N) A) (cntN N) l u = f' at *
  clear tabs8 tabs6 m8 obj8 x67 X8 hlt8 c6 hpd
  generalize w7.drew = W8 at *
  iterate 6 (refine wpE_read (v := ?_) rfl (by rfl) ?_ ?_; rotate_left; (focus (intro w' hx; go_simp; first | done | with_reducible rfl)); simp only [Act.put, List.setIfInBounds_toArray, List.set_cons_zero, List.set_cons_succ])
  refine wpE_call rfl (by rfl) (fun K hK => ?_); go_simp; first | (go_at_call 106; refine cd.mono ?_; rintro e w9 ⟨rfl, ha⟩; have HA : Hid _ := hend w9 ha; refine hK _ _ (hcell w9 ha) ?_; clear hK K ha)
  refine wpE_done ?_
  clear g0 g1 g2
  go_wp2_with fail
  go_ret
  exact ⟨rfl, HA.out⟩

end
end Go.Proofs.YtmoimkeeldlpkaaGreat.Dr

namespace Go.Proofs.YtmoimkeeldlpkaaGreat.Dr

set_option maxRecDepth 100000

open Go.RowKit Go.Proofs.YtmoimkeeldlpkaaGreat Go.Proofs.YtmoimkeeldlpkaaGreat.Tri

set_option linter.unusedVariables false

def keysL (L : Row) : List PX := L.map (·.1)

/-- A Dir of the row L, with so many blocks at most, in the blocks F. -/
def DirAt (w : World) (db : Nat) (most : Int) (L : Row) (F : List Nat) : Prop := ∃ E V T f mb, DirIn w db most E V T f mb F ∧ Srt L ∧ (E.map (·.1)).Perm (keysL L) ∧ (∀ x ∈ L, V x.1 = x.2) ∧ ((ownN (keysL L) : Nat) : Int) ≤ most

theorem DirAt.later {w w' : World} {db : Nat} {most : Int} {L : Row} {F G : List Nat} (h : DirAt w db most L F) (hx : ExtS G w w') (hd : ∀ x ∈ F, x ∉ G) : DirAt w' db most L F := by
  obtain ⟨E, V, T, f, mb, h1, h2⟩ := h
  exact ⟨E, V, T, f, mb, h1.later hx hd, h2⟩

theorem DirAt.ext {w w' : World} {db : Nat} {most : Int} {L : Row} {F : List Nat} (h : DirAt w db most L F) (hx : Ext w w') : DirAt w' db most L F := h.later (hx.toS []) (by simp)

theorem DirAt.lt {w : World} {db : Nat} {most : Int} {L : Row} {F : List Nat} (h : DirAt w db most L F) : ∀ x ∈ F, x < w.heap.size := by
  obtain ⟨E, V, T, f, mb, h1, h2⟩ := h
  exact h1.lt

theorem DirAt.srt {w : World} {db : Nat} {most : Int} {L : Row} {F : List Nat} (h : DirAt w db most L F) : Srt L := by
  obtain ⟨E, V, T, f, mb, h1, h2, -⟩ := h
  exact h2

theorem DirAt.valid {w : World} {db : Nat} {most : Int} {L : Row} {F : List Nat} (h : DirAt w db most L F) : ∀ x ∈ L, Vp x.1 := by
  obtain ⟨E, V, T, f, mb, h1, h2, h3, -⟩ := h
  intro x hx
  obtain ⟨y, hy, e⟩ := List.mem_map.1 (h3.mem_iff.2 (List.mem_map.2 ⟨x, hx, rfl⟩))
  rw [← e]; exact h1.valid y hy

theorem DirAt.room {w : World} {db : Nat} {most : Int} {L : Row} {F : List Nat} (h : DirAt w db most L F) : ((ownN (keysL L) : Nat) : Int) ≤ most := by
  obtain ⟨E, V, T, f, mb, h1, h2, h3, h4, h5⟩ := h
  exact h5

theorem lk_found {E : List (PX × Nat)} {L : Row} (hs : Srt L) (hp : (E.map (·.1)).Perm (keysL L)) (p : PX) : (lk E p).isSome = foundB L p := by
  cases hl : lk E p with
  | none =>
    cases hf : foundB L p with
    | false => rfl
    | true =>
      obtain ⟨u, hu⟩ := (found_mem hs).1 hf
      obtain ⟨y, hy, e⟩ := List.mem_map.1 (hp.mem_iff.2 (List.mem_map.2 ⟨_, hu, rfl⟩))
      exact absurd e (lk_none hl y hy)
  | some b =>
    have h1 := lk_mem hl
    obtain ⟨x, hx, e⟩ := List.mem_map.1 (hp.mem_iff.1 (List.mem_map.2 ⟨_, h1, rfl⟩))
    have : foundB L p = true := (found_mem hs).2 ⟨x.2, by simp only at e; rw [← e]; exact hx⟩
    rw [this]; rfl

theorem own_le (K : List PX) : ownN K ≤ 2 * K.length := by
  have key : ∀ l : List Nat, cntD l ≤ l.length := by
    intro l; induction l with
    | nil => exact Nat.le_refl _
    | cons x l ih => simp only [cntD, List.length_cons]; split <;> omega
  have h1 := key (hv 1 K)
  have h2 := key (hv 2 K)
  have l1 : (hv 1 K).length ≤ K.length := by unfold hv; rw [List.length_map]; exact List.length_filter_le _ _
  have l2 : (hv 2 K).length ≤ K.length := by unfold hv; rw [List.length_map]; exact List.length_filter_le _ _
  unfold ownN
  omega

theorem keys_set_new {L : Row} {p : PX} (v : Int) (h : foundB L p = false) : (keysL (setL L p v)).Perm (p :: keysL L) := by
  rw [setL_new v h]
  unfold keysL
  rw [List.map_append, List.map_cons]
  refine List.perm_middle.trans ?_
  rw [← List.map_append, List.take_append_drop]

theorem keys_set_found {L : Row} {p : PX} (v : Int) (h : foundB L p = true) : keysL (setL L p v) = keysL L := by
  rw [setL_found v h]
  obtain ⟨u, hu⟩ := foundB_iff.1 h
  unfold keysL
  rw [List.map_set]
  have hk := (List.getElem?_eq_some_iff.1 hu).1
  have hg := (List.getElem?_eq_some_iff.1 hu).2
  apply List.ext_getElem
  · simp
  · intro i h1 h2
    rw [List.getElem_set]
    split
    · rename_i e
      subst e
      rw [List.getElem_map, hg]
    · rfl

theorem keys_del_found {L : Row} (hs : Srt L) {p : PX} (h : foundB L p = true) : (keysL L).Perm (p :: keysL (delL L p)) := by
  rw [del_found hs h]
  obtain ⟨u, hu⟩ := foundB_iff.1 h
  have hg := (List.getElem?_eq_some_iff.1 hu).2
  have hk := (List.getElem?_eq_some_iff.1 hu).1
  have e : L = L.take (placeN L p) ++ (p, u) :: L.drop (placeN L p + 1) := by
    rw [← hg, List.getElem_cons_drop]; exact (List.take_append_drop _ L).symm
  have : keysL L = keysL (L.take (placeN L p)) ++ p :: keysL (L.drop (placeN L p + 1)) := by
    conv => lhs; rw [e]
    simp [keysL]
  rw [this]
  unfold keysL
  rw [List.map_append]
  exact List.perm_middle

/-- What Set answers, and what is there behind it. -/
def setR (most : Int) (L : Row) (p : PX) (v : Int) : Int × Row := if isV p.1 p.2 = false ∨ v < 0 then (1, L) else if most < ((ownN (keysL (setL L p v)) : Nat) : Int) then (6, L) else (0, setL L p v)

/-- A Dir, and what may have been written for it. -/
def DirAns (w : World) (F : List Nat) (db : Nat) (most : Int) (L : Row) (w' : World) : Prop := ∃ F', DirAt w' db most L F' ∧ ExtS F w w' ∧ ∀ x ∈ F', x ∈ F ∨ w.heap.size ≤ x

theorem ans_ext {w w' : World} {db : Nat} {most : Int} {L : Row} {F : List Nat} (h : DirAt w db most L F) (hx : Ext w w') : DirAns w F db most L w' := ⟨F, h.ext hx, hx.toS F, fun x hx => .inl hx⟩

theorem set_at {w : World} {db : Nat} {most : Int} {L : Row} {F : List Nat} (h : DirAt w db most L F) (hlen : L.length ≤ 100000) (a n v : Int) (a0 : 0 ≤ a) (a1 : a ≤ 4294967295) :
    Calls Tryz.prog 84 #[.pointer (some ⟨db, 0, none⟩), .agg #[.int .u32 a, .int .i64 n], .int .i64 v] w fun e w' => e = .returned (.int .i64 (setR most L (a, n) v).1) ∧ DirAns w F db most (setR most L (a, n) v).2 w' := by
  have hAt := h
  obtain ⟨E, V, T, f, mb, h1, hs, hp, hV, hroom⟩ := h
  by_cases hbad : isV a n = false ∨ v < 0
  · have e : setR most L (a, n) v = (1, L) := by unfold setR; rw [if_pos hbad]
    rw [e]
    refine (set_arg db a n v w a0 a1 hbad).mono ?_
    rintro e w' ⟨rfl, hx⟩
    exact ⟨rfl, ans_ext hAt hx⟩
  · have hv : isV a n = true := by
      cases hh : isV a n with
      | true => rfl
      | false => exact absurd (.inl hh) hbad
    have hv0 : 0 ≤ v := by
      rcases Int.lt_or_le v 0 with hh | hh
      · exact absurd (.inr hh) hbad
      · exact hh
    have hvp := vp_of a0 a1 hv
    obtain ⟨A, N, e, hN, hA, hZ⟩ := hvp
    simp only [Prod.mk.injEq] at e
    obtain ⟨rfl, rfl⟩ := e
    have hfd := lk_found hs hp ((A : Int), (N : Int))
    have hK : ownN (E.map (·.1)) = ownN (keysL L) := own_perm hp
    have hol := own_le (keysL L)
    have hkl : (keysL L).length = L.length := by simp [keysL]
    cases hl : lk E ((A : Int), (N : Int)) with
    | some b =>
      rw [hl] at hfd
      have hf : foundB L ((A : Int), (N : Int)) = true := hfd.symm
      have hk := keys_set_found v hf
      have e : setR most L ((A : Int), (N : Int)) v = (0, setL L ((A : Int), (N : Int)) v) := by unfold setR; rw [if_neg hbad, hk, if_neg (by omega)]
      rw [e]
      refine (set_here h1 (A : Int) (N : Int) v ⟨A, N, rfl, hN, hA, hZ⟩ hv0 b hl).mono ?_
      rintro e w' ⟨rfl, d, x⟩
      refine ⟨rfl, F, ⟨E, _, T, f, mb, d, set_srt hs _ _, by rw [hk]; exact hp, fun y hy => ?_, by rw [hk]; exact hroom⟩, x, fun x hx => .inl hx⟩
      rcases (set_mem hs _ v y).1 hy with rfl | ⟨h3, h4⟩
      · simp
      · simp only [if_neg h4]; exact hV y h3
    | none =>
      rw [hl] at hfd
      have hf : foundB L ((A : Int), (N : Int)) = false := hfd.symm
      have hk := keys_set_new v hf
      have hown : ownN (keysL (setL L ((A : Int), (N : Int)) v)) = ownN (E.map (·.1)) + moreN (E.map (·.1)) A (lvN N) := by
        rw [own_perm hk, own_perm ((hp.symm).cons ((A : Int), (N : Int)))]
        have := own_cons ((A : Int), (N : Int)) ⟨A, N, rfl, hN, hA, hZ⟩ (E.map (·.1))
        simpa using this
      by_cases hfull : most < ((ownN (keysL (setL L ((A : Int), (N : Int)) v)) : Nat) : Int)
      · have e : setR most L ((A : Int), (N : Int)) v = (6, L) := by unfold setR; rw [if_neg hbad, if_pos hfull]
        rw [e]
        refine (set_full h1 A N v hA hN hZ hv0 hl (by omega) (by rw [← hown]; exact hfull)).mono ?_
        rintro e w' ⟨rfl, hx⟩
        exact ⟨rfl, ans_ext hAt hx⟩
      · have e : setR most L ((A : Int), (N : Int)) v = (0, setL L ((A : Int), (N : Int)) v) := by unfold setR; rw [if_neg hbad, if_neg hfull]
        rw [e]
        refine (set_new h1 A N v hA hN hZ hv0 hl (by omega) (by rw [← hown]; omega)).mono ?_
        rintro e w' ⟨rfl, m, nl, T', f', F', d, x, hF⟩
        refine ⟨rfl, F', ⟨_, _, T', f', some m, d, set_srt hs _ _, ?_, fun y hy => ?_, Int.not_lt.1 hfull⟩, x, hF⟩
        · rw [List.map_append]
          exact (List.perm_append_singleton _ _).trans ((hp.cons _).trans hk.symm)
        · rcases (set_mem hs _ v y).1 hy with rfl | ⟨h3, h4⟩
          · simp [setV]
          · simp only [setV, if_neg h4]; exact hV y h3

theorem del_at {w : World} {db : Nat} {most : Int} {L : Row} {F : List Nat} (h : DirAt w db most L F) (hlen : L.length ≤ 100000) (a n : Int) (a0 : 0 ≤ a) (a1 : a ≤ 4294967295) :
    Calls Tryz.prog 82 #[.pointer (some ⟨db, 0, none⟩), .agg #[.int .u32 a, .int .i64 n]] w fun e w' => e = .returned (.bool (foundB L (a, n))) ∧ DirAns w F db most (delL L (a, n)) w' := by
  have hAt := h
  obtain ⟨E, V, T, f, mb, h1, hs, hp, hV, hroom⟩ := h
  have hfd := lk_found hs hp (a, n)
  cases hl : lk E (a, n) with
  | none =>
    rw [hl] at hfd
    have hf : foundB L (a, n) = false := hfd.symm
    rw [hf, del_not hs hf]
    refine (del_no h1 a n hl).mono ?_
    rintro e w' ⟨rfl, hx⟩
    exact ⟨rfl, ans_ext hAt hx⟩
  | some l =>
    rw [hl] at hfd
    have hf : foundB L (a, n) = true := hfd.symm
    have hvp := h1.valid _ (lk_mem hl)
    obtain ⟨A, N, e, hN, hA, hZ⟩ := hvp
    simp only [Prod.mk.injEq] at e
    obtain ⟨rfl, rfl⟩ := e
    have hK : ownN (E.map (·.1)) = ownN (keysL L) := own_perm hp
    have hol := own_le (keysL L)
    have hkl : (keysL L).length = L.length := by simp [keysL]
    have hk := keys_del_found hs hf
    rw [hf]
    refine (del_yes h1 A N l hA hN hZ hl (by omega)).mono ?_
    rintro e w' ⟨rfl, T', f', m, d, x⟩
    have hown : ownN (keysL (delL L ((A : Int), (N : Int)))) ≤ ownN (keysL L) := by
      rw [own_perm hk, own_cons _ ⟨A, N, rfl, hN, hA, hZ⟩]; omega
    refine ⟨rfl, F, ⟨_, V, T', f', some m, d, del_srt hs _, ?_, fun y hy => hV y (del_mem.1 hy).1, by omega⟩, x, fun x hx => .inl hx⟩
    have h2 := (perm_map_delE hl).symm.trans (hp.trans hk)
    exact h2.cons_inv

theorem blocks_at {w : World} {db : Nat} {most : Int} {L : Row} {F : List Nat} (h : DirAt w db most L F) : Calls Tryz.prog 51 #[.pointer (some ⟨db, 0, none⟩)] w fun e w' => e = .returned (.int .i64 (ownN (keysL L) : Nat)) ∧ w' = w := by
  obtain ⟨E, V, T, f, mb, h1, hs, hp, hV, hroom⟩ := h
  rw [← own_perm hp]
  exact blocks_any h1

theorem new_at (n : Int) (w : World) : Calls Tryz.prog 33 #[.int .i64 n] w fun e w' => e = .returned (.pointer (some ⟨w.heap.size, 0, none⟩)) ∧ Ext w w' ∧ DirAt w' w.heap.size (maxV n) [] [w.heap.size] := by
  refine (new_any n w).mono ?_
  rintro e w' ⟨rfl, hx, d⟩
  refine ⟨rfl, hx, _, _, _, _, _, d, List.Pairwise.nil, List.Perm.refl _, by simp, ?_⟩
  show (0 : Int) ≤ maxV n
  unfold maxV; split <;> omega

/-- What Look tells of what was found. -/
def numO (o : Option (PX × Int)) : Value := match o with
  | none => .tuple #[.int .i64 0, .bool false]
  | some x => .tuple #[.int .i64 x.2, .bool true]

theorem vp_32 {A : Nat} (hA : A < 4294967296) : Vp ((A : Int), 32) := ⟨A, 32, rfl, Nat.le_refl _, hA, by simp [Nat.mod_one]⟩

theorem last_is {L : Row} (hs : Srt L) (hv : ∀ x ∈ L, Vp x.1) {A : Nat} (hA : A < 4294967296) {p : PX} {u : Int} (hm : (p, u) ∈ L) (hc : cov p ((A : Int), 32) = true) (hmax : ∀ x ∈ L, cov x.1 ((A : Int), 32) = true → x.1.2 ≤ p.2) : lastF none (covL L ((A : Int), 32)) = some (p, u) := by
  have hv32 := vp_32 hA
  have hcl : covL L ((A : Int), 32) = L.filter fun x => cov x.1 ((A : Int), 32) := by
    unfold covL; rw [if_pos hv32.is]
  have hpc : (p, u) ∈ covL L ((A : Int), 32) := by rw [hcl]; exact List.mem_filter.2 ⟨hm, hc⟩
  cases hl : lastF none (covL L ((A : Int), 32)) with
  | none => rw [lastF_none hl] at hpc; cases hpc
  | some x =>
    obtain ⟨B, hB⟩ := lastF_split hl (fun e => by rw [e] at hpc; cases hpc)
    have hsc : Srt (covL L ((A : Int), 32)) := by rw [hcl]; exact List.Pairwise.filter _ hs
    have hxc : x ∈ covL L ((A : Int), 32) := by rw [hB]; simp
    rw [hcl] at hxc
    obtain ⟨hxL, hxp⟩ := List.mem_filter.1 hxc
    rw [hB] at hpc hsc
    rcases List.mem_append.1 hpc with h | h
    · exfalso
      have hb := (List.pairwise_append.1 hsc).2.2 _ h x (by simp)
      simp only at hb
      have hle := hmax x hxL hxp
      have hcov := cov_two (hv x hxL) (hv _ hm) hv32 hxp hc hle
      by_cases e : x.1 = p
      · rw [e, bef_irr] at hb; cases hb
      · have := bef_trans hb (cov_bef (hv x hxL) (hv _ hm) hcov e)
        rw [bef_irr] at this; cases this
    · rw [List.mem_singleton.1 h]

theorem look_at {w : World} {db : Nat} {most : Int} {L : Row} {F : List Nat} (h : DirAt w db most L F) (a : Int) (a0 : 0 ≤ a) (a1 : a ≤ 4294967295) :
    Calls Tryz.prog 43 #[.pointer (some ⟨db, 0, none⟩), .int .u32 a] w fun e w' => e = .returned (numO (lastF none (covL L (a, 32)))) ∧ w' = w := by
  have hval := h.valid
  obtain ⟨E, V, T, f, mb, h1, hs, hp, hV, hroom⟩ := h
  obtain ⟨A, rfl⟩ : ∃ A : Nat, a = (A : Int) := ⟨a.toNat, by omega⟩
  have hA : A < 4294967296 := by omega
  refine (look_in h1 hA).mono ?_
  rintro e w' ⟨⟨o, hb, rfl⟩, rfl⟩
  refine ⟨?_, rfl⟩
  have toE : ∀ x ∈ L, ∃ b, (x.1, b) ∈ E := fun x hx => by
    obtain ⟨y, hy, e⟩ := List.mem_map.1 (hp.mem_iff.2 (List.mem_map.2 ⟨x, hx, rfl⟩))
    exact ⟨y.2, by rw [← e]; exact hy⟩
  cases o with
  | none =>
    have : covL L ((A : Int), 32) = [] := by
      unfold covL; rw [if_pos (vp_32 hA).is]
      refine List.filter_eq_nil_iff.2 fun x hx hc => ?_
      obtain ⟨b, hbE⟩ := toE x hx
      have hbd := (hval x hx).bd
      have := hb _ hbE (by simp only; omega) (by simp only; omega)
      simp only at this
      rw [hc] at this; cases this
    rw [this]; rfl
  | some b =>
    obtain ⟨p, k1, k2, k3, k4, k5⟩ := hb
    obtain ⟨x, hx, e⟩ := List.mem_map.1 (hp.mem_iff.1 (List.mem_map.2 ⟨_, k1, rfl⟩))
    simp only at e
    have hx' : (p, V p) ∈ L := by
      have := hV x hx
      rw [e] at this
      have e2 : x = (p, V p) := Prod.ext e this.symm
      rw [← e2]; exact hx
    rw [last_is hs hval hA hx' k4 (fun y hy hc => by
      obtain ⟨b', hbE⟩ := toE y hy
      have hbd := (hval y hy).bd
      exact k5 _ hbE (by simp only; omega) (by simp only; omega) hc)]
    show Ending.returned (.tuple #[.int .i64 (nvE E V b), .bool true]) = _
    rw [nvE_of h1.blks k1]
    rfl
end Go.Proofs.YtmoimkeeldlpkaaGreat.Dr

namespace Go.Proofs.YtmoimkeeldlpkaaGreat.Tri

open Go.RowKit Go.Proofs.YtmoimkeeldlpkaaGreat

set_option linter.unusedVariables false

/-- What is answered of what was found. -/
def ansO (o : Option (PX × Int)) : Value := match o with
  | none => .tuple #[.agg #[.int .u32 0, .int .i64 0], .int .i64 0, .bool false]
  | some x => .tuple #[.agg #[.int .u32 x.1.1, .int .i64 x.1.2], .int .i64 x.2, .bool true]

theorem vp32 {a : Int} (h0 : 0 ≤ a) (h1 : a ≤ 4294967295) : Vp (a, 32) := by
  obtain ⟨A, rfl⟩ := Int.eq_ofNat_of_zero_le h0
  exact ⟨A, 32, rfl, by omega, by omega, by simp [Nat.mod_one]⟩

theorem has_cov (p : PX) (a : Int) : cov p (a, 32) = hasV p.1 p.2 a := by
  unfold cov coversV
  have h1 := holdV_bd p.2
  have h2 : holdV 32 = 32 := by decide
  simp only [h2]
  rw [decide_eq_true h1.2, Bool.true_and]
end Go.Proofs.YtmoimkeeldlpkaaGreat.Tri
