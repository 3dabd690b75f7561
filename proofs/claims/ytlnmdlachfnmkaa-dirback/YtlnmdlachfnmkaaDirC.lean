/- Package dir: Set of a prefix that has no room; of a new one. -/
import Derived.Test.YtlnmdlachfnmkaaDirB
namespace Go.Proofs.Ytlnmdlachfnmkaa.Dr
set_option maxRecDepth 100000
open Go.RowKit Go.Proofs.Ytlnmdlachfnmkaa Go.Proofs.Ytlnmdlachfnmkaa.Tri
set_option linter.unusedVariables false

theorem laid_keep {w4 w5 w6 w7 : World} {m y : Nat} {E0 : List (PX × Nat)} {F1 : List Nat} {cs : Array Value} (hm : MapAt w4 m E0) (x5 : ExtS [m] w4 w5) (x6 : ExtS (tabF w5 F1) w5 w6) (x7 : Ext w6 w7) (hy : w4.heap[y]? = some (.cells cs 85 (0, 0))) : w7.heap[y]? = some (.cells cs 85 (0, 0)) := by
  have y1 : y ∉ [m] := by
    intro e
    rw [List.mem_singleton.1 e] at hy
    obtain ⟨es, cl, hm, -⟩ := hm
    rw [hm] at hy; cases hy
  have hy5 := x5.heap y1 hy
  have y2 : y ∉ tabF w5 F1 := fun h => by have := (List.mem_filter.1 h).2; rw [isT_laid hy5] at this; cases this
  exact x7.heap (x6.heap y2 hy5)

theorem tab_lt (k A i : Nat) (hk : k ≤ 2) (hA : A < 4294967296) (hi : i < szN k) : plN k A / szN k * szN k + i < 2 ^ (32 - beN k) := by
  have h := pl_lt k A hA hk
  match k, hk with
  | 0, _ => simp only [szN, beN] at *; omega
  | 1, _ => simp only [szN, beN] at *; omega
  | 2, _ => simp only [szN, beN] at *; omega

/-- What Set of a new prefix leaves. -/
def NewAns (w : World) (F : List Nat) (db : Nat) (most : Int) (E : List (PX × Nat)) (V : PX → Int) (A N : Nat) (v : Int) (w' : World) : Prop := ∃ m nl T' f' F', DirIn w' db most (E ++ [(((A : Int), (N : Int)), nl)]) (setV V ((A : Int), (N : Int)) v) T' f' (some m) F' ∧ ExtS F w w' ∧ ∀ x ∈ F', x ∈ F ∨ w.heap.size ≤ x

section
variable {w : World} {db : Nat} {most : Int} {E : List (PX × Nat)} {V : PX → Int} {T f : Nat → Nat → Option Nat} {mb : Option Nat} {F : List Nat}

set_option maxHeartbeats 2000000 in
theorem set_full (h : DirIn w db most E V T f mb F) (A N : Nat) (v : Int) (hA : A < 4294967296) (hN : N ≤ 32) (hZ : A % 2 ^ (32 - N) = 0) (hv : 0 ≤ v) (hl : lk E ((A : Int), (N : Int)) = none) (hown : ownN (E.map (·.1)) ≤ 1000000)
    (hfull : most < ((ownN (E.map (·.1)) + moreN (E.map (·.1)) A (lvN N) : Nat) : Int)) :
    Calls Try.prog 20 #[.pointer (some ⟨db, 0, none⟩), .agg #[.int .u32 A, .int .i64 N], .int .i64 v] w fun e w' => e = .returned (.int .i64 6) ∧ Ext w w' := by
  have hp : Vp ((A : Int), (N : Int)) := ⟨A, N, rfl, hN, hA, hZ⟩
  obtain ⟨a0, a1, -, -⟩ := hp.bd
  have hx0 : Ext w (w.alloc (.cells #[.int .u32 A, .int .i64 N] 30)) := (Ext.refl w).alloc _
  have hn := heap_new w (.cells #[.int .u32 A, .int .i64 N] 30)
  have hq : ∀ w', Ext (w.alloc (.cells #[.int .u32 A, .int .i64 N] 30)) w' → w'.cell? ⟨w.heap.size, 0, none⟩ = some (.int .u32 A) ∧ w'.cell? ⟨w.heap.size, 1, none⟩ = some (.int .i64 N) := fun w' hx => ⟨by rw [heap_cell (hx.heap hn)]; rfl, by rw [heap_cell (hx.heap hn)]; rfl⟩
  have HQ : Hid _ := hq
  have ci := fun w => is_any (A : Int) (N : Int) w a0 a1
  rw [hp.is] at ci
  have hnot : ∀ (x : Bool) (w : World), (Op.unary .not (.bool x)).run Try.prog w = .ok (.bool (!x)) w := fun _ _ => rfl
  have hr := h.reads
  have hlk : ∀ w', Ext w w' → (Instr.lookup 59 (.map mb) (.agg #[.int .u32 A, .int .i64 N]) false).run Try.prog w' = .ok (.pointer none) w' := fun w' hx => by
    have := (h.ext hx).look ((A : Int), (N : Int))
    rw [hl] at this; exact this
  have cm : ∀ w', Ext w w' → Calls Try.prog 32 #[.pointer (some ⟨db, 0, none⟩), .agg #[.int .u32 A, .int .i64 N]] w' fun e w2 => e = .returned (.int .i64 (moreN (E.map (·.1)) A (lvN N) : Nat)) ∧ Ext w' w2 := fun w' hx => by
    rw [← ms_more h.dom A (lvN N) (lvN_le N)]
    exact missing_any db A N T f w' (h.tabs.ext hx) (h.reads w' hx).2.2.2 hA hN
  have hmo := more_le (E.map (·.1)) A (lvN N)
  have hlv := lvN_le N
  have HR : Hid _ := hr
  have HLK : Hid _ := hlk
  have HCM : Hid _ := cm
  clear hq hn hr hlk cm h hl hp hZ
  generalize ownN (E.map (·.1)) = ow at *
  generalize moreN (E.map (·.1)) A (lvN N) = mo at *
  obtain ⟨hi1, hi2⟩ : (ow : Int) ≤ 1000000 ∧ (mo : Int) ≤ 2 := by omega
  have hsum : IntKind.i64.wrap ((ow : Int) + (mo : Int)) = (ow : Int) + (mo : Int) := by rw [IntKind.wrap_i64]; omega
  have hgt : most < (ow : Int) + (mo : Int) := by omega
  generalize hW0 : (w.alloc (.cells #[.int .u32 A, .int .i64 N] 30)) = W0 at *
  clear hfull
  go_enter Try.func20, Try.ntmps20
  obtain ⟨q0, q1⟩ := HQ.out _ (Ext.refl _)
  go_wp2_with (go_at_call 31; refine (ci _).mono ?_; rintro e w1 ⟨rfl, hx1⟩)
  have hx2 := hx1.drew
  refine wp_region_eager [(0, false), (1, false), (2, false), (3, false), (4, false), (5, false), (6, false)] (by kernel_rfl) (by kernel_rfl) rfl (by kernel_rfl) (fun _ _ _ _ _ h => h) ?_
  generalize w1.drew = W2 at *
  have g0 : ∀ w', Ext W2 w' → w'.cell? ⟨w.heap.size, 0, none⟩ = some (.int .u32 A) := fun w' h => (HQ.out _ (hx2.trans h)).1
  have g1 : ∀ w', Ext W2 w' → w'.cell? ⟨w.heap.size, 1, none⟩ = some (.int .i64 N) := fun w' h => (HQ.out _ (hx2.trans h)).2
  have g2 : ∀ w', Ext W2 w' → w'.cell? ⟨db, 2, none⟩ = some (.map mb) := fun w' h => (HR.out _ ((hx0.trans hx2).trans h)).2.2.1
  have g3 : ∀ w', Ext W2 w' → (Instr.lookup 59 (.map mb) (.agg #[.int .u32 A, .int .i64 N]) false).run Try.prog w' = .ok (.pointer none) w' := fun w' h => HLK.out _ ((hx0.trans hx2).trans h)
  clear q0 q1
  iterate 7 (refine wpE_read (v := ?_) rfl (by rfl) ?_ ?_; rotate_left; (focus (intro w' hx; go_simp; first | done | with_reducible rfl)); simp only [Act.put, List.setIfInBounds_toArray, List.set_cons_zero, List.set_cons_succ])
  refine wpE_done ?_
  clear g0 g1 g2 g3
  go_wp2_with fail
  have hx3 := hx2.drew
  refine wp_region_eager [(0, false), (1, false), (2, false), (3, false), (4, false), (5, false), (8, false), (9, false), (10, false), (11, false), (6, true), (7, false), (12, false)] (by kernel_rfl) (by kernel_rfl) rfl (by kernel_rfl) (fun _ _ _ _ _ h => h) ?_
  generalize W2.drew = W3 at *
  have g0 : ∀ w', Ext W3 w' → w'.cell? ⟨w.heap.size, 0, none⟩ = some (.int .u32 A) := fun w' h => (HQ.out _ (hx3.trans h)).1
  have g1 : ∀ w', Ext W3 w' → w'.cell? ⟨w.heap.size, 1, none⟩ = some (.int .i64 N) := fun w' h => (HQ.out _ (hx3.trans h)).2
  have g2 : ∀ w', Ext W3 w' → w'.cell? ⟨db, 1, none⟩ = some (.int .i64 ow) := fun w' h => (HR.out _ ((hx0.trans hx3).trans h)).2.1
  have g3 : ∀ w', Ext W3 w' → w'.cell? ⟨db, 0, none⟩ = some (.int .i64 most) := fun w' h => (HR.out _ ((hx0.trans hx3).trans h)).1
  iterate 10 (refine wpE_read (v := ?_) rfl (by rfl) ?_ ?_; rotate_left; (focus (intro w' hx; go_simp; first | done | with_reducible rfl)); simp only [Act.put, List.setIfInBounds_toArray, List.set_cons_zero, List.set_cons_succ])
  refine wpE_call rfl (by rfl) (fun K hK => ?_); go_simp; first | (go_at_call 32; refine (HCM.out _ (hx0.trans hx3)).mono ?_; rintro e w4 ⟨rfl, hx4⟩; refine hK _ _ hx4 ?_; clear hK K)
  iterate 2 (refine wpE_read (v := ?_) rfl (by rfl) ?_ ?_; rotate_left; (focus (intro w' hx; go_simp; first | done | with_reducible rfl)); simp only [Act.put, List.setIfInBounds_toArray, List.set_cons_zero, List.set_cons_succ])
  refine wpE_done ?_
  clear g0 g1 g2 g3
  go_wp2_with fail
  go_ret
  exact ⟨rfl, (hx0.trans hx3).trans hx4⟩
set_option maxHeartbeats 2000000 in
theorem set_new (h : DirIn w db most E V T f mb F) (A N : Nat) (v : Int) (hA : A < 4294967296) (hN : N ≤ 32) (hZ : A % 2 ^ (32 - N) = 0) (hv : 0 ≤ v) (hl : lk E ((A : Int), (N : Int)) = none) (hown : ownN (E.map (·.1)) ≤ 1000000)
    (hroom : ((ownN (E.map (·.1)) + moreN (E.map (·.1)) A (lvN N) : Nat) : Int) ≤ most) :
    Calls Try.prog 20 #[.pointer (some ⟨db, 0, none⟩), .agg #[.int .u32 A, .int .i64 N], .int .i64 v] w fun e w' => e = .returned (.int .i64 0) ∧ NewAns w F db most E V A N v w' := by
  have hp : Vp ((A : Int), (N : Int)) := ⟨A, N, rfl, hN, hA, hZ⟩
  obtain ⟨a0, a1, -, -⟩ := hp.bd
  have hx0 : Ext w (w.alloc (.cells #[.int .u32 A, .int .i64 N] 30)) := (Ext.refl w).alloc _
  have hn := heap_new w (.cells #[.int .u32 A, .int .i64 N] 30)
  have hqS : ∀ w', ExtS F (w.alloc (.cells #[.int .u32 A, .int .i64 N] 30)) w' → w'.cell? ⟨w.heap.size, 0, none⟩ = some (.int .u32 A) ∧ w'.cell? ⟨w.heap.size, 1, none⟩ = some (.int .i64 N) := fun w' hx => by
    have hnF : w.heap.size ∉ F := fun hh => Nat.lt_irrefl _ (h.lt _ hh)
    exact ⟨by rw [heap_cell (hx.heap hnF hn)]; rfl, by rw [heap_cell (hx.heap hnF hn)]; rfl⟩
  have HQS : Hid _ := hqS
  have hq : ∀ w', Ext (w.alloc (.cells #[.int .u32 A, .int .i64 N] 30)) w' → w'.cell? ⟨w.heap.size, 0, none⟩ = some (.int .u32 A) ∧ w'.cell? ⟨w.heap.size, 1, none⟩ = some (.int .i64 N) := fun w' hx => hqS w' (hx.toS F)
  have HQ : Hid _ := hq
  have ci := fun w => is_any (A : Int) (N : Int) w a0 a1
  rw [hp.is] at ci
  have hnot : ∀ (x : Bool) (w : World), (Op.unary .not (.bool x)).run Try.prog w = .ok (.bool (!x)) w := fun _ _ => rfl
  have hr := h.reads
  have hlk : ∀ w', Ext w w' → (Instr.lookup 59 (.map mb) (.agg #[.int .u32 A, .int .i64 N]) false).run Try.prog w' = .ok (.pointer none) w' := fun w' hx => by
    have := (h.ext hx).look ((A : Int), (N : Int))
    rw [hl] at this; exact this
  have cm : ∀ w', Ext w w' → Calls Try.prog 32 #[.pointer (some ⟨db, 0, none⟩), .agg #[.int .u32 A, .int .i64 N]] w' fun e w2 => e = .returned (.int .i64 (moreN (E.map (·.1)) A (lvN N) : Nat)) ∧ Ext w' w2 := fun w' hx => by
    rw [← ms_more h.dom A (lvN N) (lvN_le N)]
    exact missing_any db A N T f w' (h.tabs.ext hx) (h.reads w' hx).2.2.2 hA hN
  have hmo := more_le (E.map (·.1)) A (lvN N)
  have hlv := lvN_le N
  have HR : Hid _ := hr
  have HLK : Hid _ := hlk
  have HCM : Hid _ := cm
  have HD : Hid (DirIn w db most E V T f mb F) := h
  have HL : Hid (lk E ((A : Int), (N : Int)) = none) := hl
  have HZ : Hid (A % 2 ^ (32 - N) = 0) := hZ
  clear hq hqS hn hr hlk cm h hl hp hZ
  obtain ⟨ow, how⟩ : ∃ ow, ow = ownN (E.map (·.1)) := ⟨_, rfl⟩
  obtain ⟨mo, hmo'⟩ : ∃ mo, mo = moreN (E.map (·.1)) A (lvN N) := ⟨_, rfl⟩
  rw [← how] at hown hroom
  rw [← hmo'] at hmo hroom HCM
  have HOW : Hid (ow = ownN (E.map (·.1))) := how
  have HMO : Hid (mo = moreN (E.map (·.1)) A (lvN N)) := hmo'
  clear how hmo'
  have hmf : ∀ (fn : Fn) (first cap : Array Value) (w : World), (Instr.makeFunc fn first cap).run Try.prog w = .ok (.func fn first cap) w := fun _ _ _ _ => rfl
  obtain ⟨hi1, hi2⟩ : (ow : Int) ≤ 1000000 ∧ (mo : Int) ≤ 2 := by omega
  have hsum : IntKind.i64.wrap ((ow : Int) + (mo : Int)) = (ow : Int) + (mo : Int) := by rw [IntKind.wrap_i64]; omega
  have hgt : (ow : Int) + (mo : Int) ≤ most := by omega
  generalize hW0 : (w.alloc (.cells #[.int .u32 A, .int .i64 N] 30)) = W0 at *
  clear hroom
  go_enter Try.func20, Try.ntmps20
  obtain ⟨q0, q1⟩ := HQ.out _ (Ext.refl _)
  go_wp2_with (go_at_call 31; refine (ci _).mono ?_; rintro e w1 ⟨rfl, hx1⟩)
  have hx2 := hx1.drew
  refine wp_region_eager [(0, false), (1, false), (2, false), (3, false), (4, false), (5, false), (6, false)] (by kernel_rfl) (by kernel_rfl) rfl (by kernel_rfl) (fun _ _ _ _ _ h => h) ?_
  generalize w1.drew = W2 at *
  have g0 : ∀ w', Ext W2 w' → w'.cell? ⟨w.heap.size, 0, none⟩ = some (.int .u32 A) := fun w' h => (HQ.out _ (hx2.trans h)).1
  have g1 : ∀ w', Ext W2 w' → w'.cell? ⟨w.heap.size, 1, none⟩ = some (.int .i64 N) := fun w' h => (HQ.out _ (hx2.trans h)).2
  have g2 : ∀ w', Ext W2 w' → w'.cell? ⟨db, 2, none⟩ = some (.map mb) := fun w' h => (HR.out _ ((hx0.trans hx2).trans h)).2.2.1
  have g3 : ∀ w', Ext W2 w' → (Instr.lookup 59 (.map mb) (.agg #[.int .u32 A, .int .i64 N]) false).run Try.prog w' = .ok (.pointer none) w' := fun w' h => HLK.out _ ((hx0.trans hx2).trans h)
  clear q0 q1
  iterate 7 (refine wpE_read (v := ?_) rfl (by rfl) ?_ ?_; rotate_left; (focus (intro w' hx; go_simp; first | done | with_reducible rfl)); simp only [Act.put, List.setIfInBounds_toArray, List.set_cons_zero, List.set_cons_succ])
  refine wpE_done ?_
  clear g0 g1 g2 g3
  go_wp2_with fail
  have hx3 := hx2.drew
  refine wp_region_eager [(0, false), (1, false), (2, false), (3, false), (4, false), (5, false), (8, false), (9, false), (10, false), (11, false), (6, true), (7, false), (12, false)] (by kernel_rfl) (by kernel_rfl) rfl (by kernel_rfl) (fun _ _ _ _ _ h => h) ?_
  generalize W2.drew = W3 at *
  have g0 : ∀ w', Ext W3 w' → w'.cell? ⟨w.heap.size, 0, none⟩ = some (.int .u32 A) := fun w' h => (HQ.out _ (hx3.trans h)).1
  have g1 : ∀ w', Ext W3 w' → w'.cell? ⟨w.heap.size, 1, none⟩ = some (.int .i64 N) := fun w' h => (HQ.out _ (hx3.trans h)).2
  have g2 : ∀ w', Ext W3 w' → w'.cell? ⟨db, 1, none⟩ = some (.int .i64 ow) := fun w' h => by rw [HOW.out]; exact (HR.out _ ((hx0.trans hx3).trans h)).2.1
  have g3 : ∀ w', Ext W3 w' → w'.cell? ⟨db, 0, none⟩ = some (.int .i64 most) := fun w' h => (HR.out _ ((hx0.trans hx3).trans h)).1
  iterate 10 (refine wpE_read (v := ?_) rfl (by rfl) ?_ ?_; rotate_left; (focus (intro w' hx; go_simp; first | done | with_reducible rfl)); simp only [Act.put, List.setIfInBounds_toArray, List.set_cons_zero, List.set_cons_succ])
  refine wpE_call rfl (by rfl) (fun K hK => ?_); go_simp; first | (go_at_call 32; refine (HCM.out _ (hx0.trans hx3)).mono ?_; rintro e w4 ⟨rfl, hx4⟩; refine hK _ _ hx4 ?_; clear hK K)
  iterate 2 (refine wpE_read (v := ?_) rfl (by rfl) ?_ ?_; rotate_left; (focus (intro w' hx; go_simp; first | done | with_reducible rfl)); simp only [Act.put, List.setIfInBounds_toArray, List.set_cons_zero, List.set_cons_succ])
  refine wpE_done ?_
  clear g0 g1 g2 g3
  have hx34 := hx3.trans hx4
  go_wp2_with (go_at_call 33; refine (once_any (HD.out.ext (hx0.trans hx34))).mono ?_; rintro e w5 ⟨rfl, m, T1, F1, d1, x1, f1, f2, tt⟩; obtain ⟨q0, q1⟩ := HQS.out _ ((hx34.toS F).trans x1))
  clear q0 q1
  have hx6 : Ext w5 (w5.alloc (.cells #[.int .i64 N, .int .i64 v] 85)).drew := ((Ext.refl w5).alloc _).drew
  have hnl : (w5.alloc (.cells #[.int .i64 N, .int .i64 v] 85)).drew.heap[w5.heap.size]? = some (.cells #[.int .i64 N, .int .i64 v] 85 (0, 0)) := heap_new w5 _
  have hF1 : ∀ x ∈ F1, x ∈ F ∨ W0.heap.size ≤ x := fun x hx => by
    rcases f1 x hx with h | h
    · exact .inl h
    · exact .inr (Nat.le_trans hx34.size h)
  have XS : ExtS F W0 (w5.alloc (.cells #[.int .i64 N, .int .i64 v] 85)).drew := ((hx34.toS F).trans x1).trans (hx6.toS F)
  have hnF : w5.heap.size ∉ F1 := fun hh => Nat.lt_irrefl _ (d1.lt _ hh)
  have hs5 : W0.heap.size ≤ w5.heap.size := Nat.le_trans hx34.size x1.size
  have D6 := d1.ext hx6
  refine wp_region_eagerS [m] [(0, false), (1, false), (2, false), (3, false), (4, false), (5, false), (6, true)] (by kernel_rfl) (by kernel_rfl) rfl (by kernel_rfl) (fun _ _ _ _ _ h => h) ?_
  generalize hnn : w5.heap.size = nl at *
  generalize (w5.alloc (.cells #[.int .i64 N, .int .i64 v] 85)).drew = W6 at *
  clear hx6 d1
  obtain ⟨w7, hst, m7, x7, s7⟩ := store_px (D6.map m rfl) ((A : Int), (N : Int)) nl HL.out
  have hmF := hF1 m (D6.fmap m rfl)
  have hdm : db ∉ [m] := by
    intro e
    obtain ⟨es, cl, hm, -⟩ := D6.map m rfl
    have := D6.obj
    rw [List.mem_singleton.1 e, hm] at this; cases this
  have g0 : ∀ w', ExtS [m] W6 w' → w'.cell? ⟨w.heap.size, 0, none⟩ = some (.int .u32 A) := fun w' h => (HQS.out _ (XS.then h (fun b hb => by rw [List.mem_singleton.1 hb]; exact hmF))).1
  have g1 : ∀ w', ExtS [m] W6 w' → w'.cell? ⟨w.heap.size, 1, none⟩ = some (.int .i64 N) := fun w' h => (HQS.out _ (XS.then h (fun b hb => by rw [List.mem_singleton.1 hb]; exact hmF))).2
  have g2 : ∀ w', ExtS [m] W6 w' → w'.cell? ⟨db, 2, none⟩ = some (.map (some m)) := fun w' h => by rw [heap_cell (h.heap hdm D6.obj)]; rfl
  have HM7 : Hid _ := m7
  have HX7 : Hid _ := x7
  have HD6 : Hid _ := D6
  simp only [keyV, ptV, Option.map_some] at hst
  clear m7 D6
  iterate 6 (refine wpE_read (v := ?_) rfl (by rfl) ?_ ?_; rotate_left; (focus (intro w' hx; go_simp; first | done | with_reducible rfl)); simp only [Act.put, List.setIfInBounds_toArray, List.set_cons_zero, List.set_cons_succ])
  refine wpE_call rfl (by rfl) (fun K hK => ?_); go_simp; first | (refine hK _ _ HX7.out ?_; clear hK K)
  refine wpE_done ?_
  clear g0 g1 g2 hst x7
  have hvp : Vp ((A : Int), (N : Int)) := ⟨A, N, rfl, hN, hA, HZ.out⟩
  have XS7 : ExtS F W0 w7 := XS.then HX7.out (fun b hb => by rw [List.mem_singleton.1 hb]; exact hmF)
  have obj7 := HX7.out.heap hdm HD6.out.obj
  have tabs7 : Tabs w7 T1 f := HD6.out.tabs.later HX7.out (fun k n b e => by
    intro hh
    have h1 := isT_tab HD6.out.tabs e
    rw [List.mem_singleton.1 hh, isT_map (HD6.out.map m rfl)] at h1; cases h1)
  have co := own_any db A N (ownN (E.map (·.1))) (.int .i64 most) (.map (some m)) (.int .u32 1) (.int .i32 0) (.int .u32 0) T1 f (tabF w7 F1) w7 tabs7 (fun e => by have := HD6.out.begun.2 e; cases this) obj7
    (List.mem_filter.2 ⟨HD6.out.fdb, isT_dir obj7⟩) (fun k n b e => List.mem_filter.2 ⟨HD6.out.ftab k n b e, isT_tab tabs7 e⟩) (fun x hx => Nat.lt_of_lt_of_le (HD6.out.lt x (List.mem_filter.1 hx).1) HX7.out.size) (by rw [← HOW.out]; exact hown) hA hN
  have hms : msN T1 A (lvN N) = moreN (E.map (·.1)) A (lvN N) := ms_more HD6.out.dom A (lvN N) hlv
  rw [hms] at co
  obtain ⟨q0, q1⟩ := HQS.out _ XS7
  have HXS7 : Hid _ := XS7
  clear obj7 tabs7 hms XS XS7
  go_wp2_with (go_at_call 35; refine co.mono ?_; rintro e w8 ⟨rfl, T2, t8, o8, x8, g8⟩; obtain ⟨q0', q1'⟩ := HQS.out _ (HXS7.out.then x8 (fun b hb => hF1 b (List.mem_filter.1 hb).1)))
  have hon : ∃ b, onT T2 A (lvN N) = some b := by
    cases hlv0 : lvN N with
    | zero =>
      have : onT T2 A 0 = T2 0 0 := by unfold onT; rw [pl_zero A hA]
      rw [this]
      cases hh : T1 0 0 with
      | none => have := HD6.out.begun.2 hh; cases this
      | some b => exact ⟨b, g8.old _ _ _ hh⟩
    | succ j =>
      have hw := g8.way j (by omega)
      rw [on_next T2 A j (by omega)]
      cases hh : T2 (j + 1) (plN j A) with
      | none => exact absurd hh hw
      | some b => exact ⟨b, rfl⟩
  obtain ⟨b, hb⟩ := hon
  have cp := places_any db A N T2 f w8 t8 (by rw [heap_cell o8]; rfl) hA hN HZ.out b hb
  refine cp.mono ?_
  rintro e w9 ⟨⟨cp', rfl⟩, hx9⟩
  have hE' : ((E ++ [(((A : Int), (N : Int)), nl)]).map (·.2)).Nodup := by
    rw [List.map_append]
    refine List.nodup_append.2 ⟨HD6.out.blks, by simp, fun a ha c hc e => ?_⟩
    obtain ⟨x, hx, rfl⟩ := List.mem_map.1 ha
    simp only [List.map_cons, List.map_nil, List.mem_singleton] at hc
    exact hnF (by rw [← hc, ← e]; exact HD6.out.flaid x hx)
  have keep9 : ∀ (y : Nat) (cs : Array Value), W6.heap[y]? = some (.cells cs 85 (0, 0)) → w9.heap[y]? = some (.cells cs 85 (0, 0)) := fun y cs hy => laid_keep (HD6.out.map m rfl) HX7.out x8 hx9 hy
  have hnb : ∀ (y : Nat) (cs : Array Value), w9.heap[y]? = some (.cells cs 85 (0, 0)) → y ≠ b := fun y cs hy e => by
    have h1 := isT_tab (t8.ext hx9) hb
    rw [← e, isT_laid hy] at h1; cases h1
  have nl9 := keep9 nl _ hnl
  have ccv := cover_any b (szN (lvN N)) (plN (lvN N) A % szN (lvN N)) (cntN N) cp' nl (tyN (lvN N)) (fun i => f (lvN N) (plN (lvN N) A / szN (lvN N) * szN (lvN N) + i)) (fun i => T2 (lvN N + 1) (plN (lvN N) A / szN (lvN N) * szN (lvN N) + i)) (lenB (E ++ [(((A : Int), (N : Int)), nl)])) w9
    ((t8.ext hx9).tab _ _ _ hb) (cnt_ok A N hN HZ.out) (sz_le _)
    (by
      rw [heap_cell nl9]
      unfold lenB
      rw [nvE_of (V := fun p : PX => p.2) (p := ((A : Int), (N : Int))) hE' (List.mem_append_right _ (List.mem_singleton.2 rfl))]
      rfl) (hnb _ _ nl9) (fun i b' hi e => by
      have hbs := HD6.out.paint (lvN N) _ hlv (tab_lt (lvN N) A i hlv hA hi)
      rw [e] at hbs
      obtain ⟨q, k1, -⟩ := hbs
      have h9 := keep9 _ _ (HD6.out.laid _ k1)
      refine ⟨hnb _ _ h9, ?_⟩
      unfold lenB
      rw [heap_cell h9, nvE_of (V := fun p : PX => p.2) (p := q) hE' (List.mem_append_left _ k1)]
      rfl)
  have hend := fun w10 x10 t10 => set_done (w0 := w) (w8 := w10) HD6.out hnl hnF HL.out hA hN HZ.out HM7.out HX7.out t8 o8 x8 g8 hx9 hb x10 t10 (Nat.le_trans (Nat.le_trans hx0.size hs5) (Nat.le_of_lt (heap_lt hnl))) (Nat.le_trans hx0.size hs5)
  have XS9 : ExtS F W0 w9 := (HXS7.out.then x8 (fun b hb => hF1 b (List.mem_filter.1 hb).1)).trans (hx9.toS F)
  have hbF : b ∈ F ∨ W0.heap.size ≤ b := by
    cases hh : T1 (lvN N) (plN (lvN N) A / szN (lvN N)) with
    | some b1 =>
      have := g8.old _ _ _ hh
      unfold onT at hb
      rw [hb] at this
      cases this
      exact hF1 b (HD6.out.ftab _ _ _ hh)
    | none =>
      have h1 := (g8.new _ _ _ hh hb).1
      exact .inr (Nat.le_trans HXS7.out.size h1)
  generalize plN (lvN N) A % szN (lvN N) * 2 = off at *
  clear cp
  go_wp2_with (go_at_call 36; refine ccv.mono ?_; rintro e w10 ⟨rfl, t10, x10⟩)
  go_ret
  obtain ⟨T', f', F', dd, ff⟩ := hend w10 x10 t10
  refine ⟨rfl, m, nl, T', f', F', dd, (hx0.toS F).trans (XS9.then x10 (fun y hy => by rw [List.mem_singleton.1 hy]; exact hbF)), fun x hx => ?_⟩
  rcases ff x hx with h | h
  · rcases hF1 x h with h | h
    · exact .inl h
    · exact .inr (Nat.le_trans hx0.size h)
  · exact .inr h
end
end Go.Proofs.Ytlnmdlachfnmkaa.Dr
