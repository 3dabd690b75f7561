/- Texts joined by a program: Dir8, Dir9, DirA, DirR. -/
import Derived.Test.YtkfhkhgiojpfoaaGreatJ12
namespace Go.Proofs.YtkfhkhgiojpfoaaGreat.Dr

set_option maxRecDepth 100000

open Go.RowKit Go.Proofs.YtkfhkhgiojpfoaaGreat Go.Proofs.YtkfhkhgiojpfoaaGreat.Tri

set_option linter.unusedVariables false

def DisAns (db A lv k : Nat) (o : Int) (mo mp dn st sm : Value) (K : List PX) (T f : Nat → Nat → Option Nat) (F : List Nat) (w w' : World) : Prop := ∃ T', Tabs w' T' f ∧
  w'.heap[db]? = some (dirO mo (.int .i64 (o - ((moreN K A lv : Int) - (moreN K A k : Int)))) mp dn st sm (tbV 0 (T' 0 0))) ∧ ExtS F w w' ∧ DisR T' K A lv k ∧ (∀ j n, j ≤ k → T' j n = T j n) ∧ (∀ j n b, T' j n = some b → T j n = some b)

theorem more_le (K : List PX) (A : Nat) : ∀ j, moreN K A j ≤ j := by
  intro j; induction j with
  | zero => exact Nat.le_refl _
  | succ j ih => simp only [moreN]; split <;> omega

theorem more_mono (K : List PX) (A : Nat) {i j : Nat} (h : i ≤ j) : moreN K A i ≤ moreN K A j := by
  obtain ⟨d, rfl⟩ : ∃ d, j = i + d := ⟨j - i, by omega⟩
  clear h
  induction d with
  | zero => exact Nat.le_refl _
  | succ d ih => rw [← Nat.add_assoc]; simp only [moreN]; omega

/-- A table less. -/
theorem dis_cut {W : World} {T f : Nat → Nat → Option Nat} (h : Tabs W T f) {A k b db nb : Nat} {oo : Int} {mo mp dn st sm fi : Value} (hk : k ≤ 1) (hb : onT T A k = some b) (hto : T (k + 1) (plN k A) = some nb) (hd : W.heap[db]? = some (dirO mo (.int .i64 oo) mp dn st sm fi))
    (he : ∀ i, i < 256 → f (k + 1) (plN k A * 256 + i) = none ∧ T (k + 1 + 1) (plN k A * 256 + i) = none) :
    ∀ W3, W3 = (W.setCell ⟨b, plN k A % szN k * 2 + 1, none⟩ (.pointer none)).setCell ⟨db, 1, none⟩ (.int .i64 (oo - 1)) →
      Tabs W3 (putT T (k + 1) (plN k A) none) f ∧ W3.heap[db]? = some (dirO mo (.int .i64 (oo - 1)) mp dn st sm fi) ∧ ExtS [b, db] W W3 := by
  intro W3 hW3
  have hbd := h.ne_dir hd hb
  have t1 := h.tab k _ b hb
  have t2 := t1.set_to (Nat.mod_lt (plN k A) (szN_pos k)) none
  have hd1 : (W.setCell ⟨b, plN k A % szN k * 2 + 1, none⟩ (.pointer none)).heap[db]? = some (dirO mo (.int .i64 oo) mp dn st sm fi) := by
    have x1 : ExtS [b] W (W.setCell ⟨b, plN k A % szN k * 2 + 1, none⟩ (.pointer none)) := (ExtS.refl _ _).setCell (.inl (by simp)) _
    exact x1.heap (by simpa using hbd.symm) hd
  have x2 : ExtS [b, db] W ((W.setCell ⟨b, plN k A % szN k * 2 + 1, none⟩ (.pointer none)).setCell ⟨db, 1, none⟩ (.int .i64 (oo - 1))) := ((ExtS.refl _ _).setCell (.inl (by simp)) _).setCell (.inl (by simp)) _
  have hd2 := heap_set (k := 1) hd1 (.int .i64 (oo - 1))
  have x3 : ExtS [db] (W.setCell ⟨b, plN k A % szN k * 2 + 1, none⟩ (.pointer none)) ((W.setCell ⟨b, plN k A % szN k * 2 + 1, none⟩ (.pointer none)).setCell ⟨db, 1, none⟩ (.int .i64 (oo - 1))) := (ExtS.refl _ _).setCell (.inl (by simp)) _
  have t3 := TabAt.later (f := fun i => f k (plN k A / szN k * szN k + i)) t2 x3 (by simpa using hbd)
  subst hW3
  refine ⟨?_, hd2, x2⟩
  exact h.cut hk hb hto x2 (fun k' n' b' e hne => by
      have := h.ne_dir hd e
      simp [hne, this]) t3 (fun i hi => (he i hi).1) (fun i hi => (he i hi).2)

set_option maxHeartbeats 1000000 in
theorem disown_base (db A N : Nat) (mo mp dn st sm : Value) (E : List (PX × Nat)) (f : Nat → Nat → Option Nat) (hf : Painted E f) (hE : ∀ x ∈ E, Vp x.1) (hA : A < 4294967296) (hN : N ≤ 32) (k : Nat) (o : Int) (T : Nat → Nat → Option Nat) (F : List Nat) (w : World) (hk : lvN N = k) (hT : Tabs w T f) (hd : w.heap[db]? = some (dirO mo (.int .i64 o) mp dn st sm (tbV 0 (T 0 0)))) (hF1 : db ∈ F) (hF2 : ∀ k n b, T k n = some b → b ∈ F) (hF3 : ∀ x ∈ F, x < w.heap.size) (hR : DisR T (E.map (·.1)) A (lvN N) (lvN N)) (h0 : onT T A 0 ≠ none) (ho0 : 0 ≤ o) (ho : o ≤ 1000000) :
    Calls Tryz.prog 120 #[.pointer (some ⟨db, 0, none⟩), tbV k (onT T A k), .agg #[.int .u32 A, .int .i64 N], .int .i64 (beN k)] w fun e w' => e = .returned (.tuple #[]) ∧ DisAns db A (lvN N) k o mo mp dn st sm (E.map (·.1)) T f F w w' := by
  have hk2 : k ≤ 2 := by have := lvN_le N; omega
  have ce := fun w => ends_any (A : Int) (N : Int) (beN k) w (be_int k hk2).1 (be_int k hk2).2
  have hbN := lv_be N hN
  have hgt : decide ((N : Int) > 32 - (beN k : Int)) = false := by
    rw [decide_eq_false_iff_not]
    rw [hk] at hbN
    omega
  rw [hgt] at ce
  have hA0 : Ext w (w.alloc (.cells #[.int .u32 A, .int .i64 N] 42)) := (Ext.refl w).alloc _
  have hans : ∀ w', Ext w w' → DisAns db A (lvN N) k o mo mp dn st sm (E.map (·.1)) T f F w w' := fun w' hx => by
    have e : lvN N = k := by omega
    refine ⟨T, hT.ext hx, ?_, hx.toS F, by rw [e] at hR ⊢; exact hR, fun _ _ _ => rfl, fun _ _ _ h => h⟩
    rw [e, show o - ((moreN (E.map (·.1)) A k : Int) - (moreN (E.map (·.1)) A k : Int)) = o by omega]
    exact hx.heap hd
  have HA : Hid _ := hans
  generalize tbV k (onT T A k) = tv
  clear hans hT hR hd hF2 hF3 hf hE
  generalize (beN k : Int) = be at *
  go_enter Tryz.func120, Tryz.ntmps120
  go_wp2_with (go_at_call 142; refine (ce _).mono ?_; rintro e w1 ⟨rfl, hx1⟩)
  first | go_end0 | (simp only [Exit.inBlock, Exit.then]; refine bodyPost_ret (results_none rfl _ _ _) rfl ?_) | refine bodyPost_ret (results_none rfl _ _ _) rfl ?_
  exact ⟨rfl, HA.out _ (hA0.trans hx1)⟩

set_option maxHeartbeats 2000000 in
theorem disown_step (db A N : Nat) (mo mp dn st sm : Value) (E : List (PX × Nat)) (f : Nat → Nat → Option Nat) (hf : Painted E f) (hE : ∀ x ∈ E, Vp x.1) (hA : A < 4294967296) (hN : N ≤ 32) (k : Nat) (o : Int) (T : Nat → Nat → Option Nat) (F : List Nat) (w : World) (hk : k < lvN N) (hT : Tabs w T f) (hd : w.heap[db]? = some (dirO mo (.int .i64 o) mp dn st sm (tbV 0 (T 0 0)))) (hF1 : db ∈ F) (hF2 : ∀ k n b, T k n = some b → b ∈ F) (hF3 : ∀ x ∈ F, x < w.heap.size) (hR : DisR T (E.map (·.1)) A (lvN N) (lvN N)) (h0 : onT T A 0 ≠ none) (ho0 : 0 ≤ o) (ho : o ≤ 1000000)
    (cr : ∀ w', Ext w w' → Calls Tryz.prog 120 #[.pointer (some ⟨db, 0, none⟩), tbV (k + 1) (onT T A (k + 1)), .agg #[.int .u32 A, .int .i64 N], .int .i64 (beN (k + 1))] w' fun e w2 => e = .returned (.tuple #[]) ∧ DisAns db A (lvN N) (k + 1) o mo mp dn st sm (E.map (·.1)) T f F w' w2) :
    Calls Tryz.prog 120 #[.pointer (some ⟨db, 0, none⟩), tbV k (onT T A k), .agg #[.int .u32 A, .int .i64 N], .int .i64 (beN k)] w fun e w' => e = .returned (.tuple #[]) ∧ DisAns db A (lvN N) k o mo mp dn st sm (E.map (·.1)) T f F w w' := by
  have hk1 : k ≤ 1 := by have := lvN_le N; omega
  have hk2 : k ≤ 2 := by omega
  have ce := fun w => ends_any (A : Int) (N : Int) (beN k) w (be_int k hk2).1 (be_int k hk2).2
  have hgt : decide ((N : Int) > 32 - (beN k : Int)) = true := by
    have := (lvN_lt N k hk1).1 (by omega)
    have := lo_be k hk2
    rw [decide_eq_true_eq]; omega
  rw [hgt] at ce
  have hb8 := be_next k hk1
  have hb0 := be_int (k + 1) (by omega)
  have hA0 : Ext w (w.alloc (.cells #[.int .u32 A, .int .i64 N] 42)) := (Ext.refl w).alloc _
  have hn := heap_new w (.cells #[.int .u32 A, .int .i64 N] 42)
  have hq : ∀ w', ExtS F (w.alloc (.cells #[.int .u32 A, .int .i64 N] 42)) w' → w'.cell? ⟨w.heap.size, 0, none⟩ = some (.int .u32 A) ∧ w'.cell? ⟨w.heap.size, 1, none⟩ = some (.int .i64 N) := fun w' hx => by
    have hnF : w.heap.size ∉ F := fun h => Nat.lt_irrefl _ (hF3 _ h)
    exact ⟨by rw [heap_cell (hx.heap hnF hn)]; rfl, by rw [heap_cell (hx.heap hnF hn)]; rfl⟩
  have HQ : Hid _ := hq
  obtain ⟨q0, q1⟩ := hq _ (ExtS.refl _ _)
  have hwayS : ∀ j, j ≤ lvN N → onT T A j ≠ none := fun j hj => by
    match j, hj with
    | 0, _ => exact h0
    | j + 1, hj =>
      have hj1 : j ≤ 1 := by have := lvN_le N; omega
      rw [on_next T A j hj1]
      have := (hR (j + 1) (plN j A) (by omega) (by omega)).2 (.inr ⟨hj, hj, rfl⟩)
      intro h; rw [h] at this; cases this
  obtain ⟨b, hb⟩ : ∃ b, onT T A k = some b := by
    cases hh : onT T A k with
    | none => exact absurd hh (hwayS k (by omega))
    | some b => exact ⟨b, rfl⟩
  obtain ⟨nb, hnb⟩ : ∃ nb, T (k + 1) (plN k A) = some nb := by
    have := hwayS (k + 1) (by omega)
    rw [on_next T A k hk1] at this
    cases hh : T (k + 1) (plN k A) with
    | none => exact absurd hh this
    | some nb => exact ⟨nb, rfl⟩
  have hb1 : T k (plN k A / szN k) = some b := hb
  have cs := fun w => spot_any k A b (szN k) hk2 hA w
  have cb : ∀ w', Ext w w' → Calls Tryz.prog 104 #[.pointer (some ⟨b, plN k A % szN k * 2, none⟩)] w' fun e w2 => e = .returned (tbV (k + 1) (onT T A (k + 1))) ∧ w2 = w' := fun w' hx' => by
    rw [on_next T A k hk1, ← tab_next]
    exact below_any b _ _ w' ((hT.ext hx').to_cell hb)
  have HCB : Hid _ := cb
  have HCR : Hid _ := cr
  clear cb cr hq hn
  rw [hb]
  simp only [tbV]
  obtain ⟨v1, hv1⟩ : ∃ v1, v1 = tbV (k + 1) (onT T A (k + 1)) := ⟨_, rfl⟩
  rw [← hv1] at HCB HCR
  clear hv1
  have HT : Hid (Tabs w T f) := hT
  have HR : Hid _ := hR
  have HF2 : Hid _ := hF2
  have HF3 : Hid _ := hF3
  have HE : Hid _ := hE
  have HPf : Hid (Painted E f) := hf
  have HB : Hid (onT T A k = some b) := hb
  have HNB : Hid (T (k + 1) (plN k A) = some nb) := hnb
  have HO0 : Hid (0 ≤ o) := ho0
  have HKL : Hid (k < lvN N) := hk
  clear hT hR hF2 hF3 hE hf hwayS
  generalize hoff : plN k A % szN k * 2 = off at *
  generalize hsz : szN k = sz at *
  generalize hbe : (beN k : Int) = be at *
  generalize hbe8 : (beN (k + 1) : Int) = be8 at *
  generalize hW0 : (w.alloc (.cells #[.int .u32 A, .int .i64 N] 42)) = W0 at *
  have hwb : IntKind.i64.wrap be8 = be8 := by rw [IntKind.wrap_i64]; omega
  clear hbe hbe8
  clear hd h0 hk hb1 ho0 hb hnb
  go_enter Tryz.func120, Tryz.ntmps120
  go_wp2_with (first | (go_at_call 142; refine (ce _).mono ?_; rintro e w1 ⟨rfl, hx1⟩; obtain ⟨q0', q1'⟩ := HQ.out _ (hx1.toS F)) | (go_at_call 103; refine (cs _).mono ?_; rintro e w2 ⟨rfl, rfl⟩))
  have hx2 := hx1.drew
  refine wp_region_eagerS F [(0, false), (1, false), (3, false), (4, false), (5, false), (2, true), (6, true)] (by kernel_rfl) (by kernel_rfl) rfl (by kernel_rfl) (fun _ _ _ _ _ h => h) ?_
  generalize w2.drew = W2 at *
  have g0 : ∀ w', ExtS F W2 w' → w'.cell? ⟨w.heap.size, 0, none⟩ = some (.int .u32 A) := fun w' h => (HQ.out _ ((hx2.toS F).trans h)).1
  have g1 : ∀ w', ExtS F W2 w' → w'.cell? ⟨w.heap.size, 1, none⟩ = some (.int .i64 N) := fun w' h => (HQ.out _ ((hx2.toS F).trans h)).2
  clear q0 q1 q0' q1'
  iterate 5 (refine wpE_read (v := ?_) rfl (by rfl) ?_ ?_; rotate_left; (focus (intro w' hx; go_simp; first | done | with_reducible rfl)); simp only [Act.put, List.setIfInBounds_toArray, List.set_cons_zero, List.set_cons_succ])
  refine wpE_call rfl (by rfl) (fun K hK => ?_); go_simp; first | (go_at_call 104; refine (HCB.out _ (hA0.trans hx2)).mono ?_; rintro e w3 ⟨rfl, rfl⟩; refine hK _ _ (ExtS.refl _ _) ?_; clear hK K)
  refine wpE_call rfl (by rfl) (fun K hK => ?_); go_simp; first | (go_at_call 120; refine (HCR.out _ (hA0.trans hx2)).mono ?_; rintro e w4 ⟨rfl, hans⟩; have HAN : Hid _ := hans; clear hans; refine hK _ _ (by obtain ⟨_, _, _, h, _⟩ := HAN.out; exact h) ?_; clear hK K)
  refine wpE_done ?_
  clear g0 g1
  obtain ⟨T1, t1, t2, t3, t4, t5, t6⟩ := HAN.out
  have u1 : onT T1 A k = some b := by unfold onT; rw [t5 _ _ (by omega)]; exact HB.out
  have u2 : T1 (k + 1) (plN k A) = some nb := by rw [t5 _ _ (Nat.le_refl _)]; exact HNB.out
  have HU1 : Hid (onT T1 A k = some b) := u1
  have HU2 : Hid (T1 (k + 1) (plN k A) = some nb) := u2
  have c1 : w4.cell? ⟨b, off + 1, none⟩ = some (.pointer (some ⟨nb, 0, none⟩)) := by
    have := t1.to_cell u1
    rw [hsz, hoff, u2] at this; exact this
  have c2 : w4.frozen? ⟨b, off + 1, none⟩ = false := (t1.tab _ _ _ u1).frozen _
  obtain ⟨cs, k1, k2, k3⟩ := t1.tab _ _ _ u2
  rw [sz_next] at k2 k3
  have hsize : (Tryz.prog.info? 197).map (·.size) = some cs.size := by rw [k2, size_block]
  have heq := eql_block k3
  have hem := empty_iff HPf.out HE.out t4 t1.top hk1 (plN k A) (pl_lt k A hA hk2)
  obtain ⟨c, hc⟩ : ∃ c, c = (List.range 256).all fun i => (f (k + 1) (plN k A * 256 + i)).isNone && (T1 (k + 1 + 1) (plN k A * 256 + i)).isNone := ⟨_, rfl⟩
  rw [← hc] at heq
  have hcd : c = true ↔ domB (E.map (·.1)) (k + 1) (plN k A) = false := by
    rw [← hem, hc, List.all_eq_true]
    constructor
    · intro h i hi
      have := h i (List.mem_range.2 hi)
      simpa using this
    · intro h i hi
      obtain ⟨h1, h2⟩ := h i (List.mem_range.1 hi)
      rw [h1, h2]; rfl
  have HCD : Hid _ := hcd
  have HEM : Hid _ := hem
  have HT1 : Hid (Tabs w4 T1 f) := t1
  have HT2 : Hid _ := t2
  have hX : ExtS F w w4 := (hA0.toS F).trans ((hx2.toS F).trans t3)
  have HT4 : Hid (DisR T1 (E.map (·.1)) A (lvN N) (k + 1)) := t4
  have HT5 : Hid _ := t5
  have HT6 : Hid _ := t6
  have HCS : Hid (w4.heap[nb]? = some (.cells cs 197 (0, 0))) := k1
  have m1 := more_le (E.map (·.1)) A (lvN N)
  have m2 := more_mono (E.map (·.1)) A (show k + 1 ≤ lvN N from HKL.out)
  have m3 := lvN_le N
  obtain ⟨oo, hoo⟩ : ∃ oo : Int, oo = o - ((moreN (E.map (·.1)) A (lvN N) : Int) - (moreN (E.map (·.1)) A (k + 1) : Int)) := ⟨_, rfl⟩
  have hoo1 : -10 ≤ oo ∧ oo ≤ 1000000 := by have := HO0.out; omega
  have HOO : Hid _ := hoo
  have d1 : w4.cell? ⟨db, 1, none⟩ = some (.int .i64 oo) := by rw [heap_cell t2, hoo]; rfl
  have d2 : w4.frozen? ⟨db, 1, none⟩ = false := heap_frozen t2
  have hbd : ¬ b = db := t1.ne_dir t2 u1
  have hbd' : ¬ db = b := fun h => hbd h.symm
  have hub := under_block
  clear t1 t2 t3 t4 t5 t6 k1 k2 k3 u1 u2 hc hcd hem hoo m1 m2 m3
  cases c with
  | false =>
    go_wp2_with (refine wpl_block (by rfl) 197 _ (by rfl) nb cs 197 _ (by rfl) HCS.out hub (by rfl) hsize ?_)
    go_end0
    have hdom : domB (E.map (·.1)) (k + 1) (plN k A) = true := by
      cases hh : domB (E.map (·.1)) (k + 1) (plN k A) with
      | true => rfl
      | false => have := HCD.out.2 hh; cases this
    have hm : moreN (E.map (·.1)) A (k + 1) = moreN (E.map (·.1)) A k := by simp only [moreN, hdom, if_true]; omega
    refine ⟨rfl, T1, HT1.out, ?_, hX, fun j n h1 h2 => ?_, fun j n hj => HT5.out j n (by omega), HT6.out⟩
    · rw [← hm]; exact HT2.out
    · rw [HT4.out j n h1 h2]
      constructor
      · rintro (h | ⟨h3, h4, h5⟩)
        · exact .inl h
        · by_cases e : j = k + 1
          · subst e
            rw [h5]; exact .inl hdom
          · exact .inr ⟨by omega, h4, h5⟩
      · rintro (h | ⟨h3, h4, h5⟩)
        · exact .inl h
        · exact .inr ⟨by omega, h4, h5⟩
  | true =>
    go_wp2_with (refine wpl_block (by rfl) 197 _ (by rfl) nb cs 197 _ (by rfl) HCS.out hub (by rfl) hsize ?_)
    go_end0
    have hdom : domB (E.map (·.1)) (k + 1) (plN k A) = false := HCD.out.1 trivial
    have hm : moreN (E.map (·.1)) A (k + 1) = moreN (E.map (·.1)) A k + 1 := by simp [moreN, hdom]
    have hcut := dis_cut HT1.out hk1 HU1.out HU2.out (by rw [HOO.out]; exact HT2.out : w4.heap[db]? = some (dirO mo (.int .i64 oo) mp dn st sm (tbV 0 (T1 0 0)))) (HEM.out.2 hdom) _ rfl
    rw [hsz, hoff] at hcut
    obtain ⟨e1, e2, e3⟩ := hcut
    have hbF : b ∈ F := HF2.out _ _ _ HB.out
    have hX3 := hX.then e3 (fun x hx' => by
      rcases List.mem_cons.1 hx' with rfl | hx'
      · exact .inl hbF
      · rw [List.mem_singleton.1 hx']; exact .inl hF1)
    refine ⟨rfl, _, e1, ?_, hX3, fun j n h1 h2 => ?_, fun j n hj => ?_, fun j n b' hh => ?_⟩
    · rw [putT_other _ _ (by omega), e2, HOO.out, hm]
      congr 3
      push_cast
      omega
    · by_cases a : j = k + 1 ∧ n = plN k A
      · rw [a.1, a.2, putT_same, hdom]
        constructor
        · intro h; cases h
        · rintro (h | ⟨h3, -, -⟩)
          · cases h
          · omega
      · rw [putT_other _ _ a, HT4.out j n h1 h2]
        constructor
        · rintro (h | ⟨h3, h4, h5⟩)
          · exact .inl h
          · by_cases e : j = k + 1
            · subst e
              exact absurd ⟨rfl, h5⟩ a
            · exact .inr ⟨by omega, h4, h5⟩
        · rintro (h | ⟨h3, h4, h5⟩)
          · exact .inl h
          · exact .inr ⟨by omega, h4, h5⟩
    · rw [putT_other _ _ (by omega)]; exact HT5.out j n (by omega)
    · by_cases a : j = k + 1 ∧ n = plN k A
      · rw [a.1, a.2, putT_same] at hh; cases hh
      · rw [putT_other _ _ a] at hh; exact HT6.out j n b' hh

theorem disown_any (db A N : Nat) (mo mp dn st sm : Value) (E : List (PX × Nat)) (f : Nat → Nat → Option Nat) (hf : Painted E f) (hE : ∀ x ∈ E, Vp x.1) (hA : A < 4294967296) (hN : N ≤ 32) (o : Int) (T : Nat → Nat → Option Nat) (F : List Nat) : ∀ (d k : Nat) (w : World), lvN N = k + d → Tabs w T f →
    w.heap[db]? = some (dirO mo (.int .i64 o) mp dn st sm (tbV 0 (T 0 0))) → db ∈ F → (∀ k n b, T k n = some b → b ∈ F) → (∀ x ∈ F, x < w.heap.size) → DisR T (E.map (·.1)) A (lvN N) (lvN N) → onT T A 0 ≠ none → 0 ≤ o → o ≤ 1000000 →
    Calls Tryz.prog 120 #[.pointer (some ⟨db, 0, none⟩), tbV k (onT T A k), .agg #[.int .u32 A, .int .i64 N], .int .i64 (beN k)] w fun e w' => e = .returned (.tuple #[]) ∧ DisAns db A (lvN N) k o mo mp dn st sm (E.map (·.1)) T f F w w'
  | 0, k, w, hk, hT, hd, hF1, hF2, hF3, hR, h0, ho0, ho => disown_base db A N mo mp dn st sm E f hf hE hA hN k o T F w hk hT hd hF1 hF2 hF3 hR h0 ho0 ho
  | d + 1, k, w, hk, hT, hd, hF1, hF2, hF3, hR, h0, ho0, ho =>
    disown_step db A N mo mp dn st sm E f hf hE hA hN k o T F w (by omega) hT hd hF1 hF2 hF3 hR h0 ho0 ho (fun w' hx' =>
      disown_any db A N mo mp dn st sm E f hf hE hA hN o T F d (k + 1) w' (by omega) (hT.ext hx') (hx'.heap hd) hF1 hF2 (fun x hx => Nat.lt_of_lt_of_le (hF3 x hx) hx'.size) hR h0 ho0 ho)
end Go.Proofs.YtkfhkhgiojpfoaaGreat.Dr

namespace Go.Proofs.YtkfhkhgiojpfoaaGreat.Dr

set_option maxRecDepth 100000

open Go.RowKit Go.Proofs.YtkfhkhgiojpfoaaGreat Go.Proofs.YtkfhkhgiojpfoaaGreat.Tri

set_option linter.unusedVariables false

def dnV (mb : Option Nat) : Int := match mb with
  | none => 0
  | some _ => 1

/-- A Dir of the prefixes of E (each with the block that tells its number), in the blocks F. -/
structure DirIn (w : World) (db : Nat) (most : Int) (E : List (PX × Nat)) (V : PX → Int) (T f : Nat → Nat → Option Nat) (mb : Option Nat) (F : List Nat) : Prop where
  obj : w.heap[db]? = some (dirO (.int .i64 most) (.int .i64 (ownN (E.map (·.1)) : Nat)) (.map mb) (.int .u32 (dnV mb)) (.int .i32 0) (.int .u32 0) (tbV 0 (T 0 0)))
  begun : mb = none ↔ T 0 0 = none
  map : ∀ m, mb = some m → MapAt w m E
  nomap : mb = none → E = []
  tabs : Tabs w T f
  dom : DisR T (E.map (·.1)) 0 0 0
  paint : Painted E f
  valid : ∀ x ∈ E, Vp x.1
  keys : (E.map (·.1)).Nodup
  blks : (E.map (·.2)).Nodup
  laid : ∀ x ∈ E, w.heap[x.2]? = some (.cells #[.int .i64 x.1.2, .int .i64 (V x.1)] 159 (0, 0))
  fdb : db ∈ F
  fmap : ∀ m, mb = some m → m ∈ F
  ftab : ∀ k n b, T k n = some b → b ∈ F
  flaid : ∀ x ∈ E, x.2 ∈ F
  lt : ∀ x ∈ F, x < w.heap.size

section

variable {w w' : World} {db : Nat} {most : Int} {E : List (PX × Nat)} {V : PX → Int} {T f : Nat → Nat → Option Nat} {mb : Option Nat} {F : List Nat}

theorem DirIn.later {G : List Nat} (h : DirIn w db most E V T f mb F) (hx : ExtS G w w') (hd : ∀ x ∈ F, x ∉ G) : DirIn w' db most E V T f mb F :=
  ⟨hx.heap (hd _ h.fdb) h.obj, h.begun, fun m e => (h.map m e).later hx (hd _ (h.fmap m e)), h.nomap, h.tabs.later hx (fun k n b e => hd _ (h.ftab k n b e)), h.dom, h.paint, h.valid, h.keys, h.blks,
    fun x hx' => hx.heap (hd _ (h.flaid x hx')) (h.laid x hx'), h.fdb, h.fmap, h.ftab, h.flaid, fun x hx' => Nat.lt_of_lt_of_le (h.lt x hx') hx.size⟩

theorem DirIn.ext (h : DirIn w db most E V T f mb F) (hx : Ext w w') : DirIn w' db most E V T f mb F := h.later (hx.toS []) (by simp)

theorem once_any (h : DirIn w db most E V T f mb F) : Calls Tryz.prog 123 #[.pointer (some ⟨db, 3, none⟩), .func (.func 124) #[.pointer (some ⟨db, 0, none⟩)] #[]] w fun e w' => e = .returned (.tuple #[]) ∧
    ∃ m T' F', DirIn w' db most E V T' f (some m) F' ∧ ExtS F w w' ∧ (∀ x ∈ F', x ∈ F ∨ w.heap.size ≤ x) ∧ (∀ x ∈ F, x ∈ F') ∧ (∀ k n, 1 ≤ k → T' k n = T k n) := by
  cases mb with
  | some m =>
    refine (do_done db _ _ _ _ _ _ _ w h.obj).mono ?_
    rintro e w' ⟨rfl, rfl⟩
    exact ⟨rfl, m, T, F, h, ExtS.refl _ _, fun x hx => .inl hx, fun x hx => hx, fun _ _ _ => rfl⟩
  | none =>
    have hE : E = [] := h.nomap rfl
    subst hE
    have hT0 : T 0 0 = none := h.begun.1 rfl
    have hobj := h.obj
    rw [hT0] at hobj
    have hTn : ∀ k n, T k n = none := fun k n => by
      match k with
      | 0 =>
        cases hh : T 0 n with
        | none => rfl
        | some b => rw [h.tabs.at0 n b hh, hT0] at hh; cases hh
      | k + 1 =>
        rcases Nat.lt_or_ge 2 (k + 1) with hl | hl
        · exact h.tabs.top _ _ hl
        · have := h.dom (k + 1) n (by omega) hl
          cases hh : T (k + 1) n with
          | none => rfl
          | some b =>
            rw [hh] at this
            rcases this.1 rfl with h1 | h1
            · simp [domB] at h1
            · omega
    have hfn : ∀ k m, f k m = none := fun k m => h.tabs.bare k m (hTn _ _)
    refine (do_first db _ _ w hobj).mono ?_
    rintro e w' ⟨rfl, m, g, k1, ⟨b1, b2, b3, b4⟩, k3⟩
    have hg := b4.lt
    have hm : m < w'.heap.size := by obtain ⟨es, cl, hb, -⟩ := b3; exact heap_lt hb
    have hne : ∀ x ∈ F, x ≠ m ∧ x ≠ g := fun x hx => by have := h.lt x hx; omega
    refine ⟨rfl, m, putT T 0 0 (some g), m :: g :: F, ?_, k3.mono (fun b hb => by rw [List.mem_singleton.1 hb]; exact h.fdb), fun x hx => ?_, fun x hx => by simp [hx], fun k n hk => putT_other _ _ (by omega)⟩
    · have htb : Tabs w' (putT T 0 0 (some g)) f := by
        refine ⟨fun n b e => ?_, fun k n hk => ?_, fun k n b e => ?_, fun k n k' n' b e e' => ?_, fun k mm b e => ?_, fun k mm e => hfn k mm⟩
        · by_cases a : (0 : Nat) = 0 ∧ n = 0
          · exact a.2
          · rw [putT_other _ _ a, hTn] at e; cases e
        · rw [putT_other _ _ (by omega)]; exact hTn _ _
        · by_cases a : k = 0 ∧ n = 0
          · obtain ⟨rfl, rfl⟩ := a
            rw [putT_same] at e
            cases e
            refine b4.congr (fun i _ => hfn _ _) (fun i _ => ?_)
            rw [putT_other _ _ (by omega)]; exact hTn _ _
          · rw [putT_other _ _ a, hTn] at e; cases e
        · by_cases a : k = 0 ∧ n = 0
          · by_cases a' : k' = 0 ∧ n' = 0
            · omega
            · rw [putT_other _ _ a', hTn] at e'; cases e'
          · rw [putT_other _ _ a, hTn] at e; cases e
        · rw [putT_other _ _ (by omega), hTn] at e; cases e
      refine ⟨?_, ⟨(fun e => by cases e), (fun e => by rw [putT_same] at e; cases e)⟩, (fun m' e => by cases e; exact b3), (fun e => by cases e), htb, fun j n h1 h2 => ?_, h.paint, by simp, by simp, by simp, by simp, by simp [h.fdb], (fun m' e => by cases e; simp), fun k n b e => ?_, by simp, fun x hx => ?_⟩
      · rw [putT_same]; exact k1
      · rw [putT_other _ _ (by omega)]; exact h.dom j n h1 h2
      · by_cases a : k = 0 ∧ n = 0
        · rw [a.1, a.2, putT_same] at e; cases e; simp
        · rw [putT_other _ _ a, hTn] at e; cases e
      · rcases List.mem_cons.1 hx with rfl | hx
        · exact hm
        · rcases List.mem_cons.1 hx with rfl | hx
          · exact hg
          · exact Nat.lt_of_lt_of_le (h.lt x hx) k3.size
    · rcases List.mem_cons.1 hx with rfl | hx
      · exact .inr b1
      · rcases List.mem_cons.1 hx with rfl | hx
        · exact .inr b2
        · exact .inl hx

end

/-- None. -/
theorem none_in (w : World) (db : Nat) (most : Int) (V : PX → Int) (h : w.heap[db]? = some (dirO (.int .i64 most) (.int .i64 0) (.map none) (.int .u32 0) (.int .i32 0) (.int .u32 0) (.slice none 0 0))) :
    DirIn w db most [] V (fun _ _ => none) (fun _ _ => none) none [db] :=
  ⟨h, ⟨fun _ => rfl, fun _ => rfl⟩, (fun m e => by cases e), fun _ => rfl, ⟨(fun n b e => by cases e), fun _ _ _ => rfl, (fun k n b e => by cases e), (fun k n k' n' b e => by cases e), (fun k m b e => by cases e), fun _ _ _ => rfl⟩,
    fun j n h1 h2 => ⟨(fun e => by cases e), fun e => by rcases e with e | e; simp [domB] at e; omega⟩, (fun k m _ _ x hx => by cases hx), by simp, by simp, by simp, by simp, by simp, (fun m e => by cases e), (fun k n b e => by cases e), by simp, fun x hx => by rw [List.mem_singleton.1 hx]; exact heap_lt h⟩

def maxV (n : Int) : Int := if n < 0 then 0 else n

theorem new_any (n : Int) (w : World) : Calls Tryz.prog 46 #[.int .i64 n] w fun e w' => e = .returned (.pointer (some ⟨w.heap.size, 0, none⟩)) ∧ Ext w w' ∧ DirIn w' w.heap.size (maxV n) [] (fun _ => 0) (fun _ _ => none) (fun _ _ => none) none [w.heap.size] := by
  have hx0 : ∀ o : Obj, Ext w (w.alloc o) := fun o => (Ext.refl w).alloc o
  go_enter Tryz.func46, Tryz.ntmps46
  go_wp2_with fail
  all_goals go_ret
  · refine ⟨rfl, hx0 _, ?_⟩
    rw [show maxV n = 0 by unfold maxV; rw [if_pos h]]
    exact none_in _ _ 0 _ (heap_new w _)
  · refine ⟨rfl, hx0 _, ?_⟩
    rw [show maxV n = n by unfold maxV; rw [if_neg (by omega)]]
    exact none_in _ _ n _ (heap_new w _)

/-! Look. -/

theorem fnd_bst {E : List (PX × Nat)} {f : Nat → Nat → Option Nat} (hp : Painted E f) (hv : ∀ x ∈ E, Vp x.1) {A : Nat} (hA : A < 4294967296) : ∀ k, k ≤ 3 → Bst E 0 (loN k) A (fndN f A k)
  | 0, _ => fun x hx a1 a2 => absurd a2 (by simp only [loN]; omega)
  | k + 1, hk => by
    have ih := fnd_bst hp hv hA k (by omega)
    have hb := hp k (plN k A) (by omega) (pl_lt k A hA (by omega))
    have hb' : Bst E (loN k) (loN (k + 1)) A (f k (plN k A)) := by
      cases hf : f k (plN k A) with
      | none =>
        rw [hf] at hb
        intro x hx a1 a2
        rw [cov_place (hv x hx) (by omega) a2]
        exact hb x hx a1 a2
      | some b =>
        rw [hf] at hb
        obtain ⟨p, h1, h2, h3, h4, h5⟩ := hb
        refine ⟨p, h1, h2, h3, by rw [cov_place (hv _ h1) (k := k) (by omega) h3]; exact h4, fun x hx a1 a2 a3 => h5 x hx a1 a2 ?_⟩
        rw [← cov_place (hv x hx) (by omega) a2]; exact a3
    have hle : loN k ≤ loN (k + 1) := by
      match k, hk with
      | 0, _ => decide
      | 1, _ => decide
      | 2, _ => decide
    simp only [fndN]
    cases hf : f k (plN k A) with
    | none => rw [hf] at hb'; exact bst_join (Nat.zero_le _) hle ih hb'
    | some b => rw [hf] at hb'; exact bst_join (Nat.zero_le _) hle ih hb'

/-- The number of a block. -/
def nvE (E : List (PX × Nat)) (V : PX → Int) (b : Nat) : Int := match E.find? fun x => x.2 == b with
  | some x => V x.1
  | none => 0

theorem nvE_of {E : List (PX × Nat)} {V : PX → Int} (hn : (E.map (·.2)).Nodup) {p : PX} {b : Nat} (h : (p, b) ∈ E) : nvE E V b = V p := by
  unfold nvE
  cases hf : E.find? (fun x => x.2 == b) with
  | none =>
    have := List.find?_eq_none.1 hf _ h
    simp at this
  | some x =>
    have h1 := List.mem_of_find?_eq_some hf
    have h2 := List.find?_some hf
    simp only [beq_iff_eq] at h2
    have : x = (p, b) := by
      have key : ∀ (E : List (PX × Nat)), (E.map (·.2)).Nodup → ∀ x ∈ E, ∀ y ∈ E, x.2 = y.2 → x = y := by
        intro E; induction E with
        | nil => intro _ x hx; cases hx
        | cons z E ih =>
          intro hn x hx y hy e
          rw [List.map_cons, List.nodup_cons] at hn
          rcases List.mem_cons.1 hx with rfl | hx1
          · rcases List.mem_cons.1 hy with rfl | hy1
            · rfl
            · exact absurd (List.mem_map.2 ⟨y, hy1, e.symm⟩) hn.1
          · rcases List.mem_cons.1 hy with rfl | hy1
            · exact absurd (List.mem_map.2 ⟨x, hx1, e⟩) hn.1
            · exact ih hn.2 x hx1 y hy1 e
      exact key E hn x h1 (p, b) h h2
    rw [this]

theorem look_in {w : World} {db A : Nat} {most : Int} {E : List (PX × Nat)} {V : PX → Int} {T f : Nat → Nat → Option Nat} {mb : Option Nat} {F : List Nat} (h : DirIn w db most E V T f mb F) (hA : A < 4294967296) :
    Calls Tryz.prog 76 #[.pointer (some ⟨db, 0, none⟩), .int .u32 A] w fun e w' => (∃ o, Bst E 0 33 A o ∧ e = .returned (numV o (nvE E V))) ∧ w' = w := by
  have hb := fnd_bst h.paint h.valid hA 3 (Nat.le_refl _)
  refine (look_any db A T f (nvE E V) w h.tabs (by rw [heap_cell h.obj]; rfl) hA (fun b e => ?_)).mono ?_
  · rw [e] at hb
    obtain ⟨p, h1, -⟩ := hb
    rw [nvE_of h.blks h1, heap_cell (h.laid _ h1)]; rfl
  · rintro e w' ⟨rfl, rfl⟩
    exact ⟨⟨_, hb, rfl⟩, rfl⟩
end Go.Proofs.YtkfhkhgiojpfoaaGreat.Dr

namespace Go.Proofs.YtkfhkhgiojpfoaaGreat.Dr

set_option maxRecDepth 100000

open Go.RowKit Go.Proofs.YtkfhkhgiojpfoaaGreat Go.Proofs.YtkfhkhgiojpfoaaGreat.Tri

set_option linter.unusedVariables false

theorem set_arg (db : Nat) (a n v : Int) (w : World) (a0 : 0 ≤ a) (a1 : a ≤ 4294967295) (h : isV a n = false ∨ v < 0) : Calls Tryz.prog 99 #[.pointer (some ⟨db, 0, none⟩), .agg #[.int .u32 a, .int .i64 n], .int .i64 v] w fun e w' => e = .returned (.int .i64 1) ∧ Ext w w' := by
  have hx0 : Ext w (w.alloc (.cells #[.int .u32 a, .int .i64 n] 42)) := (Ext.refl w).alloc _
  have ci := fun w => is_any a n w a0 a1
  have hnot : ∀ (x : Bool) (w : World), (Op.unary .not (.bool x)).run Tryz.prog w = .ok (.bool (!x)) w := fun _ _ => rfl
  cases hi : isV a n with
  | false =>
    rw [hi] at ci
    clear hi h
    go_enter Tryz.func99, Tryz.ntmps99
    go_wp2_with (go_at_call 87; refine (ci _).mono ?_; rintro e w1 ⟨rfl, hx1⟩)
    go_ret
    exact ⟨rfl, hx0.trans hx1⟩
  | true =>
    have hv : v < 0 := by rcases h with h | h; rw [hi] at h; cases h; exact h
    rw [hi] at ci
    clear hi h
    go_enter Tryz.func99, Tryz.ntmps99
    go_wp2_with (go_at_call 87; refine (ci _).mono ?_; rintro e w1 ⟨rfl, hx1⟩)
    go_ret
    exact ⟨rfl, hx0.trans hx1⟩

theorem DirIn.look {w : World} {db : Nat} {most : Int} {E : List (PX × Nat)} {V : PX → Int} {T f : Nat → Nat → Option Nat} {mb : Option Nat} {F : List Nat} (h : DirIn w db most E V T f mb F) (p : PX) : (Instr.lookup 104 (.map mb) (keyV p) false).run Tryz.prog w = .ok (ptV (lk E p)) w := by
  cases mb with
  | none => rw [h.nomap rfl]; exact look_nil w p
  | some m => exact look_px (h.map m rfl) p

theorem ms_more {T : Nat → Nat → Option Nat} {K : List PX} (h : DisR T K 0 0 0) (A : Nat) : ∀ j, j ≤ 2 → msN T A j = moreN K A j
  | 0, _ => rfl
  | j + 1, hj => by
    have ih := ms_more h A j (by omega)
    simp only [msN, moreN, ih]
    congr 1
    have := h (j + 1) (plN j A) (by omega) hj
    cases hh : T (j + 1) (plN j A) with
    | none =>
      rw [hh] at this
      have hd : domB K (j + 1) (plN j A) = false := by
        cases hd : domB K (j + 1) (plN j A) with
        | false => rfl
        | true => have := this.2 (.inl hd); cases this
      rw [hd]; rfl
    | some b =>
      rw [hh] at this
      have hd : domB K (j + 1) (plN j A) = true := by
        rcases this.1 rfl with h | h
        · exact h
        · omega
      rw [hd]; rfl

/-- What of a Dir is read, in every later world. -/
theorem DirIn.reads {w : World} {db : Nat} {most : Int} {E : List (PX × Nat)} {V : PX → Int} {T f : Nat → Nat → Option Nat} {mb : Option Nat} {F : List Nat} (h : DirIn w db most E V T f mb F) : ∀ w', Ext w w' →
    w'.cell? ⟨db, 0, none⟩ = some (.int .i64 most) ∧ w'.cell? ⟨db, 1, none⟩ = some (.int .i64 (ownN (E.map (·.1)) : Nat)) ∧ w'.cell? ⟨db, 2, none⟩ = some (.map mb) ∧ w'.cell? ⟨db, 6, none⟩ = some (tbV 0 (T 0 0)) := fun w' hx => by
  have := hx.heap h.obj
  exact ⟨by rw [heap_cell this]; rfl, by rw [heap_cell this]; rfl, by rw [heap_cell this]; rfl, by rw [heap_cell this]; rfl⟩

section

variable {w : World} {db : Nat} {most : Int} {E : List (PX × Nat)} {V : PX → Int} {T f : Nat → Nat → Option Nat} {mb : Option Nat} {F : List Nat}

set_option maxHeartbeats 1000000 in
theorem set_here (h : DirIn w db most E V T f mb F) (a n v : Int) (hp : Vp (a, n)) (hv : 0 ≤ v) (b : Nat) (hl : lk E (a, n) = some b) :
    Calls Tryz.prog 99 #[.pointer (some ⟨db, 0, none⟩), .agg #[.int .u32 a, .int .i64 n], .int .i64 v] w fun e w' => e = .returned (.int .i64 0) ∧ DirIn w' db most E (fun q => if q = (a, n) then v else V q) T f mb F ∧ ExtS F w w' := by
  obtain ⟨a0, a1, -, -⟩ := hp.bd
  have hx0 : Ext w (w.alloc (.cells #[.int .u32 a, .int .i64 n] 42)) := (Ext.refl w).alloc _
  have hn := heap_new w (.cells #[.int .u32 a, .int .i64 n] 42)
  have hq : ∀ w', Ext (w.alloc (.cells #[.int .u32 a, .int .i64 n] 42)) w' → w'.cell? ⟨w.heap.size, 0, none⟩ = some (.int .u32 a) ∧ w'.cell? ⟨w.heap.size, 1, none⟩ = some (.int .i64 n) := fun w' hx => ⟨by rw [heap_cell (hx.heap hn)]; rfl, by rw [heap_cell (hx.heap hn)]; rfl⟩
  have HQ : Hid _ := hq
  have ci := fun w => is_any a n w a0 a1
  rw [hp.is] at ci
  have hnot : ∀ (x : Bool) (w : World), (Op.unary .not (.bool x)).run Tryz.prog w = .ok (.bool (!x)) w := fun _ _ => rfl
  have hr : ∀ w', Ext w w' → w'.cell? ⟨db, 2, none⟩ = some (.map mb) := fun w' hx => (h.reads w' hx).2.2.1
  have hlk : ∀ w', Ext w w' → (Instr.lookup 104 (.map mb) (.agg #[.int .u32 a, .int .i64 n]) false).run Tryz.prog w' = .ok (.pointer (some ⟨b, 0, none⟩)) w' := fun w' hx => by
    have := (h.ext hx).look (a, n)
    rw [hl] at this; exact this
  have hmem := lk_mem hl
  have hld : ∀ w', Ext w w' → w'.cell? ⟨b, 1, none⟩ = some (.int .i64 (V (a, n))) ∧ w'.frozen? ⟨b, 1, none⟩ = false := fun w' hx => by
    have := hx.heap (h.laid _ hmem)
    exact ⟨by rw [heap_cell this]; rfl, heap_frozen this⟩
  have hfin : ∀ w', Ext w w' → DirIn (w'.setCell ⟨b, 1, none⟩ (.int .i64 v)) db most E (fun q => if q = (a, n) then v else V q) T f mb F ∧ ExtS F w (w'.setCell ⟨b, 1, none⟩ (.int .i64 v)) := fun w' hx => by
    have h' := h.ext hx
    have hxs : ExtS [b] w' (w'.setCell ⟨b, 1, none⟩ (.int .i64 v)) := (ExtS.refl _ _).setCell (.inl (by simp)) _
    have hbo := h'.laid _ hmem
    have hbx := heap_set (k := 1) hbo (.int .i64 v)
    refine ⟨⟨?_, h'.begun, fun m e => (h'.map m e).later hxs ?_, h'.nomap, h'.tabs.later hxs (fun k n' b' e => ?_), h'.dom, h'.paint, h'.valid, h'.keys, h'.blks, fun x hx' => ?_, h'.fdb, h'.fmap, h'.ftab, h'.flaid, fun x hx' => Nat.lt_of_lt_of_le (h'.lt x hx') hxs.size⟩, ((hx.toS F).then hxs (fun x hx' => by rw [List.mem_singleton.1 hx']; exact .inl (h.flaid _ hmem)))⟩
    · refine hxs.heap ?_ h'.obj
      intro e
      have e := List.mem_singleton.1 e
      have ho := h'.obj
      rw [e, hbo] at ho
      simp only [dirO, Option.some.injEq, Obj.cells.injEq] at ho
      exact absurd ho.2.1 (by decide)
    · intro e
      have e := List.mem_singleton.1 e
      obtain ⟨es, cl, hm, -⟩ := h'.map m (by assumption)
      rw [e, hbo] at hm; cases hm
    · intro e2
      have e2 := List.mem_singleton.1 e2
      obtain ⟨cs, hc, -, -⟩ := h'.tabs.tab k n' b' e
      rw [e2, hbo] at hc
      simp only [Option.some.injEq, Obj.cells.injEq] at hc
      have : tyN k ≠ 159 := by match k with
        | 0 => decide
        | k + 1 => rw [ty_next]; decide
      exact this hc.2.1.symm
    · by_cases e : x.2 = b
      · have ex : x = ((a, n), b) := by
          have h1 := nvE_of (V := fun q => q.1) h.blks (p := x.1) (b := b) (by rw [← e]; exact hx')
          have h2 := nvE_of (V := fun q => q.1) h.blks hmem
          have h3 := nvE_of (V := fun q => q.2) h.blks (p := x.1) (b := b) (by rw [← e]; exact hx')
          have h4 := nvE_of (V := fun q => q.2) h.blks hmem
          have e1 : x.1 = (a, n) := Prod.ext (h1.symm.trans h2) (h3.symm.trans h4)
          exact Prod.ext e1 e
        subst ex
        simp only [if_true]
        exact hbx
      · have ne : x.1 ≠ (a, n) := by
          intro e2
          have key : ∀ (E : List (PX × Nat)), (E.map (·.1)).Nodup → ∀ p b, lk E p = some b → ∀ x ∈ E, x.1 = p → x.2 = b := by
            intro E; induction E with
            | nil => intro _ p b _ x hx; cases hx
            | cons z E ih =>
              intro hn p b hl x hx e
              rw [List.map_cons, List.nodup_cons] at hn
              simp only [lk] at hl
              rcases List.mem_cons.1 hx with rfl | hx1
              · rw [if_pos e] at hl; cases hl; rfl
              · by_cases ez : z.1 = p
                · exact absurd (List.mem_map.2 ⟨x, hx1, e.trans ez.symm⟩) hn.1
                · rw [if_neg ez] at hl
                  exact ih hn.2 p b hl x hx1 e
          exact e (key E h.keys _ _ hl x hx' e2)
        rw [if_neg ne]
        exact hxs.heap (by simpa using e) (h'.laid x hx')
  have HFIN : Hid _ := hfin
  have HR : Hid _ := hr
  have HLK : Hid _ := hlk
  have HLD : Hid _ := hld
  clear hq hn hr hlk hld hfin h hmem hl hp
  generalize hW0 : (w.alloc (.cells #[.int .u32 a, .int .i64 n] 42)) = W0 at *
  go_enter Tryz.func99, Tryz.ntmps99
  obtain ⟨q0, q1⟩ := HQ.out _ (Ext.refl _)
  go_wp2_with (go_at_call 87; refine (ci _).mono ?_; rintro e w1 ⟨rfl, hx1⟩)
  have hx2 := hx1.drew
  refine wp_region_eager [(0, false), (1, false), (2, false), (3, false), (4, false), (5, false), (6, false)] (by kernel_rfl) (by kernel_rfl) rfl (by kernel_rfl) (fun _ _ _ _ _ h => h) ?_
  generalize w1.drew = W2 at *
  have g0 : ∀ w', Ext W2 w' → w'.cell? ⟨w.heap.size, 0, none⟩ = some (.int .u32 a) := fun w' h => (HQ.out _ (hx2.trans h)).1
  have g1 : ∀ w', Ext W2 w' → w'.cell? ⟨w.heap.size, 1, none⟩ = some (.int .i64 n) := fun w' h => (HQ.out _ (hx2.trans h)).2
  have g2 : ∀ w', Ext W2 w' → w'.cell? ⟨db, 2, none⟩ = some (.map mb) := fun w' h => HR.out _ ((hx0.trans hx2).trans h)
  have g3 : ∀ w', Ext W2 w' → (Instr.lookup 104 (.map mb) (.agg #[.int .u32 a, .int .i64 n]) false).run Tryz.prog w' = .ok (.pointer (some ⟨b, 0, none⟩)) w' := fun w' h => HLK.out _ ((hx0.trans hx2).trans h)
  clear q0 q1
  iterate 7 (refine wpE_read (v := ?_) rfl (by rfl) ?_ ?_; rotate_left; (focus (intro w' hx; go_simp; first | done | with_reducible rfl)); simp only [Act.put, List.setIfInBounds_toArray, List.set_cons_zero, List.set_cons_succ])
  refine wpE_done ?_
  clear g0 g1 g2 g3
  obtain ⟨l1, l2⟩ := HLD.out _ (hx0.trans hx2)
  go_wp2_with fail
  go_ret
  exact ⟨rfl, HFIN.out _ (hx0.trans hx2)⟩

end
end Go.Proofs.YtkfhkhgiojpfoaaGreat.Dr

namespace Go.Proofs.YtkfhkhgiojpfoaaGreat.Dr

open Go.RowKit Go.Proofs.YtkfhkhgiojpfoaaGreat Go.Proofs.YtkfhkhgiojpfoaaGreat.Tri

set_option linter.unusedVariables false

def lenB (E : List (PX × Nat)) (b : Nat) : Int := nvE E (fun p => p.2) b

theorem bst_keep {E : List (PX × Nat)} {x : PX × Nat} {lo hi A : Nat} {o : Option Nat} (h : Bst E lo hi A o) (hx : (lo : Int) ≤ x.1.2 → x.1.2 < (hi : Int) → cov x.1 ((A : Int), 32) = false) : Bst (E ++ [x]) lo hi A o := by
  cases o with
  | none =>
    intro y hy a1 a2
    rcases List.mem_append.1 hy with hy | hy
    · exact h y hy a1 a2
    · rw [List.mem_singleton.1 hy] at a1 a2 ⊢; exact hx a1 a2
  | some b =>
    obtain ⟨p, h1, h2, h3, h4, h5⟩ := h
    refine ⟨p, List.mem_append_left _ h1, h2, h3, h4, fun y hy a1 a2 a3 => ?_⟩
    rcases List.mem_append.1 hy with hy | hy
    · exact h5 y hy a1 a2 a3
    · rw [List.mem_singleton.1 hy] at a1 a2 a3
      rw [hx a1 a2] at a3; cases a3

theorem bst_new {E : List (PX × Nat)} {x : PX × Nat} {lo hi A : Nat} {o : Option Nat} (hn : (E.map (·.2)).Nodup) (h : Bst E lo hi A o) (h1 : (lo : Int) ≤ x.1.2) (h2 : x.1.2 < (hi : Int)) (h3 : cov x.1 ((A : Int), 32) = true) (h4 : ∀ b, o = some b → lenB E b < x.1.2) : Bst (E ++ [x]) lo hi A (some x.2) := by
  refine ⟨x.1, List.mem_append_right _ (List.mem_singleton.2 rfl), h1, h2, h3, fun y hy a1 a2 a3 => ?_⟩
  rcases List.mem_append.1 hy with hy | hy
  · cases o with
    | none => rw [h y hy a1 a2] at a3; cases a3
    | some b =>
      obtain ⟨p, k1, k2, k3, k4, k5⟩ := h
      have := k5 y hy a1 a2 a3
      have h4' := h4 b rfl
      unfold lenB at h4'
      rw [nvE_of hn k1] at h4'
      omega
  · rw [List.mem_singleton.1 hy]; exact Int.le_refl _

theorem bst_old {E : List (PX × Nat)} {x : PX × Nat} {lo hi A b : Nat} (hn : (E.map (·.2)).Nodup) (h : Bst E lo hi A (some b)) (h4 : x.1.2 ≤ lenB E b) : Bst (E ++ [x]) lo hi A (some b) := by
  obtain ⟨p, k1, k2, k3, k4, k5⟩ := h
  unfold lenB at h4
  rw [nvE_of hn k1] at h4
  refine ⟨p, List.mem_append_left _ k1, k2, k3, k4, fun y hy a1 a2 a3 => ?_⟩
  rcases List.mem_append.1 hy with hy | hy
  · exact k5 y hy a1 a2 a3
  · rw [List.mem_singleton.1 hy]; exact h4

/-- A prefix's places are those of its level that it has. -/
theorem cov_range {A N m : Nat} (hA : A < 4294967296) (hN : N ≤ 32) (hZ : A % 2 ^ (32 - N) = 0) : cov ((A : Int), (N : Int)) ((adN (lvN N) m : Nat), 32) = true ↔ plN (lvN N) A ≤ m ∧ m < plN (lvN N) A + cntN N := by
  have hv : Vp ((A : Int), (N : Int)) := ⟨A, N, rfl, hN, hA, hZ⟩
  rw [cov_add hv]
  simp only [Int.toNat_natCast]
  have hb := lv_be N hN
  have e1 : adN (lvN N) m / 2 ^ (32 - N) = m / cntN N := by
    rw [div_be (a := beN (lvN N)) (b := 32 - N) (by omega)]
    unfold adN cntN
    rw [Nat.mul_div_cancel _ (Nat.pow_pos (by omega))]
    congr 2
    omega
  have e2 : A / 2 ^ (32 - N) = plN (lvN N) A / cntN N := by
    rw [div_be (a := beN (lvN N)) (b := 32 - N) (by omega)]
    unfold plN cntN
    congr 2
    omega
  rw [e1, e2]
  obtain ⟨q, hq⟩ := cnt_dvd A N hN hZ
  have hc : 0 < cntN N := Nat.pow_pos (by omega)
  rw [hq, Nat.mul_div_cancel_left _ hc]
  constructor
  · intro h
    have h1 := Nat.div_add_mod m (cntN N)
    have h2 := Nat.mod_lt m hc
    rw [← h] at h1
    omega
  · rintro ⟨h1, h2⟩
    symm
    rw [Nat.div_eq_iff hc]
    rw [Nat.mul_comm] at h1 h2
    constructor
    · exact h1
    · omega

/-- Behind cover. -/
def covF (f : Nat → Nat → Option Nat) (bt : Nat → Int) (lv pm cnt l : Nat) : Nat → Nat → Option Nat := fun k m => if k = lv ∧ pm ≤ m ∧ m < pm + cnt ∧ (∀ b, f k m = some b → bt b < bt l) then some l else f k m

/-- Behind uncover. -/
def uncF (f : Nat → Nat → Option Nat) (lv pm cnt l : Nat) (u : Option Nat) : Nat → Nat → Option Nat := fun k m => if k = lv ∧ pm ≤ m ∧ m < pm + cnt ∧ f k m = some l then u else f k m

theorem lv_only {N k : Nat} (hN : N ≤ 32) (hk : k ≤ 2) (h1 : loN k ≤ N) (h2 : N < loN (k + 1)) : k = lvN N := by
  unfold lvN
  match k, hk with
  | 0, _ => simp only [loN] at h1 h2; rw [if_pos (by omega)]
  | 1, _ => simp only [loN] at h1 h2; rw [if_neg (by omega), if_pos (by omega)]
  | 2, _ => simp only [loN] at h1 h2; rw [if_neg (by omega), if_neg (by omega)]

theorem bst_block {E : List (PX × Nat)} {lo hi A b : Nat} (h : Bst E lo hi A (some b)) : b ∈ E.map (·.2) := by
  obtain ⟨p, h1, -⟩ := h
  exact List.mem_map.2 ⟨_, h1, rfl⟩

theorem lenB_app {E : List (PX × Nat)} {x : PX × Nat} {b : Nat} (hn : ((E ++ [x]).map (·.2)).Nodup) (hb : b ∈ E.map (·.2)) : lenB (E ++ [x]) b = lenB E b := by
  obtain ⟨y, hy, rfl⟩ := List.mem_map.1 hb
  have hn' : (E.map (·.2)).Nodup := by
    rw [List.map_append] at hn; exact (List.nodup_append.1 hn).1
  unfold lenB
  rw [nvE_of (p := y.1) (b := y.2) hn (List.mem_append_left _ hy), nvE_of (p := y.1) (b := y.2) hn' hy]

theorem paint_new {E : List (PX × Nat)} {f : Nat → Nat → Option Nat} {A N l : Nat} (hp : Painted E f) (hn : ((E ++ [(((A : Int), (N : Int)), l)]).map (·.2)).Nodup) (hA : A < 4294967296) (hN : N ≤ 32) (hZ : A % 2 ^ (32 - N) = 0) :
    Painted (E ++ [(((A : Int), (N : Int)), l)]) (covF f (lenB (E ++ [(((A : Int), (N : Int)), l)])) (lvN N) (plN (lvN N) A) (cntN N) l) := by
  have hn' : (E.map (·.2)).Nodup := by
    rw [List.map_append] at hn; exact (List.nodup_append.1 hn).1
  have hll : lenB (E ++ [(((A : Int), (N : Int)), l)]) l = N := by
    unfold lenB
    exact nvE_of (V := fun p : PX => p.2) (p := ((A : Int), (N : Int))) hn (List.mem_append_right _ (List.mem_singleton.2 rfl))
  intro k m hk hm
  have hb := hp k m hk hm
  by_cases hkl : k = lvN N
  · subst hkl
    have hlo := lvN_lo N hN
    have hcov := cov_range (m := m) hA hN hZ
    by_cases hr : plN (lvN N) A ≤ m ∧ m < plN (lvN N) A + cntN N
    · have hc := hcov.2 hr
      by_cases hlt : ∀ b, f (lvN N) m = some b → lenB (E ++ [(((A : Int), (N : Int)), l)]) b < lenB (E ++ [(((A : Int), (N : Int)), l)]) l
      · simp only [covF]
        rw [if_pos ⟨trivial, hr.1, hr.2, hlt⟩]
        refine bst_new (x := (((A : Int), (N : Int)), l)) hn' hb (show (_ : Int) ≤ (N : Int) by omega) (show (N : Int) < _ by omega) hc (fun b e => ?_)
        have h1 := hlt b e
        rw [e] at hb
        rw [hll, lenB_app hn (bst_block hb)] at h1
        exact h1
      · simp only [covF]
        rw [if_neg (fun h => hlt h.2.2.2)]
        cases hf : f (lvN N) m with
        | none => exact absurd (fun b e => by rw [hf] at e; cases e) hlt
        | some b =>
          rw [hf] at hb
          refine bst_old hn' hb ?_
          show (N : Int) ≤ _
          rcases Int.lt_or_le (lenB E b) N with h | h
          · exact absurd (fun b' e => by rw [hf] at e; cases e; rw [hll, lenB_app hn (bst_block hb)]; exact h) hlt
          · exact h
    · simp only [covF]
      rw [if_neg (fun h => hr ⟨h.2.1, h.2.2.1⟩)]
      refine bst_keep hb (fun _ _ => ?_)
      cases hc : cov ((A : Int), (N : Int)) ((adN (lvN N) m : Nat), 32) with
      | false => rfl
      | true => exact absurd (hcov.1 hc) hr
  · simp only [covF]
    rw [if_neg (fun h => hkl h.1)]
    refine bst_keep hb (fun a1 a2 => ?_)
    exact absurd (lv_only hN hk (by simpa using a1) (by simpa using a2)) hkl

theorem mem_delE {E : List (PX × Nat)} {p : PX} (hn : (E.map (·.1)).Nodup) {x : PX × Nat} : x ∈ delE E p ↔ x ∈ E ∧ x.1 ≠ p := by
  induction E with
  | nil => simp [delE]
  | cons y E ih =>
    rw [List.map_cons, List.nodup_cons] at hn
    simp only [delE]
    split
    · rename_i e
      constructor
      · intro hx
        refine ⟨List.mem_cons_of_mem _ hx, fun e2 => hn.1 ?_⟩
        rw [e, ← e2]; exact List.mem_map.2 ⟨x, hx, rfl⟩
      · rintro ⟨hx, h2⟩
        rcases List.mem_cons.1 hx with rfl | hx
        · exact absurd e h2
        · exact hx
    · rename_i e
      rw [List.mem_cons, ih hn.2, List.mem_cons]
      constructor
      · rintro (rfl | ⟨h1, h2⟩)
        · exact ⟨.inl rfl, e⟩
        · exact ⟨.inr h1, h2⟩
      · rintro ⟨rfl | h1, h2⟩
        · exact .inl rfl
        · exact .inr ⟨h1, h2⟩

theorem perm_delE {E : List (PX × Nat)} {p : PX} {b : Nat} (h : lk E p = some b) : E.Perm ((p, b) :: delE E p) := by
  induction E with
  | nil => cases h
  | cons y E ih =>
    simp only [lk] at h
    simp only [delE]
    split
    · rename_i e
      rw [if_pos e] at h
      cases h
      rw [← e]
    · rename_i e
      rw [if_neg e] at h
      exact ((ih h).cons y).trans (List.Perm.swap _ _ _)

/-- Of a shorter one: it has a prefix's address if it has any address that the prefix has. -/
theorem cov_shorter {p x : PX} (hp : Vp p) (hx : Vp x) {B : Nat} (hb : cov p ((B : Int), 32) = true) (hl : x.2 ≤ p.2) : cov x ((p.1.toNat : Nat), 32) = cov x ((B : Int), 32) := by
  rw [Bool.eq_iff_iff, cov_add hx, cov_add hx]
  rw [cov_add hp] at hb
  obtain ⟨A, N, rfl, hN, hA, -⟩ := hp
  obtain ⟨C, M, rfl, hM, hC, -⟩ := hx
  simp only [Int.toNat_natCast] at *
  have : A / 2 ^ (32 - M) = B / 2 ^ (32 - M) := by
    rw [div_be (a := 32 - N) (b := 32 - M) (by omega), hb, ← div_be (by omega)]
  rw [this]

theorem paint_del {E : List (PX × Nat)} {f : Nat → Nat → Option Nat} {A N l : Nat} {u : Option Nat} (hp : Painted E f) (hv : ∀ x ∈ E, Vp x.1) (hk : (E.map (·.1)).Nodup) (hn : (E.map (·.2)).Nodup) (hA : A < 4294967296) (hN : N ≤ 32) (hZ : A % 2 ^ (32 - N) = 0)
    (hl : (((A : Int), (N : Int)), l) ∈ E) (hu : Bst E (loN (lvN N)) N A u) :
    Painted (delE E ((A : Int), (N : Int))) (uncF f (lvN N) (plN (lvN N) A) (cntN N) l u) := by
  have hvp : Vp ((A : Int), (N : Int)) := ⟨A, N, rfl, hN, hA, hZ⟩
  have hlo := lvN_lo N hN
  have one : ∀ q, (q, l) ∈ E → q = ((A : Int), (N : Int)) := fun q hq => by
    have h1 := nvE_of (V := fun q => q.1) hn hq
    have h2 := nvE_of (V := fun q => q.1) hn hl
    have h3 := nvE_of (V := fun q => q.2) hn hq
    have h4 := nvE_of (V := fun q => q.2) hn hl
    exact Prod.ext (h1.symm.trans h2) (h3.symm.trans h4)
  intro k m hk2 hm
  have hb := hp k m hk2 hm
  by_cases hc : k = lvN N ∧ plN (lvN N) A ≤ m ∧ m < plN (lvN N) A + cntN N ∧ f k m = some l
  · simp only [uncF]
    rw [if_pos hc]
    obtain ⟨rfl, h1, h2, h3⟩ := hc
    have hcov := (cov_range (m := m) hA hN hZ).2 ⟨h1, h2⟩
    rw [h3] at hb
    obtain ⟨q, k1, k2, k3, k4, k5⟩ := hb
    obtain rfl := one q k1
    have sh : ∀ x ∈ E, x.1.2 ≤ (N : Int) → cov x.1 ((A : Int), 32) = cov x.1 ((adN (lvN N) m : Nat), 32) := fun x hx hle => cov_shorter hvp (hv x hx) hcov hle
    have less : ∀ x ∈ delE E ((A : Int), (N : Int)), (loN (lvN N) : Int) ≤ x.1.2 → x.1.2 < (loN (lvN N + 1) : Int) → cov x.1 ((adN (lvN N) m : Nat), 32) = true → x.1.2 < (N : Int) := fun x hx a1 a2 a3 => by
      obtain ⟨hxE, hne⟩ := (mem_delE hk).1 hx
      have hle := k5 x hxE a1 a2 a3
      simp only at hle
      rcases Int.lt_or_eq_of_le hle with h | h
      · exact h
      · exact absurd (same_len (hv x hxE) hvp a3 hcov h) hne
    cases u with
    | none =>
      intro x hx a1 a2
      cases hcx : cov x.1 ((adN (lvN N) m : Nat), 32) with
      | false => rfl
      | true =>
        have hl2 := less x hx a1 a2 hcx
        have hxE := ((mem_delE hk).1 hx).1
        have := hu x hxE a1 hl2
        rw [sh x hxE (by omega), hcx] at this; cases this
    | some b =>
      obtain ⟨r, r1, r2, r3, r4, r5⟩ := hu
      have hrE : (r, b) ∈ delE E ((A : Int), (N : Int)) := (mem_delE hk).2 ⟨r1, fun e => by simp only at e; rw [e] at r3; simp only at r3; omega⟩
      refine ⟨r, hrE, r2, by omega, by rw [← sh _ r1 (by simp only; omega)]; exact r4, fun x hx a1 a2 a3 => ?_⟩
      have hl2 := less x hx a1 a2 a3
      have hxE := ((mem_delE hk).1 hx).1
      exact r5 x hxE a1 hl2 (by rw [sh x hxE (by omega)]; exact a3)
  · simp only [uncF]
    rw [if_neg hc]
    cases hf : f k m with
    | none =>
      rw [hf] at hb
      intro x hx a1 a2
      exact hb x ((mem_delE hk).1 hx).1 a1 a2
    | some b =>
      rw [hf] at hb
      obtain ⟨q, k1, k2, k3, k4, k5⟩ := hb
      refine ⟨q, (mem_delE hk).2 ⟨k1, fun e => hc ?_⟩, k2, k3, k4, fun x hx a1 a2 a3 => k5 x ((mem_delE hk).1 hx).1 a1 a2 a3⟩
      simp only at e
      subst e
      have hbl : b = l := by
        have key : ∀ (E : List (PX × Nat)), (E.map (·.1)).Nodup → ∀ x ∈ E, ∀ y ∈ E, x.1 = y.1 → x = y := by
          intro E; induction E with
          | nil => intro _ x hx; cases hx
          | cons z E ih =>
            intro hn x hx y hy e
            rw [List.map_cons, List.nodup_cons] at hn
            rcases List.mem_cons.1 hx with rfl | hx1
            · rcases List.mem_cons.1 hy with rfl | hy1
              · rfl
              · exact absurd (List.mem_map.2 ⟨y, hy1, e.symm⟩) hn.1
            · rcases List.mem_cons.1 hy with rfl | hy1
              · exact absurd (List.mem_map.2 ⟨x, hx1, e⟩) hn.1
              · exact ih hn.2 x hx1 y hy1 e
        exact congrArg Prod.snd (key E hk _ k1 _ hl rfl)
      subst hbl
      have hkl : k = lvN N := lv_only hN hk2 (by simpa using k2) (by simpa using k3)
      subst hkl
      have := (cov_range (m := m) hA hN hZ).1 k4
      exact ⟨rfl, this.1, this.2, hf⟩
end Go.Proofs.YtkfhkhgiojpfoaaGreat.Dr
