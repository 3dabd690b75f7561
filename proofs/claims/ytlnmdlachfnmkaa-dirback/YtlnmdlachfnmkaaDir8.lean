/- Package dir: disown. -/
import Derived.Test.YtlnmdlachfnmkaaDir7
namespace Go.Proofs.Ytlnmdlachfnmkaa.Dr
set_option maxRecDepth 100000
open Go.RowKit Go.Proofs.Ytlnmdlachfnmkaa Go.Proofs.Ytlnmdlachfnmkaa.Tri
set_option linter.unusedVariables false

def DisAns (db A lv k : Nat) (o : Int) (mo mp dn st sm : Value) (K : List PX) (T f : Nat → Nat → Option Nat) (F : List Nat) (w w' : World) : Prop := ∃ T', Tabs w' T' f ∧
  w'.heap[db]? = some (dirO mo (.int .i64 (o - ((moreN K A lv : Int) - (moreN K A k : Int)))) mp dn st sm (tbV 0 (T' 0 0))) ∧ ExtS F w w' ∧ DisR T' K A lv k ∧ (∀ j n, j ≤ k → T' j n = T j n) ∧ (∀ j n b, T' j n = some b → T j n = some b)

theorem more_le (K : List PX) (A : Nat) : ∀ j, moreN K A j ≤ j := by
  intro j; induction j with
  | zero => exact Nat.le_refl _
  | succ j ih => simp only [moreN]; split <;> omega

theorem more_mono (K : List PX) (A : Nat) {i j : Nat} (h : i ≤ j) : moreN K A i ≤ moreN K A j := by
  obtain ⟨d, rfl⟩ : ∃ d, j = i + d := ⟨j - i, by omega⟩
  clear h
  induction d with
  | zero => exact Nat.le_refl _
  | succ d ih => rw [← Nat.add_assoc]; simp only [moreN]; omega

/-- A table less. -/
theorem dis_cut {W : World} {T f : Nat → Nat → Option Nat} (h : Tabs W T f) {A k b db nb : Nat} {oo : Int} {mo mp dn st sm fi : Value} (hk : k ≤ 1) (hb : onT T A k = some b) (hto : T (k + 1) (plN k A) = some nb) (hd : W.heap[db]? = some (dirO mo (.int .i64 oo) mp dn st sm fi))
    (he : ∀ i, i < 256 → f (k + 1) (plN k A * 256 + i) = none ∧ T (k + 1 + 1) (plN k A * 256 + i) = none) :
    ∀ W3, W3 = (W.setCell ⟨b, plN k A % szN k * 2 + 1, none⟩ (.pointer none)).setCell ⟨db, 1, none⟩ (.int .i64 (oo - 1)) →
      Tabs W3 (putT T (k + 1) (plN k A) none) f ∧ W3.heap[db]? = some (dirO mo (.int .i64 (oo - 1)) mp dn st sm fi) ∧ ExtS [b, db] W W3 := by
  intro W3 hW3
  have hbd := h.ne_dir hd hb
  have t1 := h.tab k _ b hb
  have t2 := t1.set_to (Nat.mod_lt (plN k A) (szN_pos k)) none
  have hd1 : (W.setCell ⟨b, plN k A % szN k * 2 + 1, none⟩ (.pointer none)).heap[db]? = some (dirO mo (.int .i64 oo) mp dn st sm fi) := by
    have x1 : ExtS [b] W (W.setCell ⟨b, plN k A % szN k * 2 + 1, none⟩ (.pointer none)) := (ExtS.refl _ _).setCell (.inl (by simp)) _
    exact x1.heap (by simpa using hbd.symm) hd
  have x2 : ExtS [b, db] W ((W.setCell ⟨b, plN k A % szN k * 2 + 1, none⟩ (.pointer none)).setCell ⟨db, 1, none⟩ (.int .i64 (oo - 1))) := ((ExtS.refl _ _).setCell (.inl (by simp)) _).setCell (.inl (by simp)) _
  have hd2 := heap_set (k := 1) hd1 (.int .i64 (oo - 1))
  have x3 : ExtS [db] (W.setCell ⟨b, plN k A % szN k * 2 + 1, none⟩ (.pointer none)) ((W.setCell ⟨b, plN k A % szN k * 2 + 1, none⟩ (.pointer none)).setCell ⟨db, 1, none⟩ (.int .i64 (oo - 1))) := (ExtS.refl _ _).setCell (.inl (by simp)) _
  have t3 := TabAt.later (f := fun i => f k (plN k A / szN k * szN k + i)) t2 x3 (by simpa using hbd)
  subst hW3
  refine ⟨?_, hd2, x2⟩
  exact h.cut hk hb hto x2 (fun k' n' b' e hne => by
      have := h.ne_dir hd e
      simp [hne, this]) t3 (fun i hi => (he i hi).1) (fun i hi => (he i hi).2)

set_option maxHeartbeats 1000000 in
theorem disown_base (db A N : Nat) (mo mp dn st sm : Value) (E : List (PX × Nat)) (f : Nat → Nat → Option Nat) (hf : Painted E f) (hE : ∀ x ∈ E, Vp x.1) (hA : A < 4294967296) (hN : N ≤ 32) (k : Nat) (o : Int) (T : Nat → Nat → Option Nat) (F : List Nat) (w : World) (hk : lvN N = k) (hT : Tabs w T f) (hd : w.heap[db]? = some (dirO mo (.int .i64 o) mp dn st sm (tbV 0 (T 0 0)))) (hF1 : db ∈ F) (hF2 : ∀ k n b, T k n = some b → b ∈ F) (hF3 : ∀ x ∈ F, x < w.heap.size) (hR : DisR T (E.map (·.1)) A (lvN N) (lvN N)) (h0 : onT T A 0 ≠ none) (ho0 : 0 ≤ o) (ho : o ≤ 1000000) :
    Calls Try.prog 40 #[.pointer (some ⟨db, 0, none⟩), tbV k (onT T A k), .agg #[.int .u32 A, .int .i64 N], .int .i64 (beN k)] w fun e w' => e = .returned (.tuple #[]) ∧ DisAns db A (lvN N) k o mo mp dn st sm (E.map (·.1)) T f F w w' := by
  have hk2 : k ≤ 2 := by have := lvN_le N; omega
  have ce := fun w => ends_any (A : Int) (N : Int) (beN k) w (be_int k hk2).1 (be_int k hk2).2
  have hbN := lv_be N hN
  have hgt : decide ((N : Int) > 32 - (beN k : Int)) = false := by
    rw [decide_eq_false_iff_not]
    rw [hk] at hbN
    omega
  rw [hgt] at ce
  have hA0 : Ext w (w.alloc (.cells #[.int .u32 A, .int .i64 N] 30)) := (Ext.refl w).alloc _
  have hans : ∀ w', Ext w w' → DisAns db A (lvN N) k o mo mp dn st sm (E.map (·.1)) T f F w w' := fun w' hx => by
    have e : lvN N = k := by omega
    refine ⟨T, hT.ext hx, ?_, hx.toS F, by rw [e] at hR ⊢; exact hR, fun _ _ _ => rfl, fun _ _ _ h => h⟩
    rw [e, show o - ((moreN (E.map (·.1)) A k : Int) - (moreN (E.map (·.1)) A k : Int)) = o by omega]
    exact hx.heap hd
  have HA : Hid _ := hans
  generalize tbV k (onT T A k) = tv
  clear hans hT hR hd hF2 hF3 hf hE
  generalize (beN k : Int) = be at *
  go_enter Try.func40, Try.ntmps40
  go_wp2_with (go_at_call 47; refine (ce _).mono ?_; rintro e w1 ⟨rfl, hx1⟩)
  first | go_end0 | (simp only [Exit.inBlock, Exit.then]; refine bodyPost_ret (results_none rfl _ _ _) rfl ?_) | refine bodyPost_ret (results_none rfl _ _ _) rfl ?_
  exact ⟨rfl, HA.out _ (hA0.trans hx1)⟩

set_option maxHeartbeats 2000000 in
theorem disown_step (db A N : Nat) (mo mp dn st sm : Value) (E : List (PX × Nat)) (f : Nat → Nat → Option Nat) (hf : Painted E f) (hE : ∀ x ∈ E, Vp x.1) (hA : A < 4294967296) (hN : N ≤ 32) (k : Nat) (o : Int) (T : Nat → Nat → Option Nat) (F : List Nat) (w : World) (hk : k < lvN N) (hT : Tabs w T f) (hd : w.heap[db]? = some (dirO mo (.int .i64 o) mp dn st sm (tbV 0 (T 0 0)))) (hF1 : db ∈ F) (hF2 : ∀ k n b, T k n = some b → b ∈ F) (hF3 : ∀ x ∈ F, x < w.heap.size) (hR : DisR T (E.map (·.1)) A (lvN N) (lvN N)) (h0 : onT T A 0 ≠ none) (ho0 : 0 ≤ o) (ho : o ≤ 1000000)
    (cr : ∀ w', Ext w w' → Calls Try.prog 40 #[.pointer (some ⟨db, 0, none⟩), tbV (k + 1) (onT T A (k + 1)), .agg #[.int .u32 A, .int .i64 N], .int .i64 (beN (k + 1))] w' fun e w2 => e = .returned (.tuple #[]) ∧ DisAns db A (lvN N) (k + 1) o mo mp dn st sm (E.map (·.1)) T f F w' w2) :
    Calls Try.prog 40 #[.pointer (some ⟨db, 0, none⟩), tbV k (onT T A k), .agg #[.int .u32 A, .int .i64 N], .int .i64 (beN k)] w fun e w' => e = .returned (.tuple #[]) ∧ DisAns db A (lvN N) k o mo mp dn st sm (E.map (·.1)) T f F w w' := by
  have hk1 : k ≤ 1 := by have := lvN_le N; omega
  have hk2 : k ≤ 2 := by omega
  have ce := fun w => ends_any (A : Int) (N : Int) (beN k) w (be_int k hk2).1 (be_int k hk2).2
  have hgt : decide ((N : Int) > 32 - (beN k : Int)) = true := by
    have := (lvN_lt N k hk1).1 (by omega)
    have := lo_be k hk2
    rw [decide_eq_true_eq]; omega
  rw [hgt] at ce
  have hb8 := be_next k hk1
  have hb0 := be_int (k + 1) (by omega)
  have hA0 : Ext w (w.alloc (.cells #[.int .u32 A, .int .i64 N] 30)) := (Ext.refl w).alloc _
  have hn := heap_new w (.cells #[.int .u32 A, .int .i64 N] 30)
  have hq : ∀ w', ExtS F (w.alloc (.cells #[.int .u32 A, .int .i64 N] 30)) w' → w'.cell? ⟨w.heap.size, 0, none⟩ = some (.int .u32 A) ∧ w'.cell? ⟨w.heap.size, 1, none⟩ = some (.int .i64 N) := fun w' hx => by
    have hnF : w.heap.size ∉ F := fun h => Nat.lt_irrefl _ (hF3 _ h)
    exact ⟨by rw [heap_cell (hx.heap hnF hn)]; rfl, by rw [heap_cell (hx.heap hnF hn)]; rfl⟩
  have HQ : Hid _ := hq
  obtain ⟨q0, q1⟩ := hq _ (ExtS.refl _ _)
  have hwayS : ∀ j, j ≤ lvN N → onT T A j ≠ none := fun j hj => by
    match j, hj with
    | 0, _ => exact h0
    | j + 1, hj =>
      have hj1 : j ≤ 1 := by have := lvN_le N; omega
      rw [on_next T A j hj1]
      have := (hR (j + 1) (plN j A) (by omega) (by omega)).2 (.inr ⟨hj, hj, rfl⟩)
      intro h; rw [h] at this; cases this
  obtain ⟨b, hb⟩ : ∃ b, onT T A k = some b := by
    cases hh : onT T A k with
    | none => exact absurd hh (hwayS k (by omega))
    | some b => exact ⟨b, rfl⟩
  obtain ⟨nb, hnb⟩ : ∃ nb, T (k + 1) (plN k A) = some nb := by
    have := hwayS (k + 1) (by omega)
    rw [on_next T A k hk1] at this
    cases hh : T (k + 1) (plN k A) with
    | none => exact absurd hh this
    | some nb => exact ⟨nb, rfl⟩
  have hb1 : T k (plN k A / szN k) = some b := hb
  have cs := fun w => spot_any k A b (szN k) hk2 hA w
  have cb : ∀ w', Ext w w' → Calls Try.prog 30 #[.pointer (some ⟨b, plN k A % szN k * 2, none⟩)] w' fun e w2 => e = .returned (tbV (k + 1) (onT T A (k + 1))) ∧ w2 = w' := fun w' hx' => by
    rw [on_next T A k hk1, ← tab_next]
    exact below_any b _ _ w' ((hT.ext hx').to_cell hb)
  have HCB : Hid _ := cb
  have HCR : Hid _ := cr
  clear cb cr hq hn
  rw [hb]
  simp only [tbV]
  obtain ⟨v1, hv1⟩ : ∃ v1, v1 = tbV (k + 1) (onT T A (k + 1)) := ⟨_, rfl⟩
  rw [← hv1] at HCB HCR
  clear hv1
  have HT : Hid (Tabs w T f) := hT
  have HR : Hid _ := hR
  have HF2 : Hid _ := hF2
  have HF3 : Hid _ := hF3
  have HE : Hid _ := hE
  have HPf : Hid (Painted E f) := hf
  have HB : Hid (onT T A k = some b) := hb
  have HNB : Hid (T (k + 1) (plN k A) = some nb) := hnb
  have HO0 : Hid (0 ≤ o) := ho0
  have HKL : Hid (k < lvN N) := hk
  clear hT hR hF2 hF3 hE hf hwayS
  generalize hoff : plN k A % szN k * 2 = off at *
  generalize hsz : szN k = sz at *
  generalize hbe : (beN k : Int) = be at *
  generalize hbe8 : (beN (k + 1) : Int) = be8 at *
  generalize hW0 : (w.alloc (.cells #[.int .u32 A, .int .i64 N] 30)) = W0 at *
  have hwb : IntKind.i64.wrap be8 = be8 := by rw [IntKind.wrap_i64]; omega
  clear hbe hbe8
  clear hd h0 hk hb1 ho0 hb hnb
  go_enter Try.func40, Try.ntmps40
  go_wp2_with (first | (go_at_call 47; refine (ce _).mono ?_; rintro e w1 ⟨rfl, hx1⟩; obtain ⟨q0', q1'⟩ := HQ.out _ (hx1.toS F)) | (go_at_call 29; refine (cs _).mono ?_; rintro e w2 ⟨rfl, rfl⟩))
  have hx2 := hx1.drew
  refine wp_region_eagerS F [(0, false), (1, false), (3, false), (4, false), (5, false), (2, true), (6, true)] (by kernel_rfl) (by kernel_rfl) rfl (by kernel_rfl) (fun _ _ _ _ _ h => h) ?_
  generalize w2.drew = W2 at *
  have g0 : ∀ w', ExtS F W2 w' → w'.cell? ⟨w.heap.size, 0, none⟩ = some (.int .u32 A) := fun w' h => (HQ.out _ ((hx2.toS F).trans h)).1
  have g1 : ∀ w', ExtS F W2 w' → w'.cell? ⟨w.heap.size, 1, none⟩ = some (.int .i64 N) := fun w' h => (HQ.out _ ((hx2.toS F).trans h)).2
  clear q0 q1 q0' q1'
  iterate 5 (refine wpE_read (v := ?_) rfl (by rfl) ?_ ?_; rotate_left; (focus (intro w' hx; go_simp; first | done | with_reducible rfl)); simp only [Act.put, List.setIfInBounds_toArray, List.set_cons_zero, List.set_cons_succ])
  refine wpE_call rfl (by rfl) (fun K hK => ?_); go_simp; first | (go_at_call 30; refine (HCB.out _ (hA0.trans hx2)).mono ?_; rintro e w3 ⟨rfl, rfl⟩; refine hK _ _ (ExtS.refl _ _) ?_; clear hK K)
  refine wpE_call rfl (by rfl) (fun K hK => ?_); go_simp; first | (go_at_call 40; refine (HCR.out _ (hA0.trans hx2)).mono ?_; rintro e w4 ⟨rfl, hans⟩; have HAN : Hid _ := hans; clear hans; refine hK _ _ (by obtain ⟨_, _, _, h, _⟩ := HAN.out; exact h) ?_; clear hK K)
  refine wpE_done ?_
  clear g0 g1
  obtain ⟨T1, t1, t2, t3, t4, t5, t6⟩ := HAN.out
  have u1 : onT T1 A k = some b := by unfold onT; rw [t5 _ _ (by omega)]; exact HB.out
  have u2 : T1 (k + 1) (plN k A) = some nb := by rw [t5 _ _ (Nat.le_refl _)]; exact HNB.out
  have HU1 : Hid (onT T1 A k = some b) := u1
  have HU2 : Hid (T1 (k + 1) (plN k A) = some nb) := u2
  have c1 : w4.cell? ⟨b, off + 1, none⟩ = some (.pointer (some ⟨nb, 0, none⟩)) := by
    have := t1.to_cell u1
    rw [hsz, hoff, u2] at this; exact this
  have c2 : w4.frozen? ⟨b, off + 1, none⟩ = false := (t1.tab _ _ _ u1).frozen _
  obtain ⟨cs, k1, k2, k3⟩ := t1.tab _ _ _ u2
  rw [sz_next] at k2 k3
  have hsize : (Try.prog.info? 102).map (·.size) = some cs.size := by rw [k2, size_block]
  have heq := eql_block k3
  have hem := empty_iff HPf.out HE.out t4 t1.top hk1 (plN k A) (pl_lt k A hA hk2)
  obtain ⟨c, hc⟩ : ∃ c, c = (List.range 256).all fun i => (f (k + 1) (plN k A * 256 + i)).isNone && (T1 (k + 1 + 1) (plN k A * 256 + i)).isNone := ⟨_, rfl⟩
  rw [← hc] at heq
  have hcd : c = true ↔ domB (E.map (·.1)) (k + 1) (plN k A) = false := by
    rw [← hem, hc, List.all_eq_true]
    constructor
    · intro h i hi
      have := h i (List.mem_range.2 hi)
      simpa using this
    · intro h i hi
      obtain ⟨h1, h2⟩ := h i (List.mem_range.1 hi)
      rw [h1, h2]; rfl
  have HCD : Hid _ := hcd
  have HEM : Hid _ := hem
  have HT1 : Hid (Tabs w4 T1 f) := t1
  have HT2 : Hid _ := t2
  have hX : ExtS F w w4 := (hA0.toS F).trans ((hx2.toS F).trans t3)
  have HT4 : Hid (DisR T1 (E.map (·.1)) A (lvN N) (k + 1)) := t4
  have HT5 : Hid _ := t5
  have HT6 : Hid _ := t6
  have HCS : Hid (w4.heap[nb]? = some (.cells cs 102 (0, 0))) := k1
  have m1 := more_le (E.map (·.1)) A (lvN N)
  have m2 := more_mono (E.map (·.1)) A (show k + 1 ≤ lvN N from HKL.out)
  have m3 := lvN_le N
  obtain ⟨oo, hoo⟩ : ∃ oo : Int, oo = o - ((moreN (E.map (·.1)) A (lvN N) : Int) - (moreN (E.map (·.1)) A (k + 1) : Int)) := ⟨_, rfl⟩
  have hoo1 : -10 ≤ oo ∧ oo ≤ 1000000 := by have := HO0.out; omega
  have HOO : Hid _ := hoo
  have d1 : w4.cell? ⟨db, 1, none⟩ = some (.int .i64 oo) := by rw [heap_cell t2, hoo]; rfl
  have d2 : w4.frozen? ⟨db, 1, none⟩ = false := heap_frozen t2
  have hbd : ¬ b = db := t1.ne_dir t2 u1
  have hbd' : ¬ db = b := fun h => hbd h.symm
  have hub := under_block
  clear t1 t2 t3 t4 t5 t6 k1 k2 k3 u1 u2 hc hcd hem hoo m1 m2 m3
  cases c with
  | false =>
    go_wp2_with (refine wpl_block (by rfl) 102 _ (by rfl) nb cs 102 _ (by rfl) HCS.out hub (by rfl) hsize ?_)
    go_end0
    have hdom : domB (E.map (·.1)) (k + 1) (plN k A) = true := by
      cases hh : domB (E.map (·.1)) (k + 1) (plN k A) with
      | true => rfl
      | false => have := HCD.out.2 hh; cases this
    have hm : moreN (E.map (·.1)) A (k + 1) = moreN (E.map (·.1)) A k := by simp only [moreN, hdom, if_true]; omega
    refine ⟨rfl, T1, HT1.out, ?_, hX, fun j n h1 h2 => ?_, fun j n hj => HT5.out j n (by omega), HT6.out⟩
    · rw [← hm]; exact HT2.out
    · rw [HT4.out j n h1 h2]
      constructor
      · rintro (h | ⟨h3, h4, h5⟩)
        · exact .inl h
        · by_cases e : j = k + 1
          · subst e
            rw [h5]; exact .inl hdom
          · exact .inr ⟨by omega, h4, h5⟩
      · rintro (h | ⟨h3, h4, h5⟩)
        · exact .inl h
        · exact .inr ⟨by omega, h4, h5⟩
  | true =>
    go_wp2_with (refine wpl_block (by rfl) 102 _ (by rfl) nb cs 102 _ (by rfl) HCS.out hub (by rfl) hsize ?_)
    go_end0
    have hdom : domB (E.map (·.1)) (k + 1) (plN k A) = false := HCD.out.1 trivial
    have hm : moreN (E.map (·.1)) A (k + 1) = moreN (E.map (·.1)) A k + 1 := by simp [moreN, hdom]
    have hcut := dis_cut HT1.out hk1 HU1.out HU2.out (by rw [HOO.out]; exact HT2.out : w4.heap[db]? = some (dirO mo (.int .i64 oo) mp dn st sm (tbV 0 (T1 0 0)))) (HEM.out.2 hdom) _ rfl
    rw [hsz, hoff] at hcut
    obtain ⟨e1, e2, e3⟩ := hcut
    have hbF : b ∈ F := HF2.out _ _ _ HB.out
    have hX3 := hX.then e3 (fun x hx' => by
      rcases List.mem_cons.1 hx' with rfl | hx'
      · exact .inl hbF
      · rw [List.mem_singleton.1 hx']; exact .inl hF1)
    refine ⟨rfl, _, e1, ?_, hX3, fun j n h1 h2 => ?_, fun j n hj => ?_, fun j n b' hh => ?_⟩
    · rw [putT_other _ _ (by omega), e2, HOO.out, hm]
      congr 3
      push_cast
      omega
    · by_cases a : j = k + 1 ∧ n = plN k A
      · rw [a.1, a.2, putT_same, hdom]
        constructor
        · intro h; cases h
        · rintro (h | ⟨h3, -, -⟩)
          · cases h
          · omega
      · rw [putT_other _ _ a, HT4.out j n h1 h2]
        constructor
        · rintro (h | ⟨h3, h4, h5⟩)
          · exact .inl h
          · by_cases e : j = k + 1
            · subst e
              exact absurd ⟨rfl, h5⟩ a
            · exact .inr ⟨by omega, h4, h5⟩
        · rintro (h | ⟨h3, h4, h5⟩)
          · exact .inl h
          · exact .inr ⟨by omega, h4, h5⟩
    · rw [putT_other _ _ (by omega)]; exact HT5.out j n (by omega)
    · by_cases a : j = k + 1 ∧ n = plN k A
      · rw [a.1, a.2, putT_same] at hh; cases hh
      · rw [putT_other _ _ a] at hh; exact HT6.out j n b' hh

theorem disown_any (db A N : Nat) (mo mp dn st sm : Value) (E : List (PX × Nat)) (f : Nat → Nat → Option Nat) (hf : Painted E f) (hE : ∀ x ∈ E, Vp x.1) (hA : A < 4294967296) (hN : N ≤ 32) (o : Int) (T : Nat → Nat → Option Nat) (F : List Nat) : ∀ (d k : Nat) (w : World), lvN N = k + d → Tabs w T f →
    w.heap[db]? = some (dirO mo (.int .i64 o) mp dn st sm (tbV 0 (T 0 0))) → db ∈ F → (∀ k n b, T k n = some b → b ∈ F) → (∀ x ∈ F, x < w.heap.size) → DisR T (E.map (·.1)) A (lvN N) (lvN N) → onT T A 0 ≠ none → 0 ≤ o → o ≤ 1000000 →
    Calls Try.prog 40 #[.pointer (some ⟨db, 0, none⟩), tbV k (onT T A k), .agg #[.int .u32 A, .int .i64 N], .int .i64 (beN k)] w fun e w' => e = .returned (.tuple #[]) ∧ DisAns db A (lvN N) k o mo mp dn st sm (E.map (·.1)) T f F w w'
  | 0, k, w, hk, hT, hd, hF1, hF2, hF3, hR, h0, ho0, ho => disown_base db A N mo mp dn st sm E f hf hE hA hN k o T F w hk hT hd hF1 hF2 hF3 hR h0 ho0 ho
  | d + 1, k, w, hk, hT, hd, hF1, hF2, hF3, hR, h0, ho0, ho =>
    disown_step db A N mo mp dn st sm E f hf hE hA hN k o T F w (by omega) hT hd hF1 hF2 hF3 hR h0 ho0 ho (fun w' hx' =>
      disown_any db A N mo mp dn st sm E f hf hE hA hN o T F d (k + 1) w' (by omega) (hT.ext hx') (hx'.heap hd) hF1 hF2 (fun x hx => Nat.lt_of_lt_of_le (hF3 x hx) hx'.size) hR h0 ho0 ho)
end Go.Proofs.Ytlnmdlachfnmkaa.Dr
