/- Package dir: own. -/
import Derived.Test.YtlnmdlachfnmkaaDir5
namespace Go.Proofs.Ytlnmdlachfnmkaa.Dr
set_option maxRecDepth 100000
open Go.RowKit Go.Proofs.Ytlnmdlachfnmkaa Go.Proofs.Ytlnmdlachfnmkaa.Tri
set_option linter.unusedVariables false

/-- Tables on an address's way, down to a level, are there; whatever else is there was. -/
structure Grown (T T' : Nat → Nat → Option Nat) (A lv base : Nat) : Prop where
  old : ∀ k n b, T k n = some b → T' k n = some b
  new : ∀ k n b, T k n = none → T' k n = some b → base ≤ b ∧ ∃ j, j < lv ∧ k = j + 1 ∧ n = plN j A
  way : ∀ j, j < lv → T' (j + 1) (plN j A) ≠ none

def zB : Array Value := Array.replicate 512 (.pointer none)

theorem zB_tab {w : World} {g : Nat} {t : TypeId} (h : w.heap[g]? = some (.cells zB t (0, 0))) : TabAt w g 256 t (fun _ => none) (fun _ => none) := by
  refine ⟨_, h, by simp [zB], fun i hi => ⟨?_, ?_⟩⟩
  · simp only [zB, Array.getElem?_replicate]; rw [if_pos (by omega)]; rfl
  · simp only [zB, Array.getElem?_replicate]; rw [if_pos (by omega)]; rfl

theorem ms_grown {T T' : Nat → Nat → Option Nat} {A k base : Nat} (h : Grown T T' A k base) : T (k + 1) (plN k A) = T' (k + 1) (plN k A) := by
  cases hh : T (k + 1) (plN k A) with
  | some b => exact (h.old _ _ b hh).symm
  | none =>
    cases h2 : T' (k + 1) (plN k A) with
    | none => rfl
    | some b =>
      obtain ⟨-, j, hj, e, -⟩ := h.new _ _ b hh h2
      omega

theorem Grown.step {T T' : Nat → Nat → Option Nat} {A k base : Nat} (h : Grown T T' A k base) (hn : T' (k + 1) (plN k A) ≠ none) : Grown T T' A (k + 1) base :=
  ⟨h.old, fun k' n b e e' => by obtain ⟨h1, j, h2, h3⟩ := h.new k' n b e e'; exact ⟨h1, j, by omega, h3⟩, fun j hj => by
    by_cases e : j = k
    · rw [e]; exact hn
    · exact h.way j (by omega)⟩

theorem Grown.put {T T' : Nat → Nat → Option Nat} {A k base nb : Nat} (h : Grown T T' A k base) (hn : T' (k + 1) (plN k A) = none) (hb : base ≤ nb) : Grown T (putT T' (k + 1) (plN k A) (some nb)) A (k + 1) base := by
  refine ⟨fun k' n b e => ?_, fun k' n b e e' => ?_, fun j hj => ?_⟩
  · have h1 := h.old k' n b e
    rw [putT_other _ _ ?_]
    · exact h1
    · rintro ⟨rfl, rfl⟩
      rw [hn] at h1; cases h1
  · by_cases a : k' = k + 1 ∧ n = plN k A
    · rw [a.1, a.2, putT_same] at e'
      cases e'
      exact ⟨hb, k, by omega, a.1, a.2⟩
    · rw [putT_other _ _ a] at e'
      obtain ⟨h1, j, h2, h3⟩ := h.new k' n b e e'
      exact ⟨h1, j, by omega, h3⟩
  · by_cases a : j + 1 = k + 1 ∧ plN j A = plN k A
    · rw [a.1, a.2, putT_same]; simp
    · rw [putT_other _ _ a]
      by_cases e : j = k
      · subst e; exact absurd ⟨rfl, rfl⟩ a
      · exact h.way j (by omega)

theorem ty_dir (k : Nat) : tyN k ≠ 73 := by match k with
  | 0 => decide
  | k + 1 => rw [ty_next]; decide

theorem Tabs.ne_dir {w : World} {T f : Nat → Nat → Option Nat} (h : Tabs w T f) {db : Nat} {mo ow mp dn st sm fi : Value} (hd : w.heap[db]? = some (dirO mo ow mp dn st sm fi)) {k n b : Nat} (e : T k n = some b) : b ≠ db := by
  rintro rfl
  obtain ⟨cs, h1, -, -⟩ := h.tab k n b e
  rw [hd] at h1
  simp only [dirO, Option.some.injEq, Obj.cells.injEq] at h1
  exact ty_dir k h1.2.1.symm

theorem zero_cells : Try.zeroCells102 = zB := by kernel_rfl

/-- A table more. -/
theorem own_step {W : World} {T f : Nat → Nat → Option Nat} (h : Tabs W T f) {A k b db : Nat} {oo : Int} {mo mp dn st sm fi : Value} (hk : k ≤ 1) (hb : onT T A k = some b) (hto : T (k + 1) (plN k A) = none) (hd : W.heap[db]? = some (dirO mo (.int .i64 oo) mp dn st sm fi)) :
    ∀ W3, W3 = ((W.setCell ⟨b, plN k A % szN k * 2 + 1, none⟩ (.pointer (some ⟨W.heap.size, 0, none⟩))).setCell ⟨db, 1, none⟩ (.int .i64 (oo + 1))).alloc (.cells Try.zeroCells102 102) →
      W3.cell? ⟨b, plN k A % szN k * 2 + 1, none⟩ = some (ptV (some W.heap.size)) ∧ Tabs W3 (putT T (k + 1) (plN k A) (some W.heap.size)) f ∧ W3.heap[db]? = some (dirO mo (.int .i64 (oo + 1)) mp dn st sm fi) ∧ ExtS [b, db] W W3 := by
  intro W3 hW3
  have hbd := h.ne_dir hd hb
  have t1 := h.tab k _ b hb
  have t2 := t1.set_to (Nat.mod_lt (plN k A) (szN_pos k)) (some W.heap.size)
  have hd1 : (W.setCell ⟨b, plN k A % szN k * 2 + 1, none⟩ (.pointer (some ⟨W.heap.size, 0, none⟩))).heap[db]? = some (dirO mo (.int .i64 oo) mp dn st sm fi) := by
    have x1 : ExtS [b] W (W.setCell ⟨b, plN k A % szN k * 2 + 1, none⟩ (.pointer (some ⟨W.heap.size, 0, none⟩))) := (ExtS.refl _ _).setCell (.inl (by simp)) _
    exact x1.heap (by simpa using hbd.symm) hd
  have s1 : ((W.setCell ⟨b, plN k A % szN k * 2 + 1, none⟩ (.pointer (some ⟨W.heap.size, 0, none⟩))).setCell ⟨db, 1, none⟩ (.int .i64 (oo + 1))).heap.size = W.heap.size := by simp [World.setCell]
  have x2 : ExtS [b, db] W ((W.setCell ⟨b, plN k A % szN k * 2 + 1, none⟩ (.pointer (some ⟨W.heap.size, 0, none⟩))).setCell ⟨db, 1, none⟩ (.int .i64 (oo + 1))) := ((ExtS.refl _ _).setCell (.inl (by simp)) _).setCell (.inl (by simp)) _
  have hd2 := heap_set (k := 1) hd1 (.int .i64 (oo + 1))
  have x3 : ExtS [db] (W.setCell ⟨b, plN k A % szN k * 2 + 1, none⟩ (.pointer (some ⟨W.heap.size, 0, none⟩))) ((W.setCell ⟨b, plN k A % szN k * 2 + 1, none⟩ (.pointer (some ⟨W.heap.size, 0, none⟩))).setCell ⟨db, 1, none⟩ (.int .i64 (oo + 1))) := (ExtS.refl _ _).setCell (.inl (by simp)) _
  have t3 := TabAt.later (f := fun i => f k (plN k A / szN k * szN k + i)) t2 x3 (by simpa using hbd)
  generalize ((W.setCell ⟨b, plN k A % szN k * 2 + 1, none⟩ (.pointer (some ⟨W.heap.size, 0, none⟩))).setCell ⟨db, 1, none⟩ (.int .i64 (oo + 1))) = W2 at *
  subst hW3
  have x4 : Ext W2 (W2.alloc (.cells Try.zeroCells102 102)) := (Ext.refl _).alloc _
  have hz := heap_new W2 (.cells Try.zeroCells102 102)
  rw [s1, zero_cells] at hz
  rw [zero_cells] at x4 ⊢
  have t4 := t3.later (x4.toS []) (by simp)
  refine ⟨?_, ?_, x4.heap hd2, x2.trans (x4.toS _)⟩
  · have := t4.to_cell (Nat.mod_lt (plN k A) (szN_pos k))
    simpa using this
  · exact h.add hk hb hto (Nat.le_refl _) (x2.trans (x4.toS _)) (fun k' n' b' e hne => by
      have := h.ne_dir hd e
      simp [hne, this]) t4 (zB_tab hz)

/-- Where own stands. -/
def OwnR (db A : Nat) (mo mp dn st sm : Value) (o : Nat) (T f : Nat → Nat → Option Nat) (base k : Nat) (tab : Value) (w : World) : Prop := ∃ T', Tabs w T' f ∧ tab = tbV k (onT T' A k) ∧ onT T' A k ≠ none ∧
  w.heap[db]? = some (dirO mo (.int .i64 (o + msN T A k : Nat)) mp dn st sm (tbV 0 (T' 0 0))) ∧ Grown T T' A k base

set_option maxHeartbeats 2000000 in
theorem own_any (db A N o : Nat) (mo mp dn st sm : Value) (T f : Nat → Nat → Option Nat) (F : List Nat) (w : World) (hT : Tabs w T f) (h0 : T 0 0 ≠ none) (hd : w.heap[db]? = some (dirO mo (.int .i64 o) mp dn st sm (tbV 0 (T 0 0))))
    (hF1 : db ∈ F) (hF2 : ∀ k n b, T k n = some b → b ∈ F) (hF3 : ∀ x ∈ F, x < w.heap.size) (ho : o ≤ 1000000) (hA : A < 4294967296) (hN : N ≤ 32) :
    Calls Try.prog 35 #[.pointer (some ⟨db, 0, none⟩), .agg #[.int .u32 A, .int .i64 N]] w fun e w' => e = .returned (.tuple #[]) ∧ ∃ T', Tabs w' T' f ∧
      w'.heap[db]? = some (dirO mo (.int .i64 (o + msN T A (lvN N) : Nat)) mp dn st sm (tbV 0 (T' 0 0))) ∧ ExtS F w w' ∧ Grown T T' A (lvN N) w.heap.size := by
  have hA0 : Ext w (w.alloc (.cells #[.int .u32 A, .int .i64 N] 30)) := (Ext.refl w).alloc _
  have hn := heap_new w (.cells #[.int .u32 A, .int .i64 N] 30)
  have hq : ∀ w', ExtS F (w.alloc (.cells #[.int .u32 A, .int .i64 N] 30)) w' → w'.cell? ⟨w.heap.size, 0, none⟩ = some (.int .u32 A) ∧ w'.cell? ⟨w.heap.size, 1, none⟩ = some (.int .i64 N) := fun w' hx => by
    have hnF : w.heap.size ∉ F := fun h => Nat.lt_irrefl _ (hF3 _ h)
    exact ⟨by rw [heap_cell (hx.heap hnF hn)]; rfl, by rw [heap_cell (hx.heap hnF hn)]; rfl⟩
  have HQ : Hid _ := hq
  have hsz : w.heap.size ≤ (w.alloc (.cells #[.int .u32 A, .int .i64 N] 30)).heap.size := hA0.size
  have hdW := hA0.heap hd
  have d6 : (w.alloc (.cells #[.int .u32 A, .int .i64 N] 30)).cell? ⟨db, 6, none⟩ = some (tbV 0 (T 0 0)) := by rw [heap_cell hdW]; rfl
  have z0 := pl_zero A hA
  have hon : onT T A 0 = T 0 0 := by unfold onT; rw [z0]
  have hR : OwnR db A mo mp dn st sm o T f (w.alloc (.cells #[.int .u32 A, .int .i64 N] 30)).heap.size 0 (tbV 0 (T 0 0)) (w.alloc (.cells #[.int .u32 A, .int .i64 N] 30)) :=
    ⟨T, hT.ext hA0, by rw [hon], by rw [hon]; exact h0, hdW, ⟨fun _ _ _ h => h, (fun k n b h h' => by rw [h] at h'; cases h'), (fun j hj => by omega)⟩⟩
  have HR : Hid _ := hR
  obtain ⟨v0, hv0⟩ : ∃ v0, v0 = tbV 0 (T 0 0) := ⟨_, rfl⟩
  rw [← hv0] at d6 HR
  clear hq hn hd hv0 hR hdW
  have HF2 : Hid _ := hF2
  have HTT : Hid (Tabs w T f) := hT
  clear hF2 hT
  generalize hW0 : (w.alloc (.cells #[.int .u32 A, .int .i64 N] 30)) = W0 at *
  go_enter Try.func35, Try.ntmps35
  go_wp2_with fail
  clear d6
  go_loopw [4, 5] (fun tab be wr => ∃ k : Nat, k ≤ lvN N ∧ be = .int .i64 (beN k) ∧ ExtS F W0 wr ∧ Hid (OwnR db A mo mp dn st sm o T f W0.heap.size k tab wr)) (fun _ be _ => (intOf be).toNat)
  case atStart => exact ⟨0, Nat.zero_le _, rfl, ExtS.refl _ _, HR⟩
  case round =>
    obtain ⟨k, hk, rfl, hx, HR'⟩ := hrel
    have hk2 : k ≤ 2 := Nat.le_trans hk (lvN_le N)
    obtain ⟨q0, q1⟩ := HQ.out _ hx
    have ce := fun w => ends_any (A : Int) (N : Int) (beN k) w (be_int k hk2).1 (be_int k hk2).2
    by_cases hlt : k < lvN N
    · have hk1 : k ≤ 1 := by have := lvN_le N; omega
      have hgt : decide ((N : Int) > 32 - (beN k : Int)) = true := by
        have := (lvN_lt N k hk1).1 hlt
        have := lo_be k hk2
        rw [decide_eq_true_eq]; omega
      have hb8 := be_next k hk1
      have hb0 := be_int (k + 1) (by omega)
      rw [hgt] at ce
      obtain ⟨T', hT', hv, hne, hdb', hG⟩ := HR'.out
      obtain ⟨b, ho'⟩ : ∃ b, onT T' A k = some b := by
        cases hh : onT T' A k with
        | none => exact absurd hh hne
        | some b => exact ⟨b, rfl⟩
      have hmsg := ms_grown hG
      have hms : msN T A (k + 1) = msN T A k + if (T' (k + 1) (plN k A)).isNone = true then 1 else 0 := by rw [← hmsg]; rfl
      rw [ho'] at hv
      simp only [tbV] at hv
      subst hv
      have HT' : Hid (Tabs wr T' f) := hT'
      have HD' : Hid (wr.heap[db]? = some (dirO mo (.int .i64 (o + msN T A k : Nat)) mp dn st sm (tbV 0 (T' 0 0)))) := hdb'
      have HG : Hid (Grown T T' A k W0.heap.size) := hG
      clear hT' hdb' hG hne HR'
      have cs := fun w => spot_any k A b (szN k) hk2 hA w
      cases hto : T' (k + 1) (plN k A) with
      | some b' =>
        have hno : msN T A (k + 1) = msN T A k := by rw [hms, hto]; rfl
        have hto' : ∀ w', Ext wr w' → w'.cell? ⟨b, plN k A % szN k * 2 + 1, none⟩ = some (.pointer (some ⟨b', 0, none⟩)) := fun w' h' => by
          have := (HT'.out.ext h').to_cell ho'
          rw [hto] at this; exact this
        have cb : ∀ w', Ext wr w' → Calls Try.prog 30 #[.pointer (some ⟨b, plN k A % szN k * 2, none⟩)] w' fun e w2 => e = .returned (tabV (some b')) ∧ w2 = w' := fun w' h' => below_any b _ (some b') w' (hto' w' h')
        have HCB : Hid _ := cb
        have HTO : Hid _ := hto'
        clear cb hto'
        generalize plN k A % szN k * 2 = off at *
        generalize szN k = sz at *
        generalize (beN k : Int) = be at *
        go_wp2_with (first | (go_at_call 47; refine (ce _).mono ?_; rintro e w1 ⟨rfl, hx1⟩; obtain ⟨q0', q1'⟩ := HQ.out _ (hx.trans (hx1.toS F)); have c0 := HTO.out _ hx1) | (go_at_call 29; refine (cs _).mono ?_; rintro e w2 ⟨rfl, rfl⟩) | (go_at_call 30; refine (HCB.out _ hx1).mono ?_; rintro e w2 ⟨rfl, rfl⟩))
        refine ⟨⟨k + 1, by omega, rfl, hx.trans (hx1.toS F), ?_⟩, by simp only [intOf]; omega⟩
        have e1 := on_next T' A k hk1
        exact ⟨T', HT'.out.ext hx1, by rw [e1, hto]; rfl, by rw [e1, hto]; simp, by rw [hno]; exact hx1.heap HD'.out, HG.out.step (by rw [hto]; simp)⟩
      | none =>
        have hno : msN T A (k + 1) = msN T A k + 1 := by rw [hms, hto]; rfl
        have hto' : ∀ w', Ext wr w' → w'.cell? ⟨b, plN k A % szN k * 2 + 1, none⟩ = some (.pointer none) ∧ w'.frozen? ⟨b, plN k A % szN k * 2 + 1, none⟩ = false ∧ b < w'.heap.size := fun w' h' => by
          have := (HT'.out.ext h').to_cell ho'
          rw [hto] at this
          exact ⟨this, ((HT'.out.ext h').tab _ _ _ ho').frozen _, ((HT'.out.ext h').tab _ _ _ ho').lt⟩
        have hdc : ∀ w', Ext wr w' → w'.cell? ⟨db, 1, none⟩ = some (.int .i64 (o + msN T A k : Nat)) ∧ w'.frozen? ⟨db, 1, none⟩ = false ∧ db < w'.heap.size := fun w' h' => by
          have := h'.heap HD'.out
          exact ⟨by rw [heap_cell this]; rfl, heap_frozen this, heap_lt this⟩
        have HTO : Hid _ := hto'
        have HDC : Hid _ := hdc
        clear hto' hdc
        have hbdb : ¬ b = db := HT'.out.ne_dir HD'.out ho'
        have hbdb' : ¬ db = b := fun h => hbdb h.symm
        obtain ⟨oo, hoo⟩ : ∃ oo, oo = o + msN T A k := ⟨_, rfl⟩
        have hoo2 : oo ≤ 2000000 := by
          have : ∀ j, msN T A j ≤ j := by
            intro j; induction j with
            | zero => exact Nat.le_refl _
            | succ j ih => simp only [msN]; split <;> omega
          have := this k; omega
        rw [← hoo] at HDC
        have HOO : Hid _ := hoo
        clear hoo
        generalize hoff : plN k A % szN k * 2 = off at *
        generalize hsz' : szN k = sz at *
        generalize (beN k : Int) = be at *
        go_wp2_with (first | (go_at_call 47; refine (ce _).mono ?_; rintro e w1 ⟨rfl, hx1⟩; obtain ⟨q0', q1'⟩ := HQ.out _ (hx.trans (hx1.toS F)); obtain ⟨c0, c1, c2⟩ := HTO.out _ hx1; obtain ⟨c3, c4, c5⟩ := HDC.out _ hx1) | (go_at_call 29; refine (cs _).mono ?_; rintro e w2 ⟨rfl, rfl⟩))
        have hst := own_step (HT'.out.ext hx1) hk1 ho' hto (hx1.heap (by rw [HOO.out]; exact HD'.out) : w2.heap[db]? = some (dirO mo (.int .i64 oo) mp dn st sm (tbV 0 (T' 0 0)))) _ rfl
        rw [hsz', hoff] at hst
        generalize hW3 : (((w2.setCell ⟨b, off + 1, none⟩ (.pointer (some ⟨w2.heap.size, 0, none⟩))).setCell ⟨db, 1, none⟩ (.int .i64 ((oo : Int) + 1))).alloc (.cells Try.zeroCells102 102)) = W3 at *
        obtain ⟨e1, e2, e3, e4⟩ := hst
        refine (below_any b off (some w2.heap.size) W3 e1).mono ?_
        rintro e w4 ⟨rfl, rfl⟩
        have HE2 : Hid _ := e2
        have HE3 : Hid _ := e3
        have HE4 : Hid _ := e4
        clear e1 e2 e3 e4
        go_wp2_with fail
        have hbF : b ∈ F ∨ W0.heap.size ≤ b := by
          cases hh : T k (plN k A / szN k) with
          | some b2 =>
            have := HG.out.old _ _ b2 hh
            unfold onT at ho'
            rw [ho'] at this
            cases this
            exact .inl (HF2.out _ _ _ hh)
          | none => exact .inr (HG.out.new _ _ b hh ho').1
        have hX : ExtS F W0 w4 := (hx.trans (hx1.toS F)).then HE4.out (fun x hx' => by
          rcases List.mem_cons.1 hx' with rfl | hx'
          · exact hbF
          · rw [List.mem_singleton.1 hx']; exact .inl hF1)
        refine ⟨⟨k + 1, by omega, rfl, hX, ?_⟩, by simp only [intOf]; omega⟩
        have e1 := on_next (putT T' (k + 1) (plN k A) (some w2.heap.size)) A k hk1
        rw [putT_same] at e1
        refine ⟨_, HE2.out, by rw [e1]; rfl, by rw [e1]; simp, ?_, HG.out.put hto (Nat.le_trans hx.size hx1.size)⟩
        rw [putT_other _ _ (by omega), HE3.out, hno, HOO.out]
        congr 3
    · obtain rfl : k = lvN N := by omega
      have hbN := lv_be N hN
      have hgt : decide ((N : Int) > 32 - (beN (lvN N) : Int)) = false := by
        rw [decide_eq_false_iff_not]; omega
      rw [hgt] at ce
      generalize (beN (lvN N) : Int) = be at *
      go_wp2_with (go_at_call 47; refine (ce _).mono ?_; rintro e w1 ⟨rfl, hx1⟩)
      go_end0
      obtain ⟨T', k1, -, -, k2, k3⟩ := HR'.out
      exact ⟨rfl, T', k1.ext hx1, hx1.heap k2, ((hA0.toS F).trans hx).trans (hx1.toS F), ⟨k3.old, fun k n b a1 a2 => ⟨by have := (k3.new k n b a1 a2).1; omega, (k3.new k n b a1 a2).2⟩, k3.way⟩⟩
end Go.Proofs.Ytlnmdlachfnmkaa.Dr
