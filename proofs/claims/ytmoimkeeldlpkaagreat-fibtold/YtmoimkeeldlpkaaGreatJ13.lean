/- Texts joined by a program: Dir6, DirQ, Dir7, Dir8, Dir9. -/
import Derived.Test.YtmoimkeeldlpkaaGreatJ12
namespace Go.Proofs.YtmoimkeeldlpkaaGreat.Dr

set_option maxRecDepth 100000

open Go.RowKit Go.Proofs.YtmoimkeeldlpkaaGreat Go.Proofs.YtmoimkeeldlpkaaGreat.Tri

set_option linter.unusedVariables false

/-- Tables on an address's way, down to a level, are there; whatever else is there was. -/
structure Grown (T T' : Nat → Nat → Option Nat) (A lv base : Nat) : Prop where
  old : ∀ k n b, T k n = some b → T' k n = some b
  new : ∀ k n b, T k n = none → T' k n = some b → base ≤ b ∧ ∃ j, j < lv ∧ k = j + 1 ∧ n = plN j A
  way : ∀ j, j < lv → T' (j + 1) (plN j A) ≠ none

def zB : Array Value := Array.replicate 512 (.pointer none)

theorem zB_tab {w : World} {g : Nat} {t : TypeId} (h : w.heap[g]? = some (.cells zB t (0, 0))) : TabAt w g 256 t (fun _ => none) (fun _ => none) := by
  refine ⟨_, h, by simp [zB], fun i hi => ⟨?_, ?_⟩⟩
  · simp only [zB, Array.getElem?_replicate]; rw [if_pos (by omega)]; rfl
  · simp only [zB, Array.getElem?_replicate]; rw [if_pos (by omega)]; rfl

theorem ms_grown {T T' : Nat → Nat → Option Nat} {A k base : Nat} (h : Grown T T' A k base) : T (k + 1) (plN k A) = T' (k + 1) (plN k A) := by
  cases hh : T (k + 1) (plN k A) with
  | some b => exact (h.old _ _ b hh).symm
  | none =>
    cases h2 : T' (k + 1) (plN k A) with
    | none => rfl
    | some b =>
      obtain ⟨-, j, hj, e, -⟩ := h.new _ _ b hh h2
      omega

theorem Grown.step {T T' : Nat → Nat → Option Nat} {A k base : Nat} (h : Grown T T' A k base) (hn : T' (k + 1) (plN k A) ≠ none) : Grown T T' A (k + 1) base :=
  ⟨h.old, fun k' n b e e' => by obtain ⟨h1, j, h2, h3⟩ := h.new k' n b e e'; exact ⟨h1, j, by omega, h3⟩, fun j hj => by
    by_cases e : j = k
    · rw [e]; exact hn
    · exact h.way j (by omega)⟩

theorem Grown.put {T T' : Nat → Nat → Option Nat} {A k base nb : Nat} (h : Grown T T' A k base) (hn : T' (k + 1) (plN k A) = none) (hb : base ≤ nb) : Grown T (putT T' (k + 1) (plN k A) (some nb)) A (k + 1) base := by
  refine ⟨fun k' n b e => ?_, fun k' n b e e' => ?_, fun j hj => ?_⟩
  · have h1 := h.old k' n b e
    rw [putT_other _ _ ?_]
    · exact h1
    · rintro ⟨rfl, rfl⟩
      rw [hn] at h1; cases h1
  · by_cases a : k' = k + 1 ∧ n = plN k A
    · rw [a.1, a.2, putT_same] at e'
      cases e'
      exact ⟨hb, k, by omega, a.1, a.2⟩
    · rw [putT_other _ _ a] at e'
      obtain ⟨h1, j, h2, h3⟩ := h.new k' n b e e'
      exact ⟨h1, j, by omega, h3⟩
  · by_cases a : j + 1 = k + 1 ∧ plN j A = plN k A
    · rw [a.1, a.2, putT_same]; simp
    · rw [putT_other _ _ a]
      by_cases e : j = k
      · subst e; exact absurd ⟨rfl, rfl⟩ a
      · exact h.way j (by omega)

theorem ty_dir (k : Nat) : tyN k ≠ 111 := by match k with
  | 0 => decide
  | k + 1 => rw [ty_next]; decide

theorem Tabs.ne_dir {w : World} {T f : Nat → Nat → Option Nat} (h : Tabs w T f) {db : Nat} {mo ow mp dn st sm fi : Value} (hd : w.heap[db]? = some (dirO mo ow mp dn st sm fi)) {k n b : Nat} (e : T k n = some b) : b ≠ db := by
  rintro rfl
  obtain ⟨cs, h1, -, -⟩ := h.tab k n b e
  rw [hd] at h1
  simp only [dirO, Option.some.injEq, Obj.cells.injEq] at h1
  exact ty_dir k h1.2.1.symm

theorem zero_cells : Tryz.zeroCells183 = zB := by kernel_rfl

/-- A table more. -/
theorem own_step {W : World} {T f : Nat → Nat → Option Nat} (h : Tabs W T f) {A k b db : Nat} {oo : Int} {mo mp dn st sm fi : Value} (hk : k ≤ 1) (hb : onT T A k = some b) (hto : T (k + 1) (plN k A) = none) (hd : W.heap[db]? = some (dirO mo (.int .i64 oo) mp dn st sm fi)) :
    ∀ W3, W3 = ((W.setCell ⟨b, plN k A % szN k * 2 + 1, none⟩ (.pointer (some ⟨W.heap.size, 0, none⟩))).setCell ⟨db, 1, none⟩ (.int .i64 (oo + 1))).alloc (.cells Tryz.zeroCells183 183) →
      W3.cell? ⟨b, plN k A % szN k * 2 + 1, none⟩ = some (ptV (some W.heap.size)) ∧ Tabs W3 (putT T (k + 1) (plN k A) (some W.heap.size)) f ∧ W3.heap[db]? = some (dirO mo (.int .i64 (oo + 1)) mp dn st sm fi) ∧ ExtS [b, db] W W3 := by
  intro W3 hW3
  have hbd := h.ne_dir hd hb
  have t1 := h.tab k _ b hb
  have t2 := t1.set_to (Nat.mod_lt (plN k A) (szN_pos k)) (some W.heap.size)
  have hd1 : (W.setCell ⟨b, plN k A % szN k * 2 + 1, none⟩ (.pointer (some ⟨W.heap.size, 0, none⟩))).heap[db]? = some (dirO mo (.int .i64 oo) mp dn st sm fi) := by
    have x1 : ExtS [b] W (W.setCell ⟨b, plN k A % szN k * 2 + 1, none⟩ (.pointer (some ⟨W.heap.size, 0, none⟩))) := (ExtS.refl _ _).setCell (.inl (by simp)) _
    exact x1.heap (by simpa using hbd.symm) hd
  have s1 : ((W.setCell ⟨b, plN k A % szN k * 2 + 1, none⟩ (.pointer (some ⟨W.heap.size, 0, none⟩))).setCell ⟨db, 1, none⟩ (.int .i64 (oo + 1))).heap.size = W.heap.size := by simp [World.setCell]
  have x2 : ExtS [b, db] W ((W.setCell ⟨b, plN k A % szN k * 2 + 1, none⟩ (.pointer (some ⟨W.heap.size, 0, none⟩))).setCell ⟨db, 1, none⟩ (.int .i64 (oo + 1))) := ((ExtS.refl _ _).setCell (.inl (by simp)) _).setCell (.inl (by simp)) _
  have hd2 := heap_set (k := 1) hd1 (.int .i64 (oo + 1))
  have x3 : ExtS [db] (W.setCell ⟨b, plN k A % szN k * 2 + 1, none⟩ (.pointer (some ⟨W.heap.size, 0, none⟩))) ((W.setCell ⟨b, plN k A % szN k * 2 + 1, none⟩ (.pointer (some ⟨W.heap.size, 0, none⟩))).setCell ⟨db, 1, none⟩ (.int .i64 (oo + 1))) := (ExtS.refl _ _).setCell (.inl (by simp)) _
  have t3 := TabAt.later (f := fun i => f k (plN k A / szN k * szN k + i)) t2 x3 (by simpa using hbd)
  generalize ((W.setCell ⟨b, plN k A % szN k * 2 + 1, none⟩ (.pointer (some ⟨W.heap.size, 0, none⟩))).setCell ⟨db, 1, none⟩ (.int .i64 (oo + 1))) = W2 at *
  subst hW3
  have x4 : Ext W2 (W2.alloc (.cells Tryz.zeroCells183 183)) := (Ext.refl _).alloc _
  have hz := heap_new W2 (.cells Tryz.zeroCells183 183)
  rw [s1, zero_cells] at hz
  rw [zero_cells] at x4 ⊢
  have t4 := t3.later (x4.toS []) (by simp)
  refine ⟨?_, ?_, x4.heap hd2, x2.trans (x4.toS _)⟩
  · have := t4.to_cell (Nat.mod_lt (plN k A) (szN_pos k))
    simpa using this
  · exact h.add hk hb hto (Nat.le_refl _) (x2.trans (x4.toS _)) (fun k' n' b' e hne => by
      have := h.ne_dir hd e
      simp [hne, this]) t4 (zB_tab hz)

/-- Where own stands. -/
def OwnR (db A : Nat) (mo mp dn st sm : Value) (o : Nat) (T f : Nat → Nat → Option Nat) (base k : Nat) (tab : Value) (w : World) : Prop := ∃ T', Tabs w T' f ∧ tab = tbV k (onT T' A k) ∧ onT T' A k ≠ none ∧
  w.heap[db]? = some (dirO mo (.int .i64 (o + msN T A k : Nat)) mp dn st sm (tbV 0 (T' 0 0))) ∧ Grown T T' A k base

set_option maxHeartbeats 2000000 in
theorem own_any (db A N o : Nat) (mo mp dn st sm : Value) (T f : Nat → Nat → Option Nat) (F : List Nat) (w : World) (hT : Tabs w T f) (h0 : T 0 0 ≠ none) (hd : w.heap[db]? = some (dirO mo (.int .i64 o) mp dn st sm (tbV 0 (T 0 0))))
    (hF1 : db ∈ F) (hF2 : ∀ k n b, T k n = some b → b ∈ F) (hF3 : ∀ x ∈ F, x < w.heap.size) (ho : o ≤ 1000000) (hA : A < 4294967296) (hN : N ≤ 32) :
    Calls Tryz.prog 111 #[.pointer (some ⟨db, 0, none⟩), .agg #[.int .u32 A, .int .i64 N]] w fun e w' => e = .returned (.tuple #[]) ∧ ∃ T', Tabs w' T' f ∧
      w'.heap[db]? = some (dirO mo (.int .i64 (o + msN T A (lvN N) : Nat)) mp dn st sm (tbV 0 (T' 0 0))) ∧ ExtS F w w' ∧ Grown T T' A (lvN N) w.heap.size := by
  have hA0 : Ext w (w.alloc (.cells #[.int .u32 A, .int .i64 N] 31)) := (Ext.refl w).alloc _
  have hn := heap_new w (.cells #[.int .u32 A, .int .i64 N] 31)
  have hq : ∀ w', ExtS F (w.alloc (.cells #[.int .u32 A, .int .i64 N] 31)) w' → w'.cell? ⟨w.heap.size, 0, none⟩ = some (.int .u32 A) ∧ w'.cell? ⟨w.heap.size, 1, none⟩ = some (.int .i64 N) := fun w' hx => by
    have hnF : w.heap.size ∉ F := fun h => Nat.lt_irrefl _ (hF3 _ h)
    exact ⟨by rw [heap_cell (hx.heap hnF hn)]; rfl, by rw [heap_cell (hx.heap hnF hn)]; rfl⟩
  have HQ : Hid _ := hq
  have hsz : w.heap.size ≤ (w.alloc (.cells #[.int .u32 A, .int .i64 N] 31)).heap.size := hA0.size
  have hdW := hA0.heap hd
  have d6 : (w.alloc (.cells #[.int .u32 A, .int .i64 N] 31)).cell? ⟨db, 6, none⟩ = some (tbV 0 (T 0 0)) := by rw [heap_cell hdW]; rfl
  have z0 := pl_zero A hA
  have hon : onT T A 0 = T 0 0 := by unfold onT; rw [z0]
  have hR : OwnR db A mo mp dn st sm o T f (w.alloc (.cells #[.int .u32 A, .int .i64 N] 31)).heap.size 0 (tbV 0 (T 0 0)) (w.alloc (.cells #[.int .u32 A, .int .i64 N] 31)) :=
    ⟨T, hT.ext hA0, by rw [hon], by rw [hon]; exact h0, hdW, ⟨fun _ _ _ h => h, (fun k n b h h' => by rw [h] at h'; cases h'), (fun j hj => by omega)⟩⟩
  have HR : Hid _ := hR
  obtain ⟨v0, hv0⟩ : ∃ v0, v0 = tbV 0 (T 0 0) := ⟨_, rfl⟩
  rw [← hv0] at d6 HR
  clear hq hn hd hv0 hR hdW
  have HF2 : Hid _ := hF2
  have HTT : Hid (Tabs w T f) := hT
  clear hF2 hT
  generalize hW0 : (w.alloc (.cells #[.int .u32 A, .int .i64 N] 31)) = W0 at *
  go_enter Tryz.func111, Tryz.ntmps111
  go_wp2_with fail
  clear d6
  go_loopw [4, 5] (fun tab be wr => ∃ k : Nat, k ≤ lvN N ∧ be = .int .i64 (beN k) ∧ ExtS F W0 wr ∧ Hid (OwnR db A mo mp dn st sm o T f W0.heap.size k tab wr)) (fun _ be _ => (intOf be).toNat)
  case atStart => exact ⟨0, Nat.zero_le _, rfl, ExtS.refl _ _, HR⟩
  case round =>
    obtain ⟨k, hk, rfl, hx, HR'⟩ := hrel
    have hk2 : k ≤ 2 := Nat.le_trans hk (lvN_le N)
    obtain ⟨q0, q1⟩ := HQ.out _ hx
    have ce := fun w => ends_any (A : Int) (N : Int) (beN k) w (be_int k hk2).1 (be_int k hk2).2
    by_cases hlt : k < lvN N
    · have hk1 : k ≤ 1 := by have := lvN_le N; omega
      have hgt : decide ((N : Int) > 32 - (beN k : Int)) = true := by
        have := (lvN_lt N k hk1).1 hlt
        have := lo_be k hk2
        rw [decide_eq_true_eq]; omega
      have hb8 := be_next k hk1
      have hb0 := be_int (k + 1) (by omega)
      rw [hgt] at ce
      obtain ⟨T', hT', hv, hne, hdb', hG⟩ := HR'.out
      obtain ⟨b, ho'⟩ : ∃ b, onT T' A k = some b := by
        cases hh : onT T' A k with
        | none => exact absurd hh hne
        | some b => exact ⟨b, rfl⟩
      have hmsg := ms_grown hG
      have hms : msN T A (k + 1) = msN T A k + if (T' (k + 1) (plN k A)).isNone = true then 1 else 0 := by rw [← hmsg]; rfl
      rw [ho'] at hv
      simp only [tbV] at hv
      subst hv
      have HT' : Hid (Tabs wr T' f) := hT'
      have HD' : Hid (wr.heap[db]? = some (dirO mo (.int .i64 (o + msN T A k : Nat)) mp dn st sm (tbV 0 (T' 0 0)))) := hdb'
      have HG : Hid (Grown T T' A k W0.heap.size) := hG
      clear hT' hdb' hG hne HR'
      have cs := fun w => spot_any k A b (szN k) hk2 hA w
      cases hto : T' (k + 1) (plN k A) with
      | some b' =>
        have hno : msN T A (k + 1) = msN T A k := by rw [hms, hto]; rfl
        have hto' : ∀ w', Ext wr w' → w'.cell? ⟨b, plN k A % szN k * 2 + 1, none⟩ = some (.pointer (some ⟨b', 0, none⟩)) := fun w' h' => by
          have := (HT'.out.ext h').to_cell ho'
          rw [hto] at this; exact this
        have cb : ∀ w', Ext wr w' → Calls Tryz.prog 61 #[.pointer (some ⟨b, plN k A % szN k * 2, none⟩)] w' fun e w2 => e = .returned (tabV (some b')) ∧ w2 = w' := fun w' h' => below_any b _ (some b') w' (hto' w' h')
        have HCB : Hid _ := cb
        have HTO : Hid _ := hto'
        clear cb hto'
        generalize plN k A % szN k * 2 = off at *
        generalize szN k = sz at *
        generalize (beN k : Int) = be at *
        go_wp2_with (first | (go_at_call 128; refine (ce _).mono ?_; rintro e w1 ⟨rfl, hx1⟩; obtain ⟨q0', q1'⟩ := HQ.out _ (hx.trans (hx1.toS F)); have c0 := HTO.out _ hx1) | (go_at_call 60; refine (cs _).mono ?_; rintro e w2 ⟨rfl, rfl⟩) | (go_at_call 61; refine (HCB.out _ hx1).mono ?_; rintro e w2 ⟨rfl, rfl⟩))
        refine ⟨⟨k + 1, by omega, rfl, hx.trans (hx1.toS F), ?_⟩, by simp only [intOf]; omega⟩
        have e1 := on_next T' A k hk1
        exact ⟨T', HT'.out.ext hx1, by rw [e1, hto]; rfl, by rw [e1, hto]; simp, by rw [hno]; exact hx1.heap HD'.out, HG.out.step (by rw [hto]; simp)⟩
      | none =>
        have hno : msN T A (k + 1) = msN T A k + 1 := by rw [hms, hto]; rfl
        have hto' : ∀ w', Ext wr w' → w'.cell? ⟨b, plN k A % szN k * 2 + 1, none⟩ = some (.pointer none) ∧ w'.frozen? ⟨b, plN k A % szN k * 2 + 1, none⟩ = false ∧ b < w'.heap.size := fun w' h' => by
          have := (HT'.out.ext h').to_cell ho'
          rw [hto] at this
          exact ⟨this, ((HT'.out.ext h').tab _ _ _ ho').frozen _, ((HT'.out.ext h').tab _ _ _ ho').lt⟩
        have hdc : ∀ w', Ext wr w' → w'.cell? ⟨db, 1, none⟩ = some (.int .i64 (o + msN T A k : Nat)) ∧ w'.frozen? ⟨db, 1, none⟩ = false ∧ db < w'.heap.size := fun w' h' => by
          have := h'.heap HD'.out
          exact ⟨by rw [heap_cell this]; rfl, heap_frozen this, heap_lt this⟩
        have HTO : Hid _ := hto'
        have HDC : Hid _ := hdc
        clear hto' hdc
        have hbdb : ¬ b = db := HT'.out.ne_dir HD'.out ho'
        have hbdb' : ¬ db = b := fun h => hbdb h.symm
        obtain ⟨oo, hoo⟩ : ∃ oo, oo = o + msN T A k := ⟨_, rfl⟩
        have hoo2 : oo ≤ 2000000 := by
          have : ∀ j, msN T A j ≤ j := by
            intro j; induction j with
            | zero => exact Nat.le_refl _
            | succ j ih => simp only [msN]; split <;> omega
          have := this k; omega
        rw [← hoo] at HDC
        have HOO : Hid _ := hoo
        clear hoo
        generalize hoff : plN k A % szN k * 2 = off at *
        generalize hsz' : szN k = sz at *
        generalize (beN k : Int) = be at *
        go_wp2_with (first | (go_at_call 128; refine (ce _).mono ?_; rintro e w1 ⟨rfl, hx1⟩; obtain ⟨q0', q1'⟩ := HQ.out _ (hx.trans (hx1.toS F)); obtain ⟨c0, c1, c2⟩ := HTO.out _ hx1; obtain ⟨c3, c4, c5⟩ := HDC.out _ hx1) | (go_at_call 60; refine (cs _).mono ?_; rintro e w2 ⟨rfl, rfl⟩))
        have hst := own_step (HT'.out.ext hx1) hk1 ho' hto (hx1.heap (by rw [HOO.out]; exact HD'.out) : w2.heap[db]? = some (dirO mo (.int .i64 oo) mp dn st sm (tbV 0 (T' 0 0)))) _ rfl
        rw [hsz', hoff] at hst
        generalize hW3 : (((w2.setCell ⟨b, off + 1, none⟩ (.pointer (some ⟨w2.heap.size, 0, none⟩))).setCell ⟨db, 1, none⟩ (.int .i64 ((oo : Int) + 1))).alloc (.cells Tryz.zeroCells183 183)) = W3 at *
        obtain ⟨e1, e2, e3, e4⟩ := hst
        refine (below_any b off (some w2.heap.size) W3 e1).mono ?_
        rintro e w4 ⟨rfl, rfl⟩
        have HE2 : Hid _ := e2
        have HE3 : Hid _ := e3
        have HE4 : Hid _ := e4
        clear e1 e2 e3 e4
        go_wp2_with fail
        have hbF : b ∈ F ∨ W0.heap.size ≤ b := by
          cases hh : T k (plN k A / szN k) with
          | some b2 =>
            have := HG.out.old _ _ b2 hh
            unfold onT at ho'
            rw [ho'] at this
            cases this
            exact .inl (HF2.out _ _ _ hh)
          | none => exact .inr (HG.out.new _ _ b hh ho').1
        have hX : ExtS F W0 w4 := (hx.trans (hx1.toS F)).then HE4.out (fun x hx' => by
          rcases List.mem_cons.1 hx' with rfl | hx'
          · exact hbF
          · rw [List.mem_singleton.1 hx']; exact .inl hF1)
        refine ⟨⟨k + 1, by omega, rfl, hX, ?_⟩, by simp only [intOf]; omega⟩
        have e1 := on_next (putT T' (k + 1) (plN k A) (some w2.heap.size)) A k hk1
        rw [putT_same] at e1
        refine ⟨_, HE2.out, by rw [e1]; rfl, by rw [e1]; simp, ?_, HG.out.put hto (Nat.le_trans hx.size hx1.size)⟩
        rw [putT_other _ _ (by omega), HE3.out, hno, HOO.out]
        congr 3
    · obtain rfl : k = lvN N := by omega
      have hbN := lv_be N hN
      have hgt : decide ((N : Int) > 32 - (beN (lvN N) : Int)) = false := by
        rw [decide_eq_false_iff_not]; omega
      rw [hgt] at ce
      generalize (beN (lvN N) : Int) = be at *
      go_wp2_with (go_at_call 128; refine (ce _).mono ?_; rintro e w1 ⟨rfl, hx1⟩)
      go_end0
      obtain ⟨T', k1, -, -, k2, k3⟩ := HR'.out
      exact ⟨rfl, T', k1.ext hx1, hx1.heap k2, ((hA0.toS F).trans hx).trans (hx1.toS F), ⟨k3.old, fun k n b a1 a2 => ⟨by have := (k3.new k n b a1 a2).1; omega, (k3.new k n b a1 a2).2⟩, k3.way⟩⟩
end Go.Proofs.YtmoimkeeldlpkaaGreat.Dr

namespace Go.Proofs.YtmoimkeeldlpkaaGreat.Dr

open Go.RowKit Go.Proofs.YtmoimkeeldlpkaaGreat Go.Proofs.YtmoimkeeldlpkaaGreat.Tri

set_option linter.unusedVariables false

/-- The first address of a place. -/
def adN (k m : Nat) : Nat := m * 2 ^ beN k

/-- What places are painted with: the longest of their level. -/
def Painted (E : List (PX × Nat)) (f : Nat → Nat → Option Nat) : Prop := ∀ k m, k ≤ 2 → m < 2 ^ (32 - beN k) → Bst E (loN k) (loN (k + 1)) (adN k m) (f k m)

/-- Which tables are there: those that are owned, and those on an address's way, down to a level. -/
def DisR (T : Nat → Nat → Option Nat) (K : List PX) (A lv k : Nat) : Prop := ∀ j n, 1 ≤ j → j ≤ 2 → ((T j n).isSome = true ↔ domB K j n = true ∨ (j ≤ k ∧ j ≤ lv ∧ n = plN (j - 1) A))

theorem div_be {x a b : Nat} (h : a ≤ b) : x / 2 ^ b = x / 2 ^ a / 2 ^ (b - a) := by
  rw [Nat.div_div_eq_div_mul, ← Nat.pow_add]; congr 2; omega

/-- Whether a prefix has an address hangs on the address's place in the prefix's table. -/
theorem cov_place {p : PX} (hp : Vp p) {k A : Nat} (hk : k ≤ 2) (hl : p.2 < (loN (k + 1) : Int)) : cov p ((A : Int), 32) = cov p ((adN k (plN k A) : Nat), 32) := by
  rw [Bool.eq_iff_iff, cov_add hp, cov_add hp]
  obtain ⟨B, N, rfl, hN, hB, -⟩ := hp
  have hlo := lo_be k hk
  simp only [Int.toNat_natCast] at *
  have hbe : beN k ≤ 32 - N := by omega
  have e : adN k (plN k A) / 2 ^ (32 - N) = A / 2 ^ (32 - N) := by
    rw [div_be hbe, div_be (x := A) hbe]
    unfold adN plN
    rw [Nat.mul_div_cancel _ (Nat.pow_pos (by omega))]
  rw [e]

/-- A longer one that has an address lies behind the address's place. -/
theorem cov_behind {p : PX} (hp : Vp p) {k A : Nat} (hk : k ≤ 2) (hl : (loN (k + 1) : Int) ≤ p.2) (h : cov p ((A : Int), 32) = true) : p.1.toNat / 2 ^ beN k = plN k A := by
  rw [cov_add hp] at h
  obtain ⟨B, N, rfl, hN, hB, -⟩ := hp
  have hlo := lo_be k hk
  simp only [Int.toNat_natCast] at *
  have hbe : 32 - N ≤ beN k := by omega
  unfold plN
  rw [div_be hbe, h, ← div_be hbe]

theorem pl_lt (k A : Nat) (hA : A < 4294967296) (hk : k ≤ 2) : plN k A < 2 ^ (32 - beN k) := by
  unfold plN
  rw [Nat.div_lt_iff_lt_mul (Nat.pow_pos (by omega)), ← Nat.pow_add]
  have : 32 - beN k + beN k = 32 := by unfold beN; omega
  rw [this]; exact hA

theorem pl_up (k m i : Nat) (hk : k ≤ 1) (hi : i < 256) : plN k (adN (k + 1) (m * 256 + i)) = m := by
  unfold plN adN
  have e : beN k = beN (k + 1) + 8 := by unfold beN; omega
  rw [e, Nat.pow_add, ← Nat.div_div_eq_div_mul, Nat.mul_div_cancel _ (Nat.pow_pos (by omega))]
  exact mul_add_div hi

theorem pl_down (k B : Nat) (hk : k ≤ 1) : plN (k + 1) B / 256 = plN k B := pl_next k B hk

theorem empty_iff {T f : Nat → Nat → Option Nat} {E : List (PX × Nat)} {A lv k : Nat} (hf : Painted E f) (hE : ∀ x ∈ E, Vp x.1) (hT : DisR T (E.map (·.1)) A lv (k + 1)) (ht : ∀ j n, 2 < j → T j n = none) (hk : k ≤ 1) (m : Nat) (hm : m < 2 ^ (32 - beN k)) :
    (∀ i, i < 256 → f (k + 1) (m * 256 + i) = none ∧ T (k + 1 + 1) (m * 256 + i) = none) ↔ domB (E.map (·.1)) (k + 1) m = false := by
  have hbe : 32 - beN (k + 1) = 32 - beN k + 8 := by unfold beN; omega
  have hmi : ∀ i, i < 256 → m * 256 + i < 2 ^ (32 - beN (k + 1)) := fun i hi => by
    rw [hbe, Nat.pow_add]
    have : (m + 1) * 2 ^ 8 ≤ 2 ^ (32 - beN k) * 2 ^ 8 := Nat.mul_le_mul_right _ hm
    omega
  constructor
  · intro h
    cases hd : domB (E.map (·.1)) (k + 1) m with
    | false => rfl
    | true =>
      exfalso
      obtain ⟨p, hp, h1, h2⟩ := dom_iff.1 hd
      obtain ⟨⟨p', b⟩, hx, rfl⟩ := List.mem_map.1 hp
      simp only at h1 h2
      have hv := hE _ hx
      simp only at hv
      rw [Nat.add_sub_cancel] at h2
      have hpl : plN (k + 1) p'.1.toNat / 256 = m := by rw [pl_down k _ hk]; exact h2
      have hsp : m * 256 + plN (k + 1) p'.1.toNat % 256 = plN (k + 1) p'.1.toNat := by rw [← hpl, Nat.mul_comm]; exact Nat.div_add_mod _ 256
      obtain ⟨k1, k2⟩ := h (plN (k + 1) p'.1.toNat % 256) (Nat.mod_lt _ (by omega))
      rw [hsp] at k1 k2
      rcases Int.lt_or_le p'.2 (loN (k + 1 + 1) : Int) with hl | hl
      · have hA' : p'.1.toNat < 4294967296 := by have := hv.bd; omega
        have hb := hf (k + 1) (plN (k + 1) p'.1.toNat) (by omega) (pl_lt _ _ hA' (by omega))
        rw [k1] at hb
        have := hb _ hx h1 hl
        rw [← cov_place hv (by omega) hl] at this
        have hself : cov p' ((p'.1.toNat : Int), 32) = true := by rw [cov_add hv]
        rw [hself] at this; cases this
      · have hk0 : k + 1 + 1 ≤ 2 := by
          by_cases e : k = 1
          · subst e
            have := hv.bd
            simp only [loN] at hl; omega
          · omega
        have hdom : domB (E.map (·.1)) (k + 1 + 1) (plN (k + 1) p'.1.toNat) = true := dom_iff.2 ⟨p', hp, hl, rfl⟩
        have := (hT (k + 1 + 1) (plN (k + 1) p'.1.toNat) (by omega) hk0).2 (.inl hdom)
        rw [k2] at this; cases this
  · intro hd i hi
    constructor
    · cases hh : f (k + 1) (m * 256 + i) with
      | none => rfl
      | some b =>
        exfalso
        have hb := hf (k + 1) (m * 256 + i) (by omega) (hmi i hi)
        rw [hh] at hb
        obtain ⟨p, h1, h2, h3, h4, -⟩ := hb
        have := cov_behind (hE _ h1) (k := k) (by omega) h2 h4
        rw [pl_up k m i hk hi] at this
        have : domB (E.map (·.1)) (k + 1) m = true := dom_iff.2 ⟨p, List.mem_map.2 ⟨_, h1, rfl⟩, h2, this⟩
        rw [hd] at this; cases this
    · cases hh : T (k + 1 + 1) (m * 256 + i) with
      | none => rfl
      | some b =>
        exfalso
        have hk0 : k + 1 + 1 ≤ 2 := by
          rcases Nat.lt_or_ge 2 (k + 1 + 1) with h | h
          · rw [ht _ _ h] at hh; cases hh
          · exact h
        rcases (hT (k + 1 + 1) (m * 256 + i) (by omega) hk0).1 (by rw [hh]; rfl) with h | h
        · obtain ⟨p, h1, h2, h3⟩ := dom_iff.1 h
          have e : p.1.toNat / 2 ^ beN k = m := by
            have h3' : plN (k + 1) p.1.toNat = m * 256 + i := h3
            have := pl_down k p.1.toNat hk
            rw [h3', mul_add_div hi] at this
            exact this.symm
          have hlo : (loN (k + 1) : Int) ≤ p.2 := by
            have : loN (k + 1) ≤ loN (k + 1 + 1) := by
              have : k = 0 := by omega
              subst this; decide
            omega
          have : domB (E.map (·.1)) (k + 1) m = true := dom_iff.2 ⟨p, h1, hlo, e⟩
          rw [hd] at this; cases this
        · omega
end Go.Proofs.YtmoimkeeldlpkaaGreat.Dr

namespace Go.Proofs.YtmoimkeeldlpkaaGreat.Dr

set_option maxRecDepth 100000

open Go.RowKit Go.Proofs.YtmoimkeeldlpkaaGreat Go.Proofs.YtmoimkeeldlpkaaGreat.Tri

set_option linter.unusedVariables false

theorem part_place (cs : Array Value) (off : Nat) (w : World) : (part 127 cs off).run Tryz.prog w = .ok (.agg (cs.extract off (off + 2))) w := by kernel_rfl

theorem extract_two {cs : Array Value} {off : Nat} {a b : Value} (h1 : cs[off]? = some a) (h2 : cs[off + 1]? = some b) : cs.extract off (off + 2) = #[a, b] := by
  have l2 := (Array.getElem?_eq_some_iff.1 h2).1
  apply Array.ext'
  simp only [Array.toList_extract, List.extract_eq_take_drop]
  have e1 : cs.toList[off]? = some a := by simpa using h1
  have e2 : cs.toList[off + 1]? = some b := by simpa using h2
  obtain ⟨l1, g1⟩ := List.getElem?_eq_some_iff.1 e1
  obtain ⟨l2', g2⟩ := List.getElem?_eq_some_iff.1 e2
  rw [List.drop_eq_getElem_cons l1, List.drop_eq_getElem_cons l2', g1, g2]
  simp

theorem eq_place (o1 o2 : Option Nat) (w : World) : (Op.equalIn 9999 127 (.agg #[ptV o1, ptV o2]) (.agg #[.pointer none, .pointer none])).run Tryz.prog w = .ok (o1.isNone && o2.isNone) w := by
  cases o1 <;> cases o2 <;> kernel_rfl

theorem items_any (cs : Array Value) (f g : Nat → Option Nat) (h : ∀ i, i < 256 → cs[i * 2]? = some (ptV (f i)) ∧ cs[i * 2 + 1]? = some (ptV (g i))) (w : World) :
    ∀ is : List Nat, (∀ i ∈ is, i < 256) → (Op.eqItems 9999 127 2 cs zB is).run Tryz.prog w = .ok (is.all fun i => (f i).isNone && (g i).isNone) w
  | [], _ => rfl
  | i :: is, hi => by
    have ih := items_any cs f g h w is (fun j hj => hi j (List.mem_cons_of_mem _ hj))
    have hi0 := hi i List.mem_cons_self
    have ez : zB.extract (i * 2) (i * 2 + 2) = #[.pointer none, .pointer none] := extract_two (by simp only [zB, Array.getElem?_replicate]; rw [if_pos (by omega)]) (by simp only [zB, Array.getElem?_replicate]; rw [if_pos (by omega)])
    simp only [Op.eqItems, Sem.run_bind, part_place, Result.andThen_ok, extract_two (h i hi0).1 (h i hi0).2, ez, eq_place, List.all_cons]
    cases hb : ((f i).isNone && (g i).isNone) with
    | false => rfl
    | true => simpa using ih

theorem under_block : Tryz.prog.underlying 183 = some (.array 256 127) := by kernel_rfl

theorem cells_place : Tryz.prog.cellsOf 127 = 2 := by kernel_rfl

theorem eql_block {cs : Array Value} {f g : Nat → Option Nat} (h : ∀ i, i < 256 → cs[i * 2]? = some (ptV (f i)) ∧ cs[i * 2 + 1]? = some (ptV (g i))) (w : World) :
    (Op.equalIn 10000 183 (.agg cs) (.agg Tryz.zeroCells183)).run Tryz.prog w = .ok ((List.range 256).all fun i => (f i).isNone && (g i).isNone) w := by
  obtain ⟨i0, hi0, -⟩ := Option.map_eq_some_iff.1 info_place
  rw [zero_cells, show (10000 : Nat) = 9999 + 1 from rfl, run_equalIn_array w 9999 cs zB under_block hi0, cells_place]
  exact items_any cs f g h w _ (fun i hi => List.mem_range.1 hi)

/-- A load of a whole block, at the head of a region's rest. -/
theorem wpl_block {P : Program} {w : World} {ops : Array Oper} {rest : List Oper} {o : Oper} {a : Act} {Q : Exit → Act → World → Prop} (hgd : Region.wanted o (yielded ops a.tmps) = true) (t : TypeId) (x : Operand) (hop : o.op = .load t x) (g : Nat) (cs : Array Value) (t' : TypeId) (d : TypeDesc)
    (hx : a.eval x = .pointer (some ⟨g, 0, none⟩)) (hg : w.heap[g]? = some (.cells cs t' (0, 0))) (hu : P.underlying t = some d) (hd : (match d with | .struct _ | .array _ _ => true | _ => false) = true) (hi : (P.info? t).map (·.size) = some cs.size)
    (h : wpList P ops Q rest (a.put o.dst (.agg cs)) w) : wpList P ops Q (o :: rest) a w := by
  refine wpList_want hgd fun K hK => ?_
  have hr := run_loadVar_row (P := P) w g t' t cs (0, 0) d hg hu hd hi
  unfold Oper.wp
  simp only [execOp, hop, hx, Instr.loadAt, Instr.sureAddr, Sem.run_bind, Sem.run_pure, Result.andThen, hr]
  exact hK _ _ h

theorem size_block : (Tryz.prog.info? 183).map (·.size) = some 512 := by kernel_rfl
end Go.Proofs.YtmoimkeeldlpkaaGreat.Dr

namespace Go.Proofs.YtmoimkeeldlpkaaGreat.Dr

set_option maxRecDepth 100000

open Go.RowKit Go.Proofs.YtmoimkeeldlpkaaGreat Go.Proofs.YtmoimkeeldlpkaaGreat.Tri

set_option linter.unusedVariables false

def DisAns (db A lv k : Nat) (o : Int) (mo mp dn st sm : Value) (K : List PX) (T f : Nat → Nat → Option Nat) (F : List Nat) (w w' : World) : Prop := ∃ T', Tabs w' T' f ∧
  w'.heap[db]? = some (dirO mo (.int .i64 (o - ((moreN K A lv : Int) - (moreN K A k : Int)))) mp dn st sm (tbV 0 (T' 0 0))) ∧ ExtS F w w' ∧ DisR T' K A lv k ∧ (∀ j n, j ≤ k → T' j n = T j n) ∧ (∀ j n b, T' j n = some b → T j n = some b)

theorem more_le (K : List PX) (A : Nat) : ∀ j, moreN K A j ≤ j := by
  intro j; induction j with
  | zero => exact Nat.le_refl _
  | succ j ih => simp only [moreN]; split <;> omega

theorem more_mono (K : List PX) (A : Nat) {i j : Nat} (h : i ≤ j) : moreN K A i ≤ moreN K A j := by
  obtain ⟨d, rfl⟩ : ∃ d, j = i + d := ⟨j - i, by omega⟩
  clear h
  induction d with
  | zero => exact Nat.le_refl _
  | succ d ih => rw [← Nat.add_assoc]; simp only [moreN]; omega

/-- A table less. -/
theorem dis_cut {W : World} {T f : Nat → Nat → Option Nat} (h : Tabs W T f) {A k b db nb : Nat} {oo : Int} {mo mp dn st sm fi : Value} (hk : k ≤ 1) (hb : onT T A k = some b) (hto : T (k + 1) (plN k A) = some nb) (hd : W.heap[db]? = some (dirO mo (.int .i64 oo) mp dn st sm fi))
    (he : ∀ i, i < 256 → f (k + 1) (plN k A * 256 + i) = none ∧ T (k + 1 + 1) (plN k A * 256 + i) = none) :
    ∀ W3, W3 = (W.setCell ⟨b, plN k A % szN k * 2 + 1, none⟩ (.pointer none)).setCell ⟨db, 1, none⟩ (.int .i64 (oo - 1)) →
      Tabs W3 (putT T (k + 1) (plN k A) none) f ∧ W3.heap[db]? = some (dirO mo (.int .i64 (oo - 1)) mp dn st sm fi) ∧ ExtS [b, db] W W3 := by
  intro W3 hW3
  have hbd := h.ne_dir hd hb
  have t1 := h.tab k _ b hb
  have t2 := t1.set_to (Nat.mod_lt (plN k A) (szN_pos k)) none
  have hd1 : (W.setCell ⟨b, plN k A % szN k * 2 + 1, none⟩ (.pointer none)).heap[db]? = some (dirO mo (.int .i64 oo) mp dn st sm fi) := by
    have x1 : ExtS [b] W (W.setCell ⟨b, plN k A % szN k * 2 + 1, none⟩ (.pointer none)) := (ExtS.refl _ _).setCell (.inl (by simp)) _
    exact x1.heap (by simpa using hbd.symm) hd
  have x2 : ExtS [b, db] W ((W.setCell ⟨b, plN k A % szN k * 2 + 1, none⟩ (.pointer none)).setCell ⟨db, 1, none⟩ (.int .i64 (oo - 1))) := ((ExtS.refl _ _).setCell (.inl (by simp)) _).setCell (.inl (by simp)) _
  have hd2 := heap_set (k := 1) hd1 (.int .i64 (oo - 1))
  have x3 : ExtS [db] (W.setCell ⟨b, plN k A % szN k * 2 + 1, none⟩ (.pointer none)) ((W.setCell ⟨b, plN k A % szN k * 2 + 1, none⟩ (.pointer none)).setCell ⟨db, 1, none⟩ (.int .i64 (oo - 1))) := (ExtS.refl _ _).setCell (.inl (by simp)) _
  have t3 := TabAt.later (f := fun i => f k (plN k A / szN k * szN k + i)) t2 x3 (by simpa using hbd)
  subst hW3
  refine ⟨?_, hd2, x2⟩
  exact h.cut hk hb hto x2 (fun k' n' b' e hne => by
      have := h.ne_dir hd e
      simp [hne, this]) t3 (fun i hi => (he i hi).1) (fun i hi => (he i hi).2)

set_option maxHeartbeats 1000000 in
theorem disown_base (db A N : Nat) (mo mp dn st sm : Value) (E : List (PX × Nat)) (f : Nat → Nat → Option Nat) (hf : Painted E f) (hE : ∀ x ∈ E, Vp x.1) (hA : A < 4294967296) (hN : N ≤ 32) (k : Nat) (o : Int) (T : Nat → Nat → Option Nat) (F : List Nat) (w : World) (hk : lvN N = k) (hT : Tabs w T f) (hd : w.heap[db]? = some (dirO mo (.int .i64 o) mp dn st sm (tbV 0 (T 0 0)))) (hF1 : db ∈ F) (hF2 : ∀ k n b, T k n = some b → b ∈ F) (hF3 : ∀ x ∈ F, x < w.heap.size) (hR : DisR T (E.map (·.1)) A (lvN N) (lvN N)) (h0 : onT T A 0 ≠ none) (ho0 : 0 ≤ o) (ho : o ≤ 1000000) :
    Calls Tryz.prog 106 #[.pointer (some ⟨db, 0, none⟩), tbV k (onT T A k), .agg #[.int .u32 A, .int .i64 N], .int .i64 (beN k)] w fun e w' => e = .returned (.tuple #[]) ∧ DisAns db A (lvN N) k o mo mp dn st sm (E.map (·.1)) T f F w w' := by
  have hk2 : k ≤ 2 := by have := lvN_le N; omega
  have ce := fun w => ends_any (A : Int) (N : Int) (beN k) w (be_int k hk2).1 (be_int k hk2).2
  have hbN := lv_be N hN
  have hgt : decide ((N : Int) > 32 - (beN k : Int)) = false := by
    rw [decide_eq_false_iff_not]
    rw [hk] at hbN
    omega
  rw [hgt] at ce
  have hA0 : Ext w (w.alloc (.cells #[.int .u32 A, .int .i64 N] 31)) := (Ext.refl w).alloc _
  have hans : ∀ w', Ext w w' → DisAns db A (lvN N) k o mo mp dn st sm (E.map (·.1)) T f F w w' := fun w' hx => by
    have e : lvN N = k := by omega
    refine ⟨T, hT.ext hx, ?_, hx.toS F, by rw [e] at hR ⊢; exact hR, fun _ _ _ => rfl, fun _ _ _ h => h⟩
    rw [e, show o - ((moreN (E.map (·.1)) A k : Int) - (moreN (E.map (·.1)) A k : Int)) = o by omega]
    exact hx.heap hd
  have HA : Hid _ := hans
  generalize tbV k (onT T A k) = tv
  clear hans hT hR hd hF2 hF3 hf hE
  generalize (beN k : Int) = be at *
  go_enter Tryz.func106, Tryz.ntmps106
  go_wp2_with (go_at_call 128; refine (ce _).mono ?_; rintro e w1 ⟨rfl, hx1⟩)
  first | go_end0 | (simp only [Exit.inBlock, Exit.then]; refine bodyPost_ret (results_none rfl _ _ _) rfl ?_) | refine bodyPost_ret (results_none rfl _ _ _) rfl ?_
  exact ⟨rfl, HA.out _ (hA0.trans hx1)⟩

set_option maxHeartbeats 2000000 in
theorem disown_step (db A N : Nat) (mo mp dn st sm : Value) (E : List (PX × Nat)) (f : Nat → Nat → Option Nat) (hf : Painted E f) (hE : ∀ x ∈ E, Vp x.1) (hA : A < 4294967296) (hN : N ≤ 32) (k : Nat) (o : Int) (T : Nat → Nat → Option Nat) (F : List Nat) (w : World) (hk : k < lvN N) (hT : Tabs w T f) (hd : w.heap[db]? = some (dirO mo (.int .i64 o) mp dn st sm (tbV 0 (T 0 0)))) (hF1 : db ∈ F) (hF2 : ∀ k n b, T k n = some b → b ∈ F) (hF3 : ∀ x ∈ F, x < w.heap.size) (hR : DisR T (E.map (·.1)) A (lvN N) (lvN N)) (h0 : onT T A 0 ≠ none) (ho0 : 0 ≤ o) (ho : o ≤ 1000000)
    (cr : ∀ w', Ext w w' → Calls Tryz.prog 106 #[.pointer (some ⟨db, 0, none⟩), tbV (k + 1) (onT T A (k + 1)), .agg #[.int .u32 A, .int .i64 N], .int .i64 (beN (k + 1))] w' fun e w2 => e = .returned (.tuple #[]) ∧ DisAns db A (lvN N) (k + 1) o mo mp dn st sm (E.map (·.1)) T f F w' w2) :
    Calls Tryz.prog 106 #[.pointer (some ⟨db, 0, none⟩), tbV k (onT T A k), .agg #[.int .u32 A, .int .i64 N], .int .i64 (beN k)] w fun e w' => e = .returned (.tuple #[]) ∧ DisAns db A (lvN N) k o mo mp dn st sm (E.map (·.1)) T f F w w' := by
  have hk1 : k ≤ 1 := by have := lvN_le N; omega
  have hk2 : k ≤ 2 := by omega
  have ce := fun w => ends_any (A : Int) (N : Int) (beN k) w (be_int k hk2).1 (be_int k hk2).2
  have hgt : decide ((N : Int) > 32 - (beN k : Int)) = true := by
    have := (lvN_lt N k hk1).1 (by omega)
    have := lo_be k hk2
    rw [decide_eq_true_eq]; omega
  rw [hgt] at ce
  have hb8 := be_next k hk1
  have hb0 := be_int (k + 1) (by omega)
  have hA0 : Ext w (w.alloc (.cells #[.int .u32 A, .int .i64 N] 31)) := (Ext.refl w).alloc _
  have hn := heap_new w (.cells #[.int .u32 A, .int .i64 N] 31)
  have hq : ∀ w', ExtS F (w.alloc (.cells #[.int .u32 A, .int .i64 N] 31)) w' → w'.cell? ⟨w.heap.size, 0, none⟩ = some (.int .u32 A) ∧ w'.cell? ⟨w.heap.size, 1, none⟩ = some (.int .i64 N) := fun w' hx => by
    have hnF : w.heap.size ∉ F := fun h => Nat.lt_irrefl _ (hF3 _ h)
    exact ⟨by rw [heap_cell (hx.heap hnF hn)]; rfl, by rw [heap_cell (hx.heap hnF hn)]; rfl⟩
  have HQ : Hid _ := hq
  obtain ⟨q0, q1⟩ := hq _ (ExtS.refl _ _)
  have hwayS : ∀ j, j ≤ lvN N → onT T A j ≠ none := fun j hj => by
    match j, hj with
    | 0, _ => exact h0
    | j + 1, hj =>
      have hj1 : j ≤ 1 := by have := lvN_le N; omega
      rw [on_next T A j hj1]
      have := (hR (j + 1) (plN j A) (by omega) (by omega)).2 (.inr ⟨hj, hj, rfl⟩)
      intro h; rw [h] at this; cases this
  obtain ⟨b, hb⟩ : ∃ b, onT T A k = some b := by
    cases hh : onT T A k with
    | none => exact absurd hh (hwayS k (by omega))
    | some b => exact ⟨b, rfl⟩
  obtain ⟨nb, hnb⟩ : ∃ nb, T (k + 1) (plN k A) = some nb := by
    have := hwayS (k + 1) (by omega)
    rw [on_next T A k hk1] at this
    cases hh : T (k + 1) (plN k A) with
    | none => exact absurd hh this
    | some nb => exact ⟨nb, rfl⟩
  have hb1 : T k (plN k A / szN k) = some b := hb
  have cs := fun w => spot_any k A b (szN k) hk2 hA w
  have cb : ∀ w', Ext w w' → Calls Tryz.prog 61 #[.pointer (some ⟨b, plN k A % szN k * 2, none⟩)] w' fun e w2 => e = .returned (tbV (k + 1) (onT T A (k + 1))) ∧ w2 = w' := fun w' hx' => by
    rw [on_next T A k hk1, ← tab_next]
    exact below_any b _ _ w' ((hT.ext hx').to_cell hb)
  have HCB : Hid _ := cb
  have HCR : Hid _ := cr
  clear cb cr hq hn
  rw [hb]
  simp only [tbV]
  obtain ⟨v1, hv1⟩ : ∃ v1, v1 = tbV (k + 1) (onT T A (k + 1)) := ⟨_, rfl⟩
  rw [← hv1] at HCB HCR
  clear hv1
  have HT : Hid (Tabs w T f) := hT
  have HR : Hid _ := hR
  have HF2 : Hid _ := hF2
  have HF3 : Hid _ := hF3
  have HE : Hid _ := hE
  have HPf : Hid (Painted E f) := hf
  have HB : Hid (onT T A k = some b) := hb
  have HNB : Hid (T (k + 1) (plN k A) = some nb) := hnb
  have HO0 : Hid (0 ≤ o) := ho0
  have HKL : Hid (k < lvN N) := hk
  clear hT hR hF2 hF3 hE hf hwayS
  generalize hoff : plN k A % szN k * 2 = off at *
  generalize hsz : szN k = sz at *
  generalize hbe : (beN k : Int) = be at *
  generalize hbe8 : (beN (k + 1) : Int) = be8 at *
  generalize hW0 : (w.alloc (.cells #[.int .u32 A, .int .i64 N] 31)) = W0 at *
  have hwb : IntKind.i64.wrap be8 = be8 := by rw [IntKind.wrap_i64]; omega
  clear hbe hbe8
  clear hd h0 hk hb1 ho0 hb hnb
  go_enter Tryz.func106, Tryz.ntmps106
  go_wp2_with (first | (go_at_call 128; refine (ce _).mono ?_; rintro e w1 ⟨rfl, hx1⟩; obtain ⟨q0', q1'⟩ := HQ.out _ (hx1.toS F)) | (go_at_call 60; refine (cs _).mono ?_; rintro e w2 ⟨rfl, rfl⟩))
  have hx2 := hx1.drew
  refine wp_region_eagerS F [(0, false), (1, false), (3, false), (4, false), (5, false), (2, true), (6, true)] (by kernel_rfl) (by kernel_rfl) rfl (by kernel_rfl) (fun _ _ _ _ _ h => h) ?_
  generalize w2.drew = W2 at *
  have g0 : ∀ w', ExtS F W2 w' → w'.cell? ⟨w.heap.size, 0, none⟩ = some (.int .u32 A) := fun w' h => (HQ.out _ ((hx2.toS F).trans h)).1
  have g1 : ∀ w', ExtS F W2 w' → w'.cell? ⟨w.heap.size, 1, none⟩ = some (.int .i64 N) := fun w' h => (HQ.out _ ((hx2.toS F).trans h)).2
  clear q0 q1 q0' q1'
  iterate 5 (refine wpE_read (v := ?_) rfl (by rfl) ?_ ?_; rotate_left; (focus (intro w' hx; go_simp; first | done | with_reducible rfl)); simp only [Act.put, List.setIfInBounds_toArray, List.set_cons_zero, List.set_cons_succ])
  refine wpE_call rfl (by rfl) (fun K hK => ?_); go_simp; first | (go_at_call 61; refine (HCB.out _ (hA0.trans hx2)).mono ?_; rintro e w3 ⟨rfl, rfl⟩; refine hK _ _ (ExtS.refl _ _) ?_; clear hK K)
  refine wpE_call rfl (by rfl) (fun K hK => ?_); go_simp; first | (go_at_call 106; refine (HCR.out _ (hA0.trans hx2)).mono ?_; rintro e w4 ⟨rfl, hans⟩; have HAN : Hid _ := hans; clear hans; refine hK _ _ (by obtain ⟨_, _, _, h, _⟩ := HAN.out; exact h) ?_; clear hK K)
  refine wpE_done ?_
  clear g0 g1
  obtain ⟨T1, t1, t2, t3, t4, t5, t6⟩ := HAN.out
  have u1 : onT T1 A k = some b := by unfold onT; rw [t5 _ _ (by omega)]; exact HB.out
  have u2 : T1 (k + 1) (plN k A) = some nb := by rw [t5 _ _ (Nat.le_refl _)]; exact HNB.out
  have HU1 : Hid (onT T1 A k = some b) := u1
  have HU2 : Hid (T1 (k + 1) (plN k A) = some nb) := u2
  have c1 : w4.cell? ⟨b, off + 1, none⟩ = some (.pointer (some ⟨nb, 0, none⟩)) := by
    have := t1.to_cell u1
    rw [hsz, hoff, u2] at this; exact this
  have c2 : w4.frozen? ⟨b, off + 1, none⟩ = false := (t1.tab _ _ _ u1).frozen _
  obtain ⟨cs, k1, k2, k3⟩ := t1.tab _ _ _ u2
  rw [sz_next] at k2 k3
  have hsize : (Tryz.prog.info? 183).map (·.size) = some cs.size := by rw [k2, size_block]
  have heq := eql_block k3
  have hem := empty_iff HPf.out HE.out t4 t1.top hk1 (plN k A) (pl_lt k A hA hk2)
  obtain ⟨c, hc⟩ : ∃ c, c = (List.range 256).all fun i => (f (k + 1) (plN k A * 256 + i)).isNone && (T1 (k + 1 + 1) (plN k A * 256 + i)).isNone := ⟨_, rfl⟩
  rw [← hc] at heq
  have hcd : c = true ↔ domB (E.map (·.1)) (k + 1) (plN k A) = false := by
    rw [← hem, hc, List.all_eq_true]
    constructor
    · intro h i hi
      have := h i (List.mem_range.2 hi)
      simpa using this
    · intro h i hi
      obtain ⟨h1, h2⟩ := h i (List.mem_range.1 hi)
      rw [h1, h2]; rfl
  have HCD : Hid _ := hcd
  have HEM : Hid _ := hem
  have HT1 : Hid (Tabs w4 T1 f) := t1
  have HT2 : Hid _ := t2
  have hX : ExtS F w w4 := (hA0.toS F).trans ((hx2.toS F).trans t3)
  have HT4 : Hid (DisR T1 (E.map (·.1)) A (lvN N) (k + 1)) := t4
  have HT5 : Hid _ := t5
  have HT6 : Hid _ := t6
  have HCS : Hid (w4.heap[nb]? = some (.cells cs 183 (0, 0))) := k1
  have m1 := more_le (E.map (·.1)) A (lvN N)
  have m2 := more_mono (E.map (·.1)) A (show k + 1 ≤ lvN N from HKL.out)
  have m3 := lvN_le N
  obtain ⟨oo, hoo⟩ : ∃ oo : Int, oo = o - ((moreN (E.map (·.1)) A (lvN N) : Int) - (moreN (E.map (·.1)) A (k + 1) : Int)) := ⟨_, rfl⟩
  have hoo1 : -10 ≤ oo ∧ oo ≤ 1000000 := by have := HO0.out; omega
  have HOO : Hid _ := hoo
  have d1 : w4.cell? ⟨db, 1, none⟩ = some (.int .i64 oo) := by rw [heap_cell t2, hoo]; rfl
  have d2 : w4.frozen? ⟨db, 1, none⟩ = false := heap_frozen t2
  have hbd : ¬ b = db := t1.ne_dir t2 u1
  have hbd' : ¬ db = b := fun h => hbd h.symm
  have hub := under_block
  clear t1 t2 t3 t4 t5 t6 k1 k2 k3 u1 u2 hc hcd hem hoo m1 m2 m3
  cases c with
  | false =>
    go_wp2_with (refine wpl_block (by rfl) 183 _ (by rfl) nb cs 183 _ (by rfl) HCS.out hub (by rfl) hsize ?_)
    go_end0
    have hdom : domB (E.map (·.1)) (k + 1) (plN k A) = true := by
      cases hh : domB (E.map (·.1)) (k + 1) (plN k A) with
      | true => rfl
      | false => have := HCD.out.2 hh; cases this
    have hm : moreN (E.map (·.1)) A (k + 1) = moreN (E.map (·.1)) A k := by simp only [moreN, hdom, if_true]; omega
    refine ⟨rfl, T1, HT1.out, ?_, hX, fun j n h1 h2 => ?_, fun j n hj => HT5.out j n (by omega), HT6.out⟩
    · rw [← hm]; exact HT2.out
    · rw [HT4.out j n h1 h2]
      constructor
      · rintro (h | ⟨h3, h4, h5⟩)
        · exact .inl h
        · by_cases e : j = k + 1
          · subst e
            rw [h5]; exact .inl hdom
          · exact .inr ⟨by omega, h4, h5⟩
      · rintro (h | ⟨h3, h4, h5⟩)
        · exact .inl h
        · exact .inr ⟨by omega, h4, h5⟩
  | true =>
    go_wp2_with (refine wpl_block (by rfl) 183 _ (by rfl) nb cs 183 _ (by rfl) HCS.out hub (by rfl) hsize ?_)
    go_end0
    have hdom : domB (E.map (·.1)) (k + 1) (plN k A) = false := HCD.out.1 trivial
    have hm : moreN (E.map (·.1)) A (k + 1) = moreN (E.map (·.1)) A k + 1 := by simp [moreN, hdom]
    have hcut := dis_cut HT1.out hk1 HU1.out HU2.out (by rw [HOO.out]; exact HT2.out : w4.heap[db]? = some (dirO mo (.int .i64 oo) mp dn st sm (tbV 0 (T1 0 0)))) (HEM.out.2 hdom) _ rfl
    rw [hsz, hoff] at hcut
    obtain ⟨e1, e2, e3⟩ := hcut
    have hbF : b ∈ F := HF2.out _ _ _ HB.out
    have hX3 := hX.then e3 (fun x hx' => by
      rcases List.mem_cons.1 hx' with rfl | hx'
      · exact .inl hbF
      · rw [List.mem_singleton.1 hx']; exact .inl hF1)
    refine ⟨rfl, _, e1, ?_, hX3, fun j n h1 h2 => ?_, fun j n hj => ?_, fun j n b' hh => ?_⟩
    · rw [putT_other _ _ (by omega), e2, HOO.out, hm]
      congr 3
      push_cast
      omega
    · by_cases a : j = k + 1 ∧ n = plN k A
      · rw [a.1, a.2, putT_same, hdom]
        constructor
        · intro h; cases h
        · rintro (h | ⟨h3, -, -⟩)
          · cases h
          · omega
      · rw [putT_other _ _ a, HT4.out j n h1 h2]
        constructor
        · rintro (h | ⟨h3, h4, h5⟩)
          · exact .inl h
          · by_cases e : j = k + 1
            · subst e
              exact absurd ⟨rfl, h5⟩ a
            · exact .inr ⟨by omega, h4, h5⟩
        · rintro (h | ⟨h3, h4, h5⟩)
          · exact .inl h
          · exact .inr ⟨by omega, h4, h5⟩
    · rw [putT_other _ _ (by omega)]; exact HT5.out j n (by omega)
    · by_cases a : j = k + 1 ∧ n = plN k A
      · rw [a.1, a.2, putT_same] at hh; cases hh
      · rw [putT_other _ _ a] at hh; exact HT6.out j n b' hh

theorem disown_any (db A N : Nat) (mo mp dn st sm : Value) (E : List (PX × Nat)) (f : Nat → Nat → Option Nat) (hf : Painted E f) (hE : ∀ x ∈ E, Vp x.1) (hA : A < 4294967296) (hN : N ≤ 32) (o : Int) (T : Nat → Nat → Option Nat) (F : List Nat) : ∀ (d k : Nat) (w : World), lvN N = k + d → Tabs w T f →
    w.heap[db]? = some (dirO mo (.int .i64 o) mp dn st sm (tbV 0 (T 0 0))) → db ∈ F → (∀ k n b, T k n = some b → b ∈ F) → (∀ x ∈ F, x < w.heap.size) → DisR T (E.map (·.1)) A (lvN N) (lvN N) → onT T A 0 ≠ none → 0 ≤ o → o ≤ 1000000 →
    Calls Tryz.prog 106 #[.pointer (some ⟨db, 0, none⟩), tbV k (onT T A k), .agg #[.int .u32 A, .int .i64 N], .int .i64 (beN k)] w fun e w' => e = .returned (.tuple #[]) ∧ DisAns db A (lvN N) k o mo mp dn st sm (E.map (·.1)) T f F w w'
  | 0, k, w, hk, hT, hd, hF1, hF2, hF3, hR, h0, ho0, ho => disown_base db A N mo mp dn st sm E f hf hE hA hN k o T F w hk hT hd hF1 hF2 hF3 hR h0 ho0 ho
  | d + 1, k, w, hk, hT, hd, hF1, hF2, hF3, hR, h0, ho0, ho =>
    disown_step db A N mo mp dn st sm E f hf hE hA hN k o T F w (by omega) hT hd hF1 hF2 hF3 hR h0 ho0 ho (fun w' hx' =>
      disown_any db A N mo mp dn st sm E f hf hE hA hN o T F d (k + 1) w' (by omega) (hT.ext hx') (hx'.heap hd) hF1 hF2 (fun x hx => Nat.lt_of_lt_of_le (hF3 x hx) hx'.size) hR h0 ho0 ho)
end Go.Proofs.YtmoimkeeldlpkaaGreat.Dr

namespace Go.Proofs.YtmoimkeeldlpkaaGreat.Dr

set_option maxRecDepth 100000

open Go.RowKit Go.Proofs.YtmoimkeeldlpkaaGreat Go.Proofs.YtmoimkeeldlpkaaGreat.Tri

set_option linter.unusedVariables false

def dnV (mb : Option Nat) : Int := match mb with
  | none => 0
  | some _ => 1

/-- A Dir of the prefixes of E (each with the block that tells its number), in the blocks F. -/
structure DirIn (w : World) (db : Nat) (most : Int) (E : List (PX × Nat)) (V : PX → Int) (T f : Nat → Nat → Option Nat) (mb : Option Nat) (F : List Nat) : Prop where
  obj : w.heap[db]? = some (dirO (.int .i64 most) (.int .i64 (ownN (E.map (·.1)) : Nat)) (.map mb) (.int .u32 (dnV mb)) (.int .i32 0) (.int .u32 0) (tbV 0 (T 0 0)))
  begun : mb = none ↔ T 0 0 = none
  map : ∀ m, mb = some m → MapAt w m E
  nomap : mb = none → E = []
  tabs : Tabs w T f
  dom : DisR T (E.map (·.1)) 0 0 0
  paint : Painted E f
  valid : ∀ x ∈ E, Vp x.1
  keys : (E.map (·.1)).Nodup
  blks : (E.map (·.2)).Nodup
  laid : ∀ x ∈ E, w.heap[x.2]? = some (.cells #[.int .i64 x.1.2, .int .i64 (V x.1)] 130 (0, 0))
  fdb : db ∈ F
  fmap : ∀ m, mb = some m → m ∈ F
  ftab : ∀ k n b, T k n = some b → b ∈ F
  flaid : ∀ x ∈ E, x.2 ∈ F
  lt : ∀ x ∈ F, x < w.heap.size

section

variable {w w' : World} {db : Nat} {most : Int} {E : List (PX × Nat)} {V : PX → Int} {T f : Nat → Nat → Option Nat} {mb : Option Nat} {F : List Nat}

theorem DirIn.later {G : List Nat} (h : DirIn w db most E V T f mb F) (hx : ExtS G w w') (hd : ∀ x ∈ F, x ∉ G) : DirIn w' db most E V T f mb F :=
  ⟨hx.heap (hd _ h.fdb) h.obj, h.begun, fun m e => (h.map m e).later hx (hd _ (h.fmap m e)), h.nomap, h.tabs.later hx (fun k n b e => hd _ (h.ftab k n b e)), h.dom, h.paint, h.valid, h.keys, h.blks,
    fun x hx' => hx.heap (hd _ (h.flaid x hx')) (h.laid x hx'), h.fdb, h.fmap, h.ftab, h.flaid, fun x hx' => Nat.lt_of_lt_of_le (h.lt x hx') hx.size⟩

theorem DirIn.ext (h : DirIn w db most E V T f mb F) (hx : Ext w w') : DirIn w' db most E V T f mb F := h.later (hx.toS []) (by simp)

theorem blocks_any (h : DirIn w db most E V T f mb F) : Calls Tryz.prog 51 #[.pointer (some ⟨db, 0, none⟩)] w fun e w' => e = .returned (.int .i64 (ownN (E.map (·.1)) : Nat)) ∧ w' = w := by
  have c1 : w.cell? ⟨db, 1, none⟩ = some (.int .i64 (ownN (E.map (·.1)) : Nat)) := by rw [heap_cell h.obj]; rfl
  clear h
  go_enter Tryz.func51, Tryz.ntmps51
  go_wp2_with fail
  go_ret
  exact ⟨rfl, rfl⟩

theorem once_any (h : DirIn w db most E V T f mb F) : Calls Tryz.prog 109 #[.pointer (some ⟨db, 3, none⟩), .func (.func 110) #[.pointer (some ⟨db, 0, none⟩)] #[]] w fun e w' => e = .returned (.tuple #[]) ∧
    ∃ m T' F', DirIn w' db most E V T' f (some m) F' ∧ ExtS F w w' ∧ (∀ x ∈ F', x ∈ F ∨ w.heap.size ≤ x) ∧ (∀ x ∈ F, x ∈ F') ∧ (∀ k n, 1 ≤ k → T' k n = T k n) := by
  cases mb with
  | some m =>
    refine (do_done db _ _ _ _ _ _ _ w h.obj).mono ?_
    rintro e w' ⟨rfl, rfl⟩
    exact ⟨rfl, m, T, F, h, ExtS.refl _ _, fun x hx => .inl hx, fun x hx => hx, fun _ _ _ => rfl⟩
  | none =>
    have hE : E = [] := h.nomap rfl
    subst hE
    have hT0 : T 0 0 = none := h.begun.1 rfl
    have hobj := h.obj
    rw [hT0] at hobj
    have hTn : ∀ k n, T k n = none := fun k n => by
      match k with
      | 0 =>
        cases hh : T 0 n with
        | none => rfl
        | some b => rw [h.tabs.at0 n b hh, hT0] at hh; cases hh
      | k + 1 =>
        rcases Nat.lt_or_ge 2 (k + 1) with hl | hl
        · exact h.tabs.top _ _ hl
        · have := h.dom (k + 1) n (by omega) hl
          cases hh : T (k + 1) n with
          | none => rfl
          | some b =>
            rw [hh] at this
            rcases this.1 rfl with h1 | h1
            · simp [domB] at h1
            · omega
    have hfn : ∀ k m, f k m = none := fun k m => h.tabs.bare k m (hTn _ _)
    refine (do_first db _ _ w hobj).mono ?_
    rintro e w' ⟨rfl, m, g, k1, ⟨b1, b2, b3, b4⟩, k3⟩
    have hg := b4.lt
    have hm : m < w'.heap.size := by obtain ⟨es, cl, hb, -⟩ := b3; exact heap_lt hb
    have hne : ∀ x ∈ F, x ≠ m ∧ x ≠ g := fun x hx => by have := h.lt x hx; omega
    refine ⟨rfl, m, putT T 0 0 (some g), m :: g :: F, ?_, k3.mono (fun b hb => by rw [List.mem_singleton.1 hb]; exact h.fdb), fun x hx => ?_, fun x hx => by simp [hx], fun k n hk => putT_other _ _ (by omega)⟩
    · have htb : Tabs w' (putT T 0 0 (some g)) f := by
        refine ⟨fun n b e => ?_, fun k n hk => ?_, fun k n b e => ?_, fun k n k' n' b e e' => ?_, fun k mm b e => ?_, fun k mm e => hfn k mm⟩
        · by_cases a : (0 : Nat) = 0 ∧ n = 0
          · exact a.2
          · rw [putT_other _ _ a, hTn] at e; cases e
        · rw [putT_other _ _ (by omega)]; exact hTn _ _
        · by_cases a : k = 0 ∧ n = 0
          · obtain ⟨rfl, rfl⟩ := a
            rw [putT_same] at e
            cases e
            refine b4.congr (fun i _ => hfn _ _) (fun i _ => ?_)
            rw [putT_other _ _ (by omega)]; exact hTn _ _
          · rw [putT_other _ _ a, hTn] at e; cases e
        · by_cases a : k = 0 ∧ n = 0
          · by_cases a' : k' = 0 ∧ n' = 0
            · omega
            · rw [putT_other _ _ a', hTn] at e'; cases e'
          · rw [putT_other _ _ a, hTn] at e; cases e
        · rw [putT_other _ _ (by omega), hTn] at e; cases e
      refine ⟨?_, ⟨(fun e => by cases e), (fun e => by rw [putT_same] at e; cases e)⟩, (fun m' e => by cases e; exact b3), (fun e => by cases e), htb, fun j n h1 h2 => ?_, h.paint, by simp, by simp, by simp, by simp, by simp [h.fdb], (fun m' e => by cases e; simp), fun k n b e => ?_, by simp, fun x hx => ?_⟩
      · rw [putT_same]; exact k1
      · rw [putT_other _ _ (by omega)]; exact h.dom j n h1 h2
      · by_cases a : k = 0 ∧ n = 0
        · rw [a.1, a.2, putT_same] at e; cases e; simp
        · rw [putT_other _ _ a, hTn] at e; cases e
      · rcases List.mem_cons.1 hx with rfl | hx
        · exact hm
        · rcases List.mem_cons.1 hx with rfl | hx
          · exact hg
          · exact Nat.lt_of_lt_of_le (h.lt x hx) k3.size
    · rcases List.mem_cons.1 hx with rfl | hx
      · exact .inr b1
      · rcases List.mem_cons.1 hx with rfl | hx
        · exact .inr b2
        · exact .inl hx

end

/-- None. -/
theorem none_in (w : World) (db : Nat) (most : Int) (V : PX → Int) (h : w.heap[db]? = some (dirO (.int .i64 most) (.int .i64 0) (.map none) (.int .u32 0) (.int .i32 0) (.int .u32 0) (.slice none 0 0))) :
    DirIn w db most [] V (fun _ _ => none) (fun _ _ => none) none [db] :=
  ⟨h, ⟨fun _ => rfl, fun _ => rfl⟩, (fun m e => by cases e), fun _ => rfl, ⟨(fun n b e => by cases e), fun _ _ _ => rfl, (fun k n b e => by cases e), (fun k n k' n' b e => by cases e), (fun k m b e => by cases e), fun _ _ _ => rfl⟩,
    fun j n h1 h2 => ⟨(fun e => by cases e), fun e => by rcases e with e | e; simp [domB] at e; omega⟩, (fun k m _ _ x hx => by cases hx), by simp, by simp, by simp, by simp, by simp, (fun m e => by cases e), (fun k n b e => by cases e), by simp, fun x hx => by rw [List.mem_singleton.1 hx]; exact heap_lt h⟩

def maxV (n : Int) : Int := if n < 0 then 0 else n

theorem new_any (n : Int) (w : World) : Calls Tryz.prog 33 #[.int .i64 n] w fun e w' => e = .returned (.pointer (some ⟨w.heap.size, 0, none⟩)) ∧ Ext w w' ∧ DirIn w' w.heap.size (maxV n) [] (fun _ => 0) (fun _ _ => none) (fun _ _ => none) none [w.heap.size] := by
  have hx0 : ∀ o : Obj, Ext w (w.alloc o) := fun o => (Ext.refl w).alloc o
  go_enter Tryz.func33, Tryz.ntmps33
  go_wp2_with fail
  all_goals go_ret
  · refine ⟨rfl, hx0 _, ?_⟩
    rw [show maxV n = 0 by unfold maxV; rw [if_pos h]]
    exact none_in _ _ 0 _ (heap_new w _)
  · refine ⟨rfl, hx0 _, ?_⟩
    rw [show maxV n = n by unfold maxV; rw [if_neg (by omega)]]
    exact none_in _ _ n _ (heap_new w _)

/-! Look. -/

theorem fnd_bst {E : List (PX × Nat)} {f : Nat → Nat → Option Nat} (hp : Painted E f) (hv : ∀ x ∈ E, Vp x.1) {A : Nat} (hA : A < 4294967296) : ∀ k, k ≤ 3 → Bst E 0 (loN k) A (fndN f A k)
  | 0, _ => fun x hx a1 a2 => absurd a2 (by simp only [loN]; omega)
  | k + 1, hk => by
    have ih := fnd_bst hp hv hA k (by omega)
    have hb := hp k (plN k A) (by omega) (pl_lt k A hA (by omega))
    have hb' : Bst E (loN k) (loN (k + 1)) A (f k (plN k A)) := by
      cases hf : f k (plN k A) with
      | none =>
        rw [hf] at hb
        intro x hx a1 a2
        rw [cov_place (hv x hx) (by omega) a2]
        exact hb x hx a1 a2
      | some b =>
        rw [hf] at hb
        obtain ⟨p, h1, h2, h3, h4, h5⟩ := hb
        refine ⟨p, h1, h2, h3, by rw [cov_place (hv _ h1) (k := k) (by omega) h3]; exact h4, fun x hx a1 a2 a3 => h5 x hx a1 a2 ?_⟩
        rw [← cov_place (hv x hx) (by omega) a2]; exact a3
    have hle : loN k ≤ loN (k + 1) := by
      match k, hk with
      | 0, _ => decide
      | 1, _ => decide
      | 2, _ => decide
    simp only [fndN]
    cases hf : f k (plN k A) with
    | none => rw [hf] at hb'; exact bst_join (Nat.zero_le _) hle ih hb'
    | some b => rw [hf] at hb'; exact bst_join (Nat.zero_le _) hle ih hb'

/-- The number of a block. -/
def nvE (E : List (PX × Nat)) (V : PX → Int) (b : Nat) : Int := match E.find? fun x => x.2 == b with
  | some x => V x.1
  | none => 0

theorem nvE_of {E : List (PX × Nat)} {V : PX → Int} (hn : (E.map (·.2)).Nodup) {p : PX} {b : Nat} (h : (p, b) ∈ E) : nvE E V b = V p := by
  unfold nvE
  cases hf : E.find? (fun x => x.2 == b) with
  | none =>
    have := List.find?_eq_none.1 hf _ h
    simp at this
  | some x =>
    have h1 := List.mem_of_find?_eq_some hf
    have h2 := List.find?_some hf
    simp only [beq_iff_eq] at h2
    have : x = (p, b) := by
      have key : ∀ (E : List (PX × Nat)), (E.map (·.2)).Nodup → ∀ x ∈ E, ∀ y ∈ E, x.2 = y.2 → x = y := by
        intro E; induction E with
        | nil => intro _ x hx; cases hx
        | cons z E ih =>
          intro hn x hx y hy e
          rw [List.map_cons, List.nodup_cons] at hn
          rcases List.mem_cons.1 hx with rfl | hx1
          · rcases List.mem_cons.1 hy with rfl | hy1
            · rfl
            · exact absurd (List.mem_map.2 ⟨y, hy1, e.symm⟩) hn.1
          · rcases List.mem_cons.1 hy with rfl | hy1
            · exact absurd (List.mem_map.2 ⟨x, hx1, e⟩) hn.1
            · exact ih hn.2 x hx1 y hy1 e
      exact key E hn x h1 (p, b) h h2
    rw [this]

theorem look_in {w : World} {db A : Nat} {most : Int} {E : List (PX × Nat)} {V : PX → Int} {T f : Nat → Nat → Option Nat} {mb : Option Nat} {F : List Nat} (h : DirIn w db most E V T f mb F) (hA : A < 4294967296) :
    Calls Tryz.prog 43 #[.pointer (some ⟨db, 0, none⟩), .int .u32 A] w fun e w' => (∃ o, Bst E 0 33 A o ∧ e = .returned (numV o (nvE E V))) ∧ w' = w := by
  have hb := fnd_bst h.paint h.valid hA 3 (Nat.le_refl _)
  refine (look_any db A T f (nvE E V) w h.tabs (by rw [heap_cell h.obj]; rfl) hA (fun b e => ?_)).mono ?_
  · rw [e] at hb
    obtain ⟨p, h1, -⟩ := hb
    rw [nvE_of h.blks h1, heap_cell (h.laid _ h1)]; rfl
  · rintro e w' ⟨rfl, rfl⟩
    exact ⟨⟨_, hb, rfl⟩, rfl⟩
end Go.Proofs.YtmoimkeeldlpkaaGreat.Dr
