/- Package dir's tables in memory: missing, places. -/
import Derived.Test.YtlnmdlachfnmkaaDirO
import Derived.Test.YtlnmdlachfnmkaaDirP
namespace Go.Proofs.Ytlnmdlachfnmkaa.Dr
set_option maxRecDepth 100000
open Go.RowKit Go.Proofs.Ytlnmdlachfnmkaa Go.Proofs.Ytlnmdlachfnmkaa.Tri
set_option linter.unusedVariables false

def tyN : Nat → TypeId
  | 0 => 82
  | _ => 102

/-- All tables: T k n is the block of the table of level k that is behind the place n of the level before; f k m is what the place m of the level k is painted with. -/
structure Tabs (w : World) (T f : Nat → Nat → Option Nat) : Prop where
  at0 : ∀ n b, T 0 n = some b → n = 0
  top : ∀ k n, 2 < k → T k n = none
  tab : ∀ k n b, T k n = some b → TabAt w b (szN k) (tyN k) (fun i => f k (n * szN k + i)) (fun i => T (k + 1) (n * szN k + i))
  inj : ∀ k n k' n' b, T k n = some b → T k' n' = some b → k = k' ∧ n = n'
  par : ∀ k m b, T (k + 1) m = some b → T k (m / szN k) ≠ none
  bare : ∀ k m, T k (m / szN k) = none → f k m = none

theorem Tabs.later {w w' : World} {T f : Nat → Nat → Option Nat} {G : List Nat} (h : Tabs w T f) (hx : ExtS G w w') (hd : ∀ k n b, T k n = some b → b ∉ G) : Tabs w' T f :=
  ⟨h.at0, h.top, fun k n b e => (h.tab k n b e).later hx (hd k n b e), h.inj, h.par, h.bare⟩

theorem Tabs.ext {w w' : World} {T f : Nat → Nat → Option Nat} (h : Tabs w T f) (hx : Ext w w') : Tabs w' T f := h.later (hx.toS []) (by simp)

def tbV (k : Nat) (o : Option Nat) : Value := match o with
  | none => .slice none 0 0
  | some b => .slice (some ⟨b, 0, none⟩) (szN k) (szN k)

theorem tab_next (k : Nat) (o : Option Nat) : tabV o = tbV (k + 1) o := by cases o <;> rfl

/-- A table on an address's way. -/
def onT (T : Nat → Nat → Option Nat) (A k : Nat) : Option Nat := T k (plN k A / szN k)

theorem on_next (T : Nat → Nat → Option Nat) (A k : Nat) (hk : k ≤ 1) : onT T A (k + 1) = T (k + 1) (plN k A) := by unfold onT; rw [pl_next k A hk]

def msN (T : Nat → Nat → Option Nat) (A : Nat) : Nat → Nat
  | 0 => 0
  | j + 1 => msN T A j + if (T (j + 1) (plN j A)).isNone = true then 1 else 0

/-- The place of an address in a table. -/
theorem Tabs.by_cell {w : World} {T f : Nat → Nat → Option Nat} (h : Tabs w T f) {A k b : Nat} (e : onT T A k = some b) : w.cell? ⟨b, plN k A % szN k * 2, none⟩ = some (ptV (f k (plN k A))) := by
  have := (h.tab k _ b e).by_cell (Nat.mod_lt (plN k A) (szN_pos k))
  rw [pl_split] at this; exact this

theorem Tabs.to_cell {w : World} {T f : Nat → Nat → Option Nat} (h : Tabs w T f) {A k b : Nat} (e : onT T A k = some b) : w.cell? ⟨b, plN k A % szN k * 2 + 1, none⟩ = some (ptV (T (k + 1) (plN k A))) := by
  have := (h.tab k _ b e).to_cell (Nat.mod_lt (plN k A) (szN_pos k))
  rw [pl_split] at this; exact this

theorem Tabs.on_par {w : World} {T f : Nat → Nat → Option Nat} (h : Tabs w T f) {A k : Nat} (e : onT T A k = none) : T (k + 1) (plN k A) = none := by
  cases hh : T (k + 1) (plN k A) with
  | none => rfl
  | some b => exact absurd e (h.par k _ b hh)

theorem neq_nil (w : World) : (binOp .neq 71 (.slice none 0 0) (.slice none 0 0)).run Try.prog w = .ok (.bool false) w := by kernel_rfl

theorem eql_nil (w : World) : (binOp .eql 71 (.slice none 0 0) (.slice none 0 0)).run Try.prog w = .ok (.bool true) w := by kernel_rfl

theorem neq_tab (a : Addr) (n c : Nat) (w : World) : (binOp .neq 71 (.slice (some a) n c) (.slice none 0 0)).run Try.prog w = .ok (.bool true) w := by kernel_rfl

theorem eql_tab (a : Addr) (n c : Nat) (w : World) : (binOp .eql 71 (.slice (some a) n c) (.slice none 0 0)).run Try.prog w = .ok (.bool false) w := by kernel_rfl

theorem be_int (k : Nat) (hk : k ≤ 2) : (0 : Int) ≤ (beN k : Int) ∧ (beN k : Int) ≤ 32 := by unfold beN; omega

theorem be_next (k : Nat) (hk : k ≤ 1) : (beN k : Int) - 8 = (beN (k + 1) : Int) := by unfold beN; omega

set_option maxHeartbeats 2000000 in
theorem missing_any (db A N : Nat) (T f : Nat → Nat → Option Nat) (w : World) (hT : Tabs w T f) (hd : w.cell? ⟨db, 6, none⟩ = some (tbV 0 (T 0 0))) (hA : A < 4294967296) (hN : N ≤ 32) :
    Calls Try.prog 32 #[.pointer (some ⟨db, 0, none⟩), .agg #[.int .u32 A, .int .i64 N]] w fun e w' => e = .returned (.int .i64 (msN T A (lvN N) : Nat)) ∧ Ext w w' := by
  have hA0 : Ext w (w.alloc (.cells #[.int .u32 A, .int .i64 N] 30)) := (Ext.refl w).alloc _
  have hn := heap_new w (.cells #[.int .u32 A, .int .i64 N] 30)
  have hq : ∀ w', Ext (w.alloc (.cells #[.int .u32 A, .int .i64 N] 30)) w' → w'.cell? ⟨w.heap.size, 0, none⟩ = some (.int .u32 A) ∧ w'.cell? ⟨w.heap.size, 1, none⟩ = some (.int .i64 N) := fun w' hx => ⟨by rw [heap_cell (hx.heap hn)]; rfl, by rw [heap_cell (hx.heap hn)]; rfl⟩
  have HQ : Hid _ := hq
  have HT : Hid (Tabs w T f) := hT
  have d6 : (w.alloc (.cells #[.int .u32 A, .int .i64 N] 30)).cell? ⟨db, 6, none⟩ = some (tbV 0 (T 0 0)) := by rw [hA0.cell (World.block_lt_of_cell? w _ hd)]; exact hd
  have z0 := pl_zero A hA
  obtain ⟨v0, hv0⟩ : ∃ v0, v0 = tbV 0 (T 0 0) := ⟨_, rfl⟩
  rw [← hv0] at d6
  have HV : Hid (v0 = tbV 0 (onT T A 0)) := by show v0 = _; rw [hv0]; unfold onT; rw [z0]
  clear hq hT hn hd hv0
  generalize hW0 : (w.alloc (.cells #[.int .u32 A, .int .i64 N] 30)) = W0 at *
  go_enter Try.func32, Try.ntmps32
  go_wp2_with fail
  clear d6
  go_loopw [5, 6, 7] (fun n tab be wr => ∃ k : Nat, k ≤ lvN N ∧ be = .int .i64 (beN k) ∧ Hid (tab = tbV k (onT T A k)) ∧ n = .int .i64 (msN T A k : Nat) ∧ Ext W0 wr) (fun _ _ be _ => (intOf be).toNat)
  case atStart => exact ⟨0, Nat.zero_le _, rfl, HV, rfl, Ext.refl _⟩
  case round =>
    obtain ⟨k, hk, rfl, HV', rfl, hx⟩ := hrel
    have hk2 : k ≤ 2 := Nat.le_trans hk (lvN_le N)
    obtain ⟨q0, q1⟩ := HQ.out _ hx
    have ce := fun w => ends_any (A : Int) (N : Int) (beN k) w (be_int k hk2).1 (be_int k hk2).2
    by_cases hlt : k < lvN N
    · have hk1 : k ≤ 1 := by have := lvN_le N; omega
      have hgt : decide ((N : Int) > 32 - (beN k : Int)) = true := by
        have := (lvN_lt N k hk1).1 hlt
        have := lo_be k hk2
        rw [decide_eq_true_eq]; omega
      have hb8 := be_next k hk1
      have hb0 := be_int (k + 1) (by omega)
      have hms : msN T A k ≤ 2 := by
        have : ∀ j, msN T A j ≤ j := by
          intro j; induction j with
          | zero => exact Nat.le_refl _
          | succ j ih => simp only [msN]; split <;> omega
        have := this k; omega
      rw [hgt] at ce
      cases ho : onT T A k with
      | none =>
        have hno : msN T A (k + 1) = msN T A k + 1 := by simp [msN, HT.out.on_par ho]
        have htab : tbV (k + 1) (onT T A (k + 1)) = .slice none 0 0 := by rw [on_next T A k hk1, HT.out.on_par ho]; rfl
        have hv : u6 = .slice none 0 0 := by rw [HV'.out, ho]; rfl
        subst hv
        have s1 := neq_nil
        have s2 := eql_nil
        generalize hbe : (beN k : Int) = be at *
        have HB : Hid ((beN k : Int) = be) := hbe
        clear hbe
        go_wp2_with (go_at_call 47; refine (ce _).mono ?_; rintro e w1 ⟨rfl, hx1⟩)
        refine ⟨⟨k + 1, by omega, rfl, htab.symm, by rw [hno]; simp, hx.trans hx1⟩, ?_⟩
        simp only [intOf]; omega
      | some b =>
        have hv : u6 = .slice (some ⟨b, 0, none⟩) (szN k) (szN k) := by rw [HV'.out, ho]; rfl
        subst hv
        have s1 := neq_tab ⟨b, 0, none⟩ (szN k) (szN k)
        have cs := fun w => spot_any k A b (szN k) hk2 hA w
        have cb : ∀ w', Ext W0 w' → Calls Try.prog 30 #[.pointer (some ⟨b, plN k A % szN k * 2, none⟩)] w' fun e w2 => e = .returned (tbV (k + 1) (onT T A (k + 1))) ∧ w2 = w' := fun w' hx' => by
          rw [on_next T A k hk1, ← tab_next]
          exact below_any b _ _ w' ((HT.out.ext (hA0.trans hx')).to_cell ho)
        have HCB : Hid _ := cb
        clear cb
        have hnx : msN T A (k + 1) = msN T A k + if (onT T A (k + 1)).isNone = true then 1 else 0 := by rw [on_next T A k hk1]; rfl
        generalize plN k A % szN k * 2 = off at *
        generalize hon : onT T A (k + 1) = o' at *
        have HO : Hid (onT T A (k + 1) = o') := hon
        clear hon
        generalize szN k = sz at *
        cases o' with
        | none =>
          simp only [tbV] at HCB
          have s2 := eql_nil
          have hno : msN T A (k + 1) = msN T A k + 1 := hnx
          clear hnx
          generalize hbe : (beN k : Int) = be at *
          have HB : Hid ((beN k : Int) = be) := hbe
          clear hbe
          go_wp2_with (first | (go_at_call 47; refine (ce _).mono ?_; rintro e w1 ⟨rfl, hx1⟩; obtain ⟨q0', q1'⟩ := HQ.out _ (hx.trans hx1)) | (go_at_call 29; refine (cs _).mono ?_; rintro e w2 ⟨rfl, rfl⟩) | (go_at_call 30; refine (HCB.out _ (hx.trans hx1)).mono ?_; rintro e w2 ⟨rfl, rfl⟩))
          refine ⟨⟨k + 1, by omega, rfl, by show _ = _; rw [HO.out]; rfl, by rw [hno]; simp, hx.trans hx1⟩, ?_⟩
          simp only [intOf]; omega
        | some b' =>
          have htb : tbV (k + 1) (some b') = .slice (some ⟨b', 0, none⟩) 256 256 := rfl
          rw [htb] at HCB
          have s2 := eql_tab ⟨b', 0, none⟩ 256 256
          have hno : msN T A (k + 1) = msN T A k := hnx
          clear hnx htb
          generalize hbe : (beN k : Int) = be at *
          have HB : Hid ((beN k : Int) = be) := hbe
          clear hbe
          go_wp2_with (first | (go_at_call 47; refine (ce _).mono ?_; rintro e w1 ⟨rfl, hx1⟩; obtain ⟨q0', q1'⟩ := HQ.out _ (hx.trans hx1)) | (go_at_call 29; refine (cs _).mono ?_; rintro e w2 ⟨rfl, rfl⟩) | (go_at_call 30; refine (HCB.out _ (hx.trans hx1)).mono ?_; rintro e w2 ⟨rfl, rfl⟩))
          refine ⟨⟨k + 1, by omega, rfl, by show _ = _; rw [HO.out]; rfl, by rw [hno], hx.trans hx1⟩, ?_⟩
          simp only [intOf]; omega
    · obtain rfl : k = lvN N := by omega
      have hgt : decide ((N : Int) > 32 - (beN (lvN N) : Int)) = false := by
        have := (lvN_lo N hN).2
        have := lo_be (lvN N) hk2
        rw [decide_eq_false_iff_not]; omega
      rw [hgt] at ce
      generalize (beN (lvN N) : Int) = be at *
      go_wp2_with (go_at_call 47; refine (ce _).mono ?_; rintro e w1 ⟨rfl, hx1⟩)
      go_ret
      exact ⟨rfl, (hA0.trans hx).trans hx1⟩
end Go.Proofs.Ytlnmdlachfnmkaa.Dr
