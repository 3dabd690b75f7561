/- Tables of places in memory; paint. -/
import Derived.Test.YtlnmdlachfnmkaaDirM
import Derived.LaidEqlPtr
namespace Go.Proofs.Ytlnmdlachfnmkaa.Dr
set_option maxRecDepth 100000
open Go.RowKit Go.Proofs.Ytlnmdlachfnmkaa Go.Proofs.Ytlnmdlachfnmkaa.Tri
set_option linter.unusedVariables false

/-- A table of n places in block tb: what each is painted with, where each leads. -/
def TabAt (w : World) (tb n : Nat) (t : TypeId) (f g : Nat → Option Nat) : Prop := ∃ cs, w.heap[tb]? = some (.cells cs t (0, 0)) ∧ cs.size = n * 2 ∧ ∀ i, i < n → cs[i * 2]? = some (ptV (f i)) ∧ cs[i * 2 + 1]? = some (ptV (g i))

theorem TabAt.by_cell {w : World} {tb n : Nat} {t : TypeId} {f g : Nat → Option Nat} (h : TabAt w tb n t f g) {i : Nat} (hi : i < n) : w.cell? ⟨tb, i * 2, none⟩ = some (ptV (f i)) := by
  obtain ⟨cs, h1, h2, h3⟩ := h
  rw [heap_cell h1]; exact (h3 i hi).1

theorem TabAt.to_cell {w : World} {tb n : Nat} {t : TypeId} {f g : Nat → Option Nat} (h : TabAt w tb n t f g) {i : Nat} (hi : i < n) : w.cell? ⟨tb, i * 2 + 1, none⟩ = some (ptV (g i)) := by
  obtain ⟨cs, h1, h2, h3⟩ := h
  rw [heap_cell h1]; exact (h3 i hi).2

theorem TabAt.frozen {w : World} {tb n : Nat} {t : TypeId} {f g : Nat → Option Nat} (h : TabAt w tb n t f g) (k : Nat) : w.frozen? ⟨tb, k, none⟩ = false := by
  obtain ⟨cs, h1, -, -⟩ := h
  exact heap_frozen h1

theorem TabAt.lt {w : World} {tb n : Nat} {t : TypeId} {f g : Nat → Option Nat} (h : TabAt w tb n t f g) : tb < w.heap.size := by
  obtain ⟨cs, h1, -, -⟩ := h
  exact heap_lt h1

theorem TabAt.later {w w' : World} {tb n : Nat} {t : TypeId} {f g : Nat → Option Nat} {G : List Nat} (h : TabAt w tb n t f g) (hx : ExtS G w w') (hd : tb ∉ G) : TabAt w' tb n t f g := by
  obtain ⟨cs, h1, h2⟩ := h
  exact ⟨cs, hx.heap hd h1, h2⟩

theorem TabAt.congr {w : World} {tb n : Nat} {t : TypeId} {f g f' g' : Nat → Option Nat} (h : TabAt w tb n t f g) (hf : ∀ i, i < n → f' i = f i) (hg : ∀ i, i < n → g' i = g i) : TabAt w tb n t f' g' := by
  obtain ⟨cs, h1, h2, h3⟩ := h
  exact ⟨cs, h1, h2, fun i hi => by rw [hf i hi, hg i hi]; exact h3 i hi⟩

theorem TabAt.set_by {w : World} {tb n : Nat} {t : TypeId} {f g : Nat → Option Nat} (h : TabAt w tb n t f g) {i : Nat} (hi : i < n) (o : Option Nat) : TabAt (w.setCell ⟨tb, i * 2, none⟩ (ptV o)) tb n t (fun j => if j = i then o else f j) g := by
  obtain ⟨cs, h1, h2, h3⟩ := h
  refine ⟨_, heap_set h1 _, by simpa using h2, fun j hj => ⟨?_, ?_⟩⟩
  · rw [Array.getElem?_setIfInBounds]
    by_cases e : j = i
    · subst e; simp; omega
    · rw [if_neg (by omega)]; simp only [if_neg e]; exact (h3 j hj).1
  · rw [Array.getElem?_setIfInBounds, if_neg (by omega)]; exact (h3 j hj).2

theorem TabAt.set_to {w : World} {tb n : Nat} {t : TypeId} {f g : Nat → Option Nat} (h : TabAt w tb n t f g) {i : Nat} (hi : i < n) (o : Option Nat) : TabAt (w.setCell ⟨tb, i * 2 + 1, none⟩ (ptV o)) tb n t f (fun j => if j = i then o else g j) := by
  obtain ⟨cs, h1, h2, h3⟩ := h
  refine ⟨_, heap_set h1 _, by simpa using h2, fun j hj => ⟨?_, ?_⟩⟩
  · rw [Array.getElem?_setIfInBounds, if_neg (by omega)]; exact (h3 j hj).1
  · rw [Array.getElem?_setIfInBounds]
    by_cases e : j = i
    · subst e; simp; omega
    · rw [if_neg (by omega)]; simp only [if_neg e]; exact (h3 j hj).2

theorem cellS {G : List Nat} {w w' : World} (hx : ExtS G w w') {b k : Nat} (hb : b ∉ G) (hl : b < w.heap.size) : w'.cell? ⟨b, k, none⟩ = w.cell? ⟨b, k, none⟩ := by
  simp [World.cell?, hx.block b hl hb]

/-- What cover leaves, behind its first k places. -/
def covB (f : Nat → Option Nat) (bt : Nat → Int) (o k l i : Nat) : Option Nat := if o ≤ i ∧ i < o + k ∧ (∀ b, f i = some b → bt b < bt l) then some l else f i

/-- What uncover leaves. -/
def uncB (f : Nat → Option Nat) (o k l : Nat) (u : Option Nat) (i : Nat) : Option Nat := if o ≤ i ∧ i < o + k ∧ f i = some l then u else f i

set_option maxHeartbeats 1000000 in
theorem cover_any (tb n o cnt cp l : Nat) (t : TypeId) (f g : Nat → Option Nat) (bt : Nat → Int) (w : World) (hT : TabAt w tb n t f g) (ho : o + cnt ≤ n) (hn : n ≤ 65536) (hl : w.cell? ⟨l, 0, none⟩ = some (.int .i64 (bt l))) (ltb : l ≠ tb)
    (hb : ∀ i b, i < n → f i = some b → b ≠ tb ∧ w.cell? ⟨b, 0, none⟩ = some (.int .i64 (bt b))) :
    Calls Try.prog 36 #[.slice (some ⟨tb, o * 2, none⟩) cnt cp, .pointer (some ⟨l, 0, none⟩)] w fun e w' => e = .returned (.tuple #[]) ∧ TabAt w' tb n t (covB f bt o cnt l) g ∧ ExtS [tb] w w' := by
  have HT : Hid (TabAt w tb n t f g) := hT
  have HB : Hid _ := hb
  clear hT hb
  go_enter Try.func36, Try.ntmps36
  go_wp2_with fail
  go_loopw [8] (fun i wr => ∃ k : Nat, k ≤ cnt ∧ i = .int .i64 k ∧ Hid (TabAt wr tb n t (covB f bt o k l) g) ∧ ExtS [tb] w wr) (fun i _ => cnt - (intOf i).toNat)
  case atStart => exact ⟨0, Nat.zero_le _, rfl, HT.out.congr (fun i _ => by unfold covB; rw [if_neg (by omega)]) (fun _ _ => rfl), ExtS.refl _ _⟩
  case round =>
    obtain ⟨k, hk, rfl, HK, hx⟩ := hrel
    by_cases hlt : k < cnt
    · have e1 : covB f bt o k l (o + k) = f (o + k) := by unfold covB; rw [if_neg (by omega)]
      have hc : wr.cell? ⟨tb, o * 2 + k * 2, none⟩ = some (ptV (f (o + k))) := by rw [← e1, ← Nat.add_mul]; exact HK.out.by_cell (by omega)
      have hfz := HK.out.frozen (o * 2 + k * 2)
      have hstep : ∀ u, (∀ b, f (o + k) = some b → bt b < bt l) → u = ptV (some l) → TabAt (wr.setCell ⟨tb, o * 2 + k * 2, none⟩ u) tb n t (covB f bt o (k + 1) l) g := fun u hu e => by
        subst e
        rw [← Nat.add_mul]
        refine (HK.out.set_by (i := o + k) (by omega) (some l)).congr (fun i hi => ?_) (fun _ _ => rfl)
        simp only [covB]
        by_cases ei : i = o + k
        · subst ei; rw [if_pos rfl, if_pos ⟨by omega, by omega, hu⟩]
        · rw [if_neg ei]
          by_cases e2 : o ≤ i ∧ i < o + k ∧ ∀ b, f i = some b → bt b < bt l
          · rw [if_pos e2, if_pos ⟨e2.1, by omega, e2.2.2⟩]
          · rw [if_neg e2, if_neg (fun h => e2 ⟨h.1, by omega, h.2.2⟩)]
      have HS : Hid _ := hstep
      have hll : wr.cell? ⟨l, 0, none⟩ = some (.int .i64 (bt l)) := by
        have := World.block_lt_of_cell? w _ hl
        rw [cellS hx (by simpa using ltb) this]; exact hl
      clear hstep
      cases hf : f (o + k) with
      | none =>
        rw [hf] at hc
        simp only [ptV, Option.map_none] at hc
        go_wp2_with fail
        go_region
        go_wp2_with fail
        refine ⟨⟨k + 1, by omega, by simp, HS.out _ (fun b hb => by rw [hf] at hb; cases hb) rfl, (hx.setCell (.inl (by simp)) _).drew⟩, ?_⟩
        simp only [intOf]; omega
      | some b =>
        rw [hf] at hc
        simp only [ptV, Option.map_some] at hc
        obtain ⟨hb1, hb2⟩ := HB.out (o + k) b (by omega) hf
        have hbc : wr.cell? ⟨b, 0, none⟩ = some (.int .i64 (bt b)) := by
          rw [cellS hx (by simpa using hb1) (World.block_lt_of_cell? w _ hb2)]; exact hb2
        clear hb2
        by_cases hlt2 : bt b < bt l
        · go_wp2_with fail
          go_region
          go_wp2_with fail
          refine ⟨⟨k + 1, by omega, by simp, HS.out _ (fun b' hb' => by rw [hf] at hb'; cases hb'; exact hlt2) rfl, (hx.setCell (.inl (by simp)) _).drew⟩, ?_⟩
          simp only [intOf]; omega
        · go_wp2_with fail
          go_region
          go_wp2_with fail
          refine ⟨⟨k + 1, by omega, by simp, ?_, hx.drew⟩, by simp only [intOf]; omega⟩
          refine HK.out.congr (fun i hi => ?_) (fun _ _ => rfl)
          simp only [covB]
          by_cases ei : i = o + k
          · subst ei
            rw [if_neg (fun h => by have := h.2.2 b hf; omega), if_neg (fun h => by have := h.2.2 b hf; omega)]
          · by_cases e2 : o ≤ i ∧ i < o + k ∧ ∀ b, f i = some b → bt b < bt l
            · rw [if_pos e2, if_pos ⟨e2.1, by omega, e2.2.2⟩]
            · rw [if_neg e2, if_neg (fun h => e2 ⟨h.1, by omega, h.2.2⟩)]
    · obtain rfl : k = cnt := by omega
      go_wp2_with fail
      go_end0
      exact ⟨rfl, HK.out, hx⟩

set_option maxHeartbeats 1000000 in
theorem uncover_any (tb n o cnt cp l : Nat) (u : Option Nat) (t : TypeId) (f g : Nat → Option Nat) (w : World) (hT : TabAt w tb n t f g) (ho : o + cnt ≤ n) (hn : n ≤ 65536) (ltb : l ≠ tb) {cl : Array Value} {tl : TypeId} (hl : w.heap[l]? = some (.cells cl tl (0, 0)))
    (hb : ∀ i b, i < n → f i = some b → b ≠ tb ∧ ∃ c u, w.heap[b]? = some (.cells c u (0, 0))) :
    Calls Try.prog 38 #[.slice (some ⟨tb, o * 2, none⟩) cnt cp, .pointer (some ⟨l, 0, none⟩), ptV u] w fun e w' => e = .returned (.tuple #[]) ∧ TabAt w' tb n t (uncB f o cnt l u) g ∧ ExtS [tb] w w' := by
  have HT : Hid (TabAt w tb n t f g) := hT
  have HB : Hid _ := hb
  clear hT hb
  obtain ⟨pu, hvu⟩ : ∃ pu, ptV u = .pointer pu := ⟨_, rfl⟩
  have HU : Hid (ptV u = .pointer pu) := hvu
  rw [hvu]
  clear hvu
  go_enter Try.func38, Try.ntmps38
  go_wp2_with fail
  go_loopw [9] (fun i wr => ∃ k : Nat, k ≤ cnt ∧ i = .int .i64 k ∧ Hid (TabAt wr tb n t (uncB f o k l u) g) ∧ ExtS [tb] w wr) (fun i _ => cnt - (intOf i).toNat)
  case atStart => exact ⟨0, Nat.zero_le _, rfl, HT.out.congr (fun i _ => by unfold uncB; rw [if_neg (by omega)]) (fun _ _ => rfl), ExtS.refl _ _⟩
  case round =>
    obtain ⟨k, hk, rfl, HK, hx⟩ := hrel
    by_cases hlt : k < cnt
    · have e1 : uncB f o k l u (o + k) = f (o + k) := by unfold uncB; rw [if_neg (by omega)]
      have hc : wr.cell? ⟨tb, o * 2 + k * 2, none⟩ = some (ptV (f (o + k))) := by rw [← e1, ← Nat.add_mul]; exact HK.out.by_cell (by omega)
      have hfz := HK.out.frozen (o * 2 + k * 2)
      have hstep : f (o + k) = some l → TabAt (wr.setCell ⟨tb, o * 2 + k * 2, none⟩ (.pointer pu)) tb n t (uncB f o (k + 1) l u) g := fun hu => by
        rw [← HU.out, ← Nat.add_mul]
        refine (HK.out.set_by (i := o + k) (by omega) u).congr (fun i hi => ?_) (fun _ _ => rfl)
        simp only [uncB]
        by_cases ei : i = o + k
        · subst ei; rw [if_pos rfl, if_pos ⟨by omega, by omega, hu⟩]
        · rw [if_neg ei]
          by_cases e2 : o ≤ i ∧ i < o + k ∧ f i = some l
          · rw [if_pos e2, if_pos ⟨e2.1, by omega, e2.2.2⟩]
          · rw [if_neg e2, if_neg (fun h => e2 ⟨h.1, by omega, h.2.2⟩)]
      have HS : Hid _ := hstep
      have hno : f (o + k) ≠ some l → TabAt wr tb n t (uncB f o (k + 1) l u) g := fun hne => by
        refine HK.out.congr (fun i hi => ?_) (fun _ _ => rfl)
        simp only [uncB]
        by_cases ei : i = o + k
        · subst ei
          rw [if_neg (fun h => hne h.2.2), if_neg (fun h => hne h.2.2)]
        · by_cases e2 : o ≤ i ∧ i < o + k ∧ f i = some l
          · rw [if_pos e2, if_pos ⟨e2.1, by omega, e2.2.2⟩]
          · rw [if_neg e2, if_neg (fun h => e2 ⟨h.1, by omega, h.2.2⟩)]
      have HN : Hid _ := hno
      clear hstep hno
      have hq : ∃ c, (binOp .eql 77 (ptV (f (o + k))) (.pointer (some ⟨l, 0, none⟩))).run Try.prog wr = .ok (.bool c) wr ∧ (c = true ↔ f (o + k) = some l) := by
        cases hf : f (o + k) with
        | none => exact ⟨false, by kernel_rfl, by simp⟩
        | some b =>
          by_cases e : b = l
          · subst e
            exact ⟨true, run_eql_ptr_same (P := Try.prog) wr (⟨b, 0, none⟩ : Addr) Try.underlying77 (by rfl), by simp⟩
          · obtain ⟨hb1, c, u', hb2⟩ := HB.out (o + k) b (by omega) hf
            exact ⟨false, run_eql_ptr_other (P := Try.prog) wr (a := ⟨b, 0, none⟩) (b := ⟨l, 0, none⟩) Try.underlying77 (by rfl) (by decide) (fun h => e (congrArg Addr.block h)) (hx.heap (by simpa using hb1) hb2) (hx.heap (by simpa using ltb) hl), by simp [e]⟩
      obtain ⟨c, hq, hcl⟩ := hq
      obtain ⟨pb, hvb⟩ : ∃ pb, ptV (f (o + k)) = .pointer pb := ⟨_, rfl⟩
      rw [hvb] at hq hc
      have HC : Hid (c = true ↔ f (o + k) = some l) := hcl
      clear hvb hcl
      cases c with
      | false =>
        go_wp2_with fail
        refine ⟨⟨k + 1, by omega, by simp, HN.out (fun h => by have := HC.out.2 h; cases this), hx⟩, by simp only [intOf]; omega⟩
      | true =>
        go_wp2_with fail
        refine ⟨⟨k + 1, by omega, by simp, HS.out (HC.out.1 rfl), hx.setCell (.inl (by simp)) _⟩, by simp only [intOf]; omega⟩
    · obtain rfl : k = cnt := by omega
      go_wp2_with fail
      go_end0
      exact ⟨rfl, HK.out, hx⟩
end Go.Proofs.Ytlnmdlachfnmkaa.Dr
