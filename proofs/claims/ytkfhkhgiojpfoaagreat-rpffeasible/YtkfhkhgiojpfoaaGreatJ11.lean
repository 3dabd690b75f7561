/- Texts joined by a program: DirO, TrieL, DirP, Dir2, Dir3. -/
import Derived.Defers
import Derived.Laws.LoneSync
import Derived.RegionCalls
import Derived.Laws.MakeOwn
import Derived.Test.YtkfhkhgiojpfoaaGreatJ10
namespace Go.Proofs.YtkfhkhgiojpfoaaGreat.Dr

set_option maxRecDepth 100000

open Go.RowKit Go.Proofs.YtkfhkhgiojpfoaaGreat Go.Proofs.YtkfhkhgiojpfoaaGreat.Tri

set_option linter.unusedVariables false

/-- A Dir's block. -/
def dirO (mo ow mp dn st sm fi : Value) : Obj := .cells #[mo, ow, mp, dn, st, sm, fi] 118 (0, 0)

/-- What begin leaves: a map of none, a table of places without paint. -/
def Begun (w0 w : World) (m g : Nat) : Prop := w0.heap.size ≤ m ∧ w0.heap.size ≤ g ∧ MapAt w m [] ∧ TabAt w g 65536 156 (fun _ => none) (fun _ => none)

theorem made_tab {w : World} {g n : Nat} {t : TypeId} (h : w.heap[g]? = some (.cells (madeCells #[.pointer none, .pointer none] (n * 2)) t (0, 0))) : TabAt w g n t (fun _ => none) (fun _ => none) := by
  refine ⟨_, h, size_madeCells _ _, fun i hi => ⟨?_, ?_⟩⟩
  · simp only [madeCells, Array.getElem?_map, Array.getElem?_range]
    rw [if_pos (by omega)]
    simp [ptV, Nat.mul_mod_left]
  · simp only [madeCells, Array.getElem?_map, Array.getElem?_range]
    rw [if_pos (by omega)]
    have : (i * 2 + 1) % 2 = 1 := by omega
    simp [ptV, this]

theorem info_place : (Tryz.prog.info? 156).map (fun i => (i.zero, i.size, i.bytes)) = some (some (.agg #[.pointer none, .pointer none]), 2, 16) := by kernel_rfl

theorem made_run (w : World) : (Instr.makeSlice 116 (.int .i64 65536) (.int .i64 65536)).run Tryz.prog w = .ok (.slice (some ⟨w.heap.size, 0, none⟩) 65536 65536) (w.alloc (.cells (madeCells #[.pointer none, .pointer none] (65536 * 2)) 156)) := by
  obtain ⟨i0, hi0, hz0, hz1, hz2⟩ := info_parts info_place
  have h := run_make (P := Tryz.prog) w 116 156 i0 _ Tryz.underlying116 hi0 hz0 .i64 .i64 65536 65536 (by omega) (by omega) (by rw [hz2]; decide) (by omega)
  rw [hz1, show (65536 : Int).toNat = 65536 from rfl] at h
  exact h

set_option maxHeartbeats 1000000 in
theorem begin_any (db : Nat) (mo ow dn st sm : Value) (w : World) (h : w.heap[db]? = some (dirO mo ow (.map none) dn st sm (.slice none 0 0))) :
    Calls Tryz.prog 124 #[.pointer (some ⟨db, 0, none⟩)] w fun e w' => e = .returned (.tuple #[]) ∧ ∃ m g, w'.heap[db]? = some (dirO mo ow (.map (some m)) dn st sm (.slice (some ⟨g, 0, none⟩) 65536 65536)) ∧ Begun w w' m g ∧ ExtS [db] w w' := by
  have hdb := heap_lt h
  have hmm := @run_makeMap Tryz.prog
  have hms : ∀ w : World, (Instr.makeSlice 116 (.int .i64 65536) (.int .i64 65536)).run Tryz.prog w = .ok (.slice (some ⟨w.heap.size, 0, none⟩) 65536 65536) (w.alloc (.cells (madeCells #[.pointer none, .pointer none] (65536 * 2)) 156)) := fun w =>
    made_run w
  obtain ⟨zt, hzt⟩ : ∃ zt, zt = madeCells #[.pointer none, .pointer none] (65536 * 2) := ⟨_, rfl⟩
  rw [← hzt] at hms
  have c2 : w.cell? ⟨db, 2, none⟩ = some (.map none) := by rw [heap_cell h]; rfl
  have c6 : w.cell? ⟨db, 6, none⟩ = some (.slice none 0 0) := by rw [heap_cell h]; rfl
  have f2 : ∀ k, w.frozen? ⟨db, k, none⟩ = false := fun k => heap_frozen h
  go_enter Tryz.func124, Tryz.ntmps124
  go_wp2_with fail
  go_end0
  have s1 : ∀ u v : Value, ((w.setCell ⟨db, 2, none⟩ u).setCell ⟨db, 6, none⟩ v).heap.size = w.heap.size := fun u v => by simp [World.setCell]
  have h1 := heap_set (heap_set (k := 2) h (.map (some w.heap.size))) (k := 6) (.slice (some ⟨w.heap.size + 1, 0, none⟩) 65536 65536)
  have hs := s1 (.map (some w.heap.size)) (.slice (some ⟨w.heap.size + 1, 0, none⟩) 65536 65536)
  have hx0 : ExtS [db] w ((w.setCell ⟨db, 2, none⟩ (.map (some w.heap.size))).setCell ⟨db, 6, none⟩ (.slice (some ⟨w.heap.size + 1, 0, none⟩) 65536 65536)) := ((ExtS.refl _ _).setCell (.inl (by simp)) _).setCell (.inl (by simp)) _
  generalize ((w.setCell ⟨db, 2, none⟩ (.map (some w.heap.size))).setCell ⟨db, 6, none⟩ (.slice (some ⟨w.heap.size + 1, 0, none⟩) 65536 65536)) = W at *
  have hm := heap_alloc_new W (.map #[] 0)
  have hx1 : Ext W (W.alloc (.map #[] 0)) := (Ext.refl W).alloc _
  have hx2 := (Ext.refl (W.alloc (.map #[] 0))).alloc (.cells (madeCells #[.pointer none, .pointer none] 131072) 156)
  have hg := heap_alloc_new (W.alloc (.map #[] 0)) (.cells (madeCells #[.pointer none, .pointer none] 131072) 156)
  rw [show (W.alloc (.map #[] 0)).heap.size = W.heap.size + 1 by simp, hs] at hg
  rw [hs] at hm
  exact ⟨rfl, w.heap.size, w.heap.size + 1, (hx1.trans hx2).heap h1, ⟨Nat.le_refl _, by omega, ⟨_, _, hx2.heap hm, rfl⟩, made_tab (n := 65536) hg⟩, (hx0.alloc _).alloc _⟩

theorem disable (w : World) : (callFunc 166 #[]).run Tryz.prog w = .ok (.value (.tuple #[])) w := run_call_mark0 Tryz.func166 (by kernel_rfl) (by kernel_rfl) (by kernel_rfl) .disable (by kernel_rfl) w

theorem enable (w : World) : (callFunc 168 #[]).run Tryz.prog w = .ok (.value (.tuple #[])) w := run_call_mark0 Tryz.func168 (by kernel_rfl) (by kernel_rfl) (by kernel_rfl) .enable (by kernel_rfl) w

theorem acquire (a : Addr) (w : World) : (callFunc 169 #[.pointer (some a)]).run Tryz.prog w = .ok (.value (.tuple #[])) w := run_call_marked Tryz.func169 (by kernel_rfl) (by kernel_rfl) (by kernel_rfl) .acquire (by kernel_rfl) a w

theorem releaseMerge (a : Addr) (w : World) : (callFunc 171 #[.pointer (some a)]).run Tryz.prog w = .ok (.value (.tuple #[])) w := run_call_marked Tryz.func171 (by kernel_rfl) (by kernel_rfl) (by kernel_rfl) .releaseMerge (by kernel_rfl) a w

theorem store_deferred (a : Addr) (x : Value) (u : FrameMode) (w : World) (hc : w.cell? a = some x) (hz : w.frozen? a = false) :
    CallsD Tryz.prog 157 #[.pointer (some a), .bool true] u w fun e u' w' => u' = u ∧ (e = .returned (.tuple #[]) ∧ w' = w.drew.setCell a (.int .u32 1)) := by
  have hc' : w.drew.cell? a = some x := by go_simp
  have hz' : w.drew.frozen? a = false := by go_simp
  have hst := run_call_store (P := Tryz.prog) Tryz.func163 (by kernel_rfl) (by kernel_rfl) (by kernel_rfl) (by kernel_rfl) (k := .u32) (y := 1) hc' hz'
  go_enter_d Tryz.func157, Tryz.ntmps157
  go_wp2
  go_region_calls
  all_goals (go_end0; exact ⟨rfl, rfl⟩)

theorem unlock_deferred (a : Addr) (u : FrameMode) (w : World) (hc : w.cell? a = some (.int .i32 1)) (hz : w.frozen? a = false) :
    CallsD Tryz.prog 156 #[.pointer (some a)] u w fun e u' w' => u' = u ∧ (e = .returned (.tuple #[]) ∧ w' = w.setCell a (.int .i32 0)) := by
  have hd := disable
  have he := enable
  have hr := releaseMerge
  have hadd := run_call_add (P := Tryz.prog) Tryz.func172 (by kernel_rfl) (by kernel_rfl) (by kernel_rfl) .i32 (by kernel_rfl) (y := -1) (s := 0) hc hz (by simp [go_sem]; rfl)
  have hcv := run_convert_to_unsafe (P := Tryz.prog) (src := 210) (dst := 214) Tryz.underlying210 Tryz.underlying214 (by kernel_rfl) hc
  go_enter_d Tryz.func156, Tryz.ntmps156
  go_wp2
  go_end0
  go_wp2
  go_end0
  exact ⟨rfl, rfl⟩

theorem lock_free (a : Addr) (w : World) (hc : w.cell? a = some (.int .i32 0)) (hz : w.frozen? a = false) :
    Calls Tryz.prog 155 #[.pointer (some a)] w fun e w' => e = .returned (.tuple #[]) ∧ w' = w.setCell a (.int .i32 1) := by
  have hd := disable
  have he := enable
  have ha := acquire
  have hcas := run_call_cas_hit (P := Tryz.prog) Tryz.func167 (by kernel_rfl) (by kernel_rfl) (by kernel_rfl) .i32 (by kernel_rfl) (y := 1) hc hz
  have hc' : (w.setCell a (.int .i32 1)).cell? a = some (.int .i32 1) := World.cell?_setCell_same w a _ hc
  have hcv := run_convert_to_unsafe (P := Tryz.prog) (src := 210) (dst := 214) Tryz.underlying210 Tryz.underlying214 (by kernel_rfl) hc'
  go_enter Tryz.func155, Tryz.ntmps155
  go_wp2
  first | go_end0 | (simp only [Exit.inBlock, Exit.then]; refine bodyPost_ret (results_none rfl _ _ _) rfl ?_) | refine bodyPost_ret (results_none rfl _ _ _) rfl ?_
  go_wp2
  go_end0
  exact ⟨rfl, rfl⟩

theorem done_no (a : Addr) (w : World) (hc : w.cell? a = some (.int .u32 0)) : Calls Tryz.prog 146 #[.pointer (some a)] w fun e w' => e = .returned (.bool false) ∧ w' = w := by
  have hl := run_call_load (P := Tryz.prog) Tryz.func154 (by kernel_rfl) (by kernel_rfl) (by kernel_rfl) .u32 (by kernel_rfl) hc
  go_enter Tryz.func146, Tryz.ntmps146
  go_wp2_with fail
  go_ret
  exact ⟨rfl, rfl⟩

theorem done_yes (a : Addr) (w : World) (hc : w.cell? a = some (.int .u32 1)) : Calls Tryz.prog 146 #[.pointer (some a)] w fun e w' => e = .returned (.bool true) ∧ w' = w := by
  have hl := run_call_load (P := Tryz.prog) Tryz.func154 (by kernel_rfl) (by kernel_rfl) (by kernel_rfl) .u32 (by kernel_rfl) hc
  go_enter Tryz.func146, Tryz.ntmps146
  go_wp2_with fail
  go_ret
  exact ⟨rfl, rfl⟩

set_option maxHeartbeats 1600000 in
theorem slow_any (db : Nat) (mo ow : Value) (w : World) (h : w.heap[db]? = some (dirO mo ow (.map none) (.int .u32 0) (.int .i32 0) (.int .u32 0) (.slice none 0 0))) :
    Calls Tryz.prog 147 #[.pointer (some ⟨db, 3, none⟩), .func (.func 124) #[.pointer (some ⟨db, 0, none⟩)] #[]] w fun e w' => e = .returned (.tuple #[]) ∧
      ∃ m g, w'.heap[db]? = some (dirO mo ow (.map (some m)) (.int .u32 1) (.int .i32 0) (.int .u32 0) (.slice (some ⟨g, 0, none⟩) 65536 65536)) ∧ Begun w w' m g ∧ ExtS [db] w w' := by
  have h4 : w.cell? ⟨db, 4, none⟩ = some (.int .i32 0) := by rw [heap_cell h]; rfl
  have h4f : ∀ k, w.frozen? ⟨db, k, none⟩ = false := fun k => heap_frozen h
  have h1 := heap_set (k := 4) h (.int .i32 1)
  have hx1 : ExtS [db] w (w.setCell ⟨db, 4, none⟩ (.int .i32 1)) := (ExtS.refl _ _).setCell (.inl (by simp)) _
  have hs1 : (w.setCell ⟨db, 4, none⟩ (.int .i32 1)).heap.size = w.heap.size := by simp [World.setCell]
  have hl := done_no ⟨db, 3, none⟩ (w.setCell ⟨db, 4, none⟩ (.int .i32 1)) (by rw [heap_cell h1]; rfl)
  have hb := begin_any db mo ow (.int .u32 0) (.int .i32 1) (.int .u32 0) (w.setCell ⟨db, 4, none⟩ (.int .i32 1)) h1
  have hnot : ∀ (x : Bool) (w : World), (Op.unary .not (.bool x)).run Tryz.prog w = .ok (.bool (!x)) w := fun _ _ => rfl
  have hlock := lock_free ⟨db, 4, none⟩ w h4 (h4f 4)
  have H : Hid _ := h
  clear h
  generalize hW1 : (w.setCell ⟨db, 4, none⟩ (.int .i32 1)) = W1 at *
  clear hW1 h1
  go_enter_defers Tryz.func147, Tryz.ntmps147
  go_wp2_with (first | (go_at_call 155; refine hlock.mono ?_; rintro e w' ⟨rfl, rfl⟩) | (go_at_call 146; refine hl.mono ?_; rintro e w' ⟨rfl, rfl⟩) | (go_at_call 124; refine hb.mono ?_; rintro e w' ⟨rfl, m, g, k1, k2, k3⟩))
  refine leaves_cons (f := 157) (args := #[.pointer (some ⟨db, 3, none⟩), .bool true]) (by simp) (by simp [go_sem]) ?_
  refine (store_deferred ⟨db, 3, none⟩ (.int .u32 0) .returning _ (by rw [heap_cell k1]; rfl) (heap_frozen k1)).mono ?_
  rintro e u' w'' ⟨rfl, rfl, rfl⟩
  have k4 : (w'.drew.setCell ⟨db, 3, none⟩ (.int .u32 1)).heap[db]? = some (dirO mo ow (.map (some m)) (.int .u32 1) (.int .i32 1) (.int .u32 0) (.slice (some ⟨g, 0, none⟩) 65536 65536)) := heap_set (w := w'.drew) (k := 3) k1 _
  have x4 : ExtS [db] w' (w'.drew.setCell ⟨db, 3, none⟩ (.int .u32 1)) := ((ExtS.refl [db] w').drew).setCell (.inl (by simp)) _
  generalize (w'.drew.setCell ⟨db, 3, none⟩ (.int .u32 1)) = W4 at *
  refine leaves_cons (f := 156) (args := #[.pointer (some ⟨db, 4, none⟩)]) (by simp [settle]) (by simp [go_sem]) ?_
  refine (unlock_deferred ⟨db, 4, none⟩ _ _ (by rw [heap_cell k4]; rfl) (heap_frozen k4)).mono ?_
  rintro e u' w'' ⟨rfl, rfl, rfl⟩
  have k5 : (W4.setCell ⟨db, 4, none⟩ (.int .i32 0)).heap[db]? = some (dirO mo ow (.map (some m)) (.int .u32 1) (.int .i32 0) (.int .u32 0) (.slice (some ⟨g, 0, none⟩) 65536 65536)) := heap_set (k := 4) k4 _
  have x5 : ExtS [db] w' (W4.setCell ⟨db, 4, none⟩ (.int .i32 0)) := x4.setCell (.inl (by simp)) _
  have hlt := heap_lt H.out
  have kB : Begun w (W4.setCell ⟨db, 4, none⟩ (.int .i32 0)) m g := by
    obtain ⟨b1, b2, b3, b4⟩ := k2
    refine ⟨by omega, by omega, b3.later x5 ?_, b4.later x5 ?_⟩
    · simp; omega
    · simp; omega
  have kX : ExtS [db] w (W4.setCell ⟨db, 4, none⟩ (.int .i32 0)) := (hx1.trans k3).trans x5
  generalize (W4.setCell ⟨db, 4, none⟩ (.int .i32 0)) = W5 at *
  exact ⟨_, results_none rfl _ _ _, rfl, m, g, k5, kB, kX⟩

theorem do_first (db : Nat) (mo ow : Value) (w : World) (h : w.heap[db]? = some (dirO mo ow (.map none) (.int .u32 0) (.int .i32 0) (.int .u32 0) (.slice none 0 0))) :
    Calls Tryz.prog 123 #[.pointer (some ⟨db, 3, none⟩), .func (.func 124) #[.pointer (some ⟨db, 0, none⟩)] #[]] w fun e w' => e = .returned (.tuple #[]) ∧
      ∃ m g, w'.heap[db]? = some (dirO mo ow (.map (some m)) (.int .u32 1) (.int .i32 0) (.int .u32 0) (.slice (some ⟨g, 0, none⟩) 65536 65536)) ∧ Begun w w' m g ∧ ExtS [db] w w' := by
  have hl := done_no ⟨db, 3, none⟩ w (by rw [heap_cell h]; rfl)
  have hs := slow_any db mo ow w h
  have hnot : ∀ (x : Bool) (w : World), (Op.unary .not (.bool x)).run Tryz.prog w = .ok (.bool (!x)) w := fun _ _ => rfl
  go_enter Tryz.func123, Tryz.ntmps123
  go_wp2_with (first | (go_at_call 146; refine hl.mono ?_; rintro e w' ⟨rfl, rfl⟩) | (go_at_call 147; refine hs.mono ?_; rintro e w' ⟨rfl, m, g, k1, k2, k3⟩))
  go_end0
  exact ⟨rfl, m, g, k1, k2, k3⟩

theorem do_done (db : Nat) (fv mo ow mp st sm fi : Value) (w : World) (h : w.heap[db]? = some (dirO mo ow mp (.int .u32 1) st sm fi)) :
    Calls Tryz.prog 123 #[.pointer (some ⟨db, 3, none⟩), fv] w fun e w' => e = .returned (.tuple #[]) ∧ w' = w := by
  have hl := done_yes ⟨db, 3, none⟩ w (by rw [heap_cell h]; rfl)
  have hnot : ∀ (x : Bool) (w : World), (Op.unary .not (.bool x)).run Tryz.prog w = .ok (.bool (!x)) w := fun _ _ => rfl
  go_enter Tryz.func123, Tryz.ntmps123
  go_wp2_with (first | (go_at_call 146; refine hl.mono ?_; rintro e w' ⟨rfl, rfl⟩))
  go_end0
  exact ⟨rfl, rfl⟩
end Go.Proofs.YtkfhkhgiojpfoaaGreat.Dr

namespace Go.Proofs.YtkfhkhgiojpfoaaGreat.Tri

open Go.RowKit Go.Proofs.YtkfhkhgiojpfoaaGreat

set_option linter.unusedVariables false

def placeN : Row → PX → Nat
  | [], _ => 0
  | x :: L, p => if bef x.1 p = true then placeN L p + 1 else 0

theorem placeN_le (L : Row) (p : PX) : placeN L p ≤ L.length := by
  induction L with
  | nil => exact Nat.le_refl _
  | cons x L ih => simp only [placeN, List.length_cons]; split <;> omega

def foundB (L : Row) (p : PX) : Bool := match L[placeN L p]? with
  | none => false
  | some x => x.1.1 == p.1 && x.1.2 == p.2

theorem foundB_iff {L : Row} {p : PX} : foundB L p = true ↔ ∃ u, L[placeN L p]? = some (p, u) := by
  unfold foundB
  constructor
  · intro h
    split at h
    · cases h
    · rename_i x hx
      obtain ⟨⟨a, n⟩, u⟩ := x
      obtain ⟨c, m⟩ := p
      simp only [Bool.and_eq_true, beq_iff_eq] at h
      obtain ⟨rfl, rfl⟩ := h
      exact ⟨u, hx⟩
  · rintro ⟨u, h⟩
    rw [h]; simp

def setL : Row → PX → Int → Row
  | [], p, v => [(p, v)]
  | x :: L, p, v => if bef x.1 p = true then x :: setL L p v else if x.1 = p then (p, v) :: L else (p, v) :: x :: L

theorem setL_found {L : Row} {p : PX} (v : Int) (h : foundB L p = true) : setL L p v = L.set (placeN L p) (p, v) := by
  induction L with
  | nil => simp [foundB, placeN] at h
  | cons x L ih =>
    simp only [setL, placeN]
    split
    · rename_i hb
      simp only [List.set_cons_succ]
      congr 1
      apply ih
      simpa [foundB, placeN, hb] using h
    · rename_i hb
      simp only [List.set_cons_zero]
      obtain ⟨u, hu⟩ := foundB_iff.1 h
      simp only [placeN, if_neg hb, List.getElem?_cons_zero, Option.some.injEq] at hu
      rw [if_pos (by rw [hu])]

theorem setL_new {L : Row} {p : PX} (v : Int) (h : foundB L p = false) : setL L p v = L.take (placeN L p) ++ (p, v) :: L.drop (placeN L p) := by
  induction L with
  | nil => rfl
  | cons x L ih =>
    simp only [setL, placeN]
    split
    · rename_i hb
      simp only [List.take_succ_cons, List.drop_succ_cons, List.cons_append]
      congr 1
      apply ih
      simpa [foundB, placeN, hb] using h
    · rename_i hb
      rw [if_neg ?_]
      · rfl
      · intro e
        have : foundB (x :: L) p = true := foundB_iff.2 ⟨x.2, by subst e; simp [placeN, bef_irr]⟩
        rw [h] at this; cases this

theorem set_mem {L : Row} (hs : Srt L) (p : PX) (v : Int) (x : PX × Int) : x ∈ setL L p v ↔ x = (p, v) ∨ (x ∈ L ∧ x.1 ≠ p) := by
  induction L with
  | nil => simp [setL]
  | cons y L ih =>
    obtain ⟨hy, hL⟩ := List.pairwise_cons.1 hs
    simp only [setL]
    split
    · rename_i hb
      have hn : y.1 ≠ p := fun e => by rw [e, bef_irr] at hb; cases hb
      simp only [List.mem_cons, ih hL]
      constructor
      · rintro (rfl | rfl | ⟨h1, h2⟩)
        · exact .inr ⟨.inl rfl, hn⟩
        · exact .inl rfl
        · exact .inr ⟨.inr h1, h2⟩
      · rintro (rfl | ⟨rfl | h1, h2⟩)
        · exact .inr (.inl rfl)
        · exact .inl rfl
        · exact .inr (.inr ⟨h1, h2⟩)
    · rename_i hb
      have hL2 : x ∈ L → x.1 ≠ p → True := fun _ _ => trivial
      split
      · rename_i e
        have hn : ∀ x ∈ L, x.1 ≠ p := fun x hx e2 => by have := hy x hx; rw [e, e2, bef_irr] at this; cases this
        simp only [List.mem_cons]
        constructor
        · rintro (rfl | h1)
          · exact .inl rfl
          · exact .inr ⟨.inr h1, hn x h1⟩
        · rintro (rfl | ⟨rfl | h1, h2⟩)
          · exact .inl rfl
          · exact absurd e h2
          · exact .inr h1
      · rename_i hne
        have hyp : bef p y.1 = true := by
          rcases bef_tri y.1 p with h | h | h
          · exact absurd h hb
          · exact absurd h hne
          · exact h
        have hn : ∀ x ∈ L, x.1 ≠ p := fun x hx e2 => by have := bef_trans hyp (hy x hx); rw [e2, bef_irr] at this; cases this
        simp only [List.mem_cons]
        constructor
        · rintro (rfl | rfl | h1)
          · exact .inl rfl
          · exact .inr ⟨.inl rfl, hne⟩
          · exact .inr ⟨.inr h1, hn x h1⟩
        · rintro (rfl | ⟨rfl | h1, h2⟩)
          · exact .inl rfl
          · exact .inr (.inl rfl)
          · exact .inr (.inr h1)

theorem set_srt {L : Row} (hs : Srt L) (p : PX) (v : Int) : Srt (setL L p v) := by
  induction L with
  | nil => exact List.pairwise_singleton _ _
  | cons y L ih =>
    have hs' := hs
    obtain ⟨hy, hL⟩ := List.pairwise_cons.1 hs
    simp only [setL]
    split
    · rename_i hb
      refine List.pairwise_cons.2 ⟨fun x hx => ?_, ih hL⟩
      rcases (set_mem hL p v x).1 hx with rfl | ⟨h1, _⟩
      · exact hb
      · exact hy x h1
    · rename_i hb
      split
      · rename_i e
        refine List.pairwise_cons.2 ⟨fun x hx => ?_, hL⟩
        rw [← e]; exact hy x hx
      · rename_i hne
        have hyp : bef p y.1 = true := by
          rcases bef_tri y.1 p with h | h | h
          · exact absurd h hb
          · exact absurd h hne
          · exact h
        refine List.pairwise_cons.2 ⟨fun x hx => ?_, hs'⟩
        rcases List.mem_cons.1 hx with rfl | hx
        · exact hyp
        · exact bef_trans hyp (hy x hx)

def delL (L : Row) (p : PX) : Row := L.filter fun x => !(x.1.1 == p.1 && x.1.2 == p.2)

theorem del_mem {L : Row} {p : PX} {x : PX × Int} : x ∈ delL L p ↔ x ∈ L ∧ x.1 ≠ p := by
  obtain ⟨⟨a, n⟩, u⟩ := x
  obtain ⟨c, m⟩ := p
  simp only [delL, List.mem_filter, Bool.not_eq_true', Bool.and_eq_false_iff, beq_eq_false_iff_ne, ne_eq, Prod.mk.injEq]
  constructor
  · rintro ⟨h1, h2⟩; exact ⟨h1, fun ⟨e1, e2⟩ => by rcases h2 with h | h <;> contradiction⟩
  · rintro ⟨h1, h2⟩
    refine ⟨h1, ?_⟩
    by_cases e : a = c
    · exact .inr fun e2 => h2 ⟨e, e2⟩
    · exact .inl e

theorem del_srt {L : Row} (hs : Srt L) (p : PX) : Srt (delL L p) := List.Pairwise.filter _ hs

/-- In order, what is found is what is there. -/
theorem found_mem {L : Row} (hs : Srt L) {p : PX} : foundB L p = true ↔ ∃ u, (p, u) ∈ L := by
  rw [foundB_iff]
  constructor
  · rintro ⟨u, h⟩; exact ⟨u, List.mem_of_getElem? h⟩
  · rintro ⟨u, h⟩
    refine ⟨u, ?_⟩
    induction L with
    | nil => simp at h
    | cons y L ih =>
      obtain ⟨hy, hL⟩ := List.pairwise_cons.1 hs
      rcases List.mem_cons.1 h with rfl | h
      · simp [placeN, bef_irr]
      · have := hy _ h
        simp only at this
        simp only [placeN, this, if_true, List.getElem?_cons_succ]
        exact ih hL h

theorem del_found {L : Row} (hs : Srt L) {p : PX} (h : foundB L p = true) : delL L p = L.take (placeN L p) ++ L.drop (placeN L p + 1) := by
  obtain ⟨u, hu⟩ := foundB_iff.1 h
  have hi := (List.getElem?_eq_some_iff.1 hu).1
  have hg := (List.getElem?_eq_some_iff.1 hu).2
  have e : L = L.take (placeN L p) ++ (p, u) :: L.drop (placeN L p + 1) := by
    rw [← hg, List.getElem_cons_drop]; exact (List.take_append_drop _ L).symm
  generalize placeN L p = k at *
  generalize L.take k = A at *
  generalize L.drop (k + 1) = C at *
  subst e
  have hp := List.pairwise_append.1 hs
  obtain ⟨hc, _⟩ := List.pairwise_cons.1 hp.2.1
  have keep : ∀ x : PX × Int, x.1 ≠ p → (!(x.1.1 == p.1 && x.1.2 == p.2)) = true := fun x hx => by
    cases hh : (x.1.1 == p.1 && x.1.2 == p.2) with
    | false => rfl
    | true =>
      simp only [Bool.and_eq_true, beq_iff_eq] at hh
      exact absurd (Prod.ext hh.1 hh.2) hx
  simp only [delL, List.filter_append, List.filter_cons]
  rw [List.filter_eq_self.2 fun x hx => keep x fun e => ?_, List.filter_eq_self.2 fun x hx => keep x fun e => ?_]
  · simp
  · have := hc x hx; rw [e, bef_irr] at this; cases this
  · have := hp.2.2 x hx _ (List.mem_cons_self); rw [e, bef_irr] at this; cases this

theorem del_not {L : Row} (hs : Srt L) {p : PX} (h : foundB L p = false) : delL L p = L := by
  refine srt_ext (del_srt hs p) hs fun x => ?_
  rw [del_mem]
  refine ⟨fun h => h.1, fun hx => ⟨hx, fun e => ?_⟩⟩
  have : foundB L p = true := (found_mem hs).2 ⟨x.2, by rw [← e]; exact hx⟩
  rw [h] at this; cases this

/-! A tree as such a row. -/

theorem put_toL {t : Sh} (h : WF t) {p : PX} (hp : Vp p) (v : Int) : toL (putS t p v) = setL (toL t) p v :=
  srt_ext (srt_toL (put_wf h hp)) (set_srt (srt_toL h) p v) fun x => by rw [put_mem h hp, set_mem (srt_toL h)]

theorem cut_toL {t : Sh} (h : WF t) {p : PX} (hp : foundB (toL t) p = true) : toL (cutS t p) = delL (toL t) p := by
  obtain ⟨u, hu⟩ := (found_mem (srt_toL h)).1 hp
  exact srt_ext (srt_toL (cut_wf h)) (del_srt (srt_toL h) p) fun x => by rw [cut_mem h (path_of h hu), del_mem]

/-- Those of a row that cover a prefix; none, if it may not be. -/
def covL (L : Row) (p : PX) : Row := if isV p.1 p.2 = true then L.filter fun x => cov x.1 p else []

theorem beg_covL {t : Sh} (h : WF t) {p : PX} (h0 : 0 ≤ p.1) (h1 : p.1 ≤ 4294967295) : coversS (begS t p) p = covL (toL t) p := by
  unfold begS covL
  split
  · rename_i hv
    rw [covS_covers, covers_toL h (vp_of h0 h1 hv)]
  · rfl

theorem lastF_mem {L : Row} {acc : Option (PX × Int)} {x : PX × Int} (h : lastF acc L = some x) : x ∈ L ∨ acc = some x := by
  induction L generalizing acc with
  | nil => exact .inr h
  | cons y L ih =>
    rcases ih h with h | h
    · exact .inl (List.mem_cons_of_mem _ h)
    · exact .inl (by cases h; exact List.mem_cons_self)

theorem lastF_none {L : Row} (h : lastF none L = none) : L = [] := by
  cases L with
  | nil => rfl
  | cons y L =>
    exfalso
    have : ∀ (L : Row) (a : PX × Int), lastF (some a) L ≠ none := by
      intro L; induction L with
      | nil => intro a e; cases e
      | cons z L ih => intro a; exact ih z
    exact this L y h

/-- The last one of a row in order is behind all others. -/
theorem lastF_split {L : Row} {acc : Option (PX × Int)} {x : PX × Int} (h : lastF acc L = some x) (hn : L ≠ []) : ∃ A, L = A ++ [x] := by
  induction L generalizing acc with
  | nil => exact absurd rfl hn
  | cons y L ih =>
    by_cases hL : L = []
    · subst hL
      have : y = x := by simpa [lastF] using h
      exact ⟨[], by rw [this]; rfl⟩
    · obtain ⟨A, hA⟩ := ih h hL
      exact ⟨y :: A, by rw [hA]; rfl⟩

/-- A prefix's number, by a row. -/
def getL (L : Row) (p : PX) : Int × Bool := match L[placeN L p]? with
  | none => (0, false)
  | some x => if (x.1.1 == p.1 && x.1.2 == p.2) = true then (x.2, true) else (0, false)

theorem getL_two (L : Row) (p : PX) : (getL L p).2 = foundB L p := by
  unfold getL foundB
  split
  · rfl
  · rename_i x hx
    cases (x.1.1 == p.1 && x.1.2 == p.2) <;> rfl

theorem getL_mem {L : Row} (hs : Srt L) {p : PX} {u : Int} (h : (p, u) ∈ L) : getL L p = (u, true) := by
  have h1 := (found_mem hs).2 ⟨u, h⟩
  obtain ⟨u', h2⟩ := foundB_iff.1 h1
  have := srt_key hs h (List.mem_of_getElem? h2) rfl
  obtain rfl : u = u' := congrArg Prod.snd this
  unfold getL
  rw [h2]; simp

theorem getL_not {L : Row} {p : PX} (h : foundB L p = false) : getL L p = (0, false) := by
  have h2 : (getL L p).2 = false := by rw [getL_two]; exact h
  unfold getL at h2 ⊢
  split
  · rfl
  · rename_i x hx
    rw [hx] at h2
    simp only at h2
    split
    · rename_i he; rw [if_pos he] at h2; cases h2
    · rfl

/-- What the tree's Get tells. -/
theorem get_toL {L : Row} (hs : Srt L) (hv : ∀ x ∈ L, Vp x.1) {p : PX} (h0 : 0 ≤ p.1) (h1 : p.1 ≤ 4294967295) : getF (lastF none (covL L p)) p = getL L p := by
  by_cases hf : foundB L p = true
  · obtain ⟨u, hu⟩ := (found_mem hs).1 hf
    have hpv := hv _ hu
    simp only at hpv
    rw [getL_mem hs hu]
    have hc : (p, u) ∈ covL L p := by
      unfold covL
      rw [if_pos (Vp.is hpv)]
      exact List.mem_filter.2 ⟨hu, cov_refl _⟩
    cases hl : lastF none (covL L p) with
    | none => rw [lastF_none hl] at hc; simp at hc
    | some x =>
      obtain ⟨A, hA⟩ := lastF_split hl (fun e => by rw [e] at hc; simp at hc)
      have hxc : x ∈ covL L p := by rw [hA]; simp
      have hsc : Srt (covL L p) := by unfold covL; split; exact List.Pairwise.filter _ hs; exact List.Pairwise.nil
      have hx : x = (p, u) := by
        rw [hA] at hc
        rcases List.mem_append.1 hc with hc | hc
        · exfalso
          rw [hA] at hsc
          have hb := (List.pairwise_append.1 hsc).2.2 _ hc x (by simp)
          simp only at hb
          unfold covL at hxc
          rw [if_pos (Vp.is hpv)] at hxc
          obtain ⟨hxL, hxp⟩ := List.mem_filter.1 hxc
          by_cases e : x.1 = p
          · rw [e, bef_irr] at hb; cases hb
          · have := cov_bef (hv x hxL) hpv hxp e
            have := bef_trans hb this
            rw [bef_irr] at this; cases this
        · exact (by simpa using hc : (p, u) = x).symm
      subst hx
      simp [getF]
  · rw [getL_not (by simpa using hf)]
    cases hl : lastF none (covL L p) with
    | none => rfl
    | some x =>
      simp only [getF]
      rw [if_neg]
      intro e
      apply hf
      rcases lastF_mem hl with h | h
      · unfold covL at h
        split at h
        · exact (found_mem hs).2 ⟨x.2, by rw [← e]; exact (List.mem_filter.1 h).1⟩
        · simp at h
      · cases h
end Go.Proofs.YtkfhkhgiojpfoaaGreat.Tri

namespace Go.Proofs.YtkfhkhgiojpfoaaGreat.Dr

open Go.RowKit Go.Proofs.YtkfhkhgiojpfoaaGreat Go.Proofs.YtkfhkhgiojpfoaaGreat.Tri

set_option linter.unusedVariables false

/-- The least length of what ends in a level's tables. -/
def loN : Nat → Nat
  | 0 => 0
  | 1 => 17
  | 2 => 25
  | _ => 33
/-- The level of a length. -/
def lvN (n : Nat) : Nat := if n ≤ 16 then 0 else if n ≤ 24 then 1 else 2

theorem lvN_le (n : Nat) : lvN n ≤ 2 := by unfold lvN; split; omega; split <;> omega
theorem lvN_lo (n : Nat) (h : n ≤ 32) : loN (lvN n) ≤ n ∧ n < loN (lvN n + 1) := by
  unfold lvN; split
  · simp [loN]; omega
  · split
    · simp [loN]; omega
    · simp [loN]; omega
theorem lvN_lt (n k : Nat) (h : k ≤ 1) : k < lvN n ↔ loN (k + 1) ≤ n := by
  match k, h with
  | 0, _ => unfold lvN; simp only [loN]; split; omega; split <;> omega
  | 1, _ => unfold lvN; simp only [loN]; split; omega; split <;> omega

theorem lo_be (k : Nat) (hk : k ≤ 2) : loN (k + 1) + beN k = 33 := by
  match k, hk with
  | 0, _ => rfl
  | 1, _ => rfl
  | 2, _ => rfl

theorem pl_next (k A : Nat) (hk : k ≤ 1) : plN (k + 1) A / szN (k + 1) = plN k A := by
  match k, hk with
  | 0, _ => simp only [plN, szN, beN]; omega
  | 1, _ => simp only [plN, szN, beN]; omega

theorem pl_zero (A : Nat) (hA : A < 4294967296) : plN 0 A / szN 0 = 0 := by
  simp only [plN, szN, beN]; omega

theorem pl_split (k A : Nat) : plN k A / szN k * szN k + plN k A % szN k = plN k A := by
  have := Nat.div_add_mod (plN k A) (szN k)
  rw [Nat.mul_comm]; exact this

/-- Is there a prefix behind the place n of the level before j? -/
def domB (K : List PX) (j n : Nat) : Bool := K.any fun p => decide ((loN j : Int) ≤ p.2) && decide (p.1.toNat / 2 ^ beN (j - 1) = n)

theorem dom_iff {K : List PX} {j n : Nat} : domB K j n = true ↔ ∃ p ∈ K, (loN j : Int) ≤ p.2 ∧ p.1.toNat / 2 ^ beN (j - 1) = n := by
  simp [domB]

/-! How many there are, but for what is there twice. -/
def cntD : List Nat → Nat
  | [] => 0
  | x :: l => cntD l + if x ∈ l then 0 else 1

theorem cntD_perm {l l' : List Nat} (h : l.Perm l') : cntD l = cntD l' := by
  induction h with
  | nil => rfl
  | cons x h ih => simp only [cntD, ih, h.mem_iff]
  | swap x y l =>
    simp only [cntD, List.mem_cons]
    by_cases e : x = y
    · subst e; rfl
    · have e' : ¬ y = x := fun h => e h.symm
      simp only [e, e', false_or]; omega
  | trans _ _ ih1 ih2 => exact ih1.trans ih2

def hv (j : Nat) (K : List PX) : List Nat := (K.filter fun p => decide ((loN j : Int) ≤ p.2)).map fun p => p.1.toNat / 2 ^ beN (j - 1)

theorem hv_mem {j : Nat} {K : List PX} {n : Nat} : n ∈ hv j K ↔ domB K j n = true := by
  rw [dom_iff]; simp [hv, and_assoc]

def ownN (K : List PX) : Nat := cntD (hv 1 K) + cntD (hv 2 K)

/-- How many more a prefix of that address and level owns. -/
def moreN (K : List PX) (A : Nat) : Nat → Nat
  | 0 => 0
  | j + 1 => moreN K A j + if domB K (j + 1) (plN j A) = true then 0 else 1

theorem own_cons (p : PX) (hp : Vp p) (K : List PX) : ownN (p :: K) = ownN K + moreN K p.1.toNat (lvN p.2.toNat) := by
  obtain ⟨A, N, rfl, hN, hA, -⟩ := hp
  simp only [Int.toNat_natCast]
  have step : ∀ j, cntD (hv j (((A : Int), (N : Int)) :: K)) = cntD (hv j K) + if loN j ≤ N then (if domB K j (A / 2 ^ beN (j - 1)) = true then 0 else 1) else 0 := by
    intro j
    by_cases h : loN j ≤ N
    · have e : hv j (((A : Int), (N : Int)) :: K) = A / 2 ^ beN (j - 1) :: hv j K := by simp [hv, h]
      rw [e, if_pos h]
      simp only [cntD, hv_mem]
    · have e : hv j (((A : Int), (N : Int)) :: K) = hv j K := by simp [hv, h]
      rw [e, if_neg h]; rfl
  unfold ownN
  rw [step, step]
  have l1 : loN 1 = 17 := rfl
  have l2 : loN 2 = 25 := rfl
  have e0 : (if domB K 1 (A / 2 ^ beN (1 - 1)) = true then 0 else 1) = (if domB K (0 + 1) (plN 0 A) = true then 0 else 1) := rfl
  have e1 : (if domB K 2 (A / 2 ^ beN (2 - 1)) = true then 0 else 1) = (if domB K (1 + 1) (plN 1 A) = true then 0 else 1) := rfl
  rw [l1, l2, e0, e1]
  by_cases h1 : N ≤ 16
  · rw [show lvN N = 0 by unfold lvN; rw [if_pos h1], if_neg (show ¬ 17 ≤ N by omega), if_neg (show ¬ 25 ≤ N by omega)]; rfl
  · by_cases h2 : N ≤ 24
    · rw [show lvN N = 1 by unfold lvN; rw [if_neg h1, if_pos h2], if_pos (show 17 ≤ N by omega), if_neg (show ¬ 25 ≤ N by omega)]; simp only [moreN]; omega
    · rw [show lvN N = 2 by unfold lvN; rw [if_neg h1, if_neg h2], if_pos (show 17 ≤ N by omega), if_pos (show 25 ≤ N by omega)]; simp only [moreN]; omega

theorem own_perm {K K' : List PX} (h : K.Perm K') : ownN K = ownN K' := by
  unfold ownN hv
  rw [cntD_perm ((h.filter _).map _), cntD_perm ((h.filter _).map _)]

theorem dom_perm {K K' : List PX} (h : K.Perm K') (j n : Nat) : domB K j n = domB K' j n := by
  rw [Bool.eq_iff_iff, dom_iff, dom_iff]
  simp only [h.mem_iff]

/-! The longest of the lengths from lo to below hi that has an address. -/
def Bst (E : List (PX × Nat)) (lo hi A : Nat) : Option Nat → Prop
  | none => ∀ x ∈ E, (lo : Int) ≤ x.1.2 → x.1.2 < (hi : Int) → cov x.1 ((A : Int), 32) = false
  | some b => ∃ p, (p, b) ∈ E ∧ (lo : Int) ≤ p.2 ∧ p.2 < (hi : Int) ∧ cov p ((A : Int), 32) = true ∧ ∀ x ∈ E, (lo : Int) ≤ x.1.2 → x.1.2 < (hi : Int) → cov x.1 ((A : Int), 32) = true → x.1.2 ≤ p.2

theorem bst_join {E : List (PX × Nat)} {lo mi hi A : Nat} {o o' : Option Nat} (h1 : lo ≤ mi) (h2 : mi ≤ hi) (h : Bst E lo mi A o) (h' : Bst E mi hi A o') : Bst E lo hi A (match o' with | some b => some b | none => o) := by
  cases o' with
  | some b =>
    obtain ⟨p, k1, k2, k3, k4, k5⟩ := h'
    refine ⟨p, k1, by omega, k3, k4, fun x hx a1 a2 a3 => ?_⟩
    rcases Int.lt_or_le x.1.2 mi with hl | hl
    · omega
    · exact k5 x hx hl a2 a3
  | none =>
    cases o with
    | none =>
      intro x hx a1 a2
      rcases Int.lt_or_le x.1.2 mi with hl | hl
      · exact h x hx a1 hl
      · exact h' x hx hl a2
    | some b =>
      obtain ⟨p, k1, k2, k3, k4, k5⟩ := h
      refine ⟨p, k1, k2, by omega, k4, fun x hx a1 a2 a3 => ?_⟩
      rcases Int.lt_or_le x.1.2 mi with hl | hl
      · exact k5 x hx a1 hl a3
      · rw [h' x hx hl a2] at a3; cases a3

theorem cov_add {p : PX} (hp : Vp p) {A : Nat} : cov p ((A : Int), 32) = true ↔ p.1.toNat / 2 ^ (32 - p.2.toNat) = A / 2 ^ (32 - p.2.toNat) := by
  obtain ⟨B, N, rfl, hN, hB, -⟩ := hp
  have := cov_nat (A := B) (N := N) (B := A) (M := 32) hN (Nat.le_refl _)
  simp only [Int.toNat_natCast]
  rw [show (32 : Int) = ((32 : Nat) : Int) from rfl, this]
  exact ⟨fun h => h.2, fun h => ⟨hN, h⟩⟩

/-- Of two that both have an address the one of the same length is the same. -/
theorem same_len {p q : PX} (hp : Vp p) (hq : Vp q) {A : Nat} (h1 : cov p ((A : Int), 32) = true) (h2 : cov q ((A : Int), 32) = true) (hl : p.2 = q.2) : p = q := by
  rw [cov_add hp] at h1
  rw [cov_add hq] at h2
  obtain ⟨B, N, rfl, hN, hB, hBz⟩ := hp
  obtain ⟨C, M, rfl, hM, hC, hCz⟩ := hq
  simp only [Int.toNat_natCast] at h1 h2 hl
  obtain rfl : N = M := by omega
  have e : B / 2 ^ (32 - N) = C / 2 ^ (32 - N) := by rw [h1, h2]
  have e1 := Nat.div_add_mod B (2 ^ (32 - N))
  have e2 := Nat.div_add_mod C (2 ^ (32 - N))
  rw [hBz] at e1
  rw [hCz] at e2
  rw [e] at e1
  have : B = C := by omega
  rw [this]
end Go.Proofs.YtkfhkhgiojpfoaaGreat.Dr

namespace Go.Proofs.YtkfhkhgiojpfoaaGreat.Dr

set_option maxRecDepth 100000

open Go.RowKit Go.Proofs.YtkfhkhgiojpfoaaGreat Go.Proofs.YtkfhkhgiojpfoaaGreat.Tri

set_option linter.unusedVariables false

def tyN : Nat → TypeId
  | 0 => 156
  | _ => 197

/-- All tables: T k n is the block of the table of level k that is behind the place n of the level before; f k m is what the place m of the level k is painted with. -/
structure Tabs (w : World) (T f : Nat → Nat → Option Nat) : Prop where
  at0 : ∀ n b, T 0 n = some b → n = 0
  top : ∀ k n, 2 < k → T k n = none
  tab : ∀ k n b, T k n = some b → TabAt w b (szN k) (tyN k) (fun i => f k (n * szN k + i)) (fun i => T (k + 1) (n * szN k + i))
  inj : ∀ k n k' n' b, T k n = some b → T k' n' = some b → k = k' ∧ n = n'
  par : ∀ k m b, T (k + 1) m = some b → T k (m / szN k) ≠ none
  bare : ∀ k m, T k (m / szN k) = none → f k m = none

theorem Tabs.later {w w' : World} {T f : Nat → Nat → Option Nat} {G : List Nat} (h : Tabs w T f) (hx : ExtS G w w') (hd : ∀ k n b, T k n = some b → b ∉ G) : Tabs w' T f :=
  ⟨h.at0, h.top, fun k n b e => (h.tab k n b e).later hx (hd k n b e), h.inj, h.par, h.bare⟩

theorem Tabs.ext {w w' : World} {T f : Nat → Nat → Option Nat} (h : Tabs w T f) (hx : Ext w w') : Tabs w' T f := h.later (hx.toS []) (by simp)

def tbV (k : Nat) (o : Option Nat) : Value := match o with
  | none => .slice none 0 0
  | some b => .slice (some ⟨b, 0, none⟩) (szN k) (szN k)

theorem tab_next (k : Nat) (o : Option Nat) : tabV o = tbV (k + 1) o := by cases o <;> rfl

/-- A table on an address's way. -/
def onT (T : Nat → Nat → Option Nat) (A k : Nat) : Option Nat := T k (plN k A / szN k)

theorem on_next (T : Nat → Nat → Option Nat) (A k : Nat) (hk : k ≤ 1) : onT T A (k + 1) = T (k + 1) (plN k A) := by unfold onT; rw [pl_next k A hk]

def msN (T : Nat → Nat → Option Nat) (A : Nat) : Nat → Nat
  | 0 => 0
  | j + 1 => msN T A j + if (T (j + 1) (plN j A)).isNone = true then 1 else 0

/-- The place of an address in a table. -/
theorem Tabs.by_cell {w : World} {T f : Nat → Nat → Option Nat} (h : Tabs w T f) {A k b : Nat} (e : onT T A k = some b) : w.cell? ⟨b, plN k A % szN k * 2, none⟩ = some (ptV (f k (plN k A))) := by
  have := (h.tab k _ b e).by_cell (Nat.mod_lt (plN k A) (szN_pos k))
  rw [pl_split] at this; exact this

theorem Tabs.to_cell {w : World} {T f : Nat → Nat → Option Nat} (h : Tabs w T f) {A k b : Nat} (e : onT T A k = some b) : w.cell? ⟨b, plN k A % szN k * 2 + 1, none⟩ = some (ptV (T (k + 1) (plN k A))) := by
  have := (h.tab k _ b e).to_cell (Nat.mod_lt (plN k A) (szN_pos k))
  rw [pl_split] at this; exact this

theorem Tabs.on_par {w : World} {T f : Nat → Nat → Option Nat} (h : Tabs w T f) {A k : Nat} (e : onT T A k = none) : T (k + 1) (plN k A) = none := by
  cases hh : T (k + 1) (plN k A) with
  | none => rfl
  | some b => exact absurd e (h.par k _ b hh)

theorem neq_nil (w : World) : (binOp .neq 116 (.slice none 0 0) (.slice none 0 0)).run Tryz.prog w = .ok (.bool false) w := by kernel_rfl

theorem eql_nil (w : World) : (binOp .eql 116 (.slice none 0 0) (.slice none 0 0)).run Tryz.prog w = .ok (.bool true) w := by kernel_rfl

theorem neq_tab (a : Addr) (n c : Nat) (w : World) : (binOp .neq 116 (.slice (some a) n c) (.slice none 0 0)).run Tryz.prog w = .ok (.bool true) w := by kernel_rfl

theorem eql_tab (a : Addr) (n c : Nat) (w : World) : (binOp .eql 116 (.slice (some a) n c) (.slice none 0 0)).run Tryz.prog w = .ok (.bool false) w := by kernel_rfl

theorem be_int (k : Nat) (hk : k ≤ 2) : (0 : Int) ≤ (beN k : Int) ∧ (beN k : Int) ≤ 32 := by unfold beN; omega

theorem be_next (k : Nat) (hk : k ≤ 1) : (beN k : Int) - 8 = (beN (k + 1) : Int) := by unfold beN; omega

set_option maxHeartbeats 2000000 in
theorem missing_any (db A N : Nat) (T f : Nat → Nat → Option Nat) (w : World) (hT : Tabs w T f) (hd : w.cell? ⟨db, 6, none⟩ = some (tbV 0 (T 0 0))) (hA : A < 4294967296) (hN : N ≤ 32) :
    Calls Tryz.prog 122 #[.pointer (some ⟨db, 0, none⟩), .agg #[.int .u32 A, .int .i64 N]] w fun e w' => e = .returned (.int .i64 (msN T A (lvN N) : Nat)) ∧ Ext w w' := by
  have hA0 : Ext w (w.alloc (.cells #[.int .u32 A, .int .i64 N] 42)) := (Ext.refl w).alloc _
  have hn := heap_new w (.cells #[.int .u32 A, .int .i64 N] 42)
  have hq : ∀ w', Ext (w.alloc (.cells #[.int .u32 A, .int .i64 N] 42)) w' → w'.cell? ⟨w.heap.size, 0, none⟩ = some (.int .u32 A) ∧ w'.cell? ⟨w.heap.size, 1, none⟩ = some (.int .i64 N) := fun w' hx => ⟨by rw [heap_cell (hx.heap hn)]; rfl, by rw [heap_cell (hx.heap hn)]; rfl⟩
  have HQ : Hid _ := hq
  have HT : Hid (Tabs w T f) := hT
  have d6 : (w.alloc (.cells #[.int .u32 A, .int .i64 N] 42)).cell? ⟨db, 6, none⟩ = some (tbV 0 (T 0 0)) := by rw [hA0.cell (World.block_lt_of_cell? w _ hd)]; exact hd
  have z0 := pl_zero A hA
  obtain ⟨v0, hv0⟩ : ∃ v0, v0 = tbV 0 (T 0 0) := ⟨_, rfl⟩
  rw [← hv0] at d6
  have HV : Hid (v0 = tbV 0 (onT T A 0)) := by show v0 = _; rw [hv0]; unfold onT; rw [z0]
  clear hq hT hn hd hv0
  generalize hW0 : (w.alloc (.cells #[.int .u32 A, .int .i64 N] 42)) = W0 at *
  go_enter Tryz.func122, Tryz.ntmps122
  go_wp2_with fail
  clear d6
  go_loopw [5, 6, 7] (fun n tab be wr => ∃ k : Nat, k ≤ lvN N ∧ be = .int .i64 (beN k) ∧ Hid (tab = tbV k (onT T A k)) ∧ n = .int .i64 (msN T A k : Nat) ∧ Ext W0 wr) (fun _ _ be _ => (intOf be).toNat)
  case atStart => exact ⟨0, Nat.zero_le _, rfl, HV, rfl, Ext.refl _⟩
  case round =>
    obtain ⟨k, hk, rfl, HV', rfl, hx⟩ := hrel
    have hk2 : k ≤ 2 := Nat.le_trans hk (lvN_le N)
    obtain ⟨q0, q1⟩ := HQ.out _ hx
    have ce := fun w => ends_any (A : Int) (N : Int) (beN k) w (be_int k hk2).1 (be_int k hk2).2
    by_cases hlt : k < lvN N
    · have hk1 : k ≤ 1 := by have := lvN_le N; omega
      have hgt : decide ((N : Int) > 32 - (beN k : Int)) = true := by
        have := (lvN_lt N k hk1).1 hlt
        have := lo_be k hk2
        rw [decide_eq_true_eq]; omega
      have hb8 := be_next k hk1
      have hb0 := be_int (k + 1) (by omega)
      have hms : msN T A k ≤ 2 := by
        have : ∀ j, msN T A j ≤ j := by
          intro j; induction j with
          | zero => exact Nat.le_refl _
          | succ j ih => simp only [msN]; split <;> omega
        have := this k; omega
      rw [hgt] at ce
      cases ho : onT T A k with
      | none =>
        have hno : msN T A (k + 1) = msN T A k + 1 := by simp [msN, HT.out.on_par ho]
        have htab : tbV (k + 1) (onT T A (k + 1)) = .slice none 0 0 := by rw [on_next T A k hk1, HT.out.on_par ho]; rfl
        have hv : u6 = .slice none 0 0 := by rw [HV'.out, ho]; rfl
        subst hv
        have s1 := neq_nil
        have s2 := eql_nil
        generalize hbe : (beN k : Int) = be at *
        have HB : Hid ((beN k : Int) = be) := hbe
        clear hbe
        go_wp2_with (go_at_call 142; refine (ce _).mono ?_; rintro e w1 ⟨rfl, hx1⟩)
        refine ⟨⟨k + 1, by omega, rfl, htab.symm, by rw [hno]; simp, hx.trans hx1⟩, ?_⟩
        simp only [intOf]; omega
      | some b =>
        have hv : u6 = .slice (some ⟨b, 0, none⟩) (szN k) (szN k) := by rw [HV'.out, ho]; rfl
        subst hv
        have s1 := neq_tab ⟨b, 0, none⟩ (szN k) (szN k)
        have cs := fun w => spot_any k A b (szN k) hk2 hA w
        have cb : ∀ w', Ext W0 w' → Calls Tryz.prog 104 #[.pointer (some ⟨b, plN k A % szN k * 2, none⟩)] w' fun e w2 => e = .returned (tbV (k + 1) (onT T A (k + 1))) ∧ w2 = w' := fun w' hx' => by
          rw [on_next T A k hk1, ← tab_next]
          exact below_any b _ _ w' ((HT.out.ext (hA0.trans hx')).to_cell ho)
        have HCB : Hid _ := cb
        clear cb
        have hnx : msN T A (k + 1) = msN T A k + if (onT T A (k + 1)).isNone = true then 1 else 0 := by rw [on_next T A k hk1]; rfl
        generalize plN k A % szN k * 2 = off at *
        generalize hon : onT T A (k + 1) = o' at *
        have HO : Hid (onT T A (k + 1) = o') := hon
        clear hon
        generalize szN k = sz at *
        cases o' with
        | none =>
          simp only [tbV] at HCB
          have s2 := eql_nil
          have hno : msN T A (k + 1) = msN T A k + 1 := hnx
          clear hnx
          generalize hbe : (beN k : Int) = be at *
          have HB : Hid ((beN k : Int) = be) := hbe
          clear hbe
          go_wp2_with (first | (go_at_call 142; refine (ce _).mono ?_; rintro e w1 ⟨rfl, hx1⟩; obtain ⟨q0', q1'⟩ := HQ.out _ (hx.trans hx1)) | (go_at_call 103; refine (cs _).mono ?_; rintro e w2 ⟨rfl, rfl⟩) | (go_at_call 104; refine (HCB.out _ (hx.trans hx1)).mono ?_; rintro e w2 ⟨rfl, rfl⟩))
          refine ⟨⟨k + 1, by omega, rfl, by show _ = _; rw [HO.out]; rfl, by rw [hno]; simp, hx.trans hx1⟩, ?_⟩
          simp only [intOf]; omega
        | some b' =>
          have htb : tbV (k + 1) (some b') = .slice (some ⟨b', 0, none⟩) 256 256 := rfl
          rw [htb] at HCB
          have s2 := eql_tab ⟨b', 0, none⟩ 256 256
          have hno : msN T A (k + 1) = msN T A k := hnx
          clear hnx htb
          generalize hbe : (beN k : Int) = be at *
          have HB : Hid ((beN k : Int) = be) := hbe
          clear hbe
          go_wp2_with (first | (go_at_call 142; refine (ce _).mono ?_; rintro e w1 ⟨rfl, hx1⟩; obtain ⟨q0', q1'⟩ := HQ.out _ (hx.trans hx1)) | (go_at_call 103; refine (cs _).mono ?_; rintro e w2 ⟨rfl, rfl⟩) | (go_at_call 104; refine (HCB.out _ (hx.trans hx1)).mono ?_; rintro e w2 ⟨rfl, rfl⟩))
          refine ⟨⟨k + 1, by omega, rfl, by show _ = _; rw [HO.out]; rfl, by rw [hno], hx.trans hx1⟩, ?_⟩
          simp only [intOf]; omega
    · obtain rfl : k = lvN N := by omega
      have hgt : decide ((N : Int) > 32 - (beN (lvN N) : Int)) = false := by
        have := (lvN_lo N hN).2
        have := lo_be (lvN N) hk2
        rw [decide_eq_false_iff_not]; omega
      rw [hgt] at ce
      generalize (beN (lvN N) : Int) = be at *
      go_wp2_with (go_at_call 142; refine (ce _).mono ?_; rintro e w1 ⟨rfl, hx1⟩)
      go_ret
      exact ⟨rfl, (hA0.trans hx).trans hx1⟩
end Go.Proofs.YtkfhkhgiojpfoaaGreat.Dr

namespace Go.Proofs.YtkfhkhgiojpfoaaGreat.Dr

set_option maxRecDepth 100000

open Go.RowKit Go.Proofs.YtkfhkhgiojpfoaaGreat Go.Proofs.YtkfhkhgiojpfoaaGreat.Tri

set_option linter.unusedVariables false

theorem al_mod {c x s : Nat} (hc : c ∣ x) (hs : c ∣ s) (h : 0 < s) : x % s + c ≤ s := by
  obtain ⟨q, hq⟩ := (Nat.dvd_mod_iff hs).2 hc
  obtain ⟨r, rfl⟩ := hs
  have hl := Nat.mod_lt x h
  rw [hq] at hl ⊢
  have : q < r := Nat.lt_of_mul_lt_mul_left hl
  have := Nat.mul_le_mul_left c (show q + 1 ≤ r by omega)
  rw [Nat.mul_add, Nat.mul_one] at this
  exact this

theorem wrap64_is {n : Int} (h0 : 0 ≤ n) (h1 : n < 9223372036854775808) : wrap64 n = n := by unfold wrap64; omega

theorem w_two {cn c : Nat} (h : cn = 2 ^ c) (hc : cn ≤ 65536) : wrap64 (2 ^ c) = (cn : Int) := by
  have e : (2 : Int) ^ c = (cn : Int) := by rw [h]; simp
  rw [e, wrap64_is (by omega) (by omega)]

theorem w_sum {s i cn : Nat} (h : s = i + cn) (hc : i + cn ≤ 65536) : wrap64 ((i : Int) + (cn : Int)) = (s : Int) := by
  rw [wrap64_is (by omega) (by omega)]; omega

theorem w_all {i cn c sz : Nat} (h : cn = 2 ^ c) (hc : i + cn ≤ sz) (hs : sz ≤ 65536) : ∃ s : Nat, wrap64 (2 ^ c) = (cn : Int) ∧ wrap64 ((i : Int) + (cn : Int)) = (s : Int) ∧ (i : Int) ≤ (s : Int) ∧ (s : Int) ≤ (sz : Int) ∧ Hid (s = i + cn) := by
  refine ⟨i + cn, w_two h (by omega), w_sum rfl (by omega), ?_, ?_, rfl⟩
  · clear h; omega
  · clear h; omega

/-- How many places a prefix of a length has. -/
def cntN (N : Nat) : Nat := 2 ^ (32 - beN (lvN N) - N)

theorem lv_be (N : Nat) (hN : N ≤ 32) : N + beN (lvN N) ≤ 32 := by
  have := (lvN_lo N hN).2
  have := lo_be (lvN N) (lvN_le N)
  omega

theorem cnt_dvd (A N : Nat) (hN : N ≤ 32) (hA : A % 2 ^ (32 - N) = 0) : cntN N ∣ plN (lvN N) A := by
  have hb := lv_be N hN
  obtain ⟨q, rfl⟩ := Nat.dvd_of_mod_eq_zero hA
  refine ⟨q, ?_⟩
  unfold plN cntN
  have e : 32 - N = beN (lvN N) + (32 - beN (lvN N) - N) := by omega
  rw [e, Nat.pow_add, Nat.mul_assoc, Nat.mul_div_cancel_left _ (Nat.pow_pos (by omega))]

theorem cnt_sz (N : Nat) (hN : N ≤ 32) : cntN N ∣ szN (lvN N) := by
  unfold cntN lvN
  split
  · exact Nat.pow_dvd_pow 2 (show 32 - beN 0 - N ≤ 16 by unfold beN; omega)
  · split
    · exact Nat.pow_dvd_pow 2 (show 32 - beN 1 - N ≤ 8 by unfold beN; omega)
    · exact Nat.pow_dvd_pow 2 (show 32 - beN 2 - N ≤ 8 by unfold beN; omega)

theorem cnt_ok (A N : Nat) (hN : N ≤ 32) (hA : A % 2 ^ (32 - N) = 0) : plN (lvN N) A % szN (lvN N) + cntN N ≤ szN (lvN N) := al_mod (cnt_dvd A N hN hA) (cnt_sz N hN) (szN_pos _)

theorem sz_le (k : Nat) : szN k ≤ 65536 := by unfold szN; split <;> omega

set_option maxHeartbeats 2000000 in
theorem places_any (db A N : Nat) (T f : Nat → Nat → Option Nat) (w : World) (hT : Tabs w T f) (hd : w.cell? ⟨db, 6, none⟩ = some (tbV 0 (T 0 0))) (hA : A < 4294967296) (hN : N ≤ 32) (hZ : A % 2 ^ (32 - N) = 0) (b : Nat) (hb : onT T A (lvN N) = some b) :
    Calls Tryz.prog 118 #[.pointer (some ⟨db, 0, none⟩), .agg #[.int .u32 A, .int .i64 N]] w fun e w' => (∃ cp, e = .returned (.slice (some ⟨b, plN (lvN N) A % szN (lvN N) * 2, none⟩) (cntN N) cp)) ∧ Ext w w' := by
  have hA0 : Ext w (w.alloc (.cells #[.int .u32 A, .int .i64 N] 42)) := (Ext.refl w).alloc _
  have hn := heap_new w (.cells #[.int .u32 A, .int .i64 N] 42)
  have hq : ∀ w', Ext (w.alloc (.cells #[.int .u32 A, .int .i64 N] 42)) w' → w'.cell? ⟨w.heap.size, 0, none⟩ = some (.int .u32 A) ∧ w'.cell? ⟨w.heap.size, 1, none⟩ = some (.int .i64 N) := fun w' hx => ⟨by rw [heap_cell (hx.heap hn)]; rfl, by rw [heap_cell (hx.heap hn)]; rfl⟩
  have HQ : Hid _ := hq
  have HT : Hid (Tabs w T f) := hT
  have d6 : (w.alloc (.cells #[.int .u32 A, .int .i64 N] 42)).cell? ⟨db, 6, none⟩ = some (tbV 0 (T 0 0)) := by rw [hA0.cell (World.block_lt_of_cell? w _ hd)]; exact hd
  have z0 := pl_zero A hA
  obtain ⟨v0, hv0⟩ : ∃ v0, v0 = tbV 0 (T 0 0) := ⟨_, rfl⟩
  rw [← hv0] at d6
  have HV : Hid (v0 = tbV 0 (onT T A 0)) := by show v0 = _; rw [hv0]; unfold onT; rw [z0]
  obtain ⟨i, hi⟩ : ∃ i, i = plN (lvN N) A % szN (lvN N) := ⟨_, rfl⟩
  obtain ⟨cn, hcn⟩ : ∃ cn, cn = cntN N := ⟨_, rfl⟩
  rw [← hi, ← hcn]
  have HI : Hid (i = plN (lvN N) A % szN (lvN N)) := hi
  have HC : Hid (cn = cntN N) := hcn
  clear hq hT hn hd hv0 hi hcn
  generalize hW0 : (w.alloc (.cells #[.int .u32 A, .int .i64 N] 42)) = W0 at *
  go_enter Tryz.func118, Tryz.ntmps118
  go_wp2_with fail
  clear d6
  go_loopw [5, 6] (fun tab be wr => ∃ k : Nat, k ≤ lvN N ∧ be = .int .i64 (beN k) ∧ Hid (tab = tbV k (onT T A k)) ∧ Ext W0 wr) (fun _ be _ => (intOf be).toNat)
  case atStart => exact ⟨0, Nat.zero_le _, rfl, HV, Ext.refl _⟩
  case round =>
    obtain ⟨k, hk, rfl, HV', hx⟩ := hrel
    have hk2 : k ≤ 2 := Nat.le_trans hk (lvN_le N)
    obtain ⟨q0, q1⟩ := HQ.out _ hx
    have ce := fun w => ends_any (A : Int) (N : Int) (beN k) w (be_int k hk2).1 (be_int k hk2).2
    by_cases hlt : k < lvN N
    · have hk1 : k ≤ 1 := by have := lvN_le N; omega
      have hgt : decide ((N : Int) > 32 - (beN k : Int)) = true := by
        have := (lvN_lt N k hk1).1 hlt
        have := lo_be k hk2
        rw [decide_eq_true_eq]; omega
      have hb8 := be_next k hk1
      have hb0 := be_int (k + 1) (by omega)
      rw [hgt] at ce
      have hex : ∃ b', onT T A k = some b' := by
        have down : ∀ d j, j + d = lvN N → onT T A j ≠ none := by
          intro d
          induction d with
          | zero => intro j hj; rw [show j = lvN N by omega, hb]; simp
          | succ d ih =>
            intro j hj hno
            have hj1 : j ≤ 1 := by have := lvN_le N; omega
            exact ih (j + 1) (by omega) (by rw [on_next T A j hj1]; exact HT.out.on_par hno)
        cases hh : onT T A k with
        | none => exact absurd hh (down (lvN N - k) k (by omega))
        | some b' => exact ⟨b', rfl⟩
      obtain ⟨b', ho⟩ := hex
      have hv : u5 = .slice (some ⟨b', 0, none⟩) (szN k) (szN k) := by rw [HV'.out, ho]; rfl
      subst hv
      have cs := fun w => spot_any k A b' (szN k) hk2 hA w
      have cb : ∀ w', Ext W0 w' → Calls Tryz.prog 104 #[.pointer (some ⟨b', plN k A % szN k * 2, none⟩)] w' fun e w2 => e = .returned (tbV (k + 1) (onT T A (k + 1))) ∧ w2 = w' := fun w' hx' => by
        rw [on_next T A k hk1, ← tab_next]
        exact below_any b' _ _ w' ((HT.out.ext (hA0.trans hx')).to_cell ho)
      have HCB : Hid _ := cb
      clear cb
      generalize plN k A % szN k * 2 = off at *
      obtain ⟨v1, hv1⟩ : ∃ v1, v1 = tbV (k + 1) (onT T A (k + 1)) := ⟨_, rfl⟩
      rw [← hv1] at HCB
      have HV1 : Hid (v1 = tbV (k + 1) (onT T A (k + 1))) := hv1
      clear hv1
      generalize szN k = sz at *
      generalize hbe : (beN k : Int) = be at *
      clear hbe
      go_wp2_with (first | (go_at_call 142; refine (ce _).mono ?_; rintro e w1 ⟨rfl, hx1⟩; obtain ⟨q0', q1'⟩ := HQ.out _ (hx.trans hx1)) | (go_at_call 103; refine (cs _).mono ?_; rintro e w2 ⟨rfl, rfl⟩) | (go_at_call 104; refine (HCB.out _ (hx.trans hx1)).mono ?_; rintro e w2 ⟨rfl, rfl⟩))
      refine ⟨⟨k + 1, by omega, rfl, HV1, hx.trans hx1⟩, ?_⟩
      simp only [intOf]; omega
    · obtain rfl : k = lvN N := by omega
      have hbN := lv_be N hN
      have hgt : decide ((N : Int) > 32 - (beN (lvN N) : Int)) = false := by
        rw [decide_eq_false_iff_not]; omega
      rw [hgt] at ce
      have hv : u5 = .slice (some ⟨b, 0, none⟩) (szN (lvN N)) (szN (lvN N)) := by rw [HV'.out, hb]; rfl
      subst hv
      have ci := fun w => index_any (lvN N) A (szN (lvN N)) hk2 hA (some ⟨b, 0, none⟩) w
      have hc := cnt_ok A N hN hZ
      have hs := sz_le (lvN N)
      have hisz := Nat.mod_lt (plN (lvN N) A) (szN_pos (lvN N))
      rw [← HI.out] at hisz
      rw [← HI.out, ← HC.out] at hc
      rw [← HI.out] at ci
      have hc2 : cn = 2 ^ (32 - beN (lvN N) - N) := HC.out
      generalize szN (lvN N) = sz at *
      obtain ⟨c, hc1, hc3⟩ : ∃ c : Nat, (32 : Int) - (beN (lvN N) : Int) - (N : Int) = (c : Int) ∧ 32 - beN (lvN N) - N = c := ⟨32 - beN (lvN N) - N, by omega, rfl⟩
      have hc4 : c ≤ 32 := by omega
      rw [hc3] at hc2
      obtain ⟨s, hw1, hw2, hle, hle2, HS⟩ := w_all hc2 hc hs
      have hc0 : (0 : Int) ≤ (c : Int) := Int.natCast_nonneg _
      clear hc3 hc2 hc hs
      generalize (beN (lvN N) : Int) = be at *
      go_wp2_with (first | (go_at_call 142; refine (ce _).mono ?_; rintro e w1 ⟨rfl, hx1⟩; obtain ⟨q0', q1'⟩ := HQ.out _ (hx.trans hx1)) | (go_at_call 130; refine (ci _).mono ?_; rintro e w2 ⟨rfl, rfl⟩))
      go_ret
      have e3 : s - i = cn := by rw [HS.out]; exact Nat.add_sub_cancel_left ..
      rw [← e3]
      exact ⟨⟨_, rfl⟩, (hA0.trans hx).trans hx1⟩

set_option maxHeartbeats 2000000 in
theorem shortest_any (A N : Nat) (hN : N ≤ 32) (w : World) :
    Calls Tryz.prog 143 #[.agg #[.int .u32 A, .int .i64 N]] w fun e w' => e = .returned (.int .i64 (loN (lvN N) : Nat)) ∧ Ext w w' := by
  have hA0 : Ext w (w.alloc (.cells #[.int .u32 A, .int .i64 N] 42)) := (Ext.refl w).alloc _
  have hn := heap_new w (.cells #[.int .u32 A, .int .i64 N] 42)
  have hq : ∀ w', Ext (w.alloc (.cells #[.int .u32 A, .int .i64 N] 42)) w' → w'.cell? ⟨w.heap.size, 0, none⟩ = some (.int .u32 A) ∧ w'.cell? ⟨w.heap.size, 1, none⟩ = some (.int .i64 N) := fun w' hx => ⟨by rw [heap_cell (hx.heap hn)]; rfl, by rw [heap_cell (hx.heap hn)]; rfl⟩
  have HQ : Hid _ := hq
  clear hq hn
  generalize hW0 : (w.alloc (.cells #[.int .u32 A, .int .i64 N] 42)) = W0 at *
  go_enter Tryz.func143, Tryz.ntmps143
  go_wp2_with fail
  go_loopw [3, 4] (fun n be wr => ∃ k : Nat, k ≤ lvN N ∧ be = .int .i64 (beN k) ∧ n = .int .i64 (loN k : Nat) ∧ Ext W0 wr) (fun _ be _ => (intOf be).toNat)
  case atStart => exact ⟨0, Nat.zero_le _, rfl, rfl, Ext.refl _⟩
  case round =>
    obtain ⟨k, hk, rfl, rfl, hx⟩ := hrel
    have hk2 : k ≤ 2 := Nat.le_trans hk (lvN_le N)
    obtain ⟨q0, q1⟩ := HQ.out _ hx
    have ce := fun w => ends_any (A : Int) (N : Int) (beN k) w (be_int k hk2).1 (be_int k hk2).2
    by_cases hlt : k < lvN N
    · have hk1 : k ≤ 1 := by have := lvN_le N; omega
      have hgt : decide ((N : Int) > 32 - (beN k : Int)) = true := by
        have := (lvN_lt N k hk1).1 hlt
        have := lo_be k hk2
        rw [decide_eq_true_eq]; omega
      have hb8 := be_next k hk1
      have hb0 := be_int (k + 1) (by omega)
      have hlo : (32 : Int) - (beN k : Int) + 1 = (loN (k + 1) : Int) := by have := lo_be k hk2; omega
      have hlo1 : (32 : Int) - (beN k : Int) = (loN (k + 1) : Int) - 1 := by omega
      have hlo2 : (0 : Int) ≤ (loN (k + 1) : Int) ∧ (loN (k + 1) : Int) ≤ 33 := by omega
      rw [hgt] at ce
      generalize (beN k : Int) = be at *
      go_wp2_with (go_at_call 142; refine (ce _).mono ?_; rintro e w1 ⟨rfl, hx1⟩)
      refine ⟨⟨k + 1, by omega, rfl, by simp, hx.trans hx1⟩, ?_⟩
      simp only [intOf]; omega
    · obtain rfl : k = lvN N := by omega
      have hbN := lv_be N hN
      have hgt : decide ((N : Int) > 32 - (beN (lvN N) : Int)) = false := by
        rw [decide_eq_false_iff_not]; omega
      rw [hgt] at ce
      generalize (beN (lvN N) : Int) = be at *
      go_wp2_with (go_at_call 142; refine (ce _).mono ?_; rintro e w1 ⟨rfl, hx1⟩)
      go_ret
      exact ⟨rfl, (hA0.trans hx).trans hx1⟩
end Go.Proofs.YtkfhkhgiojpfoaaGreat.Dr
