/- sync.Once in package dir: begin, doSlow, Do. -/
import Derived.Test.YtlnmdlachfnmkaaDir1
import Derived.Defers
import Derived.Laws.LoneSync
import Derived.RegionCalls
import Derived.Laws.MakeOwn
namespace Go.Proofs.Ytlnmdlachfnmkaa.Dr
set_option maxRecDepth 100000
open Go.RowKit Go.Proofs.Ytlnmdlachfnmkaa Go.Proofs.Ytlnmdlachfnmkaa.Tri
set_option linter.unusedVariables false

/-- A Dir's block. -/
def dirO (mo ow mp dn st sm fi : Value) : Obj := .cells #[mo, ow, mp, dn, st, sm, fi] 73 (0, 0)

/-- What begin leaves: a map of none, a table of places without paint. -/
def Begun (w0 w : World) (m g : Nat) : Prop := w0.heap.size ≤ m ∧ w0.heap.size ≤ g ∧ MapAt w m [] ∧ TabAt w g 65536 82 (fun _ => none) (fun _ => none)

theorem made_tab {w : World} {g n : Nat} {t : TypeId} (h : w.heap[g]? = some (.cells (madeCells #[.pointer none, .pointer none] (n * 2)) t (0, 0))) : TabAt w g n t (fun _ => none) (fun _ => none) := by
  refine ⟨_, h, size_madeCells _ _, fun i hi => ⟨?_, ?_⟩⟩
  · simp only [madeCells, Array.getElem?_map, Array.getElem?_range]
    rw [if_pos (by omega)]
    simp [ptV, Nat.mul_mod_left]
  · simp only [madeCells, Array.getElem?_map, Array.getElem?_range]
    rw [if_pos (by omega)]
    have : (i * 2 + 1) % 2 = 1 := by omega
    simp [ptV, this]

theorem info_place : (Try.prog.info? 82).map (fun i => (i.zero, i.size, i.bytes)) = some (some (.agg #[.pointer none, .pointer none]), 2, 16) := by kernel_rfl

theorem made_run (w : World) : (Instr.makeSlice 71 (.int .i64 65536) (.int .i64 65536)).run Try.prog w = .ok (.slice (some ⟨w.heap.size, 0, none⟩) 65536 65536) (w.alloc (.cells (madeCells #[.pointer none, .pointer none] (65536 * 2)) 82)) := by
  obtain ⟨i0, hi0, hz0, hz1, hz2⟩ := info_parts info_place
  have h := run_make (P := Try.prog) w 71 82 i0 _ Try.underlying71 hi0 hz0 .i64 .i64 65536 65536 (by omega) (by omega) (by rw [hz2]; decide) (by omega)
  rw [hz1, show (65536 : Int).toNat = 65536 from rfl] at h
  exact h

set_option maxHeartbeats 1000000 in
theorem begin_any (db : Nat) (mo ow dn st sm : Value) (w : World) (h : w.heap[db]? = some (dirO mo ow (.map none) dn st sm (.slice none 0 0))) :
    Calls Try.prog 34 #[.pointer (some ⟨db, 0, none⟩)] w fun e w' => e = .returned (.tuple #[]) ∧ ∃ m g, w'.heap[db]? = some (dirO mo ow (.map (some m)) dn st sm (.slice (some ⟨g, 0, none⟩) 65536 65536)) ∧ Begun w w' m g ∧ ExtS [db] w w' := by
  have hdb := heap_lt h
  have hmm := @run_makeMap Try.prog
  have hms : ∀ w : World, (Instr.makeSlice 71 (.int .i64 65536) (.int .i64 65536)).run Try.prog w = .ok (.slice (some ⟨w.heap.size, 0, none⟩) 65536 65536) (w.alloc (.cells (madeCells #[.pointer none, .pointer none] (65536 * 2)) 82)) := fun w =>
    made_run w
  obtain ⟨zt, hzt⟩ : ∃ zt, zt = madeCells #[.pointer none, .pointer none] (65536 * 2) := ⟨_, rfl⟩
  rw [← hzt] at hms
  have c2 : w.cell? ⟨db, 2, none⟩ = some (.map none) := by rw [heap_cell h]; rfl
  have c6 : w.cell? ⟨db, 6, none⟩ = some (.slice none 0 0) := by rw [heap_cell h]; rfl
  have f2 : ∀ k, w.frozen? ⟨db, k, none⟩ = false := fun k => heap_frozen h
  go_enter Try.func34, Try.ntmps34
  go_wp2_with fail
  go_end0
  have s1 : ∀ u v : Value, ((w.setCell ⟨db, 2, none⟩ u).setCell ⟨db, 6, none⟩ v).heap.size = w.heap.size := fun u v => by simp [World.setCell]
  have h1 := heap_set (heap_set (k := 2) h (.map (some w.heap.size))) (k := 6) (.slice (some ⟨w.heap.size + 1, 0, none⟩) 65536 65536)
  have hs := s1 (.map (some w.heap.size)) (.slice (some ⟨w.heap.size + 1, 0, none⟩) 65536 65536)
  have hx0 : ExtS [db] w ((w.setCell ⟨db, 2, none⟩ (.map (some w.heap.size))).setCell ⟨db, 6, none⟩ (.slice (some ⟨w.heap.size + 1, 0, none⟩) 65536 65536)) := ((ExtS.refl _ _).setCell (.inl (by simp)) _).setCell (.inl (by simp)) _
  generalize ((w.setCell ⟨db, 2, none⟩ (.map (some w.heap.size))).setCell ⟨db, 6, none⟩ (.slice (some ⟨w.heap.size + 1, 0, none⟩) 65536 65536)) = W at *
  have hm := heap_alloc_new W (.map #[] 0)
  have hx1 : Ext W (W.alloc (.map #[] 0)) := (Ext.refl W).alloc _
  have hx2 := (Ext.refl (W.alloc (.map #[] 0))).alloc (.cells (madeCells #[.pointer none, .pointer none] 131072) 82)
  have hg := heap_alloc_new (W.alloc (.map #[] 0)) (.cells (madeCells #[.pointer none, .pointer none] 131072) 82)
  rw [show (W.alloc (.map #[] 0)).heap.size = W.heap.size + 1 by simp, hs] at hg
  rw [hs] at hm
  exact ⟨rfl, w.heap.size, w.heap.size + 1, (hx1.trans hx2).heap h1, ⟨Nat.le_refl _, by omega, ⟨_, _, hx2.heap hm, rfl⟩, made_tab (n := 65536) hg⟩, (hx0.alloc _).alloc _⟩

theorem disable (w : World) : (callFunc 62 #[]).run Try.prog w = .ok (.value (.tuple #[])) w := run_call_mark0 Try.func62 (by kernel_rfl) (by kernel_rfl) (by kernel_rfl) .disable (by kernel_rfl) w

theorem enable (w : World) : (callFunc 64 #[]).run Try.prog w = .ok (.value (.tuple #[])) w := run_call_mark0 Try.func64 (by kernel_rfl) (by kernel_rfl) (by kernel_rfl) .enable (by kernel_rfl) w

theorem acquire (a : Addr) (w : World) : (callFunc 65 #[.pointer (some a)]).run Try.prog w = .ok (.value (.tuple #[])) w := run_call_marked Try.func65 (by kernel_rfl) (by kernel_rfl) (by kernel_rfl) .acquire (by kernel_rfl) a w

theorem releaseMerge (a : Addr) (w : World) : (callFunc 67 #[.pointer (some a)]).run Try.prog w = .ok (.value (.tuple #[])) w := run_call_marked Try.func67 (by kernel_rfl) (by kernel_rfl) (by kernel_rfl) .releaseMerge (by kernel_rfl) a w

theorem store_deferred (a : Addr) (x : Value) (u : FrameMode) (w : World) (hc : w.cell? a = some x) (hz : w.frozen? a = false) :
    CallsD Try.prog 57 #[.pointer (some a), .bool true] u w fun e u' w' => u' = u ∧ (e = .returned (.tuple #[]) ∧ w' = w.drew.setCell a (.int .u32 1)) := by
  have hc' : w.drew.cell? a = some x := by go_simp
  have hz' : w.drew.frozen? a = false := by go_simp
  have hst := run_call_store (P := Try.prog) Try.func60 (by kernel_rfl) (by kernel_rfl) (by kernel_rfl) (by kernel_rfl) (k := .u32) (y := 1) hc' hz'
  go_enter_d Try.func57, Try.ntmps57
  go_wp2
  go_region_calls
  all_goals (go_end0; exact ⟨rfl, rfl⟩)

theorem unlock_deferred (a : Addr) (u : FrameMode) (w : World) (hc : w.cell? a = some (.int .i32 1)) (hz : w.frozen? a = false) :
    CallsD Try.prog 56 #[.pointer (some a)] u w fun e u' w' => u' = u ∧ (e = .returned (.tuple #[]) ∧ w' = w.setCell a (.int .i32 0)) := by
  have hd := disable
  have he := enable
  have hr := releaseMerge
  have hadd := run_call_add (P := Try.prog) Try.func68 (by kernel_rfl) (by kernel_rfl) (by kernel_rfl) .i32 (by kernel_rfl) (y := -1) (s := 0) hc hz (by simp [go_sem]; rfl)
  have hcv := run_convert_to_unsafe (P := Try.prog) (src := 111) (dst := 115) Try.underlying111 Try.underlying115 (by kernel_rfl) hc
  go_enter_d Try.func56, Try.ntmps56
  go_wp2
  go_end0
  go_wp2
  go_end0
  exact ⟨rfl, rfl⟩

theorem lock_free (a : Addr) (w : World) (hc : w.cell? a = some (.int .i32 0)) (hz : w.frozen? a = false) :
    Calls Try.prog 55 #[.pointer (some a)] w fun e w' => e = .returned (.tuple #[]) ∧ w' = w.setCell a (.int .i32 1) := by
  have hd := disable
  have he := enable
  have ha := acquire
  have hcas := run_call_cas_hit (P := Try.prog) Try.func63 (by kernel_rfl) (by kernel_rfl) (by kernel_rfl) .i32 (by kernel_rfl) (y := 1) hc hz
  have hc' : (w.setCell a (.int .i32 1)).cell? a = some (.int .i32 1) := World.cell?_setCell_same w a _ hc
  have hcv := run_convert_to_unsafe (P := Try.prog) (src := 111) (dst := 115) Try.underlying111 Try.underlying115 (by kernel_rfl) hc'
  go_enter Try.func55, Try.ntmps55
  go_wp2
  first | go_end0 | (simp only [Exit.inBlock, Exit.then]; refine bodyPost_ret (results_none rfl _ _ _) rfl ?_) | refine bodyPost_ret (results_none rfl _ _ _) rfl ?_
  go_wp2
  go_end0
  exact ⟨rfl, rfl⟩

theorem done_no (a : Addr) (w : World) (hc : w.cell? a = some (.int .u32 0)) : Calls Try.prog 48 #[.pointer (some a)] w fun e w' => e = .returned (.bool false) ∧ w' = w := by
  have hl := run_call_load (P := Try.prog) Try.func54 (by kernel_rfl) (by kernel_rfl) (by kernel_rfl) .u32 (by kernel_rfl) hc
  go_enter Try.func48, Try.ntmps48
  go_wp2_with fail
  go_ret
  exact ⟨rfl, rfl⟩

theorem done_yes (a : Addr) (w : World) (hc : w.cell? a = some (.int .u32 1)) : Calls Try.prog 48 #[.pointer (some a)] w fun e w' => e = .returned (.bool true) ∧ w' = w := by
  have hl := run_call_load (P := Try.prog) Try.func54 (by kernel_rfl) (by kernel_rfl) (by kernel_rfl) .u32 (by kernel_rfl) hc
  go_enter Try.func48, Try.ntmps48
  go_wp2_with fail
  go_ret
  exact ⟨rfl, rfl⟩

set_option maxHeartbeats 1600000 in
theorem slow_any (db : Nat) (mo ow : Value) (w : World) (h : w.heap[db]? = some (dirO mo ow (.map none) (.int .u32 0) (.int .i32 0) (.int .u32 0) (.slice none 0 0))) :
    Calls Try.prog 49 #[.pointer (some ⟨db, 3, none⟩), .func (.func 34) #[.pointer (some ⟨db, 0, none⟩)] #[]] w fun e w' => e = .returned (.tuple #[]) ∧
      ∃ m g, w'.heap[db]? = some (dirO mo ow (.map (some m)) (.int .u32 1) (.int .i32 0) (.int .u32 0) (.slice (some ⟨g, 0, none⟩) 65536 65536)) ∧ Begun w w' m g ∧ ExtS [db] w w' := by
  have h4 : w.cell? ⟨db, 4, none⟩ = some (.int .i32 0) := by rw [heap_cell h]; rfl
  have h4f : ∀ k, w.frozen? ⟨db, k, none⟩ = false := fun k => heap_frozen h
  have h1 := heap_set (k := 4) h (.int .i32 1)
  have hx1 : ExtS [db] w (w.setCell ⟨db, 4, none⟩ (.int .i32 1)) := (ExtS.refl _ _).setCell (.inl (by simp)) _
  have hs1 : (w.setCell ⟨db, 4, none⟩ (.int .i32 1)).heap.size = w.heap.size := by simp [World.setCell]
  have hl := done_no ⟨db, 3, none⟩ (w.setCell ⟨db, 4, none⟩ (.int .i32 1)) (by rw [heap_cell h1]; rfl)
  have hb := begin_any db mo ow (.int .u32 0) (.int .i32 1) (.int .u32 0) (w.setCell ⟨db, 4, none⟩ (.int .i32 1)) h1
  have hnot : ∀ (x : Bool) (w : World), (Op.unary .not (.bool x)).run Try.prog w = .ok (.bool (!x)) w := fun _ _ => rfl
  have hlock := lock_free ⟨db, 4, none⟩ w h4 (h4f 4)
  have H : Hid _ := h
  clear h
  generalize hW1 : (w.setCell ⟨db, 4, none⟩ (.int .i32 1)) = W1 at *
  clear hW1 h1
  go_enter_defers Try.func49, Try.ntmps49
  go_wp2_with (first | (go_at_call 55; refine hlock.mono ?_; rintro e w' ⟨rfl, rfl⟩) | (go_at_call 48; refine hl.mono ?_; rintro e w' ⟨rfl, rfl⟩) | (go_at_call 34; refine hb.mono ?_; rintro e w' ⟨rfl, m, g, k1, k2, k3⟩))
  refine leaves_cons (f := 57) (args := #[.pointer (some ⟨db, 3, none⟩), .bool true]) (by simp) (by simp [go_sem]) ?_
  refine (store_deferred ⟨db, 3, none⟩ (.int .u32 0) .returning _ (by rw [heap_cell k1]; rfl) (heap_frozen k1)).mono ?_
  rintro e u' w'' ⟨rfl, rfl, rfl⟩
  have k4 : (w'.drew.setCell ⟨db, 3, none⟩ (.int .u32 1)).heap[db]? = some (dirO mo ow (.map (some m)) (.int .u32 1) (.int .i32 1) (.int .u32 0) (.slice (some ⟨g, 0, none⟩) 65536 65536)) := heap_set (w := w'.drew) (k := 3) k1 _
  have x4 : ExtS [db] w' (w'.drew.setCell ⟨db, 3, none⟩ (.int .u32 1)) := ((ExtS.refl [db] w').drew).setCell (.inl (by simp)) _
  generalize (w'.drew.setCell ⟨db, 3, none⟩ (.int .u32 1)) = W4 at *
  refine leaves_cons (f := 56) (args := #[.pointer (some ⟨db, 4, none⟩)]) (by simp [settle]) (by simp [go_sem]) ?_
  refine (unlock_deferred ⟨db, 4, none⟩ _ _ (by rw [heap_cell k4]; rfl) (heap_frozen k4)).mono ?_
  rintro e u' w'' ⟨rfl, rfl, rfl⟩
  have k5 : (W4.setCell ⟨db, 4, none⟩ (.int .i32 0)).heap[db]? = some (dirO mo ow (.map (some m)) (.int .u32 1) (.int .i32 0) (.int .u32 0) (.slice (some ⟨g, 0, none⟩) 65536 65536)) := heap_set (k := 4) k4 _
  have x5 : ExtS [db] w' (W4.setCell ⟨db, 4, none⟩ (.int .i32 0)) := x4.setCell (.inl (by simp)) _
  have hlt := heap_lt H.out
  have kB : Begun w (W4.setCell ⟨db, 4, none⟩ (.int .i32 0)) m g := by
    obtain ⟨b1, b2, b3, b4⟩ := k2
    refine ⟨by omega, by omega, b3.later x5 ?_, b4.later x5 ?_⟩
    · simp; omega
    · simp; omega
  have kX : ExtS [db] w (W4.setCell ⟨db, 4, none⟩ (.int .i32 0)) := (hx1.trans k3).trans x5
  generalize (W4.setCell ⟨db, 4, none⟩ (.int .i32 0)) = W5 at *
  exact ⟨_, results_none rfl _ _ _, rfl, m, g, k5, kB, kX⟩

theorem do_first (db : Nat) (mo ow : Value) (w : World) (h : w.heap[db]? = some (dirO mo ow (.map none) (.int .u32 0) (.int .i32 0) (.int .u32 0) (.slice none 0 0))) :
    Calls Try.prog 33 #[.pointer (some ⟨db, 3, none⟩), .func (.func 34) #[.pointer (some ⟨db, 0, none⟩)] #[]] w fun e w' => e = .returned (.tuple #[]) ∧
      ∃ m g, w'.heap[db]? = some (dirO mo ow (.map (some m)) (.int .u32 1) (.int .i32 0) (.int .u32 0) (.slice (some ⟨g, 0, none⟩) 65536 65536)) ∧ Begun w w' m g ∧ ExtS [db] w w' := by
  have hl := done_no ⟨db, 3, none⟩ w (by rw [heap_cell h]; rfl)
  have hs := slow_any db mo ow w h
  have hnot : ∀ (x : Bool) (w : World), (Op.unary .not (.bool x)).run Try.prog w = .ok (.bool (!x)) w := fun _ _ => rfl
  go_enter Try.func33, Try.ntmps33
  go_wp2_with (first | (go_at_call 48; refine hl.mono ?_; rintro e w' ⟨rfl, rfl⟩) | (go_at_call 49; refine hs.mono ?_; rintro e w' ⟨rfl, m, g, k1, k2, k3⟩))
  go_end0
  exact ⟨rfl, m, g, k1, k2, k3⟩

theorem do_done (db : Nat) (fv mo ow mp st sm fi : Value) (w : World) (h : w.heap[db]? = some (dirO mo ow mp (.int .u32 1) st sm fi)) :
    Calls Try.prog 33 #[.pointer (some ⟨db, 3, none⟩), fv] w fun e w' => e = .returned (.tuple #[]) ∧ w' = w := by
  have hl := done_yes ⟨db, 3, none⟩ w (by rw [heap_cell h]; rfl)
  have hnot : ∀ (x : Bool) (w : World), (Op.unary .not (.bool x)).run Try.prog w = .ok (.bool (!x)) w := fun _ _ => rfl
  go_enter Try.func33, Try.ntmps33
  go_wp2_with (first | (go_at_call 48; refine hl.mono ?_; rintro e w' ⟨rfl, rfl⟩))
  go_end0
  exact ⟨rfl, rfl⟩
end Go.Proofs.Ytlnmdlachfnmkaa.Dr
