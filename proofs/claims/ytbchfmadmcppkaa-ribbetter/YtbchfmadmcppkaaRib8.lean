/- ofTable, ofPrefix; isUp, best, Best. -/
import Derived.Test.YtbchfmadmcppkaaRib7
import Derived.Test.YtbchfmadmcppkaaRibQ
import Derived.Test.YtbchfmadmcppkaaWhole
namespace Go.Proofs.Ytbchfmadmcppkaa.Rb
set_option maxRecDepth 100000
open Go.RowKit Go.Proofs.Ytbchfmadmcppkaa
set_option linter.unusedVariables false
set_option linter.unusedSimpArgs false

theorem side_table (tb : Nat) (t : Int) (x : Rt) (w : World) (ht : w.heap[tb]? = some (.cells #[.int .i64 t] 3 (0, 0))) :
    Calls Try.prog 50 (#[(.agg #[.int .i64 x.t, .int .u32 x.a, .int .i64 x.l, .int .i64 x.i, .int .u32 x.g, .int .i64 x.m])] ++ #[.pointer (some ⟨tb, 0, none⟩)]) w fun e w' => e = .returned (.int .i64 (cmpI x.t t)) ∧ Ext w w' := by
  have hA : Ext w (w.alloc (.cells #[.int .i64 x.t, .int .u32 x.a, .int .i64 x.l, .int .i64 x.i, .int .u32 x.g, .int .i64 x.m] 27)) := (Ext.refl w).alloc _
  obtain ⟨q0, q1, q2, q3, q4, q5⟩ := box_rtE (heap_new w (.cells #[.int .i64 x.t, .int .u32 x.a, .int .i64 x.l, .int .i64 x.i, .int .u32 x.g, .int .i64 x.m] 27))
  have p0 := q0 _ (Ext.refl _)
  have b0 := box1E ht _ hA
  have k1 := fun w => compare_int x.t t w
  clear q0 q1 q2 q3 q4 q5 ht
  go_enter Try.func50, Try.ntmps50
  go_wp2_with (go_at_call 38; refine (k1 _).mono ?_; rintro e w1 ⟨rfl, hx1⟩)
  go_ret
  exact ⟨rfl, hA.trans hx1⟩

theorem side_prefix (tb : Nat) (a l : Int) (x : Rt) (w : World) (ht : w.heap[tb]? = some (.cells #[.int .u32 a, .int .i64 l] 25 (0, 0))) :
    Calls Try.prog 48 (#[(.agg #[.int .i64 x.t, .int .u32 x.a, .int .i64 x.l, .int .i64 x.i, .int .u32 x.g, .int .i64 x.m])] ++ #[.pointer (some ⟨tb, 0, none⟩)]) w fun e w' => e = .returned (.int .i64 (ordP x.a x.l a l)) ∧ Ext w w' := by
  have hA : Ext w (w.alloc (.cells #[.int .i64 x.t, .int .u32 x.a, .int .i64 x.l, .int .i64 x.i, .int .u32 x.g, .int .i64 x.m] 27)) := (Ext.refl w).alloc _
  obtain ⟨q0, q1, q2, q3, q4, q5⟩ := box_rtE (heap_new w (.cells #[.int .i64 x.t, .int .u32 x.a, .int .i64 x.l, .int .i64 x.i, .int .u32 x.g, .int .i64 x.m] 27))
  have p1 := q1 _ (Ext.refl _)
  have p2 := q2 _ (Ext.refl _)
  obtain ⟨b0, b1⟩ := box2E ht
  have c0 := b0 _ hA
  have c1 := b1 _ hA
  have k1 := fun w => orderPrefix_any x.a x.l a l w
  clear q0 q1 q2 q3 q4 q5 ht b0 b1
  go_enter Try.func48, Try.ntmps48
  go_wp2_with (go_at_call 49; refine (k1 _).mono ?_; rintro e w1 ⟨rfl, hx1⟩)
  go_ret
  exact ⟨rfl, hA.trans hx1⟩

theorem mono_table {L : List Rt} (h : Srt L) (t : Int) : MonoP (fun x => cmpI x.t t) L := by
  refine List.Pairwise.imp (fun {x y} hxy => ?_) h
  rw [ltB_iff] at hxy
  have hle : x.t ≤ y.t := by unfold Lt5 at hxy; omega
  have e1 := cmpI_lt x.t t
  have e2 := cmpI_lt y.t t
  have e3 := cmpI_eq x.t t
  have e4 := cmpI_eq y.t t
  dsimp only
  omega

theorem mono_prefix {L : List Rt} (h : Srt L) (t : Int) (ht : ∀ x ∈ L, x.t = t) (a l : Int) : MonoP (fun x => ordP x.a x.l a l) L := by
  unfold MonoP
  refine List.Pairwise.imp_of_mem (fun {x y} hx hy hxy => ?_) h
  rw [ltB_iff] at hxy
  have hle : x.a < y.a ∨ (x.a = y.a ∧ x.l ≤ y.l) := by
    have := ht x hx
    have := ht y hy
    unfold Lt5 at hxy; omega
  have e1 := ordP_lt x.a x.l a l
  have e2 := ordP_lt y.a y.l a l
  have e3 := ordP_eq x.a x.l a l
  have e4 := ordP_eq y.a y.l a l
  dsimp only
  omega

theorem ofTable_any (p : Option Addr) (n c : Nat) (L : List Rt) (t : Int) (w0 w : World) (hR : Rd w0 p n c L) (h00 : Ext w0 w) (hc : n ≤ c) (hn : n ≤ 1000000) (hs : Srt L) :
    Calls Try.prog 36 #[.slice p n c, .int .i64 t] w (PartAns w0 w (L.filter fun x => decide (x.t = t))) := by
  have hA : Ext w (w.alloc (.cells #[.int .i64 t] 3)) := (Ext.refl w).alloc _
  have hB := heap_new w (.cells #[.int .i64 t] 3)
  have k1 := part_any 50 #[.pointer (some ⟨w.heap.size, 0, none⟩)] p n c L (fun x => cmpI x.t t) w0 (w.alloc (.cells #[.int .i64 t] 3)) enters_t hR (h00.trans hA) hc hn (mono_table hs t) (fun w' hx x => side_table w.heap.size t x w' (hx.heap hB))
  have hf : (fun x : Rt => decide (cmpI x.t t = 0)) = fun x => decide (x.t = t) := by
    funext x
    exact decide_eq_decide.2 (cmpI_eq x.t t)
  rw [hf] at k1
  have hmf : ∀ (fn : Fn) (first cap : Array Value) (w : World), (Instr.makeFunc fn first cap).run Try.prog w = .ok (.func fn first cap) w := fun _ _ _ _ => rfl
  clear hR hs hB hf h00
  go_enter Try.func36, Try.ntmps36
  go_wp2_with (go_at_call 47; refine k1.mono ?_; rintro e w1 ⟨p', n', c', rfl, h1, h2, h3⟩)
  go_ret
  exact ⟨p', n', c', rfl, h1, h2, hA.trans h3⟩

theorem ofPrefix_any (p : Option Addr) (n c : Nat) (L : List Rt) (t a l : Int) (w0 w : World) (hR : Rd w0 p n c L) (h00 : Ext w0 w) (hc : n ≤ c) (hn : n ≤ 1000000) (hs : Srt L) (ht : ∀ x ∈ L, x.t = t) :
    Calls Try.prog 35 #[.slice p n c, .agg #[.int .u32 a, .int .i64 l]] w (PartAns w0 w (L.filter (selB t a l))) := by
  have hA : Ext w (w.alloc (.cells #[.int .u32 a, .int .i64 l] 25)) := (Ext.refl w).alloc _
  have hB := heap_new w (.cells #[.int .u32 a, .int .i64 l] 25)
  have k1 := part_any 48 #[.pointer (some ⟨w.heap.size, 0, none⟩)] p n c L (fun x => ordP x.a x.l a l) w0 (w.alloc (.cells #[.int .u32 a, .int .i64 l] 25)) enters_p hR (h00.trans hA) hc hn (mono_prefix hs t ht a l) (fun w' hx x => side_prefix w.heap.size a l x w' (hx.heap hB))
  have hf : L.filter (fun x : Rt => decide (ordP x.a x.l a l = 0)) = L.filter (selB t a l) := by
    refine List.filter_congr fun x hx => ?_
    have h1 := ordP_eq x.a x.l a l
    have h2 := ht x hx
    unfold selB
    by_cases h : x.a = a ∧ x.l = l
    · simp [h2, h.1, h.2, ordP_eq]
    · have : ¬ ordP x.a x.l a l = 0 := fun e => h (h1.1 e)
      simp only [this, decide_false, h2, decide_true, Bool.true_and]
      symm
      rw [Bool.and_eq_false_iff]
      by_cases h3 : x.a = a
      · exact .inr (by simpa using fun e => h ⟨h3, e⟩)
      · exact .inl (by simpa using h3)
  rw [hf] at k1
  have hmf : ∀ (fn : Fn) (first cap : Array Value) (w : World), (Instr.makeFunc fn first cap).run Try.prog w = .ok (.func fn first cap) w := fun _ _ _ _ => rfl
  clear hR hs hB hf ht h00
  go_enter Try.func35, Try.ntmps35
  go_wp2_with (go_at_call 47; refine k1.mono ?_; rintro e w1 ⟨p', n', c', rfl, h1, h2, h3⟩)
  go_ret
  exact ⟨p', n', c', rfl, h1, h2, hA.trans h3⟩

/-- The slice (q, m) tells which interfaces are up. -/
structure Ups (w : World) (q : Option Addr) (m : Nat) (U : List Bool) : Prop where
  len : U.length = m
  small : m ≤ 1000000
  cells : m = 0 ∨ ∃ b off, q = some ⟨b, off, none⟩ ∧ ∀ (j : Nat) (u : Bool), U[j]? = some u → w.cell? ⟨b, off + j, none⟩ = some (.bool u)

theorem Ups.ext {w w' : World} {q : Option Addr} {m : Nat} {U : List Bool} (h : Ups w q m U) (hx : Ext w w') : Ups w' q m U := by
  refine ⟨h.len, h.small, ?_⟩
  rcases h.cells with h0 | ⟨b, off, rfl, hc⟩
  · exact .inl h0
  · exact .inr ⟨b, off, rfl, fun j u hj => by rw [hx.below.cell (p := ⟨b, off + j, none⟩) (block_lt (hc j u hj))]; exact hc j u hj⟩

theorem isUp_any (x : Rt) (q : Option Addr) (m d : Nat) (U : List Bool) (w : World) (hU : Ups w q m U) (h0 : 0 ≤ x.i) :
    Calls Try.prog 46 #[(.agg #[.int .i64 x.t, .int .u32 x.a, .int .i64 x.l, .int .i64 x.i, .int .u32 x.g, .int .i64 x.m]), .slice q m d] w fun e w' => e = .returned (.bool (upB U x.i)) ∧ Ext w w' := by
  have hA : Ext w (w.alloc (.cells #[.int .i64 x.t, .int .u32 x.a, .int .i64 x.l, .int .i64 x.i, .int .u32 x.g, .int .i64 x.m] 27)) := (Ext.refl w).alloc _
  obtain ⟨q0, q1, q2, q3, q4, q5⟩ := box_rtE (heap_new w (.cells #[.int .i64 x.t, .int .u32 x.a, .int .i64 x.l, .int .i64 x.i, .int .u32 x.g, .int .i64 x.m] 27))
  have p3 := q3 _ (Ext.refl _)
  have hl := hU.len
  clear q0 q1 q2 q3 q4 q5
  by_cases hlt : x.i < (m : Int)
  · have hn : x.i.toNat < U.length := by omega
    obtain ⟨u, hu⟩ : ∃ u, U[x.i.toNat]? = some u := ⟨_, List.getElem?_eq_getElem hn⟩
    have he : upB U x.i = u := by unfold upB; simp [h0, hu]
    rcases hU.cells with e | ⟨b, off, rfl, hc⟩
    · omega
    · have hcu : (w.alloc (.cells #[.int .i64 x.t, .int .u32 x.a, .int .i64 x.l, .int .i64 x.i, .int .u32 x.g, .int .i64 x.m] 27)).cell? ⟨b, off + x.i.toNat, none⟩ = some (.bool u) := by rw [hA.below.cell (p := ⟨b, off + x.i.toNat, none⟩) (block_lt (hc _ u hu))]; exact hc _ u hu
      rw [he]
      clear hc hu he hU hl hn
      go_enter Try.func46, Try.ntmps46
      go_wp2_with fail
      go_ret
      exact ⟨rfl, hA⟩
  · have he : upB U x.i = false := by
      unfold upB
      rw [List.getElem?_eq_none (by omega)]
      simp
    rw [he]
    clear hU hl he
    go_enter Try.func46, Try.ntmps46
    go_wp2_with fail
    go_ret
    exact ⟨rfl, hA⟩
end Go.Proofs.Ytbchfmadmcppkaa.Rb
