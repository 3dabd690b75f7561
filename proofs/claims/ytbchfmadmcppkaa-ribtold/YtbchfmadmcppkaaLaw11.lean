/- What the laws of chapter 11 stand on: == of ways, routes, known; scripts, played. -/
import Derived.Test.YtbchfmadmcppkaaRefD
import Derived.Test.YtbchfmadmcppkaaRowG
namespace Go.Proofs.Ytbchfmadmcppkaa.Rb
set_option maxRecDepth 100000
open Go.RowKit Go.Proofs.Ytbchfmadmcppkaa
set_option linter.unusedVariables false
set_option linter.unusedSimpArgs false

theorem ExtS.toN {F : List Nat} {N : Nat} {A B : World} (h : ExtS F A B) (hF : ∀ y ∈ F, N ≤ y) : ExtN N A B :=
  ⟨h.os, h.tape, h.output, h.size, fun k hk hx => h.block k hx (fun e => by have := hF k e; omega)⟩

def eqB (x y : Rt) : Bool := x.t == y.t && ((x.a == y.a && x.l == y.l) && (x.i == y.i && (x.g == y.g && x.m == y.m)))

theorem eqB_refl (x : Rt) : eqB x x = true := by simp [eqB]

theorem eqB_iff (x y : Rt) : eqB x y = true ↔ x = y := by
  obtain ⟨a0, a1, a2, a3, a4, a5⟩ := x
  obtain ⟨b0, b1, b2, b3, b4, b5⟩ := y
  simp [eqB, and_assoc]

theorem rt_guard : Try.prog.eqGuardType Try.prog.depth 27 = false := by kernel_rfl

theorem equalIn_px (a n b m : Int) (w : World) : (Op.equalIn 9999 25 (.agg #[.int .u32 a, .int .i64 n]) (.agg #[.int .u32 b, .int .i64 m])).run Try.prog w = .ok (a == b && n == m) w := by
  rw [run_equalIn_agg w 9998 25 _ _ (by kernel_rfl) (by kernel_rfl)]
  have hf : (Try.prog.fieldsOf 25).toList.map (fun f => (f.name == "_", f.type, f.offset)) = [(false, 23, 0), (false, 3, 1)] := by kernel_rfl
  generalize (Try.prog.fieldsOf 25).toList = l at hf
  rcases l with _ | ⟨f0, _ | ⟨f1, _ | ⟨f2, r⟩⟩⟩
  · simp at hf
  · simp at hf
  · simp only [List.map_cons, List.map_nil, List.cons.injEq, Prod.mk.injEq, and_true, beq_eq_false_iff_ne, ne_eq] at hf
    obtain ⟨⟨p0, t0, o0⟩, p1, t1, o1⟩ := hf
    simp only [Op.eqFields, ne_eq, p0, p1, not_false_eq_true, if_true, t0, t1, o0, o1]
    go_simp
    by_cases h1 : a = b <;> by_cases h2 : n = m <;> simp [h1, h2]
  · simp at hf

theorem equalIn_rt (x y : Rt) (w : World) : (Op.equalIn 10000 27 (.agg #[.int .i64 x.t, .int .u32 x.a, .int .i64 x.l, .int .i64 x.i, .int .u32 x.g, .int .i64 x.m]) (.agg #[.int .i64 y.t, .int .u32 y.a, .int .i64 y.l, .int .i64 y.i, .int .u32 y.g, .int .i64 y.m])).run Try.prog w = .ok (eqB x y) w := by
  have ep := fun w => equalIn_px x.a x.l y.a y.l w
  unfold eqB
  rw [run_equalIn_agg w 9999 27 _ _ (by kernel_rfl) (by kernel_rfl)]
  have hf : (Try.prog.fieldsOf 27).toList.map (fun f => (f.name == "_", f.type, f.offset)) = [(false, 3, 0), (false, 25, 1), (false, 3, 3), (false, 23, 4), (false, 3, 5)] := by kernel_rfl
  generalize (Try.prog.fieldsOf 27).toList = l at hf
  rcases l with _ | ⟨f0, _ | ⟨f1, _ | ⟨f2, _ | ⟨f3, _ | ⟨f4, _ | ⟨f5, r⟩⟩⟩⟩⟩⟩
  · simp at hf
  · simp at hf
  · simp at hf
  · simp at hf
  · simp at hf
  · simp only [List.map_cons, List.map_nil, List.cons.injEq, Prod.mk.injEq, and_true, beq_eq_false_iff_ne, ne_eq] at hf
    obtain ⟨⟨p0, t0, o0⟩, ⟨p1, t1, o1⟩, ⟨p2, t2, o2⟩, ⟨p3, t3, o3⟩, p4, t4, o4⟩ := hf
    simp only [Op.eqFields, ne_eq, p0, p1, p2, p3, p4, not_false_eq_true, if_true, t0, t1, t2, t3, t4, o0, o1, o2, o3, o4]
    generalize (x.a == y.a && x.l == y.l) = b at *
    go_simp
    cases b <;> by_cases h0 : x.t = y.t <;> by_cases h2 : x.i = y.i <;> by_cases h3 : x.g = y.g <;> by_cases h4 : x.m = y.m <;> simp [h0, h2, h3, h4]
  · simp at hf

theorem eql_rt (x y : Rt) (w : World) : (binOp .eql 27 (.agg #[.int .i64 x.t, .int .u32 x.a, .int .i64 x.l, .int .i64 x.i, .int .u32 x.g, .int .i64 x.m]) (.agg #[.int .i64 y.t, .int .u32 y.a, .int .i64 y.l, .int .i64 y.i, .int .u32 y.g, .int .i64 y.m])).run Try.prog w = .ok (.bool (eqB x y)) w := by
  rw [run_eql_struct, equalIn_rt]; rfl

theorem neq_rt (x y : Rt) (w : World) : (binOp .neq 27 (.agg #[.int .i64 x.t, .int .u32 x.a, .int .i64 x.l, .int .i64 x.i, .int .u32 x.g, .int .i64 x.m]) (.agg #[.int .i64 y.t, .int .u32 y.a, .int .i64 y.l, .int .i64 y.i, .int .u32 y.g, .int .i64 y.m])).run Try.prog w = .ok (.bool (!eqB x y)) w := by
  rw [run_neq_struct, equalIn_rt]; rfl

set_option maxHeartbeats 1000000 in
/-- Two rows of the same ways. -/
theorem routes_same (p p' : Option Addr) (n n' c c' : Nat) (L : List Rt) (w : World) (hR : Rd w p n c L) (hR' : Rd w p' n' c' L) (hn : n ≤ 1000000) :
    Calls Try.prog 12 #[.slice p n c, .slice p' n' c'] w fun e w' => e = .returned (.bool true) ∧ Ext w w' := by
  have hl := hR.len
  have hl' := hR'.len
  obtain rfl : n = n' := by omega
  have HR : Hid (Rd w p n c L ∧ Rd w p' n c' L) := ⟨hR, hR'⟩
  have HL : Hid (L.length = n) := hl
  have nr := fun x w => neq_rt x x w
  simp only [eqB_refl, Bool.not_true] at nr
  have eg := rt_guard
  clear hR hR' hl hl'
  go_enter Try.func12, Try.ntmps12
  go_wp2_with fail
  go_loopw [5] (fun i wr => ∃ k : Nat, k ≤ n ∧ i = .int .i64 k ∧ Ext w wr) (fun i _ => n - (intOf i).toNat)
  case atStart => exact ⟨0, Nat.zero_le _, rfl, Ext.refl _⟩
  case round =>
    obtain ⟨k, hk, rfl, hx⟩ := hrel
    by_cases hlt : k < n
    · obtain ⟨x, hxk⟩ : ∃ x, L[k]? = some x := ⟨_, List.getElem?_eq_getElem (by rw [HL.out]; exact hlt)⟩
      obtain ⟨b, off, hp, hb, g0, g1, g2, g3, g4, g5⟩ := (HR.out.1.ext hx).cell hxk
      obtain ⟨b', off', hp', hb', f0, f1, f2, f3, f4, f5⟩ := (HR.out.2.ext hx).cell hxk
      subst hp hp'
      have hki : (k : Int) < (n : Int) := by omega
      have nx := fun w => nr x w
      clear nr hxk
      have hd : Ext wr wr.drew := (Ext.refl wr).drew
      have ha : ∀ j u, wr.cell? ⟨b, j, none⟩ = some u → ∀ w', Ext wr.drew w' → w'.cell? ⟨b, j, none⟩ = some u := fun j u h w' h' => by rw [(hd.trans h').below.cell (p := ⟨b, j, none⟩) hb]; exact h
      have hc : ∀ j u, wr.cell? ⟨b', j, none⟩ = some u → ∀ w', Ext wr.drew w' → w'.cell? ⟨b', j, none⟩ = some u := fun j u h w' h' => by rw [(hd.trans h').below.cell (p := ⟨b', j, none⟩) hb']; exact h
      have x0 := ha _ _ g0
      have x1 := ha _ _ g1
      have x2 := ha _ _ g2
      have x3 := ha _ _ g3
      have x4 := ha _ _ g4
      have x5 := ha _ _ g5
      have y0 := hc _ _ f0
      have y1 := hc _ _ f1
      have y2 := hc _ _ f2
      have y3 := hc _ _ f3
      have y4 := hc _ _ f4
      have y5 := hc _ _ f5
      clear ha hc g0 g1 g2 g3 g4 g5 f0 f1 f2 f3 f4 f5
      go_wp2_with fail
      refine wp_region_eager [(0, false), (1, false), (2, false), (3, false), (4, false), (5, false), (6, false), (7, false), (8, false)] (by kernel_rfl) (by kernel_rfl) rfl (by kernel_rfl) (fun _ _ _ _ _ h => h) ?_
      have hxd := hx.drew
      generalize wr.drew = W at *
      iterate 9 (refine wpE_read (v := ?_) rfl (by rfl) ?_ ?_; rotate_left; (focus (intro w' hx; go_simp; first | done | with_reducible rfl)); simp only [Act.put, List.setIfInBounds_toArray, List.set_cons_zero, List.set_cons_succ])
      refine wpE_done ?_
      go_wp2_with fail
      go_roundw
      case rel => exact ⟨k + 1, by omega, by go_num, hxd⟩
      case measure => simp [intOf]; omega
    · obtain rfl : k = n := by omega
      go_wp2_with fail
      go_ret
      exact ⟨rfl, hx⟩

theorem own_rd {w : World} {B : Nat} {v : Value} {L : List Rt} (h : OwnR w B v L) : ∃ p c, v = .slice p L.length c ∧ Rd w p L.length c L := by
  obtain ⟨p, c, hv, -, -, hR⟩ := h.slice
  exact ⟨p, c, hv, hR⟩

/-- A Rib that is changed, seen from where it is the call's own. -/
theorem RibAns.own {ty : TypeId} {w0 w w' : World} {rb : Nat} {F : List Nat} {L' : List Rt} (h : RibAns ty w rb F L' w') (hx : Ext w0 w) (hF : ∀ x ∈ F, w0.heap.size ≤ x) : ∃ F', RibAt ty w' rb L' F' ∧ Ext w0 w' ∧ (∀ x ∈ F', w0.heap.size ≤ x) ∧ ExtS F w w' ∧ ∀ x ∈ F', x ∈ F ∨ w.heap.size ≤ x := by
  obtain ⟨F', h1, h2, h3⟩ := h
  refine ⟨F', h1, ?_, fun x hx' => ?_, h2, h3⟩
  · exact ExtS.ext (ExtS.then (hx.toS F) h2 fun b hb => .inl hb) hF
  · rcases h3 x hx' with h | h
    · exact hF x h
    · exact Nat.le_trans hx.size h

def r1 : Rt := ⟨0, 0, 0, 0, 0, 5⟩

def r2 : Rt := ⟨0, 0, 0, 1, 0, 3⟩

theorem good1 : Good [r1] := by
  have := Good.nil.add (r := r1) ⟨by decide, by decide, by decide, by decide, by decide, by decide, by decide, by decide, by decide, by decide, by decide, by decide⟩
  exact this

theorem ups_two {w : World} {g : Nat} (h : w.heap[g]? = some (.cells #[.bool true, .bool true] 4 (0, 0))) : Ups w (some ⟨g, 0, none⟩) 2 [true, true] :=
  ⟨rfl, by omega, .inr ⟨g, 0, rfl, fun j u hj => by
    rw [heap_cell h, Nat.zero_add]
    match j, hj with
    | 0, hj => cases hj; rfl
    | 1, hj => cases hj; rfl
    | j + 2, hj => simp at hj⟩⟩

set_option maxHeartbeats 1000000 in
theorem known_any (w : World) : Calls Try.prog 16 #[] w fun e w' => e = .returned (.bool true) ∧ Ext w w' := by
  have k0 := fun w => new_any w
  have kA := fun w rb F h => add_any rb [] F r1 w h Good.nil ⟨by decide, by decide, by decide, by decide, by decide, by decide, by decide, by decide, by decide, by decide, by decide, by decide⟩
  have kB := fun w rb F h => add_any rb [r1] F r2 w h good1 ⟨by decide, by decide, by decide, by decide, by decide, by decide, by decide, by decide, by decide, by decide, by decide, by decide⟩
  have sA : addS [] r1 = [r1] := rfl
  have sB : addS [r1] r2 = [r1, r2] := rfl
  have kC := fun w rb F q h hU => best_of rb [r1, r2] F 0 0 0 q 2 2 [true, true] w h (sB ▸ good1.add (r := r2) ⟨by decide, by decide, by decide, by decide, by decide, by decide, by decide, by decide, by decide, by decide, by decide, by decide⟩) hU
  have sC : bestO [r1, r2] 0 0 0 [true, true] = some r2 := rfl
  rw [sA] at kA
  rw [sB] at kB
  rw [sC] at kC
  have tok1 : Hid True := trivial
  have tok2 : Hid True := trivial
  go_enter Try.func16, Try.ntmps16
  go_wp2_with (first
    | (go_at_call 23; refine (k0 _).mono ?_; rintro e w1 ⟨rfl, h1, hx1⟩)
    | (go_at_call 25; clear tok1; refine (kA _ _ _ h1).mono ?_; rintro e w2 ⟨rfl, hA2⟩; obtain ⟨F2, h2, hx2, hF2, -, -⟩ := hA2.own hx1 (by simp))
    | (go_at_call 25; clear tok2; refine (kB _ _ _ h2).mono ?_; rintro e w3 ⟨rfl, hA3⟩; obtain ⟨F3, h3, hx3, hF3, -, -⟩ := hA3.own hx2 hF2)
    | (go_at_call 17; refine (kC _ _ F3 _ (h3.ext ((Ext.refl w3).alloc _)) (ups_two (heap_new w3 _))).mono ?_; rintro e w4 ⟨rfl, hx4⟩; obtain ⟨z0, z1, z2, z3, z4, z5⟩ := box_rtE (heap_new w4 (.cells #[.int .i64 (theR (some r2)).t, .int .u32 (theR (some r2)).a, .int .i64 (theR (some r2)).l, .int .i64 (theR (some r2)).i, .int .u32 (theR (some r2)).g, .int .i64 (theR (some r2)).m] 27)); have f3 : (w4.alloc (.cells #[.int .i64 (theR (some r2)).t, .int .u32 (theR (some r2)).a, .int .i64 (theR (some r2)).l, .int .i64 (theR (some r2)).i, .int .u32 (theR (some r2)).g, .int .i64 (theR (some r2)).m] 27)).cell? ⟨w4.heap.size, 3, none⟩ = some (.int .i64 1) := z3 _ (Ext.refl _); clear z0 z1 z2 z3 z4 z5))
  go_ret
  exact ⟨rfl, (hx3.trans (((Ext.refl w3).alloc _).trans hx4)).trans ((Ext.refl w4).alloc _)⟩
end Go.Proofs.Ytbchfmadmcppkaa.Rb
