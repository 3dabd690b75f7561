/- For every row of prefixes, every address and every port, the law MatchSides returns true: all is meant by any; a table's prefixes are meant one by one; an unknown table means nothing; no condition. -/
import Derived.Test.YtdkmakjjcfkfaaaRows
import Derived.Test.YtdkmakjjcfkfaaaMaD
import Derived.Test.YtdkmakjjcfkfaaaFrame
import Derived.Test.YtdkmakjjcfkfaaaRowG
import Derived.WalkKit
import Derived.ProofKit
import Derived.OpenShut
import Derived.ShutString
import Derived.ChangeOld
import Derived.Deep.DeepHandedRow
import Derived.Lib.LaidTab
import Derived.Lib.SmallJoins
import Derived.LaidMore
import Derived.Stop.LaidErr
import Derived.ChangeMaps5
namespace Go.Proofs.Ytdkmakjjcfkfaaa.matchSides
open Go.ChangeShapes Go.WideShapes Go.ChangeAt Go.RowKit Go.ChangeMaps
set_option linter.unusedVariables false
set_option maxRecDepth 100000

theorem own : ownKnob Try.prog.godebug = none := by kernel_rfl
theorem laidOut : laidOutB Try.prog = true := by kernel_rfl

abbrev Elem32 := Int × Int
def cells32 (z : Elem32) : List Value := [.int .u32 (z.1), .int .i64 (z.2)]
def ok32 (z : Elem32) : Prop := (Lit.int .u32 (z.1)).wf = true ∧ (Lit.int .i64 (z.2)).wf = true
theorem cells32_length (z : Elem32) : (cells32 z).length = 2 := rfl
theorem elem32 {H : Type} {enc : TypeId × Value → H} {w : World} {base : Nat} {spare : Nat → Bool} {held : Bool} (n : Nat) (cs : List Value) (y : DataW H × List MemPlace)
    (h : DataW.trod enc Try.prog w base spare held n 32 cs = some y) : ∃ z : Elem32, cs = cells32 z ∧ ok32 z := by
  have hl : cs.length = 2 := by
    obtain ⟨_, _, _, _, hl, _⟩ := DataW.trod_struct Try.underlying32 h
    exact hl.trans (by kernel_rfl)
  obtain ⟨u0, u1, rfl⟩ : ∃ u0 u1, cs = [u0, u1] := by
    match cs, hl with
    | [u0, u1], _ => exact ⟨u0, u1, rfl⟩
  obtain ⟨_, _, e1⟩ := field_at Try.underlying32 h 0 rfl 1 (by kernel_rfl)
  obtain ⟨az0, c2, _, wz0⟩ := DataW.trod_int Try.underlying24 e1
  obtain rfl : u0 = .int .u32 az0 := by simpa using c2
  obtain ⟨_, _, e3⟩ := field_at Try.underlying32 h 1 rfl 1 (by kernel_rfl)
  obtain ⟨az1, c4, _, wz1⟩ := DataW.trod_int Try.underlying3 e3
  obtain rfl : u1 = .int .i64 az1 := by simpa using c4
  exact ⟨(az0, az1), rfl, ⟨wz0, wz1⟩⟩

open Go.Proofs.Ytdkmakjjcfkfaaa.Ma

theorem side_all {T : List NmV} {a port : Int} (h0 : 0 ≤ port) (h1 : port ≤ 65535) : sideV ⟨true, ⟨#[]⟩, 0, 0, 0, 65535⟩ T a port = true := by
  simp [sideV, meantV, h0, h1]

theorem side_px {x0 x1 a port : Int} (h0 : 0 ≤ port) (h1 : port ≤ 65535) : sideV ⟨false, ⟨#[]⟩, x0, x1, 0, 65535⟩ [] a port = hasV x0 x1 a := by
  simp [sideV, meantV, h0, h1]

theorem side_t {z : NmV} {a port : Int} (h0 : 0 ≤ port) (h1 : port ≤ 65535) (hz : z.name = ⟨#[116]⟩) : sideV ⟨false, ⟨#[116]⟩, 0, 0, 0, 65535⟩ [z] a port = anyV z.L a := by
  have e : (⟨#[116]⟩ : ByteArray).toList = [116] := by rw [ByteArray.toList_eq]
  simp [sideV, meantV, h0, h1, inT, isT, hz, e]

theorem side_u {z : NmV} {a port : Int} (hz : z.name = ⟨#[116]⟩) : sideV ⟨false, ⟨#[117]⟩, 0, 0, 0, 65535⟩ [z] a port = false := by
  have e : (⟨#[116]⟩ : ByteArray).toList = [116] := by rw [ByteArray.toList_eq]
  have e' : (⟨#[117]⟩ : ByteArray).toList = [117] := by rw [ByteArray.toList_eq]
  simp [sideV, meantV, inT, isT, hz, e, e']

theorem two_blocks (w : World) (o1 o2 : Obj) : Ext w ((w.alloc o1).alloc o2) ∧ ((w.alloc o1).alloc o2).heap[w.heap.size]? = some o1 ∧ ((w.alloc o1).alloc o2).heap[w.heap.size + 1]? = some o2 :=
  ⟨((Ext.refl w).alloc _).alloc _, heap_two w o1 o2⟩

set_option maxHeartbeats 40000000 in
theorem walk (a0 : Option Addr) (len0 cap0 : Nat) (zs0 : List Elem32) (a1 : Int) (a2 : Int) (w : World) (row0 : IsRowG 2 cells32 ok32 w a0 len0 cap0 zs0) (w1 : (Lit.int .u32 a1).wf = true) (w2 : (Lit.int .i64 a2).wf = true) (hsh : w.ShapedOpen Try.prog) :
    Calls Try.prog 6 #[.slice a0 len0 cap0, .int .u32 a1, .int .i64 a2] w fun e w' => e = .returned (.bool true) ∧ Below w.heap.size w w' := by
  have hb1 := bounds_u32 w1
  have hR : RdPX w a0 len0 zs0 := rdK_row (by omega) pxL_len row0
  have hok : PxOk zs0 := fun z hz => bounds_u32 (row0.ok z hz).1
  have hle := row0.le
  have hrm := row0.room
  unfold maxLen at hrm
  have hlen : (len0 : Int) ≤ 9223372036854775807 := by omega
  have hlz := row0.length
  clear row0
  by_cases h60 : (60 : Int) < (len0 : Int)
  · go_enter Try.func6, Try.ntmps6
    go_wp2_with fail
    go_ret
    exact ⟨rfl, (Ext.refl w).below⟩
  by_cases hp0 : a2 < 0
  · go_enter Try.func6, Try.ntmps6
    go_wp2_with fail
    go_ret
    exact ⟨rfl, (Ext.refl w).below⟩
  by_cases hp1 : 65535 < a2
  · go_enter Try.func6, Try.ntmps6
    go_wp2_with fail
    go_ret
    exact ⟨rfl, (Ext.refl w).below⟩
  have q0 : 0 ≤ a2 := by omega
  have q1 : a2 ≤ 65535 := by omega
  obtain ⟨W, hW⟩ : ∃ W, (w.alloc (.cells #[.int .i64 0, .int .i64 65535] 34)).alloc (.cells #[.string ⟨#[116]⟩, .slice a0 len0 cap0] 53) = W := ⟨_, rfl⟩
  obtain ⟨hx0, hbP, hbT⟩ := two_blocks w (.cells #[.int .i64 0, .int .i64 65535] 34) (.cells #[.string ⟨#[116]⟩, .slice a0 len0 cap0] 53)
  rw [hW] at hx0 hbP hbT
  obtain ⟨z, hz⟩ : ∃ z : NmV, z = ⟨⟨#[116]⟩, a0, len0, cap0, zs0⟩ := ⟨_, rfl⟩
  have hN : RdN W (some ⟨w.heap.size + 1, 0, none⟩) 1 [z] := by
    refine ⟨rdK_block (f := nmL) (L := [z]) (rest := []) nmL_len (by rw [hbT, hz]; rfl), by decide, fun y hy => ?_⟩
    rw [List.mem_singleton.1 hy, hz]
    exact ⟨hR.ext hx0, by dsimp only; omega, hok⟩
  have HR : Hid (RdPX W a0 len0 zs0) := hR.ext hx0
  have HO : Hid (PxOk zs0) := hok
  have HL : Hid (zs0.length = len0) := hlz
  have HN : Hid _ := hN
  have dA := fun w h => side_any ⟨true, ⟨#[]⟩, 0, 0, 0, 65535⟩ (some ⟨w.heap.size + 1, 0, none⟩) 1 1 [z] a1 a2 w h (by decide) (by decide) hb1.1 hb1.2
  have DA : Hid (∀ w', Ext W w' → Calls Try.prog 14 #[.agg #[.bool true, .string ⟨#[]⟩, .int .u32 0, .int .i64 0, .int .i64 0, .int .i64 65535], .slice (some ⟨w.heap.size + 1, 0, none⟩) 1 1, .int .u32 a1, .int .i64 a2] w' fun e w2 => e = .returned (.bool true) ∧ Ext w' w2) := fun w' hx => by
    have h := side_any ⟨true, ⟨#[]⟩, 0, 0, 0, 65535⟩ (some ⟨w.heap.size + 1, 0, none⟩) 1 1 [z] a1 a2 w' (hN.ext hx) (by decide) (by decide) hb1.1 hb1.2
    rw [side_all q0 q1] at h
    exact h
  have DB : Hid (∀ w', Ext W w' → Calls Try.prog 14 #[.agg #[.bool false, .string ⟨#[116]⟩, .int .u32 0, .int .i64 0, .int .i64 0, .int .i64 65535], .slice (some ⟨w.heap.size + 1, 0, none⟩) 1 1, .int .u32 a1, .int .i64 a2] w' fun e w2 => e = .returned (.bool (anyV zs0 a1)) ∧ Ext w' w2) := fun w' hx => by
    have h := side_any ⟨false, ⟨#[116]⟩, 0, 0, 0, 65535⟩ (some ⟨w.heap.size + 1, 0, none⟩) 1 1 [z] a1 a2 w' (hN.ext hx) (by decide) (by decide) hb1.1 hb1.2
    rw [side_t q0 q1 (by rw [hz])] at h
    rw [hz] at h
    exact h
  have DC : Hid (∀ w', Ext W w' → Calls Try.prog 14 #[.agg #[.bool false, .string ⟨#[117]⟩, .int .u32 0, .int .i64 0, .int .i64 0, .int .i64 65535], .slice (some ⟨w.heap.size + 1, 0, none⟩) 1 1, .int .u32 a1, .int .i64 a2] w' fun e w2 => e = .returned (.bool false) ∧ Ext w' w2) := fun w' hx => by
    have h := side_any ⟨false, ⟨#[117]⟩, 0, 0, 0, 65535⟩ (some ⟨w.heap.size + 1, 0, none⟩) 1 1 [z] a1 a2 w' (hN.ext hx) (by decide) (by decide) hb1.1 hb1.2
    rw [side_u (by rw [hz])] at h
    exact h
  have DX : Hid (∀ x0 x1 : Int, 0 ≤ x0 → x0 ≤ 4294967295 → ∀ w', Calls Try.prog 14 #[.agg #[.bool false, .string ⟨#[]⟩, .int .u32 x0, .int .i64 x1, .int .i64 0, .int .i64 65535], .slice none 0 0, .int .u32 a1, .int .i64 a2] w' fun e w2 => e = .returned (.bool (hasV x0 x1 a1)) ∧ Ext w' w2) := fun x0 x1 h0 h1 w' => by
    have h := side_any ⟨false, ⟨#[]⟩, x0, x1, 0, 65535⟩ none 0 0 [] a1 a2 w' (rdN_nil w') h0 h1 hb1.1 hb1.2
    rw [side_px q0 q1] at h
    exact h
  have p0 : ∀ w', Ext W w' → w'.cell? ⟨w.heap.size, 0, none⟩ = some (.int .i64 0) := fun w' h => heap_cell (h.heap hbP)
  have p1 : ∀ w', Ext W w' → w'.cell? ⟨w.heap.size, 1, none⟩ = some (.int .i64 65535) := fun w' h => heap_cell (h.heap hbP)
  have P0 : Hid _ := p0
  have P1 : Hid _ := p1
  have kn := fun w => known_any w
  have HX0 : Hid (Ext w W) := hx0
  clear hN hR hok hb1 hlz dA hbP hbT hz z HN w1 w2 hx0
  go_enter Try.func6, Try.ntmps6
  go_wp2_with fail
  try rw [hW]
  clear hW
  have tok1 : Hid True := trivial
  have tok2 : Hid True := trivial
  go_loopg [9, 10] len0 (fun kx s9 s10 wr => ∃ (j : Nat) (x : Bool), s9 = .bool x ∧ s10 = .int .i64 (j : Int) ∧ j ≤ len0 ∧ len0 - j ≤ kx ∧ Ext W wr ∧ Hid (anyV (zs0.take j) a1 = x))
  case atStart => exact ⟨0, false, rfl, rfl, Nat.zero_le _, Nat.le_refl _, Ext.refl _, rfl⟩
  case round =>
    obtain ⟨j, x, rfl, rfl, hjm, hjx, hx, HA⟩ := hrel
    by_cases hlt : j < len0
    · obtain ⟨⟨x0, x1⟩, hxk⟩ : ∃ x, zs0[j]? = some x := ⟨_, List.getElem?_eq_getElem (by rw [HL.out]; omega)⟩
      have HT : Hid (anyV (zs0.take (j + 1)) a1 = (anyV (zs0.take j) a1 || hasV x0 x1 a1)) := any_take hxk
      have hO := HO.out _ (List.mem_of_getElem? hxk)
      have hc := DX.out x0 x1 hO.1 hO.2
      obtain ⟨b, off, rfl, hb, hg⟩ := (HR.out.ext hx).get hxk
      have HG : Hid (∀ w', Ext wr w' → w'.rangeAt b (off + j * 2) [.int .u32 x0, .int .i64 x1]) := hg
      have hji : (j : Int) < (len0 : Int) := by omega
      clear hxk hb hg hO kn DA DB DC p0 p1
      have p0 : ∀ w', Ext W w' → w'.cell? ⟨w.heap.size, 0, none⟩ = some (.int .i64 0) := P0.out
      have p1 : ∀ w', Ext W w' → w'.cell? ⟨w.heap.size, 1, none⟩ = some (.int .i64 65535) := P1.out
      go_wp2_with fail
      refine wp_region_eager [(0, false), (1, false), (2, false), (3, false), (4, false), (5, false), (6, false), (7, false), (8, false), (9, false), (10, true), (11, false), (12, false)] (by kernel_rfl) (by kernel_rfl) rfl (by kernel_rfl) (fun _ _ _ _ _ h => h) (WpH.out ?_)
      have hxd : Ext wr wr.drew := (Ext.refl wr).drew
      replace p0 := later p0 (hx.trans hxd)
      replace p1 := later p1 (hx.trans hxd)
      generalize wr.drew = W1 at *
      cases x with
      | true =>
        have HZ : Hid (anyV (zs0.take (j + 1)) a1 = true) := by have h := HT.out; rw [HA.out, Bool.true_or] at h; exact h
        iterate 2 (refine wpH_read (v := ?_) rfl (by rfl) ?_ ?_; rotate_left; (focus (intro w' hx; go_simp; first | done | with_reducible rfl)); simp only [Act.put, List.setIfInBounds_toArray, List.set_cons_zero, List.set_cons_succ])
        iterate 9 (refine wpH_skip rfl (by rfl) ?_; simp only [Act.put, List.setIfInBounds_toArray, List.set_cons_zero, List.set_cons_succ])
        iterate 2 (refine wpH_read (v := ?_) rfl (by rfl) ?_ ?_; rotate_left; (focus (intro w' hx; go_simp; first | done | with_reducible rfl)); simp only [Act.put, List.setIfInBounds_toArray, List.set_cons_zero, List.set_cons_succ])
        refine wpH_done ?_
        clear hc p0 p1
        go_wp2_with fail
        go_roundg (len0 - (j + 1))
        case measure => omega
        case rel => exact ⟨j + 1, true, rfl, by go_num, by omega, Nat.le_refl _, hx.trans hxd, HZ⟩
      | false =>
        generalize hasV x0 x1 a1 = y at *
        have HZ : Hid (anyV (zs0.take (j + 1)) a1 = y) := by have h := HT.out; rw [HA.out, Bool.false_or] at h; exact h
        iterate 5 (refine wpH_read (v := ?_) rfl (by rfl) ?_ ?_; rotate_left; (focus (intro w' hx; go_simp; first | done | with_reducible rfl)); simp only [Act.put, List.setIfInBounds_toArray, List.set_cons_zero, List.set_cons_succ])
        (refine wpH_read rfl (by rfl) (fun w' hx => exec_range 32 _ rfl b (off + j * 2) _ _ rfl (HG.out _ (hxd.trans hx)) Try.underlying32 rfl px_size) ?_; simp only [Act.put, List.setIfInBounds_toArray, List.set_cons_zero, List.set_cons_succ])
        iterate 4 (refine wpH_read (v := ?_) rfl (by rfl) ?_ ?_; rotate_left; (focus (intro w' hx; go_simp; first | done | with_reducible rfl)); simp only [Act.put, List.setIfInBounds_toArray, List.set_cons_zero, List.set_cons_succ])
        (refine wpH_call rfl (by rfl) (fun K hK => ?_); go_simp; (go_at_call 14; refine (hc _).mono ?_; rintro e w3 ⟨rfl, hx3⟩; refine hK _ _ hx3 ?_; clear hK K))
        iterate 2 (refine wpH_read (v := ?_) rfl (by rfl) ?_ ?_; rotate_left; (focus (intro w' hx; go_simp; first | done | with_reducible rfl)); simp only [Act.put, List.setIfInBounds_toArray, List.set_cons_zero, List.set_cons_succ])
        refine wpH_done ?_
        clear hc p0 p1
        go_wp2_with fail
        go_roundg (len0 - (j + 1))
        case measure => omega
        case rel => exact ⟨j + 1, y, rfl, by go_num, by omega, Nat.le_refl _, hx.trans (hxd.trans hx3), HZ⟩
    · obtain rfl : j = len0 := by omega
      have HZ : Hid (anyV zs0 a1 = x) := by have h := HA.out; rwa [List.take_of_length_le (by rw [HL.out]; exact Nat.le_refl _)] at h
      have dA := DA.out
      have dB := DB.out
      have dC := DC.out
      rw [HZ.out] at dB
      have p0w := P0.out wr hx
      have p1w := P1.out wr hx
      clear p0 p1
      have hji : ¬ (j : Int) < (j : Int) := by omega
      go_wp2_with (first
        | (go_at_call 14; clear tok1; refine (dA _ hx).mono ?_; rintro e w3 ⟨rfl, hx3⟩; clear p0w p1w; have p0w := P0.out w3 (hx.trans hx3); have p1w := P1.out w3 (hx.trans hx3); clear dA)
        | (go_at_call 14; clear tok2; refine (dB _ (hx.trans hx3)).mono ?_; rintro e w4 ⟨rfl, hx4⟩; clear p0w p1w; have p0w := P0.out w4 (hx.trans (hx3.trans hx4)); have p1w := P1.out w4 (hx.trans (hx3.trans hx4)); clear dB)
        | (go_at_call 14; refine (dC _ (hx.trans (hx3.trans hx4))).mono ?_; rintro e w5 ⟨rfl, hx5⟩; clear dC p0w p1w)
        | (go_at_call 16; refine (kn _).mono ?_; rintro e w6 ⟨rfl, hx6⟩; clear kn))
      go_ret
      exact ⟨by simp, (HX0.out.trans (hx.trans (hx3.trans (hx4.trans (hx5.trans hx6))))).below⟩

theorem contract (H : Type) (enc : TypeId × Value → H) (W : World) (base : Nat) (args : Array Value) (ds gs : List (DataW H)) (before : List MemPlace)
    (hval : ∀ (j : Nat) t v, Try.f6.params[j]? = some t → args[j]? = some v → Value.okWide Try.prog W .any base t v)
    (hW : DataW.Whole enc Try.prog Try.f6.params.toList Rows.matchSidesSpec.vars false W args.toList ds gs before) (hsh : W.ShapedOpen Try.prog) :
    Calls Try.prog 6 args W fun e W' => ∃ v, e = .returned v ∧ Rows.matchSidesSpec.post enc Try.prog Try.f6 false true false false W args v W' := by
  have hW' := hW
  obtain ⟨p, q, hA0, hV, rfl, hfz, hnd⟩ := hW
  have hA : DataW.TrodAll enc Try.prog W 0 (fun _ => true) true Try.f6.params.toList args.toList ds p := hA0
  rw [Try.params6] at hA hval
  obtain ⟨v0, vs0, d0, ds0, p0, q0, hargs, rfl, rfl, h0, r0⟩ := trodAll_cons hA
  obtain ⟨v1, vs1, d1, ds1, p1, q1, rfl, rfl, rfl, h1, r1⟩ := trodAll_cons r0
  obtain ⟨v2, vs2, d2, ds2, p2, q2, rfl, rfl, rfl, h2, r2⟩ := trodAll_cons r1
  obtain ⟨rfl, rfl, rfl⟩ := trodAll_nil r2
  obtain rfl : args = #[v0, v1, v2] := by cases args; simp_all
  obtain ⟨rfl, rfl⟩ := trodVars_none hV
  have k0 := h0
  have lt0 : ∀ x ∈ p0, x.block < W.heap.size := by obtain ⟨m, hm⟩ := k0; exact DataW.trod_lt m _ _ _ hm
  obtain ⟨b0, l0, c0, rfl⟩ := okWide_slice Try.underlying51 (hval 0 51 v0 rfl rfl)
  obtain ⟨fu0, hf0⟩ := h0
  obtain ⟨a0, len0, cap0, zs0, ce0, row0⟩ := open_rowG 2 cells32 ok32 (by omega) cells32_length Try.underlying51 (by kernel_rfl) elem32 hf0
  obtain ⟨rfl, rfl, rfl⟩ : a0 = b0 ∧ len0 = l0 ∧ cap0 = c0 := by simpa [Value.cells, eq_comm] using ce0
  obtain ⟨a1, rfl, rfl, rfl, w1⟩ := open_int Try.underlying24 (hval 1 24 v1 rfl rfl) h1
  obtain ⟨a2, rfl, rfl, rfl, w2⟩ := open_int Try.underlying3 (hval 2 3 v2 rfl rfl) h2
  clear hA0
  refine (walk a0 len0 cap0 zs0 a1 a2 W row0 w1 w2 hsh).mono fun e W' ⟨he, bel⟩ => ?_
  subst he
  exact ⟨_, rfl, _, _, _, [], _, [], hW', trodAll_mk1 (shut_bool Try.underlying4 _), (trodAll_cons_mk (Below.trod laidOut (by kernel_rfl) (of_decide_eq_true (by kernel_rfl)) k0 bel lt0) (trodAll_cons_mk (shut_int Try.underlying24 w1) (trodAll_cons_mk (shut_int Try.underlying3 w2) trodAll_mk0))), rfl, bel.frame _, fun h => by cases h⟩

theorem laid_met (os : Os) : laidMet Try.prog Rows.matchSidesRow.laid ((World.doorLaid Try.prog 24 os).forCall (fun _ _ => 0) ⟨#[], #[.slice none 0 0, .int .u32 0, .int .i64 0], []⟩).memory :=
  laidMet_of_run' 8 (by kernel_rfl) (by kernel_rfl)
theorem reads (os : Os) {H : Type} (enc : TypeId × Value → H) : ∃ places, DataW.whole enc Try.prog ((World.doorLaid Try.prog 24 os).forCall (fun _ _ => 0) ⟨#[], #[.slice none 0 0, .int .u32 0, .int .i64 0], []⟩).memory Try.f6.params.toList Rows.matchSidesSpec.vars false (#[.slice none 0 0, .int .u32 0, .int .i64 0] : Array Value).toList 8 = some ([.nil, .lit (.int .u32 0), .lit (.int .i64 0)], [], places) :=
  ⟨[], by kernel_rfl⟩

set_option maxRecDepth 100000 in
theorem lifted (os : Os) (started : os.Started) (H : Type) (enc : TypeId × Value → H) (F : Stop.Interp) :
    ReturnsInHanded {} Try.checked os 6 .any ((OpenSpec.ofChange Rows.matchSidesSpec).preRow enc Try.prog Try.f6 Rows.matchSidesRow.domain false Rows.matchSidesRow.laid) (((OpenSpec.ofChange Rows.matchSidesSpec).at F).post enc Try.prog Try.f6 false true false false) := by
  obtain ⟨places, hx⟩ := reads os enc
  refine returnsInHanded_of_row (C := Try.checked) (s := (OpenSpec.ofChange Rows.matchSidesSpec)) own started (by kernel_rfl) Try.func6
    (witness_row_at (enc := enc) (C := Try.checked) false (World.doorLaid Try.prog 24 os) #[.slice none 0 0, .int .u32 0, .int .i64 0] rfl (by kernel_rfl) (by kernel_rfl) (by kernel_rfl)
      (OpenSpec.preRow_of_cond 8 hx (by kernel_rfl) (fun k hk => by cases hk) (by kernel_rfl) (laid_met os))) ?_
  intro W base args ds gs before hval hW _ hcond _ hL hsh _
  exact contract H enc W base args ds gs before hval hW hsh

theorem said : Rows.MatchSidesSaid :=
  OpenClaim.holds_of_cond 6 Try.f6 rfl rfl rfl rfl rfl rfl rfl ⟨rfl, rfl, rfl, rfl, rfl⟩ rfl rfl rfl rfl rfl (by kernel_rfl) Try.func6 (by kernel_rfl)
    (of_decide_eq_true (by kernel_rfl)) (by unfold Func.isWrapper; first | (rw [if_pos (by decide +kernel)]; kernel_rfl) | (rw [if_neg (by decide +kernel)]; exact ⟨rfl, rfl⟩))
    (fun os started H enc _ F => by rw [OpenClaim.pre_eq_preRow]; exact lifted os started H enc F)

end Go.Proofs.Ytdkmakjjcfkfaaa.matchSides

namespace Go.Proofs.Ytdkmakjjcfkfaaa
theorem matchSides_holds : Rows.MatchSidesSaid := matchSides.said
#print axioms matchSides_holds
end Go.Proofs.Ytdkmakjjcfkfaaa
