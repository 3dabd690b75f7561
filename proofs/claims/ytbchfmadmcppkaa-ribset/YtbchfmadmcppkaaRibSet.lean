/- For every script of ways, every way and at most twenty interfaces, the law RibSet returns true: what is told hangs on what is there alone, and a copy goes its own way (of more interfaces the law says nothing, and returns true); no condition. -/
import Derived.Test.YtbchfmadmcppkaaRows
import Derived.Test.YtbchfmadmcppkaaLaw11S
import Derived.Test.YtbchfmadmcppkaaFrame
import Derived.Test.YtbchfmadmcppkaaRowG
import Derived.WalkKit
import Derived.ProofKit
import Derived.OpenShut
import Derived.ShutString
import Derived.ChangeOld
import Derived.Deep.DeepHandedRow
import Derived.Lib.LaidTab
import Derived.Lib.SmallJoins
import Derived.LaidMore
import Derived.Stop.LaidErr
import Derived.ChangeMaps5
namespace Go.Proofs.Ytbchfmadmcppkaa.ribSet
open Go.ChangeShapes Go.WideShapes Go.ChangeAt Go.RowKit Go.ChangeMaps
set_option linter.unusedVariables false
set_option maxRecDepth 100000

theorem own : ownKnob Try.prog.godebug = none := by kernel_rfl
theorem laidOut : laidOutB Try.prog = true := by kernel_rfl

theorem arr6 {α : Type} {cs : Array α} (h : cs.size = 6) : ∃ c0 c1 c2 c3 c4 c5, cs = #[c0, c1, c2, c3, c4, c5] := by
  obtain ⟨l⟩ := cs
  match l, h with
  | [c0, c1, c2, c3, c4, c5], _ => exact ⟨c0, c1, c2, c3, c4, c5, rfl⟩

abbrev Elem56 := Bool × Int × Int × Int × Int × Int × Int
def cells56 (z : Elem56) : List Value := [.bool (z.1), .int .i64 (z.2.1), .int .u32 (z.2.2.1), .int .i64 (z.2.2.2.1), .int .i64 (z.2.2.2.2.1), .int .u32 (z.2.2.2.2.2.1), .int .i64 (z.2.2.2.2.2.2)]
def ok56 (z : Elem56) : Prop := (Lit.int .i64 (z.2.1)).wf = true ∧ (Lit.int .u32 (z.2.2.1)).wf = true ∧ (Lit.int .i64 (z.2.2.2.1)).wf = true ∧ (Lit.int .i64 (z.2.2.2.2.1)).wf = true ∧ (Lit.int .u32 (z.2.2.2.2.2.1)).wf = true ∧ (Lit.int .i64 (z.2.2.2.2.2.2)).wf = true
theorem cells56_length (z : Elem56) : (cells56 z).length = 7 := rfl
theorem elem56 {H : Type} {enc : TypeId × Value → H} {w : World} {base : Nat} {spare : Nat → Bool} {held : Bool} (n : Nat) (cs : List Value) (y : DataW H × List MemPlace)
    (h : DataW.trod enc Try.prog w base spare held n 56 cs = some y) : ∃ z : Elem56, cs = cells56 z ∧ ok56 z := by
  have hl : cs.length = 7 := by
    obtain ⟨_, _, _, _, hl, _⟩ := DataW.trod_struct Try.underlying56 h
    exact hl.trans (by kernel_rfl)
  obtain ⟨u0, u1, u2, u3, u4, u5, u6, rfl⟩ : ∃ u0 u1 u2 u3 u4 u5 u6, cs = [u0, u1, u2, u3, u4, u5, u6] := by
    match cs, hl with
    | [u0, u1, u2, u3, u4, u5, u6], _ => exact ⟨u0, u1, u2, u3, u4, u5, u6, rfl⟩
  obtain ⟨_, _, e1⟩ := field_at Try.underlying56 h 0 rfl 1 (by kernel_rfl)
  obtain ⟨az0, c2, _⟩ := DataW.trod_bool Try.underlying4 e1
  obtain rfl : u0 = .bool az0 := by simpa using c2
  obtain ⟨_, _, e3⟩ := field_at Try.underlying56 h 1 rfl 6 (by kernel_rfl)
  obtain ⟨_, _, e4⟩ := field_at Try.underlying27 e3 0 rfl 1 (by kernel_rfl)
  obtain ⟨az10, c5, _, wz10⟩ := DataW.trod_int Try.underlying3 e4
  obtain rfl : u1 = .int .i64 az10 := by simpa using c5
  obtain ⟨_, _, e6⟩ := field_at Try.underlying27 e3 1 rfl 2 (by kernel_rfl)
  obtain ⟨_, _, e7⟩ := field_at Try.underlying25 e6 0 rfl 1 (by kernel_rfl)
  obtain ⟨az110, c8, _, wz110⟩ := DataW.trod_int Try.underlying23 e7
  obtain rfl : u2 = .int .u32 az110 := by simpa using c8
  obtain ⟨_, _, e9⟩ := field_at Try.underlying25 e6 1 rfl 1 (by kernel_rfl)
  obtain ⟨az111, c10, _, wz111⟩ := DataW.trod_int Try.underlying3 e9
  obtain rfl : u3 = .int .i64 az111 := by simpa using c10
  obtain ⟨_, _, e11⟩ := field_at Try.underlying27 e3 2 rfl 1 (by kernel_rfl)
  obtain ⟨az12, c12, _, wz12⟩ := DataW.trod_int Try.underlying3 e11
  obtain rfl : u4 = .int .i64 az12 := by simpa using c12
  obtain ⟨_, _, e13⟩ := field_at Try.underlying27 e3 3 rfl 1 (by kernel_rfl)
  obtain ⟨az13, c14, _, wz13⟩ := DataW.trod_int Try.underlying23 e13
  obtain rfl : u5 = .int .u32 az13 := by simpa using c14
  obtain ⟨_, _, e15⟩ := field_at Try.underlying27 e3 4 rfl 1 (by kernel_rfl)
  obtain ⟨az14, c16, _, wz14⟩ := DataW.trod_int Try.underlying3 e15
  obtain rfl : u6 = .int .i64 az14 := by simpa using c16
  exact ⟨(az0, az10, az110, az111, az12, az13, az14), rfl, ⟨wz10, wz110, wz111, wz12, wz13, wz14⟩⟩

abbrev Elem4 := Bool
def cells4 (z : Elem4) : List Value := [.bool (z)]
def ok4 (z : Elem4) : Prop := True
theorem cells4_length (z : Elem4) : (cells4 z).length = 1 := rfl
theorem elem4 {H : Type} {enc : TypeId × Value → H} {w : World} {base : Nat} {spare : Nat → Bool} {held : Bool} (n : Nat) (cs : List Value) (y : DataW H × List MemPlace)
    (h : DataW.trod enc Try.prog w base spare held n 4 cs = some y) : ∃ z : Elem4, cs = cells4 z ∧ ok4 z := by
  obtain ⟨z, c, _⟩ := DataW.trod_bool Try.underlying4 h
  exact ⟨z, by simpa [cells4] using c, trivial⟩

open Go.Proofs.Ytbchfmadmcppkaa.Tri Go.Proofs.Ytbchfmadmcppkaa.Rb

set_option maxHeartbeats 4000000 in
theorem walk (a0 : Option Addr) (len0 cap0 : Nat) (zs0 : List Elem56) (a10 : Int) (a110 : Int) (a111 : Int) (a12 : Int) (a13 : Int) (a14 : Int) (a2 : Option Addr) (len2 cap2 : Nat) (zs2 : List Elem4) (w : World) (row0 : IsRowG 7 cells56 ok56 w a0 len0 cap0 zs0) (w10 : (Lit.int .i64 a10).wf = true) (w110 : (Lit.int .u32 a110).wf = true) (w111 : (Lit.int .i64 a111).wf = true) (w12 : (Lit.int .i64 a12).wf = true) (w13 : (Lit.int .u32 a13).wf = true) (w14 : (Lit.int .i64 a14).wf = true) (row2 : IsRowG 1 cells4 ok4 w a2 len2 cap2 zs2) (hsh : w.ShapedOpen Try.prog) :
    Calls Try.prog 6 #[.slice a0 len0 cap0, .agg #[.int .i64 a10, .int .u32 a110, .int .i64 a111, .int .i64 a12, .int .u32 a13, .int .i64 a14], .slice a2 len2 cap2] w fun e w' => e = .returned (.bool true) ∧ Below w.heap.size w w' := by
  have row : IsRowG 7 actC actOk w a0 len0 cap0 zs0 := row0
  have rowU : IsRowG 1 upC upOk w a2 len2 cap2 zs2 := row2
  have hA : Ext w (w.alloc (.cells #[.int .i64 a10, .int .u32 a110, .int .i64 a111, .int .i64 a12, .int .u32 a13, .int .i64 a14] 27)) := (Ext.refl w).alloc _
  have hc3 := rowU.le
  have hc4 := rowU.room
  unfold maxLen at hc4
  by_cases h20 : 20 < len2
  · have h20z : (20 : Int) < (len2 : Int) := by omega
    clear row rowU row0 row2
    go_enter Try.func6, Try.ntmps6
    go_wp2_with fail
    go_ret
    exact ⟨rfl, hA⟩
  · have h20z : (len2 : Int) ≤ 20 := by omega
    have HU : Hid (Ups w a2 len2 zs2) := ups_row rowU (by omega)
    have kp := played_any a0 len0 cap0 zs0 _ (row.later (fun z => rfl) hA)
    have hok := rtOk_of w10 w110 w111 w12 w13 w14
    have HOK : Hid _ := hok
    have kn := fun w => known_any w
    have k0 := fun w => new_any w
    have HQ : Hid _ := box_rtE (heap_new w (.cells #[.int .i64 a10, .int .u32 a110, .int .i64 a111, .int .i64 a12, .int .u32 a13, .int .i64 a14] 27))
    clear row rowU row0 row2 hok
    go_enter Try.func6, Try.ntmps6
    go_wp2_with fail
    go_at_call 11
    refine kp.mono ?_
    rintro e w1 ⟨rb, xb, L, F, G, rfl, hg, hT⟩
    have hlen := hg.len
    have HG : Hid (Go.Proofs.Ytbchfmadmcppkaa.Rb.Good L) := hg
    have kC := fun w' (hx : Ext w1 w') => copy_any rb L F w' (hT.b.ext hx) (by omega)
    have HT : Hid (Two _ w1 rb xb L L F G) := hT
    clear kp hg hT
    go_wp2_with (first
      | (go_at_call 23; refine (k0 _).mono ?_; rintro e w2 ⟨rfl, h2, hx2⟩)
      | (go_at_call 24; refine (kC _ hx2).mono ?_; rintro e w3 ⟨db, Fd, rfl, h3, hx3, hF3⟩; have HF0 : Hid (Four _ w3 rb xb w1.heap.size db L [] L F G [w1.heap.size] Fd) := Four.begin HT.out hx2 h2 hx3 h3 hF3; obtain ⟨vx, hgx, hX, hOx⟩ := HF0.out.x; obtain ⟨px, cx, hvx, -, -, hRx⟩ := hOx.slice; subst hvx; have HX : Hid _ := hX; have HRx : Hid (Rd w3 px L.length cx L) := hRx; have HGx : Hid (G = xb :: blks (.slice px L.length cx)) := hgx; have v3 : w3.cell? ⟨xb, 0, none⟩ = some (.slice px L.length cx) := (by rw [heap_cell hX]; rfl); clear hgx hX hOx hRx h2 h3 hF3))
    have HF1 : Hid (Four (w.alloc (.cells #[.int .i64 a10, .int .u32 a110, .int .i64 a111, .int .i64 a12, .int .u32 a13, .int .i64 a14] 27)) w3 rb xb w1.heap.size db L (L.drop L.length) L F G [w1.heap.size] Fd) := by
      show Four _ _ _ _ _ _ _ _ _ _ _ _ _
      rw [List.drop_length]
      exact HF0.out
    generalize w1.heap.size = cb at *
    clear v3 kC k0 HT HF0 hx2 hx3 HX HRx HGx
    generalize hW0 : (w.alloc (.cells #[.int .i64 a10, .int .u32 a110, .int .i64 a111, .int .i64 a12, .int .u32 a13, .int .i64 a14] 27)) = W0 at *
    clear hW0
    go_loopw [12] (fun i wr => ∃ (k : Nat) (z : Int) (Fc : List Nat), k ≤ L.length ∧ i = .int .i64 z ∧ z = (k : Int) - 1 ∧ Hid (Four W0 wr rb xb cb db L (L.drop k) L F G Fc Fd)) (fun i _ => (intOf i + 1).toNat)
    case atStart => exact ⟨L.length, _, [cb], Nat.le_refl _, rfl, rfl, HF1⟩
    case round =>
      clear HF1
      obtain ⟨k, z, Fc, hk, rfl, hz, HF⟩ := hrel
      cases k with
      | succ j =>
        obtain rfl : z = (j : Int) := by omega
        clear hz
        obtain ⟨x, hxk⟩ : ∃ x, L[j]? = some x := ⟨_, List.getElem?_eq_getElem (by omega)⟩
        obtain ⟨vx, -, hX, hOx⟩ := HF.out.x
        obtain ⟨px, cx, hvx, -, -, hRx⟩ := hOx.slice
        subst hvx
        obtain ⟨b, off, hpx, hb, g0, g1, g2, g3, g4, g5⟩ := hRx.cell hxk
        subst hpx
        have v0 : wr.cell? ⟨xb, 0, none⟩ = some (.slice (some ⟨b, off, none⟩) L.length cx) := by rw [heap_cell hX]; rfl
        have kA := add_any cb (L.drop (j + 1)) Fc x wr HF.out.c (HG.out.drop _) (HG.out.ok x (List.mem_of_getElem? hxk))
        rw [(drop_add HG.out hxk).1, (drop_add HG.out hxk).2] at kA
        have hji : (j : Int) < (L.length : Int) := by omega
        clear hX hOx hRx hxk
        go_wp2_with (go_at_call 25; refine kA.mono ?_; rintro e w5 ⟨rfl, hA5⟩; obtain ⟨Fc', hF5⟩ := HF.out.stepC hA5)
        go_roundw
        case rel => exact ⟨j, (j : Int) - 1, Fc', by omega, by go_num, rfl, hF5⟩
        case measure => simp [intOf]
      | zero =>
        obtain rfl : z = -1 := by omega
        clear hz
        have hF0 : Four W0 wr rb xb cb db L L L F G Fc Fd := HF.out
        have hE0 : Ext w wr := hA.trans hF0.ext
        have kD := add_any db L Fd ⟨a10, a110, a111, a12, a13, a14⟩ wr hF0.d HG.out HOK.out
        generalize addE L ⟨a10, a110, a111, a12, a13, a14⟩ = zD at *
        generalize addS L ⟨a10, a110, a111, a12, a13, a14⟩ = LD at *
        dsimp only at kD
        obtain ⟨q0, q1, q2, q3, q4, q5⟩ := HQ.out
        have t0 := q0 _ hF0.ext
        have t1 := q1 _ hF0.ext
        have t2 := q2 _ hF0.ext
        have t3 := q3 _ hF0.ext
        have t4 := q4 _ hF0.ext
        have t5 := q5 _ hF0.ext
        clear q0 q1 q2 q3 q4 q5
        go_wp2_with (go_at_call 25; refine kD.mono ?_; rintro e w5 ⟨rfl, hA5⟩; obtain ⟨Fd', hF5⟩ := hF0.stepD hA5; clear t0 t1 t2 t3 t4 t5)
        refine wp_region_eager [(0, false), (2, false), (1, true), (3, true), (4, true), (5, false), (6, false), (7, false), (9, false), (10, false), (8, true), (11, true), (12, true), (13, false), (14, false), (15, false), (17, false), (18, false), (19, false), (20, false), (16, true), (21, true), (22, false), (23, false), (24, true), (25, false), (26, false)] (by kernel_rfl) (by kernel_rfl) rfl (by kernel_rfl) (fun _ _ _ _ _ h => h) ?_
        have hF6 : Four W0 w5.drew rb xb cb db L L LD F G Fc Fd' := hF5.later (Ext.refl w5).drew
        have HE6 : Hid (Ext w w5.drew) := hA.trans hF6.ext
        have HF6 : Hid (Four W0 w5.drew rb xb cb db L L LD F G Fc Fd') := hF6
        obtain ⟨vx, -, hX, hOx⟩ := hF6.x
        obtain ⟨px, cx, hvx, -, -, hRx⟩ := hOx.slice
        subst hvx
        have HX : Hid _ := hX
        have HRx : Hid (Rd w5.drew px L.length cx L) := hRx
        have hal : (actL L 0 zs2).length ≤ L.length := actN_len L 0 zs2 L.length
        have kAb := fun w' (hx : Ext w5.drew w') => all_any rb L F w' (hF6.b.ext hx) (by omega)
        have kAc := fun w' (hx : Ext w5.drew w') => all_any cb L Fc w' (hF6.c.ext hx) (by omega)
        have kTb := fun w' (hx : Ext w5.drew w') => active_any rb L F 0 a2 len2 cap2 zs2 w' (hF6.b.ext hx) HG.out (HU.out.ext (HE6.out.trans hx))
        have kTc := fun w' (hx : Ext w5.drew w') => active_any cb L Fc 0 a2 len2 cap2 zs2 w' (hF6.c.ext hx) HG.out (HU.out.ext (HE6.out.trans hx))
        generalize actL L 0 zs2 = A at *
        clear hX hOx hRx hF6 hF5 hF0 hA5 kD
        generalize w5.drew = W at *
        iterate 2 (refine wpE_read (v := ?_) rfl (by rfl) ?_ ?_; rotate_left; (focus (intro w' hx; go_simp; first | done | with_reducible rfl)); simp only [Act.put, List.setIfInBounds_toArray, List.set_cons_zero, List.set_cons_succ])
        refine wpE_call rfl (by rfl) (fun K hK => ?_)
        go_simp
        go_at_call 13
        refine (kAb _ (Ext.refl _)).mono ?_
        rintro e u1 ⟨v1, rfl, ho1, hy1⟩
        obtain ⟨p1, c1, hv1, hR1⟩ := own_rd ho1
        subst hv1
        refine hK _ _ hy1 ?_
        clear hK K ho1
        refine wpE_call rfl (by rfl) (fun K hK => ?_)
        go_simp
        go_at_call 13
        refine (kAc _ hy1).mono ?_
        rintro e u2 ⟨v2, rfl, ho2, hy2⟩
        obtain ⟨p2, c2, hv2, hR2⟩ := own_rd ho2
        subst hv2
        refine hK _ _ hy2 ?_
        clear hK K ho2
        refine wpE_call rfl (by rfl) (fun K hK => ?_)
        go_simp
        go_at_call 12
        refine (routes_same p1 p2 L.length L.length c1 c2 L u2 (hR1.ext hy2) hR2 (by omega)).mono ?_
        rintro e u3 ⟨rfl, hy3⟩
        refine hK _ _ hy3 ?_
        clear hK K hR1 hR2
        have hz3 := hy1.trans (hy2.trans hy3)
        iterate 5 (refine wpE_read (v := ?_) rfl (by rfl) ?_ ?_; rotate_left; (focus (intro w' hx; go_simp; first | done | with_reducible rfl)); simp only [Act.put, List.setIfInBounds_toArray, List.set_cons_zero, List.set_cons_succ])
        refine wpE_call rfl (by rfl) (fun K hK => ?_)
        go_simp
        go_at_call 19
        refine (kTb _ hz3).mono ?_
        rintro e u4 ⟨v4, rfl, ho4, hy4⟩
        obtain ⟨p4, c4, hv4, hR4⟩ := own_rd ho4
        subst hv4
        refine hK _ _ hy4 ?_
        clear hK K ho4
        have hz4 := hz3.trans hy4
        refine wpE_call rfl (by rfl) (fun K hK => ?_)
        go_simp
        go_at_call 19
        refine (kTc _ hz4).mono ?_
        rintro e u5 ⟨v5, rfl, ho5, hy5⟩
        obtain ⟨p5, c5, hv5, hR5⟩ := own_rd ho5
        subst hv5
        refine hK _ _ hy5 ?_
        clear hK K ho5
        refine wpE_call rfl (by rfl) (fun K hK => ?_)
        go_simp
        go_at_call 12
        refine (routes_same p4 p5 A.length A.length c4 c5 A u5 (hR4.ext hy5) hR5 (by omega)).mono ?_
        rintro e u6 ⟨rfl, hy6⟩
        refine hK _ _ hy6 ?_
        clear hK K hR4 hR5
        have hz6 := hz4.trans (hy5.trans hy6)
        have x0 : ∀ w', Ext u6 w' → w'.cell? ⟨xb, 0, none⟩ = some (.slice px L.length cx) := fun w' h => by rw [heap_cell ((hz6.trans h).heap HX.out)]; rfl
        iterate 7 (refine wpE_read (v := ?_) rfl (by rfl) ?_ ?_; rotate_left; (focus (intro w' hx; go_simp; first | done | with_reducible rfl)); simp only [Act.put, List.setIfInBounds_toArray, List.set_cons_zero, List.set_cons_succ])
        clear x0
        refine wpE_call rfl (by rfl) (fun K hK => ?_)
        go_simp
        go_at_call 13
        refine (kAb _ hz6).mono ?_
        rintro e u7 ⟨v7, rfl, ho7, hy7⟩
        obtain ⟨p7, c7, hv7, hR7⟩ := own_rd ho7
        subst hv7
        refine hK _ _ hy7 ?_
        clear hK K ho7
        refine wpE_call rfl (by rfl) (fun K hK => ?_)
        go_simp
        go_at_call 12
        refine (routes_same p7 px L.length L.length c7 cx L u7 hR7 (HRx.out.ext (hz6.trans hy7)) (by omega)).mono ?_
        rintro e u8 ⟨rfl, hy8⟩
        refine hK _ _ hy8 ?_
        clear hK K hR7
        iterate 2 (refine wpE_read (v := ?_) rfl (by rfl) ?_ ?_; rotate_left; (focus (intro w' hx; go_simp; first | done | with_reducible rfl)); simp only [Act.put, List.setIfInBounds_toArray, List.set_cons_zero, List.set_cons_succ])
        refine wpE_call rfl (by rfl) (fun K hK => ?_)
        go_simp
        go_at_call 16
        refine (kn _).mono ?_
        rintro e u9 ⟨rfl, hy9⟩
        refine hK _ _ hy9 ?_
        clear hK K
        iterate 2 (refine wpE_read (v := ?_) rfl (by rfl) ?_ ?_; rotate_left; (focus (intro w' hx; go_simp; first | done | with_reducible rfl)); simp only [Act.put, List.setIfInBounds_toArray, List.set_cons_zero, List.set_cons_succ])
        refine wpE_done ?_
        go_wp2_with fail
        go_ret
        exact ⟨rfl, HE6.out.trans (hz6.trans (hy7.trans (hy8.trans hy9)))⟩

theorem contract (H : Type) (enc : TypeId × Value → H) (W : World) (base : Nat) (args : Array Value) (ds gs : List (DataW H)) (before : List MemPlace)
    (hval : ∀ (j : Nat) t v, Try.f6.params[j]? = some t → args[j]? = some v → Value.okWide Try.prog W .any base t v)
    (hW : DataW.Whole enc Try.prog Try.f6.params.toList Rows.ribSetSpec.vars false W args.toList ds gs before) (hsh : W.ShapedOpen Try.prog) :
    Calls Try.prog 6 args W fun e W' => ∃ v, e = .returned v ∧ Rows.ribSetSpec.post enc Try.prog Try.f6 false true false false W args v W' := by
  have hW' := hW
  obtain ⟨p, q, hA0, hV, rfl, hfz, hnd⟩ := hW
  have hA : DataW.TrodAll enc Try.prog W 0 (fun _ => true) true Try.f6.params.toList args.toList ds p := hA0
  rw [Try.params6] at hA hval
  obtain ⟨v0, vs0, d0, ds0, p0, q0, hargs, rfl, rfl, h0, r0⟩ := trodAll_cons hA
  obtain ⟨v1, vs1, d1, ds1, p1, q1, rfl, rfl, rfl, h1, r1⟩ := trodAll_cons r0
  obtain ⟨v2, vs2, d2, ds2, p2, q2, rfl, rfl, rfl, h2, r2⟩ := trodAll_cons r1
  obtain ⟨rfl, rfl, rfl⟩ := trodAll_nil r2
  obtain rfl : args = #[v0, v1, v2] := by cases args; simp_all
  obtain ⟨rfl, rfl⟩ := trodVars_none hV
  have k0 := h0
  have lt0 : ∀ x ∈ p0, x.block < W.heap.size := by obtain ⟨m, hm⟩ := k0; exact DataW.trod_lt m _ _ _ hm
  obtain ⟨b0, l0, c0, rfl⟩ := okWide_slice Try.underlying22 (hval 0 22 v0 rfl rfl)
  obtain ⟨fu0, hf0⟩ := h0
  obtain ⟨a0, len0, cap0, zs0, ce0, row0⟩ := open_rowG 7 cells56 ok56 (by omega) cells56_length Try.underlying22 (by kernel_rfl) elem56 hf0
  obtain ⟨rfl, rfl, rfl⟩ : a0 = b0 ∧ len0 = l0 ∧ cap0 = c0 := by simpa [Value.cells, eq_comm] using ce0
  have k1 := h1
  have lt1 : ∀ x ∈ p1, x.block < W.heap.size := by obtain ⟨m, hm⟩ := k1; exact DataW.trod_lt m _ _ _ hm
  obtain ⟨cs1, rfl, hs1⟩ := okWide_struct Try.underlying27 (hval 1 27 v1 rfl rfl)
  obtain ⟨u1a, u1b, u1c, u1d, u1e, u1f, rfl⟩ := arr6 (hs1.trans (by kernel_rfl))
  obtain ⟨fu1, hf1⟩ := h1
  obtain ⟨_, _, e17⟩ := field_at Try.underlying27 hf1 0 rfl 1 (by kernel_rfl)
  obtain ⟨a10, c18, _, w10⟩ := DataW.trod_int Try.underlying3 e17
  obtain rfl : u1a = .int .i64 a10 := by simpa [Value.cells] using c18
  obtain ⟨_, _, e19⟩ := field_at Try.underlying27 hf1 1 rfl 2 (by kernel_rfl)
  obtain ⟨_, _, e20⟩ := field_at Try.underlying25 e19 0 rfl 1 (by kernel_rfl)
  obtain ⟨a110, c21, _, w110⟩ := DataW.trod_int Try.underlying23 e20
  obtain rfl : u1b = .int .u32 a110 := by simpa [Value.cells] using c21
  obtain ⟨_, _, e22⟩ := field_at Try.underlying25 e19 1 rfl 1 (by kernel_rfl)
  obtain ⟨a111, c23, _, w111⟩ := DataW.trod_int Try.underlying3 e22
  obtain rfl : u1c = .int .i64 a111 := by simpa [Value.cells] using c23
  obtain ⟨_, _, e24⟩ := field_at Try.underlying27 hf1 2 rfl 1 (by kernel_rfl)
  obtain ⟨a12, c25, _, w12⟩ := DataW.trod_int Try.underlying3 e24
  obtain rfl : u1d = .int .i64 a12 := by simpa [Value.cells] using c25
  obtain ⟨_, _, e26⟩ := field_at Try.underlying27 hf1 3 rfl 1 (by kernel_rfl)
  obtain ⟨a13, c27, _, w13⟩ := DataW.trod_int Try.underlying23 e26
  obtain rfl : u1e = .int .u32 a13 := by simpa [Value.cells] using c27
  obtain ⟨_, _, e28⟩ := field_at Try.underlying27 hf1 4 rfl 1 (by kernel_rfl)
  obtain ⟨a14, c29, _, w14⟩ := DataW.trod_int Try.underlying3 e28
  obtain rfl : u1f = .int .i64 a14 := by simpa [Value.cells] using c29
  have k2 := h2
  have lt2 : ∀ x ∈ p2, x.block < W.heap.size := by obtain ⟨m, hm⟩ := k2; exact DataW.trod_lt m _ _ _ hm
  obtain ⟨b2, l2, c2, rfl⟩ := okWide_slice Try.underlying40 (hval 2 40 v2 rfl rfl)
  obtain ⟨fu2, hf2⟩ := h2
  obtain ⟨a2, len2, cap2, zs2, ce2, row2⟩ := open_rowG 1 cells4 ok4 (by omega) cells4_length Try.underlying40 (by kernel_rfl) elem4 hf2
  obtain ⟨rfl, rfl, rfl⟩ : a2 = b2 ∧ len2 = l2 ∧ cap2 = c2 := by simpa [Value.cells, eq_comm] using ce2
  clear hA0
  refine (walk a0 len0 cap0 zs0 a10 a110 a111 a12 a13 a14 a2 len2 cap2 zs2 W row0 w10 w110 w111 w12 w13 w14 row2 hsh).mono fun e W' ⟨he, bel⟩ => ?_
  subst he
  exact ⟨_, rfl, _, _, _, [], _, [], hW', trodAll_mk1 (shut_bool Try.underlying4 _), (trodAll_cons_mk (Below.trod laidOut (by kernel_rfl) (of_decide_eq_true (by kernel_rfl)) k0 bel lt0) (trodAll_cons_mk (Below.trod laidOut (by kernel_rfl) (of_decide_eq_true (by kernel_rfl)) k1 bel lt1) (trodAll_cons_mk (Below.trod laidOut (by kernel_rfl) (of_decide_eq_true (by kernel_rfl)) k2 bel lt2) trodAll_mk0))), rfl, bel.frame _, fun h => by cases h⟩

theorem laid_met (os : Os) : laidMet Try.prog Rows.ribSetRow.laid ((World.doorLaid Try.prog 24 os).forCall (fun _ _ => 0) ⟨#[], #[.slice none 0 0, .agg #[.int .i64 0, .int .u32 0, .int .i64 0, .int .i64 0, .int .u32 0, .int .i64 0], .slice none 0 0], []⟩).memory :=
  laidMet_of_run' 8 (by kernel_rfl) (by kernel_rfl)
theorem reads (os : Os) {H : Type} (enc : TypeId × Value → H) : ∃ places, DataW.whole enc Try.prog ((World.doorLaid Try.prog 24 os).forCall (fun _ _ => 0) ⟨#[], #[.slice none 0 0, .agg #[.int .i64 0, .int .u32 0, .int .i64 0, .int .i64 0, .int .u32 0, .int .i64 0], .slice none 0 0], []⟩).memory Try.f6.params.toList Rows.ribSetSpec.vars false (#[.slice none 0 0, .agg #[.int .i64 0, .int .u32 0, .int .i64 0, .int .i64 0, .int .u32 0, .int .i64 0], .slice none 0 0] : Array Value).toList 8 = some ([.nil, .agg [.lit (.int .i64 0), .agg [.lit (.int .u32 0), .lit (.int .i64 0)], .lit (.int .i64 0), .lit (.int .u32 0), .lit (.int .i64 0)], .nil], [], places) :=
  ⟨[], by kernel_rfl⟩

set_option maxRecDepth 100000 in
theorem lifted (os : Os) (started : os.Started) (H : Type) (enc : TypeId × Value → H) (F : Stop.Interp) :
    ReturnsInHanded {} Try.checked os 6 .any ((OpenSpec.ofChange Rows.ribSetSpec).preRow enc Try.prog Try.f6 Rows.ribSetRow.domain false Rows.ribSetRow.laid) (((OpenSpec.ofChange Rows.ribSetSpec).at F).post enc Try.prog Try.f6 false true false false) := by
  obtain ⟨places, hx⟩ := reads os enc
  refine returnsInHanded_of_row (C := Try.checked) (s := (OpenSpec.ofChange Rows.ribSetSpec)) own started (by kernel_rfl) Try.func6
    (witness_row_at (enc := enc) (C := Try.checked) false (World.doorLaid Try.prog 24 os) #[.slice none 0 0, .agg #[.int .i64 0, .int .u32 0, .int .i64 0, .int .i64 0, .int .u32 0, .int .i64 0], .slice none 0 0] rfl (by kernel_rfl) (by kernel_rfl) (by kernel_rfl)
      (OpenSpec.preRow_of_cond 8 hx (by kernel_rfl) (fun k hk => by cases hk) (by kernel_rfl) (laid_met os))) ?_
  intro W base args ds gs before hval hW _ hcond _ hL hsh _
  exact contract H enc W base args ds gs before hval hW hsh

theorem said : Rows.RibSetSaid :=
  OpenClaim.holds_of_cond 6 Try.f6 rfl rfl rfl rfl rfl rfl rfl ⟨rfl, rfl, rfl, rfl, rfl⟩ rfl rfl rfl rfl rfl (by kernel_rfl) Try.func6 (by kernel_rfl)
    (of_decide_eq_true (by kernel_rfl)) (by unfold Func.isWrapper; first | (rw [if_pos (by decide +kernel)]; kernel_rfl) | (rw [if_neg (by decide +kernel)]; exact ⟨rfl, rfl⟩))
    (fun os started H enc _ F => by rw [OpenClaim.pre_eq_preRow]; exact lifted os started H enc F)

end Go.Proofs.Ytbchfmadmcppkaa.ribSet

namespace Go.Proofs.Ytbchfmadmcppkaa
theorem ribSet_holds : Rows.RibSetSaid := ribSet.said
#print axioms ribSet_holds
end Go.Proofs.Ytbchfmadmcppkaa
