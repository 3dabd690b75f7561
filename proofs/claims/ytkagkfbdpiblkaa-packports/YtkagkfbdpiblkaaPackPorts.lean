/- For every two addresses, segment and place, the law PackPorts returns true: a segment's ports and flags are told, and its flow; of a later part nothing is; no condition. -/
import Derived.Test.YtkagkfbdpiblkaaRows
import Derived.Test.YtkagkfbdpiblkaaPack7
import Derived.Test.YtkagkfbdpiblkaaPackB
import Derived.Test.YtkagkfbdpiblkaaPackQ
import Derived.Test.YtkagkfbdpiblkaaTcp7
import Derived.Test.YtkagkfbdpiblkaaIp9
import Derived.Test.YtkagkfbdpiblkaaFrame
import Derived.WalkKit
import Derived.ProofKit
import Derived.OpenShut
import Derived.ShutString
import Derived.ChangeOld
import Derived.Deep.DeepHandedRow
import Derived.Lib.LaidTab
import Derived.Lib.SmallJoins
import Derived.LaidMore
import Derived.Stop.LaidErr
import Derived.ChangeMaps5
namespace Go.Proofs.Ytkagkfbdpiblkaa.packPorts
open Go.ChangeShapes Go.WideShapes Go.ChangeAt Go.RowKit Go.ChangeMaps
set_option linter.unusedVariables false
set_option maxRecDepth 100000

theorem own : ownKnob Try.prog.godebug = none := by kernel_rfl
theorem laidOut : laidOutB Try.prog = true := by kernel_rfl

theorem arr9 {α : Type} {cs : Array α} (h : cs.size = 9) : ∃ c0 c1 c2 c3 c4 c5 c6 c7 c8, cs = #[c0, c1, c2, c3, c4, c5, c6, c7, c8] := by
  obtain ⟨l⟩ := cs
  match l, h with
  | [c0, c1, c2, c3, c4, c5, c6, c7, c8], _ => exact ⟨c0, c1, c2, c3, c4, c5, c6, c7, c8, rfl⟩

set_option maxHeartbeats 4000000 in
theorem walk (a0 : Int) (a1 : Int) (a20 : Int) (a21 : Int) (a22 : Int) (a23 : Int) (a24 : Int) (a25 : Int) (a26 : Int) (a27 : Option Addr) (len27 cap27 : Nat) (zs27 : List Int) (a28 : Option Addr) (len28 cap28 : Nat) (zs28 : List Int) (a3 : Int) (w : World) (w0 : (Lit.int .u32 a0).wf = true) (w1 : (Lit.int .u32 a1).wf = true) (w20 : (Lit.int .i64 a20).wf = true) (w21 : (Lit.int .i64 a21).wf = true) (w22 : (Lit.int .u32 a22).wf = true) (w23 : (Lit.int .u32 a23).wf = true) (w24 : (Lit.int .i64 a24).wf = true) (w25 : (Lit.int .i64 a25).wf = true) (w26 : (Lit.int .i64 a26).wf = true) (row27 : IsRow .u8 w a27 len27 cap27 zs27) (row28 : IsRow .u8 w a28 len28 cap28 zs28) (w3 : (Lit.int .i64 a3).wf = true) (hsh : w.ShapedOpen Try.prog) :
    Calls Try.prog 6 #[.int .u32 a0, .int .u32 a1, .agg #[.int .i64 a20, .int .i64 a21, .int .u32 a22, .int .u32 a23, .int .i64 a24, .int .i64 a25, .int .i64 a26, .slice a27 len27 cap27, .slice a28 len28 cap28], .int .i64 a3] w fun e w' => e = .returned (.bool true) ∧ Below w.heap.size w w' := by
  have bs := bounds_u32 w0
  have bd := bounds_u32 w1
  have r7 := row27.bytes
  have z7 := row27.nil_cap
  have r8 := row28.bytes
  have z8 := row28.nil_cap
  have bq := bounds_u32 w22
  have bk := bounds_u32 w23
  have f : Tcp.Fine ⟨a20, a21, a22, a23, a24, a25, a26, zs27.take len27, zs28.take len28⟩ := ⟨bq.1, bq.2, bk.1, bk.2, r7.ok, r8.ok⟩
  have hx0 : Ext w (w.alloc (.cells #[.int .i64 a20, .int .i64 a21, .int .u32 a22, .int .u32 a23, .int .i64 a24, .int .i64 a25, .int .i64 a26, .slice a27 len27 cap27, .slice a28 len28 cap28] 52)) := (Ext.refl w).alloc _
  obtain ⟨b0, b1, b2, b3, b4, b5, b6, b7, b8⟩ := box_segE (heap_new' w (.cells #[.int .i64 a20, .int .i64 a21, .int .u32 a22, .int .u32 a23, .int .i64 a24, .int .i64 a25, .int .i64 a26, .slice a27 len27 cap27, .slice a28 len28 cap28] 52))
  by_cases hl7 : 40 < len27
  · clear f
    go_enter Try.func6, Try.ntmps6
    go_wp2
    go_ret
    exact ⟨rfl, hx0⟩
  by_cases hl8 : 1000 < len28
  · clear f
    go_enter Try.func6, Try.ntmps6
    go_wp2
    go_ret
    exact ⟨rfl, hx0⟩
  have ci := fun w => Tcp.refIs_any ⟨a20, a21, a22, a23, a24, a25, a26, zs27.take len27, zs28.take len28⟩ a27 len27 cap27 a28 len28 cap28 w r7.length r8.length (by omega) (by omega)
  by_cases his : Tcp.isV ⟨a20, a21, a22, a23, a24, a25, a26, zs27.take len27, zs28.take len28⟩ = true
  rotate_left
  · rw [Bool.not_eq_true] at his
    rw [his] at ci
    clear his f
    dsimp only at *
    go_enter Try.func6, Try.ntmps6
    go_wp2_with (go_at_call 24; refine (ci _).mono ?_; rintro e w2 ⟨rfl, hx2⟩)
    go_ret
    exact ⟨rfl, hx0.trans hx2⟩
  rw [his] at ci
  have hp := (Tcp.isV_iff _).1 his
  clear his
  by_cases ho0 : a3 < 0
  · clear f hp
    dsimp only at *
    go_enter Try.func6, Try.ntmps6
    go_wp2_with (go_at_call 24; refine (ci _).mono ?_; rintro e w2 ⟨rfl, hx2⟩)
    go_ret
    exact ⟨rfl, hx0.trans hx2⟩
  by_cases ho1 : 100 < a3
  · have ho0' : 0 ≤ a3 := by omega
    clear f hp
    dsimp only at *
    go_enter Try.func6, Try.ntmps6
    go_wp2_with (go_at_call 24; refine (ci _).mono ?_; rintro e w2 ⟨rfl, hx2⟩)
    go_ret
    exact ⟨rfl, hx0.trans hx2⟩
  have l7 : (⟨a20, a21, a22, a23, a24, a25, a26, zs27.take len27, zs28.take len28⟩ : Tcp.SEGv).opts.length = len27 := r7.length
  have l8 : (⟨a20, a21, a22, a23, a24, a25, a26, zs27.take len27, zs28.take len28⟩ : Tcp.SEGv).data.length = len28 := r8.length
  obtain ⟨N, hN⟩ : ∃ N, 20 + len27 + len28 = N := ⟨_, rfl⟩
  obtain ⟨M, hM⟩ : ∃ M, 20 + 0 + N = M := ⟨_, rfl⟩
  have lY : (Tcp.buildV a0 a1 ⟨a20, a21, a22, a23, a24, a25, a26, zs27.take len27, zs28.take len28⟩).length = N := by rw [Tcp.build_len, ← hN, l7, l8]
  have okY := Tcp.build_ok (s := a0) (d := a1) f hp bs.1 bs.2 bd.1 bd.2
  have cb := fun W h h' => (Tcp.refBuild_own a0 a1 ⟨a20, a21, a22, a23, a24, a25, a26, zs27.take len27, zs28.take len28⟩ a27 len27 cap27 a28 len28 cap28 W h z7 h' z8 f hp bs.1 bs.2 bd.1 bd.2 N hN).mono
    (fun e w' (h : Tcp.RefBuildOwn W a0 a1 ⟨a20, a21, a22, a23, a24, a25, a26, zs27.take len27, zs28.take len28⟩ N e w') => (show ∃ q c, e = .returned (.tuple #[.slice q N c, .int .i64 0]) ∧ w'.ownsRow W.heap.size 5 1 (.slice q N c) N ((Tcp.buildV a0 a1 ⟨a20, a21, a22, a23, a24, a25, a26, zs27.take len27, zs28.take len28⟩).map (Value.int .u8)) ∧ Ext W w' from h))
  have fF : Fine (Pack.ipS a0 a1 a3 (Tcp.buildV a0 a1 ⟨a20, a21, a22, a23, a24, a25, a26, zs27.take len27, zs28.take len28⟩)) := Pack.ipS_fine bs.1 bs.2 bd.1 bd.2 okY
  have fT : Fits (Pack.ipS a0 a1 a3 (Tcp.buildV a0 a1 ⟨a20, a21, a22, a23, a24, a25, a26, zs27.take len27, zs28.take len28⟩)) := Pack.ipS_fits (by omega) (by omega)
  have okF := build_ok fF fT
  have cf := fun q c W (h : Bytes W q N (Tcp.buildV a0 a1 ⟨a20, a21, a22, a23, a24, a25, a26, zs27.take len27, zs28.take len28⟩)) (hz : q = none → c = 0) => (refBuild_own (Pack.ipS a0 a1 a3 (Tcp.buildV a0 a1 ⟨a20, a21, a22, a23, a24, a25, a26, zs27.take len27, zs28.take len28⟩)) none 0 0 q N c W (bytes_nil W) (fun _ => rfl) h hz fF fT (by omega)).mono
    (fun e w' (h : RefBuildOwn W (Pack.ipS a0 a1 a3 (Tcp.buildV a0 a1 ⟨a20, a21, a22, a23, a24, a25, a26, zs27.take len27, zs28.take len28⟩)) (20 + 0 + N) e w') => (show ∃ q c, e = .returned (.tuple #[.slice q (20 + 0 + N) c, .int .i64 0]) ∧ w'.ownsRow W.heap.size 5 1 (.slice q (20 + 0 + N) c) (20 + 0 + N) ((buildV (Pack.ipS a0 a1 a3 (Tcp.buildV a0 a1 ⟨a20, a21, a22, a23, a24, a25, a26, zs27.take len27, zs28.take len28⟩))).map (Value.int .u8)) ∧ Ext W w' from h))
  rw [hM] at cf
  have cp := fun q c W (h : Bytes W q M (buildV (Pack.ipS a0 a1 a3 (Tcp.buildV a0 a1 ⟨a20, a21, a22, a23, a24, a25, a26, zs27.take len27, zs28.take len28⟩)))) (hc : M ≤ c) => (Pack.packParse_any q M c _ W h hc (by omega)).mono
    (fun e w' (h : Pack.PackAns W _ e w') => (show ∃ v, e = .returned (.tuple #[v, .int .i64 (Pack.lookX (buildV (Pack.ipS a0 a1 a3 (Tcp.buildV a0 a1 ⟨a20, a21, a22, a23, a24, a25, a26, zs27.take len27, zs28.take len28⟩))))]) ∧ Pack.IsPkt w' v (Pack.packX (buildV (Pack.ipS a0 a1 a3 (Tcp.buildV a0 a1 ⟨a20, a21, a22, a23, a24, a25, a26, zs27.take len27, zs28.take len28⟩)))) ∧ Ext W w' from h))
  by_cases hoz : 0 < a3
  · obtain ⟨f1, f2⟩ := Pack.ipS_later bs.1 bs.2 bd.1 bd.2 okY (by rw [lY]; omega) hoz (by omega)
    rw [f1, f2] at cp
    clear f1 f2 fF fT f hp
    generalize buildV (Pack.ipS a0 a1 a3 (Tcp.buildV a0 a1 ⟨a20, a21, a22, a23, a24, a25, a26, zs27.take len27, zs28.take len28⟩)) = F at *
    generalize Tcp.buildV a0 a1 ⟨a20, a21, a22, a23, a24, a25, a26, zs27.take len27, zs28.take len28⟩ = Y at *
    have ho0' : 0 ≤ a3 := by omega
    have ho1' : a3 ≤ 100 := by omega
    simp only [Pack.ipS] at cf cp
    dsimp only at *
    go_enter Try.func6, Try.ntmps6
    go_wp2_with (first
      | (go_at_call 24; refine (ci _).mono ?_; rintro e w2 ⟨rfl, hx2⟩)
      | (go_at_call 25; refine (cb _ (r7.below (hx0.trans hx2)) (r8.below (hx0.trans hx2))).mono ?_; rintro e w3 ⟨q, c, rfl, ho, hx3⟩; obtain ⟨t3, z3, hc3⟩ := owns_slice ho okY)
      | (go_at_call 21; refine (cf _ _ _ t3 z3).mono ?_; rintro e w4 ⟨q4, c4, rfl, ho4, hx4⟩; obtain ⟨t4, z4, hc4⟩ := owns_slice ho4 okF)
      | (go_at_call 8; refine (cp _ _ _ t4 hc4).mono ?_; rintro e w5 ⟨v, rfl, ⟨⟨g1, l1, e1, g2, l2, e2, kp, rfl, hg1, hg2, hk1⟩⟩, hx5⟩; dsimp only)
      | (refine wpl_store (by rfl) 28 _ _ rfl rfl 18 w5.heap.size _ _ _ rfl rfl (heap_new' w5 _) Pack.pkt_size rfl rfl (by simp [Value.oneCell']) ?_; intro w6 hx6 k6; have hx56 : Ext w5 w6 := ExtX.ext ((Ext.refl w5).alloc _) hx6 (Nat.le_refl _); have mb := heap_cell (k := 11) k6; have mc := heap_cell (k := 12) k6; have md := heap_cell (k := 13) k6; have me := heap_cell (k := 14) k6; have K6 : Hid _ := k6; clear k6)
      | (go_at_call 11; refine (Pack.known_any _).mono ?_; rintro e w7 ⟨rfl, hx7⟩))
    go_ret
    exact ⟨rfl, hx0.trans (hx2.trans (hx3.trans (hx4.trans (hx5.trans (hx56.trans hx7)))))⟩
  · obtain rfl : a3 = 0 := by omega
    obtain ⟨f1, f2⟩ := Pack.ipS_whole bs.1 bs.2 bd.1 bd.2 f hp (by rw [lY]; omega)
    rw [f1, f2] at cp
    clear f1 f2 fF fT f hp
    generalize buildV (Pack.ipS a0 a1 0 (Tcp.buildV a0 a1 ⟨a20, a21, a22, a23, a24, a25, a26, zs27.take len27, zs28.take len28⟩)) = F at *
    generalize Tcp.buildV a0 a1 ⟨a20, a21, a22, a23, a24, a25, a26, zs27.take len27, zs28.take len28⟩ = Y at *
    simp only [Pack.ipS] at cf cp
    dsimp only at *
    have eg := Pack.key_guard
    have eq := fun w => Pack.eql_key ⟨6, a0, a1, a20, a21⟩ ⟨6, a0, a1, a20, a21⟩ w
    rw [Pack.keySame_self] at eq
    dsimp only at eq
    go_enter Try.func6, Try.ntmps6
    go_wp2_with (first
      | (go_at_call 24; refine (ci _).mono ?_; rintro e w2 ⟨rfl, hx2⟩)
      | (go_at_call 25; refine (cb _ (r7.below (hx0.trans hx2)) (r8.below (hx0.trans hx2))).mono ?_; rintro e w3 ⟨q, c, rfl, ho, hx3⟩; obtain ⟨t3, z3, hc3⟩ := owns_slice ho okY)
      | (go_at_call 21; refine (cf _ _ _ t3 z3).mono ?_; rintro e w4 ⟨q4, c4, rfl, ho4, hx4⟩; obtain ⟨t4, z4, hc4⟩ := owns_slice ho4 okF)
      | (go_at_call 8; refine (cp _ _ _ t4 hc4).mono ?_; rintro e w5 ⟨v, rfl, ⟨⟨g1, l1, e1, g2, l2, e2, kp, rfl, hg1, hg2, hk1⟩⟩, hx5⟩; dsimp only)
      | (refine wpl_store (by rfl) 28 _ _ rfl rfl 18 w5.heap.size _ _ _ rfl rfl (heap_new' w5 _) Pack.pkt_size rfl rfl (by simp [Value.oneCell']) ?_; intro w6 hx6 k6; have hx56 : Ext w5 w6 := ExtX.ext ((Ext.refl w5).alloc _) hx6 (Nat.le_refl _); have mb := heap_cell (k := 11) k6; have mc := heap_cell (k := 12) k6; have md := heap_cell (k := 13) k6; have me := heap_cell (k := 14) k6; have K6 : Hid _ := k6; clear k6)
      | (go_at_call 11; refine (Pack.known_any _).mono ?_; rintro e w7 ⟨rfl, hx7⟩))
    have hV : Ext w6 w6.drew := (Ext.refl w6).drew
    refine wp_region_eager [(0, false), (1, false), (2, false), (3, false), (4, false), (5, false), (6, false), (7, false), (8, false), (9, false), (10, false), (11, false), (12, false), (13, false), (14, false), (15, false), (16, false), (17, false), (18, false), (19, false), (20, false), (21, false), (22, false), (23, false), (24, false), (25, false), (27, false), (28, false), (29, false), (30, false), (31, false), (32, false), (33, false), (26, true), (34, false), (35, false), (36, false), (37, true), (38, false), (39, false)] (by kernel_rfl) (by kernel_rfl) rfl (by kernel_rfl) (fun _ _ _ _ _ h => h) ?_
    have k6 := hV.heap K6.out
    have hX6 := hx2.trans (hx3.trans (hx4.trans (hx5.trans (hx56.trans hV))))
    generalize w6.drew = V at *
    generalize w5.heap.size = g at *
    replace mb : ∀ w', Ext V w' → w'.cell? ⟨g, 11, none⟩ = some (.int .i64 0) := fun w' h => heap_cell (k := 11) (h.heap k6)
    replace mc : ∀ w', Ext V w' → w'.cell? ⟨g, 12, none⟩ = some (.int .i64 a20) := fun w' h => heap_cell (k := 12) (h.heap k6)
    replace md : ∀ w', Ext V w' → w'.cell? ⟨g, 13, none⟩ = some (.int .i64 a21) := fun w' h => heap_cell (k := 13) (h.heap k6)
    replace me : ∀ w', Ext V w' → w'.cell? ⟨g, 14, none⟩ = some (.int .i64 a24) := fun w' h => heap_cell (k := 14) (h.heap k6)
    replace b0 := fun w' h => b0 w' (hX6.trans h)
    replace b1 := fun w' h => b1 w' (hX6.trans h)
    replace b4 := fun w' h => b4 w' (hX6.trans h)
    have KV : Hid _ := k6
    clear k6 b2 b3 b5 b6 b7 b8 K6
    iterate 25 (refine wpE_read (v := ?_) rfl (by rfl) ?_ ?_; rotate_left; (focus (intro w' hx; go_simp; first | done | with_reducible rfl)); simp only [Act.put, List.setIfInBounds_toArray, List.set_cons_zero, List.set_cons_succ])
    refine wpE_read rfl (by rfl) (fun w' hx => exec_load 28 _ rfl g _ _ _ rfl (hx.heap KV.out) Try.underlying28 rfl Pack.pkt_size) ?_
    simp only [Act.put, List.setIfInBounds_toArray, List.set_cons_zero, List.set_cons_succ]
    iterate 7 (refine wpE_read (v := ?_) rfl (by rfl) ?_ ?_; rotate_left; (focus (intro w' hx; go_simp; first | done | with_reducible rfl)); simp only [Act.put, List.setIfInBounds_toArray, List.set_cons_zero, List.set_cons_succ])
    refine wpE_call rfl (by rfl) (fun K hK => ?_); go_simp; (go_at_call 13; refine (Pack.keyOf_any _ _ _ _ _ _ _ _ _ _ _ _ _ _ _ _ _ _ _ _ _ _ _).mono ?_; rintro e w8 ⟨rfl, hx8⟩; refine hK _ _ hx8 ?_; clear hK K)
    iterate 3 (refine wpE_read (v := ?_) rfl (by rfl) ?_ ?_; rotate_left; (focus (intro w' hx; go_simp; first | done | with_reducible rfl)); simp only [Act.put, List.setIfInBounds_toArray, List.set_cons_zero, List.set_cons_succ])
    refine wpE_call rfl (by rfl) (fun K hK => ?_); go_simp; (go_at_call 11; refine (Pack.known_any _).mono ?_; rintro e w9 ⟨rfl, hx9⟩; refine hK _ _ hx9 ?_; clear hK K)
    iterate 2 (refine wpE_read (v := ?_) rfl (by rfl) ?_ ?_; rotate_left; (focus (intro w' hx; go_simp; first | done | with_reducible rfl)); simp only [Act.put, List.setIfInBounds_toArray, List.set_cons_zero, List.set_cons_succ])
    refine wpE_done ?_
    go_wp2
    go_ret
    exact ⟨rfl, hx0.trans (hX6.trans (hx8.trans hx9))⟩

theorem contract (H : Type) (enc : TypeId × Value → H) (W : World) (base : Nat) (args : Array Value) (ds gs : List (DataW H)) (before : List MemPlace)
    (hval : ∀ (j : Nat) t v, Try.f6.params[j]? = some t → args[j]? = some v → Value.okWide Try.prog W .any base t v)
    (hW : DataW.Whole enc Try.prog Try.f6.params.toList Rows.packPortsSpec.vars false W args.toList ds gs before) (hsh : W.ShapedOpen Try.prog) :
    Calls Try.prog 6 args W fun e W' => ∃ v, e = .returned v ∧ Rows.packPortsSpec.post enc Try.prog Try.f6 false true false false W args v W' := by
  have hW' := hW
  obtain ⟨p, q, hA0, hV, rfl, hfz, hnd⟩ := hW
  have hA : DataW.TrodAll enc Try.prog W 0 (fun _ => true) true Try.f6.params.toList args.toList ds p := hA0
  rw [Try.params6] at hA hval
  obtain ⟨v0, vs0, d0, ds0, p0, q0, hargs, rfl, rfl, h0, r0⟩ := trodAll_cons hA
  obtain ⟨v1, vs1, d1, ds1, p1, q1, rfl, rfl, rfl, h1, r1⟩ := trodAll_cons r0
  obtain ⟨v2, vs2, d2, ds2, p2, q2, rfl, rfl, rfl, h2, r2⟩ := trodAll_cons r1
  obtain ⟨v3, vs3, d3, ds3, p3, q3, rfl, rfl, rfl, h3, r3⟩ := trodAll_cons r2
  obtain ⟨rfl, rfl, rfl⟩ := trodAll_nil r3
  obtain rfl : args = #[v0, v1, v2, v3] := by cases args; simp_all
  obtain ⟨rfl, rfl⟩ := trodVars_none hV
  obtain ⟨a0, rfl, rfl, rfl, w0⟩ := open_int Try.underlying23 (hval 0 23 v0 rfl rfl) h0
  obtain ⟨a1, rfl, rfl, rfl, w1⟩ := open_int Try.underlying23 (hval 1 23 v1 rfl rfl) h1
  have k2 := h2
  have lt2 : ∀ x ∈ p2, x.block < W.heap.size := by obtain ⟨m, hm⟩ := k2; exact DataW.trod_lt m _ _ _ hm
  obtain ⟨cs2, rfl, hs2⟩ := okWide_struct Try.underlying52 (hval 2 52 v2 rfl rfl)
  obtain ⟨u2a, u2b, u2c, u2d, u2e, u2f, u2g, u2h, u2i, rfl⟩ := arr9 (hs2.trans (by kernel_rfl))
  obtain ⟨fu2, hf2⟩ := h2
  obtain ⟨_, _, e1⟩ := field_at Try.underlying52 hf2 0 rfl 1 (by kernel_rfl)
  obtain ⟨a20, c2, _, w20⟩ := DataW.trod_int Try.underlying3 e1
  obtain rfl : u2a = .int .i64 a20 := by simpa [Value.cells] using c2
  obtain ⟨_, _, e3⟩ := field_at Try.underlying52 hf2 1 rfl 1 (by kernel_rfl)
  obtain ⟨a21, c4, _, w21⟩ := DataW.trod_int Try.underlying3 e3
  obtain rfl : u2b = .int .i64 a21 := by simpa [Value.cells] using c4
  obtain ⟨_, _, e5⟩ := field_at Try.underlying52 hf2 2 rfl 1 (by kernel_rfl)
  obtain ⟨a22, c6, _, w22⟩ := DataW.trod_int Try.underlying23 e5
  obtain rfl : u2c = .int .u32 a22 := by simpa [Value.cells] using c6
  obtain ⟨_, _, e7⟩ := field_at Try.underlying52 hf2 3 rfl 1 (by kernel_rfl)
  obtain ⟨a23, c8, _, w23⟩ := DataW.trod_int Try.underlying23 e7
  obtain rfl : u2d = .int .u32 a23 := by simpa [Value.cells] using c8
  obtain ⟨_, _, e9⟩ := field_at Try.underlying52 hf2 4 rfl 1 (by kernel_rfl)
  obtain ⟨a24, c10, _, w24⟩ := DataW.trod_int Try.underlying3 e9
  obtain rfl : u2e = .int .i64 a24 := by simpa [Value.cells] using c10
  obtain ⟨_, _, e11⟩ := field_at Try.underlying52 hf2 5 rfl 1 (by kernel_rfl)
  obtain ⟨a25, c12, _, w25⟩ := DataW.trod_int Try.underlying3 e11
  obtain rfl : u2f = .int .i64 a25 := by simpa [Value.cells] using c12
  obtain ⟨_, _, e13⟩ := field_at Try.underlying52 hf2 6 rfl 1 (by kernel_rfl)
  obtain ⟨a26, c14, _, w26⟩ := DataW.trod_int Try.underlying3 e13
  obtain rfl : u2g = .int .i64 a26 := by simpa [Value.cells] using c14
  obtain ⟨_, _, e15⟩ := field_at Try.underlying52 hf2 7 rfl 1 (by kernel_rfl)
  obtain ⟨a27, len27, cap27, zs27, c16, row27⟩ := open_rowI Try.underlying22 Try.underlying5 (by kernel_rfl) (fun _ => rfl) e15
  obtain rfl : u2h = .slice a27 len27 cap27 := by simpa [Value.cells] using c16
  obtain ⟨_, _, e17⟩ := field_at Try.underlying52 hf2 8 rfl 1 (by kernel_rfl)
  obtain ⟨a28, len28, cap28, zs28, c18, row28⟩ := open_rowI Try.underlying22 Try.underlying5 (by kernel_rfl) (fun _ => rfl) e17
  obtain rfl : u2i = .slice a28 len28 cap28 := by simpa [Value.cells] using c18
  obtain ⟨a3, rfl, rfl, rfl, w3⟩ := open_int Try.underlying3 (hval 3 3 v3 rfl rfl) h3
  clear hA0
  refine (walk a0 a1 a20 a21 a22 a23 a24 a25 a26 a27 len27 cap27 zs27 a28 len28 cap28 zs28 a3 W w0 w1 w20 w21 w22 w23 w24 w25 w26 row27 row28 w3 hsh).mono fun e W' ⟨he, bel⟩ => ?_
  subst he
  exact ⟨_, rfl, _, _, _, [], _, [], hW', trodAll_mk1 (shut_bool Try.underlying4 _), (trodAll_cons_mk (shut_int Try.underlying23 w0) (trodAll_cons_mk (shut_int Try.underlying23 w1) (trodAll_cons_mk (Below.trod laidOut (by kernel_rfl) (of_decide_eq_true (by kernel_rfl)) k2 bel lt2) (trodAll_cons_mk (shut_int Try.underlying3 w3) trodAll_mk0)))), rfl, bel.frame _, fun h => by cases h⟩

theorem laid_met (os : Os) : laidMet Try.prog Rows.packPortsRow.laid ((World.doorLaid Try.prog 24 os).forCall (fun _ _ => 0) ⟨#[], #[.int .u32 0, .int .u32 0, .agg #[.int .i64 0, .int .i64 0, .int .u32 0, .int .u32 0, .int .i64 0, .int .i64 0, .int .i64 0, .slice none 0 0, .slice none 0 0], .int .i64 0], []⟩).memory :=
  laidMet_of_run' 8 (by kernel_rfl) (by kernel_rfl)
theorem reads (os : Os) {H : Type} (enc : TypeId × Value → H) : ∃ places, DataW.whole enc Try.prog ((World.doorLaid Try.prog 24 os).forCall (fun _ _ => 0) ⟨#[], #[.int .u32 0, .int .u32 0, .agg #[.int .i64 0, .int .i64 0, .int .u32 0, .int .u32 0, .int .i64 0, .int .i64 0, .int .i64 0, .slice none 0 0, .slice none 0 0], .int .i64 0], []⟩).memory Try.f6.params.toList Rows.packPortsSpec.vars false (#[.int .u32 0, .int .u32 0, .agg #[.int .i64 0, .int .i64 0, .int .u32 0, .int .u32 0, .int .i64 0, .int .i64 0, .int .i64 0, .slice none 0 0, .slice none 0 0], .int .i64 0] : Array Value).toList 8 = some ([.lit (.int .u32 0), .lit (.int .u32 0), .agg [.lit (.int .i64 0), .lit (.int .i64 0), .lit (.int .u32 0), .lit (.int .u32 0), .lit (.int .i64 0), .lit (.int .i64 0), .lit (.int .i64 0), .nil, .nil], .lit (.int .i64 0)], [], places) :=
  ⟨[], by kernel_rfl⟩

set_option maxRecDepth 100000 in
theorem lifted (os : Os) (started : os.Started) (H : Type) (enc : TypeId × Value → H) (F : Stop.Interp) :
    ReturnsInHanded {} Try.checked os 6 .any ((OpenSpec.ofChange Rows.packPortsSpec).preRow enc Try.prog Try.f6 Rows.packPortsRow.domain false Rows.packPortsRow.laid) (((OpenSpec.ofChange Rows.packPortsSpec).at F).post enc Try.prog Try.f6 false true false false) := by
  obtain ⟨places, hx⟩ := reads os enc
  refine returnsInHanded_of_row (C := Try.checked) (s := (OpenSpec.ofChange Rows.packPortsSpec)) own started (by kernel_rfl) Try.func6
    (witness_row_at (enc := enc) (C := Try.checked) false (World.doorLaid Try.prog 24 os) #[.int .u32 0, .int .u32 0, .agg #[.int .i64 0, .int .i64 0, .int .u32 0, .int .u32 0, .int .i64 0, .int .i64 0, .int .i64 0, .slice none 0 0, .slice none 0 0], .int .i64 0] rfl (by kernel_rfl) (by kernel_rfl) (by kernel_rfl)
      (OpenSpec.preRow_of_cond 8 hx (by kernel_rfl) (fun k hk => by cases hk) (by kernel_rfl) (laid_met os))) ?_
  intro W base args ds gs before hval hW _ hcond _ hL hsh _
  exact contract H enc W base args ds gs before hval hW hsh

theorem said : Rows.PackPortsSaid :=
  OpenClaim.holds_of_cond 6 Try.f6 rfl rfl rfl rfl rfl rfl rfl ⟨rfl, rfl, rfl, rfl, rfl⟩ rfl rfl rfl rfl rfl (by kernel_rfl) Try.func6 (by kernel_rfl)
    (of_decide_eq_true (by kernel_rfl)) (by unfold Func.isWrapper; first | (rw [if_pos (by decide +kernel)]; kernel_rfl) | (rw [if_neg (by decide +kernel)]; exact ⟨rfl, rfl⟩))
    (fun os started H enc _ F => by rw [OpenClaim.pre_eq_preRow]; exact lifted os started H enc F)

end Go.Proofs.Ytkagkfbdpiblkaa.packPorts

namespace Go.Proofs.Ytkagkfbdpiblkaa
theorem packPorts_holds : Rows.PackPortsSaid := packPorts.said
#print axioms packPorts_holds
end Go.Proofs.Ytkagkfbdpiblkaa
