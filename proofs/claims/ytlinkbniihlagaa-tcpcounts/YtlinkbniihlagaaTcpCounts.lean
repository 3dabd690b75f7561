/- For every number, bytes and two bools, the law TcpCounts returns true: a reset of what has no ACK counts each byte, SYN and FIN; no condition. -/
import Derived.Test.YtlinkbniihlagaaRows
import Derived.Test.YtlinkbniihlagaaTcp4K
import Derived.Test.YtlinkbniihlagaaFrame
import Derived.WalkKit
import Derived.ProofKit
import Derived.OpenShut
import Derived.ShutString
import Derived.ChangeOld
import Derived.Deep.DeepHandedRow
import Derived.Lib.LaidTab
import Derived.Lib.SmallJoins
import Derived.LaidMore
import Derived.Stop.LaidErr
import Derived.ChangeMaps5
namespace Go.Proofs.Ytlinkbniihlagaa.tcpCounts
open Go.ChangeShapes Go.WideShapes Go.ChangeAt Go.RowKit Go.ChangeMaps
set_option linter.unusedVariables false

theorem own : ownKnob Try.prog.godebug = none := by kernel_rfl
theorem laidOut : laidOutB Try.prog = true := by kernel_rfl

theorem first (q F k : Int) (xs : List Int) (a1 : Option Addr) (len1 cap1 : Nat) (w : World) (hl : xs.length = len1) (hn : len1 ≤ 1000) (q0 : 0 ≤ q) (q1 : q ≤ 4294967295) (h4 : (bits .and .i64 F 4 != 0) = false) (h16 : (bits .and .i64 F 16 != 0) = false)
    (hk : (if (bits .and .i64 F 2 != 0) = true then (1 : Int) else 0) + (if (bits .and .i64 F 1 != 0) = true then 1 else 0) = k) :
    Calls Try.prog 16 #[.agg #[.int .i64 5, .int .i64 6, .int .u32 q, .int .u32 0, .int .i64 F, .int .i64 0, .int .i64 0, .slice none 0 0, .slice a1 len1 cap1]] w fun e w' =>
      e = .returned (.tuple #[.agg #[.int .i64 6, .int .i64 5, .int .u32 0, .int .u32 ((q + (len1 : Int) + k) % 4294967296), .int .i64 20, .int .i64 0, .int .i64 0, .slice none 0 0, .slice none 0 0], .bool true]) ∧ Ext w w' := by
  have h := Tcp.reset_any ⟨5, 6, q, 0, F, 0, 0, [], xs⟩ none 0 0 a1 len1 cap1 w hl (by omega) q0 q1
  rw [Tcp.resetE_non (p := ⟨5, 6, q, 0, F, 0, 0, [], xs⟩) h4 h16] at h
  have e : (q + Tcp.roomV ⟨5, 6, q, 0, F, 0, 0, [], xs⟩) % 4294967296 = (q + (len1 : Int) + k) % 4294967296 := by
    unfold Tcp.roomV Tcp.flagV
    dsimp only
    rw [hl]
    omega
  dsimp only at h
  rw [e] at h
  exact h

theorem second (q F : Int) (xs : List Int) (a1 : Option Addr) (len1 cap1 : Nat) (w : World) (hl : xs.length = len1) (hn : len1 ≤ 1000) (q0 : 0 ≤ q) (q1 : q ≤ 4294967295) (h4 : (bits .and .i64 F 4 != 0) = false) (h16 : (bits .and .i64 F 16 != 0) = true) :
    Calls Try.prog 16 #[.agg #[.int .i64 5, .int .i64 6, .int .u32 q, .int .u32 99, .int .i64 F, .int .i64 0, .int .i64 0, .slice none 0 0, .slice a1 len1 cap1]] w fun e w' =>
      e = .returned (.tuple #[.agg #[.int .i64 6, .int .i64 5, .int .u32 99, .int .u32 0, .int .i64 4, .int .i64 0, .int .i64 0, .slice none 0 0, .slice none 0 0], .bool true]) ∧ Ext w w' := by
  have h := Tcp.reset_any ⟨5, 6, q, 99, F, 0, 0, [], xs⟩ none 0 0 a1 len1 cap1 w hl (by omega) q0 q1
  rw [Tcp.resetE_ack (p := ⟨5, 6, q, 99, F, 0, 0, [], xs⟩) h4 h16] at h
  exact h

set_option maxHeartbeats 4000000 in
theorem walk (a0 : Int) (a1 : Option Addr) (len1 cap1 : Nat) (zs1 : List Int) (a2 : Bool) (a3 : Bool) (w : World) (w0 : (Lit.int .u32 a0).wf = true) (row1 : IsRow .u8 w a1 len1 cap1 zs1) (hsh : w.ShapedOpen Try.prog) :
    Calls Try.prog 8 #[.int .u32 a0, .slice a1 len1 cap1, .bool a2, .bool a3] w fun e w' => e = .returned (.bool true) ∧ Below w.heap.size w w' := by
  have r1 := row1.bytes
  have bq := bounds_u32 w0
  have l1 := r1.length
  by_cases hlong : 1000 < len1
  · clear r1 l1 bq
    go_enter Try.func8, Try.ntmps8
    go_wp2
    go_ret
    exact ⟨rfl, Ext.refl w⟩
  cases a2 <;> cases a3
  · have cr := fun w => first a0 0 0 (zs1.take len1) a1 len1 cap1 w l1 (by omega) bq.1 bq.2 (by decide) (by decide) (by decide)
    rw [show (a0 + (len1 : Int) + 0) % 4294967296 = (a0 + (len1 : Int)) % 4294967296 by omega] at cr
    have cq := fun w => second a0 16 (zs1.take len1) a1 len1 cap1 w l1 (by omega) bq.1 bq.2 (by decide) (by decide)
    have o0 : bits .or .i64 0 16 = 16 := by decide
    have tok1 : Hid True := trivial
    replace hlong : len1 ≤ 1000 := by omega
    go_enter Try.func8, Try.ntmps8
    go_wp2_with (first
      | (go_at_call 16; clear tok1; refine (cr _).mono ?_; rintro e w1 ⟨rfl, hx1⟩; have kA := hx1.heap (heap_new' w (.cells #[.int .i64 5, .int .i64 6, .int .u32 a0, .int .u32 0, .int .i64 0, .int .i64 0, .int .i64 0, .slice none 0 0, .slice a1 len1 cap1] 25)); have hne : w.heap.size ≠ w1.heap.size := (by have := block_of kA; omega); have hXa : Ext w1 (w1.alloc (.cells #[.int .i64 6, .int .i64 5, .int .u32 0, .int .u32 ((a0 + (len1 : Int)) % 4294967296), .int .i64 20, .int .i64 0, .int .i64 0, .slice none 0 0, .slice none 0 0] 25)) := (Ext.refl w1).alloc _; have f0 := frozen_ip (hXa.heap kA); have KA : Hid _ := kA; obtain ⟨d0, d1, d2, d3, d4, d5, d6, d7, d8⟩ := box_segE kA; clear kA)
      | (go_at_call 16; refine (cq _).mono ?_; rintro e w2 ⟨rfl, hx2⟩; have hS := (((ExtX.refl w.heap.size (w1.alloc (.cells #[.int .i64 6, .int .i64 5, .int .u32 0, .int .u32 ((a0 + (len1 : Int)) % 4294967296), .int .i64 20, .int .i64 0, .int .i64 0, .slice none 0 0, .slice none 0 0] 25))).setCell (p := ⟨w.heap.size, 4, none⟩) rfl (.int .i64 16)).setCell (p := ⟨w.heap.size, 3, none⟩) rfl (.int .u32 99)); have kR := hx2.heap ((hS.block w1.heap.size (by simp) (Ne.symm hne)).trans (heap_new' w1 (.cells #[.int .i64 6, .int .i64 5, .int .u32 0, .int .u32 ((a0 + (len1 : Int)) % 4294967296), .int .i64 20, .int .i64 0, .int .i64 0, .slice none 0 0, .slice none 0 0] 25))); obtain ⟨r0, r1', r2, r3, r4, r5, r6, r7, r8⟩ := box_segE kR; have hX2 : Ext w w2 := (ExtX.ext (((Ext.refl w).alloc _).trans (hx1.trans hXa)) hS (Nat.le_refl _)).trans hx2; have hx2a : Ext w2 (w2.alloc (.cells #[.int .i64 6, .int .i64 5, .int .u32 99, .int .u32 0, .int .i64 4, .int .i64 0, .int .i64 0, .slice none 0 0, .slice none 0 0] 25)) := (Ext.refl w2).alloc _; clear kR hS d0 d1 d2 d3 d4 d5 d6 d7 d8 f0)
      | (go_at_call 12; refine (Tcp.known_any _).mono ?_; rintro e w3 ⟨rfl, hx3⟩))
    go_ret
    exact ⟨rfl, hX2.trans (hx2a.trans hx3)⟩
  · have cr := fun w => first a0 1 1 (zs1.take len1) a1 len1 cap1 w l1 (by omega) bq.1 bq.2 (by decide) (by decide) (by decide)
    have cq := fun w => second a0 17 (zs1.take len1) a1 len1 cap1 w l1 (by omega) bq.1 bq.2 (by decide) (by decide)
    have o0 : bits .or .i64 0 1 = 1 := by decide
    have o1 : bits .or .i64 1 16 = 17 := by decide
    have tok1 : Hid True := trivial
    replace hlong : len1 ≤ 1000 := by omega
    go_enter Try.func8, Try.ntmps8
    go_wp2_with (first
      | (go_at_call 16; clear tok1; refine (cr _).mono ?_; rintro e w1 ⟨rfl, hx1⟩; have kA := hx1.heap (heap_new' w (.cells #[.int .i64 5, .int .i64 6, .int .u32 a0, .int .u32 0, .int .i64 1, .int .i64 0, .int .i64 0, .slice none 0 0, .slice a1 len1 cap1] 25)); have hne : w.heap.size ≠ w1.heap.size := (by have := block_of kA; omega); have hXa : Ext w1 (w1.alloc (.cells #[.int .i64 6, .int .i64 5, .int .u32 0, .int .u32 ((a0 + (len1 : Int) + 1) % 4294967296), .int .i64 20, .int .i64 0, .int .i64 0, .slice none 0 0, .slice none 0 0] 25)) := (Ext.refl w1).alloc _; have f0 := frozen_ip (hXa.heap kA); have KA : Hid _ := kA; obtain ⟨d0, d1, d2, d3, d4, d5, d6, d7, d8⟩ := box_segE kA; clear kA)
      | (go_at_call 16; refine (cq _).mono ?_; rintro e w2 ⟨rfl, hx2⟩; have hS := (((ExtX.refl w.heap.size (w1.alloc (.cells #[.int .i64 6, .int .i64 5, .int .u32 0, .int .u32 ((a0 + (len1 : Int) + 1) % 4294967296), .int .i64 20, .int .i64 0, .int .i64 0, .slice none 0 0, .slice none 0 0] 25))).setCell (p := ⟨w.heap.size, 4, none⟩) rfl (.int .i64 17)).setCell (p := ⟨w.heap.size, 3, none⟩) rfl (.int .u32 99)); have kR := hx2.heap ((hS.block w1.heap.size (by simp) (Ne.symm hne)).trans (heap_new' w1 (.cells #[.int .i64 6, .int .i64 5, .int .u32 0, .int .u32 ((a0 + (len1 : Int) + 1) % 4294967296), .int .i64 20, .int .i64 0, .int .i64 0, .slice none 0 0, .slice none 0 0] 25))); obtain ⟨r0, r1', r2, r3, r4, r5, r6, r7, r8⟩ := box_segE kR; have hX2 : Ext w w2 := (ExtX.ext (((Ext.refl w).alloc _).trans (hx1.trans hXa)) hS (Nat.le_refl _)).trans hx2; have hx2a : Ext w2 (w2.alloc (.cells #[.int .i64 6, .int .i64 5, .int .u32 99, .int .u32 0, .int .i64 4, .int .i64 0, .int .i64 0, .slice none 0 0, .slice none 0 0] 25)) := (Ext.refl w2).alloc _; clear kR hS d0 d1 d2 d3 d4 d5 d6 d7 d8 f0)
      | (go_at_call 12; refine (Tcp.known_any _).mono ?_; rintro e w3 ⟨rfl, hx3⟩))
    go_ret
    exact ⟨rfl, hX2.trans (hx2a.trans hx3)⟩
  · have cr := fun w => first a0 2 1 (zs1.take len1) a1 len1 cap1 w l1 (by omega) bq.1 bq.2 (by decide) (by decide) (by decide)
    have cq := fun w => second a0 18 (zs1.take len1) a1 len1 cap1 w l1 (by omega) bq.1 bq.2 (by decide) (by decide)
    have o0 : bits .or .i64 0 2 = 2 := by decide
    have o1 : bits .or .i64 2 16 = 18 := by decide
    have tok1 : Hid True := trivial
    replace hlong : len1 ≤ 1000 := by omega
    go_enter Try.func8, Try.ntmps8
    go_wp2_with (first
      | (go_at_call 16; clear tok1; refine (cr _).mono ?_; rintro e w1 ⟨rfl, hx1⟩; have kA := hx1.heap (heap_new' w (.cells #[.int .i64 5, .int .i64 6, .int .u32 a0, .int .u32 0, .int .i64 2, .int .i64 0, .int .i64 0, .slice none 0 0, .slice a1 len1 cap1] 25)); have hne : w.heap.size ≠ w1.heap.size := (by have := block_of kA; omega); have hXa : Ext w1 (w1.alloc (.cells #[.int .i64 6, .int .i64 5, .int .u32 0, .int .u32 ((a0 + (len1 : Int) + 1) % 4294967296), .int .i64 20, .int .i64 0, .int .i64 0, .slice none 0 0, .slice none 0 0] 25)) := (Ext.refl w1).alloc _; have f0 := frozen_ip (hXa.heap kA); have KA : Hid _ := kA; obtain ⟨d0, d1, d2, d3, d4, d5, d6, d7, d8⟩ := box_segE kA; clear kA)
      | (go_at_call 16; refine (cq _).mono ?_; rintro e w2 ⟨rfl, hx2⟩; have hS := (((ExtX.refl w.heap.size (w1.alloc (.cells #[.int .i64 6, .int .i64 5, .int .u32 0, .int .u32 ((a0 + (len1 : Int) + 1) % 4294967296), .int .i64 20, .int .i64 0, .int .i64 0, .slice none 0 0, .slice none 0 0] 25))).setCell (p := ⟨w.heap.size, 4, none⟩) rfl (.int .i64 18)).setCell (p := ⟨w.heap.size, 3, none⟩) rfl (.int .u32 99)); have kR := hx2.heap ((hS.block w1.heap.size (by simp) (Ne.symm hne)).trans (heap_new' w1 (.cells #[.int .i64 6, .int .i64 5, .int .u32 0, .int .u32 ((a0 + (len1 : Int) + 1) % 4294967296), .int .i64 20, .int .i64 0, .int .i64 0, .slice none 0 0, .slice none 0 0] 25))); obtain ⟨r0, r1', r2, r3, r4, r5, r6, r7, r8⟩ := box_segE kR; have hX2 : Ext w w2 := (ExtX.ext (((Ext.refl w).alloc _).trans (hx1.trans hXa)) hS (Nat.le_refl _)).trans hx2; have hx2a : Ext w2 (w2.alloc (.cells #[.int .i64 6, .int .i64 5, .int .u32 99, .int .u32 0, .int .i64 4, .int .i64 0, .int .i64 0, .slice none 0 0, .slice none 0 0] 25)) := (Ext.refl w2).alloc _; clear kR hS d0 d1 d2 d3 d4 d5 d6 d7 d8 f0)
      | (go_at_call 12; refine (Tcp.known_any _).mono ?_; rintro e w3 ⟨rfl, hx3⟩))
    go_ret
    exact ⟨rfl, hX2.trans (hx2a.trans hx3)⟩
  · have cr := fun w => first a0 3 2 (zs1.take len1) a1 len1 cap1 w l1 (by omega) bq.1 bq.2 (by decide) (by decide) (by decide)
    rw [show (a0 + (len1 : Int) + 2) % 4294967296 = (a0 + (len1 : Int) + 1 + 1) % 4294967296 by omega] at cr
    have cq := fun w => second a0 19 (zs1.take len1) a1 len1 cap1 w l1 (by omega) bq.1 bq.2 (by decide) (by decide)
    have o0 : bits .or .i64 0 2 = 2 := by decide
    have o1 : bits .or .i64 2 1 = 3 := by decide
    have o2 : bits .or .i64 3 16 = 19 := by decide
    have tok1 : Hid True := trivial
    replace hlong : len1 ≤ 1000 := by omega
    go_enter Try.func8, Try.ntmps8
    go_wp2_with (first
      | (go_at_call 16; clear tok1; refine (cr _).mono ?_; rintro e w1 ⟨rfl, hx1⟩; have kA := hx1.heap (heap_new' w (.cells #[.int .i64 5, .int .i64 6, .int .u32 a0, .int .u32 0, .int .i64 3, .int .i64 0, .int .i64 0, .slice none 0 0, .slice a1 len1 cap1] 25)); have hne : w.heap.size ≠ w1.heap.size := (by have := block_of kA; omega); have hXa : Ext w1 (w1.alloc (.cells #[.int .i64 6, .int .i64 5, .int .u32 0, .int .u32 ((a0 + (len1 : Int) + 1 + 1) % 4294967296), .int .i64 20, .int .i64 0, .int .i64 0, .slice none 0 0, .slice none 0 0] 25)) := (Ext.refl w1).alloc _; have f0 := frozen_ip (hXa.heap kA); have KA : Hid _ := kA; obtain ⟨d0, d1, d2, d3, d4, d5, d6, d7, d8⟩ := box_segE kA; clear kA)
      | (go_at_call 16; refine (cq _).mono ?_; rintro e w2 ⟨rfl, hx2⟩; have hS := (((ExtX.refl w.heap.size (w1.alloc (.cells #[.int .i64 6, .int .i64 5, .int .u32 0, .int .u32 ((a0 + (len1 : Int) + 1 + 1) % 4294967296), .int .i64 20, .int .i64 0, .int .i64 0, .slice none 0 0, .slice none 0 0] 25))).setCell (p := ⟨w.heap.size, 4, none⟩) rfl (.int .i64 19)).setCell (p := ⟨w.heap.size, 3, none⟩) rfl (.int .u32 99)); have kR := hx2.heap ((hS.block w1.heap.size (by simp) (Ne.symm hne)).trans (heap_new' w1 (.cells #[.int .i64 6, .int .i64 5, .int .u32 0, .int .u32 ((a0 + (len1 : Int) + 1 + 1) % 4294967296), .int .i64 20, .int .i64 0, .int .i64 0, .slice none 0 0, .slice none 0 0] 25))); obtain ⟨r0, r1', r2, r3, r4, r5, r6, r7, r8⟩ := box_segE kR; have hX2 : Ext w w2 := (ExtX.ext (((Ext.refl w).alloc _).trans (hx1.trans hXa)) hS (Nat.le_refl _)).trans hx2; have hx2a : Ext w2 (w2.alloc (.cells #[.int .i64 6, .int .i64 5, .int .u32 99, .int .u32 0, .int .i64 4, .int .i64 0, .int .i64 0, .slice none 0 0, .slice none 0 0] 25)) := (Ext.refl w2).alloc _; clear kR hS d0 d1 d2 d3 d4 d5 d6 d7 d8 f0)
      | (go_at_call 12; refine (Tcp.known_any _).mono ?_; rintro e w3 ⟨rfl, hx3⟩))
    go_ret
    exact ⟨rfl, hX2.trans (hx2a.trans hx3)⟩

theorem contract (H : Type) (enc : TypeId × Value → H) (W : World) (base : Nat) (args : Array Value) (ds gs : List (DataW H)) (before : List MemPlace)
    (hval : ∀ (j : Nat) t v, Try.f8.params[j]? = some t → args[j]? = some v → Value.okWide Try.prog W .any base t v)
    (hW : DataW.Whole enc Try.prog Try.f8.params.toList Rows.tcpCountsSpec.vars false W args.toList ds gs before) (hsh : W.ShapedOpen Try.prog) :
    Calls Try.prog 8 args W fun e W' => ∃ v, e = .returned v ∧ Rows.tcpCountsSpec.post enc Try.prog Try.f8 false true false false W args v W' := by
  have hW' := hW
  obtain ⟨p, q, hA0, hV, rfl, hfz, hnd⟩ := hW
  have hA : DataW.TrodAll enc Try.prog W 0 (fun _ => true) true Try.f8.params.toList args.toList ds p := hA0
  rw [Try.params8] at hA hval
  obtain ⟨v0, vs0, d0, ds0, p0, q0, hargs, rfl, rfl, h0, r0⟩ := trodAll_cons hA
  obtain ⟨v1, vs1, d1, ds1, p1, q1, rfl, rfl, rfl, h1, r1⟩ := trodAll_cons r0
  obtain ⟨v2, vs2, d2, ds2, p2, q2, rfl, rfl, rfl, h2, r2⟩ := trodAll_cons r1
  obtain ⟨v3, vs3, d3, ds3, p3, q3, rfl, rfl, rfl, h3, r3⟩ := trodAll_cons r2
  obtain ⟨rfl, rfl, rfl⟩ := trodAll_nil r3
  obtain rfl : args = #[v0, v1, v2, v3] := by cases args; simp_all
  obtain ⟨rfl, rfl⟩ := trodVars_none hV
  obtain ⟨a0, rfl, rfl, rfl, w0⟩ := open_int Try.underlying23 (hval 0 23 v0 rfl rfl) h0
  have k1 := h1
  have lt1 : ∀ x ∈ p1, x.block < W.heap.size := by obtain ⟨m, hm⟩ := k1; exact DataW.trod_lt m _ _ _ hm
  obtain ⟨b1, l1, c1, rfl⟩ := okWide_slice Try.underlying22 (hval 1 22 v1 rfl rfl)
  obtain ⟨fu1, hf1⟩ := h1
  obtain ⟨a1, len1, cap1, zs1, ce1, row1⟩ := open_rowI Try.underlying22 Try.underlying5 (by kernel_rfl) (fun _ => rfl) hf1
  obtain ⟨rfl, rfl, rfl⟩ : a1 = b1 ∧ len1 = l1 ∧ cap1 = c1 := by simpa [Value.cells, eq_comm] using ce1
  obtain ⟨a2, rfl, rfl, rfl⟩ := open_bool Try.underlying4 (hval 2 4 v2 rfl rfl) h2
  obtain ⟨a3, rfl, rfl, rfl⟩ := open_bool Try.underlying4 (hval 3 4 v3 rfl rfl) h3
  clear hA0
  refine (walk a0 a1 len1 cap1 zs1 a2 a3 W w0 row1 hsh).mono fun e W' ⟨he, bel⟩ => ?_
  subst he
  exact ⟨_, rfl, _, _, _, [], _, [], hW', trodAll_mk1 (shut_bool Try.underlying4 _), (trodAll_cons_mk (shut_int Try.underlying23 w0) (trodAll_cons_mk (Below.trod laidOut (by kernel_rfl) (of_decide_eq_true (by kernel_rfl)) k1 bel lt1) (trodAll_cons_mk (shut_bool Try.underlying4 _) (trodAll_cons_mk (shut_bool Try.underlying4 _) trodAll_mk0)))), rfl, bel.frame _, fun h => by cases h⟩

theorem laid_met (os : Os) : laidMet Try.prog Rows.tcpCountsRow.laid ((World.doorLaid Try.prog 24 os).forCall (fun _ _ => 0) ⟨#[], #[.int .u32 0, .slice none 0 0, .bool false, .bool false], []⟩).memory :=
  laidMet_of_run' 8 (by kernel_rfl) (by kernel_rfl)
theorem reads (os : Os) {H : Type} (enc : TypeId × Value → H) : ∃ places, DataW.whole enc Try.prog ((World.doorLaid Try.prog 24 os).forCall (fun _ _ => 0) ⟨#[], #[.int .u32 0, .slice none 0 0, .bool false, .bool false], []⟩).memory Try.f8.params.toList Rows.tcpCountsSpec.vars false (#[.int .u32 0, .slice none 0 0, .bool false, .bool false] : Array Value).toList 8 = some ([.lit (.int .u32 0), .nil, .lit (.bool false), .lit (.bool false)], [], places) :=
  ⟨[], by kernel_rfl⟩

set_option maxRecDepth 100000 in
theorem lifted (os : Os) (started : os.Started) (H : Type) (enc : TypeId × Value → H) (F : Stop.Interp) :
    ReturnsInHanded {} Try.checked os 8 .any ((OpenSpec.ofChange Rows.tcpCountsSpec).preRow enc Try.prog Try.f8 Rows.tcpCountsRow.domain false Rows.tcpCountsRow.laid) (((OpenSpec.ofChange Rows.tcpCountsSpec).at F).post enc Try.prog Try.f8 false true false false) := by
  obtain ⟨places, hx⟩ := reads os enc
  refine returnsInHanded_of_row (C := Try.checked) (s := (OpenSpec.ofChange Rows.tcpCountsSpec)) own started (by kernel_rfl) Try.func8
    (witness_row_at (enc := enc) (C := Try.checked) false (World.doorLaid Try.prog 24 os) #[.int .u32 0, .slice none 0 0, .bool false, .bool false] rfl (by kernel_rfl) (by kernel_rfl) (by kernel_rfl)
      (OpenSpec.preRow_of_cond 8 hx (by kernel_rfl) (fun k hk => by cases hk) (by kernel_rfl) (laid_met os))) ?_
  intro W base args ds gs before hval hW _ hcond _ hL hsh _
  exact contract H enc W base args ds gs before hval hW hsh

theorem said : Rows.TcpCountsSaid :=
  OpenClaim.holds_of_cond 8 Try.f8 rfl rfl rfl rfl rfl rfl rfl ⟨rfl, rfl, rfl, rfl, rfl⟩ rfl rfl rfl rfl rfl (by kernel_rfl) Try.func8 (by kernel_rfl)
    (of_decide_eq_true (by kernel_rfl)) (by unfold Func.isWrapper; first | (rw [if_pos (by decide +kernel)]; kernel_rfl) | (rw [if_neg (by decide +kernel)]; exact ⟨rfl, rfl⟩))
    (fun os started H enc _ F => by rw [OpenClaim.pre_eq_preRow]; exact lifted os started H enc F)

end Go.Proofs.Ytlinkbniihlagaa.tcpCounts

namespace Go.Proofs.Ytlinkbniihlagaa
theorem tcpCounts_holds : Rows.TcpCountsSaid := tcpCounts.said
#print axioms tcpCounts_holds
end Go.Proofs.Ytlinkbniihlagaa
