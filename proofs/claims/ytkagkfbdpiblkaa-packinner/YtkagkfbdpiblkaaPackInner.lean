/- For every packet, two addresses and byte, the law PackInner returns true: an error about a packet tells that packet's flow, whatever that packet's sum and length are; no condition. -/
import Derived.Test.YtkagkfbdpiblkaaRows
import Derived.Test.YtkagkfbdpiblkaaPack7
import Derived.Test.YtkagkfbdpiblkaaPackB
import Derived.Test.YtkagkfbdpiblkaaPackQ
import Derived.Test.YtkagkfbdpiblkaaIcmp7
import Derived.Test.YtkagkfbdpiblkaaIcmp8
import Derived.Test.YtkagkfbdpiblkaaIp9
import Derived.Test.YtkagkfbdpiblkaaIp4
import Derived.Test.YtkagkfbdpiblkaaSkip
import Derived.Test.YtkagkfbdpiblkaaFrame
import Derived.WalkKit
import Derived.ProofKit
import Derived.OpenShut
import Derived.ShutString
import Derived.ChangeOld
import Derived.Deep.DeepHandedRow
import Derived.Lib.LaidTab
import Derived.Lib.SmallJoins
import Derived.LaidMore
import Derived.Stop.LaidErr
import Derived.ChangeMaps5
namespace Go.Proofs.Ytkagkfbdpiblkaa.packInner
open Go.ChangeShapes Go.WideShapes Go.ChangeAt Go.RowKit Go.ChangeMaps
set_option linter.unusedVariables false
set_option maxRecDepth 100000

theorem own : ownKnob Try.prog.godebug = none := by kernel_rfl
theorem laidOut : laidOutB Try.prog = true := by kernel_rfl

theorem arr11 {α : Type} {cs : Array α} (h : cs.size = 11) : ∃ c0 c1 c2 c3 c4 c5 c6 c7 c8 c9 c10, cs = #[c0, c1, c2, c3, c4, c5, c6, c7, c8, c9, c10] := by
  obtain ⟨l⟩ := cs
  match l, h with
  | [c0, c1, c2, c3, c4, c5, c6, c7, c8, c9, c10], _ => exact ⟨c0, c1, c2, c3, c4, c5, c6, c7, c8, c9, c10, rfl⟩

set_option maxHeartbeats 4000000 in
theorem walk (a0a : Int) (a0b : Int) (a0c : Bool) (a0d : Bool) (a0e : Int) (a0f : Int) (a0g : Int) (a0h : Int) (a0i : Int) (a0j : Option Addr) (len0j cap0j : Nat) (zs0j : List Int) (a0k : Option Addr) (len0k cap0k : Nat) (zs0k : List Int) (a1 : Int) (a2 : Int) (a3 : Int) (w : World) (w0a : (Lit.int .i64 a0a).wf = true) (w0b : (Lit.int .i64 a0b).wf = true) (w0e : (Lit.int .i64 a0e).wf = true) (w0f : (Lit.int .i64 a0f).wf = true) (w0g : (Lit.int .i64 a0g).wf = true) (w0h : (Lit.int .u32 a0h).wf = true) (w0i : (Lit.int .u32 a0i).wf = true) (row0j : IsRow .u8 w a0j len0j cap0j zs0j) (row0k : IsRow .u8 w a0k len0k cap0k zs0k) (w1 : (Lit.int .u32 a1).wf = true) (w2 : (Lit.int .u32 a2).wf = true) (w3 : (Lit.int .u8 a3).wf = true) (hsh : w.ShapedOpen Try.prog) :
    Calls Try.prog 5 #[.agg #[.int .i64 a0a, .int .i64 a0b, .bool a0c, .bool a0d, .int .i64 a0e, .int .i64 a0f, .int .i64 a0g, .int .u32 a0h, .int .u32 a0i, .slice a0j len0j cap0j, .slice a0k len0k cap0k], .int .u32 a1, .int .u32 a2, .int .u8 a3] w fun e w' => e = .returned (.bool true) ∧ Below w.heap.size w w' := by
  have bs := bounds_u32 w1
  have bd := bounds_u32 w2
  have b3' := bounds_u8 w3
  have r9 := row0j.bytes
  have z9 := row0j.nil_cap
  have ra := row0k.bytes
  have za := row0k.nil_cap
  have bh := bounds_u32 w0h
  have bi := bounds_u32 w0i
  have f : Fine ⟨a0a, a0b, a0c, a0d, a0e, a0f, a0g, a0h, a0i, zs0j.take len0j, zs0k.take len0k⟩ := ⟨bh.1, bh.2, bi.1, bi.2, r9.ok, ra.ok⟩
  have cl := fun w => Pack.long_any ⟨a0a, a0b, a0c, a0d, a0e, a0f, a0g, a0h, a0i, zs0j.take len0j, zs0k.take len0k⟩ a0j len0j cap0j a0k len0k cap0k w
  have hx0 : Ext w (w.alloc (.cells #[.int .i64 a0a, .int .i64 a0b, .bool a0c, .bool a0d, .int .i64 a0e, .int .i64 a0f, .int .i64 a0g, .int .u32 a0h, .int .u32 a0i, .slice a0j len0j cap0j, .slice a0k len0k cap0k] 25)) := (Ext.refl w).alloc _
  obtain ⟨b0, b1, b2, b3, b4, b5, b6', b7', b8', b9, ba⟩ := box_ipE (heap_new' w (.cells #[.int .i64 a0a, .int .i64 a0b, .bool a0c, .bool a0d, .int .i64 a0e, .int .i64 a0f, .int .i64 a0g, .int .u32 a0h, .int .u32 a0i, .slice a0j len0j cap0j, .slice a0k len0k cap0k] 25))
  by_cases hlong : 60 < len0j ∨ 1500 < len0k
  · rw [show decide (60 < len0j ∨ 1500 < len0k) = true by simpa using hlong] at cl
    clear hlong f
    dsimp only at *
    go_enter Try.func5, Try.ntmps5
    go_wp2_with (go_at_call 12; refine (cl _).mono ?_; rintro e w1 ⟨rfl, hx1⟩)
    go_ret
    exact ⟨rfl, hx0.trans hx1⟩
  rw [show decide (60 < len0j ∨ 1500 < len0k) = false by simpa using hlong] at cl
  have ci := fun w => refIs_any ⟨a0a, a0b, a0c, a0d, a0e, a0f, a0g, a0h, a0i, zs0j.take len0j, zs0k.take len0k⟩ a0j len0j cap0j a0k len0k cap0k w r9.length (by omega)
  by_cases his : isV ⟨a0a, a0b, a0c, a0d, a0e, a0f, a0g, a0h, a0i, zs0j.take len0j, zs0k.take len0k⟩ = true
  rotate_left
  · rw [Bool.not_eq_true] at his
    rw [his] at ci
    clear his f hlong
    dsimp only at *
    go_enter Try.func5, Try.ntmps5
    go_wp2_with (first
      | (go_at_call 12; refine (cl _).mono ?_; rintro e w1 ⟨rfl, hx1⟩)
      | (go_at_call 20; refine (ci _).mono ?_; rintro e w2 ⟨rfl, hx2⟩; have hx12 := hx1.trans hx2; have hy2 := hx0.trans hx12))
    go_ret
    exact ⟨rfl, hy2⟩
  rw [his] at ci
  have hp := (isV_iff _).1 his
  clear his
  by_cases hl8 : len0k < 8
  · clear f hp hlong
    dsimp only at *
    go_enter Try.func5, Try.ntmps5
    go_wp2_with (first
      | (go_at_call 12; refine (cl _).mono ?_; rintro e w1 ⟨rfl, hx1⟩)
      | (go_at_call 20; refine (ci _).mono ?_; rintro e w2 ⟨rfl, hx2⟩; have hx12 := hx1.trans hx2; have hy2 := hx0.trans hx12))
    go_ret
    exact ⟨rfl, hy2⟩
  have l9 : (⟨a0a, a0b, a0c, a0d, a0e, a0f, a0g, a0h, a0i, zs0j.take len0j, zs0k.take len0k⟩ : IPv).opts.length = len0j := r9.length
  have la : (⟨a0a, a0b, a0c, a0d, a0e, a0f, a0g, a0h, a0i, zs0j.take len0j, zs0k.take len0k⟩ : IPv).data.length = len0k := ra.length
  have hd : (⟨a0a, a0b, a0c, a0d, a0e, a0f, a0g, a0h, a0i, zs0j.take len0j, zs0k.take len0k⟩ : IPv).data.length ≤ 60000 := by rw [la]; omega
  have h8 : 8 ≤ (⟨a0a, a0b, a0c, a0d, a0e, a0f, a0g, a0h, a0i, zs0j.take len0j, zs0k.take len0k⟩ : IPv).data.length := by rw [la]; omega
  have n40 : len0j ≤ 40 := by have := hp.n40; rwa [l9] at this
  obtain ⟨N, hN⟩ : ∃ N, 20 + len0j + len0k = N := ⟨_, rfl⟩
  obtain ⟨m, hm⟩ : ∃ m, 28 + len0j = m := ⟨_, rfl⟩
  obtain ⟨M, hM⟩ : ∃ M, 8 + m = M := ⟨_, rfl⟩
  obtain ⟨R, hR⟩ : ∃ R, 20 + 0 + M = R := ⟨_, rfl⟩
  have okY := build_ok f hp
  have lY : (buildV ⟨a0a, a0b, a0c, a0d, a0e, a0f, a0g, a0h, a0i, zs0j.take len0j, zs0k.take len0k⟩).length = N := by rw [build_len, l9, la, hN]
  have oy := okY.get 10
  have hxb := u8_xor_bd _ a3 oy.1 oy.2 b3'.1 b3'.2
  obtain ⟨v, hv⟩ : ∃ v, bits .xor .u8 ((buildV ⟨a0a, a0b, a0c, a0d, a0e, a0f, a0g, a0h, a0i, zs0j.take len0j, zs0k.take len0k⟩)[10]?.getD 0) a3 = v := ⟨_, rfl⟩
  rw [hv] at hxb
  have okQ := Pack.spoiltQ_ok f hp v hxb.1 hxb.2
  have lQ := Pack.spoiltQ_len h8 v
  rw [l9, hm] at lQ
  obtain ⟨hQN, hQV⟩ := Pack.quote_spoilt f hp hd h8 v
  rw [l9, hm] at hQN
  have cb := fun W h h' => (refBuild_own ⟨a0a, a0b, a0c, a0d, a0e, a0f, a0g, a0h, a0i, zs0j.take len0j, zs0k.take len0k⟩ a0j len0j cap0j a0k len0k cap0k W h z9 h' za f hp (by omega)).mono
    (fun e w' (h : RefBuildOwn W ⟨a0a, a0b, a0c, a0d, a0e, a0f, a0g, a0h, a0i, zs0j.take len0j, zs0k.take len0k⟩ (20 + len0j + len0k) e w') => (show ∃ q c, e = .returned (.tuple #[.slice q (20 + len0j + len0k) c, .int .i64 0]) ∧ w'.ownsRow W.heap.size 5 1 (.slice q (20 + len0j + len0k) c) (20 + len0j + len0k) ((buildV ⟨a0a, a0b, a0c, a0d, a0e, a0f, a0g, a0h, a0i, zs0j.take len0j, zs0k.take len0k⟩).map (Value.int .u8)) ∧ Ext W w' from h))
  rw [hN] at cb
  have cq := fun q c W (h : Bytes W q N (buildV ⟨a0a, a0b, a0c, a0d, a0e, a0f, a0g, a0h, a0i, zs0j.take len0j, zs0k.take len0k⟩)) (hc : N ≤ c) => (Pack.refPackParse_any q N c _ W h hc (by omega)).mono
    (fun e w' (h : Pack.PackAns W _ e w') => (show ∃ v, e = .returned (.tuple #[v, .int .i64 (Pack.lookX (buildV ⟨a0a, a0b, a0c, a0d, a0e, a0f, a0g, a0h, a0i, zs0j.take len0j, zs0k.take len0k⟩))]) ∧ Pack.IsPkt w' v (Pack.packX (buildV ⟨a0a, a0b, a0c, a0d, a0e, a0f, a0g, a0h, a0i, zs0j.take len0j, zs0k.take len0k⟩)) ∧ Ext W w' from h))
  obtain ⟨q1, q2⟩ := Pack.build_lookX f hp hd
  rw [q1] at cq
  have cQ := fun g c (hc : N ≤ c) W (h : Bytes W (some ⟨g, 0, none⟩) N ((buildV ⟨a0a, a0b, a0c, a0d, a0e, a0f, a0g, a0h, a0i, zs0j.take len0j, zs0k.take len0k⟩).set 10 v)) => Icmp.refQuote_any (some ⟨g, 0, none⟩) N c ((buildV ⟨a0a, a0b, a0c, a0d, a0e, a0f, a0g, a0h, a0i, zs0j.take len0j, zs0k.take len0k⟩).set 10 v) W h hc (by simp) (by omega) m hQN (Pack.spoiltQ ⟨a0a, a0b, a0c, a0d, a0e, a0f, a0g, a0h, a0i, zs0j.take len0j, zs0k.take len0k⟩ v) hQV
  have cm := fun q c W (h : Bytes W q m (Pack.spoiltQ ⟨a0a, a0b, a0c, a0d, a0e, a0f, a0g, a0h, a0i, zs0j.take len0j, zs0k.take len0k⟩ v)) (hz : q = none → c = 0) => (Icmp.refBuild_own (Pack.msgE (Pack.spoiltQ ⟨a0a, a0b, a0c, a0d, a0e, a0f, a0g, a0h, a0i, zs0j.take len0j, zs0k.take len0k⟩ v)) q m c W h hz (Pack.msgE_fits (by rw [lQ]; omega)) (by show (0 : Int) ≤ 0; omega) (by show (0 : Int) ≤ 4294967295; omega) M hM).mono
    (fun e w' (h : Icmp.RefBuildOwn W (Pack.msgE (Pack.spoiltQ ⟨a0a, a0b, a0c, a0d, a0e, a0f, a0g, a0h, a0i, zs0j.take len0j, zs0k.take len0k⟩ v)) M e w') => (show ∃ q c, e = .returned (.tuple #[.slice q M c, .int .i64 0]) ∧ w'.ownsRow W.heap.size 5 1 (.slice q M c) M ((Icmp.buildV (Pack.msgE (Pack.spoiltQ ⟨a0a, a0b, a0c, a0d, a0e, a0f, a0g, a0h, a0i, zs0j.take len0j, zs0k.take len0k⟩ v))).map (Value.int .u8)) ∧ Ext W w' from h))
  have okM : BytesOk (Icmp.buildV (Pack.msgE (Pack.spoiltQ ⟨a0a, a0b, a0c, a0d, a0e, a0f, a0g, a0h, a0i, zs0j.take len0j, zs0k.take len0k⟩ v))) := Icmp.build_ok (Pack.msgE_fine okQ) (Pack.msgE_fits (by rw [lQ]; omega))
  have fO : Fine (Pack.ipE a1 a2 (Icmp.buildV (Pack.msgE (Pack.spoiltQ ⟨a0a, a0b, a0c, a0d, a0e, a0f, a0g, a0h, a0i, zs0j.take len0j, zs0k.take len0k⟩ v)))) := Pack.ipE_fine bs.1 bs.2 bd.1 bd.2 okM
  have tO := Pack.ipE_fits a1 a2 (Icmp.buildV (Pack.msgE (Pack.spoiltQ ⟨a0a, a0b, a0c, a0d, a0e, a0f, a0g, a0h, a0i, zs0j.take len0j, zs0k.take len0k⟩ v)))
  have okO := build_ok fO tO
  have co := fun q c W (h : Bytes W q M (Icmp.buildV (Pack.msgE (Pack.spoiltQ ⟨a0a, a0b, a0c, a0d, a0e, a0f, a0g, a0h, a0i, zs0j.take len0j, zs0k.take len0k⟩ v)))) (hz : q = none → c = 0) => (refBuild_own (Pack.ipE a1 a2 (Icmp.buildV (Pack.msgE (Pack.spoiltQ ⟨a0a, a0b, a0c, a0d, a0e, a0f, a0g, a0h, a0i, zs0j.take len0j, zs0k.take len0k⟩ v)))) none 0 0 q M c W (bytes_nil W) (fun _ => rfl) h hz fO tO (by omega)).mono
    (fun e w' (h : RefBuildOwn W (Pack.ipE a1 a2 (Icmp.buildV (Pack.msgE (Pack.spoiltQ ⟨a0a, a0b, a0c, a0d, a0e, a0f, a0g, a0h, a0i, zs0j.take len0j, zs0k.take len0k⟩ v)))) (20 + 0 + M) e w') => (show ∃ q c, e = .returned (.tuple #[.slice q (20 + 0 + M) c, .int .i64 0]) ∧ w'.ownsRow W.heap.size 5 1 (.slice q (20 + 0 + M) c) (20 + 0 + M) ((buildV (Pack.ipE a1 a2 (Icmp.buildV (Pack.msgE (Pack.spoiltQ ⟨a0a, a0b, a0c, a0d, a0e, a0f, a0g, a0h, a0i, zs0j.take len0j, zs0k.take len0k⟩ v))))).map (Value.int .u8)) ∧ Ext W w' from h))
  rw [hR] at co
  have cp := fun q c W (h : Bytes W q R (buildV (Pack.ipE a1 a2 (Icmp.buildV (Pack.msgE (Pack.spoiltQ ⟨a0a, a0b, a0c, a0d, a0e, a0f, a0g, a0h, a0i, zs0j.take len0j, zs0k.take len0k⟩ v)))))) (hc : R ≤ c) => (Pack.packParse_any q R c _ W h hc (by omega)).mono
    (fun e w' (h : Pack.PackAns W _ e w') => (show ∃ v', e = .returned (.tuple #[v', .int .i64 (Pack.lookX (buildV (Pack.ipE a1 a2 (Icmp.buildV (Pack.msgE (Pack.spoiltQ ⟨a0a, a0b, a0c, a0d, a0e, a0f, a0g, a0h, a0i, zs0j.take len0j, zs0k.take len0k⟩ v))))))]) ∧ Pack.IsPkt w' v' (Pack.packX (buildV (Pack.ipE a1 a2 (Icmp.buildV (Pack.msgE (Pack.spoiltQ ⟨a0a, a0b, a0c, a0d, a0e, a0f, a0g, a0h, a0i, zs0j.take len0j, zs0k.take len0k⟩ v)))))) ∧ Ext W w' from h))
  obtain ⟨p1, p2⟩ := Pack.ipE_look bs.1 bs.2 bd.1 bd.2 okQ (by rw [lQ]; omega)
  rw [p1, p2, Pack.about_spoilt f hp hd h8 v] at cp
  obtain ⟨t1, t2, t3⟩ := Pack.quoted_three f hp hd h8 v
  have hkk := fun h0 h1 => Pack.quoted_key f hp hd h8 v h0 h1
  have hQP : Pack.lookP ⟨a0a, a0b, a0c, a0d, a0e, a0f, a0g, a0h, a0i, zs0j.take len0j, zs0k.take len0k⟩ = 0 → Pack.packX (buildV ⟨a0a, a0b, a0c, a0d, a0e, a0f, a0g, a0h, a0i, zs0j.take len0j, zs0k.take len0k⟩) = Pack.fullP ⟨a0a, a0b, a0c, a0d, a0e, a0f, a0g, a0h, a0i, zs0j.take len0j, zs0k.take len0k⟩ := fun h => by rw [q2, if_pos h]
  clear p1 p2 q1 q2 fO tO hQN hQV okQ lQ f hp hd h8
  generalize buildV (Pack.ipE a1 a2 (Icmp.buildV (Pack.msgE (Pack.spoiltQ ⟨a0a, a0b, a0c, a0d, a0e, a0f, a0g, a0h, a0i, zs0j.take len0j, zs0k.take len0k⟩ v)))) = O at *
  generalize Pack.quotedV (Pack.spoiltQ ⟨a0a, a0b, a0c, a0d, a0e, a0f, a0g, a0h, a0i, zs0j.take len0j, zs0k.take len0k⟩ v) = KK at *
  generalize Icmp.buildV (Pack.msgE (Pack.spoiltQ ⟨a0a, a0b, a0c, a0d, a0e, a0f, a0g, a0h, a0i, zs0j.take len0j, zs0k.take len0k⟩ v)) = MB at *
  generalize Pack.spoiltQ ⟨a0a, a0b, a0c, a0d, a0e, a0f, a0g, a0h, a0i, zs0j.take len0j, zs0k.take len0k⟩ v = Q at *
  generalize Pack.packX (buildV ⟨a0a, a0b, a0c, a0d, a0e, a0f, a0g, a0h, a0i, zs0j.take len0j, zs0k.take len0k⟩) = QP at *
  generalize buildV ⟨a0a, a0b, a0c, a0d, a0e, a0f, a0g, a0h, a0i, zs0j.take len0j, zs0k.take len0k⟩ = Y at *
  generalize Pack.fullP ⟨a0a, a0b, a0c, a0d, a0e, a0f, a0g, a0h, a0i, zs0j.take len0j, zs0k.take len0k⟩ = FP at *
  generalize Pack.lookP ⟨a0a, a0b, a0c, a0d, a0e, a0f, a0g, a0h, a0i, zs0j.take len0j, zs0k.take len0k⟩ = er at *
  obtain ⟨y, hy⟩ : ∃ y, Y[10]?.getD 0 = y := ⟨_, rfl⟩
  rw [hy] at oy hv
  have HY : Hid _ := hy
  simp only [Pack.ipE, Pack.msgE] at co cp cm
  dsimp only at *
  have n10 : (10 : Int) < (N : Int) := by omega
  have tok1 : Hid True := trivial
  clear hy lY
  by_cases hoff : a0e = 0
  rotate_left
  · rw [if_neg hoff] at cp
    have ho1 : (a0e == 0) = false := by simpa using hoff
    have ho2 : (a0e != 0) = true := by simpa using hoff
    obtain ⟨⟨q0, q1, q2, q3, q4, q5, q6, q7, q8, q9, qa⟩, m0, m1, m2, m3, m4, m5, ii⟩ := QP
    clear hkk hQP t1 t2 t3 hoff
    go_enter Try.func5, Try.ntmps5
    go_wp2_with (first
      | (go_at_call 12; refine (cl _).mono ?_; rintro e w1 ⟨rfl, hx1⟩)
      | (go_at_call 20; refine (ci _).mono ?_; rintro e w2 ⟨rfl, hx2⟩; have hx12 := hx1.trans hx2; have hy2 := hx0.trans hx12)
      | (go_at_call 21; clear tok1; refine (cb _ (r9.below hy2) (ra.below hy2)).mono ?_; rintro e w3 ⟨q, c, rfl, ho, hx3⟩; obtain ⟨g, c', hvv, hO⟩ := OwnB.of_owns ho (by omega) okY; obtain ⟨hb, hz, hc⟩ := owns_slice ho okY; obtain ⟨rfl, rfl⟩ := own_eq hvv; have hgs := hO.lt; have hgb := hO.base; clear ho)
      | (go_at_call 9; refine (cq _ c _ hb hc).mono ?_; rintro e w4 ⟨v1, rfl, ⟨⟨g1, l1, e1, g2, l2, e2, kq, rfl, _, _, _⟩⟩, hx4⟩; dsimp only)
      | (refine wpl_store (by rfl) 28 _ _ rfl rfl 18 w4.heap.size _ _ _ rfl rfl (heap_new' w4 _) Pack.pkt_size rfl rfl (by simp [Value.oneCell']) ?_; intro w5 hx5 k5; have hx45 : Ext w4 w5 := ExtX.ext ((Ext.refl w4).alloc _) hx5 (Nat.le_refl _); have hO5 := hO.later (hx4.trans hx45); have hcell := hO5.cell (k := 10) (by omega); rw [HY.out] at hcell; have hfr := hO5.frozen 10; have hO6 := hO5.set (k := 10) hxb.1 hxb.2; have hs34 := hx4.size; have hs12 := hx12.size; have hx5s : Ext (w.alloc (.cells #[.int .i64 a0a, .int .i64 a0b, .bool a0c, .bool a0d, .int .i64 a0e, .int .i64 a0f, .int .i64 a0g, .int .u32 a0h, .int .u32 a0i, .slice a0j len0j cap0j, .slice a0k len0k cap0k] 25)) (w5.setCell ⟨g, 10, none⟩ (.int .u8 v)) := ExtX.ext (hx12.trans (hx3.trans (hx4.trans hx45))) (putX g 10 w5 _) (by omega); have hb6 := hO6.bytes; have K5 : Hid _ := Pack.keepX k5 (putX g 10 w5 (.int .u8 v)) (by omega); clear k5 hO5)
      | (go_at_call 23; refine (cQ _ c hc _ hb6).mono ?_; rintro e w6 ⟨q6, c6, rfl, b6, hx6⟩; have z6 := b6.has (by omega) c6)
      | (go_at_call 22; refine (cm _ _ _ b6 z6).mono ?_; rintro e w7 ⟨q7, c7, rfl, o7, hx7⟩; obtain ⟨b7, z7, hc7⟩ := owns_slice o7 okM)
      | (go_at_call 21; refine (co _ _ _ b7 z7).mono ?_; rintro e w8 ⟨q8, c8, rfl, o8, hx8⟩; obtain ⟨b8, z8, hc8⟩ := owns_slice o8 okO)
      | (go_at_call 8; refine (cp _ _ _ b8 hc8).mono ?_; rintro e w9 ⟨v9, rfl, ⟨⟨h1, n1, d1, h2, n2, d2, kp, rfl, _, _, hk9⟩⟩, hx9⟩; dsimp only)
      | (refine wpl_store (by rfl) 28 _ _ rfl rfl 18 w9.heap.size _ _ _ rfl rfl (heap_new' w9 _) Pack.pkt_size rfl rfl (by simp [Value.oneCell']) ?_; intro w10 hx10 k10; have hx910 : Ext w9 w10 := ExtX.ext ((Ext.refl w9).alloc _) hx10 (Nat.le_refl _); have hxs := hx6.trans (hx7.trans (hx8.trans (hx9.trans hx910))); have hX10 := hx5s.trans hxs; have be := b4 _ hX10; have HK5 : Hid _ := hxs.heap K5.out; have HK10 : Hid _ := k10; obtain rfl : kp = none := hk9; have mh := heap_cell (k := 17) k10; clear k10)
      | (go_at_call 11; refine (Pack.known_any _).mono ?_; rintro e w11 ⟨rfl, hx11⟩))
    go_ret
    exact ⟨rfl, hx0.trans (hX10.trans hx11)⟩
  · subst hoff
    rw [if_pos rfl] at cp
    have hkey : er = 0 → (a0g = 6 ∨ a0g = 17) → Pack.keySame KK (Pack.keyOf QP) = true := fun h1 h2 => by
      rw [hQP h1, hkk rfl h2]; exact Pack.keySame_self _
    clear hkk hQP
    have eg := Pack.key_guard
    have eq := fun w => Pack.eql_key KK (Pack.keyOf QP) w
    generalize Pack.keySame KK (Pack.keyOf QP) = SK at *
    obtain ⟨⟨q0, q1, q2, q3, q4, q5, q6, q7, q8, q9, qa⟩, m0, m1, m2, m3, m4, m5, ii⟩ := QP
    obtain ⟨s0, s1, s2, s3, s4⟩ := KK
    dsimp only [Pack.keyOf] at *
    obtain rfl := t1.symm
    obtain rfl := t2.symm
    obtain rfl := t3.symm
    go_enter Try.func5, Try.ntmps5
    go_wp2_with (first
      | (go_at_call 12; refine (cl _).mono ?_; rintro e w1 ⟨rfl, hx1⟩)
      | (go_at_call 20; refine (ci _).mono ?_; rintro e w2 ⟨rfl, hx2⟩; have hx12 := hx1.trans hx2; have hy2 := hx0.trans hx12)
      | (go_at_call 21; clear tok1; refine (cb _ (r9.below hy2) (ra.below hy2)).mono ?_; rintro e w3 ⟨q, c, rfl, ho, hx3⟩; obtain ⟨g, c', hvv, hO⟩ := OwnB.of_owns ho (by omega) okY; obtain ⟨hb, hz, hc⟩ := owns_slice ho okY; obtain ⟨rfl, rfl⟩ := own_eq hvv; have hgs := hO.lt; have hgb := hO.base; clear ho)
      | (go_at_call 9; refine (cq _ c _ hb hc).mono ?_; rintro e w4 ⟨v1, rfl, ⟨⟨g1, l1, e1, g2, l2, e2, kq, rfl, _, _, _⟩⟩, hx4⟩; dsimp only)
      | (refine wpl_store (by rfl) 28 _ _ rfl rfl 18 w4.heap.size _ _ _ rfl rfl (heap_new' w4 _) Pack.pkt_size rfl rfl (by simp [Value.oneCell']) ?_; intro w5 hx5 k5; have hx45 : Ext w4 w5 := ExtX.ext ((Ext.refl w4).alloc _) hx5 (Nat.le_refl _); have hO5 := hO.later (hx4.trans hx45); have hcell := hO5.cell (k := 10) (by omega); rw [HY.out] at hcell; have hfr := hO5.frozen 10; have hO6 := hO5.set (k := 10) hxb.1 hxb.2; have hs34 := hx4.size; have hs12 := hx12.size; have hx5s : Ext (w.alloc (.cells #[.int .i64 a0a, .int .i64 a0b, .bool a0c, .bool a0d, .int .i64 0, .int .i64 a0f, .int .i64 a0g, .int .u32 a0h, .int .u32 a0i, .slice a0j len0j cap0j, .slice a0k len0k cap0k] 25)) (w5.setCell ⟨g, 10, none⟩ (.int .u8 v)) := ExtX.ext (hx12.trans (hx3.trans (hx4.trans hx45))) (putX g 10 w5 _) (by omega); have hb6 := hO6.bytes; have K5 : Hid _ := Pack.keepX k5 (putX g 10 w5 (.int .u8 v)) (by omega); clear k5 hO5)
      | (go_at_call 23; refine (cQ _ c hc _ hb6).mono ?_; rintro e w6 ⟨q6, c6, rfl, b6, hx6⟩; have z6 := b6.has (by omega) c6)
      | (go_at_call 22; refine (cm _ _ _ b6 z6).mono ?_; rintro e w7 ⟨q7, c7, rfl, o7, hx7⟩; obtain ⟨b7, z7, hc7⟩ := owns_slice o7 okM)
      | (go_at_call 21; refine (co _ _ _ b7 z7).mono ?_; rintro e w8 ⟨q8, c8, rfl, o8, hx8⟩; obtain ⟨b8, z8, hc8⟩ := owns_slice o8 okO)
      | (go_at_call 8; refine (cp _ _ _ b8 hc8).mono ?_; rintro e w9 ⟨v9, rfl, ⟨⟨h1, n1, d1, h2, n2, d2, kp, rfl, _, _, hk9⟩⟩, hx9⟩; dsimp only)
      | (refine wpl_store (by rfl) 28 _ _ rfl rfl 18 w9.heap.size _ _ _ rfl rfl (heap_new' w9 _) Pack.pkt_size rfl rfl (by simp [Value.oneCell']) ?_; intro w10 hx10 k10; have hx910 : Ext w9 w10 := ExtX.ext ((Ext.refl w9).alloc _) hx10 (Nat.le_refl _); have hxs := hx6.trans (hx7.trans (hx8.trans (hx9.trans hx910))); have hX10 := hx5s.trans hxs; have be := b4 _ hX10; have HK5 : Hid _ := hxs.heap K5.out; have HK10 : Hid _ := k10; obtain ⟨kb, ko, rfl, ka⟩ := hk9; clear k10)
      | (go_at_call 11; refine (Pack.known_any _).mono ?_; rintro e w11 ⟨rfl, hx11⟩))
    have hV : Ext w10 w10.drew := (Ext.refl w10).drew
    refine wp_region_eager [(0, false), (1, false), (2, false), (3, false), (4, false), (5, false), (6, false), (7, false), (8, false), (9, false), (10, false), (11, false), (12, false), (13, false), (14, false), (15, false), (16, false), (17, false), (18, false), (19, false), (20, false), (21, false), (22, false), (23, false), (24, false), (25, false), (26, false), (27, false), (28, false), (29, false), (30, false), (31, false), (32, false)] (by kernel_rfl) (by kernel_rfl) rfl (by kernel_rfl) (fun _ _ _ _ _ h => h) ?_
    have k10 := hV.heap HK10.out
    obtain ⟨x0, x1, x2, x3, x4⟩ := Pack.key_reads (ka.later (hx910.trans hV))
    dsimp only at x0 x1 x2 x3 x4
    have hX10' := hX10.trans hV
    have K5' : Hid _ := (hV.heap HK5.out)
    generalize w10.drew = V at *
    generalize w9.heap.size = gx at *
    generalize w4.heap.size = gq at *
    have mh : ∀ w', Ext V w' → w'.cell? ⟨gx, 17, none⟩ = some (.pointer (some ⟨kb, ko, none⟩)) := fun w' h => heap_cell (k := 17) (h.heap k10)
    replace b6' := fun w' h => b6' w' (hX10'.trans h)
    replace b7' := fun w' h => b7' w' (hX10'.trans h)
    replace b8' := fun w' h => b8' w' (hX10'.trans h)
    clear b0 b1 b2 b3 b4 b5 b9 ba k10 HK10 HK5 be
    iterate 33 (refine wpE_read (v := ?_) rfl (by rfl) ?_ ?_; rotate_left; (focus (intro w' hx; go_simp; first | done | with_reducible rfl)); simp only [Act.put, List.setIfInBounds_toArray, List.set_cons_zero, List.set_cons_succ])
    refine wpE_done ?_
    go_wp2
    have hVV : Ext V V.drew := (Ext.refl V).drew
    refine wp_region_eager [(0, false), (1, false), (2, false), (3, false), (4, false), (5, false), (6, false), (7, false), (8, false), (9, false), (10, false), (11, false), (12, false), (13, false), (14, false), (15, false), (16, false), (17, false), (18, true), (19, false), (20, false), (21, false), (22, true), (23, false), (24, false)] (by kernel_rfl) (by kernel_rfl) rfl (by kernel_rfl) (fun _ _ _ _ _ h => h) ?_
    replace x0 := fun w' h => x0 w' (hVV.trans h)
    replace x1 := fun w' h => x1 w' (hVV.trans h)
    replace x2 := fun w' h => x2 w' (hVV.trans h)
    replace x3 := fun w' h => x3 w' (hVV.trans h)
    replace x4 := fun w' h => x4 w' (hVV.trans h)
    replace mh := fun w' h => mh w' (hVV.trans h)
    replace b6' := fun w' h => b6' w' (hVV.trans h)
    have KQ : Hid _ := hVV.heap K5'.out
    have hXV := hX10'.trans hVV
    clear b7' b8'
    generalize V.drew = U at *
    by_cases her : er = 0
    rotate_left
    · have e1 : (er == 0) = false := by simpa using her
      have e2 : (er != 0) = true := by simpa using her
      clear hkey her x0 x1 x2 x3 x4 mh b6' eq
      iterate 3 (refine wpE_read (v := ?_) rfl (by rfl) ?_ ?_; rotate_left; (focus (intro w' hx; go_simp; first | done | with_reducible rfl)); simp only [Act.put, List.setIfInBounds_toArray, List.set_cons_zero, List.set_cons_succ])
      iterate 8 (rw [wpE_skip_eq _ rfl (by rfl)]; simp only [Act.put, List.setIfInBounds_toArray, List.set_cons_zero, List.set_cons_succ])
      iterate 2 (refine wpE_read (v := ?_) rfl (by rfl) ?_ ?_; rotate_left; (focus (intro w' hx; go_simp; first | done | with_reducible rfl)); simp only [Act.put, List.setIfInBounds_toArray, List.set_cons_zero, List.set_cons_succ])
      iterate 7 (rw [wpE_skip_eq _ rfl (by rfl)]; simp only [Act.put, List.setIfInBounds_toArray, List.set_cons_zero, List.set_cons_succ])
      iterate 2 (refine wpE_read (v := ?_) rfl (by rfl) ?_ ?_; rotate_left; (focus (intro w' hx; go_simp; first | done | with_reducible rfl)); simp only [Act.put, List.setIfInBounds_toArray, List.set_cons_zero, List.set_cons_succ])
      refine wpE_call rfl (by rfl) (fun K hK => ?_); go_simp; (go_at_call 11; refine (Pack.known_any _).mono ?_; rintro e w12 ⟨rfl, hx12'⟩; refine hK _ _ hx12' ?_; clear hK K)
      iterate 2 (refine wpE_read (v := ?_) rfl (by rfl) ?_ ?_; rotate_left; (focus (intro w' hx; go_simp; first | done | with_reducible rfl)); simp only [Act.put, List.setIfInBounds_toArray, List.set_cons_zero, List.set_cons_succ])
      refine wpE_done ?_
      go_wp2
      go_ret
      exact ⟨rfl, hx0.trans (hXV.trans hx12')⟩
    subst her
    by_cases h6 : a0g = 6
    · obtain rfl : SK = true := hkey rfl (.inl h6)
      subst h6
      clear hkey
      iterate 7 (refine wpE_read (v := ?_) rfl (by rfl) ?_ ?_; rotate_left; (focus (intro w' hx; go_simp; first | done | with_reducible rfl)); simp only [Act.put, List.setIfInBounds_toArray, List.set_cons_zero, List.set_cons_succ])
      iterate 3 (rw [wpE_skip_eq _ rfl (by rfl)]; simp only [Act.put, List.setIfInBounds_toArray, List.set_cons_zero, List.set_cons_succ])
      iterate 7 (refine wpE_read (v := ?_) rfl (by rfl) ?_ ?_; rotate_left; (focus (intro w' hx; go_simp; first | done | with_reducible rfl)); simp only [Act.put, List.setIfInBounds_toArray, List.set_cons_zero, List.set_cons_succ])
      refine wpE_read rfl (by rfl) (fun w' hx => exec_load 28 _ rfl gq _ _ _ rfl (hx.heap KQ.out) Try.underlying28 rfl Pack.pkt_size) ?_
      simp only [Act.put, List.setIfInBounds_toArray, List.set_cons_zero, List.set_cons_succ]
      refine wpE_call rfl (by rfl) (fun K hK => ?_); go_simp; (go_at_call 14; refine (Pack.refKeyOf_any _ _ _ _ _ _ _ _ _ _ _ _ _ _ _ _ _ _ _ _ _ _ _).mono ?_; rintro e w11 ⟨rfl, hx11⟩; refine hK _ _ hx11 ?_; clear hK K)
      iterate 3 (refine wpE_read (v := ?_) rfl (by rfl) ?_ ?_; rotate_left; (focus (intro w' hx; go_simp; first | done | with_reducible rfl)); simp only [Act.put, List.setIfInBounds_toArray, List.set_cons_zero, List.set_cons_succ])
      refine wpE_call rfl (by rfl) (fun K hK => ?_); go_simp; (go_at_call 11; refine (Pack.known_any _).mono ?_; rintro e w12 ⟨rfl, hx12'⟩; refine hK _ _ hx12' ?_; clear hK K)
      iterate 2 (refine wpE_read (v := ?_) rfl (by rfl) ?_ ?_; rotate_left; (focus (intro w' hx; go_simp; first | done | with_reducible rfl)); simp only [Act.put, List.setIfInBounds_toArray, List.set_cons_zero, List.set_cons_succ])
      refine wpE_done ?_
      go_wp2
      go_ret
      exact ⟨rfl, hx0.trans (hXV.trans (hx11.trans hx12'))⟩
    by_cases h17 : a0g = 17
    · obtain rfl : SK = true := hkey rfl (.inr h17)
      subst h17
      clear hkey
      iterate 17 (refine wpE_read (v := ?_) rfl (by rfl) ?_ ?_; rotate_left; (focus (intro w' hx; go_simp; first | done | with_reducible rfl)); simp only [Act.put, List.setIfInBounds_toArray, List.set_cons_zero, List.set_cons_succ])
      refine wpE_read rfl (by rfl) (fun w' hx => exec_load 28 _ rfl gq _ _ _ rfl (hx.heap KQ.out) Try.underlying28 rfl Pack.pkt_size) ?_
      simp only [Act.put, List.setIfInBounds_toArray, List.set_cons_zero, List.set_cons_succ]
      refine wpE_call rfl (by rfl) (fun K hK => ?_); go_simp; (go_at_call 14; refine (Pack.refKeyOf_any _ _ _ _ _ _ _ _ _ _ _ _ _ _ _ _ _ _ _ _ _ _ _).mono ?_; rintro e w11 ⟨rfl, hx11⟩; refine hK _ _ hx11 ?_; clear hK K)
      iterate 3 (refine wpE_read (v := ?_) rfl (by rfl) ?_ ?_; rotate_left; (focus (intro w' hx; go_simp; first | done | with_reducible rfl)); simp only [Act.put, List.setIfInBounds_toArray, List.set_cons_zero, List.set_cons_succ])
      refine wpE_call rfl (by rfl) (fun K hK => ?_); go_simp; (go_at_call 11; refine (Pack.known_any _).mono ?_; rintro e w12 ⟨rfl, hx12'⟩; refine hK _ _ hx12' ?_; clear hK K)
      iterate 2 (refine wpE_read (v := ?_) rfl (by rfl) ?_ ?_; rotate_left; (focus (intro w' hx; go_simp; first | done | with_reducible rfl)); simp only [Act.put, List.setIfInBounds_toArray, List.set_cons_zero, List.set_cons_succ])
      refine wpE_done ?_
      go_wp2
      go_ret
      exact ⟨rfl, hx0.trans (hXV.trans (hx11.trans hx12'))⟩
    · have e1 : (a0g == 6) = false := by simpa using h6
      have e2 : (a0g != 6) = true := by simpa using h6
      have e3 : (a0g == 17) = false := by simpa using h17
      have e4 : (a0g != 17) = true := by simpa using h17
      clear hkey x0 x1 x2 x3 x4 mh eq
      iterate 13 (refine wpE_read (v := ?_) rfl (by rfl) ?_ ?_; rotate_left; (focus (intro w' hx; go_simp; first | done | with_reducible rfl)); simp only [Act.put, List.setIfInBounds_toArray, List.set_cons_zero, List.set_cons_succ])
      iterate 7 (rw [wpE_skip_eq _ rfl (by rfl)]; simp only [Act.put, List.setIfInBounds_toArray, List.set_cons_zero, List.set_cons_succ])
      iterate 2 (refine wpE_read (v := ?_) rfl (by rfl) ?_ ?_; rotate_left; (focus (intro w' hx; go_simp; first | done | with_reducible rfl)); simp only [Act.put, List.setIfInBounds_toArray, List.set_cons_zero, List.set_cons_succ])
      refine wpE_call rfl (by rfl) (fun K hK => ?_); go_simp; (go_at_call 11; refine (Pack.known_any _).mono ?_; rintro e w12 ⟨rfl, hx12'⟩; refine hK _ _ hx12' ?_; clear hK K)
      iterate 2 (refine wpE_read (v := ?_) rfl (by rfl) ?_ ?_; rotate_left; (focus (intro w' hx; go_simp; first | done | with_reducible rfl)); simp only [Act.put, List.setIfInBounds_toArray, List.set_cons_zero, List.set_cons_succ])
      refine wpE_done ?_
      go_wp2
      go_ret
      exact ⟨rfl, hx0.trans (hXV.trans hx12')⟩

theorem contract (H : Type) (enc : TypeId × Value → H) (W : World) (base : Nat) (args : Array Value) (ds gs : List (DataW H)) (before : List MemPlace)
    (hval : ∀ (j : Nat) t v, Try.f5.params[j]? = some t → args[j]? = some v → Value.okWide Try.prog W .any base t v)
    (hW : DataW.Whole enc Try.prog Try.f5.params.toList Rows.packInnerSpec.vars false W args.toList ds gs before) (hsh : W.ShapedOpen Try.prog) :
    Calls Try.prog 5 args W fun e W' => ∃ v, e = .returned v ∧ Rows.packInnerSpec.post enc Try.prog Try.f5 false true false false W args v W' := by
  have hW' := hW
  obtain ⟨p, q, hA0, hV, rfl, hfz, hnd⟩ := hW
  have hA : DataW.TrodAll enc Try.prog W 0 (fun _ => true) true Try.f5.params.toList args.toList ds p := hA0
  rw [Try.params5] at hA hval
  obtain ⟨v0, vs0, d0, ds0, p0, q0, hargs, rfl, rfl, h0, r0⟩ := trodAll_cons hA
  obtain ⟨v1, vs1, d1, ds1, p1, q1, rfl, rfl, rfl, h1, r1⟩ := trodAll_cons r0
  obtain ⟨v2, vs2, d2, ds2, p2, q2, rfl, rfl, rfl, h2, r2⟩ := trodAll_cons r1
  obtain ⟨v3, vs3, d3, ds3, p3, q3, rfl, rfl, rfl, h3, r3⟩ := trodAll_cons r2
  obtain ⟨rfl, rfl, rfl⟩ := trodAll_nil r3
  obtain rfl : args = #[v0, v1, v2, v3] := by cases args; simp_all
  obtain ⟨rfl, rfl⟩ := trodVars_none hV
  have k0 := h0
  have lt0 : ∀ x ∈ p0, x.block < W.heap.size := by obtain ⟨m, hm⟩ := k0; exact DataW.trod_lt m _ _ _ hm
  obtain ⟨cs0, rfl, hs0⟩ := okWide_struct Try.underlying25 (hval 0 25 v0 rfl rfl)
  obtain ⟨u0a, u0b, u0c, u0d, u0e, u0f, u0g, u0h, u0i, u0j, u0k, rfl⟩ := arr11 (hs0.trans (by kernel_rfl))
  obtain ⟨fu0, hf0⟩ := h0
  obtain ⟨_, _, e1⟩ := field_at Try.underlying25 hf0 0 rfl 1 (by kernel_rfl)
  obtain ⟨a0a, c2, _, w0a⟩ := DataW.trod_int Try.underlying3 e1
  obtain rfl : u0a = .int .i64 a0a := by simpa [Value.cells] using c2
  obtain ⟨_, _, e3⟩ := field_at Try.underlying25 hf0 1 rfl 1 (by kernel_rfl)
  obtain ⟨a0b, c4, _, w0b⟩ := DataW.trod_int Try.underlying3 e3
  obtain rfl : u0b = .int .i64 a0b := by simpa [Value.cells] using c4
  obtain ⟨_, _, e5⟩ := field_at Try.underlying25 hf0 2 rfl 1 (by kernel_rfl)
  obtain ⟨a0c, c6, _⟩ := DataW.trod_bool Try.underlying4 e5
  obtain rfl : u0c = .bool a0c := by simpa [Value.cells] using c6
  obtain ⟨_, _, e7⟩ := field_at Try.underlying25 hf0 3 rfl 1 (by kernel_rfl)
  obtain ⟨a0d, c8, _⟩ := DataW.trod_bool Try.underlying4 e7
  obtain rfl : u0d = .bool a0d := by simpa [Value.cells] using c8
  obtain ⟨_, _, e9⟩ := field_at Try.underlying25 hf0 4 rfl 1 (by kernel_rfl)
  obtain ⟨a0e, c10, _, w0e⟩ := DataW.trod_int Try.underlying3 e9
  obtain rfl : u0e = .int .i64 a0e := by simpa [Value.cells] using c10
  obtain ⟨_, _, e11⟩ := field_at Try.underlying25 hf0 5 rfl 1 (by kernel_rfl)
  obtain ⟨a0f, c12, _, w0f⟩ := DataW.trod_int Try.underlying3 e11
  obtain rfl : u0f = .int .i64 a0f := by simpa [Value.cells] using c12
  obtain ⟨_, _, e13⟩ := field_at Try.underlying25 hf0 6 rfl 1 (by kernel_rfl)
  obtain ⟨a0g, c14, _, w0g⟩ := DataW.trod_int Try.underlying3 e13
  obtain rfl : u0g = .int .i64 a0g := by simpa [Value.cells] using c14
  obtain ⟨_, _, e15⟩ := field_at Try.underlying25 hf0 7 rfl 1 (by kernel_rfl)
  obtain ⟨a0h, c16, _, w0h⟩ := DataW.trod_int Try.underlying23 e15
  obtain rfl : u0h = .int .u32 a0h := by simpa [Value.cells] using c16
  obtain ⟨_, _, e17⟩ := field_at Try.underlying25 hf0 8 rfl 1 (by kernel_rfl)
  obtain ⟨a0i, c18, _, w0i⟩ := DataW.trod_int Try.underlying23 e17
  obtain rfl : u0i = .int .u32 a0i := by simpa [Value.cells] using c18
  obtain ⟨_, _, e19⟩ := field_at Try.underlying25 hf0 9 rfl 1 (by kernel_rfl)
  obtain ⟨a0j, len0j, cap0j, zs0j, c20, row0j⟩ := open_rowI Try.underlying22 Try.underlying5 (by kernel_rfl) (fun _ => rfl) e19
  obtain rfl : u0j = .slice a0j len0j cap0j := by simpa [Value.cells] using c20
  obtain ⟨_, _, e21⟩ := field_at Try.underlying25 hf0 10 rfl 1 (by kernel_rfl)
  obtain ⟨a0k, len0k, cap0k, zs0k, c22, row0k⟩ := open_rowI Try.underlying22 Try.underlying5 (by kernel_rfl) (fun _ => rfl) e21
  obtain rfl : u0k = .slice a0k len0k cap0k := by simpa [Value.cells] using c22
  obtain ⟨a1, rfl, rfl, rfl, w1⟩ := open_int Try.underlying23 (hval 1 23 v1 rfl rfl) h1
  obtain ⟨a2, rfl, rfl, rfl, w2⟩ := open_int Try.underlying23 (hval 2 23 v2 rfl rfl) h2
  obtain ⟨a3, rfl, rfl, rfl, w3⟩ := open_int Try.underlying5 (hval 3 5 v3 rfl rfl) h3
  clear hA0
  refine (walk a0a a0b a0c a0d a0e a0f a0g a0h a0i a0j len0j cap0j zs0j a0k len0k cap0k zs0k a1 a2 a3 W w0a w0b w0e w0f w0g w0h w0i row0j row0k w1 w2 w3 hsh).mono fun e W' ⟨he, bel⟩ => ?_
  subst he
  exact ⟨_, rfl, _, _, _, [], _, [], hW', trodAll_mk1 (shut_bool Try.underlying4 _), (trodAll_cons_mk (Below.trod laidOut (by kernel_rfl) (of_decide_eq_true (by kernel_rfl)) k0 bel lt0) (trodAll_cons_mk (shut_int Try.underlying23 w1) (trodAll_cons_mk (shut_int Try.underlying23 w2) (trodAll_cons_mk (shut_int Try.underlying5 w3) trodAll_mk0)))), rfl, bel.frame _, fun h => by cases h⟩

theorem laid_met (os : Os) : laidMet Try.prog Rows.packInnerRow.laid ((World.doorLaid Try.prog 24 os).forCall (fun _ _ => 0) ⟨#[], #[.agg #[.int .i64 0, .int .i64 0, .bool false, .bool false, .int .i64 0, .int .i64 0, .int .i64 0, .int .u32 0, .int .u32 0, .slice none 0 0, .slice none 0 0], .int .u32 0, .int .u32 0, .int .u8 0], []⟩).memory :=
  laidMet_of_run' 8 (by kernel_rfl) (by kernel_rfl)
theorem reads (os : Os) {H : Type} (enc : TypeId × Value → H) : ∃ places, DataW.whole enc Try.prog ((World.doorLaid Try.prog 24 os).forCall (fun _ _ => 0) ⟨#[], #[.agg #[.int .i64 0, .int .i64 0, .bool false, .bool false, .int .i64 0, .int .i64 0, .int .i64 0, .int .u32 0, .int .u32 0, .slice none 0 0, .slice none 0 0], .int .u32 0, .int .u32 0, .int .u8 0], []⟩).memory Try.f5.params.toList Rows.packInnerSpec.vars false (#[.agg #[.int .i64 0, .int .i64 0, .bool false, .bool false, .int .i64 0, .int .i64 0, .int .i64 0, .int .u32 0, .int .u32 0, .slice none 0 0, .slice none 0 0], .int .u32 0, .int .u32 0, .int .u8 0] : Array Value).toList 8 = some ([.agg [.lit (.int .i64 0), .lit (.int .i64 0), .lit (.bool false), .lit (.bool false), .lit (.int .i64 0), .lit (.int .i64 0), .lit (.int .i64 0), .lit (.int .u32 0), .lit (.int .u32 0), .nil, .nil], .lit (.int .u32 0), .lit (.int .u32 0), .lit (.int .u8 0)], [], places) :=
  ⟨[], by kernel_rfl⟩

set_option maxRecDepth 100000 in
theorem lifted (os : Os) (started : os.Started) (H : Type) (enc : TypeId × Value → H) (F : Stop.Interp) :
    ReturnsInHanded {} Try.checked os 5 .any ((OpenSpec.ofChange Rows.packInnerSpec).preRow enc Try.prog Try.f5 Rows.packInnerRow.domain false Rows.packInnerRow.laid) (((OpenSpec.ofChange Rows.packInnerSpec).at F).post enc Try.prog Try.f5 false true false false) := by
  obtain ⟨places, hx⟩ := reads os enc
  refine returnsInHanded_of_row (C := Try.checked) (s := (OpenSpec.ofChange Rows.packInnerSpec)) own started (by kernel_rfl) Try.func5
    (witness_row_at (enc := enc) (C := Try.checked) false (World.doorLaid Try.prog 24 os) #[.agg #[.int .i64 0, .int .i64 0, .bool false, .bool false, .int .i64 0, .int .i64 0, .int .i64 0, .int .u32 0, .int .u32 0, .slice none 0 0, .slice none 0 0], .int .u32 0, .int .u32 0, .int .u8 0] rfl (by kernel_rfl) (by kernel_rfl) (by kernel_rfl)
      (OpenSpec.preRow_of_cond 8 hx (by kernel_rfl) (fun k hk => by cases hk) (by kernel_rfl) (laid_met os))) ?_
  intro W base args ds gs before hval hW _ hcond _ hL hsh _
  exact contract H enc W base args ds gs before hval hW hsh

theorem said : Rows.PackInnerSaid :=
  OpenClaim.holds_of_cond 5 Try.f5 rfl rfl rfl rfl rfl rfl rfl ⟨rfl, rfl, rfl, rfl, rfl⟩ rfl rfl rfl rfl rfl (by kernel_rfl) Try.func5 (by kernel_rfl)
    (of_decide_eq_true (by kernel_rfl)) (by unfold Func.isWrapper; first | (rw [if_pos (by decide +kernel)]; kernel_rfl) | (rw [if_neg (by decide +kernel)]; exact ⟨rfl, rfl⟩))
    (fun os started H enc _ F => by rw [OpenClaim.pre_eq_preRow]; exact lifted os started H enc F)

end Go.Proofs.Ytkagkfbdpiblkaa.packInner

namespace Go.Proofs.Ytkagkfbdpiblkaa
theorem packInner_holds : Rows.PackInnerSaid := packInner.said
#print axioms packInner_holds
end Go.Proofs.Ytkagkfbdpiblkaa
