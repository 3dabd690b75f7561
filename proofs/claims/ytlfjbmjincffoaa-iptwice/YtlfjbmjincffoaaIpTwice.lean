/- For every packet, the law IpTwice returns true: a TTL goes down step by step to 0, and no further; no condition. -/
import Derived.Test.YtlfjbmjincffoaaRows
import Derived.Test.YtlfjbmjincffoaaFrame
import Derived.Test.YtlfjbmjincffoaaIp6
import Derived.Test.YtlfjbmjincffoaaIp7
import Derived.Test.YtlfjbmjincffoaaFrame
import Derived.WalkKit
import Derived.ProofKit
import Derived.OpenShut
import Derived.ShutString
import Derived.ChangeOld
import Derived.Deep.DeepHandedRow
import Derived.Lib.LaidTab
import Derived.Lib.SmallJoins
import Derived.LaidMore
import Derived.Stop.LaidErr
import Derived.ChangeMaps5
namespace Go.Proofs.Ytlfjbmjincffoaa.ipTwice
open Go.ChangeShapes Go.WideShapes Go.ChangeAt Go.RowKit Go.ChangeMaps
set_option linter.unusedVariables false

theorem own : ownKnob Try.prog.godebug = none := by kernel_rfl
theorem laidOut : laidOutB Try.prog = true := by kernel_rfl

theorem arr11 {α : Type} {cs : Array α} (h : cs.size = 11) : ∃ c0 c1 c2 c3 c4 c5 c6 c7 c8 c9 c10, cs = #[c0, c1, c2, c3, c4, c5, c6, c7, c8, c9, c10] := by
  obtain ⟨l⟩ := cs
  match l, h with
  | [c0, c1, c2, c3, c4, c5, c6, c7, c8, c9, c10], _ => exact ⟨c0, c1, c2, c3, c4, c5, c6, c7, c8, c9, c10, rfl⟩

set_option maxHeartbeats 4000000 in
theorem walk (a0a : Int) (a0b : Int) (a0c : Bool) (a0d : Bool) (a0e : Int) (a0f : Int) (a0g : Int) (a0h : Int) (a0i : Int) (a0j : Option Addr) (len0j cap0j : Nat) (zs0j : List Int) (a0k : Option Addr) (len0k cap0k : Nat) (zs0k : List Int) (w : World) (w0a : (Lit.int .i64 a0a).wf = true) (w0b : (Lit.int .i64 a0b).wf = true) (w0e : (Lit.int .i64 a0e).wf = true) (w0f : (Lit.int .i64 a0f).wf = true) (w0g : (Lit.int .i64 a0g).wf = true) (w0h : (Lit.int .u32 a0h).wf = true) (w0i : (Lit.int .u32 a0i).wf = true) (row0j : IsRow .u8 w a0j len0j cap0j zs0j) (row0k : IsRow .u8 w a0k len0k cap0k zs0k) (hsh : w.ShapedOpen Try.prog) :
    Calls Try.prog 9 #[.agg #[.int .i64 a0a, .int .i64 a0b, .bool a0c, .bool a0d, .int .i64 a0e, .int .i64 a0f, .int .i64 a0g, .int .u32 a0h, .int .u32 a0i, .slice a0j len0j cap0j, .slice a0k len0k cap0k]] w fun e w' => e = .returned (.bool true) ∧ Below w.heap.size w w' := by
  have r9 := row0j.bytes
  have z9 := row0j.nil_cap
  have ra := row0k.bytes
  have za := row0k.nil_cap
  have hs9 := r9.small
  have bh := bounds_u32 w0h
  have bi := bounds_u32 w0i
  have f : Fine ⟨a0a, a0b, a0c, a0d, a0e, a0f, a0g, a0h, a0i, zs0j.take len0j, zs0k.take len0k⟩ := ⟨bh.1, bh.2, bi.1, bi.2, r9.ok, ra.ok⟩
  have cl := fun w => long_any ⟨a0a, a0b, a0c, a0d, a0e, a0f, a0g, a0h, a0i, zs0j.take len0j, zs0k.take len0k⟩ a0j len0j cap0j a0k len0k cap0k w
  have ci := fun w => refIs_any ⟨a0a, a0b, a0c, a0d, a0e, a0f, a0g, a0h, a0i, zs0j.take len0j, zs0k.take len0k⟩ a0j len0j cap0j a0k len0k cap0k w r9.length hs9
  have hx0 : Ext w (w.alloc (.cells #[.int .i64 a0a, .int .i64 a0b, .bool a0c, .bool a0d, .int .i64 a0e, .int .i64 a0f, .int .i64 a0g, .int .u32 a0h, .int .u32 a0i, .slice a0j len0j cap0j, .slice a0k len0k cap0k] 25)) := (Ext.refl w).alloc _
  obtain ⟨b0, b1, b2, b3, b4, b5, b6, b7, b8, b9, ba⟩ := box_ipE (heap_new' w (.cells #[.int .i64 a0a, .int .i64 a0b, .bool a0c, .bool a0d, .int .i64 a0e, .int .i64 a0f, .int .i64 a0g, .int .u32 a0h, .int .u32 a0i, .slice a0j len0j cap0j, .slice a0k len0k cap0k] 25))
  by_cases hlong : 60 < len0j ∨ 1500 < len0k
  · rw [show decide (60 < len0j ∨ 1500 < len0k) = true by simpa using hlong] at cl
    clear hlong ci f
    dsimp only at *
    go_enter Try.func9, Try.ntmps9
    go_wp2_with (go_at_call 17; refine (cl _).mono ?_; rintro e w1 ⟨rfl, hx1⟩)
    go_ret
    exact ⟨rfl, hx0.trans hx1⟩
  rw [show decide (60 < len0j ∨ 1500 < len0k) = false by simpa using hlong] at cl
  by_cases his : isV ⟨a0a, a0b, a0c, a0d, a0e, a0f, a0g, a0h, a0i, zs0j.take len0j, zs0k.take len0k⟩ = true
  rotate_left
  · rw [Bool.not_eq_true] at his
    rw [his] at ci
    clear his f
    dsimp only at *
    go_enter Try.func9, Try.ntmps9
    go_wp2_with (first
      | (go_at_call 17; refine (cl _).mono ?_; rintro e w1 ⟨rfl, hx1⟩)
      | (go_at_call 21; refine (ci _).mono ?_; rintro e w2 ⟨rfl, hx2⟩))
    go_ret
    exact ⟨rfl, hx0.trans (hx1.trans hx2)⟩
  rw [his] at ci
  have hp := (isV_iff _).1 his
  clear his
  have n1 : len0j ≤ 40 := by have := hp.n40; rw [show (⟨a0a, a0b, a0c, a0d, a0e, a0f, a0g, a0h, a0i, zs0j.take len0j, zs0k.take len0k⟩ : IPv).opts.length = len0j from r9.length] at this; exact this
  have n2 : len0k ≤ 1500 := by omega
  obtain ⟨N, hN⟩ : ∃ N, 20 + len0j + len0k = N := ⟨_, rfl⟩
  have hd : (⟨a0a, a0b, a0c, a0d, a0e, a0f, a0g, a0h, a0i, zs0j.take len0j, zs0k.take len0k⟩ : IPv).data.length ≤ 60000 := by rw [show (⟨a0a, a0b, a0c, a0d, a0e, a0f, a0g, a0h, a0i, zs0j.take len0j, zs0k.take len0k⟩ : IPv).data.length = len0k from ra.length]; omega
  have lY : (buildV ⟨a0a, a0b, a0c, a0d, a0e, a0f, a0g, a0h, a0i, zs0j.take len0j, zs0k.take len0k⟩).length = N := by rw [build_len, ← hN, show (⟨a0a, a0b, a0c, a0d, a0e, a0f, a0g, a0h, a0i, zs0j.take len0j, zs0k.take len0k⟩ : IPv).data.length = len0k from ra.length, show (⟨a0a, a0b, a0c, a0d, a0e, a0f, a0g, a0h, a0i, zs0j.take len0j, zs0k.take len0k⟩ : IPv).opts.length = len0j from r9.length]
  have cb := fun w h h' => build_is ⟨a0a, a0b, a0c, a0d, a0e, a0f, a0g, a0h, a0i, zs0j.take len0j, zs0k.take len0k⟩ a0j len0j cap0j a0k len0k cap0k w h z9 h' za f hp n2 N hN
  have okY := build_ok f hp
  have hN0 : 20 ≤ N := by omega
  have hN1 : N ≤ 1560 := by omega
  have u0 := hp.l0
  dsimp only at u0
  by_cases hm : 60 < a0f
  · clear f hp hd cb okY lY
    dsimp only at *
    clear hN hlong
    go_enter Try.func9, Try.ntmps9
    go_wp2_with (first
      | (go_at_call 17; refine (cl _).mono ?_; rintro e w1 ⟨rfl, hx1⟩)
      | (go_at_call 21; refine (ci _).mono ?_; rintro e w2 ⟨rfl, hx2⟩; have hx12 := hx1.trans hx2))
    go_ret
    exact ⟨rfl, hx0.trans (hx1.trans hx2)⟩
  have L := build_looks f hp hd []
  have hb := built f hp hd []
  rw [List.append_nil] at L hb
  have h2 : get16V (buildV ⟨a0a, a0b, a0c, a0d, a0e, a0f, a0g, a0h, a0i, zs0j.take len0j, zs0k.take len0k⟩) 2 = (N : Int) := by
    rw [hb.x2, show (⟨a0a, a0b, a0c, a0d, a0e, a0f, a0g, a0h, a0i, zs0j.take len0j, zs0k.take len0k⟩ : IPv).data.length = len0k from ra.length, show (⟨a0a, a0b, a0c, a0d, a0e, a0f, a0g, a0h, a0i, zs0j.take len0j, zs0k.take len0k⟩ : IPv).opts.length = len0j from r9.length, ← hN]; omega
  have h8 : byteV (buildV ⟨a0a, a0b, a0c, a0d, a0e, a0f, a0g, a0h, a0i, zs0j.take len0j, zs0k.take len0k⟩) 8 = a0f := hb.x8
  obtain ⟨K0, hK0⟩ : ∃ K0 : Nat, a0f = K0 := ⟨a0f.toNat, by omega⟩
  clear f hp hd hb
  dsimp only at *
  generalize buildV ⟨a0a, a0b, a0c, a0d, a0e, a0f, a0g, a0h, a0i, zs0j.take len0j, zs0k.take len0k⟩ = Y at *
  have HN : Hid _ := hN
  have HK : Hid _ := hK0
  have H8 : Hid _ := h8
  clear hN hlong hK0 h8
  go_enter Try.func9, Try.ntmps9
  go_wp2_with (first
    | (go_at_call 17; refine (cl _).mono ?_; rintro e w1 ⟨rfl, hx1⟩)
    | (go_at_call 21; refine (ci _).mono ?_; rintro e w2 ⟨rfl, hx2⟩; have hx12 := hx1.trans hx2; have hy2 := hx0.trans hx12)
    | (go_at_call 18; refine (cb _ (r9.below hy2) (ra.below hy2)).mono ?_; rintro e w3 ⟨q, c, rfl, ho, hx3⟩; obtain ⟨hb, hz, hc⟩ := owns_slice ho okY; clear ho; have hx03 := hx12.trans hx3; have hy3 := hy2.trans hx3))
  go_loopw [3, 5] (fun v i wr => ∃ (xs : List Int) (k : Nat) (q : Option Addr) (c : Nat), v = .slice q N c ∧ N ≤ c ∧ Bytes wr q N xs ∧ Looks xs ∧ Hid (get16V xs 2 = (N : Int)) ∧ Hid (byteV xs 8 = (k : Int)) ∧ k ≤ 60 ∧ i = .int .i64 k ∧ Ext w wr) (fun _ i _ => (intOf i).toNat)
  case atStart => exact ⟨Y, K0, q, c, rfl, hc, hb, L, h2, H8.out.trans HK.out, by have := HK.out; omega, by rw [HK.out], hy3⟩
  case round =>
    obtain ⟨xs, k, q, c, rfl, hc, hb, L, h2, h8, hk, rfl, hx⟩ := hrel
    by_cases hk0 : k = 0
    · subst hk0
      have cn := less_none q N c xs wr hb hc (by omega) L h8.out
      go_wp2_with (first
        | (go_at_call 22; refine cn.mono ?_; rintro e w4 ⟨rfl, hx4⟩)
        | (go_at_call 16; refine (ipKnown_any _).mono ?_; rintro e w5 ⟨rfl, hx5⟩))
      go_ret
      exact ⟨rfl, hx.trans (hx4.trans hx5)⟩
    · have hL := lessened hb.ok L (by rw [h8.out]; omega)
      have cg := less_good q N c xs wr hb hc (by omega) L (by rw [h8.out]; omega) N h2.out
      have okL := hL.ok
      have pk := hL.pack
      rw [h8.out] at pk
      have ttl := hL.ttl
      rw [h8.out] at ttl
      have all := hL.all
      rw [h2.out] at all
      have LL := hL.looks
      have cp := fun q c w h hc => parse_is q N c (lessV xs) _ w h hc (by omega) ((looks_iff _).2 LL) pk
      generalize parseV xs = pv at *
      dsimp only at cp
      have HA : Hid _ := all
      have HT : Hid _ := ttl
      clear all ttl pk hL
      go_wp2_with (first
        | (go_at_call 22; refine cg.mono ?_; rintro e w4 ⟨q4, c4, rfl, ho4, hx4⟩; obtain ⟨hb4, _, hc4⟩ := owns_slice ho4 okL; clear ho4)
        | (go_at_call 11; refine (cp q4 c4 _ hb4 hc4).mono ?_; rintro e w5 ⟨g1, m1, e1, g2, m2, e2, rfl, _, _, _, _, hx5⟩))
      go_roundw
      case rel => exact ⟨lessV xs, k - 1, q4, c4, rfl, hc4, hb4.below (hx5.alloc _), LL, HA, (by show _ = _; rw [HT.out]; omega), by omega, by go_num, hx.trans (hx4.trans (hx5.alloc _))⟩
      case measure => simp [intOf]; omega

theorem contract (H : Type) (enc : TypeId × Value → H) (W : World) (base : Nat) (args : Array Value) (ds gs : List (DataW H)) (before : List MemPlace)
    (hval : ∀ (j : Nat) t v, Try.f9.params[j]? = some t → args[j]? = some v → Value.okWide Try.prog W .any base t v)
    (hW : DataW.Whole enc Try.prog Try.f9.params.toList Rows.ipTwiceSpec.vars false W args.toList ds gs before) (hsh : W.ShapedOpen Try.prog) :
    Calls Try.prog 9 args W fun e W' => ∃ v, e = .returned v ∧ Rows.ipTwiceSpec.post enc Try.prog Try.f9 false true false false W args v W' := by
  have hW' := hW
  obtain ⟨p, q, hA0, hV, rfl, hfz, hnd⟩ := hW
  have hA : DataW.TrodAll enc Try.prog W 0 (fun _ => true) true Try.f9.params.toList args.toList ds p := hA0
  rw [Try.params9] at hA hval
  obtain ⟨v0, vs0, d0, ds0, p0, q0, hargs, rfl, rfl, h0, r0⟩ := trodAll_cons hA
  obtain ⟨rfl, rfl, rfl⟩ := trodAll_nil r0
  obtain rfl : args = #[v0] := by cases args; simp_all
  obtain ⟨rfl, rfl⟩ := trodVars_none hV
  have k0 := h0
  have lt0 : ∀ x ∈ p0, x.block < W.heap.size := by obtain ⟨m, hm⟩ := k0; exact DataW.trod_lt m _ _ _ hm
  obtain ⟨cs0, rfl, hs0⟩ := okWide_struct Try.underlying25 (hval 0 25 v0 rfl rfl)
  obtain ⟨u0a, u0b, u0c, u0d, u0e, u0f, u0g, u0h, u0i, u0j, u0k, rfl⟩ := arr11 (hs0.trans (by kernel_rfl))
  obtain ⟨fu0, hf0⟩ := h0
  obtain ⟨_, _, e1⟩ := field_at Try.underlying25 hf0 0 rfl 1 (by kernel_rfl)
  obtain ⟨a0a, c2, _, w0a⟩ := DataW.trod_int Try.underlying3 e1
  obtain rfl : u0a = .int .i64 a0a := by simpa [Value.cells] using c2
  obtain ⟨_, _, e3⟩ := field_at Try.underlying25 hf0 1 rfl 1 (by kernel_rfl)
  obtain ⟨a0b, c4, _, w0b⟩ := DataW.trod_int Try.underlying3 e3
  obtain rfl : u0b = .int .i64 a0b := by simpa [Value.cells] using c4
  obtain ⟨_, _, e5⟩ := field_at Try.underlying25 hf0 2 rfl 1 (by kernel_rfl)
  obtain ⟨a0c, c6, _⟩ := DataW.trod_bool Try.underlying4 e5
  obtain rfl : u0c = .bool a0c := by simpa [Value.cells] using c6
  obtain ⟨_, _, e7⟩ := field_at Try.underlying25 hf0 3 rfl 1 (by kernel_rfl)
  obtain ⟨a0d, c8, _⟩ := DataW.trod_bool Try.underlying4 e7
  obtain rfl : u0d = .bool a0d := by simpa [Value.cells] using c8
  obtain ⟨_, _, e9⟩ := field_at Try.underlying25 hf0 4 rfl 1 (by kernel_rfl)
  obtain ⟨a0e, c10, _, w0e⟩ := DataW.trod_int Try.underlying3 e9
  obtain rfl : u0e = .int .i64 a0e := by simpa [Value.cells] using c10
  obtain ⟨_, _, e11⟩ := field_at Try.underlying25 hf0 5 rfl 1 (by kernel_rfl)
  obtain ⟨a0f, c12, _, w0f⟩ := DataW.trod_int Try.underlying3 e11
  obtain rfl : u0f = .int .i64 a0f := by simpa [Value.cells] using c12
  obtain ⟨_, _, e13⟩ := field_at Try.underlying25 hf0 6 rfl 1 (by kernel_rfl)
  obtain ⟨a0g, c14, _, w0g⟩ := DataW.trod_int Try.underlying3 e13
  obtain rfl : u0g = .int .i64 a0g := by simpa [Value.cells] using c14
  obtain ⟨_, _, e15⟩ := field_at Try.underlying25 hf0 7 rfl 1 (by kernel_rfl)
  obtain ⟨a0h, c16, _, w0h⟩ := DataW.trod_int Try.underlying23 e15
  obtain rfl : u0h = .int .u32 a0h := by simpa [Value.cells] using c16
  obtain ⟨_, _, e17⟩ := field_at Try.underlying25 hf0 8 rfl 1 (by kernel_rfl)
  obtain ⟨a0i, c18, _, w0i⟩ := DataW.trod_int Try.underlying23 e17
  obtain rfl : u0i = .int .u32 a0i := by simpa [Value.cells] using c18
  obtain ⟨_, _, e19⟩ := field_at Try.underlying25 hf0 9 rfl 1 (by kernel_rfl)
  obtain ⟨a0j, len0j, cap0j, zs0j, c20, row0j⟩ := open_rowI Try.underlying22 Try.underlying5 (by kernel_rfl) (fun _ => rfl) e19
  obtain rfl : u0j = .slice a0j len0j cap0j := by simpa [Value.cells] using c20
  obtain ⟨_, _, e21⟩ := field_at Try.underlying25 hf0 10 rfl 1 (by kernel_rfl)
  obtain ⟨a0k, len0k, cap0k, zs0k, c22, row0k⟩ := open_rowI Try.underlying22 Try.underlying5 (by kernel_rfl) (fun _ => rfl) e21
  obtain rfl : u0k = .slice a0k len0k cap0k := by simpa [Value.cells] using c22
  clear hA0
  refine (walk a0a a0b a0c a0d a0e a0f a0g a0h a0i a0j len0j cap0j zs0j a0k len0k cap0k zs0k W w0a w0b w0e w0f w0g w0h w0i row0j row0k hsh).mono fun e W' ⟨he, bel⟩ => ?_
  subst he
  exact ⟨_, rfl, _, _, _, [], _, [], hW', trodAll_mk1 (shut_bool Try.underlying4 _), (trodAll_cons_mk (Below.trod laidOut (by kernel_rfl) (of_decide_eq_true (by kernel_rfl)) k0 bel lt0) trodAll_mk0), rfl, bel.frame _, fun h => by cases h⟩

theorem laid_met (os : Os) : laidMet Try.prog Rows.ipTwiceRow.laid ((World.doorLaid Try.prog 24 os).forCall (fun _ _ => 0) ⟨#[], #[.agg #[.int .i64 0, .int .i64 0, .bool false, .bool false, .int .i64 0, .int .i64 0, .int .i64 0, .int .u32 0, .int .u32 0, .slice none 0 0, .slice none 0 0]], []⟩).memory :=
  laidMet_of_run' 8 (by kernel_rfl) (by kernel_rfl)
theorem reads (os : Os) {H : Type} (enc : TypeId × Value → H) : ∃ places, DataW.whole enc Try.prog ((World.doorLaid Try.prog 24 os).forCall (fun _ _ => 0) ⟨#[], #[.agg #[.int .i64 0, .int .i64 0, .bool false, .bool false, .int .i64 0, .int .i64 0, .int .i64 0, .int .u32 0, .int .u32 0, .slice none 0 0, .slice none 0 0]], []⟩).memory Try.f9.params.toList Rows.ipTwiceSpec.vars false (#[.agg #[.int .i64 0, .int .i64 0, .bool false, .bool false, .int .i64 0, .int .i64 0, .int .i64 0, .int .u32 0, .int .u32 0, .slice none 0 0, .slice none 0 0]] : Array Value).toList 8 = some ([.agg [.lit (.int .i64 0), .lit (.int .i64 0), .lit (.bool false), .lit (.bool false), .lit (.int .i64 0), .lit (.int .i64 0), .lit (.int .i64 0), .lit (.int .u32 0), .lit (.int .u32 0), .nil, .nil]], [], places) :=
  ⟨[], by kernel_rfl⟩

set_option maxRecDepth 100000 in
theorem lifted (os : Os) (started : os.Started) (H : Type) (enc : TypeId × Value → H) (F : Stop.Interp) :
    ReturnsInHanded {} Try.checked os 9 .any ((OpenSpec.ofChange Rows.ipTwiceSpec).preRow enc Try.prog Try.f9 Rows.ipTwiceRow.domain false Rows.ipTwiceRow.laid) (((OpenSpec.ofChange Rows.ipTwiceSpec).at F).post enc Try.prog Try.f9 false true false false) := by
  obtain ⟨places, hx⟩ := reads os enc
  refine returnsInHanded_of_row (C := Try.checked) (s := (OpenSpec.ofChange Rows.ipTwiceSpec)) own started (by kernel_rfl) Try.func9
    (witness_row_at (enc := enc) (C := Try.checked) false (World.doorLaid Try.prog 24 os) #[.agg #[.int .i64 0, .int .i64 0, .bool false, .bool false, .int .i64 0, .int .i64 0, .int .i64 0, .int .u32 0, .int .u32 0, .slice none 0 0, .slice none 0 0]] rfl (by kernel_rfl) (by kernel_rfl) (by kernel_rfl)
      (OpenSpec.preRow_of_cond 8 hx (by kernel_rfl) (fun k hk => by cases hk) (by kernel_rfl) (laid_met os))) ?_
  intro W base args ds gs before hval hW _ hcond _ hL hsh _
  exact contract H enc W base args ds gs before hval hW hsh

theorem said : Rows.IpTwiceSaid :=
  OpenClaim.holds_of_cond 9 Try.f9 rfl rfl rfl rfl rfl rfl rfl ⟨rfl, rfl, rfl, rfl, rfl⟩ rfl rfl rfl rfl rfl (by kernel_rfl) Try.func9 (by kernel_rfl)
    (of_decide_eq_true (by kernel_rfl)) (by unfold Func.isWrapper; first | (rw [if_pos (by decide +kernel)]; kernel_rfl) | (rw [if_neg (by decide +kernel)]; exact ⟨rfl, rfl⟩))
    (fun os started H enc _ F => by rw [OpenClaim.pre_eq_preRow]; exact lifted os started H enc F)

end Go.Proofs.Ytlfjbmjincffoaa.ipTwice

namespace Go.Proofs.Ytlfjbmjincffoaa
theorem ipTwice_holds : Rows.IpTwiceSaid := ipTwice.said
#print axioms ipTwice_holds
end Go.Proofs.Ytlfjbmjincffoaa
