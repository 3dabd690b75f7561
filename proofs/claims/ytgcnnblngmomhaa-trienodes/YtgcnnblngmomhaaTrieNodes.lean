/- For every script and every number, the law TrieNodes returns true: there are never as many forks as prefixes; none, where each covers the next; no condition. -/
import Derived.Test.YtgcnnblngmomhaaRows
import Derived.Test.YtgcnnblngmomhaaLaw9M
import Derived.Test.YtgcnnblngmomhaaTrieC
import Derived.Test.YtgcnnblngmomhaaFrame
import Derived.Test.YtgcnnblngmomhaaRowG
import Derived.WalkKit
import Derived.ProofKit
import Derived.OpenShut
import Derived.ShutString
import Derived.ChangeOld
import Derived.Deep.DeepHandedRow
import Derived.Lib.LaidTab
import Derived.Lib.SmallJoins
import Derived.LaidMore
import Derived.Stop.LaidErr
import Derived.ChangeMaps5
namespace Go.Proofs.Ytgcnnblngmomhaa.trieNodes
open Go.ChangeShapes Go.WideShapes Go.ChangeAt Go.RowKit Go.ChangeMaps
set_option linter.unusedVariables false
set_option maxRecDepth 100000

theorem own : ownKnob Try.prog.godebug = none := by kernel_rfl
theorem laidOut : laidOutB Try.prog = true := by kernel_rfl

abbrev Elem34 := Bool × Int × Int × Int
def cells34 (z : Elem34) : List Value := [.bool (z.1), .int .u32 (z.2.1), .int .i64 (z.2.2.1), .int .i64 (z.2.2.2)]
def ok34 (z : Elem34) : Prop := (Lit.int .u32 (z.2.1)).wf = true ∧ (Lit.int .i64 (z.2.2.1)).wf = true ∧ (Lit.int .i64 (z.2.2.2)).wf = true
theorem cells34_length (z : Elem34) : (cells34 z).length = 4 := rfl
theorem elem34 {H : Type} {enc : TypeId × Value → H} {w : World} {base : Nat} {spare : Nat → Bool} {held : Bool} (n : Nat) (cs : List Value) (y : DataW H × List MemPlace)
    (h : DataW.trod enc Try.prog w base spare held n 34 cs = some y) : ∃ z : Elem34, cs = cells34 z ∧ ok34 z := by
  have hl : cs.length = 4 := by
    obtain ⟨_, _, _, _, hl, _⟩ := DataW.trod_struct Try.underlying34 h
    exact hl.trans (by kernel_rfl)
  obtain ⟨u0, u1, u2, u3, rfl⟩ : ∃ u0 u1 u2 u3, cs = [u0, u1, u2, u3] := by
    match cs, hl with
    | [u0, u1, u2, u3], _ => exact ⟨u0, u1, u2, u3, rfl⟩
  obtain ⟨_, _, e1⟩ := field_at Try.underlying34 h 0 rfl 1 (by kernel_rfl)
  obtain ⟨az0, c2, _⟩ := DataW.trod_bool Try.underlying4 e1
  obtain rfl : u0 = .bool az0 := by simpa using c2
  obtain ⟨_, _, e3⟩ := field_at Try.underlying34 h 1 rfl 2 (by kernel_rfl)
  obtain ⟨_, _, e4⟩ := field_at Try.underlying32 e3 0 rfl 1 (by kernel_rfl)
  obtain ⟨az10, c5, _, wz10⟩ := DataW.trod_int Try.underlying30 e4
  obtain rfl : u1 = .int .u32 az10 := by simpa using c5
  obtain ⟨_, _, e6⟩ := field_at Try.underlying32 e3 1 rfl 1 (by kernel_rfl)
  obtain ⟨az11, c7, _, wz11⟩ := DataW.trod_int Try.underlying3 e6
  obtain rfl : u2 = .int .i64 az11 := by simpa using c7
  obtain ⟨_, _, e8⟩ := field_at Try.underlying34 h 2 rfl 1 (by kernel_rfl)
  obtain ⟨az2, c9, _, wz2⟩ := DataW.trod_int Try.underlying3 e8
  obtain rfl : u3 = .int .i64 az2 := by simpa using c9
  exact ⟨(az0, az10, az11, az2), rfl, ⟨wz10, wz11, wz2⟩⟩

open Go.Proofs.Ytgcnnblngmomhaa.Tri

theorem i64_and5 (n : Int) : bits .and .i64 n 31 = n % 32 := by
  have h127 : (BitVec.ofInt 64 31).toNat = 2 ^ 5 - 1 := by decide
  have key : (BitVec.ofInt 64 n &&& BitVec.ofInt 64 31).toNat = (n % ((2 ^ 64 : Nat) : Int)).toNat % 2 ^ 5 := by
    rw [BitVec.toNat_and, BitVec.toNat_ofInt, h127, Nat.and_two_pow_sub_one_eq_mod]
  show IntKind.i64.wrap ((BitVec.ofInt 64 n &&& BitVec.ofInt 64 31).toNat : Nat) = n % 32
  rw [key, IntKind.wrap_i64]
  omega

set_option maxHeartbeats 4000000 in
theorem walk (a0 : Option Addr) (len0 cap0 : Nat) (zs0 : List Elem34) (a1 : Int) (w : World) (row0 : IsRowG 4 cells34 ok34 w a0 len0 cap0 zs0) (w1 : (Lit.int .i64 a1).wf = true) (hsh : w.ShapedOpen Try.prog) :
    Calls Try.prog 7 #[.slice a0 len0 cap0, .int .i64 a1] w fun e w' => e = .returned (.bool true) ∧ Below w.heap.size w w' := by
  have row : IsRowG 4 actC actOk w a0 len0 cap0 zs0 := row0
  have k1 := laid_any a0 len0 cap0 zs0 w row
  have kn := fun w => known_any w
  have k0 := fun w => new_any w
  obtain ⟨m, hm, hm32⟩ : ∃ m : Nat, bits .and .i64 a1 31 = (m : Int) ∧ m ≤ 31 := by
    rw [i64_and5]
    have h1 : 0 ≤ a1 % 32 := Int.emod_nonneg _ (by omega)
    have h2 : a1 % 32 < 32 := Int.emod_lt_of_pos _ (by omega)
    obtain ⟨k, hk⟩ := Int.eq_ofNat_of_zero_le h1
    exact ⟨k, hk, by omega⟩
  clear row row0
  go_enter Try.func7, Try.ntmps7
  go_wp2_with fail
  go_at_call 21
  refine k1.mono ?_
  rintro e w1 ⟨tb, xb, t, F, G, rfl, hB, hsz, hx1⟩
  have hll := toL_len t
  have hwf := hB.trie.wf
  have HT : Hid (TrieAt w1 tb t F) := hB.trie
  have h2 : t ≠ .nil → szS t + 1 ≤ 2 * (toL t).length := fun h => sz_two hwf h
  have HN : Hid (t ≠ .nil → szS t + 1 ≤ 2 * (toL t).length) := h2
  have hA : Ext w1 (w1.alloc (.cells #[.pointer none] 62)) := (Ext.refl w1).alloc _
  have HU : Hid (TrieAt (w1.alloc (.cells #[.pointer none] 62)) w1.heap.size .nil [w1.heap.size]) := trie_new w1
  clear hB k1 h2 hwf
  go_wp2_with (go_at_call 12; refine (k0 _).mono ?_; rintro e w2 ⟨rfl, rfl⟩)
  go_loopw [8] (fun i wr => ∃ (k : Nat) (s : Sh) (H : List Nat), k ≤ m + 1 ∧ i = .int .i64 (k : Int) ∧ Ext w1 wr ∧ Hid (TrieAt wr w1.heap.size s H ∧ (∀ y ∈ H, w1.heap.size ≤ y) ∧ szS s = k ∧ ∀ x ∈ prefs s, ∃ i, i < k ∧ x = chainP i)) (fun i _ => m + 1 - (intOf i).toNat)
  case atStart => exact ⟨0, .nil, [w1.heap.size], Nat.zero_le _, rfl, hA, ⟨HU.out, by simp, rfl, fun x hx => by simp [prefs] at hx⟩⟩
  case round =>
    obtain ⟨k, s, H, hk, rfl, hx, HK⟩ := hrel
    clear HU hA k0
    by_cases hlt : k ≤ m
    · obtain ⟨hTs, hH, hss, hpr⟩ := HK.out
      have kR := fun w => refNorm_any 4294967295 (k : Int) w (by omega) (by omega)
      have hho : holdV (k : Int) = (k : Int) := holdV_nat k (by omega)
      rw [hho] at kR
      have hvp : Vp (normV 4294967295 (k : Int), (k : Int)) := chain_vp (i := k) (by omega)
      have kS := fun W (h : Ext wr W) => Set_good w1.heap.size (normV 4294967295 (k : Int)) (k : Int) (k : Int) s H W hvp (hTs.ext h)
      have hst := chain_put (t := s) (p := (normV 4294967295 (k : Int), (k : Int))) (k : Int) (fun x hx => by
        obtain ⟨i, hi, rfl⟩ := hpr x hx
        refine ⟨chain_cov (i := i) (j := k) (by omega) (by omega), fun e => ?_⟩
        have := congrArg Prod.snd e
        simp only [chainP] at this
        omega)
      have HST : Hid _ := hst
      have hki : (k : Int) ≤ (m : Int) := by omega
      have HP : Hid ((normV 4294967295 (k : Int), (k : Int)) = chainP k) := rfl
      have HPR : Hid (szS s = k ∧ ∀ x ∈ prefs s, ∃ i, i < k ∧ x = chainP i) := ⟨hss, hpr⟩
      generalize normV 4294967295 (k : Int) = nv at *
      generalize hput : putS s (nv, (k : Int)) (k : Int) = s2 at *
      clear hst hvp hho hpr hss hput hTs
      go_wp2_with (first
        | (go_at_call 30; refine (kR _).mono ?_; rintro e w3 ⟨rfl, hx3⟩)
        | (go_at_call 15; refine (kS _ hx3).mono ?_; rintro e w4 ⟨rfl, H4, hT4, hx4, hn4⟩))
      have hx13 : Ext w1 w3 := hx.trans hx3
      go_roundw
      case rel =>
        refine ⟨k + 1, s2, H4, by omega, by go_num, ((hx13.toS H).trans hx4).ext hH, ⟨hT4, fun y hy => ?_, by rw [HST.out.1, HPR.out.1], fun x hx => ?_⟩⟩
        · rcases hn4 y hy with h | h
          · exact hH y h
          · have := hx13.size; omega
        · rcases HST.out.2 x hx with h | h
          · obtain ⟨i, hi, e⟩ := HPR.out.2 x h
            exact ⟨i, by omega, e⟩
          · exact ⟨k, by omega, by rw [h]; exact HP.out⟩
      case measure => simp [intOf]; omega
    · obtain rfl : k = m + 1 := by omega
      obtain ⟨hTs, hH, hss, hpr⟩ := HK.out
      have hT : TrieAt wr tb t F := HT.out.ext hx
      obtain ⟨root, r1, r2⟩ := hT.top
      obtain ⟨root2, r3, r4⟩ := hTs.top
      have kA := Nodes_any _ root t wr r1 r2 (by omega)
      have kL := Len_any _ root t wr r1 r2 (by omega)
      have kU := Nodes_any _ root2 s wr r3 r4 (by omega)
      rw [hss] at kU
      have hab : ((toL t).length : Int) ≤ (szS t : Int) := by omega
      have hcs : (toL t).length = 0 ∨ (szS t : Int) < 2 * ((toL t).length : Int) := by
        by_cases e : t = .nil
        · left; rw [e]; rfl
        · right; have := HN.out e; omega
      generalize szS t = a at *
      generalize (toL t).length = b at *
      have t1 : Hid True := trivial
      have t2 : Hid True := trivial
      clear hT hTs hH hss hpr HK r1 r2 r3 r4 HN
      have hge : (m : Int) < ((m + 1 : Nat) : Int) := by omega
      rcases hcs with rfl | hc
      · go_wp2_with (first
          | (go_at_call 28; clear t1; refine kA.mono ?_; rintro e w3 ⟨rfl, hw3⟩; subst hw3)
          | (go_at_call 31; refine kL.mono ?_; rintro e w4 ⟨rfl, hw4⟩; subst hw4)
          | (go_at_call 28; refine kU.mono ?_; rintro e w5 ⟨rfl, hw5⟩; subst hw5)
          | (go_at_call 20; refine (kn _).mono ?_; rintro e w6 ⟨rfl, hx6⟩))
        go_ret
        exact ⟨rfl, (hx1.trans hx).trans hx6⟩
      · by_cases hb0 : b = 0
        · omega
        · have hbn : ((b : Int) == 0) = false := by rw [beq_eq_false_iff_ne]; omega
          go_wp2_with (first
            | (go_at_call 28; clear t1; refine kA.mono ?_; rintro e w3 ⟨rfl, hw3⟩; subst hw3)
            | (go_at_call 31; refine kL.mono ?_; rintro e w4 ⟨rfl, hw4⟩; subst hw4)
            | (go_at_call 28; clear t2; refine kA.mono ?_; rintro e w7 ⟨rfl, hw7⟩; subst hw7)
            | (go_at_call 28; refine kU.mono ?_; rintro e w5 ⟨rfl, hw5⟩; subst hw5)
            | (go_at_call 20; refine (kn _).mono ?_; rintro e w6 ⟨rfl, hx6⟩))
          go_ret
          exact ⟨rfl, (hx1.trans hx).trans hx6⟩

theorem contract (H : Type) (enc : TypeId × Value → H) (W : World) (base : Nat) (args : Array Value) (ds gs : List (DataW H)) (before : List MemPlace)
    (hval : ∀ (j : Nat) t v, Try.f7.params[j]? = some t → args[j]? = some v → Value.okWide Try.prog W .any base t v)
    (hW : DataW.Whole enc Try.prog Try.f7.params.toList Rows.trieNodesSpec.vars false W args.toList ds gs before) (hsh : W.ShapedOpen Try.prog) :
    Calls Try.prog 7 args W fun e W' => ∃ v, e = .returned v ∧ Rows.trieNodesSpec.post enc Try.prog Try.f7 false true false false W args v W' := by
  have hW' := hW
  obtain ⟨p, q, hA0, hV, rfl, hfz, hnd⟩ := hW
  have hA : DataW.TrodAll enc Try.prog W 0 (fun _ => true) true Try.f7.params.toList args.toList ds p := hA0
  rw [Try.params7] at hA hval
  obtain ⟨v0, vs0, d0, ds0, p0, q0, hargs, rfl, rfl, h0, r0⟩ := trodAll_cons hA
  obtain ⟨v1, vs1, d1, ds1, p1, q1, rfl, rfl, rfl, h1, r1⟩ := trodAll_cons r0
  obtain ⟨rfl, rfl, rfl⟩ := trodAll_nil r1
  obtain rfl : args = #[v0, v1] := by cases args; simp_all
  obtain ⟨rfl, rfl⟩ := trodVars_none hV
  have k0 := h0
  have lt0 : ∀ x ∈ p0, x.block < W.heap.size := by obtain ⟨m, hm⟩ := k0; exact DataW.trod_lt m _ _ _ hm
  obtain ⟨b0, l0, c0, rfl⟩ := okWide_slice Try.underlying22 (hval 0 22 v0 rfl rfl)
  obtain ⟨fu0, hf0⟩ := h0
  obtain ⟨a0, len0, cap0, zs0, ce0, row0⟩ := open_rowG 4 cells34 ok34 (by omega) cells34_length Try.underlying22 (by kernel_rfl) elem34 hf0
  obtain ⟨rfl, rfl, rfl⟩ : a0 = b0 ∧ len0 = l0 ∧ cap0 = c0 := by simpa [Value.cells, eq_comm] using ce0
  obtain ⟨a1, rfl, rfl, rfl, w1⟩ := open_int Try.underlying3 (hval 1 3 v1 rfl rfl) h1
  clear hA0
  refine (walk a0 len0 cap0 zs0 a1 W row0 w1 hsh).mono fun e W' ⟨he, bel⟩ => ?_
  subst he
  exact ⟨_, rfl, _, _, _, [], _, [], hW', trodAll_mk1 (shut_bool Try.underlying4 _), (trodAll_cons_mk (Below.trod laidOut (by kernel_rfl) (of_decide_eq_true (by kernel_rfl)) k0 bel lt0) (trodAll_cons_mk (shut_int Try.underlying3 w1) trodAll_mk0)), rfl, bel.frame _, fun h => by cases h⟩

theorem laid_met (os : Os) : laidMet Try.prog Rows.trieNodesRow.laid ((World.doorLaid Try.prog 24 os).forCall (fun _ _ => 0) ⟨#[], #[.slice none 0 0, .int .i64 0], []⟩).memory :=
  laidMet_of_run' 8 (by kernel_rfl) (by kernel_rfl)
theorem reads (os : Os) {H : Type} (enc : TypeId × Value → H) : ∃ places, DataW.whole enc Try.prog ((World.doorLaid Try.prog 24 os).forCall (fun _ _ => 0) ⟨#[], #[.slice none 0 0, .int .i64 0], []⟩).memory Try.f7.params.toList Rows.trieNodesSpec.vars false (#[.slice none 0 0, .int .i64 0] : Array Value).toList 8 = some ([.nil, .lit (.int .i64 0)], [], places) :=
  ⟨[], by kernel_rfl⟩

set_option maxRecDepth 100000 in
theorem lifted (os : Os) (started : os.Started) (H : Type) (enc : TypeId × Value → H) (F : Stop.Interp) :
    ReturnsInHanded {} Try.checked os 7 .any ((OpenSpec.ofChange Rows.trieNodesSpec).preRow enc Try.prog Try.f7 Rows.trieNodesRow.domain false Rows.trieNodesRow.laid) (((OpenSpec.ofChange Rows.trieNodesSpec).at F).post enc Try.prog Try.f7 false true false false) := by
  obtain ⟨places, hx⟩ := reads os enc
  refine returnsInHanded_of_row (C := Try.checked) (s := (OpenSpec.ofChange Rows.trieNodesSpec)) own started (by kernel_rfl) Try.func7
    (witness_row_at (enc := enc) (C := Try.checked) false (World.doorLaid Try.prog 24 os) #[.slice none 0 0, .int .i64 0] rfl (by kernel_rfl) (by kernel_rfl) (by kernel_rfl)
      (OpenSpec.preRow_of_cond 8 hx (by kernel_rfl) (fun k hk => by cases hk) (by kernel_rfl) (laid_met os))) ?_
  intro W base args ds gs before hval hW _ hcond _ hL hsh _
  exact contract H enc W base args ds gs before hval hW hsh

theorem said : Rows.TrieNodesSaid :=
  OpenClaim.holds_of_cond 7 Try.f7 rfl rfl rfl rfl rfl rfl rfl ⟨rfl, rfl, rfl, rfl, rfl⟩ rfl rfl rfl rfl rfl (by kernel_rfl) Try.func7 (by kernel_rfl)
    (of_decide_eq_true (by kernel_rfl)) (by unfold Func.isWrapper; first | (rw [if_pos (by decide +kernel)]; kernel_rfl) | (rw [if_neg (by decide +kernel)]; exact ⟨rfl, rfl⟩))
    (fun os started H enc _ F => by rw [OpenClaim.pre_eq_preRow]; exact lifted os started H enc F)

end Go.Proofs.Ytgcnnblngmomhaa.trieNodes

namespace Go.Proofs.Ytgcnnblngmomhaa
theorem trieNodes_holds : Rows.TrieNodesSaid := trieNodes.said
#print axioms trieNodes_holds
end Go.Proofs.Ytgcnnblngmomhaa
