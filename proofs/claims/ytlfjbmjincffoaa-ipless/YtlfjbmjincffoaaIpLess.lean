/- For every bytes, the law IpLess returns true: these with a TTL one less, whose sum is right, all else as it was; no condition. -/
import Derived.Test.YtlfjbmjincffoaaRows
import Derived.Test.YtlfjbmjincffoaaFrame
import Derived.Test.YtlfjbmjincffoaaIp6
import Derived.Test.YtlfjbmjincffoaaIp7
import Derived.Test.YtlfjbmjincffoaaIp7R
import Derived.Test.YtlfjbmjincffoaaIp2R
import Derived.Test.YtlfjbmjincffoaaFrame
import Derived.WalkKit
import Derived.ProofKit
import Derived.OpenShut
import Derived.ShutString
import Derived.ChangeOld
import Derived.Deep.DeepHandedRow
import Derived.Lib.LaidTab
import Derived.Lib.SmallJoins
import Derived.LaidMore
import Derived.Stop.LaidErr
import Derived.ChangeMaps5
namespace Go.Proofs.Ytlfjbmjincffoaa.ipLess
open Go.ChangeShapes Go.WideShapes Go.ChangeAt Go.RowKit Go.ChangeMaps
set_option linter.unusedVariables false

theorem own : ownKnob Try.prog.godebug = none := by kernel_rfl
theorem laidOut : laidOutB Try.prog = true := by kernel_rfl

set_option maxHeartbeats 4000000 in
theorem walk (a0 : Option Addr) (len0 cap0 : Nat) (zs0 : List Int) (w : World) (row0 : IsRow .u8 w a0 len0 cap0 zs0) (hsh : w.ShapedOpen Try.prog) :
    Calls Try.prog 6 #[.slice a0 len0 cap0] w fun e w' => e = .returned (.bool true) ∧ Below w.heap.size w w' := by
  have rb := row0.bytes
  have hle := row0.le
  by_cases h2000 : 2000 < len0
  · go_enter Try.func6, Try.ntmps6
    go_wp2
    go_ret
    exact ⟨rfl, Ext.refl _⟩
  generalize zs0.take len0 = xs at *
  have hcv := fun W hx => (rb.below (w' := W) hx).conv cap0
  by_cases hv : lookV xs = 0
  rotate_left
  · have c1 := less_bad a0 len0 cap0 xs w rb hle (by omega) hv
    have c2 := fun W h => refLess_bad a0 len0 cap0 xs W h hle (by omega) hv
    have s0 := hcv w (Ext.refl _) w (Ext.refl _)
    have sn := fun w' => (bytes_nil w').conv 0 w' (Ext.refl _)
    generalize strOfNums [] = SN at *
    generalize strOfNums xs = SX at *
    go_enter Try.func6, Try.ntmps6
    go_wp2_with (go_at_call 22; refine c1.mono ?_; rintro e w1 ⟨rfl, hx1⟩)
    have hX : Ext w w1.drew := hx1.drew
    have sb := hcv _ hX
    refine wp_region_eager [(0, false), (1, false), (2, false), (3, true), (4, false), (5, false), (6, false), (7, false), (8, false), (9, false), (10, false), (11, false)] (by kernel_rfl) (by kernel_rfl) rfl (by kernel_rfl) (fun _ _ _ _ _ h => h) ?_
    generalize w1.drew = W at *
    repeat (first
      | (refine wpE_read (v := ?_) rfl (by rfl) ?_ ?_; rotate_left; (focus (intro w' hx; go_simp; first | done | with_reducible rfl)); simp only [Act.put, List.setIfInBounds_toArray, List.set_cons_zero, List.set_cons_succ])
      | (refine wpE_call rfl (by rfl) (fun K hK => ?_); go_simp; first
          | (go_at_call 23; refine (c2 _ (rb.below hX)).mono ?_; rintro e w2 ⟨rfl, hx2⟩; refine hK _ _ hx2 ?_; clear hK K; have sb := fun w' h => sb w' (hx2.trans h))))
    refine wpE_done ?_
    go_wp2_with (go_at_call 16; refine (ipKnown_any _).mono ?_; rintro e w3 ⟨rfl, hx3⟩)
    go_ret
    exact ⟨rfl, hX.trans (hx2.trans hx3)⟩
  have L := (looks_iff xs).1 hv
  by_cases h8 : byteV xs 8 = 0
  · have c1 := less_none a0 len0 cap0 xs w rb hle (by omega) L h8
    have c2 := fun W h => refLess_none a0 len0 cap0 xs W h hle (by omega) L h8
    have s0 := hcv w (Ext.refl _) w (Ext.refl _)
    have sn := fun w' => (bytes_nil w').conv 0 w' (Ext.refl _)
    generalize strOfNums [] = SN at *
    generalize strOfNums xs = SX at *
    go_enter Try.func6, Try.ntmps6
    go_wp2_with (go_at_call 22; refine c1.mono ?_; rintro e w1 ⟨rfl, hx1⟩)
    have hX : Ext w w1.drew := hx1.drew
    have sb := hcv _ hX
    refine wp_region_eager [(0, false), (1, false), (2, false), (3, true), (4, false), (5, false), (6, false), (7, false), (8, false), (9, false), (10, false), (11, false)] (by kernel_rfl) (by kernel_rfl) rfl (by kernel_rfl) (fun _ _ _ _ _ h => h) ?_
    generalize w1.drew = W at *
    repeat (first
      | (refine wpE_read (v := ?_) rfl (by rfl) ?_ ?_; rotate_left; (focus (intro w' hx; go_simp; first | done | with_reducible rfl)); simp only [Act.put, List.setIfInBounds_toArray, List.set_cons_zero, List.set_cons_succ])
      | (refine wpE_call rfl (by rfl) (fun K hK => ?_); go_simp; first
          | (go_at_call 23; refine (c2 _ (rb.below hX)).mono ?_; rintro e w2 ⟨rfl, hx2⟩; refine hK _ _ hx2 ?_; clear hK K; have sb := fun w' h => sb w' (hx2.trans h))))
    refine wpE_done ?_
    go_wp2_with (go_at_call 16; refine (ipKnown_any _).mono ?_; rintro e w3 ⟨rfl, hx3⟩)
    go_ret
    exact ⟨rfl, hX.trans (hx2.trans hx3)⟩
  obtain ⟨n, hn⟩ : ∃ n : Nat, get16V xs 2 = n := ⟨(get16V xs 2).toNat, by have := (get16V_bd rb.ok 2).1; omega⟩
  have hL := lessened rb.ok L h8
  have okL := hL.ok
  have LL := hL.looks
  have hn20 : 20 ≤ n ∧ n ≤ 2000 := by
    have l1 := L.head; have l2 := L.all; have l3 := L.whole; have l4 := rb.length
    omega
  have c1 := less_good a0 len0 cap0 xs w rb hle (by omega) L h8 n hn
  have c2 := fun W h => refLess_good a0 len0 cap0 xs W h hle (by omega) L h8 n hn
  have cp := fun W h => parse_is a0 len0 cap0 xs (parseV xs) W h hle (by omega) hv rfl
  have cq := fun q c W h hc => parse_is q n c (lessV xs) _ W h hc (by omega) ((looks_iff _).2 LL) hL.pack
  have hhd : headV (lessV xs) = headV xs := hL.head
  obtain ⟨k, hk⟩ : ∃ k : Nat, headV xs = k := ⟨(headV xs).toNat, by have := (headV_bd rb.ok).1; omega⟩
  rw [hk] at hhd
  have hkn : k ≤ n := by have := L.all; omega
  have cH := fun q c W h => refHeader_any q n c (lessV xs) W h
  rw [hhd] at cH
  have right := LL.right
  rw [hhd, Int.toNat_natCast] at right
  have cR := fun q c W h => refRight_any q k c ((lessV xs).take k) W h (by omega)
  rw [show decide (ofV ((lessV xs).take k) = 0) = true by simpa using right] at cR
  have ctt : (parseV xs).ttl = byteV xs 8 := rfl
  have bt := rb.ok.byteV 8
  rw [← ctt] at bt cq
  have cs := fun g1 m1 e1 g2 m2 e2 f1 l1 d1 f2 l2 d2 W h1 h2 h3 h4 => refSame_any (parseV xs) (parseV xs) g1 m1 e1 g2 m2 e2 f1 l1 d1 f2 l2 d2 W h1 h2 h3 h4
  rw [sameV_self] at cs
  generalize parseV xs = p at *
  obtain ⟨p0, p1, p2, p3, p4, p5, p6, p7, p8, p9, pa⟩ := p
  dsimp only at cq cp cs bt
  clear right hL ctt hv hhd
  have s0 := hcv w (Ext.refl _) w (Ext.refl _)
  generalize strOfNums xs = SX at *
  have tok1 : Hid True := trivial
  go_enter Try.func6, Try.ntmps6
  go_wp2_with (go_at_call 22; refine c1.mono ?_; rintro e w1 ⟨q, c, rfl, ho, hx1⟩; obtain ⟨hb1, hz1, hc1⟩ := owns_slice ho okL; clear ho)
  have hX : Ext w w1.drew := hx1.drew
  have sb := hcv _ hX
  have hbW := hb1.below ((Ext.refl w1).drew)
  have sq := hbW.conv c
  obtain ⟨SY, hSY⟩ : ∃ SY, strOfNums (lessV xs) = SY := ⟨_, rfl⟩
  rw [hSY] at sq
  have HSY : Hid _ := hSY
  clear hSY
  refine wp_region_eager [(0, false), (1, false), (2, false), (3, true), (4, false), (5, false), (6, false), (7, false), (8, false), (9, false), (10, false), (11, false)] (by kernel_rfl) (by kernel_rfl) rfl (by kernel_rfl) (fun _ _ _ _ _ h => h) ?_
  generalize w1.drew = W at *
  repeat (first
    | (refine wpE_read (v := ?_) rfl (by rfl) ?_ ?_; rotate_left; (focus (intro w' hx; go_simp; first | done | with_reducible rfl)); simp only [Act.put, List.setIfInBounds_toArray, List.set_cons_zero, List.set_cons_succ])
    | (refine wpE_call rfl (by rfl) (fun K hK => ?_); go_simp; first
        | (go_at_call 23; refine (c2 _ (rb.below hX)).mono ?_; rintro e w2 ⟨q2, c2', rfl, hb2, hx2⟩; refine hK _ _ hx2 ?_; clear hK K; have sr := hb2.conv c2'; rw [HSY.out] at sr; have sb := fun w' h => sb w' (hx2.trans h))))
  refine wpE_done ?_
  have hX2 := hX.trans hx2
  have hbW2 := hbW.below hx2
  have hk' : (k : Int) ≤ (c : Int) := by omega
  go_wp2_with (first
    | (go_at_call 11; clear tok1; refine (cp _ (rb.below hX2)).mono ?_; rintro e w4 ⟨g1, m1, e1, g2, m2, e2, rfl, hg1, _, hg2, _, hx4⟩; have hx4a := hx4.alloc (.cells #[.int .i64 p0, .int .i64 p1, .bool p2, .bool p3, .int .i64 p4, .int .i64 p5, .int .i64 p6, .int .u32 p7, .int .u32 p8, .slice g1 m1 e1, .slice g2 m2 e2] 25); have hxa : Ext w4 (w4.alloc (.cells #[.int .i64 p0, .int .i64 p1, .bool p2, .bool p3, .int .i64 p4, .int .i64 p5, .int .i64 p6, .int .u32 p7, .int .u32 p8, .slice g1 m1 e1, .slice g2 m2 e2] 25)) := (Ext.refl _).alloc _; have hba := hbW2.below hx4a)
    | (go_at_call 11; refine (cq q c _ hba hc1).mono ?_; rintro e w5 ⟨f1, l1, d1, f2, l2, d2, rfl, hf1, _, hf2, _, hx5⟩; obtain ⟨x0, x1, x2, x3, x4, x5, x6, x7, x8, x9, xa⟩ := box_ipE (heap_new' w4 (.cells #[.int .i64 p0, .int .i64 p1, .bool p2, .bool p3, .int .i64 p4, .int .i64 p5, .int .i64 p6, .int .u32 p7, .int .u32 p8, .slice g1 m1 e1, .slice g2 m2 e2] 25)); have hx5a := hx5.alloc (.cells #[.int .i64 p0, .int .i64 p1, .bool p2, .bool p3, .int .i64 p4, .int .i64 p5, .int .i64 p6, .int .u32 p7, .int .u32 p8, .slice f1 l1 d1, .slice f2 l2 d2] 25); have hx5b : Ext w5 (w5.alloc (.cells #[.int .i64 p0, .int .i64 p1, .bool p2, .bool p3, .int .i64 p4, .int .i64 p5, .int .i64 p6, .int .u32 p7, .int .u32 p8, .slice f1 l1 d1, .slice f2 l2 d2] 25)) := (Ext.refl _).alloc _)
    | (go_at_call 13; refine (cs g1 m1 e1 g2 m2 e2 f1 l1 d1 f2 l2 d2 _ (hg1.below (hxa.trans hx5a)) (hg2.below (hxa.trans hx5a)) (hf1.below hx5b) (hf2.below hx5b)).mono ?_; rintro e w6 ⟨rfl, hx6⟩; have hb6 := hba.below (hx5a.trans hx6); have hb6t := hb6.take hkn)
    | (go_at_call 15; refine (cH q c _ hb6).mono ?_; rintro e w7 ⟨rfl, rfl⟩)
    | (go_at_call 24; refine (cR q c _ hb6t).mono ?_; rintro e w8 ⟨rfl, rfl⟩)
    | (go_at_call 16; refine (ipKnown_any _).mono ?_; rintro e w9 ⟨rfl, hx9⟩))
  go_ret
  exact ⟨rfl, hX2.trans (hx4a.trans (hx5a.trans (hx6.trans hx9)))⟩

theorem contract (H : Type) (enc : TypeId × Value → H) (W : World) (base : Nat) (args : Array Value) (ds gs : List (DataW H)) (before : List MemPlace)
    (hval : ∀ (j : Nat) t v, Try.f6.params[j]? = some t → args[j]? = some v → Value.okWide Try.prog W .any base t v)
    (hW : DataW.Whole enc Try.prog Try.f6.params.toList Rows.ipLessSpec.vars false W args.toList ds gs before) (hsh : W.ShapedOpen Try.prog) :
    Calls Try.prog 6 args W fun e W' => ∃ v, e = .returned v ∧ Rows.ipLessSpec.post enc Try.prog Try.f6 false true false false W args v W' := by
  have hW' := hW
  obtain ⟨p, q, hA0, hV, rfl, hfz, hnd⟩ := hW
  have hA : DataW.TrodAll enc Try.prog W 0 (fun _ => true) true Try.f6.params.toList args.toList ds p := hA0
  rw [Try.params6] at hA hval
  obtain ⟨v0, vs0, d0, ds0, p0, q0, hargs, rfl, rfl, h0, r0⟩ := trodAll_cons hA
  obtain ⟨rfl, rfl, rfl⟩ := trodAll_nil r0
  obtain rfl : args = #[v0] := by cases args; simp_all
  obtain ⟨rfl, rfl⟩ := trodVars_none hV
  have k0 := h0
  have lt0 : ∀ x ∈ p0, x.block < W.heap.size := by obtain ⟨m, hm⟩ := k0; exact DataW.trod_lt m _ _ _ hm
  obtain ⟨b0, l0, c0, rfl⟩ := okWide_slice Try.underlying22 (hval 0 22 v0 rfl rfl)
  obtain ⟨fu0, hf0⟩ := h0
  obtain ⟨a0, len0, cap0, zs0, ce0, row0⟩ := open_rowI Try.underlying22 Try.underlying5 (by kernel_rfl) (fun _ => rfl) hf0
  obtain ⟨rfl, rfl, rfl⟩ : a0 = b0 ∧ len0 = l0 ∧ cap0 = c0 := by simpa [Value.cells, eq_comm] using ce0
  clear hA0
  refine (walk a0 len0 cap0 zs0 W row0 hsh).mono fun e W' ⟨he, bel⟩ => ?_
  subst he
  exact ⟨_, rfl, _, _, _, [], _, [], hW', trodAll_mk1 (shut_bool Try.underlying4 _), (trodAll_cons_mk (Below.trod laidOut (by kernel_rfl) (of_decide_eq_true (by kernel_rfl)) k0 bel lt0) trodAll_mk0), rfl, bel.frame _, fun h => by cases h⟩

theorem laid_met (os : Os) : laidMet Try.prog Rows.ipLessRow.laid ((World.doorLaid Try.prog 24 os).forCall (fun _ _ => 0) ⟨#[], #[.slice none 0 0], []⟩).memory :=
  laidMet_of_run' 8 (by kernel_rfl) (by kernel_rfl)
theorem reads (os : Os) {H : Type} (enc : TypeId × Value → H) : ∃ places, DataW.whole enc Try.prog ((World.doorLaid Try.prog 24 os).forCall (fun _ _ => 0) ⟨#[], #[.slice none 0 0], []⟩).memory Try.f6.params.toList Rows.ipLessSpec.vars false (#[.slice none 0 0] : Array Value).toList 8 = some ([.nil], [], places) :=
  ⟨[], by kernel_rfl⟩

set_option maxRecDepth 100000 in
theorem lifted (os : Os) (started : os.Started) (H : Type) (enc : TypeId × Value → H) (F : Stop.Interp) :
    ReturnsInHanded {} Try.checked os 6 .any ((OpenSpec.ofChange Rows.ipLessSpec).preRow enc Try.prog Try.f6 Rows.ipLessRow.domain false Rows.ipLessRow.laid) (((OpenSpec.ofChange Rows.ipLessSpec).at F).post enc Try.prog Try.f6 false true false false) := by
  obtain ⟨places, hx⟩ := reads os enc
  refine returnsInHanded_of_row (C := Try.checked) (s := (OpenSpec.ofChange Rows.ipLessSpec)) own started (by kernel_rfl) Try.func6
    (witness_row_at (enc := enc) (C := Try.checked) false (World.doorLaid Try.prog 24 os) #[.slice none 0 0] rfl (by kernel_rfl) (by kernel_rfl) (by kernel_rfl)
      (OpenSpec.preRow_of_cond 8 hx (by kernel_rfl) (fun k hk => by cases hk) (by kernel_rfl) (laid_met os))) ?_
  intro W base args ds gs before hval hW _ hcond _ hL hsh _
  exact contract H enc W base args ds gs before hval hW hsh

theorem said : Rows.IpLessSaid :=
  OpenClaim.holds_of_cond 6 Try.f6 rfl rfl rfl rfl rfl rfl rfl ⟨rfl, rfl, rfl, rfl, rfl⟩ rfl rfl rfl rfl rfl (by kernel_rfl) Try.func6 (by kernel_rfl)
    (of_decide_eq_true (by kernel_rfl)) (by unfold Func.isWrapper; first | (rw [if_pos (by decide +kernel)]; kernel_rfl) | (rw [if_neg (by decide +kernel)]; exact ⟨rfl, rfl⟩))
    (fun os started H enc _ F => by rw [OpenClaim.pre_eq_preRow]; exact lifted os started H enc F)

end Go.Proofs.Ytlfjbmjincffoaa.ipLess

namespace Go.Proofs.Ytlfjbmjincffoaa
theorem ipLess_holds : Rows.IpLessSaid := ipLess.said
#print axioms ipLess_holds
end Go.Proofs.Ytlfjbmjincffoaa
