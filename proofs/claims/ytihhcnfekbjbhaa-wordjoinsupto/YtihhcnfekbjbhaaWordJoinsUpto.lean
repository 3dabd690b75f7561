/- Where what comes in is of bulk at most 1048576, the law WordJoins returns true: bytes one behind the other, and noughts behind, as the document says; what is handed in stays. -/
import Derived.Test.YtihhcnfekbjbhaaRows
import Derived.Test.YtihhcnfekbjbhaaOpen
import Derived.Test.YtihhcnfekbjbhaaRef1
import Derived.Test.YtihhcnfekbjbhaaRef1J
import Derived.ShutString
import Derived.ChangeOld
namespace Go.Proofs.Ytihhcnfekbjbhaa.wordJoinsUpto
open Go.ChangeShapes Go.WideShapes Go.ChangeAt Go.RowKit
set_option linter.unusedVariables false

theorem own : ownKnob Try.prog.godebug = none := by kernel_rfl
theorem laidOut : laidOutB Try.prog = true := by kernel_rfl

theorem flat_ok {w : World} {a : Option Addr} {len : Nat} {L : List (List Int)} (h : BytesL w a len L) : BytesOk L.flatten := by
  intro x hx
  obtain ⟨l, hl, hxl⟩ := List.mem_flatten.1 hx
  obtain ⟨i, hi, rfl⟩ := List.getElem_of_mem hl
  obtain ⟨b, off, p, n, c, _, _, hb, _⟩ := h.cell (k := i) (by rw [← h.length]; exact hi)
  have := hb.ok x
  simp [hi] at this
  exact this hxl

/-- How many bytes the first k hold. -/
def flen (L : List (List Int)) (k : Nat) : Nat := (L.take k).flatten.length

/-- The block that is written lies among the call's own. -/
def Mine (w wr : World) (pa : Option Addr) (pn : Nat) : Prop := pn = 0 ∨ ∃ g cur, pa = some ⟨g, 0, none⟩ ∧ w.heap.size ≤ g ∧ wr.heap[g]? = some (.cells cur 5 (0, 0)) ∧ pn ≤ cur.size

theorem Mine.of_own {w wr : World} {pa : Option Addr} {pn pc : Nat} {xs : List Value} (h : wr.ownsRow w.heap.size 5 1 (.slice pa pn pc) pn xs) : Mine w wr pa pn := by
  rcases h.2 with ⟨_, h0⟩ | ⟨g, cap, cur, hv, hb, hg, hn, _, hc, _⟩
  · exact .inl h0
  · simp only [Value.slice.injEq] at hv
    exact .inr ⟨g, cur, hv.1, hb, hg, by omega⟩

theorem Mine.later {w wr w2 : World} {pa : Option Addr} {pn : Nat} (h : Mine w wr pa pn) (hx : Ext wr w2) : Mine w w2 pa pn := by
  rcases h with h0 | ⟨g, cur, h1, h2, h3, h4⟩
  · exact .inl h0
  · refine .inr ⟨g, cur, h1, h2, ?_, h4⟩
    rw [hx.block g (Array.getElem?_eq_some_iff.1 h3).1]; exact h3

set_option maxHeartbeats 4000000 in
theorem walk (a0 : Option Addr) (len0 cap0 : Nat) (L : List (List Int)) (a1 : Option Addr) (len1 cap1 : Nat) (z1 : List Int) (a2 : Int) (w : World)
    (h0 : BytesL w a0 len0 L) (hbk : L.length + L.flatten.length ≤ 1048576) (w1 : IsRow .u8 w a1 len1 cap1 z1) (w2 : (Lit.int .i64 a2).wf = true) :
    Calls Try.prog 5 #[.slice a0 len0 cap0, .slice a1 len1 cap1, .int .i64 a2] w fun e w' => e = .returned (.bool true) ∧ Below w.heap.size w w' := by
  have hB := w1.bytes
  have hz := w1.nil_cap
  have hl := hB.small
  have hl0 := h0.small
  have hb2 := bounds_i64 w2
  have hlL := h0.length
  have hfo := flat_ok h0
  generalize z1.take len1 = xs at hB
  clear w1 w2
  obtain ⟨N, hN⟩ : ∃ N, N = len0 + L.flatten.length := ⟨_, rfl⟩
  have HN : Hid _ := hN
  have hN1 : N ≤ 1048576 := by omega
  clear hN
  have hbk2 : len0 + L.flatten.length ≤ 1048576 := by omega
  have s0 := hB.conv cap1 w (Ext.refl w)
  go_enter Try.func5, Try.ntmps5
  go_wp2
  go_loop [7, 8] (fun n i => ∃ k : Nat, k ≤ len0 ∧ i = .int .i64 k ∧ n = .int .i64 ((k + flen L k : Nat) : Int)) (fun _ i => len0 - (intOf i).toNat)
  case atStart => exact ⟨0, Nat.zero_le _, rfl, by simp [flen]⟩
  case round =>
    obtain ⟨k, hk, rfl, rfl⟩ := hrel
    by_cases hlt : k < len0
    · obtain ⟨b, off, p, n, c, rfl, hcell, hby, hnil⟩ := h0.cell hlt
      have hT : flen L (k + 1) = flen L k + n := by unfold flen; rw [take_flat, List.length_append, hby.length]
      have hT3 : flen L (k + 1) ≤ L.flatten.length := flat_le L (k + 1)
      have hsm : flen L k + n ≤ 1048576 := by omega
      have HT : Hid _ := hT
      clear hT hT3 s0 hby hnil hbk hlL
      go_wp2
      go_round
      case rel => exact ⟨k + 1, by omega, by go_num, by rw [HT.out]; go_num⟩
      case measure => simp [intOf]; omega
    · obtain rfl : k = len0 := by omega
      have e : flen L k = L.flatten.length := by unfold flen; rw [List.take_of_length_le (by rw [hlL]; exact Nat.le_refl _)]
      rw [e, ← HN.out]
      clear e hlL hbk
      obtain ⟨ys, hys⟩ : ∃ ys, L.flatten = ys := ⟨_, rfl⟩
      obtain ⟨F, hF⟩ : ∃ F, ys.length = F := ⟨_, rfl⟩
      have HY : Hid _ := hys
      have HF : Hid _ := hF
      rw [hys] at hfo
      have hfl : F ≤ N := by have := HN.out; rw [hys, hF] at this; omega
      clear hys hF hbk2 HN
      by_cases g1 : 3000 < (N : Int)
      · go_wp2
        go_ret
        exact ⟨rfl, Below.refl _ _⟩
      by_cases g2 : 1000 < (len1 : Int)
      · go_wp2
        go_ret
        exact ⟨rfl, Below.refl _ _⟩
      by_cases g3 : 2000 < a2
      · go_wp2
        go_ret
        exact ⟨rfl, Below.refl _ _⟩
      go_wp2_with (go_at_call 18; refine (pad_own _ _ _ xs _ _ hB (by omega) (by omega) (by omega)).mono ?_; rintro e w1 ⟨v1, rfl, ho1, hx1⟩; obtain ⟨pa, pc, rfl⟩ := owns_shape ho1)
      obtain ⟨pa', pc', hv', hp1, _⟩ := owns_bytes ho1 (padV_ok hB.ok a2)
      simp only [Value.slice.injEq] at hv'
      obtain ⟨rfl, _, rfl⟩ := hv'
      have hM := Mine.of_own ho1
      clear ho1 s0
      have hx0 := hx1.drew
      replace hM := hM.later (Ext.refl _).drew
      replace hp1 := hp1.below (Ext.refl _).drew
      have s1 := hp1.conv pc
      refine wp_region_eager [(0, false), (1, false), (2, false), (3, false), (4, true), (5, false), (6, false), (7, false), (8, false), (11, false), (9, true), (10, false), (12, true), (13, false), (14, false), (15, false)] (by kernel_rfl) (by kernel_rfl) rfl (by kernel_rfl) (fun _ _ _ _ _ h => h) ?_
      repeat (first
        | (refine wpE_read (v := ?_) rfl (by rfl) ?_ ?_; rotate_left; (focus (intro w' hx; go_simp; first | done | with_reducible rfl)); simp only [Act.put, List.setIfInBounds_toArray, List.set_cons_zero, List.set_cons_succ])
        | (refine wpE_call rfl (by rfl) (fun K hK => ?_); go_simp; first
            | (go_at_call 19; refine (refPad_own _ _ _ xs _ _ (hB.below hx0) hz (by omega) (by omega) (by omega)).mono ?_; rintro e w2 ⟨v2, rfl, ho2, hx2⟩; obtain ⟨p2, c2, rfl, hp2, _⟩ := owns_bytes ho2 (padV_ok hB.ok a2); refine hK _ _ hx2 ?_; clear hK K s1 ho2; have s2 := hp2.conv c2; clear hp2)
            | (go_at_call 17; refine (join_n _ _ _ L _ ys F HY.out HF.out (h0.below (hx0.trans hx2)) (by omega) hfo).mono ?_; rintro e w3 ⟨p3, c3, rfl, hp3, _, hx3⟩; refine hK _ _ hx3 ?_; clear hK K s2; have s3 := hp3.conv c3; clear hp3)
            | (go_at_call 20; refine (refJoin_n _ _ _ L _ ys F HY.out HF.out (h0.below ((hx0.trans hx2).trans hx3)) (by omega) hfo).mono ?_; rintro e w4 ⟨p4, c4, rfl, hp4, _, hx4⟩; refine hK _ _ hx4 ?_; clear hK K s3; have s4 := hp4.conv c4; clear hp4)))
      refine wpE_done ?_
      have hX4 := ((hx0.trans hx2).trans hx3).trans hx4
      have hM4 := ((hM.later hx2).later hx3).later hx4
      clear hM hp1 s4 hx2 hx3 hx4 hx0 hx1 h0 hfo hfl HY HF hN1 g1 hz
      obtain ⟨pn, hpn⟩ : ∃ pn, pn = (padV xs a2).length := ⟨_, rfl⟩
      have hpb : pn ≤ 1000000 := by rw [hpn]; unfold padV; rw [List.length_append, List.length_replicate, hB.length]; omega
      rw [← hpn] at hM4
      rw [← hpn]
      clear hpn
      go_wp2
      go_loopw [11] (fun i wr => ∃ k : Nat, k ≤ pn ∧ i = .int .i64 k ∧ Ext w wr ∧ Mine w wr pa pn) (fun i _ => pn - (intOf i).toNat)
      case atStart => exact ⟨0, Nat.zero_le _, rfl, hX4, hM4⟩
      case round =>
        obtain ⟨j, hj, rfl, hX, hM⟩ := hrel
        by_cases hjl : j < pn
        · rcases hM with h' | ⟨g, cur, rfl, hg, hh, hc⟩
          · omega
          have hcell : wr.cell? ⟨g, j, none⟩ = some (cur[j]'(by omega)) := by rw [heap_cell hh]; simp
          have hfr : wr.frozen? ⟨g, j, none⟩ = false := heap_frozen hh
          have HH : Hid _ := hh
          clear hh
          go_wp2
          go_roundw
          case rel => exact ⟨j + 1, by omega, by go_num, Below.setCell hX hg _, .inr ⟨g, _, rfl, hg, heap_set HH.out _, by simpa using hc⟩⟩
          case measure => simp [intOf]; omega
        · have s5 := hB.conv cap1 wr hX
          go_wp2_with (go_at_call 16; refine (known_ext _).mono ?_; rintro e w5 ⟨rfl, hx5⟩)
          go_ret
          exact ⟨rfl, hX.trans hx5⟩

theorem contract (H : Type) (enc : TypeId × Value → H) (W : World) (base : Nat) (args : Array Value) (ds gs : List (DataW H)) (before : List MemPlace)
    (hval : ∀ (j : Nat) t v, Try.f5.params[j]? = some t → args[j]? = some v → Value.okWide Try.prog W .any base t v)
    (hW : DataW.Whole enc Try.prog Try.f5.params.toList Rows.wordJoinsSpec.vars false W args.toList ds gs before) (hk : Rows.uptoSmall H (ds ++ gs) = true) :
    Calls Try.prog 5 args W fun e W' => ∃ v, e = .returned v ∧ Rows.wordJoinsSpec.post enc Try.prog Try.f5 false true false false W args v W' := by
  have hW' := hW
  obtain ⟨p, q, hA0, hV, rfl, hfz, hnd⟩ := hW
  have hA : DataW.TrodAll enc Try.prog W 0 (fun _ => true) true Try.f5.params.toList args.toList ds p := hA0
  rw [Try.params5] at hA hval
  obtain ⟨v0, vs0, d0, ds0, p0, q0, hargs, rfl, rfl, h0, r0⟩ := trodAll_cons hA
  obtain ⟨v1, vs1, d1, ds1, p1, q1, rfl, rfl, rfl, h1, r1⟩ := trodAll_cons r0
  obtain ⟨v2, vs2, d2, ds2, p2, q2, rfl, rfl, rfl, h2, r2⟩ := trodAll_cons r1
  obtain ⟨rfl, rfl, rfl⟩ := trodAll_nil r2
  obtain rfl : args = #[v0, v1, v2] := by cases args; simp_all
  obtain ⟨rfl, rfl⟩ := trodVars_none hV
  obtain ⟨a0, len0, cap0, rfl⟩ := okWide_slice Try.underlying33 (hval 0 33 v0 rfl rfl)
  have k0 := h0
  have lt0 : ∀ x ∈ p0, x.block < W.heap.size := by obtain ⟨m, hm⟩ := k0; exact DataW.trod_lt m _ _ _ hm
  obtain ⟨L, hL, hbk⟩ : ∃ L, BytesL W a0 len0 L ∧ L.length + L.flatten.length ≤ Rows.uptoBulk d0 := by
    obtain ⟨fuel, hf⟩ := h0
    exact open_bytesL Try.underlying33 Try.underlying22 Try.underlying5 (by kernel_rfl) (by kernel_rfl) (by simpa [Value.cells] using hf)
  obtain ⟨a1, len1, cap1, rfl⟩ := okWide_slice Try.underlying22 (hval 1 22 v1 rfl rfl)
  have k1 := h1
  have lt1 : ∀ x ∈ p1, x.block < W.heap.size := by obtain ⟨m, hm⟩ := k1; exact DataW.trod_lt m _ _ _ hm
  obtain ⟨z1, w1⟩ : ∃ zs, IsRow .u8 W a1 len1 cap1 zs := by
    obtain ⟨fuel, hf⟩ := h1
    rcases open_ints Try.underlying22 Try.underlying5 (by kernel_rfl) hf with ⟨hcs, _⟩ | ⟨x, l, c, zs, hcs, _, hl, hm, hz, _, hcell, hwz⟩
    · simp [Value.cells] at hcs
      obtain ⟨rfl, rfl, rfl⟩ := hcs
      exact ⟨[], .inl ⟨rfl, rfl, rfl, rfl⟩⟩
    · simp [Value.cells] at hcs
      obtain ⟨rfl, rfl, rfl⟩ := hcs
      exact ⟨zs, .inr ⟨_, rfl, hl, hm, by simpa using hz, hcell, hwz⟩⟩
  obtain ⟨a2, rfl, rfl, rfl, w2⟩ := open_int Try.underlying3 (hval 2 3 v2 rfl rfl) h2
  have hb : L.length + L.flatten.length ≤ 1048576 := by
    have h := of_decide_eq_true hk
    simp only [List.append_nil, Rows.uptoBulkAll] at h
    omega
  clear hA0
  refine (walk a0 len0 cap0 L a1 len1 cap1 z1 a2 W hL hb w1 w2).mono fun e W' ⟨he, bel⟩ => ?_
  subst he
  exact ⟨_, rfl, _, _, _, [], _, [], hW', trodAll_mk1 (shut_bool Try.underlying4 _), (trodAll_cons_mk (Below.trod laidOut (by kernel_rfl) (of_decide_eq_true (by kernel_rfl)) k0 bel lt0) (trodAll_cons_mk (Below.trod laidOut (by kernel_rfl) (of_decide_eq_true (by kernel_rfl)) k1 bel lt1) (trodAll_cons_mk (shut_int Try.underlying3 w2) trodAll_mk0))), rfl, bel.frame _, fun h => by cases h⟩

set_option maxRecDepth 100000 in
theorem lifted (os : Os) (started : os.Started) (H : Type) (enc : TypeId × Value → H) (F : Stop.Interp) :
    ReturnsInHanded {} Try.checked os 5 .any ((Rows.OpenSpec.upto Rows.wordJoinsSpec).pre6 enc Try.prog Try.f5 Rows.wordJoinsUptoRow.domain false) (((Rows.OpenSpec.upto Rows.wordJoinsSpec).at F).post enc Try.prog Try.f5 false true false false) := by
  refine returnsInHanded_of_cond (C := Try.checked) (s := Rows.OpenSpec.upto Rows.wordJoinsSpec) (k := Rows.uptoSmall) rfl own started (by kernel_rfl) Try.func5
    (OpenSpec.witness (enc := enc) (C := Try.checked) (s := Rows.OpenSpec.upto Rows.wordJoinsSpec) (k := Rows.uptoSmall) rfl false ⟨#[], #[.slice none 0 0, .slice none 0 0, .int .i64 0], []⟩ 8 (by kernel_rfl) (by kernel_rfl) (by kernel_rfl)
      (x := ([.nil, .nil, .lit (.int .i64 0)], [], [])) (by kernel_rfl) rfl (by kernel_rfl)) ?_
  intro W base args ds gs before hval hW _ hk _
  exact contract H enc W base args ds gs before hval hW hk

theorem proved : Rows.WordJoinsUptoSaid :=
  OpenClaim.holds_of_cond 5 Try.f5 rfl rfl rfl rfl rfl rfl rfl ⟨rfl, rfl, rfl, rfl, rfl⟩ rfl rfl rfl rfl rfl (by kernel_rfl) Try.func5 (by kernel_rfl)
    (of_decide_eq_true (by kernel_rfl)) (by unfold Func.isWrapper; first | (rw [if_pos (by decide +kernel)]; kernel_rfl) | (rw [if_neg (by decide +kernel)]; exact ⟨rfl, rfl⟩))
    (fun os started H enc _ F => lifted os started H enc F)
end Go.Proofs.Ytihhcnfekbjbhaa.wordJoinsUpto

namespace Go.Proofs.Ytihhcnfekbjbhaa
theorem wordJoinsUpto_holds : Rows.WordJoinsUptoSaid := wordJoinsUpto.proved
#print axioms wordJoinsUpto_holds
end Go.Proofs.Ytihhcnfekbjbhaa
