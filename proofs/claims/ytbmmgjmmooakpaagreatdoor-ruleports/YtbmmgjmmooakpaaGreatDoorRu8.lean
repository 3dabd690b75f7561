/- Package rule's words: a protocol, ports. -/
import Derived.Test.YtbmmgjmmooakpaaGreatDoorRu7
namespace Go.Proofs.YtbmmgjmmooakpaaGreatDoor.Ru
open Go.RowKit
set_option linter.unusedVariables false
set_option maxRecDepth 100000

/-- A protocol as a word. -/
def protoT (n : Int) : ByteArray := if n = 1 then tIcmp else if n = 6 then tTcp else if n = 17 then tUdp else txt (Lib.itoa n)

theorem protoText_any (n : Int) (w : World) (hn : okI n) (ht : Tab w) :
    Calls Tryz.prog 35 #[.int .i64 n] w fun e w' => e = .returned (.string (protoT n)) ∧ Ext w w' := by
  unfold protoT
  have c1 := fun w h => itoaAll_any n w hn.1 hn.2 h
  generalize txt (Lib.itoa n) = T at *
  clear hn
  by_cases h1 : n = 1
  · rw [if_pos h1]
    go_enter Tryz.func35, Tryz.ntmps35
    go_wp2
    go_ret
    exact ⟨rfl, Ext.refl _⟩
  rw [if_neg h1]
  by_cases h6 : n = 6
  · rw [if_pos h6]
    clear h1
    go_enter Tryz.func35, Tryz.ntmps35
    go_wp2
    go_ret
    exact ⟨rfl, Ext.refl _⟩
  rw [if_neg h6]
  by_cases h7 : n = 17
  · rw [if_pos h7]
    clear h1 h6
    go_enter Tryz.func35, Tryz.ntmps35
    go_wp2
    go_ret
    exact ⟨rfl, Ext.refl _⟩
  rw [if_neg h7]
  go_enter Tryz.func35, Tryz.ntmps35
  go_wp2_with (go_at_call 38; refine (c1 _ ht).mono ?_; rintro e w1 ⟨rfl, hx⟩)
  go_ret
  exact ⟨rfl, hx⟩

theorem ix3 (k : Nat) (hk : k < 3) (w : World) : (Instr.index 105 (.agg #[.int .i64 1, .int .i64 6, .int .i64 17]) (.int .i64 (k : Int))).run Tryz.prog w = .ok (.int .i64 (([1, 6, 17] : List Int)[k]?.getD 0)) w := by
  rcases (by omega : k = 0 ∨ k = 1 ∨ k = 2) with rfl | rfl | rfl <;> rfl

theorem protoT_one : protoT 1 = tIcmp := rfl
theorem protoT_six : protoT 6 = tTcp := rfl
theorem protoT_udp : protoT 17 = tUdp := rfl

/-- A word that is a number's, as a protocol. -/
theorem proto_num {x : ByteArray} {v : Int} (h1 : x ≠ tIcmp) (h6 : x ≠ tTcp) (h7 : x ≠ tUdp) (hv : numIn x 1 255 = true → v = valT x) :
    (numIn x 1 255 && decide (x = protoT v)) = (protoOf x).isSome ∧ ((protoOf x).isSome = true → protoOf x = some v) := by
  unfold protoOf
  rw [if_neg h1, if_neg h6, if_neg h7]
  cases hn : numIn x 1 255 with
  | false => simp
  | true =>
    obtain rfl := hv hn
    have hd : decide (x = protoT (valT x)) = !(valT x == 1 || (valT x == 6 || valT x == 17)) := by
      unfold protoT
      by_cases g1 : valT x = 1
      · rw [if_pos g1, decide_eq_false h1, g1]; rfl
      rw [if_neg g1]
      by_cases g6 : valT x = 6
      · rw [if_pos g6, decide_eq_false h6, g6]; rfl
      rw [if_neg g6]
      by_cases g7 : valT x = 17
      · rw [if_pos g7, decide_eq_false h7, g7]; rfl
      rw [if_neg g7]
      have e : x = txt (Lib.itoa (valT x)) := by
        have ho := numIn_atoi hn (by omega)
        have h2 := numIn_ok ho (show (0 : Int) ≤ 1 by omega) (show (0 : Int) ≤ 255 by omega) (by omega)
        rw [hn] at h2
        have h3 := h2.symm
        simp only [Bool.and_eq_true, decide_eq_true_eq] at h3
        exact h3.1.symm
      rw [decide_eq_true e]
      simp [g1, g6, g7]
    rw [hd]
    cases (valT x == 1 || (valT x == 6 || valT x == 17)) <;> simp

theorem proto_empty : protoOf (txt []) = none := by decide

theorem sProto_stp {L : WL} {v : Int} {b g : Bool} (hg : g = (protoOf (headW L)).isSome) (hv : (protoOf (headW L)).isSome = true → protoOf (headW L) = some v) :
    Stp ((sHead L).bind fun x => (protoOf x.1).map fun v => (v, x.2)) b v (b || !g) L.tail := by
  subst hg
  refine Stp.ask (fun h => ?_) (fun h => ?_)
  · cases L with
    | nil => rw [headW_nil, proto_empty] at h; cases h
    | cons x r =>
      have h2 := hv h
      unfold headW at h2
      simp only [List.headD_cons] at h2
      simp [sHead, h2]
  · cases L with
    | nil => rfl
    | cons x r =>
      unfold headW at h
      simp only [List.headD_cons, Option.isSome_eq_false_iff, Option.isNone_iff_eq_none] at h
      simp [sHead, h]

set_option maxHeartbeats 1000000 in
theorem wproto_any (p : Nat) (L : WL) (b : Bool) (w : World) (h : WAt w p L b) (hs : Std w) (hp : Abv p) :
    Calls Tryz.prog 57 #[.pointer (some ⟨p, 0, none⟩)] w (Ans encI okI (sProto L) p b w) := by
  have c1 := maybe_any tProto p L b w (by decide) h hs
  unfold aftW at c1
  have HA : Hid (∀ v b' L' w', okI v → Stp (sProto L) b v b' L' → WAt w' p L' b' → ExtX p w w' → Ans encI okI (sProto L) p b w (.returned (.int .i64 v)) w') := fun v b' L' w' h1 h2 h3 h4 => ⟨v, b', L', rfl, h1, h2, h3, h4⟩
  unfold sProto at *
  generalize Ans encI okI _ p b w = An at *
  have HS : Hid (Std w) := hs
  clear h hs
  cases hq : isW tProto L with
  | false =>
    rw [hq, if_neg (by decide)] at c1
    rw [hq, if_neg (by decide)] at HA
    clear hq
    go_enter Tryz.func57, Tryz.ntmps57
    go_wp2_with (go_at_call 54; refine c1.mono ?_; rintro e w1 ⟨rfl, hW, hx⟩)
    exact HA.out 0 _ _ _ ⟨by decide, by decide⟩ Stp.some hW hx
  | true =>
    rw [hq, if_pos rfl] at c1
    rw [hq, if_pos rfl] at HA
    have c2 := fun w h hs => take_any p L.tail b w h hs
    have c3 := fun w hz h hs => digits_any (headW L.tail) 1 255 p L.tail.tail b w hz (by omega) (by omega) (by omega) h hs
    have HL : Hid (∀ v g b', g = (protoOf (headW L.tail)).isSome → ((protoOf (headW L.tail)).isSome = true → protoOf (headW L.tail) = some v) → b' = (b || !g) → Stp ((sHead L.tail).bind fun x => (protoOf x.1).map fun v => (v, x.2)) b v b' L.tail.tail) :=
      fun v g b' h1 h2 h3 => by subst h3; exact sProto_stp h1 h2
    generalize ((sHead L.tail).bind fun x => (protoOf x.1).map fun v => (v, x.2)) = O at *
    have hz : WAt w p L.tail b → (headW L.tail).size ≤ 1000000 := headW_size
    have HZ : Hid (∀ w, WAt w p L.tail b → (headW L.tail).size ≤ 1000000) := fun w h => headW_size h
    clear hq hz
    generalize headW L.tail = x at *
    have eq := fun t => eqT x t
    go_enter Tryz.func57, Tryz.ntmps57
    go_wp2_with (first
      | (go_at_call 54; refine c1.mono ?_; rintro e w1 ⟨rfl, hW, hx⟩; clear c1; have hX := HZ.out _ hW)
      | (go_at_call 53; refine (c2 _ hW (HS.out.laterX hx hp)).mono ?_; rintro e w2 ⟨rfl, hW2, hx2⟩; clear c2; have hs2 := (HS.out.laterX hx hp).laterX hx2 hp; replace hx2 := hx.trans hx2; clear hx hW HS HZ))
    have HE : Hid (∀ t, (x.toList == t.toList) = decide (x = t)) := eq
    have HS2 : Hid (Std w2) := hs2
    have HW2 : Hid (WAt w2 p L.tail.tail b) := hW2
    have HX2 : Hid (ExtX p w w2) := hx2
    have HX : Hid (x.size ≤ 1000000) := hX
    have H3 : Hid (∀ w hz h hs, _) := c3
    clear eq hs2 hW2 hx2 hX c3
    go_loopw [13] (fun i wr => ∃ k : Nat, k ≤ 3 ∧ i = .int .i64 k ∧ Ext w2 wr ∧ Hid (∀ j, j < k → x ≠ protoT (([1, 6, 17] : List Int)[j]?.getD 0))) (fun i _ => 3 - (intOf i).toNat)
    case atStart => exact ⟨0, Nat.zero_le _, rfl, Ext.refl _, fun j hj => absurd hj (Nat.not_lt_zero _)⟩
    case round =>
      obtain ⟨k, hk, rfl, hxr, HK⟩ := hrel
      by_cases hlt : k < 3
      · have hix := ix3 k hlt
        obtain ⟨n, hn⟩ : ∃ n : Int, ([1, 6, 17] : List Int)[k]?.getD 0 = n := ⟨_, rfl⟩
        have hn' : n = 1 ∨ n = 6 ∨ n = 17 := by
          rcases (by omega : k = 0 ∨ k = 1 ∨ k = 2) with rfl | rfl | rfl <;> simp at hn <;> omega
        rw [hn] at hix
        have c4 := fun w h => protoText_any n w ⟨by omega, by omega⟩ h
        have he := HE.out (protoT n)
        by_cases hd : x = protoT n
        · rw [decide_eq_true hd] at he
          have HD : Hid (protoOf x = some n) := by
            unfold protoOf
            rcases hn' with rfl | rfl | rfl
            · rw [hd]; rfl
            · rw [hd]; rfl
            · rw [hd]; rfl
          have HB : Hid (okI n) := ⟨by omega, by omega⟩
          generalize protoT n = T at *
          clear hn hn' hd HK
          go_wp2_with (go_at_call 35; refine (c4 _ (HS2.out.later hxr).tab).mono ?_; rintro e w3 ⟨rfl, hx3⟩; replace hxr := Ext.trans hxr hx3; clear hx3)
          exact HA.out n b L.tail.tail _ HB.out (HL.out n true b (by rw [HD.out]; rfl) (fun _ => HD.out) (by simp)) (HW2.out.later hxr) (HX2.out.trans (hxr.but p))
        · rw [decide_eq_false hd] at he
          have HN : Hid (∀ j, j < k + 1 → x ≠ protoT (([1, 6, 17] : List Int)[j]?.getD 0)) := fun j hj => by
            rcases Nat.lt_or_ge j k with h1 | h1
            · exact HK.out j h1
            · obtain rfl : j = k := by omega
              rw [hn]; exact hd
          generalize protoT n = T at *
          clear hn hn' hd HK
          go_wp2_with (go_at_call 35; refine (c4 _ (HS2.out.later hxr).tab).mono ?_; rintro e w3 ⟨rfl, hx3⟩; replace hxr := Ext.trans hxr hx3; clear hx3)
          go_roundw
          case rel => exact ⟨k + 1, by omega, by go_num, hxr, HN⟩
          case measure => simp [intOf]; omega
      · obtain rfl : k = 3 := by omega
        have HP : Hid (x ≠ tIcmp ∧ x ≠ tTcp ∧ x ≠ tUdp) := ⟨HK.out 0 (by omega), HK.out 1 (by omega), HK.out 2 (by omega)⟩
        have c4 := fun v w hv h => protoText_any v w hv h
        have c5 := fun g b w h => must_any g p L.tail.tail b w h
        clear hlt HK hk
        go_wp2_with (first
          | (go_at_call 81; refine (H3.out _ HX.out (HW2.out.later hxr) (HS2.out.later hxr)).mono ?_; rintro e w3 ⟨v, rfl, hb, hv, hW3, hx3⟩; have HB : Hid (okI v) := hb; have HV : Hid (numIn x 1 255 = true → v = valT x) := hv; have hs3 := (HS2.out.later hxr).laterX hx3 hp; clear hb hv; have he := HE.out (protoT v); obtain ⟨T, hT⟩ : ∃ T, protoT v = T := ⟨_, rfl⟩; rw [hT] at he; have HT : Hid _ := hT; obtain ⟨g, hg⟩ : ∃ g, decide (x = T) = g := ⟨_, rfl⟩; rw [hg] at he; have HG : Hid _ := hg; clear hg hT)
          | (go_at_call 35; refine (c4 v _ HB.out hs3.tab).mono ?_; rintro e w4 ⟨rfl, hx4⟩; rw [HT.out])
          | (go_at_call 55; refine (c5 g _ _ (hW3.later hx4)).mono ?_; rintro e w5 ⟨rfl, hW5, hx5⟩))
        have hq := proto_num HP.out.1 HP.out.2.1 HP.out.2.2 HV.out
        rw [HT.out, HG.out] at hq
        exact HA.out v _ _ _ HB.out (HL.out v _ _ hq.1 hq.2 (by cases b <;> cases numIn x 1 255 <;> cases g <;> rfl)) hW5 (((HX2.out.trans (hxr.but p)).trans hx3).trans ((hx4.but p).trans hx5))
end Go.Proofs.YtbmmgjmmooakpaaGreatDoor.Ru
