/- Package rule's words: ports, ends, sides. -/
import Derived.Test.YtbmmgjmmooakpaaGreatDoorRu8
import Derived.Test.YtbmmgjmmooakpaaGreatDoorRu2
import Derived.Test.YtbmmgjmmooakpaaGreatDoorParseX
namespace Go.Proofs.YtbmmgjmmooakpaaGreatDoor.Ru
open Go.RowKit
set_option linter.unusedVariables false
set_option maxRecDepth 100000

theorem extX_own {p g : Nat} {A B C : World} (h : ExtX p A B) (k : ExtX g B C) (hg : A.heap.size ≤ g) : ExtX p A C :=
  ⟨k.os.trans h.os, k.tape.trans h.tape, k.output.trans h.output, Nat.le_trans h.size k.size, fun i hi hx => (k.block i (Nat.lt_of_lt_of_le hi h.size) (by omega)).trans (h.block i hi hx)⟩

theorem extX_heap {x : Nat} {A B : World} (h : ExtX x A B) {b : Nat} {o : Obj} (hb : b ≠ x) (k : A.heap[b]? = some o) : B.heap[b]? = some o := (h.block b (heap_lt k) hb).trans k

theorem head_stp {α : Type} {f : ByteArray → Option α} (h0 : f (txt []) = none) {L : WL} {v : α} {b g : Bool} (hg : g = (f (headW L)).isSome) (hv : g = true → f (headW L) = some v) :
    Stp ((sHead L).bind fun x => (f x.1).map fun v => (v, x.2)) b v (b || !g) L.tail := by
  refine Stp.ask (fun h => ?_) (fun h => ?_)
  · cases L with
    | nil => rw [hg, headW_nil, h0] at h; cases h
    | cons x r =>
      have h2 := hv h
      unfold headW at h2
      simp only [List.headD_cons] at h2
      simp [sHead, h2]
  · cases L with
    | nil => rfl
    | cons x r =>
      rw [hg] at h
      unfold headW at h
      simp only [List.headD_cons, Option.isSome_eq_false_iff, Option.isNone_iff_eq_none] at h
      simp [sHead, h]

theorem split_small (c : UInt8) : ∀ (l x : List UInt8), x ∈ splitL c l → x.length ≤ l.length
  | [], x, h => by simp [splitL] at h; simp [h]
  | d :: l, x, h => by
    have ih := split_small c l
    unfold splitL at h
    split at h
    · rcases List.mem_cons.1 h with rfl | h
      · simp
      · have := ih x h; simp; omega
    · cases hs : splitL c l with
      | nil => exact absurd hs (split_ne_nil _ _)
      | cons q r =>
        rw [hs] at h ih
        rcases List.mem_cons.1 h with rfl | h
        · have := ih q (by simp); simpa using this
        · have := ih x (by simp [h]); simp; omega

theorem word_small {r x : ByteArray} (h : x ∈ wordsB r) : x.size ≤ r.size := by
  unfold wordsB at h
  obtain ⟨y, hy, rfl⟩ := List.mem_map.1 h
  unfold wordsL at hy
  have := split_small 32 _ y (List.mem_filter.1 hy).1
  rw [txt_size, ← text_len r]; exact this

theorem tail_size {w : World} {p : Nat} {L : WL} {b : Bool} (h : WAt w p L b) : (headW L.tail).size ≤ 1000000 := by
  obtain ⟨n, r, hh, hw⟩ := h
  rw [hw.head.2]
  cases hr : wordsB r with
  | nil => rw [headW_nil, txt_size]; simp
  | cons x m =>
    have := word_small (show x ∈ wordsB r by rw [hr]; simp)
    have := hw.r_small
    show x.size ≤ _
    omega

theorem numIn_nil (low high : Int) : numIn (txt []) low high = false := by simp [numIn, list_txt, numB_empty]

theorem numIn_no {x : ByteArray} {low high : Int} {c : UInt8} (hc : digB c = false) (h : c ∈ x.data.toList) : numIn x low high = false := by
  rw [Bool.eq_false_iff]; intro hn
  simp only [numIn, Bool.and_eq_true] at hn
  exact digits_no hc (numB_all hn.1) h

theorem ports_one {x : ByteArray} (h : 58 ∉ x.data.toList) : portsOf x = if numIn x 0 65535 = true then some (valT x, valT x) else none := by
  unfold portsOf; rw [split_none h]; simp only [txt_list]

theorem ports_two {x A B : ByteArray} (hx : x.data.toList = A.data.toList ++ 58 :: B.data.toList) (hA : 58 ∉ A.data.toList) :
    portsOf x = if (numIn A 0 65535 && (numIn B 0 65535 && !(valT A == valT B))) = true then some (valT A, valT B) else none := by
  unfold portsOf
  rw [hx, split_at hA]
  by_cases hB : 58 ∈ B.data.toList
  · have hn : numIn B 0 65535 = false := numIn_no (by decide) hB
    rw [hn]
    obtain ⟨y, z, e, hy⟩ : ∃ y z, B.data.toList = y ++ 58 :: z ∧ 58 ∉ y := by
      rcases index_split 58 B.data.toList with ⟨y, z, e, hy, _⟩ | ⟨hy, _⟩
      · exact ⟨y, z, e, hy⟩
      · exact absurd hB hy
    rw [e, split_at hy]
    cases hz : splitL 58 z with
    | nil => exact absurd hz (split_ne_nil _ _)
    | cons => simp
  · rw [split_none hB]
    simp only [txt_list]

theorem ports_nil : portsOf (txt []) = none := by rw [ports_one (by rw [list_txt]; simp), numIn_nil]; rfl

def encP (q : Int × Int) : Value := .agg #[.int .i64 q.1, .int .i64 q.2]
def okP (q : Int × Int) : Prop := okI q.1 ∧ okI q.2

set_option maxHeartbeats 1000000 in
theorem wports_any (p : Nat) (L : WL) (b : Bool) (w : World) (h : WAt w p L b) (hs : Std w) (hp : Abv p) :
    Calls Tryz.prog 83 #[.pointer (some ⟨p, 0, none⟩)] w (Ans encP okP (sPorts L) p b w) := by
  obtain ⟨W, hW⟩ : ∃ W, w.alloc (.cells #[.int .i64 0, .int .i64 0] 26) = W := ⟨_, rfl⟩
  have hx0 : Ext w W := hW ▸ (Ext.refl w).alloc _
  have h0 : W.heap[w.heap.size]? = some (.cells #[.int .i64 0, .int .i64 0] 26 (0, 0)) := hW ▸ heap_new w _
  have hpl := h.lt
  have c1 := maybe_any tPort p L b W (by decide) (h.later hx0) (hs.later hx0)
  unfold aftW at c1
  have HA : Hid (∀ v b' L' w' w5, okP v → Stp (sPorts L) b v b' L' → WAt w' p L' b' → ExtX p W w' → ExtX w.heap.size w' w5 → Ans encP okP (sPorts L) p b w (.returned (encP v)) w5) := fun v b' L' w' w5 h1 h2 h3 h4 h5 =>
    ⟨v, b', L', rfl, h1, h2, h3.laterX h5 (by omega), extX_own ((hx0.but p).trans h4) h5 (Nat.le_refl _)⟩
  have HH : Hid (∀ w', ExtX p W w' → w'.heap[w.heap.size]? = some (.cells #[.int .i64 0, .int .i64 0] 26 (0, 0))) := fun w' hx => extX_heap hx (by omega) h0
  unfold sPorts at *
  generalize Ans encP okP _ p b w = An at *
  have HS : Hid (Std W) := hs.later hx0
  have HX : Hid ((headW L.tail).size ≤ 1000000) := tail_size h
  clear h hs h0 hx0 hpl
  cases hq : isW tPort L with
  | false =>
    rw [hq, if_neg (by decide)] at c1
    rw [hq, if_neg (by decide)] at HA
    have c2 := fun w => all_any w
    clear hq
    go_enter Tryz.func83, Tryz.ntmps83
    go_wp2_with (first
      | (go_at_call 54; refine c1.mono ?_; rintro e w1 ⟨rfl, hW1, hx⟩; clear c1)
      | (go_at_call 66; refine (c2 _).mono ?_; rintro e w2 ⟨rfl, hx2⟩; replace hx := hx.trans (hx2.but p); replace hW1 := hW1.later hx2; clear hx2)
      | (refine wpl_store (by rfl) 26 _ _ rfl rfl 2 w.heap.size #[.int .i64 0, .int .i64 65535] _ _ rfl rfl (HH.out _ hx) ports_size rfl rfl (by simp [Value.oneCell']) ?_; intro w5 hx5 k5))
    exact bodyPost_ret (results_one Tryz.results83 _ rfl k5 Tryz.underlying26 rfl ports_size) rfl (HA.out (0, 65535) _ _ _ _ ⟨⟨by decide, by decide⟩, by decide, by decide⟩ Stp.some hW1 hx hx5)
  | true =>
    rw [hq, if_pos rfl] at c1
    rw [hq, if_pos rfl] at HA
    have HL : Hid (∀ v g b', g = (portsOf (headW L.tail)).isSome → (g = true → portsOf (headW L.tail) = some v) → b' = (b || !g) → Stp ((sHead L.tail).bind fun x => (portsOf x.1).map fun v => (v, x.2)) b v b' L.tail.tail) :=
      fun v g b' h1 h2 h3 => by subst h3; exact head_stp ports_nil h1 h2
    generalize ((sHead L.tail).bind fun x => (portsOf x.1).map fun v => (v, x.2)) = O at *
    have c2 := fun w h hs => take_any p L.tail b w h hs
    have c3 := fun s b w hz h hs => digits_any s 0 65535 p L.tail.tail b w hz (by omega) (by omega) (by omega) h hs
    clear hq
    generalize headW L.tail = x at *
    have hX : x.size ≤ 1000000 := HX.out
    have c5 := fun g b w h => must_any g p L.tail.tail b w h
    rcases cut_text x 58 hX with ⟨A, B, e1, e2, hA, hB, cc⟩ | ⟨e2, cc⟩
    · have hq := ports_two e1 e2
      generalize portsOf x = R at *
      have HQ : Hid _ := hq
      clear hq e1 e2 hX
      go_enter Tryz.func83, Tryz.ntmps83
      go_wp2_with (first
        | (go_at_call 54; refine c1.mono ?_; rintro e w1 ⟨rfl, hW, hx⟩; clear c1)
        | (go_at_call 53; refine (c2 _ hW (HS.out.laterX hx hp)).mono ?_; rintro e w2 ⟨rfl, hW2, hx2⟩; clear c2; have hs2 := (HS.out.laterX hx hp).laterX hx2 hp; replace hx2 := hx.trans hx2; clear hx hW HS)
        | (go_at_call 78; refine (cc _ hs2.max).mono ?_; rintro e w3 ⟨rfl, hx3⟩; clear cc; replace hs2 := hs2.later hx3; replace hx2 := hx2.trans (hx3.but p); replace hW2 := hW2.later hx3; clear hx3; have tok : Hid True := trivial)
        | (go_at_call 81; clear tok; refine (c3 A b _ hA hW2 hs2).mono ?_; rintro e w3 ⟨u, rfl, hb1, hv1, hW3, hx3⟩; have HU : Hid (okI u) := hb1; have HV1 : Hid (numIn A 0 65535 = true → u = valT A) := hv1; clear hb1 hv1; replace hs2 := hs2.laterX hx3 hp; replace hx2 := hx2.trans hx3; clear hx3 hW2)
        | (go_at_call 81; refine (c3 B _ _ hB hW3 hs2).mono ?_; rintro e w4 ⟨v, rfl, hb2, hv2, hW4, hx4⟩; have HV : Hid (okI v) := hb2; have HV2 : Hid (numIn B 0 65535 = true → v = valT B) := hv2; clear hb2 hv2; replace hx2 := hx2.trans hx4; clear hx4 hW3)
        | (go_at_call 55; refine (c5 _ _ _ hW4).mono ?_; rintro e w5 ⟨rfl, hW5, hx5⟩; replace hx2 := hx2.trans hx5; clear hx5 hW4)
        | (refine wpl_store (by rfl) 26 _ _ rfl rfl 2 w.heap.size #[.int .i64 u, .int .i64 v] _ _ rfl rfl (HH.out _ hx2) ports_size rfl rfl (by simp [Value.oneCell']) ?_; intro w6 hx6 k6))
      have hg : (numIn A 0 65535 && (numIn B 0 65535 && !(valT A == valT B))) = (numIn A 0 65535 && (numIn B 0 65535 && (u != v))) := by
        cases hA : numIn A 0 65535
        · rfl
        · cases hB : numIn B 0 65535
          · rfl
          · rw [HV1.out hA, HV2.out hB]; rfl
      have hR := HQ.out
      rw [hg] at hR
      exact bodyPost_ret (results_one Tryz.results83 _ rfl k6 Tryz.underlying26 rfl ports_size) rfl (HA.out (u, v) _ _ _ _ ⟨HU.out, HV.out⟩
        (HL.out (u, v) (numIn A 0 65535 && (numIn B 0 65535 && (u != v))) _ (by rw [hR]; split <;> simp_all) (fun h => by rw [hR, if_pos h]; simp only [Bool.and_eq_true] at h; rw [HV1.out h.1, HV2.out h.2.1]) (by simp only [Bool.or_assoc, Bool.not_and])) hW5 hx2 hx6)
    · have hq := ports_one e2
      generalize portsOf x = R at *
      have HQ : Hid _ := hq
      have HXX : Hid _ := hX
      clear hq e2 hX
      go_enter Tryz.func83, Tryz.ntmps83
      go_wp2_with (first
        | (go_at_call 54; refine c1.mono ?_; rintro e w1 ⟨rfl, hW, hx⟩; clear c1)
        | (go_at_call 53; refine (c2 _ hW (HS.out.laterX hx hp)).mono ?_; rintro e w2 ⟨rfl, hW2, hx2⟩; clear c2; have hs2 := (HS.out.laterX hx hp).laterX hx2 hp; replace hx2 := hx.trans hx2; clear hx hW HS)
        | (go_at_call 78; refine (cc _ hs2.max).mono ?_; rintro e w3 ⟨rfl, hx3⟩; clear cc; replace hs2 := hs2.later hx3; replace hx2 := hx2.trans (hx3.but p); replace hW2 := hW2.later hx3; clear hx3)
        | (go_at_call 81; refine (c3 x b _ HXX.out hW2 hs2).mono ?_; rintro e w3 ⟨u, rfl, hb1, hv1, hW3, hx3⟩; have HU : Hid (okI u) := hb1; have HV1 : Hid (numIn x 0 65535 = true → u = valT x) := hv1; clear hb1 hv1; replace hx2 := hx2.trans hx3; clear hx3 hW2)
        | (refine wpl_store (by rfl) 26 _ _ rfl rfl 2 w.heap.size #[.int .i64 u, .int .i64 u] _ _ rfl rfl (HH.out _ hx2) ports_size rfl rfl (by simp [Value.oneCell']) ?_; intro w6 hx6 k6))
      have hR := HQ.out
      exact bodyPost_ret (results_one Tryz.results83 _ rfl k6 Tryz.underlying26 rfl ports_size) rfl (HA.out (u, u) _ _ _ _ ⟨HU.out, HU.out⟩
        (HL.out (u, u) (numIn x 0 65535) _ (by rw [hR]; split <;> simp_all) (fun h => by rw [hR, if_pos h]; rw [HV1.out h]) rfl) hW3 hx2 hx6)
end Go.Proofs.YtbmmgjmmooakpaaGreatDoor.Ru
