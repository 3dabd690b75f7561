/- Plain facts on packets (chapter 4): a packet whose TTL is one less is one, all else stays. -/
import Derived.Test.YtlfjbmjincffoaaIpM
namespace Go.Proofs.Ytlfjbmjincffoaa
open Go.RowKit
set_option linter.unusedVariables false

theorem sumB_first {xs : List Int} (h : BytesOk xs) : byteV xs 0 * 256 ≤ sumB true xs := by
  have e : byteV xs 0 = xs[0]?.getD 0 := byteV_nat xs 0
  rw [e]
  cases xs with
  | nil => simp [sumB]
  | cons x r =>
    have := (sumB_bd (xs := r) (fun y hy => h y (by simp [hy])) false).1
    simp [sumB]; omega

theorem byteV_congr {xs ys : List Int} {i : Nat} (h : xs[i]?.getD 0 = ys[i]?.getD 0) : byteV xs (i : Int) = byteV ys (i : Int) := by
  rw [byteV_nat, byteV_nat, h]

theorem get16V_congr {xs ys : List Int} {i : Nat} (h : xs[i]?.getD 0 = ys[i]?.getD 0) (h' : xs[i + 1]?.getD 0 = ys[i + 1]?.getD 0) : get16V xs (i : Int) = get16V ys (i : Int) := by
  have e : ∀ zs : List Int, byteV zs ((i : Int) + 1) = zs[i + 1]?.getD 0 := fun zs => by
    rw [show (i : Int) + 1 = ((i + 1 : Nat) : Int) by omega]; exact byteV_nat zs (i + 1)
  unfold get16V
  rw [byteV_congr h, e, e, h']

theorem accV_congr {xs ys : List Int} {i : Nat} (h : ∀ j, i ≤ j → j < i + 4 → xs[j]?.getD 0 = ys[j]?.getD 0) : accV xs (i : Int) 4 = accV ys (i : Int) 4 := by
  have e : ∀ (j : Nat), j < 4 → byteV xs ((i : Int) + (j : Nat)) = byteV ys ((i : Int) + (j : Nat)) := fun j hj => by
    rw [show (i : Int) + (j : Nat) = ((i + j : Nat) : Int) by omega]
    exact byteV_congr (h (i + j) (by omega) (by omega))
  have e0 := e 0 (by omega); have e1 := e 1 (by omega); have e2 := e 2 (by omega); have e3 := e 3 (by omega)
  rw [accV_four, accV_four]
  have z : (i : Int) + ((0 : Nat) : Int) = (i : Int) := by omega
  rw [z] at e0
  have e1' : byteV xs ((i : Int) + 1) = byteV ys ((i : Int) + 1) := e1
  have e2' : byteV xs ((i : Int) + 2) = byteV ys ((i : Int) + 2) := e2
  have e3' : byteV xs ((i : Int) + 3) = byteV ys ((i : Int) + 3) := e3
  rw [e0, e1', e2', e3']

/-- What stays. -/
structure Lessened (xs ys : List Int) : Prop where
  looks : Looks ys
  head : headV ys = headV xs
  all : get16V ys 2 = get16V xs 2
  ttl : byteV ys 8 = byteV xs 8 - 1
  pack : parseV ys = { parseV xs with ttl := byteV xs 8 - 1 }
  len : ys.length = (get16V xs 2).toNat
  ok : BytesOk ys

theorem lessened {xs : List Int} (hok : BytesOk xs) (L : Looks xs) (h8 : byteV xs 8 ≠ 0) : Lessened xs (lessV xs) := by
  have l1 := L.len; have l2 := L.head; have l3 := L.all; have l4 := L.whole; have l5 := L.ver; have l6 := L.room
  have hl := less_len L
  have ho := less_ok hok h8
  have hg := less_get L
  have h20 : 20 ≤ (get16V xs 2).toNat := by omega
  have same : ∀ i, i < (get16V xs 2).toNat → i ≠ 8 → i ≠ 10 → i ≠ 11 → (lessV xs)[i]?.getD 0 = xs[i]?.getD 0 := fun i hi a b c => by
    rw [hg i hi, if_neg c, if_neg b, if_neg a]
  have y0 : byteV (lessV xs) 0 = byteV xs 0 := byteV_congr (i := 0) (same 0 (by omega) (by omega) (by omega) (by omega))
  have y1 : byteV (lessV xs) 1 = byteV xs 1 := byteV_congr (i := 1) (same 1 (by omega) (by omega) (by omega) (by omega))
  have y6 : byteV (lessV xs) 6 = byteV xs 6 := byteV_congr (i := 6) (same 6 (by omega) (by omega) (by omega) (by omega))
  have y9 : byteV (lessV xs) 9 = byteV xs 9 := byteV_congr (i := 9) (same 9 (by omega) (by omega) (by omega) (by omega))
  have y8 : byteV (lessV xs) 8 = byteV xs 8 - 1 := by
    have e : byteV (lessV xs) 8 = (lessV xs)[8]?.getD 0 := byteV_nat _ 8
    rw [e, hg 8 (by omega)]; simp
  have z2 : get16V (lessV xs) 2 = get16V xs 2 := get16V_congr (i := 2) (same 2 (by omega) (by omega) (by omega) (by omega)) (same 3 (by omega) (by omega) (by omega) (by omega))
  have z4 : get16V (lessV xs) 4 = get16V xs 4 := get16V_congr (i := 4) (same 4 (by omega) (by omega) (by omega) (by omega)) (same 5 (by omega) (by omega) (by omega) (by omega))
  have z6 : get16V (lessV xs) 6 = get16V xs 6 := get16V_congr (i := 6) (same 6 (by omega) (by omega) (by omega) (by omega)) (same 7 (by omega) (by omega) (by omega) (by omega))
  have a12 : accV (lessV xs) 12 4 = accV xs 12 4 := accV_congr (i := 12) fun j h1 h2 => same j (by omega) (by omega) (by omega) (by omega)
  have a16 : accV (lessV xs) 16 4 = accV xs 16 4 := accV_congr (i := 16) fun j h1 h2 => same j (by omega) (by omega) (by omega) (by omega)
  have hh : headV (lessV xs) = headV xs := by unfold headV; rw [y0]
  obtain ⟨h, hh0⟩ : ∃ h : Nat, headV xs = h := ⟨(headV xs).toNat, by omega⟩
  obtain ⟨m, hm0⟩ : ∃ m : Nat, get16V xs 2 = m := ⟨(get16V xs 2).toNat, by omega⟩
  have hbd := (headV_bd hok).2.1
  have right : ofV ((lessV xs).take h) = 0 := by
    have okH : BytesOk (xs.take h) := fun x hx => hok x (List.mem_of_mem_take hx)
    have e : (lessV xs).take h = (((xs.take h).set 8 (byteV xs 8 - 1)).set 10 (lessC xs / 256 % 256)).set 11 (lessC xs % 256) := by
      unfold lessV
      rw [List.take_set, List.take_set, List.take_set, List.take_take, Nat.min_eq_left (by omega)]
    have okL : BytesOk ((lessV xs).take h) := fun x hx => ho x (List.mem_of_mem_take hx)
    have r := L.right
    rw [hh0, Int.toNat_natCast, ofV_zero okH] at r
    rw [ofV_zero okL]
    have pos := sumB_first okL
    have y0' : byteV ((lessV xs).take h) 0 = byteV (lessV xs) 0 := byteV_take (lessV xs) h 0 (by omega)
    rw [y0', y0] at pos
    have hlen : (xs.take h).length = h := by rw [List.length_take]; omega
    have b8 := hok.byteV 8
    have b9 := hok.byteV 9
    have g10 := get16V_bd hok 10
    have hc := lessC_bd xs
    have e8 : (xs.take h)[8]?.getD 0 = byteV xs 8 := by
      rw [List.getElem?_take, if_pos (by omega)]; exact (byteV_nat xs 8).symm
    have s1 : sumB true ((xs.take h).set 8 (byteV xs 8 - 1)) = sumB true (xs.take h) - 256 := by
      rw [sumB_set _ _ _ _ (by omega), e8, if_pos (par_even _ (by omega))]; omega
    have g10' : get16V ((xs.take h).set 8 (byteV xs 8 - 1)) ((10 : Nat) : Int) = get16V xs 10 := by
      have := get16V_congr (xs := (xs.take h).set 8 (byteV xs 8 - 1)) (ys := xs) (i := 10) (by rw [List.getElem?_set_ne (by omega), List.getElem?_take, if_pos (by omega)]) (by rw [List.getElem?_set_ne (by omega), List.getElem?_take, if_pos (by omega)])
      exact this
    have s2 : sumB true ((lessV xs).take h) = sumB true (xs.take h) - 256 - get16V xs 10 + lessC xs := by
      rw [e, sumB_word ((xs.take h).set 8 (byteV xs 8 - 1)) 10 _ _ (by simp; omega) (by omega), s1, g10']
      omega
    have e16 : get16V xs 8 = byteV xs 8 * 256 + byteV xs 9 := rfl
    have hC : lessC xs = 65535 - foldV (65535 - get16V xs 10 + (65535 - get16V xs 8) + (get16V xs 8 - 256)) := by
      unfold lessC updV
      rw [show get16V xs 10 % 65536 = get16V xs 10 by omega, show get16V xs 8 % 65536 = get16V xs 8 by omega, show (get16V xs 8 - 256) % 65536 = get16V xs 8 - 256 by omega]
    rw [s2] at pos ⊢
    rw [hC] at pos ⊢
    generalize sumB true (xs.take h) = S at *
    generalize get16V xs 10 = s at *
    generalize get16V xs 8 = u at *
    unfold foldV at pos ⊢
    rw [if_neg (by omega)] at pos ⊢
    omega
  refine ⟨⟨by omega, by rw [y0]; exact l5, by rw [hh]; exact l2, by rw [hh, hl]; omega, by rw [hh, hh0, Int.toNat_natCast]; exact right, by rw [hh, z2]; exact l3, by rw [y6]; exact L.bit, by rw [z2, hl]; omega⟩, hh, z2, y8, ?_, hl, ho⟩
  unfold parseV
  rw [y1, z4, z6, y8, y9, a12, a16, hh, z2, hh0, hm0, Int.toNat_natCast, Int.toNat_natCast]
  have d1 : (List.take h (lessV xs)).drop 20 = (List.take h xs).drop 20 := by
    rw [List.drop_take, List.drop_take, less_drop L 20 (by omega), hm0, Int.toNat_natCast, List.drop_take, List.take_take, Nat.min_eq_left (by omega)]
  have d2 : (List.take m (lessV xs)).drop h = (List.take m xs).drop h := by
    rw [List.take_of_length_le (by rw [hl, hm0, Int.toNat_natCast]; exact Nat.le_refl _), less_drop L h (by omega), hm0, Int.toNat_natCast]
  rw [d1, d2]

end Go.Proofs.Ytlfjbmjincffoaa
