/- So many ways, plainly. -/
import Derived.Test.YtbchfmadmcppkaaLaw11P
namespace Go.Proofs.Ytbchfmadmcppkaa.Rb
open Go.Proofs.Ytbchfmadmcppkaa
set_option linter.unusedVariables false
set_option linter.unusedSimpArgs false

def rtM (i : Nat) : Rt := ⟨0, (i : Int) * 256, 24, 1, 0, 0⟩

def rtN : Rt := ⟨0, 0, 24, 1, 0, 9⟩

def manyL (k : Nat) : List Rt := (List.range k).map rtM

theorem manyL_len (k : Nat) : (manyL k).length = k := by simp [manyL]

theorem manyL_succ (k : Nat) : manyL (k + 1) = manyL k ++ [rtM k] := by simp [manyL, List.range_succ]

theorem isV_many (i : Nat) : isV ((i : Int) * 256) 24 = true := by
  have h1 : sizeN 24 = 256 := rfl
  have h2 : holdV 24 = 24 := rfl
  unfold isV normV
  rw [h1, h2]
  have : ((i : Int) * 256).toNat = i * 256 := by omega
  rw [this]
  simp

theorem ltB_many {i j : Nat} (h : i < j) : ltB (rtM i) (rtM j) = true := by
  rw [ltB_iff]
  unfold Lt5 rtM
  dsimp only
  omega

theorem rtM_ok {i : Nat} (h : i ≤ 300) : RtOk (rtM i) := by
  unfold RtOk rtM
  dsimp only
  omega

theorem isR_many (i : Nat) : isR (rtM i) = true := by
  rw [isR_iff]
  have h := isV_many i
  unfold rtM
  dsimp only
  exact ⟨by omega, by omega, h, by omega, by omega, by omega, by omega⟩

theorem many_good {k : Nat} (hk : k ≤ 256) : Good (manyL k) := by
  refine ⟨?_, by rw [manyL_len]; exact hk, fun x hx => ?_, fun x hx => ?_⟩
  · unfold Srt manyL
    rw [List.pairwise_map]
    exact List.Pairwise.imp (fun h => ltB_many h) List.pairwise_lt_range
  · obtain ⟨i, hi, rfl⟩ := List.mem_map.1 hx
    exact isR_many i
  · obtain ⟨i, hi, rfl⟩ := List.mem_map.1 hx
    have := List.mem_range.1 hi
    exact rtM_ok (by omega)

theorem rtN_ok : RtOk rtN := ⟨by decide, by decide, by decide, by decide, by decide, by decide, by decide, by decide, by decide, by decide, by decide, by decide⟩

theorem behind : ∀ {L : List Rt} {r : Rt}, (∀ x ∈ L, ltB x r = true) → insR L r = L ++ [r] ∧ hereB L r = false
  | [], r, h => ⟨rfl, rfl⟩
  | x :: L, r, h => by
    have hx := h x (by simp)
    obtain ⟨h1, h2⟩ := behind (L := L) (r := r) fun y hy => h y (by simp [hy])
    unfold insR hereB
    simp [hx, h1, h2]

theorem many_behind {k i : Nat} (h : k ≤ i) : ∀ x ∈ manyL k, ltB x (rtM i) = true := fun x hx => by
  obtain ⟨j, hj, rfl⟩ := List.mem_map.1 hx
  have := List.mem_range.1 hj
  exact ltB_many (by omega)

theorem many_add {k : Nat} (h : k < 256) : addE (manyL k) (rtM k) = 0 ∧ addS (manyL k) (rtM k) = manyL (k + 1) := by
  obtain ⟨h1, h2⟩ := behind (many_behind (Nat.le_refl k))
  have e : addE (manyL k) (rtM k) = 0 := by
    unfold addE
    rw [isR_many, h2, manyL_len]
    simp
    omega
  refine ⟨e, ?_⟩
  unfold addS
  rw [if_pos e, h1, manyL_succ]

theorem many_full {i : Nat} (h : 256 ≤ i) : addE (manyL 256) (rtM i) = 6 ∧ addS (manyL 256) (rtM i) = manyL 256 := by
  obtain ⟨h1, h2⟩ := behind (many_behind h)
  have e : addE (manyL 256) (rtM i) = 6 := by
    unfold addE
    rw [isR_many, h2, manyL_len]
    simp
  refine ⟨e, ?_⟩
  unfold addS
  rw [e]
  simp

theorem many_again {k : Nat} (h : 0 < k) : addE (manyL k) rtN = 0 ∧ (addS (manyL k) rtN).length = k := by
  obtain ⟨j, rfl⟩ : ∃ j, k = j + 1 := ⟨k - 1, by omega⟩
  have hm : manyL (j + 1) = rtM 0 :: (List.range j).map (fun i => rtM (i + 1)) := by
    unfold manyL
    rw [List.range_succ_eq_map]
    simp [Function.comp_def]
  have hh : hereB (manyL (j + 1)) rtN = true := by rw [hm]; rfl
  have hi : isR rtN = true := rfl
  have e : addE (manyL (j + 1)) rtN = 0 := by
    unfold addE
    rw [hi, hh]
    simp
  refine ⟨e, ?_⟩
  unfold addS
  rw [if_pos e, ins_len, if_pos hh, manyL_len]
end Go.Proofs.Ytbchfmadmcppkaa.Rb
