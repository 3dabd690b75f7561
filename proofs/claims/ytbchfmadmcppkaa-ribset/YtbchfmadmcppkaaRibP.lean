/- Ways, plainly: their order, where one stands, laid and taken away. -/
import Derived.Test.YtbchfmadmcppkaaAddrP
namespace Go.Proofs.Ytbchfmadmcppkaa.Rb
open Go.Proofs.Ytbchfmadmcppkaa
set_option linter.unusedVariables false
set_option linter.unusedSimpArgs false

/-- A way: Table, Prefix (Addr, Len), Iface, Gate, Metric. -/
structure Rt where
  t : Int
  a : Int
  l : Int
  i : Int
  g : Int
  m : Int

def cmpI (x y : Int) : Int := if x < y then -1 else if y < x then 1 else 0

def orI : List Int → Int
  | [] => 0
  | c :: cs => if c = 0 then orI cs else c

theorem orI_cons (c : Int) (cs : List Int) : orI (c :: cs) = if c = 0 then orI cs else c := rfl

theorem cmpI_lt (x y : Int) : cmpI x y < 0 ↔ x < y := by
  unfold cmpI
  split
  · constructor <;> omega
  · split <;> constructor <;> omega

theorem cmpI_eq (x y : Int) : cmpI x y = 0 ↔ x = y := by
  unfold cmpI
  split
  · constructor <;> omega
  · split <;> constructor <;> omega

theorem cmpI_bd (x y : Int) : -1 ≤ cmpI x y ∧ cmpI x y ≤ 1 := by
  unfold cmpI
  split
  · omega
  · split <;> omega

theorem orI_lt (c : Int) (cs : List Int) : orI (c :: cs) < 0 ↔ c < 0 ∨ (c = 0 ∧ orI cs < 0) := by
  rw [orI_cons]
  split
  · rename_i h; subst h; constructor
    · intro h; exact .inr ⟨rfl, h⟩
    · rintro (h | h)
      · omega
      · exact h.2
  · constructor <;> omega

theorem orI_eq (c : Int) (cs : List Int) : orI (c :: cs) = 0 ↔ c = 0 ∧ orI cs = 0 := by
  rw [orI_cons]
  split
  · rename_i h; subst h; simp
  · rename_i h; constructor
    · intro h2; exact absurd h2 h
    · intro h2; exact absurd h2.1 h

def ordP (a l b m : Int) : Int := orI [cmpI a b, cmpI l m]

def ordR (x y : Rt) : Int := orI [cmpI x.t y.t, ordP x.a x.l y.a y.l, cmpI x.i y.i, cmpI x.g y.g]

def betI (x y : Rt) : Int := orI [cmpI x.m y.m, cmpI x.i y.i, cmpI x.g y.g]

def Lt5 (x y : Rt) : Prop := x.t < y.t ∨ (x.t = y.t ∧ (x.a < y.a ∨ (x.a = y.a ∧ (x.l < y.l ∨ (x.l = y.l ∧ (x.i < y.i ∨ (x.i = y.i ∧ x.g < y.g)))))))

def Lt3 (x y : Rt) : Prop := x.m < y.m ∨ (x.m = y.m ∧ (x.i < y.i ∨ (x.i = y.i ∧ x.g < y.g)))

def ltB (x y : Rt) : Bool := decide (x.t < y.t) || (decide (x.t = y.t) && (decide (x.a < y.a) || (decide (x.a = y.a) && (decide (x.l < y.l) || (decide (x.l = y.l) && (decide (x.i < y.i) || (decide (x.i = y.i) && decide (x.g < y.g))))))))

def betB (x y : Rt) : Bool := decide (x.m < y.m) || (decide (x.m = y.m) && (decide (x.i < y.i) || (decide (x.i = y.i) && decide (x.g < y.g))))

theorem ltB_iff (x y : Rt) : ltB x y = true ↔ Lt5 x y := by simp [ltB, Lt5]

theorem betB_iff (x y : Rt) : betB x y = true ↔ Lt3 x y := by simp [betB, Lt3]

theorem ltB_not (x y : Rt) : ltB x y = false ↔ ¬ Lt5 x y := by rw [← ltB_iff]; simp

theorem betB_not (x y : Rt) : betB x y = false ↔ ¬ Lt3 x y := by rw [← betB_iff]; simp

theorem orI_nil : orI [] = 0 := rfl

theorem ordP_lt (a l b m : Int) : ordP a l b m < 0 ↔ a < b ∨ (a = b ∧ l < m) := by
  unfold ordP
  simp only [orI_lt, cmpI_lt, cmpI_eq, orI_nil]
  omega

theorem ordP_eq (a l b m : Int) : ordP a l b m = 0 ↔ a = b ∧ l = m := by
  unfold ordP
  simp [orI_eq, cmpI_eq, orI_nil]

theorem ordR_lt (x y : Rt) : ordR x y < 0 ↔ ltB x y = true := by
  rw [ltB_iff]
  unfold ordR Lt5
  simp only [orI_lt, orI_eq, cmpI_lt, cmpI_eq, ordP_lt, ordP_eq, orI_nil]
  omega

theorem betI_lt (x y : Rt) : betI x y < 0 ↔ betB x y = true := by
  rw [betB_iff]
  unfold betI Lt3
  simp only [orI_lt, orI_eq, cmpI_lt, cmpI_eq, orI_nil]
  omega

/-- Alike but for the Metric. -/
def Same (x y : Rt) : Prop := x.t = y.t ∧ x.a = y.a ∧ x.l = y.l ∧ x.i = y.i ∧ x.g = y.g

theorem ordR_eq (x y : Rt) : ordR x y = 0 ↔ Same x y := by
  unfold ordR Same
  simp [orI_eq, cmpI_eq, ordP_eq, orI_nil, and_assoc]

theorem same_iff (x y : Rt) : Same x y ↔ ltB x y = false ∧ ltB y x = false := by
  rw [ltB_not, ltB_not]
  unfold Same Lt5
  omega

theorem ltB_trans {x y z : Rt} (h : ltB x y = true) (k : ltB y z = true) : ltB x z = true := by
  rw [ltB_iff] at *
  unfold Lt5 at *
  omega

theorem ltB_asymm {x y : Rt} (h : ltB x y = true) : ltB y x = false := by
  rw [ltB_iff] at h
  rw [ltB_not]
  unfold Lt5 at *
  omega

theorem ltB_same {x y z : Rt} (h : Same x y) (k : ltB y z = true) : ltB x z = true := by
  rw [ltB_iff] at *
  unfold Lt5 Same at *
  omega

theorem same_ltB {x y z : Rt} (h : ltB x y = true) (k : Same y z) : ltB x z = true := by
  rw [ltB_iff] at *
  unfold Lt5 Same at *
  omega

theorem ltB_ne {x y : Rt} (h : ltB x y = true) : ¬ Same x y := by
  rw [ltB_iff] at *
  unfold Lt5 Same at *
  omega

/-- In order, no two alike. -/
def Srt (L : List Rt) : Prop := L.Pairwise fun x y => ltB x y = true

/-- How many at the begin meet f. -/
def twN (f : Rt → Bool) : List Rt → Nat
  | [] => 0
  | x :: L => if f x = true then twN f L + 1 else 0

theorem twN_le (f : Rt → Bool) : ∀ L, twN f L ≤ L.length
  | [] => Nat.le_refl _
  | x :: L => by
    unfold twN
    have := twN_le f L
    split
    · simp only [List.length_cons]; omega
    · omega

theorem twN_unique (f : Rt → Bool) : ∀ (L : List Rt) (p : Nat), p ≤ L.length → (∀ j x, j < p → L[j]? = some x → f x = true) → (∀ x, L[p]? = some x → f x = false) → twN f L = p
  | [], p, hp, _, _ => by simp at hp; simp [twN, hp]
  | y :: L, 0, hp, _, h2 => by simp [twN, h2 y rfl]
  | y :: L, p + 1, hp, h1, h2 => by
    have hy := h1 0 y (by omega) rfl
    have ih := twN_unique f L p (by simpa using hp) (fun j x hj hx => h1 (j + 1) x (by omega) (by simpa using hx)) (fun x hx => h2 x (by simpa using hx))
    simp [twN, hy, ih]

theorem twN_in (f : Rt → Bool) : ∀ (L : List Rt) (j : Nat) (x : Rt), j < twN f L → L[j]? = some x → f x = true
  | [], j, x, hj, hx => by simp at hx
  | y :: L, j, x, hj, hx => by
    unfold twN at hj
    split at hj
    · rename_i hy
      cases j with
      | zero => obtain rfl : y = x := by simpa using hx
                exact hy
      | succ j => exact twN_in f L j x (by omega) (by simpa using hx)
    · omega

theorem twN_at (f : Rt → Bool) : ∀ (L : List Rt) (x : Rt), L[twN f L]? = some x → f x = false
  | [], x, hx => by simp at hx
  | y :: L, x, hx => by
    unfold twN at hx
    split at hx
    · exact twN_at f L x (by simpa using hx)
    · rename_i hy
      obtain rfl : y = x := by simpa using hx
      simpa using hy

def posR (L : List Rt) (r : Rt) : Nat := twN (fun x => ltB x r) L

def hereB : List Rt → Rt → Bool
  | [], _ => false
  | x :: L, r => if ltB x r = true then hereB L r else !ltB r x

/-- Laid: the Metric of one that is there, or one more. -/
def insR : List Rt → Rt → List Rt
  | [], r => [r]
  | x :: L, r => if ltB x r = true then x :: insR L r else if ltB r x = true then r :: x :: L else r :: L

def delR : List Rt → Rt → List Rt
  | [], _ => []
  | x :: L, r => if ltB x r = true then x :: delR L r else if ltB r x = true then x :: L else L

theorem here_at : ∀ (L : List Rt) (r : Rt), hereB L r = match L[posR L r]? with
    | some x => decide (ordR x r = 0)
    | none => false
  | [], r => rfl
  | x :: L, r => by
    have ih := here_at L r
    unfold posR at ih
    unfold hereB posR twN
    by_cases h : ltB x r = true
    · simp only [h, if_true, List.getElem?_cons_succ]; exact ih
    · simp only [h, Bool.false_eq_true, if_false, List.getElem?_cons_zero]
      have h0 : ltB x r = false := by simpa using h
      cases h1 : ltB r x with
      | true =>
        have hn : ¬ ordR x r = 0 := by
          rw [ordR_eq, same_iff]
          rintro ⟨_, h2⟩
          rw [h2] at h1; cases h1
        simp [hn]
      | false =>
        have hy : ordR x r = 0 := by rw [ordR_eq, same_iff]; exact ⟨h0, h1⟩
        simp [hy]

theorem here_same {L : List Rt} {r : Rt} (h : hereB L r = true) : ∃ x, L[posR L r]? = some x ∧ Same x r := by
  rw [here_at] at h
  split at h
  · rename_i x hx
    exact ⟨x, hx, (ordR_eq _ _).1 (by simpa using h)⟩
  · cases h

theorem here_pos {L : List Rt} {r : Rt} (h : hereB L r = true) : posR L r < L.length := by
  obtain ⟨x, hx, _⟩ := here_same h
  exact (List.getElem?_eq_some_iff.1 hx).1

theorem ins_here : ∀ {L : List Rt} {r : Rt}, hereB L r = true → insR L r = L.set (posR L r) r
  | [], r, h => by cases h
  | x :: L, r, h => by
    unfold hereB at h
    unfold insR posR twN
    split at h
    · rename_i hx
      simp only [hx, if_true, List.set_cons_succ]
      rw [ins_here h]; rfl
    · rename_i hx
      have h1 : ltB r x = false := by simpa using h
      simp [hx, h1]

theorem ins_cut : ∀ {L : List Rt} {r : Rt}, hereB L r = true → insR L r = L.take (posR L r) ++ r :: L.drop (posR L r + 1)
  | [], r, h => by cases h
  | x :: L, r, h => by
    unfold hereB at h
    unfold insR posR twN
    split at h
    · rename_i hx
      simp only [hx, if_true, List.take_succ_cons, List.drop_succ_cons, List.cons_append]
      rw [ins_cut h]; rfl
    · rename_i hx
      have h1 : ltB r x = false := by simpa using h
      simp [hx, h1]

theorem ins_new : ∀ {L : List Rt} {r : Rt}, hereB L r = false → insR L r = L.take (posR L r) ++ r :: L.drop (posR L r)
  | [], r, h => by simp [insR, posR, twN]
  | x :: L, r, h => by
    unfold hereB at h
    unfold insR posR twN
    split at h
    · rename_i hx
      simp only [hx, if_true, List.take_succ_cons, List.drop_succ_cons, List.cons_append]
      rw [ins_new h]; rfl
    · rename_i hx
      have h1 : ltB r x = true := by simpa using h
      simp [hx, h1]

theorem del_here : ∀ {L : List Rt} {r : Rt}, hereB L r = true → delR L r = L.take (posR L r) ++ L.drop (posR L r + 1)
  | [], r, h => by cases h
  | x :: L, r, h => by
    unfold hereB at h
    unfold delR posR twN
    split at h
    · rename_i hx
      simp only [hx, if_true, List.take_succ_cons, List.drop_succ_cons, List.cons_append]
      rw [del_here h]; rfl
    · rename_i hx
      have h1 : ltB r x = false := by simpa using h
      simp [hx, h1]

theorem mem_ins : ∀ {L : List Rt} {r x : Rt}, x ∈ insR L r → x = r ∨ x ∈ L
  | [], r, x, h => by simpa [insR] using h
  | y :: L, r, x, h => by
    unfold insR at h
    split at h
    · rcases List.mem_cons.1 h with rfl | h
      · exact .inr (by simp)
      · rcases mem_ins h with h | h
        · exact .inl h
        · exact .inr (by simp [h])
    · split at h
      · rcases List.mem_cons.1 h with rfl | h
        · exact .inl rfl
        · exact .inr h
      · rcases List.mem_cons.1 h with rfl | h
        · exact .inl rfl
        · exact .inr (by simp [h])

theorem mem_del : ∀ {L : List Rt} {r x : Rt}, x ∈ delR L r → x ∈ L
  | [], r, x, h => by simp [delR] at h
  | y :: L, r, x, h => by
    unfold delR at h
    split at h
    · rcases List.mem_cons.1 h with rfl | h
      · simp
      · exact List.mem_cons_of_mem _ (mem_del h)
    · split at h
      · exact h
      · exact List.mem_cons_of_mem _ h

theorem Srt.ins : ∀ {L : List Rt} {r : Rt}, Srt L → Srt (insR L r)
  | [], r, h => by simp [insR, Srt]
  | y :: L, r, h => by
    obtain ⟨h1, h2⟩ := List.pairwise_cons.1 h
    unfold insR
    split
    · rename_i hy
      refine List.pairwise_cons.2 ⟨fun x hx => ?_, Srt.ins h2⟩
      rcases mem_ins hx with rfl | hx
      · exact hy
      · exact h1 x hx
    · rename_i hy
      split
      · rename_i hr
        refine List.pairwise_cons.2 ⟨fun x hx => ?_, h⟩
        rcases List.mem_cons.1 hx with rfl | hx
        · exact hr
        · exact ltB_trans hr (h1 x hx)
      · rename_i hr
        have hs : Same r y := (same_iff _ _).2 ⟨by simpa using hr, by simpa using hy⟩
        exact List.pairwise_cons.2 ⟨fun x hx => ltB_same hs (h1 x hx), h2⟩

theorem Srt.del : ∀ {L : List Rt} {r : Rt}, Srt L → Srt (delR L r)
  | [], r, h => by simp [delR, Srt]
  | y :: L, r, h => by
    obtain ⟨h1, h2⟩ := List.pairwise_cons.1 h
    unfold delR
    split
    · exact List.pairwise_cons.2 ⟨fun x hx => h1 x (mem_del hx), Srt.del h2⟩
    · split
      · exact h
      · exact h2

theorem Srt.get {L : List Rt} (h : Srt L) {i j : Nat} {x y : Rt} (hx : L[i]? = some x) (hy : L[j]? = some y) (hij : i < j) : ltB x y = true := by
  obtain ⟨hi, rfl⟩ := List.getElem?_eq_some_iff.1 hx
  obtain ⟨hj, rfl⟩ := List.getElem?_eq_some_iff.1 hy
  exact List.pairwise_iff_getElem.1 h i j hi hj hij

theorem ins_len {L : List Rt} {r : Rt} : (insR L r).length = if hereB L r = true then L.length else L.length + 1 := by
  split
  · rename_i h; rw [ins_here h, List.length_set]
  · rename_i h
    rw [ins_new (by simpa using h)]
    have := twN_le (fun x => ltB x r) L
    unfold posR
    simp only [List.length_append, List.length_take, List.length_cons, List.length_drop]
    omega

theorem del_len {L : List Rt} {r : Rt} (h : hereB L r = true) : (delR L r).length + 1 = L.length := by
  have := here_pos h
  rw [del_here h]
  simp only [List.length_append, List.length_take, List.length_drop]
  omega

/-- Whether a way may be. -/
def isR (r : Rt) : Bool := decide (0 ≤ r.t) && decide (r.t ≤ 3) && (isV r.a r.l && (decide (0 ≤ r.i) && decide (r.i ≤ 7) && (decide (0 ≤ r.m) && decide (r.m ≤ 255))))

theorem isR_iff (r : Rt) : isR r = true ↔ 0 ≤ r.t ∧ r.t ≤ 3 ∧ isV r.a r.l = true ∧ 0 ≤ r.i ∧ r.i ≤ 7 ∧ 0 ≤ r.m ∧ r.m ≤ 255 := by
  simp [isR, and_assoc]

def addE (L : List Rt) (r : Rt) : Int := if isR r = true then (if hereB L r = true then 0 else if 256 ≤ L.length then 6 else 0) else 1

def addS (L : List Rt) (r : Rt) : List Rt := if addE L r = 0 then insR L r else L

def delE (L : List Rt) (r : Rt) : Int := if hereB L r = true then 0 else 7

def delS (L : List Rt) (r : Rt) : List Rt := if hereB L r = true then delR L r else L

/-- Numbers of a way that go into their places. -/
def RtOk (r : Rt) : Prop := -9223372036854775808 ≤ r.t ∧ r.t ≤ 9223372036854775807 ∧ 0 ≤ r.a ∧ r.a ≤ 4294967295 ∧ -9223372036854775808 ≤ r.l ∧ r.l ≤ 9223372036854775807 ∧ -9223372036854775808 ≤ r.i ∧ r.i ≤ 9223372036854775807 ∧ 0 ≤ r.g ∧ r.g ≤ 4294967295 ∧ -9223372036854775808 ≤ r.m ∧ r.m ≤ 9223372036854775807

/-- Ways that may be, in order, not too many. -/
structure Good (L : List Rt) : Prop where
  srt : Srt L
  len : L.length ≤ 256
  is : ∀ x ∈ L, isR x = true
  ok : ∀ x ∈ L, RtOk x

theorem Good.nil : Good [] := ⟨by simp [Srt], by simp, by simp, by simp⟩

theorem Good.add {L : List Rt} (h : Good L) {r : Rt} (hr : RtOk r) : Good (addS L r) := by
  unfold addS
  split
  · rename_i he
    unfold addE at he
    split at he
    · rename_i hi
      refine ⟨h.srt.ins, ?_, fun x hx => ?_, fun x hx => ?_⟩
      · rw [ins_len]
        split
        · exact h.len
        · rename_i hh
          simp only [hh, Bool.false_eq_true, if_false] at he
          split at he
          · omega
          · omega
      · rcases mem_ins hx with rfl | hx
        · exact hi
        · exact h.is x hx
      · rcases mem_ins hx with rfl | hx
        · exact hr
        · exact h.ok x hx
    · omega
  · exact h

theorem Good.del {L : List Rt} (h : Good L) (r : Rt) : Good (delS L r) := by
  unfold delS
  split
  · rename_i hh
    refine ⟨h.srt.del, ?_, fun x hx => h.is x (mem_del hx), fun x hx => h.ok x (mem_del hx)⟩
    have := del_len hh
    have := h.len
    omega
  · exact h
end Go.Proofs.Ytbchfmadmcppkaa.Rb
