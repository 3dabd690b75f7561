/- Plain facts on checksums: what is above 16 bits is added again; the sum of bytes, two by two. -/
import Derived.Test.YtdkmakjjcfkfaaaPlain
namespace Go.Proofs.Ytdkmakjjcfkfaaa
open Go.RowKit
set_option linter.unusedVariables false

theorem i64_and16 (n : Int) : bits .and .i64 n 65535 = n % 65536 := by
  have h1 : (BitVec.ofInt 64 65535).toNat = 2 ^ 16 - 1 := by decide
  have key : (BitVec.ofInt 64 n &&& BitVec.ofInt 64 65535).toNat = (n % ((2 ^ 64 : Nat) : Int)).toNat % 2 ^ 16 := by
    rw [BitVec.toNat_and, BitVec.toNat_ofInt, h1, Nat.and_two_pow_sub_one_eq_mod]
  show IntKind.i64.wrap ((BitVec.ofInt 64 n &&& BitVec.ofInt 64 65535).toNat : Nat) = n % 65536
  rw [key, IntKind.wrap_i64]
  omega

theorem u64_and16 (n : Int) (h0 : 0 ≤ n) (h1 : n < 18446744073709551616) : bits .and .u64 n 65535 = n % 65536 := by
  rw [u64_and n 65535 h0 h1 (by omega) (by omega)]
  have e : (65535 : Int).toNat = 2 ^ 16 - 1 := by decide
  rw [e, Nat.and_two_pow_sub_one_eq_mod]
  omega

theorem xor16_nat (a : Nat) (h : a < 65536) : a ^^^ 65535 = 65535 - a := by
  have h1 : (BitVec.ofNat 16 a).toNat = a := by simp; omega
  have h2 : (~~~ (BitVec.ofNat 16 a)).toNat = 65535 - a := by rw [BitVec.toNat_not, h1]
  have h3 : ~~~ (BitVec.ofNat 16 a) = BitVec.ofNat 16 a ^^^ BitVec.allOnes 16 := BitVec.xor_allOnes.symm
  rw [h3, BitVec.toNat_xor, h1] at h2
  simpa using h2

theorem i64_xor16 (n : Int) (h0 : 0 ≤ n) (h1 : n ≤ 65535) : bits .xor .i64 n 65535 = 65535 - n := by
  obtain ⟨a, rfl⟩ := Int.eq_ofNat_of_zero_le h0
  have ha : a < 65536 := by omega
  have e1 : (BitVec.ofInt 64 (a : Int)).toNat = a := by simp [BitVec.ofInt_natCast]; omega
  have e2 : (BitVec.ofInt 64 65535).toNat = 65535 := by decide
  show IntKind.i64.wrap ((BitVec.ofInt 64 (a : Int) ^^^ BitVec.ofInt 64 65535).toNat : Nat) = 65535 - (a : Int)
  rw [BitVec.toNat_xor, e1, e2, xor16_nat a ha, IntKind.wrap_i64]
  omega

/-- What is above 16 bits is added again, until there is none. -/
def foldV (n : Int) : Int := if n = 0 then 0 else (n - 1) % 65535 + 1

theorem foldV_small {n : Int} (h0 : 0 ≤ n) (h1 : n ≤ 65535) : foldV n = n := by unfold foldV; split <;> omega
theorem foldV_step {n : Int} (h : 65535 < n) : foldV (n / 65536 + n % 65536) = foldV n := by
  unfold foldV
  rw [if_neg (by omega), if_neg (by omega)]
  omega
theorem foldV_bd {n : Int} (h : 0 ≤ n) : 0 ≤ foldV n ∧ foldV n ≤ 65535 := by unfold foldV; split <;> omega
theorem foldV_add {a b : Int} (ha : 0 ≤ a) (hb : 0 ≤ b) : foldV (foldV a + b) = foldV (a + b) := by
  unfold foldV
  by_cases h : a = 0
  · subst h; simp
  · rw [if_neg h, if_neg (by omega), if_neg (by omega)]
    omega
theorem foldV_zero {n : Int} (h : 0 ≤ n) : foldV n = 0 ↔ n = 0 := by unfold foldV; split <;> omega

/-- Upper or lower, n places on. -/
def par (u : Bool) (n : Nat) : Bool := if n % 2 = 0 then u else !u

theorem par_zero (u : Bool) : par u 0 = u := rfl
theorem par_succ (u : Bool) (n : Nat) : par u (n + 1) = !(par u n) := by
  unfold par
  rcases Nat.mod_two_eq_zero_or_one n with h | h
  · have h2 : (n + 1) % 2 = 1 := by omega
    simp [h, h2]
  · have h2 : (n + 1) % 2 = 0 := by omega
    simp [h, h2]
theorem par_add (u : Bool) (m n : Nat) : par u (m + n) = par (par u m) n := by
  induction n with
  | zero => rfl
  | succ n ih => rw [← Nat.add_assoc, par_succ, par_succ, ih]
theorem par_even (u : Bool) {n : Nat} (h : n % 2 = 0) : par u n = u := by unfold par; rw [if_pos h]

/-- Bytes as numbers of two bytes, the highest first, added. -/
def sumB : Bool → List Int → Int
  | _, [] => 0
  | true, x :: r => x * 256 + sumB false r
  | false, x :: r => x + sumB true r

theorem sumB_append (u : Bool) (xs ys : List Int) : sumB u (xs ++ ys) = sumB u xs + sumB (par u xs.length) ys := by
  induction xs generalizing u with
  | nil => simp [sumB, par]
  | cons x r ih =>
    rw [List.length_cons, Nat.add_comm, par_add]
    cases u with
    | true =>
      have e : par true 1 = false := rfl
      simp only [List.cons_append, sumB, ih, e]; omega
    | false =>
      have e : par false 1 = true := rfl
      simp only [List.cons_append, sumB, ih, e]; omega

theorem sumB_bd {xs : List Int} (h : BytesOk xs) (u : Bool) : 0 ≤ sumB u xs ∧ sumB u xs ≤ 65280 * xs.length := by
  induction xs generalizing u with
  | nil => simp [sumB]
  | cons x r ih =>
    have hx := h x (by simp)
    have hr := ih (fun y hy => h y (by simp [hy]))
    cases u with
    | true => have := hr false; simp only [sumB, List.length_cons]; omega
    | false => have := hr true; simp only [sumB, List.length_cons]; omega

/-- One byte more. -/
theorem sumB_snoc (u : Bool) (xs : List Int) (x : Int) : sumB u (xs ++ [x]) = sumB u xs + if par u xs.length = true then x * 256 else x := by
  rw [sumB_append]
  cases h : par u xs.length <;> simp [sumB]

theorem take_snoc (xs : List Int) {k : Nat} (h : k < xs.length) : xs.take (k + 1) = xs.take k ++ [xs[k]?.getD 0] := by
  rw [List.take_add_one, List.getElem?_eq_getElem h]; simp

/-- Two bytes more, the lower one maybe past the end. -/
theorem sumB_two (xs : List Int) {k : Nat} (h : 2 * k < xs.length) : sumB true (xs.take (2 * (k + 1))) = sumB true (xs.take (2 * k)) + get16V xs ((2 * k : Nat) : Int) := by
  have e1 : byteV xs ((2 * k : Nat) : Int) = xs[2 * k]?.getD 0 := byteV_nat xs (2 * k)
  have e2 : byteV xs (((2 * k : Nat) : Int) + 1) = xs[2 * k + 1]?.getD 0 := by
    rw [show ((2 * k : Nat) : Int) + 1 = ((2 * k + 1 : Nat) : Int) by omega]; exact byteV_nat xs (2 * k + 1)
  unfold get16V
  rw [e1, e2, show 2 * (k + 1) = 2 * k + 1 + 1 by omega]
  have l0 : (xs.take (2 * k)).length = 2 * k := by simp; omega
  by_cases h2 : 2 * k + 1 < xs.length
  · have l1 : (xs.take (2 * k + 1)).length = 2 * k + 1 := by simp; omega
    rw [take_snoc xs h2, sumB_snoc, l1, take_snoc xs h, sumB_snoc, l0]
    rw [if_pos (by rw [par_even _ (by omega)]), if_neg (by rw [par_succ, par_even _ (by omega)]; decide)]
    omega
  · have e3 : xs.take (2 * k + 1 + 1) = xs.take (2 * k + 1) := by
      rw [List.take_of_length_le (by omega), List.take_of_length_le (by omega)]
    rw [List.getElem?_eq_none (show xs.length ≤ 2 * k + 1 by omega), e3]
    rw [take_snoc xs h, sumB_snoc, l0, if_pos (by rw [par_even _ (by omega)])]
    simp

/-- A checksum (P2.1). -/
def ofV (xs : List Int) : Int := 65535 - foldV (sumB true xs)

theorem ofV_bd {xs : List Int} (h : BytesOk xs) : 0 ≤ ofV xs ∧ ofV xs ≤ 65535 := by
  have := foldV_bd (sumB_bd h true).1
  unfold ofV; omega

/-- A checksum behind a change (P2.2). -/
def updV (s was now : Int) : Int := 65535 - foldV (65535 - s % 65536 + (65535 - was % 65536) + now % 65536)

theorem updV_bd (s was now : Int) : 0 ≤ updV s was now ∧ updV s was now ≤ 65535 := by
  have := foldV_bd (n := 65535 - s % 65536 + (65535 - was % 65536) + now % 65536) (by omega)
  unfold updV; omega

theorem i64_or_byte (m x : Int) (m0 : 0 ≤ m) (m1 : m ≤ 255) (x0 : 0 ≤ x) (x1 : x ≤ 255) :
    0 ≤ bits .or .i64 m x ∧ bits .or .i64 m x ≤ 255 ∧ (m = 0 → x = 0 → bits .or .i64 m x = 0) := by
  obtain ⟨a, rfl⟩ := Int.eq_ofNat_of_zero_le m0
  obtain ⟨b, rfl⟩ := Int.eq_ofNat_of_zero_le x0
  have ha : a < 2 ^ 8 := by omega
  have hb : b < 2 ^ 8 := by omega
  have e := (bits_nat .i64 63 (by decide) wraps_i64 a b (by omega) (by omega)).2
  have hl := Nat.or_lt_two_pow ha hb
  rw [e]
  refine ⟨by omega, by omega, fun h1 h2 => ?_⟩
  have h1' : a = 0 := by omega
  have h2' : b = 0 := by omega
  subst h1'; subst h2'; rfl

theorem sumB_noughts (u : Bool) (n : Nat) : sumB u (List.replicate n 0) = 0 := by
  induction n generalizing u with
  | zero => rfl
  | succ n ih => cases u <;> simp [List.replicate_succ, sumB, ih]

/-- What has been gathered by 'or' is 0, where the sum is. -/
theorem or_step {xs : List Int} (hok : BytesOk xs) {k : Nat} (hk : k < xs.length) {m : Int} (m0 : 0 ≤ m) (m1 : m ≤ 255) (hm : sumB true (xs.take k) = 0 → m = 0) :
    0 ≤ bits .or .i64 m (xs[k]?.getD 0) ∧ bits .or .i64 m (xs[k]?.getD 0) ≤ 255 ∧ (sumB true (xs.take (k + 1)) = 0 → bits .or .i64 m (xs[k]?.getD 0) = 0) := by
  have hx := hok.get k
  obtain ⟨h1, h2, h3⟩ := i64_or_byte m _ m0 m1 hx.1 hx.2
  refine ⟨h1, h2, fun hs => ?_⟩
  have hb := (sumB_bd (xs := xs.take k) (fun x hx => hok x (List.mem_of_mem_take hx)) true).1
  rw [take_snoc xs hk, sumB_snoc] at hs
  have : sumB true (xs.take k) = 0 ∧ xs[k]?.getD 0 = 0 := by
    split at hs <;> omega
  exact h3 (hm this.1) this.2

theorem sumB_set (u : Bool) (xs : List Int) (k : Nat) (v : Int) (h : k < xs.length) :
    sumB u (xs.set k v) = sumB u xs + (if par u k = true then (v - xs[k]?.getD 0) * 256 else v - xs[k]?.getD 0) := by
  have e : xs.set k v = xs.take k ++ v :: xs.drop (k + 1) := by rw [List.set_eq_take_append_cons_drop, if_pos h]
  have e2 : xs = xs.take k ++ xs[k]?.getD 0 :: xs.drop (k + 1) := by
    rw [List.getElem?_eq_getElem h, Option.getD_some, List.getElem_cons_drop, List.take_append_drop]
  have l0 : (xs.take k).length = k := by simp; omega
  rw [e]
  conv => rhs; rw [e2]
  rw [sumB_append, sumB_append, l0]
  have e3 : (xs.take k ++ xs[k]?.getD 0 :: xs.drop (k + 1))[k]?.getD 0 = xs[k]?.getD 0 := by rw [← e2]
  rw [e3]
  cases par u k <;> simp only [sumB, if_true, Bool.false_eq_true, if_false] <;> omega

theorem get_set (xs : List Int) (k j : Nat) (v : Int) (h : k < xs.length) : (xs.set k v)[j]?.getD 0 = if j = k then v else xs[j]?.getD 0 := by
  by_cases hj : j = k
  · subst hj; rw [if_pos rfl, List.getElem?_set_self h]; rfl
  · rw [if_neg hj, List.getElem?_set_ne (fun h => hj h.symm)]

/-- A word that is replaced. -/
theorem sumB_word (xs : List Int) (k : Nat) (a b : Int) (h : k + 1 < xs.length) (hk : k % 2 = 0) :
    sumB true ((xs.set k a).set (k + 1) b) = sumB true xs - get16V xs (k : Int) + (a * 256 + b) := by
  have e1 : byteV xs (k : Int) = xs[k]?.getD 0 := byteV_nat xs k
  have e2 : byteV xs ((k : Int) + 1) = xs[k + 1]?.getD 0 := by
    rw [show (k : Int) + 1 = ((k + 1 : Nat) : Int) by omega]; exact byteV_nat xs (k + 1)
  unfold get16V
  have p0 : par true k = true := par_even _ hk
  have p1 : par true (k + 1) = false := by rw [par_succ, p0]; rfl
  have g1 : (xs.set k a)[k + 1]?.getD 0 = xs[k + 1]?.getD 0 := by rw [get_set _ _ _ _ (by omega), if_neg (by omega)]
  rw [sumB_set _ _ (k + 1) _ (by simpa using h), sumB_set _ _ k _ (by omega), g1, p0, p1, e1, e2]
  simp only [if_true, Bool.false_eq_true, if_false]
  omega

/-- The word that was put is read. -/
theorem get16_word (xs : List Int) (k j : Nat) (a b : Int) (h : k + 1 < xs.length) (hk : k % 2 = 0) (hj : j % 2 = 0) :
    get16V ((xs.set k a).set (k + 1) b) (j : Int) = if j = k then a * 256 + b else get16V xs (j : Int) := by
  have e1 : ∀ ys : List Int, get16V ys (j : Int) = ys[j]?.getD 0 * 256 + ys[j + 1]?.getD 0 := fun ys => by
    have e2 : byteV ys ((j : Int) + 1) = ys[j + 1]?.getD 0 := by
      rw [show (j : Int) + 1 = ((j + 1 : Nat) : Int) by omega]; exact byteV_nat ys (j + 1)
    unfold get16V; rw [e2, byteV_nat]
  have s1 : ∀ i, ((xs.set k a).set (k + 1) b)[i]?.getD 0 = if i = k + 1 then b else if i = k then a else xs[i]?.getD 0 := fun i => by
    rw [get_set _ (k + 1) i b (by simpa using h), get_set _ k i a (by omega)]
  rw [e1, e1, s1, s1]
  by_cases hjk : j = k
  · subst hjk; simp
  · rw [if_neg (by omega), if_neg hjk, if_neg (by omega), if_neg (by omega), if_neg hjk]

theorem ofV_word {xs : List Int} (hok : BytesOk xs) (k : Nat) (h : k + 1 < xs.length) (hk : k % 2 = 0) (h0 : get16V xs (k : Int) = 0) :
    ofV ((xs.set k (ofV xs / 256)).set (k + 1) (ofV xs % 256)) = 0 := by
  have hb := ofV_bd hok
  have hs := (sumB_bd hok true).1
  have e : ofV xs / 256 * 256 + ofV xs % 256 = 65535 - foldV (sumB true xs) := by
    have : ofV xs = 65535 - foldV (sumB true xs) := rfl
    omega
  have e2 : sumB true ((xs.set k (ofV xs / 256)).set (k + 1) (ofV xs % 256)) = sumB true xs + (65535 - foldV (sumB true xs)) := by
    rw [sumB_word xs k _ _ h hk, h0, e]; omega
  show 65535 - foldV _ = 0
  rw [e2]
  unfold foldV
  split <;> split <;> omega

theorem u8_xor_bd (a b : Int) (h1 : 0 ≤ a) (h2 : a ≤ 255) (h3 : 0 ≤ b) (h4 : b ≤ 255) : 0 ≤ bits .xor .u8 a b ∧ bits .xor .u8 a b ≤ 255 := by
  rw [u8_xor a b h1 (by omega) h3 (by omega)]
  have := Nat.xor_lt_two_pow (x := a.toNat) (y := b.toNat) (n := 8) (by omega) (by omega)
  omega

theorem BytesOk.set {xs : List Int} (h : BytesOk xs) (k : Nat) {v : Int} (v0 : 0 ≤ v) (v1 : v ≤ 255) : BytesOk (xs.set k v) := fun x hx => by
  rcases List.mem_or_eq_of_mem_set hx with h3 | rfl
  · exact h x h3
  · exact ⟨v0, v1⟩

/-- A checksum stands at the head of an even row; a word behind is replaced, and the checksum brought up to date: it is right, or all are noughts (P2.3). -/
theorem updates {X ys zs ts : List Int} {s was u now : Int} {k : Nat} (hok : BytesOk X) (h2 : 2 ≤ k) (hk : k % 2 = 0) (hl : k + 1 < X.length) (n0 : 0 ≤ now) (n1 : now ≤ 65535)
    (hys : ys = (X.set 0 0).set 1 0) (hs : s = ofV ys) (hzs : zs = (ys.set 0 (s / 256)).set 1 (s % 256)) (hw : was = get16V zs (k : Int)) (hu : u = updV s was now)
    (hts : ts = (((zs.set 0 (u / 256)).set 1 (u % 256)).set k (now / 256)).set (k + 1) (now % 256)) :
    ofV ts = 0 ∨ sumB true ts = 0 := by
  have oy : BytesOk ys := by rw [hys]; exact (hok.set 0 (by omega) (by omega)).set 1 (by omega) (by omega)
  have bs := ofV_bd oy
  rw [← hs] at bs
  have oz : BytesOk zs := by rw [hzs]; exact (oy.set 0 (by omega) (by omega)).set 1 (by omega) (by omega)
  have bw := get16V_bd oz (k : Int)
  rw [← hw] at bw
  have bu := updV_bd s was now
  rw [← hu] at bu
  have ot : BytesOk ts := by rw [hts]; exact (((oz.set 0 (by omega) (by omega)).set 1 (by omega) (by omega)).set k (by omega) (by omega)).set (k + 1) (by omega) (by omega)
  have ly : ys.length = X.length := by rw [hys]; simp
  have lz : zs.length = X.length := by rw [hzs]; simpa using ly
  have y0 : get16V ys ((0 : Nat) : Int) = 0 := by rw [hys, get16_word X 0 0 0 0 (by omega) (by omega) (by omega)]; simp
  have z0 : get16V zs ((0 : Nat) : Int) = s := by rw [hzs, get16_word ys 0 0 _ _ (by omega) (by omega) (by omega), if_pos rfl]; omega
  have ez : sumB true zs = sumB true ys + s := by
    rw [hzs, sumB_word ys 0 _ _ (by omega) (by omega), y0]; omega
  have e1 : sumB true ((zs.set 0 (u / 256)).set (0 + 1) (u % 256)) = sumB true ys + u := by
    rw [sumB_word zs 0 _ _ (by omega) (by omega), z0, ez]; omega
  have e2 : get16V ((zs.set 0 (u / 256)).set (0 + 1) (u % 256)) (k : Int) = was := by
    rw [get16_word zs 0 k _ _ (by omega) (by omega) hk, if_neg (by omega), hw]
  have et : sumB true ts = sumB true ys + u - was + now := by
    rw [hts, sumB_word _ k _ _ (by simp; omega) hk]
    rw [show (1 : Nat) = 0 + 1 from rfl, e1, e2]; omega
  have hS := (sumB_bd oy true).1
  have hT := (sumB_bd ot true).1
  have es : 65535 - s = foldV (sumB true ys) := by
    have : ofV ys = 65535 - foldV (sumB true ys) := rfl
    omega
  have eu : u = 65535 - foldV (sumB true ys + (65535 - was + now)) := by
    rw [hu]
    show 65535 - foldV _ = _
    rw [show s % 65536 = s by omega, show was % 65536 = was by omega, show now % 65536 = now by omega, es, Int.add_assoc, foldV_add hS (by omega)]
  by_cases h0 : sumB true ts = 0
  · exact .inr h0
  · refine .inl ?_
    show 65535 - foldV (sumB true ts) = 0
    have eA : sumB true ts = (sumB true ys + (65535 - was + now)) - foldV (sumB true ys + (65535 - was + now)) := by omega
    have hA : 0 ≤ sumB true ys + (65535 - was + now) := by omega
    clear et eu es ez e1 e2
    generalize sumB true ts = T at eA hT h0
    generalize sumB true ys + (65535 - was + now) = A at eA hA
    unfold foldV at eA ⊢
    rw [if_neg h0]
    split at eA <;> omega

end Go.Proofs.Ytdkmakjjcfkfaaa
