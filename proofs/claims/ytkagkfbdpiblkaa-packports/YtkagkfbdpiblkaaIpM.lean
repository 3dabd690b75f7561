/- Plain facts on packets (chapter 4): what is built is parsed as it was; what is cut or spoilt is none; a TTL that is one less. -/
import Derived.Test.YtkagkfbdpiblkaaIp5
namespace Go.Proofs.Ytkagkfbdpiblkaa
open Go.RowKit
set_option linter.unusedVariables false

theorem build_form (p : IPv) (more : List Int) : buildV p ++ more =
    (64 + (20 + (p.opts.length : Int)) / 4) :: p.tos :: ((20 + (p.opts.length : Int) + p.data.length) / 256 % 256) :: ((20 + (p.opts.length : Int) + p.data.length) % 256) :: (p.id / 256 % 256) :: (p.id % 256) ::
    ((flagV p.df p.mf + p.off) / 256 % 256) :: ((flagV p.df p.mf + p.off) % 256) :: p.ttl :: p.proto :: (checkV p / 256 % 256) :: (checkV p % 256) ::
    (p.src / 16777216) :: (p.src / 65536 % 256) :: (p.src / 256 % 256) :: (p.src % 256) :: (p.dst / 16777216) :: (p.dst / 65536 % 256) :: (p.dst / 256 % 256) :: (p.dst % 256) :: (p.opts ++ (p.data ++ more)) := by
  simp [buildV, aheadV, behindV]

/-- The bytes of a packet that is built, whatever stands behind. -/
structure Built (p : IPv) (xs : List Int) : Prop where
  x0 : byteV xs 0 = 64 + (20 + (p.opts.length : Int)) / 4
  x1 : byteV xs 1 = p.tos
  x2 : get16V xs 2 = 20 + (p.opts.length : Int) + p.data.length
  x4 : get16V xs 4 = p.id
  x6 : get16V xs 6 = flagV p.df p.mf + p.off
  b6 : byteV xs 6 < 128
  x8 : byteV xs 8 = p.ttl
  x9 : byteV xs 9 = p.proto
  x12 : accV xs 12 4 = p.src
  x16 : accV xs 16 4 = p.dst
  hd : headV xs = 20 + (p.opts.length : Int)

theorem built {p : IPv} (f : Fine p) (h : Fits p) (hd : p.data.length ≤ 60000) (more : List Int) : Built p (buildV p ++ more) := by
  obtain ⟨t0, t1, u0, u1, r0, r1, i0, i1, o0, o1, n4, n40⟩ := h
  obtain ⟨s0, s1, d0, d1, ho, hdd⟩ := f
  have hfl := flagV_bd p.df p.mf
  have e : ∀ k : Nat, byteV (buildV p ++ more) (k : Int) = (buildV p ++ more)[k]?.getD 0 := fun k => byteV_nat _ k
  rw [build_form] at e ⊢
  have e0 := e 0; have e1 := e 1; have e2 := e 2; have e3 := e 3; have e4 := e 4; have e5 := e 5; have e6 := e 6; have e7 := e 7; have e8 := e 8; have e9 := e 9
  have e12 := e 12; have e13 := e 13; have e14 := e 14; have e15 := e 15; have e16 := e 16; have e17 := e 17; have e18 := e 18; have e19 := e 19
  simp only [List.getElem?_cons_zero, List.getElem?_cons_succ, Option.getD_some] at e0 e1 e2 e3 e4 e5 e6 e7 e8 e9 e12 e13 e14 e15 e16 e17 e18 e19
  have z0 : headV ((64 + (20 + (p.opts.length : Int)) / 4) :: p.tos :: ((20 + (p.opts.length : Int) + p.data.length) / 256 % 256) :: ((20 + (p.opts.length : Int) + p.data.length) % 256) :: (p.id / 256 % 256) :: (p.id % 256) ::
    ((flagV p.df p.mf + p.off) / 256 % 256) :: ((flagV p.df p.mf + p.off) % 256) :: p.ttl :: p.proto :: (checkV p / 256 % 256) :: (checkV p % 256) ::
    (p.src / 16777216) :: (p.src / 65536 % 256) :: (p.src / 256 % 256) :: (p.src % 256) :: (p.dst / 16777216) :: (p.dst / 65536 % 256) :: (p.dst / 256 % 256) :: (p.dst % 256) :: (p.opts ++ (p.data ++ more))) = 20 + (p.opts.length : Int) := by
    have e0' : byteV _ 0 = _ := e0
    unfold headV; rw [e0']; omega
  generalize (64 + (20 + (p.opts.length : Int)) / 4) :: p.tos :: ((20 + (p.opts.length : Int) + p.data.length) / 256 % 256) :: ((20 + (p.opts.length : Int) + p.data.length) % 256) :: (p.id / 256 % 256) :: (p.id % 256) ::
    ((flagV p.df p.mf + p.off) / 256 % 256) :: ((flagV p.df p.mf + p.off) % 256) :: p.ttl :: p.proto :: (checkV p / 256 % 256) :: (checkV p % 256) ::
    (p.src / 16777216) :: (p.src / 65536 % 256) :: (p.src / 256 % 256) :: (p.src % 256) :: (p.dst / 16777216) :: (p.dst / 65536 % 256) :: (p.dst / 256 % 256) :: (p.dst % 256) :: (p.opts ++ (p.data ++ more)) = xs at *
  have e0 : byteV xs 0 = _ := e0
  have e1 : byteV xs 1 = _ := e1
  have e2 : byteV xs 2 = _ := e2
  have e3 : byteV xs 3 = _ := e3
  have e4 : byteV xs 4 = _ := e4
  have e5 : byteV xs 5 = _ := e5
  have e6 : byteV xs 6 = _ := e6
  have e7 : byteV xs 7 = _ := e7
  have e8 : byteV xs 8 = _ := e8
  have e9 : byteV xs 9 = _ := e9
  have e12 : byteV xs 12 = _ := e12
  have e13 : byteV xs 13 = _ := e13
  have e14 : byteV xs 14 = _ := e14
  have e15 : byteV xs 15 = _ := e15
  have e16 : byteV xs 16 = _ := e16
  have e17 : byteV xs 17 = _ := e17
  have e18 : byteV xs 18 = _ := e18
  have e19 : byteV xs 19 = _ := e19
  refine ⟨e0, e1, ?_, ?_, ?_, ?_, e8, e9, ?_, ?_, z0⟩
  · unfold get16V; rw [show (2 : Int) + 1 = 3 from rfl, e2, e3]; omega
  · unfold get16V; rw [show (4 : Int) + 1 = 5 from rfl, e4, e5]; omega
  · unfold get16V; rw [show (6 : Int) + 1 = 7 from rfl, e6, e7]; omega
  · rw [e6]; omega
  · rw [accV_four, show (12 : Int) + 1 = 13 from rfl, show (12 : Int) + 2 = 14 from rfl, show (12 : Int) + 3 = 15 from rfl, e12, e13, e14, e15]; omega
  · rw [accV_four, show (16 : Int) + 1 = 17 from rfl, show (16 : Int) + 2 = 18 from rfl, show (16 : Int) + 3 = 19 from rfl, e16, e17, e18, e19]; omega

theorem head_take (p : IPv) (more : List Int) : (buildV p ++ more).take (20 + p.opts.length) = aheadV p ++ ([checkV p / 256 % 256, checkV p % 256] ++ behindV p) := by
  have e : buildV p ++ more = (aheadV p ++ ([checkV p / 256 % 256, checkV p % 256] ++ behindV p)) ++ (p.data ++ more) := by simp [buildV]
  have l : (aheadV p ++ ([checkV p / 256 % 256, checkV p % 256] ++ behindV p)).length = 20 + p.opts.length := by
    rw [List.length_append, List.length_append, ahead_len, behind_len]; simp; omega
  rw [e, ← l, List.take_left]

theorem head_right {p : IPv} (f : Fine p) (h : Fits p) : ofV (aheadV p ++ ([checkV p / 256 % 256, checkV p % 256] ++ behindV p)) = 0 := by
  have hc := check_bd f h
  have oA := ahead_ok f h
  have oB := behind_ok f
  have oc : BytesOk [checkV p / 256 % 256, checkV p % 256] := by
    intro x hx; simp only [List.mem_cons, List.not_mem_nil, or_false] at hx; omega
  rw [ofV_zero (bytesOk_append oA (bytesOk_append oc oB))]
  have e1 : sumB true (aheadV p ++ ([checkV p / 256 % 256, checkV p % 256] ++ behindV p)) = sumB true (aheadV p) + (checkV p + sumB true (behindV p)) := by
    rw [sumB_append, ahead_len, par_even _ (by omega), sumB_append]
    have : sumB true [checkV p / 256 % 256, checkV p % 256] = checkV p := by simp [sumB]; omega
    rw [this, show par true [checkV p / 256 % 256, checkV p % 256].length = true from par_even _ (by simp)]
  have e2 : sumB true (aheadV p ++ behindV p) = sumB true (aheadV p) + sumB true (behindV p) := by
    rw [sumB_append, ahead_len, par_even _ (by omega)]
  have hA := (sumB_bd oA true).1
  have hB := (sumB_bd oB true).1
  have hck : checkV p = 65535 - foldV (sumB true (aheadV p) + sumB true (behindV p)) := by rw [← e2]; rfl
  rw [e1, hck]
  unfold foldV
  split <;> omega

theorem build_looks {p : IPv} (f : Fine p) (h : Fits p) (hd : p.data.length ≤ 60000) (more : List Int) : Looks (buildV p ++ more) := by
  have hb := built f h hd more
  have hl : (buildV p ++ more).length = 20 + p.opts.length + p.data.length + more.length := by rw [List.length_append, build_len]
  have n40 := h.n40
  have n4 := h.n4
  refine ⟨by omega, by rw [hb.x0]; omega, by rw [hb.hd]; omega, by rw [hb.hd, hl]; omega, ?_, by rw [hb.hd, hb.x2]; omega, hb.b6, by rw [hb.x2, hl]; omega⟩
  rw [hb.hd, show (20 + (p.opts.length : Int)).toNat = 20 + p.opts.length by omega, head_take]
  exact head_right f h

theorem build_parse {p : IPv} (f : Fine p) (h : Fits p) (hd : p.data.length ≤ 60000) (more : List Int) : parseV (buildV p ++ more) = p := by
  have hb := built f h hd more
  have o0 := h.o0
  have o1 := h.o1
  have e1 : ((buildV p ++ more).take (20 + p.opts.length)).drop 20 = p.opts := by
    rw [head_take]
    have : aheadV p ++ ([checkV p / 256 % 256, checkV p % 256] ++ behindV p) = (aheadV p ++ ([checkV p / 256 % 256, checkV p % 256] ++ ([p.src / 16777216, p.src / 65536 % 256, p.src / 256 % 256, p.src % 256] ++ [p.dst / 16777216, p.dst / 65536 % 256, p.dst / 256 % 256, p.dst % 256]))) ++ p.opts := by simp [behindV]
    rw [this]
    exact List.drop_left' (by simp [aheadV])
  have e2 : ((buildV p ++ more).take (20 + p.opts.length + p.data.length)).drop (20 + p.opts.length) = p.data := by
    rw [← build_len p, List.take_left]
    have : buildV p = (aheadV p ++ ([checkV p / 256 % 256, checkV p % 256] ++ behindV p)) ++ p.data := by simp [buildV]
    have l : (aheadV p ++ ([checkV p / 256 % 256, checkV p % 256] ++ behindV p)).length = 20 + p.opts.length := by
      rw [List.length_append, List.length_append, ahead_len, behind_len]; simp; omega
    rw [this, ← l]
    exact List.drop_left
  have h1 : (headV (buildV p ++ more)).toNat = 20 + p.opts.length := by rw [hb.hd]; omega
  have h2 : (get16V (buildV p ++ more) 2).toNat = 20 + p.opts.length + p.data.length := by rw [hb.x2]; omega
  have f1 : decide ((flagV p.df p.mf + p.off) / 16384 % 2 = 1) = p.df := by
    cases p.df <;> cases p.mf <;> simp [flagV] <;> omega
  have f2 : decide ((flagV p.df p.mf + p.off) / 8192 % 2 = 1) = p.mf := by
    cases p.df <;> cases p.mf <;> simp [flagV] <;> omega
  have f3 : (flagV p.df p.mf + p.off) % 8192 = p.off := by have := flagV_bd p.df p.mf; omega
  unfold parseV
  rw [hb.x1, hb.x4, hb.x6, hb.x8, hb.x9, hb.x12, hb.x16, h1, h2, e1, e2, f1, f2, f3]

/-- What is cut short is none. -/
theorem cut_short {p : IPv} (f : Fine p) (h : Fits p) (hd : p.data.length ≤ 60000) (k : Nat) (hk : k < 20 + p.opts.length + p.data.length) : lookV ((buildV p).take k) = 3 := by
  have L := build_looks f h hd []
  have hb := built f h hd []
  rw [List.append_nil] at L hb
  have hl := build_len p
  have lk : ((buildV p).take k).length = k := by rw [List.length_take, hl]; omega
  unfold lookV
  rw [lk]
  by_cases h1 : k < 20
  · rw [if_pos h1]
  rw [if_neg h1]
  have y0 : byteV ((buildV p).take k) 0 = byteV (buildV p) 0 := byteV_take (buildV p) k 0 (by omega)
  have y6 : byteV ((buildV p).take k) 6 = byteV (buildV p) 6 := byteV_take (buildV p) k 6 (by omega)
  have y2 : get16V ((buildV p).take k) 2 = get16V (buildV p) 2 := get16V_take (buildV p) k 2 (by omega)
  have yh : headV ((buildV p).take k) = headV (buildV p) := by unfold headV; rw [y0]
  rw [y0, yh, y6, y2, if_neg (by have := L.ver; omega), if_neg (by have := L.head; omega)]
  by_cases h2 : (k : Int) < headV (buildV p)
  · rw [if_pos h2]
  rw [if_neg h2, List.take_take, Nat.min_eq_left (by have := hb.hd; omega), if_neg (by rw [L.right]; simp), if_neg (by have := L.all; omega), if_neg (by have := L.bit; omega), if_pos (by rw [hb.x2]; omega)]

/-- A header of which a byte is spoilt is none. -/
theorem spoilt {p : IPv} (f : Fine p) (h : Fits p) (hd : p.data.length ≤ 60000) (k : Nat) (v : Int) (h1 : 1 ≤ k) (hk : k < 20 + p.opts.length) (v0 : 0 ≤ v) (v1 : v ≤ 255) (hv : v ≠ (buildV p)[k]?.getD 0) : lookV ((buildV p).set k v) ≠ 0 := by
  have L := build_looks f h hd []
  have hb := built f h hd []
  rw [List.append_nil] at L hb
  have ok := build_ok f h
  have hl := build_len p
  intro h0
  have L' := (looks_iff _).1 h0
  have y0 : byteV ((buildV p).set k v) 0 = byteV (buildV p) 0 := by
    have a1 := byteV_nat ((buildV p).set k v) 0
    have a2 := byteV_nat (buildV p) 0
    rw [List.getElem?_set_ne (by omega)] at a1
    exact a1.trans a2.symm
  have yh : headV ((buildV p).set k v) = headV (buildV p) := by unfold headV; rw [y0]
  have hh : (headV (buildV p)).toNat = 20 + p.opts.length := by rw [hb.hd]; omega
  have r1 := L.right
  have r2 := L'.right
  rw [yh, hh, List.take_set] at r2
  rw [hh] at r1
  have okt : BytesOk ((buildV p).take (20 + p.opts.length)) := fun x hx => ok x (List.mem_of_mem_take hx)
  rw [ofV_zero okt] at r1
  rw [ofV_zero (okt.set k v0 v1), sumB_set _ _ _ _ (by rw [List.length_take, hl]; omega), List.getElem?_take, if_pos hk] at r2
  have ob := ok.get k
  generalize (buildV p)[k]?.getD 0 = o at *
  split at r2 <;> omega
/-- Twelve bytes at the head, one by one. -/
theorem twelve (xs : List Int) (h : 12 ≤ xs.length) : ∃ x0 x1 x2 x3 x4 x5 x6 x7 x8 x9 xa xb t, xs = x0 :: x1 :: x2 :: x3 :: x4 :: x5 :: x6 :: x7 :: x8 :: x9 :: xa :: xb :: t := by
  match xs, h with
  | x0 :: x1 :: x2 :: x3 :: x4 :: x5 :: x6 :: x7 :: x8 :: x9 :: xa :: xb :: t, _ => exact ⟨x0, x1, x2, x3, x4, x5, x6, x7, x8, x9, xa, xb, t, rfl⟩

/-- The new checksum of a TTL that is one less. -/
def lessC (xs : List Int) : Int := updV (get16V xs 10) (get16V xs 8) (get16V xs 8 - 256)

/-- A packet with a TTL that is one less. -/
def lessV (xs : List Int) : List Int := (((xs.take (get16V xs 2).toNat).set 8 (byteV xs 8 - 1)).set 10 (lessC xs / 256 % 256)).set 11 (lessC xs % 256)

theorem less_parts {xs : List Int} (hok : BytesOk xs) (L : Looks xs) (h8 : byteV xs 8 ≠ 0) :
    [xs.take 8, [(get16V xs 8 - 256) / 256 % 256, (get16V xs 8 - 256) % 256], [lessC xs / 256 % 256, lessC xs % 256], (xs.take (get16V xs 2).toNat).drop 12].flatten = lessV xs := by
  have b8 := hok.byteV 8
  have b9 := hok.byteV 9
  have e8 : get16V xs 8 = byteV xs 8 * 256 + byteV xs 9 := rfl
  have l1 := L.len; have l2 := L.head; have l3 := L.all; have l4 := L.whole
  obtain ⟨m, hm⟩ : ∃ m : Nat, (get16V xs 2).toNat = m + 12 := ⟨(get16V xs 2).toNat - 12, by omega⟩
  unfold lessV
  rw [hm, show (get16V xs 8 - 256) / 256 % 256 = byteV xs 8 - 1 by omega, show (get16V xs 8 - 256) % 256 = byteV xs 9 by omega]
  have e9 : byteV xs 9 = xs[9]?.getD 0 := byteV_nat xs 9
  rw [e9]
  generalize byteV xs 8 - 1 = v
  generalize lessC xs = c
  obtain ⟨x0, x1, x2, x3, x4, x5, x6, x7, x8, x9, xa, xb, t, rfl⟩ := twelve xs (by omega)
  simp

theorem less_len {xs : List Int} (L : Looks xs) : (lessV xs).length = (get16V xs 2).toNat := by
  have := L.whole
  unfold lessV; simp; omega

theorem lessC_bd (xs : List Int) : 0 ≤ lessC xs ∧ lessC xs ≤ 65535 := updV_bd _ _ _

theorem less_ok {xs : List Int} (hok : BytesOk xs) (h8 : byteV xs 8 ≠ 0) : BytesOk (lessV xs) := by
  have b8 := hok.byteV 8
  have hc := lessC_bd xs
  have h0 : BytesOk (xs.take (get16V xs 2).toNat) := fun x hx => hok x (List.mem_of_mem_take hx)
  exact ((h0.set 8 (by omega) (by omega)).set 10 (by omega) (by omega)).set 11 (by omega) (by omega)

/-- What is read of it. -/
theorem less_get {xs : List Int} (L : Looks xs) (i : Nat) (hi : i < (get16V xs 2).toNat) : (lessV xs)[i]?.getD 0 = if i = 11 then lessC xs % 256 else if i = 10 then lessC xs / 256 % 256 else if i = 8 then byteV xs 8 - 1 else xs[i]?.getD 0 := by
  have l1 := L.len; have l2 := L.head; have l3 := L.all; have l4 := L.whole
  unfold lessV
  rw [get_set _ 11 i _ (by simp; omega), get_set _ 10 i _ (by simp; omega), get_set _ 8 i _ (by simp; omega), List.getElem?_take, if_pos hi]

theorem less_drop {xs : List Int} (L : Looks xs) (k : Nat) (hk : 12 ≤ k) : (lessV xs).drop k = (xs.take (get16V xs 2).toNat).drop k := by
  unfold lessV
  rw [List.drop_set_of_lt (by omega), List.drop_set_of_lt (by omega), List.drop_set_of_lt (by omega)]

theorem i64_and10 (n : Int) : bits .and .i64 n 1023 = n % 1024 := by
  have h1 : (BitVec.ofInt 64 1023).toNat = 2 ^ 10 - 1 := by decide
  have key : (BitVec.ofInt 64 n &&& BitVec.ofInt 64 1023).toNat = (n % ((2 ^ 64 : Nat) : Int)).toNat % 2 ^ 10 := by
    rw [BitVec.toNat_and, BitVec.toNat_ofInt, h1, Nat.and_two_pow_sub_one_eq_mod]
  show IntKind.i64.wrap ((BitVec.ofInt 64 n &&& BitVec.ofInt 64 1023).toNat : Nat) = n % 1024
  rw [key, IntKind.wrap_i64]
  omega

theorem xor_ne (a b : Int) (h1 : 0 ≤ a) (h2 : a ≤ 255) (h3 : 0 ≤ b) (h4 : b ≤ 255) (hb : b ≠ 0) : bits .xor .u8 a b ≠ a := by
  rw [u8_xor a b h1 (by omega) h3 (by omega)]
  intro h
  have h' : a.toNat ^^^ b.toNat = a.toNat := by omega
  have h5 : a.toNat ^^^ (a.toNat ^^^ b.toNat) = a.toNat ^^^ a.toNat := by rw [h']
  rw [← Nat.xor_assoc, Nat.xor_self, Nat.zero_xor] at h5
  omega

end Go.Proofs.Ytkagkfbdpiblkaa
