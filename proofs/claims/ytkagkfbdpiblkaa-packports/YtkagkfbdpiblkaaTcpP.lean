/- Plain facts on segments (chapter 5): what their bytes say, which error they have; what is built is parsed as it was; what is cut. -/
import Derived.Test.YtkagkfbdpiblkaaPseudo
import Derived.Test.YtkagkfbdpiblkaaPart
namespace Go.Proofs.Ytkagkfbdpiblkaa.Tcp
open Go.RowKit
set_option linter.unusedVariables false

/-- A segment. -/
structure SEGv where
  src : Int
  dst : Int
  seq : Int
  ack : Int
  flags : Int
  win : Int
  urg : Int
  opts : List Int
  data : List Int

/-- How many bytes the header has, by byte 12. -/
def headV (xs : List Int) : Int := byteV xs 12 / 16 * 4

theorem headV_bd {xs : List Int} (h : BytesOk xs) : 0 ≤ headV xs ∧ headV xs ≤ 60 ∧ headV xs % 4 = 0 := by
  have := h.byteV 12
  unfold headV; omega

/-- Which error bytes have (0: none). -/
def lookV (xs : List Int) : Int :=
  if xs.length < 20 then 3
  else if (xs.length : Int) < headV xs then 3
  else if headV xs < 20 then 2
  else 0

/-- The segment of bytes that have no error. -/
def parseV (xs : List Int) : SEGv :=
  { src := get16V xs 0, dst := get16V xs 2, seq := accV xs 4 4, ack := accV xs 8 4, flags := byteV xs 13 % 64, win := get16V xs 14, urg := get16V xs 18,
    opts := (xs.take (headV xs).toNat).drop 20, data := xs.drop (headV xs).toNat }

def zeroSeg : SEGv := ⟨0, 0, 0, 0, 0, 0, 0, [], []⟩

/-- What Parse answers. -/
def packV (xs : List Int) : SEGv := if lookV xs = 0 then parseV xs else zeroSeg

/-- Field by field. -/
def sameV (p q : SEGv) : Bool :=
  p.src == q.src && p.dst == q.dst && p.seq == q.seq && p.ack == q.ack && p.flags == q.flags && p.win == q.win && p.urg == q.urg &&
    ((strOfNums p.opts).toList == (strOfNums q.opts).toList && (strOfNums p.data).toList == (strOfNums q.data).toList)

theorem sameV_self (p : SEGv) : sameV p p = true := by simp [sameV]

/-- What bytes without an error are. -/
structure Looks (xs : List Int) : Prop where
  len : 20 ≤ xs.length
  head : 20 ≤ headV xs
  room : headV xs ≤ xs.length

theorem looks_iff (xs : List Int) : lookV xs = 0 ↔ Looks xs := by
  unfold lookV
  constructor
  · intro h
    by_cases h1 : xs.length < 20
    · rw [if_pos h1] at h; omega
    rw [if_neg h1] at h
    by_cases h2 : (xs.length : Int) < headV xs
    · rw [if_pos h2] at h; omega
    rw [if_neg h2] at h
    by_cases h3 : headV xs < 20
    · rw [if_pos h3] at h; omega
    exact ⟨by omega, by omega, by omega⟩
  · intro h
    have := h.len; have := h.head; have := h.room
    rw [if_neg (by omega), if_neg (by omega), if_neg (by omega)]

/-- The ways bytes may be looked at. -/
theorem look_cases (xs : List Int) :
    (xs.length < 20 ∧ lookV xs = 3) ∨ (20 ≤ xs.length ∧ (xs.length : Int) < headV xs ∧ lookV xs = 3) ∨ (20 ≤ xs.length ∧ headV xs ≤ xs.length ∧ headV xs < 20 ∧ lookV xs = 2) ∨
    (20 ≤ xs.length ∧ headV xs ≤ xs.length ∧ 20 ≤ headV xs ∧ lookV xs = 0) := by
  unfold lookV
  by_cases h1 : xs.length < 20
  · rw [if_pos h1]; exact .inl ⟨h1, rfl⟩
  rw [if_neg h1]; refine .inr ?_
  by_cases h2 : (xs.length : Int) < headV xs
  · rw [if_pos h2]; exact .inl ⟨by omega, h2, rfl⟩
  rw [if_neg h2]; refine .inr ?_
  by_cases h3 : headV xs < 20
  · rw [if_pos h3]; exact .inl ⟨by omega, by omega, h3, rfl⟩
  rw [if_neg h3]
  exact .inr ⟨by omega, by omega, by omega, rfl⟩

theorem i64_and6 (n : Int) (h0 : 0 ≤ n) (h1 : n ≤ 255) : bits .and .i64 n 63 = n % 64 := by
  obtain ⟨a, rfl⟩ := Int.eq_ofNat_of_zero_le h0
  have e := (bits_nat .i64 63 (by decide) wraps_i64 a 63 (by omega) (by omega)).1
  have e2 : a &&& 63 = a % 64 := Nat.and_two_pow_sub_one_eq_mod a 6
  rw [show (63 : Int) = ((63 : Nat) : Int) from rfl, e, e2]; rfl

theorem u8_and6 (n : Int) (h0 : 0 ≤ n) (h1 : n ≤ 255) : bits .and .u8 n 63 = n % 64 := by
  obtain ⟨a, rfl⟩ := Int.eq_ofNat_of_zero_le h0
  have e := u8_and (a : Int) 63 (by omega) (by omega) (by omega) (by omega)
  rw [e]
  have e2 : a &&& 63 = a % 64 := Nat.and_two_pow_sub_one_eq_mod a 6
  have e3 : ((a : Int).toNat &&& (63 : Int).toNat) = a &&& 63 := rfl
  rw [e3, e2]; rfl

/-- May a segment be built? -/
def isV (p : SEGv) : Bool :=
  decide (0 ≤ p.src ∧ p.src ≤ 65535 ∧ 0 ≤ p.dst ∧ p.dst ≤ 65535 ∧ 0 ≤ p.win ∧ p.win ≤ 65535 ∧ 0 ≤ p.urg ∧ p.urg ≤ 65535 ∧ 0 ≤ p.flags ∧ p.flags ≤ 63 ∧ p.opts.length % 4 = 0 ∧ p.opts.length ≤ 40 ∧
    20 + p.opts.length + p.data.length ≤ 65000)

/-- What comes in: numbers within their kinds, lists of bytes. -/
structure Fine (p : SEGv) : Prop where
  s0 : 0 ≤ p.seq
  s1 : p.seq ≤ 4294967295
  a0 : 0 ≤ p.ack
  a1 : p.ack ≤ 4294967295
  o : BytesOk p.opts
  d : BytesOk p.data

/-- What may be built. -/
structure Fits (p : SEGv) : Prop where
  s0 : 0 ≤ p.src
  s1 : p.src ≤ 65535
  d0 : 0 ≤ p.dst
  d1 : p.dst ≤ 65535
  w0 : 0 ≤ p.win
  w1 : p.win ≤ 65535
  u0 : 0 ≤ p.urg
  u1 : p.urg ≤ 65535
  f0 : 0 ≤ p.flags
  f1 : p.flags ≤ 63
  n4 : p.opts.length % 4 = 0
  n40 : p.opts.length ≤ 40
  all : 20 + p.opts.length + p.data.length ≤ 65000

theorem isV_iff (p : SEGv) : isV p = true ↔ Fits p := by
  unfold isV
  rw [decide_eq_true_eq]
  constructor
  · rintro ⟨h1, h2, h3, h4, h5, h6, h7, h8, h9, h10, h11, h12, h13⟩
    exact ⟨h1, h2, h3, h4, h5, h6, h7, h8, h9, h10, h11, h12, h13⟩
  · intro h
    exact ⟨h.s0, h.s1, h.d0, h.d1, h.w0, h.w1, h.u0, h.u1, h.f0, h.f1, h.n4, h.n40, h.all⟩

/-- The header's first sixteen bytes. -/
def aheadV (p : SEGv) : List Int :=
  [p.src / 256 % 256, p.src % 256, p.dst / 256 % 256, p.dst % 256, p.seq / 16777216, p.seq / 65536 % 256, p.seq / 256 % 256, p.seq % 256, p.ack / 16777216, p.ack / 65536 % 256, p.ack / 256 % 256, p.ack % 256,
    (20 + (p.opts.length : Int)) / 4 * 16, p.flags, p.win / 256 % 256, p.win % 256]

/-- What stands behind the checksum. -/
def behindV (p : SEGv) : List Int := [p.urg / 256 % 256, p.urg % 256] ++ (p.opts ++ p.data)

/-- The header that is not sent. -/
def pseuV (s d : Int) (p : SEGv) : List Int := pseudoV s d 6 (20 + (p.opts.length : Int) + p.data.length)

/-- The checksum. -/
def checkV (s d : Int) (p : SEGv) : Int := ofV (pseuV s d p ++ (aheadV p ++ behindV p))

/-- A segment as bytes. -/
def buildV (s d : Int) (p : SEGv) : List Int := aheadV p ++ ([checkV s d p / 256 % 256, checkV s d p % 256] ++ behindV p)

theorem ahead_ok {p : SEGv} (f : Fine p) (h : Fits p) : BytesOk (aheadV p) := by
  have := h.n40; have := h.f0; have := h.f1; have := f.s0; have := f.s1; have := f.a0; have := f.a1
  intro x hx
  simp only [aheadV, List.mem_cons, List.not_mem_nil, or_false] at hx
  omega

theorem behind_ok {p : SEGv} (f : Fine p) : BytesOk (behindV p) := by
  refine bytesOk_append ?_ (bytesOk_append f.o f.d)
  intro x hx
  simp only [List.mem_cons, List.not_mem_nil, or_false] at hx
  omega

theorem ahead_len (p : SEGv) : (aheadV p).length = 16 := rfl
theorem behind_len (p : SEGv) : (behindV p).length = 2 + p.opts.length + p.data.length := by
  unfold behindV; simp; omega
theorem build_len (s d : Int) (p : SEGv) : (buildV s d p).length = 20 + p.opts.length + p.data.length := by
  unfold buildV; rw [List.length_append, List.length_append, ahead_len, behind_len]; simp; omega
theorem pseu_len (s d : Int) (p : SEGv) : (pseuV s d p).length = 12 := rfl

theorem check_bd {p : SEGv} {s d : Int} (f : Fine p) (h : Fits p) (s0 : 0 ≤ s) (s1 : s ≤ 4294967295) (d0 : 0 ≤ d) (d1 : d ≤ 4294967295) : 0 ≤ checkV s d p ∧ checkV s d p ≤ 65535 :=
  ofV_bd (bytesOk_append (pseudoV_ok _ _ s0 s1 d0 d1) (bytesOk_append (ahead_ok f h) (behind_ok f)))

theorem build_ok {p : SEGv} {s d : Int} (f : Fine p) (h : Fits p) (s0 : 0 ≤ s) (s1 : s ≤ 4294967295) (d0 : 0 ≤ d) (d1 : d ≤ 4294967295) : BytesOk (buildV s d p) := by
  have := check_bd f h s0 s1 d0 d1
  refine bytesOk_append (ahead_ok f h) (bytesOk_append ?_ (behind_ok f))
  intro x hx
  simp only [List.mem_cons, List.not_mem_nil, or_false] at hx
  omega

/-- The sum, with the header that is not sent, is right. -/
theorem build_right {p : SEGv} {s d : Int} (f : Fine p) (h : Fits p) (s0 : 0 ≤ s) (s1 : s ≤ 4294967295) (d0 : 0 ≤ d) (d1 : d ≤ 4294967295) : ofV (pseuV s d p ++ buildV s d p) = 0 := by
  have hc := check_bd f h s0 s1 d0 d1
  have oP : BytesOk (pseuV s d p) := pseudoV_ok _ _ s0 s1 d0 d1
  have oA := ahead_ok f h
  have oB := behind_ok f
  have oc : BytesOk [checkV s d p / 256 % 256, checkV s d p % 256] := by
    intro x hx; simp only [List.mem_cons, List.not_mem_nil, or_false] at hx; omega
  unfold buildV
  rw [ofV_zero (bytesOk_append oP (bytesOk_append oA (bytesOk_append oc oB)))]
  have e1 : sumB true (pseuV s d p ++ (aheadV p ++ ([checkV s d p / 256 % 256, checkV s d p % 256] ++ behindV p))) = sumB true (pseuV s d p) + (sumB true (aheadV p) + (checkV s d p + sumB true (behindV p))) := by
    rw [sumB_append, pseu_len, par_even _ (by omega), sumB_append, ahead_len, par_even _ (by omega), sumB_append]
    have : sumB true [checkV s d p / 256 % 256, checkV s d p % 256] = checkV s d p := by simp [sumB]; omega
    rw [this, show par true [checkV s d p / 256 % 256, checkV s d p % 256].length = true from par_even _ (by simp)]
  have e2 : sumB true (pseuV s d p ++ (aheadV p ++ behindV p)) = sumB true (pseuV s d p) + (sumB true (aheadV p) + sumB true (behindV p)) := by
    rw [sumB_append, pseu_len, par_even _ (by omega), sumB_append, ahead_len, par_even _ (by omega)]
  have hP := (sumB_bd oP true).1
  have hA := (sumB_bd oA true).1
  have hB := (sumB_bd oB true).1
  have hck : checkV s d p = 65535 - foldV (sumB true (pseuV s d p) + (sumB true (aheadV p) + sumB true (behindV p))) := by rw [← e2]; rfl
  rw [e1, hck]
  unfold foldV
  split <;> omega

theorem build_form (s d : Int) (p : SEGv) : buildV s d p =
    (p.src / 256 % 256) :: (p.src % 256) :: (p.dst / 256 % 256) :: (p.dst % 256) :: (p.seq / 16777216) :: (p.seq / 65536 % 256) :: (p.seq / 256 % 256) :: (p.seq % 256) :: (p.ack / 16777216) :: (p.ack / 65536 % 256) :: (p.ack / 256 % 256) :: (p.ack % 256) ::
    ((20 + (p.opts.length : Int)) / 4 * 16) :: p.flags :: (p.win / 256 % 256) :: (p.win % 256) :: (checkV s d p / 256 % 256) :: (checkV s d p % 256) :: (p.urg / 256 % 256) :: (p.urg % 256) :: (p.opts ++ p.data) := by
  simp [buildV, aheadV, behindV]

/-- The bytes of a segment that is built. -/
structure Built (p : SEGv) (xs : List Int) : Prop where
  x0 : get16V xs 0 = p.src
  x2 : get16V xs 2 = p.dst
  x4 : accV xs 4 4 = p.seq
  x8 : accV xs 8 4 = p.ack
  x13 : byteV xs 13 = p.flags
  x14 : get16V xs 14 = p.win
  x18 : get16V xs 18 = p.urg
  hd : headV xs = 20 + (p.opts.length : Int)

theorem built {p : SEGv} (s d : Int) (f : Fine p) (h : Fits p) : Built p (buildV s d p) := by
  obtain ⟨s0, s1, d0, d1, w0, w1, u0, u1, f0, f1, n4, n40, all⟩ := h
  obtain ⟨q0, q1, a0, a1, ho, hdd⟩ := f
  have e : ∀ k : Nat, byteV (buildV s d p) (k : Int) = (buildV s d p)[k]?.getD 0 := fun k => byteV_nat _ k
  generalize hxs : buildV s d p = xs at e ⊢
  rw [build_form] at hxs
  have e0 := e 0; have e1 := e 1; have e2 := e 2; have e3 := e 3; have e4 := e 4; have e5 := e 5; have e6 := e 6; have e7 := e 7; have e8 := e 8; have e9 := e 9; have e10 := e 10; have e11 := e 11
  have e12 := e 12; have e13 := e 13; have e14 := e 14; have e15 := e 15; have e18 := e 18; have e19 := e 19
  clear e
  simp only [← hxs, List.getElem?_cons_zero, List.getElem?_cons_succ, Option.getD_some] at e0 e1 e2 e3 e4 e5 e6 e7 e8 e9 e10 e11 e12 e13 e14 e15 e18 e19
  rw [hxs] at e0 e1 e2 e3 e4 e5 e6 e7 e8 e9 e10 e11 e12 e13 e14 e15 e18 e19
  clear hxs
  have e0 : byteV xs 0 = _ := e0
  have e1 : byteV xs 1 = _ := e1
  have e2 : byteV xs 2 = _ := e2
  have e3 : byteV xs 3 = _ := e3
  have e4 : byteV xs 4 = _ := e4
  have e5 : byteV xs 5 = _ := e5
  have e6 : byteV xs 6 = _ := e6
  have e7 : byteV xs 7 = _ := e7
  have e8 : byteV xs 8 = _ := e8
  have e9 : byteV xs 9 = _ := e9
  have e10 : byteV xs 10 = _ := e10
  have e11 : byteV xs 11 = _ := e11
  have e12 : byteV xs 12 = _ := e12
  have e13 : byteV xs 13 = _ := e13
  have e14 : byteV xs 14 = _ := e14
  have e15 : byteV xs 15 = _ := e15
  have e18 : byteV xs 18 = _ := e18
  have e19 : byteV xs 19 = _ := e19
  refine ⟨?_, ?_, ?_, ?_, e13, ?_, ?_, ?_⟩
  · unfold get16V; rw [show (0 : Int) + 1 = 1 from rfl, e0, e1]; omega
  · unfold get16V; rw [show (2 : Int) + 1 = 3 from rfl, e2, e3]; omega
  · rw [accV_four, show (4 : Int) + 1 = 5 from rfl, show (4 : Int) + 2 = 6 from rfl, show (4 : Int) + 3 = 7 from rfl, e4, e5, e6, e7]; omega
  · rw [accV_four, show (8 : Int) + 1 = 9 from rfl, show (8 : Int) + 2 = 10 from rfl, show (8 : Int) + 3 = 11 from rfl, e8, e9, e10, e11]; omega
  · unfold get16V; rw [show (14 : Int) + 1 = 15 from rfl, e14, e15]; omega
  · unfold get16V; rw [show (18 : Int) + 1 = 19 from rfl, e18, e19]; omega
  · unfold headV; rw [e12]; omega

theorem build_looks {p : SEGv} (s d : Int) (f : Fine p) (h : Fits p) : Looks (buildV s d p) := by
  have hb := built s d f h
  have hl := build_len s d p
  exact ⟨by omega, by rw [hb.hd]; omega, by rw [hb.hd, hl]; omega⟩

theorem build_head (s d : Int) (p : SEGv) : buildV s d p = (aheadV p ++ [checkV s d p / 256 % 256, checkV s d p % 256, p.urg / 256 % 256, p.urg % 256]) ++ (p.opts ++ p.data) := by
  simp [buildV, behindV]

theorem drop_opts (s d : Int) (p : SEGv) : ((buildV s d p).take (20 + p.opts.length)).drop 20 = p.opts := by
  have e : buildV s d p = ((aheadV p ++ [checkV s d p / 256 % 256, checkV s d p % 256, p.urg / 256 % 256, p.urg % 256]) ++ p.opts) ++ p.data := by rw [build_head]; simp
  have l : ((aheadV p ++ [checkV s d p / 256 % 256, checkV s d p % 256, p.urg / 256 % 256, p.urg % 256]) ++ p.opts).length = 20 + p.opts.length := by
    rw [List.length_append, List.length_append, ahead_len]; simp
  rw [e, ← l, List.take_left]
  exact List.drop_left' (by rw [List.length_append, ahead_len]; rfl)

theorem drop_data (s d : Int) (p : SEGv) : (buildV s d p).drop (20 + p.opts.length) = p.data := by
  have e : buildV s d p = ((aheadV p ++ [checkV s d p / 256 % 256, checkV s d p % 256, p.urg / 256 % 256, p.urg % 256]) ++ p.opts) ++ p.data := by rw [build_head]; simp
  have l : ((aheadV p ++ [checkV s d p / 256 % 256, checkV s d p % 256, p.urg / 256 % 256, p.urg % 256]) ++ p.opts).length = 20 + p.opts.length := by
    rw [List.length_append, List.length_append, ahead_len]; simp
  rw [e, ← l]
  exact List.drop_left

theorem build_parse {p : SEGv} (s d : Int) (f : Fine p) (h : Fits p) : parseV (buildV s d p) = p := by
  have hb := built s d f h
  have h1 : (headV (buildV s d p)).toNat = 20 + p.opts.length := by rw [hb.hd]; omega
  have f0 := h.f0
  have f1 := h.f1
  unfold parseV
  rw [hb.x0, hb.x2, hb.x4, hb.x8, hb.x13, hb.x14, hb.x18, h1, drop_opts, drop_data, show p.flags % 64 = p.flags by omega]

theorem head_cut {p : SEGv} (s d : Int) (f : Fine p) (h : Fits p) (k : Nat) (h1 : 20 ≤ k) : headV ((buildV s d p).take k) = 20 + (p.opts.length : Int) := by
  have hb := built s d f h
  have y : byteV ((buildV s d p).take k) 12 = byteV (buildV s d p) 12 := byteV_take (buildV s d p) k 12 (by omega)
  rw [← hb.hd]
  unfold headV; rw [y]

/-- What is cut within its header is too short. -/
theorem cut_short {p : SEGv} (s d : Int) (f : Fine p) (h : Fits p) (k : Nat) (hk : k < 20 + p.opts.length) : lookV ((buildV s d p).take k) = 3 := by
  have hl := build_len s d p
  have lk : ((buildV s d p).take k).length = k := by rw [List.length_take, hl]; omega
  unfold lookV
  rw [lk]
  by_cases h1 : k < 20
  · rw [if_pos h1]
  rw [if_neg h1, head_cut s d f h k (by omega), if_pos (by omega)]

/-- What is cut behind that has shorter data. -/
theorem cut_long {p : SEGv} (s d : Int) (f : Fine p) (h : Fits p) (k : Nat) (hk : 20 + p.opts.length ≤ k) (hN : k ≤ 20 + p.opts.length + p.data.length) :
    lookV ((buildV s d p).take k) = 0 ∧ (parseV ((buildV s d p).take k)).data.length = k - (20 + p.opts.length) := by
  have hl := build_len s d p
  have lk : ((buildV s d p).take k).length = k := by rw [List.length_take, hl]; omega
  have hh := head_cut s d f h k (by omega)
  constructor
  · rw [looks_iff]; exact ⟨by omega, by omega, by omega⟩
  · unfold parseV; rw [hh, List.length_drop, lk]; omega

/-- What the document's own Build has ahead of the checksum. -/
def refX (p : SEGv) : List Int := aheadV p ++ ([0, 0] ++ behindV p)

structure RefForm (s d : Int) (p : SEGv) : Prop where
  sum : ofV (pseuV s d p ++ refX p) = checkV s d p
  len : (refX p).length = 20 + p.opts.length + p.data.length
  ok : BytesOk (refX p)
  put : ((refX p).set 16 (checkV s d p / 256 % 256)).set 17 (checkV s d p % 256) = buildV s d p

theorem ref_form {p : SEGv} (s d : Int) (f : Fine p) (h : Fits p) : RefForm s d p := by
  have oA := ahead_ok f h
  have oB := behind_ok f
  refine ⟨?_, ?_, ?_, ?_⟩
  · unfold checkV ofV refX
    rw [sumB_append, sumB_append, sumB_append, sumB_append, sumB_append]
    rw [pseu_len, ahead_len, par_even _ (by omega), par_even _ (by omega), par_even _ (by simp)]
    simp [sumB]
  · unfold refX; rw [List.length_append, List.length_append, ahead_len, behind_len]; simp; omega
  · refine bytesOk_append oA (bytesOk_append ?_ oB)
    intro x hx; simp only [List.mem_cons, List.not_mem_nil, or_false] at hx; omega
  · unfold refX buildV
    generalize checkV s d p / 256 % 256 = a
    generalize checkV s d p % 256 = b
    simp [aheadV]

/-! What a segment that is not wanted is answered. -/

/-- A flag. -/
def flagV (p : SEGv) (m : Int) : Bool := bits .and .i64 p.flags m != 0

/-- How many numbers of Seq it takes up. -/
def roomV (p : SEGv) : Int := ((p.data.length : Int) + (if flagV p 2 = true then 1 else 0) + (if flagV p 1 = true then 1 else 0)) % 4294967296

def resetV (p : SEGv) : SEGv :=
  if flagV p 4 = true then zeroSeg
  else if flagV p 16 = true then ⟨p.dst, p.src, p.ack, 0, 4, 0, 0, [], []⟩
  else ⟨p.dst, p.src, 0, (p.seq + roomV p) % 4294967296, 20, 0, 0, [], []⟩

theorem reset_opts (p : SEGv) : (resetV p).opts = [] := by
  unfold resetV
  split
  · rfl
  · split <;> rfl
theorem reset_data (p : SEGv) : (resetV p).data = [] := by
  unfold resetV
  split
  · rfl
  · split <;> rfl

end Go.Proofs.Ytkagkfbdpiblkaa.Tcp
