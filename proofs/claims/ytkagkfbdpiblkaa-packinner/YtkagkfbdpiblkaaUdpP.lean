/- Plain facts on datagrams (chapter 6): what their bytes say, which error they have; what is built is parsed as it was; what is cut. -/
import Derived.Test.YtkagkfbdpiblkaaPseudo
import Derived.Test.YtkagkfbdpiblkaaPart
namespace Go.Proofs.Ytkagkfbdpiblkaa.Udp
open Go.RowKit
set_option linter.unusedVariables false

/-- A datagram. -/
structure DATv where
  src : Int
  dst : Int
  data : List Int

/-- Which error bytes have (0: none). -/
def lookV (xs : List Int) : Int :=
  if xs.length < 8 then 3
  else if get16V xs 4 < 8 then 2
  else if (xs.length : Int) < get16V xs 4 then 3
  else 0

/-- The datagram of bytes that have no error. -/
def parseV (xs : List Int) : DATv := { src := get16V xs 0, dst := get16V xs 2, data := (xs.take (get16V xs 4).toNat).drop 8 }

def zeroDat : DATv := ⟨0, 0, []⟩

/-- What Parse answers. -/
def packV (xs : List Int) : DATv := if lookV xs = 0 then parseV xs else zeroDat

/-- Field by field. -/
def sameV (p q : DATv) : Bool := p.src == q.src && p.dst == q.dst && (strOfNums p.data).toList == (strOfNums q.data).toList

theorem sameV_self (p : DATv) : sameV p p = true := by simp [sameV]

/-- What bytes without an error are. -/
structure Looks (xs : List Int) : Prop where
  len : 8 ≤ xs.length
  head : 8 ≤ get16V xs 4
  room : get16V xs 4 ≤ xs.length

theorem looks_iff (xs : List Int) : lookV xs = 0 ↔ Looks xs := by
  unfold lookV
  constructor
  · intro h
    by_cases h1 : xs.length < 8
    · rw [if_pos h1] at h; omega
    rw [if_neg h1] at h
    by_cases h2 : get16V xs 4 < 8
    · rw [if_pos h2] at h; omega
    rw [if_neg h2] at h
    by_cases h3 : (xs.length : Int) < get16V xs 4
    · rw [if_pos h3] at h; omega
    exact ⟨by omega, by omega, by omega⟩
  · intro h
    have := h.len; have := h.head; have := h.room
    rw [if_neg (by omega), if_neg (by omega), if_neg (by omega)]

/-- The ways bytes may be looked at. -/
theorem look_cases (xs : List Int) :
    (xs.length < 8 ∧ lookV xs = 3) ∨ (8 ≤ xs.length ∧ get16V xs 4 < 8 ∧ lookV xs = 2) ∨ (8 ≤ xs.length ∧ 8 ≤ get16V xs 4 ∧ (xs.length : Int) < get16V xs 4 ∧ lookV xs = 3) ∨
    (8 ≤ xs.length ∧ 8 ≤ get16V xs 4 ∧ get16V xs 4 ≤ xs.length ∧ lookV xs = 0) := by
  unfold lookV
  by_cases h1 : xs.length < 8
  · rw [if_pos h1]; exact .inl ⟨h1, rfl⟩
  rw [if_neg h1]; refine .inr ?_
  by_cases h2 : get16V xs 4 < 8
  · rw [if_pos h2]; exact .inl ⟨by omega, h2, rfl⟩
  rw [if_neg h2]; refine .inr ?_
  by_cases h3 : (xs.length : Int) < get16V xs 4
  · rw [if_pos h3]; exact .inl ⟨by omega, by omega, h3, rfl⟩
  rw [if_neg h3]
  exact .inr ⟨by omega, by omega, by omega, rfl⟩

/-- May a datagram be built? -/
def isV (p : DATv) : Bool := decide (0 ≤ p.src ∧ p.src ≤ 65535 ∧ 0 ≤ p.dst ∧ p.dst ≤ 65535 ∧ p.data.length ≤ 65000)

/-- What may be built. -/
structure Fits (p : DATv) : Prop where
  s0 : 0 ≤ p.src
  s1 : p.src ≤ 65535
  d0 : 0 ≤ p.dst
  d1 : p.dst ≤ 65535
  all : p.data.length ≤ 65000

theorem isV_iff (p : DATv) : isV p = true ↔ Fits p := by
  unfold isV
  rw [decide_eq_true_eq]
  constructor
  · rintro ⟨h1, h2, h3, h4, h5⟩
    exact ⟨h1, h2, h3, h4, h5⟩
  · intro h
    exact ⟨h.s0, h.s1, h.d0, h.d1, h.all⟩

/-- The header's first six bytes. -/
def aheadV (p : DATv) : List Int :=
  [p.src / 256 % 256, p.src % 256, p.dst / 256 % 256, p.dst % 256, (8 + (p.data.length : Int)) / 256 % 256, (8 + (p.data.length : Int)) % 256]

/-- The header that is not sent. -/
def pseuV (s d : Int) (p : DATv) : List Int := pseudoV s d 17 (8 + (p.data.length : Int))

/-- The checksum. -/
def sumV (s d : Int) (p : DATv) : Int := ofV (pseuV s d p ++ (aheadV p ++ p.data))

/-- The checksum as it stands: 65535 instead of 0. -/
def sentV (n : Int) : Int := if n = 0 then 65535 else n

def checkV (s d : Int) (p : DATv) : Int := sentV (sumV s d p)

/-- A datagram as bytes. -/
def buildV (s d : Int) (p : DATv) : List Int := aheadV p ++ ([checkV s d p / 256 % 256, checkV s d p % 256] ++ p.data)

theorem ahead_ok (p : DATv) : BytesOk (aheadV p) := by
  intro x hx
  simp only [aheadV, List.mem_cons, List.not_mem_nil, or_false] at hx
  omega

theorem ahead_len (p : DATv) : (aheadV p).length = 6 := rfl
theorem build_len (s d : Int) (p : DATv) : (buildV s d p).length = 8 + p.data.length := by
  unfold buildV; rw [List.length_append, List.length_append, ahead_len]; simp; omega
theorem pseu_len (s d : Int) (p : DATv) : (pseuV s d p).length = 12 := rfl

theorem sum_bd {p : DATv} {s d : Int} (f : BytesOk p.data) (s0 : 0 ≤ s) (s1 : s ≤ 4294967295) (d0 : 0 ≤ d) (d1 : d ≤ 4294967295) : 0 ≤ sumV s d p ∧ sumV s d p ≤ 65535 :=
  ofV_bd (bytesOk_append (pseudoV_ok _ _ s0 s1 d0 d1) (bytesOk_append (ahead_ok p) f))

theorem sent_bd {n : Int} (h : 0 ≤ n ∧ n ≤ 65535) : 1 ≤ sentV n ∧ sentV n ≤ 65535 := by
  unfold sentV; split <;> omega

theorem check_bd {p : DATv} {s d : Int} (f : BytesOk p.data) (s0 : 0 ≤ s) (s1 : s ≤ 4294967295) (d0 : 0 ≤ d) (d1 : d ≤ 4294967295) : 1 ≤ checkV s d p ∧ checkV s d p ≤ 65535 :=
  sent_bd (sum_bd f s0 s1 d0 d1)

theorem two_ok (n : Int) : BytesOk [n / 256 % 256, n % 256] := by
  intro x hx
  simp only [List.mem_cons, List.not_mem_nil, or_false] at hx
  omega

theorem build_ok {p : DATv} (s d : Int) (f : BytesOk p.data) : BytesOk (buildV s d p) :=
  bytesOk_append (ahead_ok p) (bytesOk_append (two_ok _) f)

/-- The sum, with the header that is not sent, is right. -/
theorem build_right {p : DATv} {s d : Int} (f : BytesOk p.data) (s0 : 0 ≤ s) (s1 : s ≤ 4294967295) (d0 : 0 ≤ d) (d1 : d ≤ 4294967295) : ofV (pseuV s d p ++ buildV s d p) = 0 := by
  have hc := check_bd f s0 s1 d0 d1
  have oP : BytesOk (pseuV s d p) := pseudoV_ok _ _ s0 s1 d0 d1
  have oA := ahead_ok p
  unfold buildV
  rw [ofV_zero (bytesOk_append oP (bytesOk_append oA (bytesOk_append (two_ok _) f)))]
  have e1 : sumB true (pseuV s d p ++ (aheadV p ++ ([checkV s d p / 256 % 256, checkV s d p % 256] ++ p.data))) = sumB true (pseuV s d p) + (sumB true (aheadV p) + (checkV s d p + sumB true p.data)) := by
    rw [sumB_append, pseu_len, par_even _ (by omega), sumB_append, ahead_len, par_even _ (by omega), sumB_append]
    have : sumB true [checkV s d p / 256 % 256, checkV s d p % 256] = checkV s d p := by simp [sumB]; omega
    rw [this, show par true [checkV s d p / 256 % 256, checkV s d p % 256].length = true from par_even _ (by simp)]
  have e2 : sumB true (pseuV s d p ++ (aheadV p ++ p.data)) = sumB true (pseuV s d p) + (sumB true (aheadV p) + sumB true p.data) := by
    rw [sumB_append, pseu_len, par_even _ (by omega), sumB_append, ahead_len, par_even _ (by omega)]
  have hP := (sumB_bd oP true).1
  have hA := (sumB_bd oA true).1
  have hB := (sumB_bd f true).1
  have hck : sumV s d p = 65535 - foldV (sumB true (pseuV s d p) + (sumB true (aheadV p) + sumB true p.data)) := by rw [← e2]; rfl
  rw [e1]
  unfold checkV sentV at hc ⊢
  rw [hck] at hc ⊢
  unfold foldV at hc ⊢
  split at hc <;> split <;> (try split at hc) <;> (try split) <;> omega

theorem build_form (s d : Int) (p : DATv) : buildV s d p =
    (p.src / 256 % 256) :: (p.src % 256) :: (p.dst / 256 % 256) :: (p.dst % 256) :: ((8 + (p.data.length : Int)) / 256 % 256) :: ((8 + (p.data.length : Int)) % 256) :: (checkV s d p / 256 % 256) :: (checkV s d p % 256) :: p.data := by
  simp [buildV, aheadV]

/-- The bytes of a datagram that is built, whatever stands behind. -/
structure Built (p : DATv) (xs : List Int) : Prop where
  x0 : get16V xs 0 = p.src
  x2 : get16V xs 2 = p.dst
  x4 : get16V xs 4 = 8 + (p.data.length : Int)

theorem built {p : DATv} (s d : Int) (h : Fits p) (more : List Int) : Built p (buildV s d p ++ more) := by
  obtain ⟨s0, s1, d0, d1, all⟩ := h
  have e : ∀ k : Nat, byteV (buildV s d p ++ more) (k : Int) = (buildV s d p ++ more)[k]?.getD 0 := fun k => byteV_nat _ k
  generalize hxs : buildV s d p ++ more = xs at e ⊢
  rw [build_form] at hxs
  simp only [List.cons_append] at hxs
  have e0 := e 0; have e1 := e 1; have e2 := e 2; have e3 := e 3; have e4 := e 4; have e5 := e 5
  clear e
  simp only [← hxs, List.getElem?_cons_zero, List.getElem?_cons_succ, Option.getD_some] at e0 e1 e2 e3 e4 e5
  rw [hxs] at e0 e1 e2 e3 e4 e5
  clear hxs
  have e0 : byteV xs 0 = _ := e0
  have e1 : byteV xs 1 = _ := e1
  have e2 : byteV xs 2 = _ := e2
  have e3 : byteV xs 3 = _ := e3
  have e4 : byteV xs 4 = _ := e4
  have e5 : byteV xs 5 = _ := e5
  refine ⟨?_, ?_, ?_⟩
  · unfold get16V; rw [show (0 : Int) + 1 = 1 from rfl, e0, e1]; omega
  · unfold get16V; rw [show (2 : Int) + 1 = 3 from rfl, e2, e3]; omega
  · unfold get16V; rw [show (4 : Int) + 1 = 5 from rfl, e4, e5]; omega

theorem build_looks {p : DATv} (s d : Int) (h : Fits p) (more : List Int) : Looks (buildV s d p ++ more) := by
  have hb := built s d h more
  have hl := build_len s d p
  have hm : (buildV s d p ++ more).length = 8 + p.data.length + more.length := by rw [List.length_append, hl]
  exact ⟨by omega, by rw [hb.x4]; omega, by rw [hb.x4, hm]; omega⟩

theorem build_head (s d : Int) (p : DATv) : buildV s d p = (aheadV p ++ [checkV s d p / 256 % 256, checkV s d p % 256]) ++ p.data := by
  simp [buildV]

theorem drop_data (s d : Int) (p : DATv) (more : List Int) : ((buildV s d p ++ more).take (8 + p.data.length)).drop 8 = p.data := by
  rw [← build_len s d p, List.take_left, build_head]
  exact List.drop_left' (by rw [List.length_append, ahead_len]; rfl)

theorem build_parse {p : DATv} (s d : Int) (h : Fits p) (more : List Int) : parseV (buildV s d p ++ more) = p := by
  have hb := built s d h more
  have h1 : (get16V (buildV s d p ++ more) 4).toNat = 8 + p.data.length := by rw [hb.x4]; omega
  unfold parseV
  rw [hb.x0, hb.x2, h1, drop_data]

/-- What is cut is too short. -/
theorem cut_short {p : DATv} (s d : Int) (h : Fits p) (k : Nat) (hk : k < 8 + p.data.length) : lookV ((buildV s d p).take k) = 3 := by
  have hl := build_len s d p
  have lk : ((buildV s d p).take k).length = k := by rw [List.length_take, hl]; omega
  unfold lookV
  rw [lk]
  by_cases h1 : k < 8
  · rw [if_pos h1]
  have hb := built s d h []
  rw [List.append_nil] at hb
  have e : get16V ((buildV s d p).take k) 4 = 8 + (p.data.length : Int) := by
    rw [← hb.x4]; exact get16V_take (buildV s d p) k 4 (by omega)
  rw [if_neg h1, e, if_neg (by omega), if_pos (by omega)]

/-- Bytes 6 and 7 are not both 0. -/
theorem build_sum {p : DATv} {s d : Int} (f : BytesOk p.data) (s0 : 0 ≤ s) (s1 : s ≤ 4294967295) (d0 : 0 ≤ d) (d1 : d ≤ 4294967295) :
    ∃ x y, (buildV s d p)[6]?.getD 0 = x ∧ (buildV s d p)[7]?.getD 0 = y ∧ (x ≠ 0 ∨ y ≠ 0) := by
  have hc := check_bd f s0 s1 d0 d1
  refine ⟨checkV s d p / 256 % 256, checkV s d p % 256, ?_, ?_, by omega⟩
  · rw [build_form]; rfl
  · rw [build_form]; rfl

/-- What the document's own Build has ahead of the checksum. -/
def refX (p : DATv) : List Int := aheadV p ++ ([0, 0] ++ p.data)

structure RefForm (s d : Int) (p : DATv) : Prop where
  sum : ofV (pseuV s d p ++ refX p) = sumV s d p
  len : (refX p).length = 8 + p.data.length
  ok : BytesOk (refX p)
  put : ((refX p).set 6 (checkV s d p / 256 % 256)).set 7 (checkV s d p % 256) = buildV s d p

theorem ref_form {p : DATv} (s d : Int) (f : BytesOk p.data) : RefForm s d p := by
  have oA := ahead_ok p
  refine ⟨?_, ?_, ?_, ?_⟩
  · unfold sumV ofV refX
    rw [sumB_append, sumB_append, sumB_append, sumB_append, sumB_append]
    rw [pseu_len, ahead_len, par_even _ (by omega), par_even _ (by omega), par_even _ (by simp)]
    simp [sumB]
  · unfold refX; rw [List.length_append, List.length_append, ahead_len]; simp; omega
  · refine bytesOk_append oA (bytesOk_append ?_ f)
    intro x hx; simp only [List.mem_cons, List.not_mem_nil, or_false] at hx; omega
  · unfold refX buildV
    generalize checkV s d p / 256 % 256 = a
    generalize checkV s d p % 256 = b
    simp [aheadV]

end Go.Proofs.Ytkagkfbdpiblkaa.Udp
