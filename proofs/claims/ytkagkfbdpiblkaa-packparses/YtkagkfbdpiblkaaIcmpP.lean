/- Plain facts on messages (chapter 7): what their bytes say, which error they have; what is built is parsed as it was; a byte that is spoilt; kinds; what is quoted. -/
import Derived.Test.YtkagkfbdpiblkaaPart
import Derived.Test.YtkagkfbdpiblkaaIpP
namespace Go.Proofs.Ytkagkfbdpiblkaa.Icmp
open Go.RowKit
set_option linter.unusedVariables false

/-- A message. -/
structure MSGv where
  type : Int
  code : Int
  rest : Int
  data : List Int

/-- Which error bytes have (0: none). -/
def lookV (xs : List Int) : Int := if xs.length < 8 then 3 else if ofV xs = 0 then 0 else 4

/-- The message of bytes that have no error. -/
def parseV (xs : List Int) : MSGv := { type := byteV xs 0, code := byteV xs 1, rest := accV xs 4 4, data := xs.drop 8 }

def zeroMsg : MSGv := ⟨0, 0, 0, []⟩

/-- What Parse answers. -/
def packV (xs : List Int) : MSGv := if lookV xs = 0 then parseV xs else zeroMsg

/-- Field by field. -/
def sameV (p q : MSGv) : Bool := p.type == q.type && p.code == q.code && p.rest == q.rest && (strOfNums p.data).toList == (strOfNums q.data).toList

theorem sameV_self (p : MSGv) : sameV p p = true := by simp [sameV]

/-- What bytes without an error are. -/
structure Looks (xs : List Int) : Prop where
  len : 8 ≤ xs.length
  right : ofV xs = 0

theorem looks_iff (xs : List Int) : lookV xs = 0 ↔ Looks xs := by
  unfold lookV
  constructor
  · intro h
    by_cases h1 : xs.length < 8
    · rw [if_pos h1] at h; omega
    rw [if_neg h1] at h
    by_cases h2 : ofV xs = 0
    · exact ⟨by omega, h2⟩
    · rw [if_neg h2] at h; omega
  · intro h
    have := h.len
    rw [if_neg (by omega), if_pos h.right]

/-- The ways bytes may be looked at. -/
theorem look_cases (xs : List Int) : (xs.length < 8 ∧ lookV xs = 3) ∨ (8 ≤ xs.length ∧ ofV xs ≠ 0 ∧ lookV xs = 4) ∨ (8 ≤ xs.length ∧ ofV xs = 0 ∧ lookV xs = 0) := by
  unfold lookV
  by_cases h1 : xs.length < 8
  · rw [if_pos h1]; exact .inl ⟨h1, rfl⟩
  rw [if_neg h1]; refine .inr ?_
  by_cases h2 : ofV xs = 0
  · rw [if_pos h2]; exact .inr ⟨by omega, h2, rfl⟩
  · rw [if_neg h2]; exact .inl ⟨by omega, h2, rfl⟩

/-- May a message be built? -/
def isV (p : MSGv) : Bool := decide (0 ≤ p.type ∧ p.type ≤ 255 ∧ 0 ≤ p.code ∧ p.code ≤ 255 ∧ p.data.length ≤ 65000)

/-- What may be built. -/
structure Fits (p : MSGv) : Prop where
  t0 : 0 ≤ p.type
  t1 : p.type ≤ 255
  c0 : 0 ≤ p.code
  c1 : p.code ≤ 255
  all : p.data.length ≤ 65000

theorem isV_iff (p : MSGv) : isV p = true ↔ Fits p := by
  unfold isV
  rw [decide_eq_true_eq]
  constructor
  · rintro ⟨h1, h2, h3, h4, h5⟩
    exact ⟨h1, h2, h3, h4, h5⟩
  · intro h
    exact ⟨h.t0, h.t1, h.c0, h.c1, h.all⟩

/-- Four bytes of a number. -/
def restV (n : Int) : List Int := [n / 16777216, n / 65536 % 256, n / 256 % 256, n % 256]

theorem rest_ok {n : Int} (n0 : 0 ≤ n) (n1 : n ≤ 4294967295) : BytesOk (restV n) := by intro x hx; simp [restV] at hx; omega

/-- What is summed up. -/
def sumX (p : MSGv) : List Int := [p.type, p.code] ++ (restV p.rest ++ p.data)

/-- The checksum. -/
def checkV (p : MSGv) : Int := ofV (sumX p)

/-- A message as bytes. -/
def buildV (p : MSGv) : List Int := [p.type, p.code] ++ ([checkV p / 256 % 256, checkV p % 256] ++ (restV p.rest ++ p.data))

/-- A message whose cells are what they may be. -/
structure Fine (p : MSGv) : Prop where
  r0 : 0 ≤ p.rest
  r1 : p.rest ≤ 4294967295
  ok : BytesOk p.data

theorem two_ok {a b : Int} (h1 : 0 ≤ a) (h2 : a ≤ 255) (h3 : 0 ≤ b) (h4 : b ≤ 255) : BytesOk [a, b] := by
  intro x hx
  simp only [List.mem_cons, List.not_mem_nil, or_false] at hx
  omega

theorem sumX_ok {p : MSGv} (f : Fine p) (h : Fits p) : BytesOk (sumX p) :=
  bytesOk_append (two_ok h.t0 h.t1 h.c0 h.c1) (bytesOk_append (rest_ok f.r0 f.r1) f.ok)

theorem sumX_len (p : MSGv) : (sumX p).length = 6 + p.data.length := by
  unfold sumX restV; simp; omega

theorem build_len (p : MSGv) : (buildV p).length = 8 + p.data.length := by
  unfold buildV restV; simp; omega

theorem check_bd {p : MSGv} (f : Fine p) (h : Fits p) : 0 ≤ checkV p ∧ checkV p ≤ 65535 := ofV_bd (sumX_ok f h)

theorem build_ok {p : MSGv} (f : Fine p) (h : Fits p) : BytesOk (buildV p) :=
  bytesOk_append (two_ok h.t0 h.t1 h.c0 h.c1) (bytesOk_append (two_ok (by omega) (by omega) (by omega) (by omega)) (bytesOk_append (rest_ok f.r0 f.r1) f.ok))

/-- The sum is right. -/
theorem build_right {p : MSGv} (f : Fine p) (h : Fits p) : ofV (buildV p) = 0 := by
  have hc := check_bd f h
  have o1 := two_ok h.t0 h.t1 h.c0 h.c1
  have o2 := bytesOk_append (rest_ok f.r0 f.r1) f.ok
  rw [ofV_zero (build_ok f h)]
  have e1 : sumB true (buildV p) = sumB true [p.type, p.code] + (checkV p + sumB true (restV p.rest ++ p.data)) := by
    unfold buildV
    rw [sumB_append, show par true [p.type, p.code].length = true from par_even _ (by simp), sumB_append]
    have : sumB true [checkV p / 256 % 256, checkV p % 256] = checkV p := by simp [sumB]; omega
    rw [this, show par true [checkV p / 256 % 256, checkV p % 256].length = true from par_even _ (by simp)]
  have e2 : sumB true (sumX p) = sumB true [p.type, p.code] + sumB true (restV p.rest ++ p.data) := by
    unfold sumX
    rw [sumB_append, show par true [p.type, p.code].length = true from par_even _ (by simp)]
  have hA := (sumB_bd o1 true).1
  have hB := (sumB_bd o2 true).1
  have hck : checkV p = 65535 - foldV (sumB true [p.type, p.code] + sumB true (restV p.rest ++ p.data)) := by rw [← e2]; rfl
  rw [e1]
  rw [hck] at hc ⊢
  unfold foldV at hc ⊢
  split at hc <;> split <;> omega

theorem build_form (p : MSGv) : buildV p = p.type :: p.code :: (checkV p / 256 % 256) :: (checkV p % 256) :: (p.rest / 16777216) :: (p.rest / 65536 % 256) :: (p.rest / 256 % 256) :: (p.rest % 256) :: p.data := by
  simp [buildV, restV]

theorem build_looks {p : MSGv} (f : Fine p) (h : Fits p) : Looks (buildV p) := ⟨by rw [build_len]; omega, build_right f h⟩

theorem build_parse {p : MSGv} (f : Fine p) : parseV (buildV p) = p := by
  have e : ∀ k : Nat, byteV (buildV p) (k : Int) = (buildV p)[k]?.getD 0 := fun k => byteV_nat _ k
  have e0 : byteV (buildV p) 0 = p.type := by have := e 0; rw [build_form] at this ⊢; exact this
  have e1 : byteV (buildV p) 1 = p.code := by have := e 1; rw [build_form] at this ⊢; exact this
  have e4 : byteV (buildV p) 4 = p.rest / 16777216 := by have := e 4; rw [build_form] at this ⊢; exact this
  have e5 : byteV (buildV p) 5 = p.rest / 65536 % 256 := by have := e 5; rw [build_form] at this ⊢; exact this
  have e6 : byteV (buildV p) 6 = p.rest / 256 % 256 := by have := e 6; rw [build_form] at this ⊢; exact this
  have e7 : byteV (buildV p) 7 = p.rest % 256 := by have := e 7; rw [build_form] at this ⊢; exact this
  have ea : accV (buildV p) 4 4 = p.rest := by
    have r0 := f.r0; have r1 := f.r1
    rw [accV_four, show (4 : Int) + 1 = 5 from rfl, show (4 : Int) + 2 = 6 from rfl, show (4 : Int) + 3 = 7 from rfl, e4, e5, e6, e7]
    omega
  have ed : (buildV p).drop 8 = p.data := by rw [build_form]; rfl
  unfold parseV
  rw [e0, e1, ea, ed]

/-- With a byte that is spoilt the sum is not right. -/
theorem spoilt {ys : List Int} (ok : BytesOk ys) (h : ofV ys = 0) (k : Nat) (hk : k < ys.length) (v : Int) (v0 : 0 ≤ v) (v1 : v ≤ 255) (hv : v ≠ ys[k]?.getD 0) : ofV (ys.set k v) ≠ 0 := by
  intro h0
  rw [ofV_zero ok] at h
  rw [ofV_zero (ok.set k v0 v1), sumB_set _ _ _ _ hk] at h0
  have ob := ok.get k
  generalize ys[k]?.getD 0 = o at *
  split at h0 <;> omega

theorem xor_ne (a b : Int) (h1 : 0 ≤ a) (h2 : a ≤ 255) (h3 : 0 ≤ b) (h4 : b ≤ 255) (hb : b ≠ 0) : bits .xor .u8 a b ≠ a := by
  rw [u8_xor a b h1 (by omega) h3 (by omega)]
  intro h
  have h' : a.toNat ^^^ b.toNat = a.toNat := by omega
  have h5 : a.toNat ^^^ (a.toNat ^^^ b.toNat) = a.toNat ^^^ a.toNat := by rw [h']
  rw [← Nat.xor_assoc, Nat.xor_self, Nat.zero_xor] at h5
  omega

/-- What the document's own Build has ahead of the checksum. -/
def refX (p : MSGv) : List Int := ([p.type, p.code, 0, 0] ++ restV p.rest) ++ p.data

structure RefForm (p : MSGv) : Prop where
  sum : ofV (refX p) = checkV p
  len : (refX p).length = 8 + p.data.length
  ok : BytesOk (refX p)
  put : ((refX p).set 2 (checkV p / 256 % 256)).set 3 (checkV p % 256) = buildV p

theorem ref_form {p : MSGv} (f : Fine p) (h : Fits p) : RefForm p := by
  refine ⟨?_, ?_, ?_, ?_⟩
  · have e : refX p = [p.type, p.code] ++ ([0, 0] ++ (restV p.rest ++ p.data)) := by simp [refX]
    rw [e]
    unfold checkV ofV sumX
    generalize restV p.rest ++ p.data = R
    rw [sumB_append, sumB_append, sumB_append]
    rw [show par true [p.type, p.code].length = true from par_even _ (by simp), show par true [(0 : Int), 0].length = true from par_even _ (by simp)]
    simp [sumB]
  · unfold refX restV; simp; omega
  · refine bytesOk_append (bytesOk_append ?_ (rest_ok f.r0 f.r1)) f.ok
    obtain ⟨t0, t1, c0, c1, _⟩ := h
    intro x hx; simp only [List.mem_cons, List.not_mem_nil, or_false] at hx; omega
  · rw [build_form]
    unfold refX restV
    generalize checkV p / 256 % 256 = a
    generalize checkV p % 256 = b
    simp

/-- Is a type an error's? -/
def badV (t : Int) : Bool := decide (t = 3 ∨ t = 4 ∨ t = 5 ∨ t = 11 ∨ t = 12)

/-- Is a type a question's or an answer's? -/
def queryV (t : Int) : Bool := decide (t = 0 ∨ t = 8 ∨ t = 13 ∨ t = 14)

/-- How many bytes are quoted. -/
def quoteN (xs : List Int) : Nat := min (headV xs + 8).toNat xs.length

/-- What is quoted. -/
def quoteV (xs : List Int) : List Int := xs.take (quoteN xs)

theorem quote_len (xs : List Int) : (quoteV xs).length = quoteN xs := by
  unfold quoteV; rw [List.length_take]; unfold quoteN; omega

end Go.Proofs.Ytkagkfbdpiblkaa.Icmp
