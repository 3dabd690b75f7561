/- Plain facts on what of a packet is looked at (chapter 8): classes, flows, what an error is about; what is built is looked at as it was. -/
import Derived.Test.YtkagkfbdpiblkaaIpM
import Derived.Test.YtkagkfbdpiblkaaTcpP
import Derived.Test.YtkagkfbdpiblkaaUdpP
import Derived.Test.YtkagkfbdpiblkaaIcmpP
namespace Go.Proofs.Ytkagkfbdpiblkaa.Pack
open Go.RowKit
set_option linter.unusedVariables false

/-- A flow. -/
structure KEYv where
  proto : Int
  src : Int
  dst : Int
  a : Int
  b : Int

/-- What of a packet is looked at. -/
structure PKTv where
  ip : IPv
  cls : Int
  src : Int
  dst : Int
  flags : Int
  type : Int
  code : Int
  inner : Option KEYv

/-- Two flows, field by field. -/
def keySame (p q : KEYv) : Bool := p.proto == q.proto && (p.src == q.src && (p.dst == q.dst && (p.a == q.a && p.b == q.b)))

theorem keySame_self (p : KEYv) : keySame p p = true := by simp [keySame]

/-- Both none, or one. -/
def innerSame : Option KEYv → Option KEYv → Bool
  | none, none => true
  | some p, some q => keySame p q
  | _, _ => false

theorem innerSame_self (p : Option KEYv) : innerSame p p = true := by
  cases p with
  | none => rfl
  | some p => exact keySame_self p

/-- The six numbers of two, field by field. -/
def numsSame (p q : PKTv) : Bool := p.cls == q.cls && (p.src == q.src && (p.dst == q.dst && (p.flags == q.flags && (p.type == q.type && p.code == q.code))))

/-- Field by field. -/
def sameP (p q : PKTv) : Bool := sameV p.ip q.ip && (numsSame p q && innerSame p.inner q.inner)

theorem sameP_self (p : PKTv) : sameP p p = true := by
  unfold sameP; rw [sameV_self, innerSame_self]; simp [numsSame]

/-- Which part of a packet it is. -/
def classV (p : IPv) : Int := if p.off ≠ 0 then 2 else if p.mf = true then 1 else 0

theorem class_cases (p : IPv) : (p.off ≠ 0 ∧ classV p = 2) ∨ (p.off = 0 ∧ p.mf = true ∧ classV p = 1) ∨ (p.off = 0 ∧ p.mf = false ∧ classV p = 0) := by
  unfold classV
  by_cases h : p.off ≠ 0
  · rw [if_pos h]; exact .inl ⟨h, rfl⟩
  · rw [if_neg h]
    cases hm : p.mf with
    | true => exact .inr (.inl ⟨by omega, rfl, by simp⟩)
    | false => exact .inr (.inr ⟨by omega, rfl, by simp⟩)

/-- Do bytes tell what an error is about? -/
def isQuoteV (ys : List Int) : Bool := decide (20 ≤ headV ys ∧ headV ys + 8 ≤ (ys.length : Int) ∧ byteV ys 0 / 16 = 4 ∧ get16V ys 6 % 8192 = 0)

/-- The first number of a flow that is quoted. -/
def aboutA (ys : List Int) : Int :=
  if byteV ys 9 = 6 ∨ byteV ys 9 = 17 then get16V ys (headV ys)
  else if byteV ys 9 = 1 ∧ Icmp.queryV (byteV ys (headV ys)) = true then get16V ys (headV ys + 4) else 0

/-- The second. -/
def aboutB (ys : List Int) : Int :=
  if byteV ys 9 = 6 ∨ byteV ys 9 = 17 then get16V ys (headV ys + 2)
  else if byteV ys 9 = 1 ∧ Icmp.queryV (byteV ys (headV ys)) = true then get16V ys (headV ys + 4) else 0

/-- The flow that is quoted. -/
def quotedV (ys : List Int) : KEYv := ⟨byteV ys 9, accV ys 12 4, accV ys 16 4, aboutA ys, aboutB ys⟩

/-- What an error is about. -/
def aboutV (ys : List Int) : Option KEYv := if isQuoteV ys = true then some (quotedV ys) else none

/-- Is a header of eight bytes there? -/
def shortV (ys : List Int) : Int := if ys.length < 8 then 3 else 0

/-- Which error a datagram or a message has, by its part. -/
def partV (c e : Int) (ys : List Int) : Int := if c = 1 then shortV ys else e

/-- Which error has what is in a packet. -/
def lookP (p : IPv) : Int :=
  if classV p = 2 then 0
  else if p.proto = 6 then Tcp.lookV p.data
  else if p.proto = 17 then partV (classV p) (Udp.lookV p.data) p.data
  else if p.proto = 1 then partV (classV p) (Icmp.lookV p.data) p.data
  else 0

/-- A message's number, if it is a query's. -/
def numberV (ys : List Int) : Int := if Icmp.queryV (byteV ys 0) = true then get16V ys 4 else 0

/-- What a message is about, if it is an error. -/
def innerV (ys : List Int) : Option KEYv := if Icmp.badV (byteV ys 0) = true then aboutV (ys.drop 8) else none

/-- A packet of which no more is looked at. -/
def bareP (p : IPv) : PKTv := ⟨p, classV p, 0, 0, 0, 0, 0, none⟩
def segP (p : IPv) : PKTv := ⟨p, classV p, (Tcp.parseV p.data).src, (Tcp.parseV p.data).dst, (Tcp.parseV p.data).flags, 0, 0, none⟩
def datP (p : IPv) : PKTv := ⟨p, classV p, get16V p.data 0, get16V p.data 2, 0, 0, 0, none⟩
def msgP (p : IPv) : PKTv := ⟨p, classV p, numberV p.data, numberV p.data, 0, byteV p.data 0, byteV p.data 1, innerV p.data⟩

/-- A packet, and what of it is looked at. -/
def fullP (p : IPv) : PKTv :=
  if classV p = 2 then bareP p else if p.proto = 6 then segP p else if p.proto = 17 then datP p else if p.proto = 1 then msgP p else bareP p

theorem full_ip (p : IPv) : (fullP p).ip = p := by
  unfold fullP
  split
  · rfl
  · split
    · rfl
    · split
      · rfl
      · split <;> rfl

def zeroPkt : PKTv := ⟨zeroIP, 0, 0, 0, 0, 0, 0, none⟩

/-- Which error bytes have (0: none). -/
def lookX (xs : List Int) : Int := if lookV xs = 0 then lookP (parseV xs) else lookV xs

/-- What Parse answers. -/
def packX (xs : List Int) : PKTv := if lookX xs = 0 then fullP (parseV xs) else zeroPkt

/-- A packet's flow. -/
def keyOf (p : PKTv) : KEYv := ⟨p.ip.proto, p.ip.src, p.ip.dst, p.src, p.dst⟩

/-- The other way round. -/
def turnV (k : KEYv) : KEYv := ⟨k.proto, k.dst, k.src, k.b, k.a⟩

theorem turn_turn (k : KEYv) : turnV (turnV k) = k := rfl

theorem byteV_drop (xs : List Int) (k i : Nat) : byteV (xs.drop k) (i : Int) = byteV xs ((k + i : Nat) : Int) := by
  rw [byteV_nat, byteV_nat, List.getElem?_drop]

theorem get16V_drop (xs : List Int) (k i : Nat) : get16V (xs.drop k) (i : Int) = get16V xs ((k + i : Nat) : Int) := by
  unfold get16V
  have e := byteV_drop xs k (i + 1)
  rw [byteV_drop, show ((i : Int) + 1) = ((i + 1 : Nat) : Int) by omega, e, show ((k + (i + 1) : Nat) : Int) = ((k + i : Nat) : Int) + 1 by omega]

theorem accV_take (xs : List Int) (k i : Nat) (h : i + 3 < k) : accV (xs.take k) (i : Int) 4 = accV xs (i : Int) 4 := by
  have h0 := byteV_take xs k i (by omega)
  have h1 := byteV_take xs k (i + 1) (by omega)
  have h2 := byteV_take xs k (i + 2) (by omega)
  have h3 := byteV_take xs k (i + 3) (by omega)
  rw [accV_four, accV_four, show (i : Int) + 1 = ((i + 1 : Nat) : Int) by omega, show (i : Int) + 2 = ((i + 2 : Nat) : Int) by omega, show (i : Int) + 3 = ((i + 3 : Nat) : Int) by omega, h0, h1, h2, h3]

theorem byteV_set (xs : List Int) (k i : Nat) (v : Int) (h : k ≠ i) : byteV (xs.set k v) (i : Int) = byteV xs (i : Int) := by
  rw [byteV_nat, byteV_nat, List.getElem?_set_ne h]

theorem get16V_set (xs : List Int) (k i : Nat) (v : Int) (h : k ≠ i) (h1 : k ≠ i + 1) : get16V (xs.set k v) (i : Int) = get16V xs (i : Int) := by
  unfold get16V
  rw [byteV_set _ _ _ _ h, show (i : Int) + 1 = ((i + 1 : Nat) : Int) by omega, byteV_set _ _ _ _ h1]

theorem accV_set (xs : List Int) (k i : Nat) (v : Int) (h : k < i) : accV (xs.set k v) (i : Int) 4 = accV xs (i : Int) 4 := by
  have h0 := byteV_set xs k i v (by omega)
  have h1 := byteV_set xs k (i + 1) v (by omega)
  have h2 := byteV_set xs k (i + 2) v (by omega)
  have h3 := byteV_set xs k (i + 3) v (by omega)
  rw [accV_four, accV_four, show (i : Int) + 1 = ((i + 1 : Nat) : Int) by omega, show (i : Int) + 2 = ((i + 2 : Nat) : Int) by omega, show (i : Int) + 3 = ((i + 3 : Nat) : Int) by omega, h0, h1, h2, h3]

/-- What is looked at of a packet that is built. -/
theorem build_lookX {p : IPv} (f : Fine p) (h : Fits p) (hd : p.data.length ≤ 60000) : lookX (buildV p) = lookP p ∧ packX (buildV p) = if lookP p = 0 then fullP p else zeroPkt := by
  have L := build_looks f h hd []
  have pp := build_parse f h hd []
  rw [List.append_nil] at L pp
  have hv := (looks_iff _).2 L
  have e : lookX (buildV p) = lookP p := by unfold lookX; rw [if_pos hv, pp]
  refine ⟨e, ?_⟩
  unfold packX
  rw [e, pp]

/-- The bytes of a packet with its checksum spoilt, as far as they are quoted. -/
def spoiltQ (p : IPv) (v : Int) : List Int := ((buildV p).set 10 v).take (28 + p.opts.length)

theorem head_set (p : IPv) (v : Int) : headV ((buildV p).set 10 v) = headV (buildV p) := by
  have h : byteV ((buildV p).set 10 v) 0 = byteV (buildV p) 0 := byteV_set (buildV p) 10 0 v (by omega)
  unfold headV; rw [h]

theorem quote_spoilt {p : IPv} (f : Fine p) (h : Fits p) (hd : p.data.length ≤ 60000) (h8 : 8 ≤ p.data.length) (v : Int) :
    Icmp.quoteN ((buildV p).set 10 v) = 28 + p.opts.length ∧ Icmp.quoteV ((buildV p).set 10 v) = spoiltQ p v := by
  have hb := built f h hd []
  rw [List.append_nil] at hb
  have e : Icmp.quoteN ((buildV p).set 10 v) = 28 + p.opts.length := by
    unfold Icmp.quoteN
    rw [head_set, hb.hd, List.length_set, build_len]
    omega
  refine ⟨e, ?_⟩
  unfold Icmp.quoteV spoiltQ
  rw [e]

theorem spoiltQ_len {p : IPv} (h8 : 8 ≤ p.data.length) (v : Int) : (spoiltQ p v).length = 28 + p.opts.length := by
  unfold spoiltQ
  rw [List.length_take, List.length_set, build_len]
  omega

theorem spoiltQ_ok {p : IPv} (f : Fine p) (h : Fits p) (v : Int) (v0 : 0 ≤ v) (v1 : v ≤ 255) : BytesOk (spoiltQ p v) :=
  fun x hx => (build_ok f h).set 10 v0 v1 x (List.mem_of_mem_take hx)

/-- What is read of the bytes that are quoted. -/
structure Quoted (p : IPv) (ys : List Int) : Prop where
  hd : headV ys = 20 + (p.opts.length : Int)
  ver : byteV ys 0 / 16 = 4
  off : get16V ys 6 % 8192 = p.off
  proto : byteV ys 9 = p.proto
  src : accV ys 12 4 = p.src
  dst : accV ys 16 4 = p.dst
  a : get16V ys (headV ys) = get16V p.data 0
  b : get16V ys (headV ys + 2) = get16V p.data 2
  len : (ys.length : Int) = headV ys + 8

theorem spoiltQ_is {p : IPv} (f : Fine p) (h : Fits p) (hd : p.data.length ≤ 60000) (h8 : 8 ≤ p.data.length) (v : Int) : Quoted p (spoiltQ p v) := by
  have hb := built f h hd []
  have L := build_looks f h hd []
  have pp := build_parse f h hd []
  rw [List.append_nil] at hb L pp
  have hl := spoiltQ_len h8 v
  have y0 : byteV (spoiltQ p v) 0 = byteV (buildV p) 0 := (byteV_take _ _ 0 (by omega)).trans (byteV_set (buildV p) 10 0 v (by omega))
  have y9 : byteV (spoiltQ p v) 9 = byteV (buildV p) 9 := (byteV_take _ _ 9 (by omega)).trans (byteV_set (buildV p) 10 9 v (by omega))
  have y6 : get16V (spoiltQ p v) 6 = get16V (buildV p) 6 := (get16V_take _ _ 6 (by omega)).trans (get16V_set (buildV p) 10 6 v (by omega) (by omega))
  have y12 : accV (spoiltQ p v) 12 4 = accV (buildV p) 12 4 := (accV_take _ _ 12 (by omega)).trans (accV_set (buildV p) 10 12 v (by omega))
  have y16 : accV (spoiltQ p v) 16 4 = accV (buildV p) 16 4 := (accV_take _ _ 16 (by omega)).trans (accV_set (buildV p) 10 16 v (by omega))
  have yh : headV (spoiltQ p v) = 20 + (p.opts.length : Int) := by
    rw [← hb.hd]; unfold headV; rw [y0]
  have hdata : (buildV p).drop (20 + p.opts.length) = p.data := by
    have e : buildV p = (aheadV p ++ ([checkV p / 256 % 256, checkV p % 256] ++ behindV p)) ++ p.data := by simp [buildV]
    have l : (aheadV p ++ ([checkV p / 256 % 256, checkV p % 256] ++ behindV p)).length = 20 + p.opts.length := by
      rw [List.length_append, List.length_append, ahead_len, behind_len]; simp; omega
    rw [e, ← l, List.drop_left]
  have g : ∀ i : Nat, i ≤ 6 → get16V (spoiltQ p v) (20 + (p.opts.length : Int) + (i : Int)) = get16V p.data (i : Int) := fun i hi => by
    have e1 := get16V_drop (buildV p) (20 + p.opts.length) i
    rw [hdata] at e1
    rw [e1, show (20 + (p.opts.length : Int) + (i : Int)) = ((20 + p.opts.length + i : Nat) : Int) by omega]
    unfold spoiltQ
    rw [get16V_take _ _ _ (by omega), get16V_set _ _ _ _ (by omega) (by omega)]
  have o0 := h.o0
  have o1 := h.o1
  refine ⟨yh, ?_, ?_, ?_, ?_, ?_, ?_, ?_, ?_⟩
  · rw [y0]; exact L.ver
  · rw [y6, hb.x6]; have := flagV_bd p.df p.mf; omega
  · rw [y9, hb.x9]
  · rw [y12, hb.x12]
  · rw [y16, hb.x16]
  · rw [yh]; have := g 0 (by omega); simpa using this
  · rw [yh]; have := g 2 (by omega); simpa using this
  · rw [hl, yh]; omega

/-- What an error about a packet is about. -/
theorem about_spoilt {p : IPv} (f : Fine p) (h : Fits p) (hd : p.data.length ≤ 60000) (h8 : 8 ≤ p.data.length) (v : Int) :
    aboutV (spoiltQ p v) = if p.off = 0 then some (quotedV (spoiltQ p v)) else none := by
  have q := spoiltQ_is f h hd h8 v
  have e : isQuoteV (spoiltQ p v) = decide (p.off = 0) := by
    unfold isQuoteV
    rw [decide_eq_decide, q.ver, q.off, q.len, q.hd]
    constructor
    · intro h; exact h.2.2.2
    · intro h; exact ⟨by omega, by omega, rfl, h⟩
  unfold aboutV
  rw [e]
  simp

/-- The flow that such an error tells: the packet's, if it is looked at. -/
theorem quoted_key {p : IPv} (f : Fine p) (h : Fits p) (hd : p.data.length ≤ 60000) (h8 : 8 ≤ p.data.length) (v : Int) (ho : p.off = 0) (hp : p.proto = 6 ∨ p.proto = 17) :
    quotedV (spoiltQ p v) = keyOf (fullP p) := by
  have q := spoiltQ_is f h hd h8 v
  have hc : classV p ≠ 2 := by
    rcases class_cases p with ⟨h1, _⟩ | ⟨_, _, h2⟩ | ⟨_, _, h2⟩ <;> omega
  have ha : aboutA (spoiltQ p v) = get16V p.data 0 := by unfold aboutA; rw [q.proto, if_pos hp, q.a]
  have hb : aboutB (spoiltQ p v) = get16V p.data 2 := by unfold aboutB; rw [q.proto, if_pos hp, q.b]
  unfold quotedV
  rw [q.proto, q.src, q.dst, ha, hb]
  rcases hp with hp | hp
  · unfold fullP keyOf; rw [if_neg hc, if_pos hp]; rfl
  · unfold fullP keyOf; rw [if_neg hc, if_neg (by omega), if_pos hp]; rfl

theorem quoted_three {p : IPv} (f : Fine p) (h : Fits p) (hd : p.data.length ≤ 60000) (h8 : 8 ≤ p.data.length) (v : Int) :
    (quotedV (spoiltQ p v)).proto = p.proto ∧ (quotedV (spoiltQ p v)).src = p.src ∧ (quotedV (spoiltQ p v)).dst = p.dst := by
  have q := spoiltQ_is f h hd h8 v
  exact ⟨q.proto, q.src, q.dst⟩
end Go.Proofs.Ytkagkfbdpiblkaa.Pack
