/- Plain: a text as a rule, word by word; steps that are good only where nothing was bad before. -/
import Derived.Test.YtbmmgjmmooakpaaGreatDoorRuP2
namespace Go.Proofs.YtbmmgjmmooakpaaGreatDoor.Ru
open Go.RowKit
set_option linter.unusedVariables false

abbrev tLt : ByteArray := ⟨#[60]⟩
abbrev tGt : ByteArray := ⟨#[62]⟩
abbrev tPass : ByteArray := ⟨#[112, 97, 115, 115]⟩
abbrev tBlock : ByteArray := ⟨#[98, 108, 111, 99, 107]⟩
abbrev tReturn : ByteArray := ⟨#[114, 101, 116, 117, 114, 110]⟩
abbrev tQuick : ByteArray := ⟨#[113, 117, 105, 99, 107]⟩
abbrev tOn : ByteArray := ⟨#[111, 110]⟩
abbrev tProto : ByteArray := ⟨#[112, 114, 111, 116, 111]⟩
abbrev tIcmp : ByteArray := ⟨#[105, 99, 109, 112]⟩
abbrev tTcp : ByteArray := ⟨#[116, 99, 112]⟩
abbrev tUdp : ByteArray := ⟨#[117, 100, 112]⟩
abbrev tFrom : ByteArray := ⟨#[102, 114, 111, 109]⟩
abbrev tTo : ByteArray := ⟨#[116, 111]⟩
abbrev tAny : ByteArray := ⟨#[97, 110, 121]⟩
abbrev tPort : ByteArray := ⟨#[112, 111, 114, 116]⟩
abbrev tFlags : ByteArray := ⟨#[102, 108, 97, 103, 115]⟩
abbrev tType : ByteArray := ⟨#[116, 121, 112, 101]⟩
abbrev tKeep : ByteArray := ⟨#[107, 101, 101, 112]⟩
abbrev tRouteTo : ByteArray := ⟨#[114, 111, 117, 116, 101, 45, 116, 111]⟩
abbrev tReplyTo : ByteArray := ⟨#[114, 101, 112, 108, 121, 45, 116, 111]⟩
abbrev tTable : ByteArray := ⟨#[116, 97, 98, 108, 101]⟩

abbrev WL := List ByteArray

def isW (t : ByteArray) (L : WL) : Bool := decide (L.head? = some t)
def aftW (t : ByteArray) (L : WL) : WL := if isW t L = true then L.tail else L

/-- The next word, or none. -/
def headW (L : WL) : ByteArray := L.headD (txt [])

/-- One step of a reading: v is read, L' is left, b' tells whether something was bad, as b told ahead of it; o is what a strict reading gives. -/
def Stp {α : Type} (o : Option (α × WL)) (b : Bool) (v : α) (b' : Bool) (L' : WL) : Prop :=
  (b = true ∧ b' = true) ∨ (b = false ∧ o = none ∧ b' = true) ∨ (b = false ∧ o = some (v, L') ∧ b' = false)

theorem Stp.bind {α β : Type} {o : Option (α × WL)} {b b1 b2 : Bool} {v : α} {u : β} {L1 L2 : WL} {k : α × WL → Option (β × WL)} (h : Stp o b v b1 L1) (h2 : Stp (k (v, L1)) b1 u b2 L2) : Stp (o.bind k) b u b2 L2 := by
  rcases h with ⟨rfl, rfl⟩ | ⟨rfl, rfl, rfl⟩ | ⟨rfl, rfl, rfl⟩
  · rcases h2 with ⟨_, rfl⟩ | ⟨h, _⟩ | ⟨h, _⟩
    · exact .inl ⟨rfl, rfl⟩
    · cases h
    · cases h
  · rcases h2 with ⟨_, rfl⟩ | ⟨h, _⟩ | ⟨h, _⟩
    · exact .inr (.inl ⟨rfl, rfl, rfl⟩)
    · cases h
    · cases h
  · rcases h2 with ⟨h, _⟩ | ⟨_, h, rfl⟩ | ⟨_, h, rfl⟩
    · cases h
    · exact .inr (.inl ⟨rfl, h, rfl⟩)
    · exact .inr (.inr ⟨rfl, h, rfl⟩)

theorem Stp.some {α : Type} {b : Bool} {v : α} {L : WL} : Stp (some (v, L)) b v b L := by
  cases b
  · exact .inr (.inr ⟨rfl, rfl, rfl⟩)
  · exact .inl ⟨rfl, rfl⟩

/-- A step that asks one thing. -/
theorem Stp.ask {α : Type} {b g : Bool} {v : α} {L : WL} {o : Option (α × WL)} (h1 : g = true → o = Option.some (v, L)) (h2 : g = false → o = none) : Stp o b v (b || !g) L := by
  cases b
  · cases g
    · exact .inr (.inl ⟨rfl, h2 rfl, rfl⟩)
    · exact .inr (.inr ⟨rfl, h1 rfl, rfl⟩)
  · exact .inl ⟨rfl, rfl⟩

/-- The same, where what is read is another if that is bad. -/
theorem Stp.ask' {α : Type} {b g : Bool} {v : α} {L : WL} {o : Option (α × WL)} (h1 : g = true → o = Option.some (v, L)) (h2 : g = false → o = none) {b' : Bool} (hb : b' = (b || !g)) : Stp o b v b' L := hb ▸ Stp.ask h1 h2

theorem Stp.good {α : Type} {o : Option (α × WL)} {b : Bool} {v : α} {L : WL} (h : Stp o b v false L) : b = false ∧ o = Option.some (v, L) := by
  rcases h with ⟨_, h⟩ | ⟨_, _, h⟩ | ⟨h1, h2, _⟩
  · cases h
  · cases h
  · exact ⟨h1, h2⟩

theorem Stp.bad {α : Type} {o : Option (α × WL)} {v : α} {L : WL} (h : Stp o false v true L) : o = none := by
  rcases h with ⟨h, _⟩ | ⟨_, h, _⟩ | ⟨_, _, h⟩
  · cases h
  · exact h
  · cases h

/-! ## The strict reading -/

def sWord (t : ByteArray) (L : WL) : Option (Bool × WL) := some (isW t L, aftW t L)
def sMust (t : ByteArray) (L : WL) : Option (Unit × WL) := if isW t L = true then some ((), L.tail) else none
def sHead (L : WL) : Option (ByteArray × WL) := match L with | x :: r => some (x, r) | [] => none
def sAct (L : WL) : Option (Bool × WL) := if isW tPass L = true then some (true, L.tail) else if isW tBlock L = true then some (false, L.tail) else none
def sName (chk : Bool) (L : WL) : Option (ByteArray × WL) := (sHead L).bind fun x => if (!chk || nameB x.1) = true then some x else none
def sNum (low high : Int) (L : WL) : Option (Int × WL) := (sHead L).bind fun x => if numIn x.1 low high = true then some (valT x.1, x.2) else none
def sNumber (t : ByteArray) (low high wo : Int) (L : WL) : Option (Int × WL) := if isW t L = true then sNum low high L.tail else some (wo, L)
def sOn (chk : Bool) (L : WL) : Option (ByteArray × WL) := if isW tOn L = true then sName chk L.tail else some (txt [], L)

def protoOf (x : ByteArray) : Option Int :=
  if x = tIcmp then some 1 else if x = tTcp then some 6 else if x = tUdp then some 17
  else if (numIn x 1 255 && !(valT x == 1 || (valT x == 6 || valT x == 17))) = true then some (valT x) else none
def sProto (L : WL) : Option (Int × WL) := if isW tProto L = true then (sHead L.tail).bind fun x => (protoOf x.1).map fun v => (v, x.2) else some (0, L)

/-- What stands between the first and the last byte. -/
def inner (x : ByteArray) : ByteArray := txt x.data.toList.tail.dropLast
def isTab (x : ByteArray) : Bool := decide (2 < x.size) && (x.data.toList.head? == some 60 && x.data.toList.getLast? == some 62)

def endOf (chk : Bool) (x : ByteArray) : Option SideV :=
  if x = tAny then some ⟨true, txt [], 0, 0, 0, 0⟩
  else if isTab x = true then (if (!chk || nameB (inner x)) = true then some ⟨false, inner x, 0, 0, 0, 0⟩ else none)
  else (parsePV x.data.toList).map fun q => ⟨false, txt [], q.1, q.2, 0, 0⟩
def sEnd (chk : Bool) (L : WL) : Option (SideV × WL) := (sHead L).bind fun x => (endOf chk x.1).map fun v => (v, x.2)

def portsOf (x : ByteArray) : Option (Int × Int) :=
  match splitL 58 x.data.toList with
  | [l] => if numIn (txt l) 0 65535 = true then some (valT (txt l), valT (txt l)) else none
  | [l, h] => if (numIn (txt l) 0 65535 && (numIn (txt h) 0 65535 && !(valT (txt l) == valT (txt h)))) = true then some (valT (txt l), valT (txt h)) else none
  | _ => none
def sPorts (L : WL) : Option ((Int × Int) × WL) := if isW tPort L = true then (sHead L.tail).bind fun x => (portsOf x.1).map fun v => (v, x.2) else some ((0, 65535), L)

def withPorts (s : SideV) (q : Int × Int) : SideV := ⟨s.any, s.table, s.a, s.n, q.1, q.2⟩
def sSide (chk : Bool) (t : ByteArray) (L : WL) : Option (SideV × WL) :=
  (sMust t L).bind fun u => (sEnd chk u.2).bind fun s => (sPorts s.2).bind fun q => some (withPorts s.1 q.1, q.2)

/-- Flags as letters. -/
def lettersP (n : Nat) : List UInt8 :=
  if n = 0 then [45] else (if n % 2 = 1 then [70] else []) ++ ((if n / 2 % 2 = 1 then [83] else []) ++ ((if n / 4 % 2 = 1 then [82] else []) ++ ((if n / 8 % 2 = 1 then [80] else []) ++ ((if n / 16 % 2 = 1 then [65] else []) ++ (if n / 32 % 2 = 1 then [85] else [])))))
def lettersOf (l : List UInt8) : Option Nat := (List.range 64).find? fun n => lettersP n == l

def flagsOf (x : ByteArray) : Option (Int × Int) :=
  match splitL 47 x.data.toList with
  | [a, c] => (lettersOf a).bind fun s => (lettersOf c).bind fun m => if m = 0 then none else some ((s : Int), (m : Int))
  | _ => none
def sFlags (L : WL) : Option ((Int × Int) × WL) := if isW tFlags L = true then (sHead L.tail).bind fun x => (flagsOf x.1).map fun v => (v, x.2) else some ((0, 0), L)

def sGate (L : WL) : Option (Int × WL) := (sHead L).bind fun x => (parseV x.1.data.toList).map fun v => ((v : Int), x.2)
def sPin (chk : Bool) (t : ByteArray) (L : WL) : Option (PinV × WL) :=
  if isW t L = true then (sName chk L.tail).bind fun i => (sGate i.2).bind fun g => some (⟨true, i.1, g.1⟩, g.2) else some (pin0, L)

def sRule (chk : Bool) (L : WL) : Option (RuleV × WL) :=
  (sAct L).bind fun pass => (sWord tReturn pass.2).bind fun ret => (sWord tQuick ret.2).bind fun quick => (sOn chk quick.2).bind fun on =>
  (sProto on.2).bind fun proto => (sSide chk tFrom proto.2).bind fun src => (sSide chk tTo src.2).bind fun dst => (sFlags dst.2).bind fun fl =>
  (sNumber tType 0 255 (-1) fl.2).bind fun ty => (sWord tKeep ty.2).bind fun keep => (sPin chk tRouteTo keep.2).bind fun rt => (sPin chk tReplyTo rt.2).bind fun rp =>
  (sNumber tTable 1 3 0 rp.2).bind fun tab => some (⟨pass.1, ret.1, quick.1, on.1, proto.1, src.1, dst.1, fl.1.1, fl.1.2, ty.1, keep.1, rt.1, rp.1, tab.1⟩, tab.2)

/-- A text as a rule, or none. -/
def parseR (s : ByteArray) : Option RuleV := match sRule true (wordsB s) with
  | some (r, []) => if isR r = true then some r else none
  | _ => none

theorem headW_nil : headW [] = txt [] := rfl

theorem isW_head {t : ByteArray} {L : WL} (h : isW t L = true) : L = t :: L.tail := by
  unfold isW at h
  simp only [decide_eq_true_eq] at h
  cases L with
  | nil => cases h
  | cons x r => simp only [List.head?_cons, Option.some.injEq] at h; rw [h]; rfl
end Go.Proofs.YtbmmgjmmooakpaaGreatDoor.Ru
