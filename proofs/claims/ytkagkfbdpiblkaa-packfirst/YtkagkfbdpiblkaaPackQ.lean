/- Plain facts on chapter 8: a first part of a datagram; a segment's ports; an error about a packet. -/
import Derived.Test.YtkagkfbdpiblkaaPackP
namespace Go.Proofs.Ytkagkfbdpiblkaa.Pack
open Go.RowKit
set_option linter.unusedVariables false

/-- A datagram of noughts. -/
def datF (a b : Int) (n : Nat) : Udp.DATv := ⟨a, b, List.replicate (8 + n) 0⟩

theorem datF_fits {a b : Int} {n : Nat} (a0 : 0 ≤ a) (a1 : a ≤ 65535) (b0 : 0 ≤ b) (b1 : b ≤ 65535) (hn : n ≤ 500) : Udp.Fits (datF a b n) :=
  ⟨a0, a1, b0, b1, by show (List.replicate (8 + n) (0 : Int)).length ≤ 65000; rw [List.length_replicate]; omega⟩

theorem noughts_ok (m : Nat) : BytesOk (List.replicate m (0 : Int)) := by
  intro x hx
  have := (List.mem_replicate.1 hx).2
  omega

/-- Its packet, cut. -/
def ipF (a b : Int) (n : Nat) (f : Bool) : IPv := ⟨0, 0, false, f, 0, 7, 17, 1, 2, [], (Udp.buildV 1 2 (datF a b n)).take 16⟩

theorem ipF_len (a b : Int) (n : Nat) : ((Udp.buildV 1 2 (datF a b n)).take 16).length = 16 := by
  rw [List.length_take, Udp.build_len]
  show min 16 (8 + (List.replicate (8 + n) (0 : Int)).length) = 16
  rw [List.length_replicate]; omega

theorem ipF_fine (a b : Int) (n : Nat) (f : Bool) : Fine (ipF a b n f) :=
  ⟨by show (0 : Int) ≤ 1; omega, by show (1 : Int) ≤ 4294967295; omega, by show (0 : Int) ≤ 2; omega, by show (2 : Int) ≤ 4294967295; omega, by intro x hx; simp [ipF] at hx, fun x hx => Udp.build_ok 1 2 (noughts_ok _) x (List.mem_of_mem_take hx)⟩

theorem ipF_fits (a b : Int) (n : Nat) (f : Bool) : Fits (ipF a b n f) :=
  ⟨by show (0 : Int) ≤ 0; omega, by show (0 : Int) ≤ 255; omega, by show (0 : Int) ≤ 7; omega, by show (7 : Int) ≤ 255; omega, by show (0 : Int) ≤ 17; omega, by show (17 : Int) ≤ 255; omega, by show (0 : Int) ≤ 0; omega, by show (0 : Int) ≤ 65535; omega,
   by show (0 : Int) ≤ 0; omega, by show (0 : Int) ≤ 8191; omega, by show ([] : List Int).length % 4 = 0; rfl, by show ([] : List Int).length ≤ 40; simp⟩

theorem ipF_whole {a b : Int} {n : Nat} (hf : Udp.Fits (datF a b n)) (h1 : 1 ≤ n) : lookX (buildV (ipF a b n false)) = 3 ∧ packX (buildV (ipF a b n false)) = zeroPkt := by
  have hl : (ipF a b n false).data.length ≤ 60000 := by show ((Udp.buildV 1 2 (datF a b n)).take 16).length ≤ 60000; rw [ipF_len]; omega
  obtain ⟨e1, e2⟩ := build_lookX (ipF_fine a b n false) (ipF_fits a b n false) hl
  have e : lookP (ipF a b n false) = 3 := by
    show Udp.lookV ((Udp.buildV 1 2 (datF a b n)).take 16) = 3
    refine Udp.cut_short 1 2 hf 16 ?_
    show 16 < 8 + (List.replicate (8 + n) (0 : Int)).length
    rw [List.length_replicate]; omega
  rw [e1, e2, e]
  exact ⟨rfl, rfl⟩

theorem ipF_first {a b : Int} {n : Nat} (hf : Udp.Fits (datF a b n)) : lookX (buildV (ipF a b n true)) = 0 ∧ packX (buildV (ipF a b n true)) = ⟨ipF a b n true, 1, a, b, 0, 0, 0, none⟩ := by
  have hl : (ipF a b n true).data.length ≤ 60000 := by show ((Udp.buildV 1 2 (datF a b n)).take 16).length ≤ 60000; rw [ipF_len]; omega
  obtain ⟨e1, e2⟩ := build_lookX (ipF_fine a b n true) (ipF_fits a b n true) hl
  have e : lookP (ipF a b n true) = 0 := by
    show shortV ((Udp.buildV 1 2 (datF a b n)).take 16) = 0
    unfold shortV
    rw [ipF_len, if_neg (by omega)]
  have pp := Udp.build_parse 1 2 hf []
  rw [List.append_nil] at pp
  have g0 : get16V ((Udp.buildV 1 2 (datF a b n)).take 16) 0 = a := (get16V_take _ 16 0 (by omega)).trans (congrArg Udp.DATv.src pp)
  have g2 : get16V ((Udp.buildV 1 2 (datF a b n)).take 16) 2 = b := (get16V_take _ 16 2 (by omega)).trans (congrArg Udp.DATv.dst pp)
  refine ⟨by rw [e1, e], ?_⟩
  rw [e2, e, if_pos rfl]
  show datP (ipF a b n true) = _
  show (⟨ipF a b n true, 1, get16V ((Udp.buildV 1 2 (datF a b n)).take 16) 0, get16V ((Udp.buildV 1 2 (datF a b n)).take 16) 2, 0, 0, 0, none⟩ : PKTv) = _
  rw [g0, g2]

/-- A segment's packet. -/
def ipS (s d o : Int) (b : List Int) : IPv := ⟨0, 0, false, false, o, 7, 6, s, d, [], b⟩

theorem ipS_fine {s d o : Int} {b : List Int} (s0 : 0 ≤ s) (s1 : s ≤ 4294967295) (d0 : 0 ≤ d) (d1 : d ≤ 4294967295) (hb : BytesOk b) : Fine (ipS s d o b) :=
  ⟨s0, s1, d0, d1, by intro x hx; simp [ipS] at hx, hb⟩

theorem ipS_fits {s d o : Int} {b : List Int} (o0 : 0 ≤ o) (o1 : o ≤ 100) : Fits (ipS s d o b) :=
  ⟨by show (0 : Int) ≤ 0; omega, by show (0 : Int) ≤ 255; omega, by show (0 : Int) ≤ 7; omega, by show (7 : Int) ≤ 255; omega, by show (0 : Int) ≤ 6; omega, by show (6 : Int) ≤ 255; omega, by show (0 : Int) ≤ 0; omega, by show (0 : Int) ≤ 65535; omega,
   o0, by show o ≤ 8191; omega, by show ([] : List Int).length % 4 = 0; rfl, by show ([] : List Int).length ≤ 40; simp⟩

theorem ipS_later {s d o : Int} {b : List Int} (s0 : 0 ≤ s) (s1 : s ≤ 4294967295) (d0 : 0 ≤ d) (d1 : d ≤ 4294967295) (hb : BytesOk b) (hl : b.length ≤ 60000) (o0 : 0 < o) (o1 : o ≤ 100) :
    lookX (buildV (ipS s d o b)) = 0 ∧ packX (buildV (ipS s d o b)) = ⟨ipS s d o b, 2, 0, 0, 0, 0, 0, none⟩ := by
  obtain ⟨e1, e2⟩ := build_lookX (ipS_fine (o := o) s0 s1 d0 d1 hb) (ipS_fits (by omega) o1) hl
  have hc : classV (ipS s d o b) = 2 := by
    show (if o ≠ 0 then 2 else if false = true then 1 else 0) = (2 : Int)
    rw [if_pos (by omega)]
  have e : lookP (ipS s d o b) = 0 := by unfold lookP; rw [if_pos hc]
  refine ⟨by rw [e1, e], ?_⟩
  rw [e2, e, if_pos rfl]
  unfold fullP
  rw [if_pos hc]
  unfold bareP
  rw [hc]

theorem ipS_whole {s d : Int} {p : Tcp.SEGv} (s0 : 0 ≤ s) (s1 : s ≤ 4294967295) (d0 : 0 ≤ d) (d1 : d ≤ 4294967295) (f : Tcp.Fine p) (hf : Tcp.Fits p) (hl : (Tcp.buildV s d p).length ≤ 60000) :
    lookX (buildV (ipS s d 0 (Tcp.buildV s d p))) = 0 ∧ packX (buildV (ipS s d 0 (Tcp.buildV s d p))) = ⟨ipS s d 0 (Tcp.buildV s d p), 0, p.src, p.dst, p.flags, 0, 0, none⟩ := by
  have hb : BytesOk (Tcp.buildV s d p) := Tcp.build_ok f hf s0 s1 d0 d1
  obtain ⟨e1, e2⟩ := build_lookX (ipS_fine (o := 0) s0 s1 d0 d1 hb) (ipS_fits (by omega) (by omega)) hl
  have hc : classV (ipS s d 0 (Tcp.buildV s d p)) = 0 := rfl
  have hv := (Tcp.looks_iff _).2 (Tcp.build_looks s d f hf)
  have pp := Tcp.build_parse s d f hf
  have e : lookP (ipS s d 0 (Tcp.buildV s d p)) = 0 := by
    unfold lookP
    rw [hc, if_neg (by omega), if_pos (show (ipS s d 0 (Tcp.buildV s d p)).proto = 6 from rfl)]
    exact hv
  refine ⟨by rw [e1, e], ?_⟩
  rw [e2, e, if_pos rfl]
  unfold fullP
  rw [hc, if_neg (by omega), if_pos (show (ipS s d 0 (Tcp.buildV s d p)).proto = 6 from rfl)]
  show (⟨ipS s d 0 (Tcp.buildV s d p), 0, (Tcp.parseV (Tcp.buildV s d p)).src, (Tcp.parseV (Tcp.buildV s d p)).dst, (Tcp.parseV (Tcp.buildV s d p)).flags, 0, 0, none⟩ : PKTv) = _
  rw [pp]

/-- The message of an error about bytes. -/
def msgE (q : List Int) : Icmp.MSGv := ⟨3, 1, 0, q⟩

theorem msgE_fits {q : List Int} (h : q.length ≤ 65000) : Icmp.Fits (msgE q) :=
  ⟨by show (0 : Int) ≤ 3; omega, by show (3 : Int) ≤ 255; omega, by show (0 : Int) ≤ 1; omega, by show (1 : Int) ≤ 255; omega, h⟩

theorem msgE_fine {q : List Int} (h : BytesOk q) : Icmp.Fine (msgE q) := ⟨by show (0 : Int) ≤ 0; omega, by show (0 : Int) ≤ 4294967295; omega, h⟩

/-- Its packet. -/
def ipE (s d : Int) (b : List Int) : IPv := ⟨0, 0, false, false, 0, 9, 1, s, d, [], b⟩

theorem ipE_fine {s d : Int} {b : List Int} (s0 : 0 ≤ s) (s1 : s ≤ 4294967295) (d0 : 0 ≤ d) (d1 : d ≤ 4294967295) (hb : BytesOk b) : Fine (ipE s d b) :=
  ⟨s0, s1, d0, d1, by intro x hx; simp [ipE] at hx, hb⟩

theorem ipE_fits (s d : Int) (b : List Int) : Fits (ipE s d b) :=
  ⟨by show (0 : Int) ≤ 0; omega, by show (0 : Int) ≤ 255; omega, by show (0 : Int) ≤ 9; omega, by show (9 : Int) ≤ 255; omega, by show (0 : Int) ≤ 1; omega, by show (1 : Int) ≤ 255; omega, by show (0 : Int) ≤ 0; omega, by show (0 : Int) ≤ 65535; omega,
   by show (0 : Int) ≤ 0; omega, by show (0 : Int) ≤ 8191; omega, by show ([] : List Int).length % 4 = 0; rfl, by show ([] : List Int).length ≤ 40; simp⟩

theorem ipE_look {s d : Int} {q : List Int} (s0 : 0 ≤ s) (s1 : s ≤ 4294967295) (d0 : 0 ≤ d) (d1 : d ≤ 4294967295) (hq : BytesOk q) (hl : q.length ≤ 50000) :
    lookX (buildV (ipE s d (Icmp.buildV (msgE q)))) = 0 ∧ packX (buildV (ipE s d (Icmp.buildV (msgE q)))) = ⟨ipE s d (Icmp.buildV (msgE q)), 0, 0, 0, 0, 3, 1, aboutV q⟩ := by
  have f := msgE_fine hq
  have hf : Icmp.Fits (msgE q) := msgE_fits (by omega)
  have hb : BytesOk (Icmp.buildV (msgE q)) := Icmp.build_ok f hf
  have hlen : (Icmp.buildV (msgE q)).length ≤ 60000 := by
    rw [Icmp.build_len]; show 8 + q.length ≤ 60000; omega
  obtain ⟨e1, e2⟩ := build_lookX (ipE_fine s0 s1 d0 d1 hb) (ipE_fits s d _) hlen
  have hc : classV (ipE s d (Icmp.buildV (msgE q))) = 0 := rfl
  have hv := (Icmp.looks_iff _).2 (Icmp.build_looks f hf)
  have pp := Icmp.build_parse f
  have p0 : byteV (Icmp.buildV (msgE q)) 0 = 3 := congrArg Icmp.MSGv.type pp
  have p1 : byteV (Icmp.buildV (msgE q)) 1 = 1 := congrArg Icmp.MSGv.code pp
  have pd : (Icmp.buildV (msgE q)).drop 8 = q := congrArg Icmp.MSGv.data pp
  have e : lookP (ipE s d (Icmp.buildV (msgE q))) = 0 := by
    unfold lookP
    rw [hc, if_neg (by omega), if_neg (by show ¬ ((1 : Int) = 6); omega), if_neg (by show ¬ ((1 : Int) = 17); omega), if_pos (show (ipE s d (Icmp.buildV (msgE q))).proto = 1 from rfl)]
    show partV 0 (Icmp.lookV (Icmp.buildV (msgE q))) _ = 0
    unfold partV
    rw [if_neg (by omega)]
    exact hv
  refine ⟨by rw [e1, e], ?_⟩
  rw [e2, e, if_pos rfl]
  unfold fullP
  rw [hc, if_neg (by omega), if_neg (by show ¬ ((1 : Int) = 6); omega), if_neg (by show ¬ ((1 : Int) = 17); omega), if_pos (show (ipE s d (Icmp.buildV (msgE q))).proto = 1 from rfl)]
  show (⟨ipE s d (Icmp.buildV (msgE q)), 0, numberV (Icmp.buildV (msgE q)), numberV (Icmp.buildV (msgE q)), 0, byteV (Icmp.buildV (msgE q)) 0, byteV (Icmp.buildV (msgE q)) 1, innerV (Icmp.buildV (msgE q))⟩ : PKTv) = _
  have hN : numberV (Icmp.buildV (msgE q)) = 0 := by
    unfold numberV; rw [p0]; rfl
  have hI : innerV (Icmp.buildV (msgE q)) = aboutV q := by
    unfold innerV; rw [p0, pd]; rfl
  rw [hN, hI, p0, p1]

end Go.Proofs.Ytkagkfbdpiblkaa.Pack
