/- Ways laid in the other order; four side by side. -/
import Derived.Test.YtbchfmadmcppkaaLaw11Q
namespace Go.Proofs.Ytbchfmadmcppkaa.Rb
set_option maxRecDepth 100000
open Go.RowKit Go.Proofs.Ytbchfmadmcppkaa
set_option linter.unusedVariables false
set_option linter.unusedSimpArgs false

theorem ahead : ∀ {M : List Rt} {x : Rt}, (∀ y ∈ M, ltB x y = true) → insR M x = x :: M ∧ hereB M x = false
  | [], x, h => ⟨rfl, rfl⟩
  | y :: M, x, h => by
    have h1 := h y (by simp)
    have h2 := ltB_asymm h1
    unfold insR hereB
    simp [h1, h2]

theorem Good.drop {L : List Rt} (h : Good L) (k : Nat) : Good (L.drop k) :=
  ⟨h.srt.drop k, by rw [List.length_drop]; have := h.len; omega, fun x hx => h.is x (List.mem_of_mem_drop hx), fun x hx => h.ok x (List.mem_of_mem_drop hx)⟩

theorem drop_add {L : List Rt} (h : Good L) {k : Nat} {x : Rt} (hx : L[k]? = some x) : addE (L.drop (k + 1)) x = 0 ∧ addS (L.drop (k + 1)) x = L.drop k := by
  have hk := (List.getElem?_eq_some_iff.1 hx).1
  have hd : L.drop k = x :: L.drop (k + 1) := by rw [List.drop_eq_getElem_cons hk, (List.getElem?_eq_some_iff.1 hx).2]
  have hp := h.srt.drop k
  rw [hd] at hp
  obtain ⟨h1, h2⟩ := ahead (List.pairwise_cons.1 hp).1
  have hi := h.is x (List.mem_of_getElem? hx)
  have e : addE (L.drop (k + 1)) x = 0 := by
    unfold addE
    rw [hi, h2, List.length_drop]
    have := h.len
    simp
    omega
  refine ⟨e, ?_⟩
  unfold addS
  rw [if_pos e, h1, hd]

/-- Two Ribs more, apart from all else. -/
structure Four (w wr : World) (rb xb cb db : Nat) (L M N : List Rt) (F G Fc Fd : List Nat) : Prop where
  b : RibAt 60 wr rb L F
  x : RibAt 36 wr xb L G
  c : RibAt 60 wr cb M Fc
  d : RibAt 60 wr db N Fd
  cF : ∀ y ∈ Fc, y ∉ F ∧ y ∉ G ∧ y ∉ Fd
  dF : ∀ y ∈ Fd, y ∉ F ∧ y ∉ G ∧ y ∉ Fc
  cw : ∀ y ∈ Fc, w.heap.size ≤ y
  dw : ∀ y ∈ Fd, w.heap.size ≤ y
  ext : Ext w wr

theorem Four.later {w wr w' : World} {rb xb cb db : Nat} {L M N : List Rt} {F G Fc Fd : List Nat} (h : Four w wr rb xb cb db L M N F G Fc Fd) (hx : Ext wr w') : Four w w' rb xb cb db L M N F G Fc Fd :=
  ⟨h.b.ext hx, h.x.ext hx, h.c.ext hx, h.d.ext hx, h.cF, h.dF, h.cw, h.dw, h.ext.trans hx⟩

theorem Four.stepC {w wr w' : World} {rb xb cb db : Nat} {L M N M' : List Rt} {F G Fc Fd : List Nat} (h : Four w wr rb xb cb db L M N F G Fc Fd) (ha : RibAns 60 wr cb Fc M' w') : ∃ Fc', Four w w' rb xb cb db L M' N F G Fc' Fd := by
  obtain ⟨Fc', h1, h2, h3, h4, h5⟩ := ha.own h.ext h.cw
  have hb := h.b.lt
  have hx := h.x.lt
  have hd := h.d.lt
  refine ⟨Fc', ⟨h.b.later h4 fun y hy hc => (h.cF y hc).1 hy, h.x.later h4 fun y hy hc => (h.cF y hc).2.1 hy, h1, h.d.later h4 fun y hy hc => (h.cF y hc).2.2 hy, fun y hy => ?_, fun y hy => ⟨(h.dF y hy).1, (h.dF y hy).2.1, fun hc => ?_⟩, h3, h.dw, h2⟩⟩
  · rcases h5 y hy with h6 | h6
    · exact h.cF y h6
    · exact ⟨fun e => by have := hb y e; omega, fun e => by have := hx y e; omega, fun e => by have := hd y e; omega⟩
  · rcases h5 y hc with h6 | h6
    · exact (h.dF y hy).2.2 h6
    · have := hd y hy; omega

theorem Four.stepD {w wr w' : World} {rb xb cb db : Nat} {L M N N' : List Rt} {F G Fc Fd : List Nat} (h : Four w wr rb xb cb db L M N F G Fc Fd) (ha : RibAns 60 wr db Fd N' w') : ∃ Fd', Four w w' rb xb cb db L M N' F G Fc Fd' := by
  obtain ⟨Fd', h1, h2, h3, h4, h5⟩ := ha.own h.ext h.dw
  have hb := h.b.lt
  have hx := h.x.lt
  have hc := h.c.lt
  refine ⟨Fd', ⟨h.b.later h4 fun y hy hc => (h.dF y hc).1 hy, h.x.later h4 fun y hy hc => (h.dF y hc).2.1 hy, h.c.later h4 fun y hy hc => (h.dF y hc).2.2 hy, h1, fun y hy => ⟨(h.cF y hy).1, (h.cF y hy).2.1, fun hd => ?_⟩, fun y hy => ?_, h.cw, h3, h2⟩⟩
  · rcases h5 y hd with h6 | h6
    · exact (h.cF y hy).2.2 h6
    · have := hc y hy; omega
  · rcases h5 y hy with h6 | h6
    · exact h.dF y h6
    · exact ⟨fun e => by have := hb y e; omega, fun e => by have := hx y e; omega, fun e => by have := hc y e; omega⟩

theorem Four.begin {w w1 w2 w3 : World} {rb xb db : Nat} {L : List Rt} {F G Fd : List Nat} (h : Two w w1 rb xb L L F G) (hx2 : Ext w1 w2) (hc : RibAt 60 w2 w1.heap.size [] [w1.heap.size]) (hx3 : Ext w2 w3) (hd : RibAt 60 w3 db L Fd) (hf : ∀ y ∈ Fd, w2.heap.size ≤ y) :
    Four w w3 rb xb w1.heap.size db L [] L F G [w1.heap.size] Fd := by
  have hb := h.b.lt
  have hx := h.x.lt
  have hcl := hc.lt w1.heap.size (by simp)
  have hs := h.ext.size
  refine ⟨h.b.ext (hx2.trans hx3), h.x.ext (hx2.trans hx3), hc.ext hx3, hd, fun y hy => ?_, fun y hy => ?_, fun y hy => ?_, fun y hy => ?_, h.ext.trans (hx2.trans hx3)⟩
  · obtain rfl : y = w1.heap.size := by simpa using hy
    exact ⟨fun e => by have := hb _ e; omega, fun e => by have := hx _ e; omega, fun e => by have := hf _ e; omega⟩
  · have h1 := hf y hy
    exact ⟨fun e => by have := hb y e; omega, fun e => by have := hx y e; omega, fun e => by simp at e; omega⟩
  · obtain rfl : y = w1.heap.size := by simpa using hy
    exact hs
  · have h1 := hf y hy
    omega
end Go.Proofs.Ytbchfmadmcppkaa.Rb
