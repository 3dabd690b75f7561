/- Texts joined by a program: DirL, TriQ, FibP, Tree1, Tree2, Shelf. -/
import Derived.Deep.LoopGhost
import Derived.Shelf.Small.Bits
import Derived.Test.YtkfhkhgiojpfoaaGreatProg
import Derived.Test.YtkfhkhgiojpfoaaGreatJ2
import Derived.Test.YtkfhkhgiojpfoaaGreatJ3
import Derived.Test.YtkfhkhgiojpfoaaGreatJ4
import Derived.Test.YtkfhkhgiojpfoaaGreatJ9
import Derived.Test.YtkfhkhgiojpfoaaGreatJ10
import Derived.Test.YtkfhkhgiojpfoaaGreatJ11
import Derived.Test.YtkfhkhgiojpfoaaGreatJ14
namespace Go.Proofs.YtkfhkhgiojpfoaaGreat.Dr

set_option maxRecDepth 100000

open Go.RowKit Go.Proofs.YtkfhkhgiojpfoaaGreat Go.Proofs.YtkfhkhgiojpfoaaGreat.Tri

set_option linter.unusedVariables false

def keysL (L : Row) : List PX := L.map (·.1)

/-- A Dir of the row L, with so many blocks at most, in the blocks F. -/
def DirAt (w : World) (db : Nat) (most : Int) (L : Row) (F : List Nat) : Prop := ∃ E V T f mb, DirIn w db most E V T f mb F ∧ Srt L ∧ (E.map (·.1)).Perm (keysL L) ∧ (∀ x ∈ L, V x.1 = x.2) ∧ ((ownN (keysL L) : Nat) : Int) ≤ most

theorem DirAt.later {w w' : World} {db : Nat} {most : Int} {L : Row} {F G : List Nat} (h : DirAt w db most L F) (hx : ExtS G w w') (hd : ∀ x ∈ F, x ∉ G) : DirAt w' db most L F := by
  obtain ⟨E, V, T, f, mb, h1, h2⟩ := h
  exact ⟨E, V, T, f, mb, h1.later hx hd, h2⟩

theorem DirAt.ext {w w' : World} {db : Nat} {most : Int} {L : Row} {F : List Nat} (h : DirAt w db most L F) (hx : Ext w w') : DirAt w' db most L F := h.later (hx.toS []) (by simp)

theorem DirAt.lt {w : World} {db : Nat} {most : Int} {L : Row} {F : List Nat} (h : DirAt w db most L F) : ∀ x ∈ F, x < w.heap.size := by
  obtain ⟨E, V, T, f, mb, h1, h2⟩ := h
  exact h1.lt

theorem DirAt.srt {w : World} {db : Nat} {most : Int} {L : Row} {F : List Nat} (h : DirAt w db most L F) : Srt L := by
  obtain ⟨E, V, T, f, mb, h1, h2, -⟩ := h
  exact h2

theorem DirAt.valid {w : World} {db : Nat} {most : Int} {L : Row} {F : List Nat} (h : DirAt w db most L F) : ∀ x ∈ L, Vp x.1 := by
  obtain ⟨E, V, T, f, mb, h1, h2, h3, -⟩ := h
  intro x hx
  obtain ⟨y, hy, e⟩ := List.mem_map.1 (h3.mem_iff.2 (List.mem_map.2 ⟨x, hx, rfl⟩))
  rw [← e]; exact h1.valid y hy

theorem DirAt.room {w : World} {db : Nat} {most : Int} {L : Row} {F : List Nat} (h : DirAt w db most L F) : ((ownN (keysL L) : Nat) : Int) ≤ most := by
  obtain ⟨E, V, T, f, mb, h1, h2, h3, h4, h5⟩ := h
  exact h5

theorem lk_found {E : List (PX × Nat)} {L : Row} (hs : Srt L) (hp : (E.map (·.1)).Perm (keysL L)) (p : PX) : (lk E p).isSome = foundB L p := by
  cases hl : lk E p with
  | none =>
    cases hf : foundB L p with
    | false => rfl
    | true =>
      obtain ⟨u, hu⟩ := (found_mem hs).1 hf
      obtain ⟨y, hy, e⟩ := List.mem_map.1 (hp.mem_iff.2 (List.mem_map.2 ⟨_, hu, rfl⟩))
      exact absurd e (lk_none hl y hy)
  | some b =>
    have h1 := lk_mem hl
    obtain ⟨x, hx, e⟩ := List.mem_map.1 (hp.mem_iff.1 (List.mem_map.2 ⟨_, h1, rfl⟩))
    have : foundB L p = true := (found_mem hs).2 ⟨x.2, by simp only at e; rw [← e]; exact hx⟩
    rw [this]; rfl

theorem own_le (K : List PX) : ownN K ≤ 2 * K.length := by
  have key : ∀ l : List Nat, cntD l ≤ l.length := by
    intro l; induction l with
    | nil => exact Nat.le_refl _
    | cons x l ih => simp only [cntD, List.length_cons]; split <;> omega
  have h1 := key (hv 1 K)
  have h2 := key (hv 2 K)
  have l1 : (hv 1 K).length ≤ K.length := by unfold hv; rw [List.length_map]; exact List.length_filter_le _ _
  have l2 : (hv 2 K).length ≤ K.length := by unfold hv; rw [List.length_map]; exact List.length_filter_le _ _
  unfold ownN
  omega

theorem keys_set_new {L : Row} {p : PX} (v : Int) (h : foundB L p = false) : (keysL (setL L p v)).Perm (p :: keysL L) := by
  rw [setL_new v h]
  unfold keysL
  rw [List.map_append, List.map_cons]
  refine List.perm_middle.trans ?_
  rw [← List.map_append, List.take_append_drop]

theorem keys_set_found {L : Row} {p : PX} (v : Int) (h : foundB L p = true) : keysL (setL L p v) = keysL L := by
  rw [setL_found v h]
  obtain ⟨u, hu⟩ := foundB_iff.1 h
  unfold keysL
  rw [List.map_set]
  have hk := (List.getElem?_eq_some_iff.1 hu).1
  have hg := (List.getElem?_eq_some_iff.1 hu).2
  apply List.ext_getElem
  · simp
  · intro i h1 h2
    rw [List.getElem_set]
    split
    · rename_i e
      subst e
      rw [List.getElem_map, hg]
    · rfl

theorem keys_del_found {L : Row} (hs : Srt L) {p : PX} (h : foundB L p = true) : (keysL L).Perm (p :: keysL (delL L p)) := by
  rw [del_found hs h]
  obtain ⟨u, hu⟩ := foundB_iff.1 h
  have hg := (List.getElem?_eq_some_iff.1 hu).2
  have hk := (List.getElem?_eq_some_iff.1 hu).1
  have e : L = L.take (placeN L p) ++ (p, u) :: L.drop (placeN L p + 1) := by
    rw [← hg, List.getElem_cons_drop]; exact (List.take_append_drop _ L).symm
  have : keysL L = keysL (L.take (placeN L p)) ++ p :: keysL (L.drop (placeN L p + 1)) := by
    conv => lhs; rw [e]
    simp [keysL]
  rw [this]
  unfold keysL
  rw [List.map_append]
  exact List.perm_middle

/-- What Set answers, and what is there behind it. -/
def setR (most : Int) (L : Row) (p : PX) (v : Int) : Int × Row := if isV p.1 p.2 = false ∨ v < 0 then (1, L) else if most < ((ownN (keysL (setL L p v)) : Nat) : Int) then (6, L) else (0, setL L p v)

/-- A Dir, and what may have been written for it. -/
def DirAns (w : World) (F : List Nat) (db : Nat) (most : Int) (L : Row) (w' : World) : Prop := ∃ F', DirAt w' db most L F' ∧ ExtS F w w' ∧ ∀ x ∈ F', x ∈ F ∨ w.heap.size ≤ x

theorem ans_ext {w w' : World} {db : Nat} {most : Int} {L : Row} {F : List Nat} (h : DirAt w db most L F) (hx : Ext w w') : DirAns w F db most L w' := ⟨F, h.ext hx, hx.toS F, fun x hx => .inl hx⟩

theorem set_at {w : World} {db : Nat} {most : Int} {L : Row} {F : List Nat} (h : DirAt w db most L F) (hlen : L.length ≤ 100000) (a n v : Int) (a0 : 0 ≤ a) (a1 : a ≤ 4294967295) :
    Calls Tryz.prog 99 #[.pointer (some ⟨db, 0, none⟩), .agg #[.int .u32 a, .int .i64 n], .int .i64 v] w fun e w' => e = .returned (.int .i64 (setR most L (a, n) v).1) ∧ DirAns w F db most (setR most L (a, n) v).2 w' := by
  have hAt := h
  obtain ⟨E, V, T, f, mb, h1, hs, hp, hV, hroom⟩ := h
  by_cases hbad : isV a n = false ∨ v < 0
  · have e : setR most L (a, n) v = (1, L) := by unfold setR; rw [if_pos hbad]
    rw [e]
    refine (set_arg db a n v w a0 a1 hbad).mono ?_
    rintro e w' ⟨rfl, hx⟩
    exact ⟨rfl, ans_ext hAt hx⟩
  · have hv : isV a n = true := by
      cases hh : isV a n with
      | true => rfl
      | false => exact absurd (.inl hh) hbad
    have hv0 : 0 ≤ v := by
      rcases Int.lt_or_le v 0 with hh | hh
      · exact absurd (.inr hh) hbad
      · exact hh
    have hvp := vp_of a0 a1 hv
    obtain ⟨A, N, e, hN, hA, hZ⟩ := hvp
    simp only [Prod.mk.injEq] at e
    obtain ⟨rfl, rfl⟩ := e
    have hfd := lk_found hs hp ((A : Int), (N : Int))
    have hK : ownN (E.map (·.1)) = ownN (keysL L) := own_perm hp
    have hol := own_le (keysL L)
    have hkl : (keysL L).length = L.length := by simp [keysL]
    cases hl : lk E ((A : Int), (N : Int)) with
    | some b =>
      rw [hl] at hfd
      have hf : foundB L ((A : Int), (N : Int)) = true := hfd.symm
      have hk := keys_set_found v hf
      have e : setR most L ((A : Int), (N : Int)) v = (0, setL L ((A : Int), (N : Int)) v) := by unfold setR; rw [if_neg hbad, hk, if_neg (by omega)]
      rw [e]
      refine (set_here h1 (A : Int) (N : Int) v ⟨A, N, rfl, hN, hA, hZ⟩ hv0 b hl).mono ?_
      rintro e w' ⟨rfl, d, x⟩
      refine ⟨rfl, F, ⟨E, _, T, f, mb, d, set_srt hs _ _, by rw [hk]; exact hp, fun y hy => ?_, by rw [hk]; exact hroom⟩, x, fun x hx => .inl hx⟩
      rcases (set_mem hs _ v y).1 hy with rfl | ⟨h3, h4⟩
      · simp
      · simp only [if_neg h4]; exact hV y h3
    | none =>
      rw [hl] at hfd
      have hf : foundB L ((A : Int), (N : Int)) = false := hfd.symm
      have hk := keys_set_new v hf
      have hown : ownN (keysL (setL L ((A : Int), (N : Int)) v)) = ownN (E.map (·.1)) + moreN (E.map (·.1)) A (lvN N) := by
        rw [own_perm hk, own_perm ((hp.symm).cons ((A : Int), (N : Int)))]
        have := own_cons ((A : Int), (N : Int)) ⟨A, N, rfl, hN, hA, hZ⟩ (E.map (·.1))
        simpa using this
      by_cases hfull : most < ((ownN (keysL (setL L ((A : Int), (N : Int)) v)) : Nat) : Int)
      · have e : setR most L ((A : Int), (N : Int)) v = (6, L) := by unfold setR; rw [if_neg hbad, if_pos hfull]
        rw [e]
        refine (set_full h1 A N v hA hN hZ hv0 hl (by omega) (by rw [← hown]; exact hfull)).mono ?_
        rintro e w' ⟨rfl, hx⟩
        exact ⟨rfl, ans_ext hAt hx⟩
      · have e : setR most L ((A : Int), (N : Int)) v = (0, setL L ((A : Int), (N : Int)) v) := by unfold setR; rw [if_neg hbad, if_neg hfull]
        rw [e]
        refine (set_new h1 A N v hA hN hZ hv0 hl (by omega) (by rw [← hown]; omega)).mono ?_
        rintro e w' ⟨rfl, m, nl, T', f', F', d, x, hF⟩
        refine ⟨rfl, F', ⟨_, _, T', f', some m, d, set_srt hs _ _, ?_, fun y hy => ?_, Int.not_lt.1 hfull⟩, x, hF⟩
        · rw [List.map_append]
          exact (List.perm_append_singleton _ _).trans ((hp.cons _).trans hk.symm)
        · rcases (set_mem hs _ v y).1 hy with rfl | ⟨h3, h4⟩
          · simp [setV]
          · simp only [setV, if_neg h4]; exact hV y h3

theorem del_at {w : World} {db : Nat} {most : Int} {L : Row} {F : List Nat} (h : DirAt w db most L F) (hlen : L.length ≤ 100000) (a n : Int) (a0 : 0 ≤ a) (a1 : a ≤ 4294967295) :
    Calls Tryz.prog 97 #[.pointer (some ⟨db, 0, none⟩), .agg #[.int .u32 a, .int .i64 n]] w fun e w' => e = .returned (.bool (foundB L (a, n))) ∧ DirAns w F db most (delL L (a, n)) w' := by
  have hAt := h
  obtain ⟨E, V, T, f, mb, h1, hs, hp, hV, hroom⟩ := h
  have hfd := lk_found hs hp (a, n)
  cases hl : lk E (a, n) with
  | none =>
    rw [hl] at hfd
    have hf : foundB L (a, n) = false := hfd.symm
    rw [hf, del_not hs hf]
    refine (del_no h1 a n hl).mono ?_
    rintro e w' ⟨rfl, hx⟩
    exact ⟨rfl, ans_ext hAt hx⟩
  | some l =>
    rw [hl] at hfd
    have hf : foundB L (a, n) = true := hfd.symm
    have hvp := h1.valid _ (lk_mem hl)
    obtain ⟨A, N, e, hN, hA, hZ⟩ := hvp
    simp only [Prod.mk.injEq] at e
    obtain ⟨rfl, rfl⟩ := e
    have hK : ownN (E.map (·.1)) = ownN (keysL L) := own_perm hp
    have hol := own_le (keysL L)
    have hkl : (keysL L).length = L.length := by simp [keysL]
    have hk := keys_del_found hs hf
    rw [hf]
    refine (del_yes h1 A N l hA hN hZ hl (by omega)).mono ?_
    rintro e w' ⟨rfl, T', f', m, d, x⟩
    have hown : ownN (keysL (delL L ((A : Int), (N : Int)))) ≤ ownN (keysL L) := by
      rw [own_perm hk, own_cons _ ⟨A, N, rfl, hN, hA, hZ⟩]; omega
    refine ⟨rfl, F, ⟨_, V, T', f', some m, d, del_srt hs _, ?_, fun y hy => hV y (del_mem.1 hy).1, by omega⟩, x, fun x hx => .inl hx⟩
    have h2 := (perm_map_delE hl).symm.trans (hp.trans hk)
    exact h2.cons_inv

theorem new_at (n : Int) (w : World) : Calls Tryz.prog 46 #[.int .i64 n] w fun e w' => e = .returned (.pointer (some ⟨w.heap.size, 0, none⟩)) ∧ Ext w w' ∧ DirAt w' w.heap.size (maxV n) [] [w.heap.size] := by
  refine (new_any n w).mono ?_
  rintro e w' ⟨rfl, hx, d⟩
  refine ⟨rfl, hx, _, _, _, _, _, d, List.Pairwise.nil, List.Perm.refl _, by simp, ?_⟩
  show (0 : Int) ≤ maxV n
  unfold maxV; split <;> omega

/-- What Look tells of what was found. -/
def numO (o : Option (PX × Int)) : Value := match o with
  | none => .tuple #[.int .i64 0, .bool false]
  | some x => .tuple #[.int .i64 x.2, .bool true]

theorem vp_32 {A : Nat} (hA : A < 4294967296) : Vp ((A : Int), 32) := ⟨A, 32, rfl, Nat.le_refl _, hA, by simp [Nat.mod_one]⟩

theorem last_is {L : Row} (hs : Srt L) (hv : ∀ x ∈ L, Vp x.1) {A : Nat} (hA : A < 4294967296) {p : PX} {u : Int} (hm : (p, u) ∈ L) (hc : cov p ((A : Int), 32) = true) (hmax : ∀ x ∈ L, cov x.1 ((A : Int), 32) = true → x.1.2 ≤ p.2) : lastF none (covL L ((A : Int), 32)) = some (p, u) := by
  have hv32 := vp_32 hA
  have hcl : covL L ((A : Int), 32) = L.filter fun x => cov x.1 ((A : Int), 32) := by
    unfold covL; rw [if_pos hv32.is]
  have hpc : (p, u) ∈ covL L ((A : Int), 32) := by rw [hcl]; exact List.mem_filter.2 ⟨hm, hc⟩
  cases hl : lastF none (covL L ((A : Int), 32)) with
  | none => rw [lastF_none hl] at hpc; cases hpc
  | some x =>
    obtain ⟨B, hB⟩ := lastF_split hl (fun e => by rw [e] at hpc; cases hpc)
    have hsc : Srt (covL L ((A : Int), 32)) := by rw [hcl]; exact List.Pairwise.filter _ hs
    have hxc : x ∈ covL L ((A : Int), 32) := by rw [hB]; simp
    rw [hcl] at hxc
    obtain ⟨hxL, hxp⟩ := List.mem_filter.1 hxc
    rw [hB] at hpc hsc
    rcases List.mem_append.1 hpc with h | h
    · exfalso
      have hb := (List.pairwise_append.1 hsc).2.2 _ h x (by simp)
      simp only at hb
      have hle := hmax x hxL hxp
      have hcov := cov_two (hv x hxL) (hv _ hm) hv32 hxp hc hle
      by_cases e : x.1 = p
      · rw [e, bef_irr] at hb; cases hb
      · have := bef_trans hb (cov_bef (hv x hxL) (hv _ hm) hcov e)
        rw [bef_irr] at this; cases this
    · rw [List.mem_singleton.1 h]

theorem look_at {w : World} {db : Nat} {most : Int} {L : Row} {F : List Nat} (h : DirAt w db most L F) (a : Int) (a0 : 0 ≤ a) (a1 : a ≤ 4294967295) :
    Calls Tryz.prog 76 #[.pointer (some ⟨db, 0, none⟩), .int .u32 a] w fun e w' => e = .returned (numO (lastF none (covL L (a, 32)))) ∧ w' = w := by
  have hval := h.valid
  obtain ⟨E, V, T, f, mb, h1, hs, hp, hV, hroom⟩ := h
  obtain ⟨A, rfl⟩ : ∃ A : Nat, a = (A : Int) := ⟨a.toNat, by omega⟩
  have hA : A < 4294967296 := by omega
  refine (look_in h1 hA).mono ?_
  rintro e w' ⟨⟨o, hb, rfl⟩, rfl⟩
  refine ⟨?_, rfl⟩
  have toE : ∀ x ∈ L, ∃ b, (x.1, b) ∈ E := fun x hx => by
    obtain ⟨y, hy, e⟩ := List.mem_map.1 (hp.mem_iff.2 (List.mem_map.2 ⟨x, hx, rfl⟩))
    exact ⟨y.2, by rw [← e]; exact hy⟩
  cases o with
  | none =>
    have : covL L ((A : Int), 32) = [] := by
      unfold covL; rw [if_pos (vp_32 hA).is]
      refine List.filter_eq_nil_iff.2 fun x hx hc => ?_
      obtain ⟨b, hbE⟩ := toE x hx
      have hbd := (hval x hx).bd
      have := hb _ hbE (by simp only; omega) (by simp only; omega)
      simp only at this
      rw [hc] at this; cases this
    rw [this]; rfl
  | some b =>
    obtain ⟨p, k1, k2, k3, k4, k5⟩ := hb
    obtain ⟨x, hx, e⟩ := List.mem_map.1 (hp.mem_iff.1 (List.mem_map.2 ⟨_, k1, rfl⟩))
    simp only at e
    have hx' : (p, V p) ∈ L := by
      have := hV x hx
      rw [e] at this
      have e2 : x = (p, V p) := Prod.ext e this.symm
      rw [← e2]; exact hx
    rw [last_is hs hval hA hx' k4 (fun y hy hc => by
      obtain ⟨b', hbE⟩ := toE y hy
      have hbd := (hval y hy).bd
      exact k5 _ hbE (by simp only; omega) (by simp only; omega) hc)]
    show Ending.returned (.tuple #[.int .i64 (nvE E V b), .bool true]) = _
    rw [nvE_of h1.blks k1]
    rfl
end Go.Proofs.YtkfhkhgiojpfoaaGreat.Dr

namespace Go.Proofs.YtkfhkhgiojpfoaaGreat.Tri

open Go.RowKit Go.Proofs.YtkfhkhgiojpfoaaGreat

set_option linter.unusedVariables false

/-- What is answered of what was found. -/
def ansO (o : Option (PX × Int)) : Value := match o with
  | none => .tuple #[.agg #[.int .u32 0, .int .i64 0], .int .i64 0, .bool false]
  | some x => .tuple #[.agg #[.int .u32 x.1.1, .int .i64 x.1.2], .int .i64 x.2, .bool true]

theorem vp32 {a : Int} (h0 : 0 ≤ a) (h1 : a ≤ 4294967295) : Vp (a, 32) := by
  obtain ⟨A, rfl⟩ := Int.eq_ofNat_of_zero_le h0
  exact ⟨A, 32, rfl, by omega, by omega, by simp [Nat.mod_one]⟩

theorem has_cov (p : PX) (a : Int) : cov p (a, 32) = hasV p.1 p.2 a := by
  unfold cov coversV
  have h1 := holdV_bd p.2
  have h2 : holdV 32 = 32 := by decide
  simp only [h2]
  rw [decide_eq_true h1.2, Bool.true_and]
end Go.Proofs.YtkfhkhgiojpfoaaGreat.Tri

namespace Go.Proofs.YtkfhkhgiojpfoaaGreat.Fb

open Go.Proofs.YtkfhkhgiojpfoaaGreat Go.Proofs.YtkfhkhgiojpfoaaGreat.Rb

open Go.Proofs.YtkfhkhgiojpfoaaGreat.Tri (PX Row Vp cov bef covL lastF delL foundB)

open Go.Proofs.YtkfhkhgiojpfoaaGreat.Dr (keysL ownN hv cntD)

set_option linter.unusedVariables false

set_option linter.unusedSimpArgs false

def pxR (r : Rt) : PX := (r.a, r.l)

def rowF : List Rt → Nat → Row
  | [], _ => []
  | r :: A, i => (pxR r, (i : Int)) :: rowF A (i + 1)

/-- The row of ways: each prefix with its place. -/
def rowOf (A : List Rt) : Row := rowF A 0

/-- In order of their prefixes, each of which is one. -/
structure Pf (A : List Rt) : Prop where
  srt : A.Pairwise PLt
  vp : ∀ x ∈ A, Vp (pxR x)
  len : A.length ≤ 256

theorem keys_row : ∀ (A : List Rt) (i : Nat), keysL (rowF A i) = A.map pxR
  | [], _ => rfl
  | r :: A, i => by
    have := keys_row A (i + 1)
    unfold keysL at *
    simp [rowF, this]

theorem rowF_mem : ∀ {A : List Rt} {i : Nat} {x : PX × Int}, x ∈ rowF A i ↔ ∃ (k : Nat) (r : Rt), A[k]? = some r ∧ x = (pxR r, ((i + k : Nat) : Int))
  | [], i, x => by simp [rowF]
  | r :: A, i, x => by
    have ih := @rowF_mem A (i + 1) x
    simp only [rowF, List.mem_cons]
    constructor
    · rintro (rfl | h)
      · exact ⟨0, r, rfl, by simp⟩
      · obtain ⟨k, s, h1, h2⟩ := ih.1 h
        exact ⟨k + 1, s, by simpa using h1, by rw [h2]; congr 2; omega⟩
    · rintro ⟨k, s, h1, h2⟩
      cases k with
      | zero =>
        obtain rfl : r = s := by simpa using h1
        exact .inl (by simpa using h2)
      | succ k => exact .inr (ih.2 ⟨k, s, by simpa using h1, by rw [h2]; congr 2; omega⟩)

theorem rowOf_mem {A : List Rt} {x : PX × Int} : x ∈ rowOf A ↔ ∃ (k : Nat) (r : Rt), A[k]? = some r ∧ x = (pxR r, (k : Int)) := by
  unfold rowOf
  rw [rowF_mem]
  simp

theorem bef_px {x y : Rt} : bef (pxR x) (pxR y) = true ↔ PLt x y := by
  rw [Tri.bef_iff]
  rfl

theorem rowF_srt : ∀ {A : List Rt} (i : Nat), A.Pairwise PLt → Tri.Srt (rowF A i)
  | [], i, h => List.Pairwise.nil
  | r :: A, i, h => by
    obtain ⟨h1, h2⟩ := List.pairwise_cons.1 h
    refine List.pairwise_cons.2 ⟨fun x hx => ?_, rowF_srt (i + 1) h2⟩
    obtain ⟨k, s, e1, e2⟩ := rowF_mem.1 hx
    rw [e2]
    exact bef_px.2 (h1 s (List.mem_of_getElem? e1))

theorem Pf.row {A : List Rt} (h : Pf A) : Tri.Srt (rowOf A) := rowF_srt 0 h.srt

theorem row_len : ∀ (A : List Rt) (i : Nat), (rowF A i).length = A.length
  | [], i => rfl
  | r :: A, i => by simp [rowF, row_len A (i + 1)]

theorem plt_ne {x y : Rt} (h : PLt x y) : pxR x ≠ pxR y := fun e => by
  unfold pxR at e
  simp only [Prod.mk.injEq] at e
  unfold PLt at h
  omega

theorem Pf.ne {A : List Rt} (h : Pf A) {i j : Nat} {x y : Rt} (hx : A[i]? = some x) (hy : A[j]? = some y) (hij : i ≠ j) : pxR x ≠ pxR y := by
  obtain ⟨hi, rfl⟩ := List.getElem?_eq_some_iff.1 hx
  obtain ⟨hj, rfl⟩ := List.getElem?_eq_some_iff.1 hy
  have hp := List.pairwise_iff_getElem.1 h.srt
  rcases Nat.lt_or_ge i j with hlt | hge
  · exact plt_ne (hp i j hi hj hlt)
  · exact fun e => plt_ne (hp j i hj hi (by omega)) e.symm

/-! What goes. -/

/-- The row behind the first k: those that have no way any more are gone. -/
def delK (g : Rt → Bool) (A : List Rt) : Nat → Row
  | 0 => rowOf A
  | k + 1 => match A[k]? with
    | some r => if g r = true then delL (delK g A k) (pxR r) else delK g A k
    | none => delK g A k

theorem delK_mem (g : Rt → Bool) (A : List Rt) (x : PX × Int) : ∀ k, x ∈ delK g A k ↔ x ∈ rowOf A ∧ ∀ j r, j < k → A[j]? = some r → g r = true → x.1 ≠ pxR r
  | 0 => by simp [delK]
  | k + 1 => by
    have ih := delK_mem g A x k
    cases hr : A[k]? with
    | none =>
      have e : delK g A (k + 1) = delK g A k := by simp only [delK, hr]
      rw [e, ih]
      refine and_congr_right fun _ => ⟨fun h j r hj hx hg => ?_, fun h j r hj hx hg => h j r (by omega) hx hg⟩
      rcases Nat.lt_or_ge j k with h1 | h1
      · exact h j r h1 hx hg
      · obtain rfl : j = k := by omega
        rw [hr] at hx; cases hx
    | some r0 =>
      by_cases hg0 : g r0 = true
      · have e : delK g A (k + 1) = delL (delK g A k) (pxR r0) := by simp only [delK, hr, hg0, if_true]
        rw [e, Tri.del_mem, ih, and_assoc]
        refine and_congr_right fun _ => ⟨fun h j r hj hx hg => ?_, fun h => ⟨fun j r hj hx hg => h j r (by omega) hx hg, h k r0 (by omega) hr hg0⟩⟩
        rcases Nat.lt_or_ge j k with h1 | h1
        · exact h.1 j r h1 hx hg
        · obtain rfl : j = k := by omega
          rw [hr] at hx; cases hx; exact h.2
      · have e : delK g A (k + 1) = delK g A k := by simp only [delK, hr, hg0, Bool.false_eq_true, if_false]
        rw [e, ih]
        refine and_congr_right fun _ => ⟨fun h j r hj hx hg => ?_, fun h j r hj hx hg => h j r (by omega) hx hg⟩
        rcases Nat.lt_or_ge j k with h1 | h1
        · exact h j r h1 hx hg
        · obtain rfl : j = k := by omega
          rw [hr] at hx; cases hx; exact absurd hg hg0

theorem delL_len (D : Row) (p : PX) : (delL D p).length ≤ D.length := List.length_filter_le _ _

theorem delK_len (g : Rt → Bool) (A : List Rt) : ∀ k, (delK g A k).length ≤ A.length
  | 0 => by unfold delK rowOf; rw [row_len]; exact Nat.le_refl _
  | k + 1 => by
    have ih := delK_len g A k
    unfold delK
    split
    · split
      · exact Nat.le_trans (delL_len _ _) ih
      · exact ih
    · exact ih

theorem delK_srt (g : Rt → Bool) {A : List Rt} (h : Pf A) : ∀ k, Tri.Srt (delK g A k)
  | 0 => h.row
  | k + 1 => by
    have ih := delK_srt g h k
    unfold delK
    split
    · split
      · exact Tri.del_srt ih _
      · exact ih
    · exact ih

/-! What comes. -/

def setK (D : Row) (A : List Rt) : Nat → Row
  | 0 => D
  | k + 1 => match A[k]? with
    | some r => Tri.setL (setK D A k) (pxR r) (k : Int)
    | none => setK D A k

theorem setK_srt {D : Row} (hD : Tri.Srt D) (A : List Rt) : ∀ k, Tri.Srt (setK D A k)
  | 0 => hD
  | k + 1 => by
    have ih := setK_srt hD A k
    unfold setK
    split
    · exact Tri.set_srt ih _ _
    · exact ih

theorem setL_len (D : Row) (p : PX) (v : Int) : (Tri.setL D p v).length ≤ D.length + 1 := by
  cases h : foundB D p with
  | true => rw [Tri.setL_found v h, List.length_set]; omega
  | false =>
    rw [Tri.setL_new v h]
    have := Tri.placeN_le D p
    simp only [List.length_append, List.length_take, List.length_cons, List.length_drop]
    omega

theorem setK_len (D : Row) (A : List Rt) : ∀ k, (setK D A k).length ≤ D.length + k
  | 0 => Nat.le_refl _
  | k + 1 => by
    have ih := setK_len D A k
    unfold setK
    split
    · have := setL_len (setK D A k) (pxR ‹Rt›) (k : Int); omega
    · omega

theorem setK_mem {D : Row} (hD : Tri.Srt D) {A : List Rt} (h : Pf A) (x : PX × Int) : ∀ k, x ∈ setK D A k ↔ (∃ (j : Nat) (r : Rt), j < k ∧ A[j]? = some r ∧ x = (pxR r, (j : Int))) ∨ (x ∈ D ∧ ∀ j r, j < k → A[j]? = some r → x.1 ≠ pxR r)
  | 0 => by simp [setK]
  | k + 1 => by
    have ih := setK_mem hD h x k
    cases hr : A[k]? with
    | none =>
      have e : setK D A (k + 1) = setK D A k := by simp only [setK, hr]
      rw [e, ih]
      have no : ∀ j r, j < k + 1 → A[j]? = some r → j < k := fun j r hj hx => by
        rcases Nat.lt_or_ge j k with h1 | h1
        · exact h1
        · obtain rfl : j = k := by omega
          rw [hr] at hx; cases hx
      refine or_congr ⟨fun ⟨j, r, h1, h2, h3⟩ => ⟨j, r, by omega, h2, h3⟩, fun ⟨j, r, h1, h2, h3⟩ => ⟨j, r, no j r h1 h2, h2, h3⟩⟩ (and_congr_right fun _ => ⟨fun hh j r h1 h2 => hh j r (no j r h1 h2) h2, fun hh j r h1 h2 => hh j r (by omega) h2⟩)
    | some r0 =>
      have e : setK D A (k + 1) = Tri.setL (setK D A k) (pxR r0) (k : Int) := by simp only [setK, hr]
      rw [e, Tri.set_mem (setK_srt hD A k), ih]
      constructor
      · rintro (rfl | ⟨⟨j, r, h1, h2, h3⟩ | ⟨h1, h2⟩, hne⟩)
        · exact .inl ⟨k, r0, by omega, hr, rfl⟩
        · exact .inl ⟨j, r, by omega, h2, h3⟩
        · refine .inr ⟨h1, fun j r hj hx => ?_⟩
          rcases Nat.lt_or_ge j k with h3 | h3
          · exact h2 j r h3 hx
          · obtain rfl : j = k := by omega
            rw [hr] at hx; cases hx; exact hne
      · rintro (⟨j, r, h1, h2, h3⟩ | ⟨h1, h2⟩)
        · rcases Nat.lt_or_ge j k with h4 | h4
          · refine .inr ⟨.inl ⟨j, r, h4, h2, h3⟩, ?_⟩
            rw [h3]
            exact h.ne h2 hr (by omega)
          · obtain rfl : j = k := by omega
            rw [hr] at h2; cases h2; exact .inl h3
        · exact .inr ⟨.inr ⟨h1, fun j r hj hx => h2 j r (by omega) hx⟩, h2 k r0 (by omega) hr⟩

/-- Brought to the new ways. -/
theorem laid_row {g : Rt → Bool} {A B : List Rt} (hA : Pf A) (hB : Pf B) (hg : ∀ r ∈ A, g r = false → ∃ s ∈ B, pxR s = pxR r) : setK (delK g A A.length) B B.length = rowOf B := by
  refine Tri.srt_ext (setK_srt (delK_srt g hA _) B _) hB.row fun x => ?_
  rw [setK_mem (delK_srt g hA _) hB, rowOf_mem]
  constructor
  · rintro (⟨j, r, h1, h2, h3⟩ | ⟨h1, h2⟩)
    · exact ⟨j, r, h2, h3⟩
    · exfalso
      obtain ⟨h3, h4⟩ := (delK_mem g A x _).1 h1
      obtain ⟨k, r, h5, h6⟩ := rowOf_mem.1 h3
      have hk := (List.getElem?_eq_some_iff.1 h5).1
      have hgr : g r = false := by
        cases e : g r with
        | false => rfl
        | true => exact absurd (by rw [h6]) (h4 k r hk h5 e)
      obtain ⟨s, hs, e⟩ := hg r (List.mem_of_getElem? h5) hgr
      obtain ⟨m, hm, rfl⟩ := List.getElem_of_mem hs
      exact h2 m _ hm (List.getElem?_eq_getElem hm) (by rw [h6, e])
  · rintro ⟨k, r, h1, h2⟩
    exact .inl ⟨k, r, (List.getElem?_eq_some_iff.1 h1).1, h1, h2⟩

/-! How many blocks. -/

theorem cnt_drop (x : Nat) : ∀ l : List Nat, cntD (l.filter (fun y => decide (y ≠ x))) + (if x ∈ l then 1 else 0) = cntD l
  | [] => rfl
  | y :: l => by
    have ih := cnt_drop x l
    by_cases e : y = x
    · subst e
      have h1 : (y :: l).filter (fun z => decide (z ≠ y)) = l.filter (fun z => decide (z ≠ y)) := by simp
      rw [h1]
      simp only [cntD, List.mem_cons, true_or, if_true]
      by_cases h : y ∈ l
      · rw [if_pos h] at ih ⊢; omega
      · rw [if_neg h] at ih ⊢; omega
    · have h1 : (y :: l).filter (fun z => decide (z ≠ x)) = y :: l.filter (fun z => decide (z ≠ x)) := by simp [e]
      rw [h1]
      have h2 : y ∈ l.filter (fun z => decide (z ≠ x)) ↔ y ∈ l := by simp [e]
      have h3 : x ∈ y :: l ↔ x ∈ l := by
        rw [List.mem_cons]
        exact ⟨fun h => h.resolve_left (fun h => e h.symm), .inr⟩
      simp only [cntD, h2, h3]
      omega

theorem cnt_sub : ∀ (l m : List Nat), (∀ x ∈ l, x ∈ m) → cntD l ≤ cntD m
  | [], m, _ => Nat.zero_le _
  | x :: l, m, h => by
    have hl : ∀ y ∈ l, y ∈ m := fun y hy => h y (List.mem_cons_of_mem _ hy)
    by_cases hx : x ∈ l
    · simp only [cntD, hx, if_true]
      exact cnt_sub l m hl
    · simp only [cntD, hx, if_false]
      have h1 := cnt_drop x m
      rw [if_pos (h x (by simp))] at h1
      have h2 := cnt_sub l (m.filter (fun y => decide (y ≠ x))) fun y hy => List.mem_filter.2 ⟨hl y hy, by simpa using fun e : y = x => hx (e ▸ hy)⟩
      omega

theorem own_sub {K M : List PX} (h : ∀ p ∈ K, p ∈ M) : ownN K ≤ ownN M := by
  unfold ownN
  have key : ∀ j, cntD (hv j K) ≤ cntD (hv j M) := fun j => cnt_sub _ _ fun x hx => by
    unfold hv at *
    obtain ⟨p, hp, rfl⟩ := List.mem_map.1 hx
    obtain ⟨h1, h2⟩ := List.mem_filter.1 hp
    exact List.mem_map.2 ⟨p, List.mem_filter.2 ⟨h p h1, h2⟩, rfl⟩
  have := key 1
  have := key 2
  omega

/-- How many blocks these ways own. -/
def ownA (A : List Rt) : Nat := ownN (A.map pxR)

theorem own_row (A : List Rt) : ownN (keysL (rowOf A)) = ownA A := by
  unfold rowOf ownA
  rw [keys_row]

/-- None that comes is refused. -/
theorem set_room {g : Rt → Bool} {A B : List Rt} (hA : Pf A) (hB : Pf B) (hg : ∀ r ∈ A, g r = false → ∃ s ∈ B, pxR s = pxR r) {k : Nat} : ownN (keysL (setK (delK g A A.length) B k)) ≤ ownA B := by
  refine own_sub fun p hp => ?_
  obtain ⟨x, hx, rfl⟩ := List.mem_map.1 hp
  rcases (setK_mem (delK_srt g hA _) hB x k).1 hx with ⟨j, r, h1, h2, h3⟩ | ⟨h1, h2⟩
  · rw [h3]
    exact List.mem_map.2 ⟨r, List.mem_of_getElem? h2, rfl⟩
  · obtain ⟨h3, h4⟩ := (delK_mem g A x _).1 h1
    obtain ⟨i, r, h5, h6⟩ := rowOf_mem.1 h3
    have hk := (List.getElem?_eq_some_iff.1 h5).1
    have hgr : g r = false := by
      cases e : g r with
      | false => rfl
      | true => exact absurd (by rw [h6]) (h4 i r hk h5 e)
    obtain ⟨s, hs, e⟩ := hg r (List.mem_of_getElem? h5) hgr
    rw [h6]
    exact List.mem_map.2 ⟨s, hs, e⟩

/-! What is active. -/

theorem actN_mono {L : List Rt} {t : Int} {U : List Bool} {x : Rt} {k : Nat} (h : x ∈ actN L t U k) : ∀ c, x ∈ actN L t U (k + c)
  | 0 => h
  | c + 1 => by
    rw [← Nat.add_assoc]
    unfold actN
    exact List.mem_append_left _ (actN_mono h c)

/-- The best way of a prefix is active. -/
theorem act_has {L : List Rt} {t a l : Int} {U : List Bool} {b : Rt} (h : bestO L t a l U = some b) : b ∈ actL L t U := by
  have hm := (bestL_is h).1
  have hne : ∃ (j : Nat) (r : Rt), L[j]? = some r ∧ selB t a l r = true := by
    obtain ⟨h1, h2⟩ := List.mem_filter.1 hm
    obtain ⟨j, hj, rfl⟩ := List.getElem_of_mem h1
    exact ⟨j, _, List.getElem?_eq_getElem hj, h2⟩
  have hl : ∀ n : Nat, (∃ j : Nat, j < n ∧ ∃ r, L[j]? = some r ∧ selB t a l r = true) → ∃ j : Nat, (∃ r, L[j]? = some r ∧ selB t a l r = true) ∧ ∀ (i : Nat) (r : Rt), i < j → L[i]? = some r → selB t a l r = false := by
    intro n
    induction n with
    | zero => rintro ⟨j, hj, _⟩; omega
    | succ n ih =>
      rintro ⟨j, hj, r, h1, h2⟩
      by_cases hb : ∃ j : Nat, j < n ∧ ∃ r, L[j]? = some r ∧ selB t a l r = true
      · exact ih hb
      · refine ⟨j, ⟨r, h1, h2⟩, fun i s hi hs => ?_⟩
        cases e : selB t a l s with
        | false => rfl
        | true => exact absurd ⟨i, by omega, s, hs, e⟩ hb
  obtain ⟨j0, r0, h1, h2⟩ := hne
  obtain ⟨j, ⟨r, hr, hsr⟩, hf⟩ := hl (j0 + 1) ⟨j0, by omega, r0, h1, h2⟩
  obtain ⟨e1, e2, e3⟩ := (selB_iff _ _ _ _).1 hsr
  have hfirst : firstB L t j = true := by
    unfold firstB
    rw [hr]
    simp only [e1, decide_true, Bool.true_and]
    cases j with
    | zero => rfl
    | succ i =>
      have hi := (List.getElem?_eq_some_iff.1 hr).1
      obtain ⟨q, hq⟩ : ∃ q, L[i]? = some q := ⟨_, List.getElem?_eq_getElem (by omega)⟩
      have := hf i q (by omega) hq
      rw [e2, e3]
      simp only [hq, this]
      rfl
  have hjl := (List.getElem?_eq_some_iff.1 hr).1
  have hin : b ∈ actN L t U (j + 1) := by
    unfold actN
    rw [if_pos hfirst, hr]
    refine List.mem_append_right _ ?_
    simp only [e2, e3, h]
    simp
  have := actN_mono hin (L.length - (j + 1))
  rw [show j + 1 + (L.length - (j + 1)) = L.length by omega] at this
  exact this

theorem act_is {L : List Rt} {t : Int} {U : List Bool} {b : Rt} (h : b ∈ actL L t U) : bestO L t b.a b.l U = some b ∧ b ∈ L ∧ b.t = t ∧ upB U b.i = true := by
  have h1 := (act_best h).1
  obtain ⟨h2, h3⟩ := bestL_is h1
  obtain ⟨h4, h5⟩ := List.mem_filter.1 h2
  exact ⟨h1, h4, ((selB_iff _ _ _ _).1 h5).1, h3⟩

theorem isR_vp {r : Rt} (hi : isR r = true) (ho : RtOk r) : Vp (pxR r) := by
  obtain ⟨-, -, a0, a1, -⟩ := ho
  exact Tri.vp_of a0 a1 ((isR_iff r).1 hi).2.2.1

theorem act_pf {L : List Rt} (h : Rb.Good L) (t : Int) (U : List Bool) : Pf (actL L t U) :=
  ⟨act_sorted h.srt _, fun x hx => isR_vp (h.is x (act_is hx).2.1) (h.ok x (act_is hx).2.1), Nat.le_trans (actN_len _ _ _ _) h.len⟩

theorem act_gone {L : List Rt} {t : Int} {U : List Bool} {r : Rt} (h : (bestO L t r.a r.l U).isSome = true) : ∃ s ∈ actL L t U, pxR s = pxR r := by
  obtain ⟨b, hb⟩ := Option.isSome_iff_exists.1 h
  refine ⟨b, act_has hb, ?_⟩
  obtain ⟨h4, h5⟩ := List.mem_filter.1 (bestL_is hb).1
  obtain ⟨e1, e2, e3⟩ := (selB_iff _ _ _ _).1 h5
  unfold pxR
  rw [e2, e3]

/-! The way to an address. -/

def lookO (A : List Rt) (a : Int) : Option Rt := match lastF none (covL (rowOf A) (a, 32)) with
  | none => none
  | some x => A[x.2.toNat]?

/-- This is the way to that address. -/
def IsWay (A : List Rt) (a : Int) (o : Option Rt) : Prop := match o with
  | none => ∀ s ∈ A, cov (pxR s) (a, 32) = false
  | some r => r ∈ A ∧ cov (pxR r) (a, 32) = true ∧ ∀ s ∈ A, cov (pxR s) (a, 32) = true → s.l ≤ r.l

theorem way_unique {A : List Rt} (h : Pf A) {a : Int} (a0 : 0 ≤ a) (a1 : a ≤ 4294967295) {o o' : Option Rt} (h1 : IsWay A a o) (h2 : IsWay A a o') : o = o' := by
  cases o with
  | none =>
    cases o' with
    | none => rfl
    | some r =>
      obtain ⟨k1, k2, _⟩ := h2
      have := h1 r k1
      rw [k2] at this; cases this
  | some r =>
    cases o' with
    | none =>
      obtain ⟨k1, k2, _⟩ := h1
      have := h2 r k1
      rw [k2] at this; cases this
    | some r' =>
      obtain ⟨k1, k2, k3⟩ := h1
      obtain ⟨m1, m2, m3⟩ := h2
      have e : r.l = r'.l := Int.le_antisymm (m3 r k1 k2) (k3 r' m1 m2)
      have hv := Tri.vp32 a0 a1
      have hc := Tri.cov_two (h.vp r k1) (h.vp r' m1) hv k2 m2 (by show r.l ≤ r'.l; omega)
      have hp := Tri.cov_eq (h.vp r k1) (h.vp r' m1) hc (by show r'.l ≤ r.l; omega)
      obtain ⟨i, hi, rfl⟩ := List.getElem_of_mem k1
      obtain ⟨j, hj, rfl⟩ := List.getElem_of_mem m1
      by_cases hij : i = j
      · subst hij; rfl
      · exact absurd hp (h.ne (List.getElem?_eq_getElem hi) (List.getElem?_eq_getElem hj) hij)

theorem last_row {A : List Rt} (h : Pf A) {a : Int} (a0 : 0 ≤ a) (a1 : a ≤ 4294967295) {x : PX × Int} (hx : lastF none (covL (rowOf A) (a, 32)) = some x) : ∃ (k : Nat) (r : Rt), A[k]? = some r ∧ x = (pxR r, (k : Int)) ∧ lookO A a = some r := by
  have hv := Tri.vp32 a0 a1
  have hm : x ∈ covL (rowOf A) (a, 32) := (Tri.lastF_mem hx).resolve_right (by simp)
  have hm2 : x ∈ rowOf A := by
    unfold covL at hm
    rw [if_pos hv.is] at hm
    exact (List.mem_filter.1 hm).1
  obtain ⟨k, r, h1, h2⟩ := rowOf_mem.1 hm2
  refine ⟨k, r, h1, h2, ?_⟩
  unfold lookO
  rw [hx, h2]
  simpa using h1

theorem look_way {A : List Rt} (h : Pf A) {a : Int} (a0 : 0 ≤ a) (a1 : a ≤ 4294967295) : IsWay A a (lookO A a) := by
  have hv := Tri.vp32 a0 a1
  have hc : covL (rowOf A) (a, 32) = (rowOf A).filter fun x => cov x.1 (a, 32) := by unfold covL; rw [if_pos hv.is]
  cases hl : lastF none (covL (rowOf A) (a, 32)) with
  | none =>
    have e : lookO A a = none := by unfold lookO; rw [hl]
    rw [e]
    intro s hs
    obtain ⟨k, hk, rfl⟩ := List.getElem_of_mem hs
    cases hcv : cov (pxR A[k]) (a, 32) with
    | false => rfl
    | true =>
      have h1 := Tri.lastF_none hl
      rw [hc] at h1
      have := List.filter_eq_nil_iff.1 h1 (pxR A[k], (k : Int)) (rowOf_mem.2 ⟨k, _, List.getElem?_eq_getElem hk, rfl⟩)
      exact absurd hcv this
  | some x =>
    obtain ⟨k, r, h1, h2, h3⟩ := last_row h a0 a1 hl
    rw [h3]
    have hm : x ∈ covL (rowOf A) (a, 32) := (Tri.lastF_mem hl).resolve_right (by simp)
    rw [hc] at hm
    have hcx := (List.mem_filter.1 hm).2
    rw [h2] at hcx
    refine ⟨List.mem_of_getElem? h1, hcx, fun s hs hcs => ?_⟩
    obtain ⟨j, hj, rfl⟩ := List.getElem_of_mem hs
    have hms : (pxR A[j], (j : Int)) ∈ covL (rowOf A) (a, 32) := by
      rw [hc]
      exact List.mem_filter.2 ⟨rowOf_mem.2 ⟨j, _, List.getElem?_eq_getElem hj, rfl⟩, hcs⟩
    obtain ⟨B, hB⟩ := Tri.lastF_split hl (fun e => by rw [e] at hms; cases hms)
    have hsc : Tri.Srt (covL (rowOf A) (a, 32)) := by rw [hc]; exact List.Pairwise.filter _ h.row
    rw [hB] at hms hsc
    rcases List.mem_append.1 hms with hh | hh
    · have hb := (List.pairwise_append.1 hsc).2.2 _ hh x (by simp)
      rw [h2] at hb
      simp only at hb
      rcases Int.lt_or_le r.l A[j].l with hlt | hle
      · exfalso
        have hcov := Tri.cov_two (h.vp r (List.mem_of_getElem? h1)) (h.vp _ (List.getElem_mem hj)) hv hcx hcs (by show r.l ≤ A[j].l; omega)
        by_cases e : pxR r = pxR A[j]
        · rw [e, Tri.bef_irr] at hb; cases hb
        · have := Tri.bef_trans hb (Tri.cov_bef (h.vp r (List.mem_of_getElem? h1)) (h.vp _ (List.getElem_mem hj)) hcov e)
          rw [Tri.bef_irr] at this; cases this
      · exact hle
    · have e := List.mem_singleton.1 hh
      rw [h2] at e
      simp only [Prod.mk.injEq] at e
      have := congrArg Prod.snd e.1
      simp only [pxR] at this
      omega
end Go.Proofs.YtkfhkhgiojpfoaaGreat.Fb

namespace Go.Proofs.YtkfhkhgiojpfoaaGreat.Tri

set_option maxRecDepth 100000

open Go.RowKit Go.Proofs.YtkfhkhgiojpfoaaGreat

set_option linter.unusedVariables false

/-- A node's block. -/
abbrev ndO (q : PX) (th : Bool) (u : Int) (pl pr : Option Addr) : Obj := .cells #[.int .u32 q.1, .int .i64 q.2, .bool th, .int .i64 u, .pointer pl, .pointer pr] 192 (0, 0)

/-- The pointer a leads to the tree t. -/
def Is (w : World) : Sh → Option Addr → Prop
  | .nil, a => a = none
  | .node q th u l r, a => ∃ b pl pr, a = some ⟨b, 0, none⟩ ∧ w.heap[b]? = some (ndO q th u pl pr) ∧ Is w l pl ∧ Is w r pr

theorem Is.later {w w' : World} (hx : Ext w w') : ∀ {t : Sh} {a : Option Addr}, Is w t a → Is w' t a
  | .nil, _, h => h
  | .node q th u l r, _, ⟨b, pl, pr, h1, h2, h3, h4⟩ => ⟨b, pl, pr, h1, hx.heap h2, h3.later hx, h4.later hx⟩

/-- .. and its blocks are those of F, each once. -/
def At (w : World) : Sh → Option Addr → List Nat → Prop
  | .nil, a, F => a = none ∧ F = []
  | .node q th u l r, a, F => ∃ b pl pr Fl Fr, a = some ⟨b, 0, none⟩ ∧ F = b :: (Fl ++ Fr) ∧ w.heap[b]? = some (ndO q th u pl pr) ∧ At w l pl Fl ∧ At w r pr Fr ∧ b ∉ Fl ∧ b ∉ Fr ∧ ∀ x ∈ Fl, x ∉ Fr

theorem At.is {w : World} : ∀ {t : Sh} {a : Option Addr} {F : List Nat}, At w t a F → Is w t a
  | .nil, _, _, h => h.1
  | .node q th u l r, _, _, ⟨b, pl, pr, Fl, Fr, h1, _, h2, h3, h4, _⟩ => ⟨b, pl, pr, h1, h2, h3.is, h4.is⟩

theorem At.lt {w : World} : ∀ {t : Sh} {a : Option Addr} {F : List Nat}, At w t a F → ∀ b ∈ F, b < w.heap.size
  | .nil, _, _, ⟨_, h⟩, b, hb => by subst h; simp at hb
  | .node q th u l r, _, _, ⟨b, pl, pr, Fl, Fr, _, hF, h2, h3, h4, _⟩, x, hx => by
    subst hF
    rcases List.mem_cons.1 hx with rfl | hx
    · exact heap_lt h2
    · rcases List.mem_append.1 hx with hx | hx
      · exact h3.lt x hx
      · exact h4.lt x hx

theorem At.later {w w' : World} {G : List Nat} (hx : ExtS G w w') : ∀ {t : Sh} {a : Option Addr} {F : List Nat}, At w t a F → (∀ b ∈ F, b ∉ G) → At w' t a F
  | .nil, _, _, h, _ => h
  | .node q th u l r, _, _, ⟨b, pl, pr, Fl, Fr, h1, hF, h2, h3, h4, h5⟩, hd =>
    ⟨b, pl, pr, Fl, Fr, h1, hF, hx.heap (hd b (by subst hF; simp)) h2, h3.later hx (fun x hx' => hd x (by subst hF; simp [hx'])), h4.later hx (fun x hx' => hd x (by subst hF; simp [hx'])), h5⟩

theorem box_node {F : List Nat} {w : World} {b : Nat} {v0 v1 v2 v3 v4 v5 : Value} {t : TypeId} (h : w.heap[b]? = some (.cells #[v0, v1, v2, v3, v4, v5] t (0, 0))) (hb : b ∉ F) :
    (∀ w', ExtS F w w' → w'.cell? ⟨b, 0, none⟩ = some v0) ∧ (∀ w', ExtS F w w' → w'.cell? ⟨b, 1, none⟩ = some v1) ∧ (∀ w', ExtS F w w' → w'.cell? ⟨b, 2, none⟩ = some v2) ∧
    (∀ w', ExtS F w w' → w'.cell? ⟨b, 3, none⟩ = some v3) ∧ (∀ w', ExtS F w w' → w'.cell? ⟨b, 4, none⟩ = some v4) ∧ (∀ w', ExtS F w w' → w'.cell? ⟨b, 5, none⟩ = some v5) := by
  have hk : ∀ k w', ExtS F w w' → w'.cell? ⟨b, k, none⟩ = #[v0, v1, v2, v3, v4, v5][k]? := fun k w' hx => heap_cell (hx.heap hb h)
  exact ⟨hk 0, hk 1, hk 2, hk 3, hk 4, hk 5⟩

theorem box_nodeE {w : World} {b : Nat} {v0 v1 v2 v3 v4 v5 : Value} {t : TypeId} (h : w.heap[b]? = some (.cells #[v0, v1, v2, v3, v4, v5] t (0, 0))) {W : World} (hW : Ext w W) :
    (∀ w', Ext W w' → w'.cell? ⟨b, 0, none⟩ = some v0) ∧ (∀ w', Ext W w' → w'.cell? ⟨b, 1, none⟩ = some v1) ∧ (∀ w', Ext W w' → w'.cell? ⟨b, 2, none⟩ = some v2) ∧
    (∀ w', Ext W w' → w'.cell? ⟨b, 3, none⟩ = some v3) ∧ (∀ w', Ext W w' → w'.cell? ⟨b, 4, none⟩ = some v4) ∧ (∀ w', Ext W w' → w'.cell? ⟨b, 5, none⟩ = some v5) := by
  have hk : ∀ k w', Ext W w' → w'.cell? ⟨b, k, none⟩ = #[v0, v1, v2, v3, v4, v5][k]? := fun k w' hx => heap_cell ((hW.trans hx).heap h)
  exact ⟨hk 0, hk 1, hk 2, hk 3, hk 4, hk 5⟩

theorem half_any (a n : Int) (w : World) (n0 : 0 ≤ n) (n1 : n ≤ 32) :
    Calls Tryz.prog 140 #[.int .u32 a, .int .i64 n] w fun e w' => e = .returned (.int .i64 (halfV a n)) ∧ w' = w := by
  have hb := half_01 a n
  unfold halfV at *
  go_enter Tryz.func140, Tryz.ntmps140
  go_wp2
  go_ret
  exact ⟨rfl, rfl⟩

theorem covering_nil (c m : Int) (w : World) : Calls Tryz.prog 158 #[.pointer none, .agg #[.int .u32 c, .int .i64 m]] w fun e w' => e = .returned (.pointer none) ∧ Ext w w' := by
  obtain ⟨hx0, hb0, hb1⟩ := boxed2 w (.int .u32 c) (.int .i64 m) 42
  go_enter Tryz.func158, Tryz.ntmps158
  go_wp2
  refine wp_region_eager [(0, false), (1, false), (2, false), (3, false), (4, false), (5, false), (6, false), (7, false), (8, true), (9, false), (10, false)] (by kernel_rfl) (by kernel_rfl) rfl (by kernel_rfl) (fun _ _ _ _ _ h => h) ?_
  generalize (w.alloc (.cells #[.int .u32 c, .int .i64 m] 42)).drew = W at *
  repeat (first
    | (refine wpE_read (v := ?_) rfl (by rfl) ?_ ?_; rotate_left; (focus (intro w' hx; go_simp; first | done | with_reducible rfl)); simp only [Act.put, List.setIfInBounds_toArray, List.set_cons_zero, List.set_cons_succ])
    | (rw [wpE_skip_eq _ rfl (by rfl)]; simp only [Act.put, List.setIfInBounds_toArray, List.set_cons_zero, List.set_cons_succ]))
  refine wpE_done ?_
  go_wp2
  go_ret
  exact ⟨rfl, hx0⟩

theorem covering_node (b : Nat) (a n c m : Int) (v2 v3 v4 v5 : Value) (w : World) (a0 : 0 ≤ a) (a1 : a ≤ 4294967295) (c0 : 0 ≤ c) (c1 : c ≤ 4294967295)
    (hh : w.heap[b]? = some (.cells #[.int .u32 a, .int .i64 n, v2, v3, v4, v5] 192 (0, 0))) :
    Calls Tryz.prog 158 #[.pointer (some ⟨b, 0, none⟩), .agg #[.int .u32 c, .int .i64 m]] w fun e w' => e = .returned (.pointer (if coversV a n c m = true then some ⟨b, 0, none⟩ else none)) ∧ Ext w w' := by
  have k1 := fun w => covers_any a n c m w a0 a1 c0 c1
  obtain ⟨hx0, hb0, hb1⟩ := boxed2 w (.int .u32 c) (.int .i64 m) 42
  obtain ⟨n0, n1, -, -, -, -⟩ := box_nodeE hh hx0
  clear hh
  generalize hd : coversV a n c m = d at *
  clear hd
  cases d
  all_goals (
    go_enter Tryz.func158, Tryz.ntmps158
    go_wp2
    refine wp_region_eager [(0, false), (1, false), (2, false), (3, false), (4, false), (5, false), (6, false), (7, false), (8, true), (9, false), (10, false)] (by kernel_rfl) (by kernel_rfl) rfl (by kernel_rfl) (fun _ _ _ _ _ h => h) ?_
    generalize (w.alloc (.cells #[.int .u32 c, .int .i64 m] 42)).drew = W at *
    repeat (first
      | (refine wpE_read (v := ?_) rfl (by rfl) ?_ ?_; rotate_left; (focus (intro w' hx; go_simp; first | done | with_reducible rfl)); simp only [Act.put, List.setIfInBounds_toArray, List.set_cons_zero, List.set_cons_succ])
      | (refine wpE_call rfl (by rfl) (fun K hK => ?_); go_simp; first
          | (go_at_call 144; refine (k1 _).mono ?_; rintro e w1 ⟨rfl, hx1⟩; refine hK _ _ hx1 ?_; clear hK K)))
    refine wpE_done ?_
    go_wp2
    go_ret
    exact ⟨rfl, hx0.trans hx1⟩)
end Go.Proofs.YtkfhkhgiojpfoaaGreat.Tri

namespace Go.Proofs.YtkfhkhgiojpfoaaGreat.Tri

set_option maxRecDepth 100000

open Go.RowKit Go.Proofs.YtkfhkhgiojpfoaaGreat

set_option linter.unusedVariables false

theorem is_cov {w : World} {t : Sh} {a : Option Addr} (h : Is w t a) (p : PX) : Is w (covS t p) (covA t p a) := by
  cases t with
  | nil => exact rfl
  | node q th u l r =>
    simp only [covS, covA]
    split
    · exact h
    · exact rfl

theorem covering_any (t : Sh) (a : Option Addr) (c m : Int) (w : World) (h : Is w t a) (hw : WF t) (c0 : 0 ≤ c) (c1 : c ≤ 4294967295) :
    Calls Tryz.prog 158 #[.pointer a, .agg #[.int .u32 c, .int .i64 m]] w fun e w' => e = .returned (.pointer (covA t (c, m) a)) ∧ Ext w w' := by
  cases t with
  | nil =>
    obtain rfl : a = none := h
    exact covering_nil c m w
  | node q th u l r =>
    obtain ⟨b, pl, pr, rfl, hh, _, _⟩ := h
    have hb := hw.1.bd
    exact covering_node b q.1 q.2 c m _ _ _ _ w hb.1 hb.2.1 c0 c1 hh

theorem next_at (b : Nat) (a n c m i : Int) (v2 v3 : Value) (pl pr ka kb : Option Addr) (w : World) (n0 : 0 ≤ n) (n1 : n ≤ 32)
    (hi : i = 0 ∧ ka = pl ∨ i = 1 ∧ ka = pr) (hv : halfV c n = i)
    (hh : w.heap[b]? = some (.cells #[.int .u32 a, .int .i64 n, v2, v3, .pointer pl, .pointer pr] 192 (0, 0)))
    (kc : ∀ w', Ext w w' → Calls Tryz.prog 158 #[.pointer ka, .agg #[.int .u32 c, .int .i64 m]] w' fun e w2 => e = .returned (.pointer kb) ∧ Ext w' w2) :
    Calls Tryz.prog 152 #[.pointer (some ⟨b, 0, none⟩), .agg #[.int .u32 c, .int .i64 m]] w fun e w' => e = .returned (.pointer kb) ∧ Ext w w' := by
  have k1 := fun w => half_any c n w n0 n1
  rw [hv] at k1
  obtain ⟨hx0, hb0, hb1⟩ := boxed2 w (.int .u32 c) (.int .i64 m) 42
  obtain ⟨g0, g1, -, -, g4, g5⟩ := box_nodeE hh hx0
  clear hh hv
  rcases hi with ⟨rfl, rfl⟩ | ⟨rfl, rfl⟩
  all_goals (
    go_enter Tryz.func152, Tryz.ntmps152
    go_wp2
    refine wp_region_eager [(0, false), (1, false), (2, false), (3, false), (4, false), (5, false), (6, false), (7, false), (9, false), (10, false), (13, false), (8, true), (11, false), (12, false), (14, true), (15, false)] (by kernel_rfl) (by kernel_rfl) rfl (by kernel_rfl) (fun _ _ _ _ _ h => h) ?_
    generalize (w.alloc (.cells #[.int .u32 c, .int .i64 m] 42)).drew = W at *
    repeat (first
      | (refine wpE_read (v := ?_) rfl (by rfl) ?_ ?_; rotate_left; (focus (intro w' hx; go_simp; first | done | with_reducible rfl)); simp only [Act.put, List.setIfInBounds_toArray, List.set_cons_zero, List.set_cons_succ])
      | (refine wpE_call rfl (by rfl) (fun K hK => ?_); go_simp; first
          | (go_at_call 140; refine (k1 _).mono ?_; rintro e w1 ⟨rfl, rfl⟩; refine hK _ _ (Ext.refl _) ?_; clear hK K)
          | (go_at_call 158; refine (kc _ hx0).mono ?_; rintro e w2 ⟨rfl, hx2⟩; refine hK _ _ hx2 ?_; clear hK K)))
    refine wpE_done ?_
    go_wp2
    go_ret
    exact ⟨rfl, hx0.trans hx2⟩)

theorem next_any (b : Nat) (q : PX) (th : Bool) (u : Int) (l r : Sh) (pl pr : Option Addr) (c m : Int) (w : World) (hw : WF (.node q th u l r)) (c0 : 0 ≤ c) (c1 : c ≤ 4294967295)
    (hh : w.heap[b]? = some (ndO q th u pl pr)) (hl : Is w l pl) (hr : Is w r pr) :
    Calls Tryz.prog 152 #[.pointer (some ⟨b, 0, none⟩), .agg #[.int .u32 c, .int .i64 m]] w fun e w' => ∃ na, e = .returned (.pointer na) ∧ Is w' (covS (kidS (c, m) (.node q th u l r)) (c, m)) na ∧ Ext w w' := by
  have hb := hw.1.bd
  have wl := hw.2.2.2.2.1
  have wr := hw.2.2.2.2.2
  unfold kidS
  simp only
  split
  · rename_i h0
    refine (next_at b q.1 q.2 c m 0 _ _ pl pr pl _ w hb.2.2.1 hb.2.2.2 (.inl ⟨rfl, rfl⟩) h0 hh fun w' hx => covering_any l pl c m w' (hl.later hx) wl c0 c1).mono ?_
    rintro e w' ⟨rfl, hx⟩
    exact ⟨_, rfl, is_cov (hl.later hx) _, hx⟩
  · rename_i h0
    refine (next_at b q.1 q.2 c m 1 _ _ pl pr pr _ w hb.2.2.1 hb.2.2.2 (.inr ⟨rfl, rfl⟩) (not_half0 h0) hh fun w' hx => covering_any r pr c m w' (hr.later hx) wr c0 c1).mono ?_
    rintro e w' ⟨rfl, hx⟩
    exact ⟨_, rfl, is_cov (hr.later hx) _, hx⟩

/-- A pointer to a Trie, nil or not, and its root. -/
def Top (w : World) (rv root : Option Addr) : Prop :=
  (rv = none ∧ root = none) ∨ ∃ tb, rv = some ⟨tb, 0, none⟩ ∧ w.heap[tb]? = some (.cells #[.pointer root] 103 (0, 0))

theorem Top.later {w w' : World} {rv root : Option Addr} (h : Top w rv root) (hx : Ext w w') : Top w' rv root := by
  rcases h with h | ⟨tb, h1, h2⟩
  · exact .inl h
  · exact .inr ⟨tb, h1, hx.heap h2⟩

theorem top_any (rv root : Option Addr) (w : World) (h : Top w rv root) : Calls Tryz.prog 159 #[.pointer rv] w fun e w' => e = .returned (.pointer root) ∧ w' = w := by
  rcases h with ⟨rfl, rfl⟩ | ⟨tb, rfl, hh⟩
  · go_enter Tryz.func159, Tryz.ntmps159
    go_wp2
    go_ret
    exact ⟨rfl, rfl⟩
  · have hc : w.cell? ⟨tb, 0, none⟩ = some (.pointer root) := by rw [heap_cell hh]; rfl
    clear hh
    go_enter Tryz.func159, Tryz.ntmps159
    go_wp2
    go_ret
    exact ⟨rfl, rfl⟩

theorem first_at (rv root na : Option Addr) (c m : Int) (w : World) (h : Top w rv root) (c0 : 0 ≤ c) (c1 : c ≤ 4294967295) (hv : isV c m = true)
    (kc : ∀ w', Ext w w' → Calls Tryz.prog 158 #[.pointer root, .agg #[.int .u32 c, .int .i64 m]] w' fun e w2 => e = .returned (.pointer na) ∧ Ext w' w2) :
    Calls Tryz.prog 151 #[.pointer rv, .agg #[.int .u32 c, .int .i64 m]] w fun e w' => e = .returned (.pointer na) ∧ Ext w w' := by
  have k1 := fun w => is_any c m w c0 c1
  rw [hv] at k1
  have k2 := fun w' (hx : Ext w w') => top_any rv root w' (h.later hx)
  have hA : Ext w (w.alloc (.cells #[.int .u32 c, .int .i64 m] 42)) := (Ext.refl w).alloc _
  obtain ⟨b0, b1⟩ := box2 (w := w.alloc (.cells #[.int .u32 c, .int .i64 m] 42)) (heap_new w _) (w.heap.size + 1) (by omega)
  have hb0 : ∀ w', Ext (w.alloc (.cells #[.int .u32 c, .int .i64 m] 42)) w' → w'.cell? ⟨w.heap.size, 0, none⟩ = some (.int .u32 c) := fun w' hx => b0 w' (hx.but _)
  have hb1 : ∀ w', Ext (w.alloc (.cells #[.int .u32 c, .int .i64 m] 42)) w' → w'.cell? ⟨w.heap.size, 1, none⟩ = some (.int .i64 m) := fun w' hx => b1 w' (hx.but _)
  clear b0 b1 hv
  go_enter Tryz.func151, Tryz.ntmps151
  go_wp2_with (go_at_call 87; refine (k1 _).mono ?_; rintro e w1 ⟨rfl, hx1⟩)
  generalize (w.alloc (.cells #[.int .u32 c, .int .i64 m] 42)) = W at *
  refine wp_region_eager [(0, false), (2, false), (1, true), (3, true), (4, false)] (by kernel_rfl) (by kernel_rfl) rfl (by kernel_rfl) (fun _ _ _ _ _ h => h) ?_
  have hx2 : Ext W w1.drew := hx1.drew
  replace hb0 := fun w' h => hb0 w' (hx2.trans h)
  replace hb1 := fun w' h => hb1 w' (hx2.trans h)
  have hx3 : Ext w w1.drew := hA.trans hx2
  generalize w1.drew = W1 at *
  repeat (first
    | (refine wpE_read (v := ?_) rfl (by rfl) ?_ ?_; rotate_left; (focus (intro w' hx; go_simp; first | done | with_reducible rfl)); simp only [Act.put, List.setIfInBounds_toArray, List.set_cons_zero, List.set_cons_succ])
    | (refine wpE_call rfl (by rfl) (fun K hK => ?_); go_simp; first
        | (go_at_call 159; refine (k2 _ hx3).mono ?_; rintro e w3 ⟨rfl, rfl⟩; refine hK _ _ (Ext.refl _) ?_; clear hK K)
        | (go_at_call 158; refine (kc _ hx3).mono ?_; rintro e w2 ⟨rfl, hx4⟩; refine hK _ _ hx4 ?_; clear hK K)))
  refine wpE_done ?_
  go_wp2
  go_ret
  exact ⟨rfl, hx3.trans hx4⟩

theorem first_not (rv : Option Addr) (c m : Int) (w : World) (c0 : 0 ≤ c) (c1 : c ≤ 4294967295) (hv : isV c m = false) :
    Calls Tryz.prog 151 #[.pointer rv, .agg #[.int .u32 c, .int .i64 m]] w fun e w' => e = .returned (.pointer none) ∧ Ext w w' := by
  have k1 := fun w => is_any c m w c0 c1
  rw [hv] at k1
  have hA : Ext w (w.alloc (.cells #[.int .u32 c, .int .i64 m] 42)) := (Ext.refl w).alloc _
  clear hv
  go_enter Tryz.func151, Tryz.ntmps151
  go_wp2_with (go_at_call 87; refine (k1 _).mono ?_; rintro e w1 ⟨rfl, hx1⟩)
  go_ret
  exact ⟨rfl, hA.trans hx1⟩

theorem first_any (rv root : Option Addr) (t : Sh) (c m : Int) (w : World) (h : Top w rv root) (ht : Is w t root) (hw : WF t) (c0 : 0 ≤ c) (c1 : c ≤ 4294967295) :
    Calls Tryz.prog 151 #[.pointer rv, .agg #[.int .u32 c, .int .i64 m]] w fun e w' => ∃ na, e = .returned (.pointer na) ∧ Is w' (begS t (c, m)) na ∧ Ext w w' := by
  unfold begS
  simp only
  by_cases hv : isV c m = true
  · rw [if_pos hv]
    refine (first_at rv root _ c m w h c0 c1 hv fun w' hx => covering_any t root c m w' (ht.later hx) hw c0 c1).mono ?_
    rintro e w' ⟨rfl, hx⟩
    exact ⟨_, rfl, is_cov (ht.later hx) _, hx⟩
  · rw [if_neg hv]
    refine (first_not rv c m w c0 c1 (by simpa using hv)).mono ?_
    rintro e w' ⟨rfl, hx⟩
    exact ⟨_, rfl, rfl, hx⟩
end Go.Proofs.YtkfhkhgiojpfoaaGreat.Tri

namespace Go.Proofs

open Go.Shelf

def Tryz.lays133_ren : Go.Shelf.Ren := ⟨fun | 133 => 160 | 128 => 165 | n => n, fun | 51 => 23 | 3 => 3 | 4 => 4 | 46 => 45 | 5 => 5 | 9 => 9 | n => n, fun | n => n⟩
theorem Tryz.lays133 : Go.Proofs.Lays.n133 Tryz.prog Tryz.lays133_ren := {
  mixed := by kernel_rfl
  f128 := Tryz.func165.trans (congrArg some (by kernel_rfl))
  f133 := Tryz.func160.trans (congrArg some (by kernel_rfl))
  t3 := Tryz.underlying3
  a3 := Tryz.isAgg3
  z3 := Tryz.sizeOf3
  v3 := Tryz.zeroValue3
  t4 := Tryz.underlying4
  a4 := Tryz.isAgg4
  z4 := Tryz.sizeOf4
  v4 := Tryz.zeroValue4
  t5 := Tryz.underlying5
  a5 := Tryz.isAgg5
  z5 := Tryz.sizeOf5
  v5 := Tryz.zeroValue5
  t9 := Tryz.underlying9
  a9 := Tryz.isAgg9
  z9 := Tryz.sizeOf9
  v9 := Tryz.zeroValue9
  t46 := Tryz.underlying45
  a46 := Tryz.isAgg45
  z46 := Tryz.sizeOf45
  v46 := Tryz.zeroValue45
  t51 := Tryz.underlying23
  a51 := Tryz.isAgg23
  z51 := Tryz.sizeOf23
  v51 := Tryz.zeroValue23 }
theorem Tryz.bits_LeadingZeros32 (x : Int) (w : World) (h0 : 0 ≤ x) (h1 : x ≤ 4294967295) :
    Calls Tryz.prog 160 #[.int .u32 x] w fun e w' => e = .returned (.int .i64 (32 - (Lib.bitLen x.toNat : Int))) ∧ w' = w := Any.bits_LeadingZeros32 Tryz.lays133 x w h0 h1
end Go.Proofs
