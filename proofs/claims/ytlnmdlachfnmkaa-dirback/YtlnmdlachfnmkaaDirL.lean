/- A Dir by the row of what is there: New, Set, Del, Look, Blocks, Len. -/
import Derived.Test.YtlnmdlachfnmkaaDirD
namespace Go.Proofs.Ytlnmdlachfnmkaa.Dr
set_option maxRecDepth 100000
open Go.RowKit Go.Proofs.Ytlnmdlachfnmkaa Go.Proofs.Ytlnmdlachfnmkaa.Tri
set_option linter.unusedVariables false

def keysL (L : Row) : List PX := L.map (·.1)

/-- A Dir of the row L, with so many blocks at most, in the blocks F. -/
def DirAt (w : World) (db : Nat) (most : Int) (L : Row) (F : List Nat) : Prop := ∃ E V T f mb, DirIn w db most E V T f mb F ∧ Srt L ∧ (E.map (·.1)).Perm (keysL L) ∧ (∀ x ∈ L, V x.1 = x.2) ∧ ((ownN (keysL L) : Nat) : Int) ≤ most

theorem DirAt.later {w w' : World} {db : Nat} {most : Int} {L : Row} {F G : List Nat} (h : DirAt w db most L F) (hx : ExtS G w w') (hd : ∀ x ∈ F, x ∉ G) : DirAt w' db most L F := by
  obtain ⟨E, V, T, f, mb, h1, h2⟩ := h
  exact ⟨E, V, T, f, mb, h1.later hx hd, h2⟩

theorem DirAt.ext {w w' : World} {db : Nat} {most : Int} {L : Row} {F : List Nat} (h : DirAt w db most L F) (hx : Ext w w') : DirAt w' db most L F := h.later (hx.toS []) (by simp)

theorem DirAt.lt {w : World} {db : Nat} {most : Int} {L : Row} {F : List Nat} (h : DirAt w db most L F) : ∀ x ∈ F, x < w.heap.size := by
  obtain ⟨E, V, T, f, mb, h1, h2⟩ := h
  exact h1.lt

theorem DirAt.srt {w : World} {db : Nat} {most : Int} {L : Row} {F : List Nat} (h : DirAt w db most L F) : Srt L := by
  obtain ⟨E, V, T, f, mb, h1, h2, -⟩ := h
  exact h2

theorem DirAt.valid {w : World} {db : Nat} {most : Int} {L : Row} {F : List Nat} (h : DirAt w db most L F) : ∀ x ∈ L, Vp x.1 := by
  obtain ⟨E, V, T, f, mb, h1, h2, h3, -⟩ := h
  intro x hx
  obtain ⟨y, hy, e⟩ := List.mem_map.1 (h3.mem_iff.2 (List.mem_map.2 ⟨x, hx, rfl⟩))
  rw [← e]; exact h1.valid y hy

theorem DirAt.room {w : World} {db : Nat} {most : Int} {L : Row} {F : List Nat} (h : DirAt w db most L F) : ((ownN (keysL L) : Nat) : Int) ≤ most := by
  obtain ⟨E, V, T, f, mb, h1, h2, h3, h4, h5⟩ := h
  exact h5

theorem lk_found {E : List (PX × Nat)} {L : Row} (hs : Srt L) (hp : (E.map (·.1)).Perm (keysL L)) (p : PX) : (lk E p).isSome = foundB L p := by
  cases hl : lk E p with
  | none =>
    cases hf : foundB L p with
    | false => rfl
    | true =>
      obtain ⟨u, hu⟩ := (found_mem hs).1 hf
      obtain ⟨y, hy, e⟩ := List.mem_map.1 (hp.mem_iff.2 (List.mem_map.2 ⟨_, hu, rfl⟩))
      exact absurd e (lk_none hl y hy)
  | some b =>
    have h1 := lk_mem hl
    obtain ⟨x, hx, e⟩ := List.mem_map.1 (hp.mem_iff.1 (List.mem_map.2 ⟨_, h1, rfl⟩))
    have : foundB L p = true := (found_mem hs).2 ⟨x.2, by simp only at e; rw [← e]; exact hx⟩
    rw [this]; rfl

theorem own_le (K : List PX) : ownN K ≤ 2 * K.length := by
  have key : ∀ l : List Nat, cntD l ≤ l.length := by
    intro l; induction l with
    | nil => exact Nat.le_refl _
    | cons x l ih => simp only [cntD, List.length_cons]; split <;> omega
  have h1 := key (hv 1 K)
  have h2 := key (hv 2 K)
  have l1 : (hv 1 K).length ≤ K.length := by unfold hv; rw [List.length_map]; exact List.length_filter_le _ _
  have l2 : (hv 2 K).length ≤ K.length := by unfold hv; rw [List.length_map]; exact List.length_filter_le _ _
  unfold ownN
  omega

theorem keys_set_new {L : Row} {p : PX} (v : Int) (h : foundB L p = false) : (keysL (setL L p v)).Perm (p :: keysL L) := by
  rw [setL_new v h]
  unfold keysL
  rw [List.map_append, List.map_cons]
  refine List.perm_middle.trans ?_
  rw [← List.map_append, List.take_append_drop]

theorem keys_set_found {L : Row} {p : PX} (v : Int) (h : foundB L p = true) : keysL (setL L p v) = keysL L := by
  rw [setL_found v h]
  obtain ⟨u, hu⟩ := foundB_iff.1 h
  unfold keysL
  rw [List.map_set]
  have hk := (List.getElem?_eq_some_iff.1 hu).1
  have hg := (List.getElem?_eq_some_iff.1 hu).2
  apply List.ext_getElem
  · simp
  · intro i h1 h2
    rw [List.getElem_set]
    split
    · rename_i e
      subst e
      rw [List.getElem_map, hg]
    · rfl

theorem keys_del_found {L : Row} (hs : Srt L) {p : PX} (h : foundB L p = true) : (keysL L).Perm (p :: keysL (delL L p)) := by
  rw [del_found hs h]
  obtain ⟨u, hu⟩ := foundB_iff.1 h
  have hg := (List.getElem?_eq_some_iff.1 hu).2
  have hk := (List.getElem?_eq_some_iff.1 hu).1
  have e : L = L.take (placeN L p) ++ (p, u) :: L.drop (placeN L p + 1) := by
    rw [← hg, List.getElem_cons_drop]; exact (List.take_append_drop _ L).symm
  have : keysL L = keysL (L.take (placeN L p)) ++ p :: keysL (L.drop (placeN L p + 1)) := by
    conv => lhs; rw [e]
    simp [keysL]
  rw [this]
  unfold keysL
  rw [List.map_append]
  exact List.perm_middle

/-- What Set answers, and what is there behind it. -/
def setR (most : Int) (L : Row) (p : PX) (v : Int) : Int × Row := if isV p.1 p.2 = false ∨ v < 0 then (1, L) else if most < ((ownN (keysL (setL L p v)) : Nat) : Int) then (6, L) else (0, setL L p v)

/-- A Dir, and what may have been written for it. -/
def DirAns (w : World) (F : List Nat) (db : Nat) (most : Int) (L : Row) (w' : World) : Prop := ∃ F', DirAt w' db most L F' ∧ ExtS F w w' ∧ ∀ x ∈ F', x ∈ F ∨ w.heap.size ≤ x

theorem ans_ext {w w' : World} {db : Nat} {most : Int} {L : Row} {F : List Nat} (h : DirAt w db most L F) (hx : Ext w w') : DirAns w F db most L w' := ⟨F, h.ext hx, hx.toS F, fun x hx => .inl hx⟩

theorem set_at {w : World} {db : Nat} {most : Int} {L : Row} {F : List Nat} (h : DirAt w db most L F) (hlen : L.length ≤ 100000) (a n v : Int) (a0 : 0 ≤ a) (a1 : a ≤ 4294967295) :
    Calls Try.prog 20 #[.pointer (some ⟨db, 0, none⟩), .agg #[.int .u32 a, .int .i64 n], .int .i64 v] w fun e w' => e = .returned (.int .i64 (setR most L (a, n) v).1) ∧ DirAns w F db most (setR most L (a, n) v).2 w' := by
  have hAt := h
  obtain ⟨E, V, T, f, mb, h1, hs, hp, hV, hroom⟩ := h
  by_cases hbad : isV a n = false ∨ v < 0
  · have e : setR most L (a, n) v = (1, L) := by unfold setR; rw [if_pos hbad]
    rw [e]
    refine (set_arg db a n v w a0 a1 hbad).mono ?_
    rintro e w' ⟨rfl, hx⟩
    exact ⟨rfl, ans_ext hAt hx⟩
  · have hv : isV a n = true := by
      cases hh : isV a n with
      | true => rfl
      | false => exact absurd (.inl hh) hbad
    have hv0 : 0 ≤ v := by
      rcases Int.lt_or_le v 0 with hh | hh
      · exact absurd (.inr hh) hbad
      · exact hh
    have hvp := vp_of a0 a1 hv
    obtain ⟨A, N, e, hN, hA, hZ⟩ := hvp
    simp only [Prod.mk.injEq] at e
    obtain ⟨rfl, rfl⟩ := e
    have hfd := lk_found hs hp ((A : Int), (N : Int))
    have hK : ownN (E.map (·.1)) = ownN (keysL L) := own_perm hp
    have hol := own_le (keysL L)
    have hkl : (keysL L).length = L.length := by simp [keysL]
    cases hl : lk E ((A : Int), (N : Int)) with
    | some b =>
      rw [hl] at hfd
      have hf : foundB L ((A : Int), (N : Int)) = true := hfd.symm
      have hk := keys_set_found v hf
      have e : setR most L ((A : Int), (N : Int)) v = (0, setL L ((A : Int), (N : Int)) v) := by unfold setR; rw [if_neg hbad, hk, if_neg (by omega)]
      rw [e]
      refine (set_here h1 (A : Int) (N : Int) v ⟨A, N, rfl, hN, hA, hZ⟩ hv0 b hl).mono ?_
      rintro e w' ⟨rfl, d, x⟩
      refine ⟨rfl, F, ⟨E, _, T, f, mb, d, set_srt hs _ _, by rw [hk]; exact hp, fun y hy => ?_, by rw [hk]; exact hroom⟩, x, fun x hx => .inl hx⟩
      rcases (set_mem hs _ v y).1 hy with rfl | ⟨h3, h4⟩
      · simp
      · simp only [if_neg h4]; exact hV y h3
    | none =>
      rw [hl] at hfd
      have hf : foundB L ((A : Int), (N : Int)) = false := hfd.symm
      have hk := keys_set_new v hf
      have hown : ownN (keysL (setL L ((A : Int), (N : Int)) v)) = ownN (E.map (·.1)) + moreN (E.map (·.1)) A (lvN N) := by
        rw [own_perm hk, own_perm ((hp.symm).cons ((A : Int), (N : Int)))]
        have := own_cons ((A : Int), (N : Int)) ⟨A, N, rfl, hN, hA, hZ⟩ (E.map (·.1))
        simpa using this
      by_cases hfull : most < ((ownN (keysL (setL L ((A : Int), (N : Int)) v)) : Nat) : Int)
      · have e : setR most L ((A : Int), (N : Int)) v = (6, L) := by unfold setR; rw [if_neg hbad, if_pos hfull]
        rw [e]
        refine (set_full h1 A N v hA hN hZ hv0 hl (by omega) (by rw [← hown]; exact hfull)).mono ?_
        rintro e w' ⟨rfl, hx⟩
        exact ⟨rfl, ans_ext hAt hx⟩
      · have e : setR most L ((A : Int), (N : Int)) v = (0, setL L ((A : Int), (N : Int)) v) := by unfold setR; rw [if_neg hbad, if_neg hfull]
        rw [e]
        refine (set_new h1 A N v hA hN hZ hv0 hl (by omega) (by rw [← hown]; omega)).mono ?_
        rintro e w' ⟨rfl, m, nl, T', f', F', d, x, hF⟩
        refine ⟨rfl, F', ⟨_, _, T', f', some m, d, set_srt hs _ _, ?_, fun y hy => ?_, Int.not_lt.1 hfull⟩, x, hF⟩
        · rw [List.map_append]
          exact (List.perm_append_singleton _ _).trans ((hp.cons _).trans hk.symm)
        · rcases (set_mem hs _ v y).1 hy with rfl | ⟨h3, h4⟩
          · simp [setV]
          · simp only [setV, if_neg h4]; exact hV y h3

theorem del_at {w : World} {db : Nat} {most : Int} {L : Row} {F : List Nat} (h : DirAt w db most L F) (hlen : L.length ≤ 100000) (a n : Int) (a0 : 0 ≤ a) (a1 : a ≤ 4294967295) :
    Calls Try.prog 21 #[.pointer (some ⟨db, 0, none⟩), .agg #[.int .u32 a, .int .i64 n]] w fun e w' => e = .returned (.bool (foundB L (a, n))) ∧ DirAns w F db most (delL L (a, n)) w' := by
  have hAt := h
  obtain ⟨E, V, T, f, mb, h1, hs, hp, hV, hroom⟩ := h
  have hfd := lk_found hs hp (a, n)
  cases hl : lk E (a, n) with
  | none =>
    rw [hl] at hfd
    have hf : foundB L (a, n) = false := hfd.symm
    rw [hf, del_not hs hf]
    refine (del_no h1 a n hl).mono ?_
    rintro e w' ⟨rfl, hx⟩
    exact ⟨rfl, ans_ext hAt hx⟩
  | some l =>
    rw [hl] at hfd
    have hf : foundB L (a, n) = true := hfd.symm
    have hvp := h1.valid _ (lk_mem hl)
    obtain ⟨A, N, e, hN, hA, hZ⟩ := hvp
    simp only [Prod.mk.injEq] at e
    obtain ⟨rfl, rfl⟩ := e
    have hK : ownN (E.map (·.1)) = ownN (keysL L) := own_perm hp
    have hol := own_le (keysL L)
    have hkl : (keysL L).length = L.length := by simp [keysL]
    have hk := keys_del_found hs hf
    rw [hf]
    refine (del_yes h1 A N l hA hN hZ hl (by omega)).mono ?_
    rintro e w' ⟨rfl, T', f', m, d, x⟩
    have hown : ownN (keysL (delL L ((A : Int), (N : Int)))) ≤ ownN (keysL L) := by
      rw [own_perm hk, own_cons _ ⟨A, N, rfl, hN, hA, hZ⟩]; omega
    refine ⟨rfl, F, ⟨_, V, T', f', some m, d, del_srt hs _, ?_, fun y hy => hV y (del_mem.1 hy).1, by omega⟩, x, fun x hx => .inl hx⟩
    have h2 := (perm_map_delE hl).symm.trans (hp.trans hk)
    exact h2.cons_inv

theorem blocks_at {w : World} {db : Nat} {most : Int} {L : Row} {F : List Nat} (h : DirAt w db most L F) : Calls Try.prog 13 #[.pointer (some ⟨db, 0, none⟩)] w fun e w' => e = .returned (.int .i64 (ownN (keysL L) : Nat)) ∧ w' = w := by
  obtain ⟨E, V, T, f, mb, h1, hs, hp, hV, hroom⟩ := h
  rw [← own_perm hp]
  exact blocks_any h1

theorem len_at {w : World} {db : Nat} {most : Int} {L : Row} {F : List Nat} (h : DirAt w db most L F) : Calls Try.prog 15 #[.pointer (some ⟨db, 0, none⟩)] w fun e w' => e = .returned (.int .i64 (L.length : Nat)) ∧ w' = w := by
  obtain ⟨E, V, T, f, mb, h1, hs, hp, hV, hroom⟩ := h
  have : E.length = L.length := by have := hp.length_eq; simpa [keysL] using this
  rw [← this]
  exact len_any h1

theorem new_at (n : Int) (w : World) : Calls Try.prog 10 #[.int .i64 n] w fun e w' => e = .returned (.pointer (some ⟨w.heap.size, 0, none⟩)) ∧ Ext w w' ∧ DirAt w' w.heap.size (maxV n) [] [w.heap.size] := by
  refine (new_any n w).mono ?_
  rintro e w' ⟨rfl, hx, d⟩
  refine ⟨rfl, hx, _, _, _, _, _, d, List.Pairwise.nil, List.Perm.refl _, by simp, ?_⟩
  show (0 : Int) ≤ maxV n
  unfold maxV; split <;> omega

/-- What Look tells of what was found. -/
def numO (o : Option (PX × Int)) : Value := match o with
  | none => .tuple #[.int .i64 0, .bool false]
  | some x => .tuple #[.int .i64 x.2, .bool true]

theorem vp_32 {A : Nat} (hA : A < 4294967296) : Vp ((A : Int), 32) := ⟨A, 32, rfl, Nat.le_refl _, hA, by simp [Nat.mod_one]⟩

theorem last_is {L : Row} (hs : Srt L) (hv : ∀ x ∈ L, Vp x.1) {A : Nat} (hA : A < 4294967296) {p : PX} {u : Int} (hm : (p, u) ∈ L) (hc : cov p ((A : Int), 32) = true) (hmax : ∀ x ∈ L, cov x.1 ((A : Int), 32) = true → x.1.2 ≤ p.2) : lastF none (covL L ((A : Int), 32)) = some (p, u) := by
  have hv32 := vp_32 hA
  have hcl : covL L ((A : Int), 32) = L.filter fun x => cov x.1 ((A : Int), 32) := by
    unfold covL; rw [if_pos hv32.is]
  have hpc : (p, u) ∈ covL L ((A : Int), 32) := by rw [hcl]; exact List.mem_filter.2 ⟨hm, hc⟩
  cases hl : lastF none (covL L ((A : Int), 32)) with
  | none => rw [lastF_none hl] at hpc; cases hpc
  | some x =>
    obtain ⟨B, hB⟩ := lastF_split hl (fun e => by rw [e] at hpc; cases hpc)
    have hsc : Srt (covL L ((A : Int), 32)) := by rw [hcl]; exact List.Pairwise.filter _ hs
    have hxc : x ∈ covL L ((A : Int), 32) := by rw [hB]; simp
    rw [hcl] at hxc
    obtain ⟨hxL, hxp⟩ := List.mem_filter.1 hxc
    rw [hB] at hpc hsc
    rcases List.mem_append.1 hpc with h | h
    · exfalso
      have hb := (List.pairwise_append.1 hsc).2.2 _ h x (by simp)
      simp only at hb
      have hle := hmax x hxL hxp
      have hcov := cov_two (hv x hxL) (hv _ hm) hv32 hxp hc hle
      by_cases e : x.1 = p
      · rw [e, bef_irr] at hb; cases hb
      · have := bef_trans hb (cov_bef (hv x hxL) (hv _ hm) hcov e)
        rw [bef_irr] at this; cases this
    · rw [List.mem_singleton.1 h]

theorem look_at {w : World} {db : Nat} {most : Int} {L : Row} {F : List Nat} (h : DirAt w db most L F) (a : Int) (a0 : 0 ≤ a) (a1 : a ≤ 4294967295) :
    Calls Try.prog 18 #[.pointer (some ⟨db, 0, none⟩), .int .u32 a] w fun e w' => e = .returned (numO (lastF none (covL L (a, 32)))) ∧ w' = w := by
  have hval := h.valid
  obtain ⟨E, V, T, f, mb, h1, hs, hp, hV, hroom⟩ := h
  obtain ⟨A, rfl⟩ : ∃ A : Nat, a = (A : Int) := ⟨a.toNat, by omega⟩
  have hA : A < 4294967296 := by omega
  refine (look_in h1 hA).mono ?_
  rintro e w' ⟨⟨o, hb, rfl⟩, rfl⟩
  refine ⟨?_, rfl⟩
  have toE : ∀ x ∈ L, ∃ b, (x.1, b) ∈ E := fun x hx => by
    obtain ⟨y, hy, e⟩ := List.mem_map.1 (hp.mem_iff.2 (List.mem_map.2 ⟨x, hx, rfl⟩))
    exact ⟨y.2, by rw [← e]; exact hy⟩
  cases o with
  | none =>
    have : covL L ((A : Int), 32) = [] := by
      unfold covL; rw [if_pos (vp_32 hA).is]
      refine List.filter_eq_nil_iff.2 fun x hx hc => ?_
      obtain ⟨b, hbE⟩ := toE x hx
      have hbd := (hval x hx).bd
      have := hb _ hbE (by simp only; omega) (by simp only; omega)
      simp only at this
      rw [hc] at this; cases this
    rw [this]; rfl
  | some b =>
    obtain ⟨p, k1, k2, k3, k4, k5⟩ := hb
    obtain ⟨x, hx, e⟩ := List.mem_map.1 (hp.mem_iff.1 (List.mem_map.2 ⟨_, k1, rfl⟩))
    simp only at e
    have hx' : (p, V p) ∈ L := by
      have := hV x hx
      rw [e] at this
      have e2 : x = (p, V p) := Prod.ext e this.symm
      rw [← e2]; exact hx
    rw [last_is hs hval hA hx' k4 (fun y hy hc => by
      obtain ⟨b', hbE⟩ := toE y hy
      have hbd := (hval y hy).bd
      exact k5 _ hbE (by simp only; omega) (by simp only; omega) hc)]
    show Ending.returned (.tuple #[.int .i64 (nvE E V b), .bool true]) = _
    rw [nvE_of h1.blks k1]
    rfl
end Go.Proofs.Ytlnmdlachfnmkaa.Dr
