/- Texts joined by a program: Fib6, Fib7, Fib8. -/
import Derived.Test.YtkfhkhgiojpfoaaGreatJ19
namespace Go.Proofs.YtkfhkhgiojpfoaaGreat.Fb

set_option maxRecDepth 100000

open Go.RowKit Go.Proofs.YtkfhkhgiojpfoaaGreat Go.Proofs.YtkfhkhgiojpfoaaGreat.Rb

open Go.Proofs.YtkfhkhgiojpfoaaGreat.Tri (PX Vp Row TrieR TrieRAns delL foundB tdel tset)

open Go.Proofs.YtkfhkhgiojpfoaaGreat.Dr (DirAt DirAns del_at set_at keysL ownN)

set_option linter.unusedVariables false

set_option linter.unusedSimpArgs false

/-- One way taken out of, or laid into, both. -/
theorem LayW.both {w wr W5 w6 W6 w7 : World} {e : Eng} {D D' E E' : Row} {Ft Fd : List Nat} (h1 : TrieR wr e.tb D Ft) (h2 : DirAt wr e.db 16 D' Fd) (h3 : ∀ x ∈ Ft, x ∉ Fd) (h4 : ExtS e.F w wr) (h5 : ∀ x, x ∈ Ft ∨ x ∈ Fd → x ∈ e.F ∨ w.heap.size ≤ x)
    (x5 : Ext wr W5) (a : TrieRAns W5 Ft e.tb E w6) (x6 : Ext w6 W6) (b : DirAns W6 Fd e.db 16 E' w7) : LayW w w7 e E E' := by
  obtain ⟨F1, k1, k2, k3⟩ := a
  obtain ⟨F2, m1, m2, m3⟩ := b
  have s5 := x5.size
  have s6 := x6.size
  have t6 := k2.size
  have hlt : ∀ x ∈ F1, x ∉ Fd := fun x hx hx' => by
    rcases k3 x hx with h | h
    · exact h3 x h hx'
    · have := h2.lt x hx'; omega
  have S5 : ExtS e.F w W5 := h4.trans (x5.toS _)
  have S6 : ExtS e.F w w6 := S5.then k2 fun b hb => h5 b (.inl hb)
  have S7 : ExtS e.F w w7 := (S6.trans (x6.toS _)).then m2 fun b hb => h5 b (.inr hb)
  refine ⟨F1, F2, (k1.ext x6).later m2 hlt, m1, fun x hx hx' => ?_, S7, fun x hx => ?_⟩
  · rcases m3 x hx' with h | h
    · exact hlt x hx h
    · have := k1.lt x hx; omega
  · have s0 := h4.size
    rcases hx with hx | hx
    · rcases k3 x hx with h | h
      · exact h5 x (.inl h)
      · exact .inr (by omega)
    · rcases m3 x hx with h | h
      · exact h5 x (.inr h)
      · exact .inr (by omega)

theorem goneB {L : List Rt} {t : Int} {U : List Bool} {A : List Rt} : ∀ r ∈ A, (!(bestO L t r.a r.l U).isSome) = false → ∃ s ∈ actL L t U, pxR s = pxR r := fun r _ h => act_gone (by simpa using h)

def gB (L : List Rt) (t : Int) (U : List Bool) (r : Rt) : Bool := !(bestO L t r.a r.l U).isSome

theorem delK_yes {g : Rt → Bool} {A : List Rt} {k : Nat} {r : Rt} (h : A[k]? = some r) (hg : g r = true) : delK g A (k + 1) = delL (delK g A k) (pxR r) := by
  simp only [delK, h, hg, if_true]

theorem delK_no {g : Rt → Bool} {A : List Rt} {k : Nat} {r : Rt} (h : A[k]? = some r) (hg : g r = false) : delK g A (k + 1) = delK g A k := by
  simp only [delK, h, hg, Bool.false_eq_true, if_false]

theorem setK_next {D : Row} {A : List Rt} {k : Nat} {r : Rt} (h : A[k]? = some r) : setK D A (k + 1) = Tri.setL (setK D A k) (pxR r) (k : Int) := by
  simp only [setK, h]

theorem setR_ok {D : Row} {p : PX} {k : Nat} (hv : isV p.1 p.2 = true) (hr : ownN (keysL (Tri.setL D p (k : Int))) ≤ 16) : Dr.setR 16 D p (k : Int) = (0, Tri.setL D p (k : Int)) := by
  unfold Dr.setR
  rw [if_neg (by rw [hv]; simp), if_neg (by omega)]

/-- The world in which a row is laid aside. -/
theorem put_last {w wr : World} {fb i rb : Nat} {C : Array Value} {q : Option Addr} {m d : Nat} {L : List Rt} {U : List Bool} {Fr : List Nat} {e : Eng} {v : Value} {B : List Rt} (hL : LayR w fb i rb C q m d L U Fr e v B) (hW : LayW w wr e (rowOf B) (rowOf B)) :
    LayAns w fb i C e v B (wr.setCell ⟨fb, 2 + i * 3, none⟩ v) := by
  obtain ⟨Ft, Fd, h1, h2, h3, h4, h5⟩ := hW
  have LR := hL.later h4
  have hfl : fb < w.heap.size := heap_lt hL.obj
  have hx : ExtS [fb] wr (wr.setCell ⟨fb, 2 + i * 3, none⟩ v) := ExtS.setCell (ExtS.refl [fb] wr) (p := ⟨fb, 2 + i * 3, none⟩) (.inl (by simp)) _
  have hn : ∀ x, x ∈ Ft ∨ x ∈ Fd → x ∉ [fb] := fun x hx' e' => by
    rw [List.mem_singleton.1 e'] at hx'
    rcases h5 fb hx' with h | h
    · exact hL.fF h
    · omega
  refine ⟨⟨v, e.tb, e.db, Ft, Fd⟩, ⟨?_, h1.later hx fun x hh => hn x (.inl hh), h2.later hx fun x hh => hn x (.inr hh), h3, fun x hx' e' => ?_⟩, rfl, rfl, ?_, fun x hx' => h5 x (Eng.memF.1 hx'), heap_set LR.obj v, .inr rfl⟩
  · exact LR.new.later hx fun g hg e' => own_ne LR.new LR.obj (by decide) (by rw [List.mem_singleton.1 e'] at hg; exact hg)
  · rcases h5 x (Eng.memF.1 e') with h | h
    · exact hL.vF x hx' h
    · have := (hL.new.lt x hx').2; omega
  · exact (h4.mono fun b hb => List.mem_cons_of_mem _ hb).then hx fun b hb => .inl (by rw [List.mem_singleton.1 hb]; exact List.mem_cons_self)

theorem stay_last {w wr : World} {fb i rb : Nat} {C : Array Value} {q : Option Addr} {m d : Nat} {L : List Rt} {U : List Bool} {Fr : List Nat} {e : Eng} {v : Value} {B : List Rt} (hL : LayR w fb i rb C q m d L U Fr e v B) (he : EngAt w B e) (hx : Ext w wr) (hi : i < 4) : LayAns w fb i C e v B wr := by
  refine ⟨e, he.ext hx, rfl, rfl, hx.toS _, fun x hx' => .inl hx', ?_, .inl rfl⟩
  have : C.setIfInBounds (2 + i * 3) e.v = C := by
    apply Array.ext
    · simp
    · intro j h1 h2
      rw [Array.getElem_setIfInBounds]
      · split
        · rename_i e'
          subst e'
          have := hL.cv
          rw [Array.getElem?_eq_getElem h2] at this
          exact (Option.some.inj this).symm
        · rfl
  rw [this]
  exact hx.heap hL.obj

set_option maxHeartbeats 8000000 in
theorem lay_any (fb i rb : Nat) (C : Array Value) (q : Option Addr) (m d : Nat) (L : List Rt) (U : List Bool) (Fr : List Nat) (e : Eng) (v : Value) (A B : List Rt) (w : World) (hL : LayR w fb i rb C q m d L U Fr e v B) (he : EngAt w A e) (hi : i < 4) (hA : Pf A) (hg : Rb.Good L) (hB : B = actL L (i : Int) U) (hroom : ownA B ≤ 16) :
    Calls Tryz.prog 70 #[.pointer (some ⟨fb, 0, none⟩), .int .i64 (i : Int), v] w fun x w' => x = .returned (.tuple #[]) ∧ LayAns w fb i C e v B w' := by
  obtain ⟨pA, cA, hev, -, -, hRA⟩ := he.row.slice
  obtain ⟨pB, cB, rfl, -, -, hRB⟩ := hL.new.slice
  have HL : Hid (LayR w fb i rb C q m d L U Fr e (.slice pB B.length cB) B) := hL
  have HE : Hid (EngAt w A e) := he
  have HA : Hid (Pf A) := hA
  have hPB : Pf B := by rw [hB]; exact act_pf hg _ _
  have HPB : Hid (Pf B) := hPB
  have HG : Hid (Rb.Good L) := hg
  have HRM : Hid (ownA B ≤ 16) := hroom
  have HGO : Hid (∀ r ∈ A, gB L (i : Int) U r = false → ∃ s ∈ B, pxR s = pxR r) := by rw [hB]; exact goneB
  have hla := hA.len
  have hlb := hPB.len
  have HEV : Hid (e.v = .slice pA A.length cA) := hev
  have cv : w.cell? ⟨fb, 2 + i * 3, none⟩ = some (.slice pA A.length cA) := by rw [heap_cell hL.obj, hL.cv, hev]
  have h0 : ¬ ((i : Int) < 0) := by omega
  have h1 : ¬ (4 ≤ (i : Int)) := by omega
  have h2 : (i : Int) < 4 := by omega
  have ce := equal_rts pA pB A.length B.length cA cB A B w hRA hRB (by omega) (by omega)
  clear hL he hA hPB hg hroom hB hev hRA hRB
  cases hz : eqRs A B with
  | true =>
    rw [hz] at ce
    clear hz
    go_enter Tryz.func70, Tryz.ntmps70
    go_wp2_with (go_at_call 94; refine ce.mono ?_; rintro x w1 ⟨rfl, HEQ, hx1⟩)
    (first | go_end0 | (simp only [Exit.inBlock, Exit.then]; refine bodyPost_ret (results_none rfl _ _ _) rfl ?_) | refine bodyPost_ret (results_none rfl _ _ _) rfl ?_)
    have hAB : A = B := HEQ trivial
    exact ⟨rfl, stay_last HL.out (by rw [← hAB]; exact HE.out) hx1 hi⟩
  | false =>
    rw [hz] at ce
    clear hz
    go_enter Tryz.func70, Tryz.ntmps70
    go_wp2_with (go_at_call 94; refine ce.mono ?_; rintro x w1 ⟨rfl, -, hx1⟩; have cv1 : w1.cell? ⟨fb, 2 + i * 3, none⟩ = some (.slice pA A.length cA) := (by rw [hx1.cell (p := ⟨fb, 2 + i * 3, none⟩) (block_lt cv)]; exact cv))
    clear cv cv1 ce
    have HB1 : Hid (LayW w w1 e (rowOf A) (rowOf A)) := (LayW.begin HE.out).ext hx1
    clear hx1
    go_loopg [29] A.length (fun kx s29 wr => ∃ k : Nat, s29 = .int .i64 k ∧ k ≤ A.length ∧ A.length - k ≤ kx ∧ Hid (LayW w wr e (delK (gB L (i : Int) U) A k) (delK (gB L (i : Int) U) A k)))
    case atStart => exact ⟨0, rfl, Nat.zero_le _, Nat.le_refl _, (HB1.out : LayW w w1 e (delK (gB L (i : Int) U) A 0) (delK (gB L (i : Int) U) A 0))⟩
    case round =>
      obtain ⟨k, rfl, hkA, hkx, HW⟩ := hrel
      clear HB1
      by_cases hlt : k < A.length
      · have hki : (k : Int) < (A.length : Int) := by omega
        obtain ⟨r, hrk⟩ : ∃ r, A[k]? = some r := ⟨_, List.getElem?_eq_getElem hlt⟩
        have hvr := HA.out.vp r (List.mem_of_getElem? hrk)
        obtain ⟨ha0, ha1⟩ := px_bd hvr
        obtain ⟨Ft, Fd, t1, t2, t3, t4, t5⟩ := HW.out
        have LR := HL.out.later t4
        have HRr : Hid (LayR wr fb i rb C q m d L U Fr e (.slice pB B.length cB) B) := LR
        have HT : Hid (TrieR wr e.tb (delK (gB L (i : Int) U) A k) Ft ∧ DirAt wr e.db 16 (delK (gB L (i : Int) U) A k) Fd ∧ (∀ x ∈ Ft, x ∉ Fd) ∧ ExtS e.F w wr ∧ ∀ x, x ∈ Ft ∨ x ∈ Fd → x ∈ e.F ∨ w.heap.size ≤ x) := ⟨t1, t2, t3, t4, t5⟩
        have hfFt : fb ∉ Ft := fun hh => (t5 fb (.inl hh)).elim HL.out.fF fun h => by have := heap_lt HL.out.obj; omega
        have hfFd : fb ∉ Fd := fun hh => (t5 fb (.inr hh)).elim HL.out.fF fun h => by have := heap_lt HL.out.obj; omega
        have hnFt : wr.heap.size ∉ Ft := fun hh => Nat.lt_irrefl _ (t1.lt _ hh)
        have hnFd : wr.heap.size ∉ Fd := fun hh => Nat.lt_irrefl _ (t2.lt _ hh)
        obtain ⟨b, off, hpb, hb, g0, g1, g2, g3, g4, g5⟩ : ∃ b off, pA = some ⟨b, off, none⟩ ∧ b < wr.heap.size ∧ wr.cell? ⟨b, off + k * 6, none⟩ = some (.int .i64 r.t) ∧ wr.cell? ⟨b, off + k * 6 + 1, none⟩ = some (.int .u32 r.a) ∧ wr.cell? ⟨b, off + k * 6 + 2, none⟩ = some (.int .i64 r.l) ∧ wr.cell? ⟨b, off + k * 6 + 3, none⟩ = some (.int .i64 r.i) ∧ wr.cell? ⟨b, off + k * 6 + 4, none⟩ = some (.int .u32 r.g) ∧ wr.cell? ⟨b, off + k * 6 + 5, none⟩ = some (.int .i64 r.m) := by
          have ho := HE.out.row.later t4 HE.out.rowF
          rw [HEV.out] at ho
          obtain ⟨p', c', e', -, -, hR⟩ := ho.slice
          cases e'
          exact hR.cell hrk
        subst hpb
        have HRK : Hid (A[k]? = some r) := hrk
        have hA1 : Ext wr (wr.alloc (.cells #[.int .i64 r.t, .int .u32 r.a, .int .i64 r.l, .int .i64 r.i, .int .u32 r.g, .int .i64 r.m] 48)) := (Ext.refl wr).alloc _
        have HX1 : Hid ((wr.alloc (.cells #[.int .i64 r.t, .int .u32 r.a, .int .i64 r.l, .int .i64 r.i, .int .u32 r.g, .int .i64 r.m] 48)).heap[wr.heap.size]? = some (.cells #[.int .i64 r.t, .int .u32 r.a, .int .i64 r.l, .int .i64 r.i, .int .u32 r.g, .int .i64 r.m] 48 (0, 0))) := heap_new wr _
        clear t1 t2 t3 t4 t5 LR hrk hvr HW
        go_wp2_with fail
        clear g0 g1 g2 g3 g4 g5
        generalize hnb : wr.heap.size = nb at *
        generalize (wr.alloc (.cells #[.int .i64 r.t, .int .u32 r.a, .int .i64 r.l, .int .i64 r.i, .int .u32 r.g, .int .i64 r.m] 48)) = W1 at *
        refine wp_region_makeN W1.heap.size W1.heap.size (Nat.le_refl _) [(0, 0), (1, 0), (2, 0), (3, 0), (4, 0), (5, 0), (6, 0), (7, 0), (8, 0), (9, 0), (10, 0), (15, 3), (11, 1), (12, 0), (13, 0), (14, 0), (15, 2), (16, 4), (17, 0)] (by kernel_rfl) (by kernel_rfl) rfl (by kernel_rfl) (fun _ _ _ _ _ => Iff.rfl) ?_
        have hO1 : W1.heap[fb]? = some (.cells C 82 (0, 0)) := hA1.heap HRr.out.obj
        have e0 : ∀ w', ExtN W1.heap.size W1.drew w' → w'.cell? ⟨fb, 0, none⟩ = some (.pointer (some ⟨rb, 0, none⟩)) := fun w' h => by rw [heap_cell (h.heap (heap_lt hO1) hO1), HRr.out.c0]
        have e1 : ∀ w', ExtN W1.heap.size W1.drew w' → w'.cell? ⟨fb, 1, none⟩ = some (.slice q m d) := fun w' h => by rw [heap_cell (h.heap (heap_lt hO1) hO1), HRr.out.c1]
        have x1 : ∀ w', ExtN W1.heap.size W1.drew w' → w'.cell? ⟨nb, 1, none⟩ = some (.int .u32 r.a) := fun w' h => by rw [heap_cell (h.heap (heap_lt HX1.out) HX1.out)]; rfl
        have x2 : ∀ w', ExtN W1.heap.size W1.drew w' → w'.cell? ⟨nb, 2, none⟩ = some (.int .i64 r.l) := fun w' h => by rw [heap_cell (h.heap (heap_lt HX1.out) HX1.out)]; rfl
        have hxd : Ext W1 W1.drew := (Ext.refl W1).drew
        generalize W1.drew = W2 at *
        iterate 11 (refine wpW_read (v := ?_) rfl (by rfl) ?_ ?_; rotate_left; (focus (intro w' hx; go_simp; first | done | with_reducible rfl)); simp only [Act.put, List.setIfInBounds_toArray, List.set_cons_zero, List.set_cons_succ])
        clear e0 e1 x1 x2
        generalize hoo : bestO L (i : Int) r.a r.l U = oo
        have HOO : Hid (bestO L (i : Int) r.a r.l U = oo) := hoo
        (refine wpW_say _ (fun g => .pointer (some ⟨g, 0, none⟩)) rfl (by rfl) (fun w' => by go_simp; first | done | with_reducible rfl) ?_)
        refine wpW_call rfl (by rfl) (fun W3 hx3 K hK => ?_); go_simp; (go_at_call 95; refine (best_of rb L Fr (i : Int) r.a r.l q m d U W3 (HRr.out.rib.ext (hA1.trans (hxd.trans hx3))) HG.out (HRr.out.ups.ext (hA1.trans (hxd.trans hx3)))).mono ?_; rintro x w4 ⟨rfl, hx4⟩; rw [HOO.out]; refine hK _ _ hx4 ?_; clear hK K)
        clear hoo
        iterate 3 (refine wpW_read (v := ?_) rfl (by rfl) ?_ ?_; rotate_left; (focus (intro w' hx; go_simp; first | done | with_reducible rfl)); simp only [Act.put, List.setIfInBounds_toArray, List.set_cons_zero, List.set_cons_succ])
        refine wpW_make _ (fun g => .pointer (some ⟨g, 0, none⟩)) rfl (by rfl) (fun w' => by go_simp; first | done | with_reducible rfl) ?_; simp only [Act.put, List.setIfInBounds_toArray, List.set_cons_zero, List.set_cons_succ]; intro W5 g hx5 hBg hg5
        have HG5 : Hid _ := hg5
        clear hg5
        refine wpW_last rfl (by rfl) (fun K hK => ?_)
        refine wp_store 48 _ _ rfl rfl 6 g #[.int .i64 (theR oo).t, .int .u32 (theR oo).a, .int .i64 (theR oo).l, .int .i64 (theR oo).i, .int .u32 (theR oo).g, .int .i64 (theR oo).m] _ _ rfl rfl HG5.out rt_size rfl rfl (by simp [Value.oneCell']) ?_
        intro W6 hx6 k6
        have hn6 : ExtN W1.heap.size W5 W6 := ⟨hx6.os, hx6.tape, hx6.output, hx6.size, fun j hj hjn => hx6.block j hjn (by omega)⟩
        refine hK _ _ hn6 ?_
        clear hK K k6
        iterate 1 (refine wpW_read (v := ?_) rfl (by rfl) ?_ ?_; rotate_left; (focus (intro w' hx; go_simp; first | done | with_reducible rfl)); simp only [Act.put, List.setIfInBounds_toArray, List.set_cons_zero, List.set_cons_succ])
        refine wpW_done ?_
        have hx16 : Ext W1 W6 := ExtN.ext (hxd.trans (hx3.trans (hx4.trans hx5))) hn6 (Nat.le_refl _)
        have hxr6 : Ext wr W6 := hA1.trans hx16
        clear hx6 hn6 hx5 hx4 hx3 hxd HG5 hBg hO1
        cases hs : oo.isSome with
        | true =>
          have hgr : gB L (i : Int) U r = false := by unfold gB; rw [HOO.out, hs]; rfl
          go_wp2_with fail
          go_roundg (A.length - (k + 1))
          case measure => omega
          case rel => exact ⟨k + 1, by go_num, by omega, Nat.le_refl _, (by rw [delK_no HRK.out hgr]; exact LayW.ext ⟨Ft, Fd, HT.out⟩ hxr6 : LayW w W6 e (delK (gB L (i : Int) U) A (k + 1)) (delK (gB L (i : Int) U) A (k + 1)))⟩
        | false =>
          have hgr : gB L (i : Int) U r = true := by unfold gB; rw [HOO.out, hs]; rfl
          have HGR : Hid (gB L (i : Int) U r = true) := hgr
          clear hs hgr
          go_wp2_with fail
          refine wp_region_eagerS Ft [(0, false), (1, false), (2, false), (3, false), (4, false), (5, false), (6, true)] (by kernel_rfl) (by kernel_rfl) rfl (by kernel_rfl) (fun _ _ _ _ _ h => h) ?_
          have hO6 : W6.heap[fb]? = some (.cells C 82 (0, 0)) := hxr6.heap HRr.out.obj
          have e1 : ∀ w', ExtS Ft W6.drew w' → w'.cell? ⟨fb, 2 + i * 3 + 1, none⟩ = some (.pointer (some ⟨e.tb, 0, none⟩)) := fun w' h => by rw [heap_cell (h.heap hfFt hO6), HRr.out.ct]
          have x1 : ∀ w', ExtS Ft W6.drew w' → w'.cell? ⟨nb, 1, none⟩ = some (.int .u32 r.a) := fun w' h => by rw [heap_cell (h.heap hnFt (hx16.heap HX1.out))]; rfl
          have x2 : ∀ w', ExtS Ft W6.drew w' → w'.cell? ⟨nb, 2, none⟩ = some (.int .i64 r.l) := fun w' h => by rw [heap_cell (h.heap hnFt (hx16.heap HX1.out))]; rfl
          have hxd7 : Ext W6 W6.drew := (Ext.refl W6).drew
          have HO6 : Hid _ := hO6
          clear hO6
          generalize W6.drew = W7 at *
          iterate 6 (refine wpE_read (v := ?_) rfl (by rfl) ?_ ?_; rotate_left; (focus (intro w' hx; go_simp; first | done | with_reducible rfl)); simp only [Act.put, List.setIfInBounds_toArray, List.set_cons_zero, List.set_cons_succ])
          (refine wpE_call rfl (by rfl) (fun K hK => ?_); go_simp; first | (go_at_call 96; refine (tdel (HT.out.1.ext (hxr6.trans hxd7)) r.a r.l ha0 ha1).mono ?_; rintro x w8 ⟨rfl, hta⟩; have HTA : Hid (TrieRAns W7 Ft e.tb _ w8) := hta; refine hK _ _ hta.choose_spec.2.1 ?_; clear hK K hta))
          refine wpE_done ?_
          clear e1 x1 x2
          obtain ⟨F8, k1, k2, k3⟩ := HTA.out
          have hO8 : w8.heap[fb]? = some (.cells C 82 (0, 0)) := k2.heap hfFt (hxd7.heap HO6.out)
          have hX8 : w8.heap[nb]? = some (.cells #[.int .i64 r.t, .int .u32 r.a, .int .i64 r.l, .int .i64 r.i, .int .u32 r.g, .int .i64 r.m] 48 (0, 0)) := k2.heap hnFt (hxd7.heap (hx16.heap HX1.out))
          have hD8 : DirAt w8 e.db 16 (delK (gB L (i : Int) U) A k) Fd := (HT.out.2.1.ext (hxr6.trans hxd7)).later k2 fun x hx hx' => HT.out.2.2.1 x hx' hx
          have HD8 : Hid (DirAt w8 e.db 16 (delK (gB L (i : Int) U) A k) Fd) := hD8
          have HO8 : Hid _ := hO8
          have HX8 : Hid _ := hX8
          clear k1 k2 k3 hO8 hX8 hD8
          go_wp2_with fail
          refine wp_region_eagerS Fd [(0, false), (1, false), (2, false), (3, false), (4, false), (5, false), (6, true)] (by kernel_rfl) (by kernel_rfl) rfl (by kernel_rfl) (fun _ _ _ _ _ h => h) ?_
          have e1 : ∀ w', ExtS Fd w8.drew w' → w'.cell? ⟨fb, 2 + i * 3 + 2, none⟩ = some (.pointer (some ⟨e.db, 0, none⟩)) := fun w' h => by rw [heap_cell (h.heap hfFd HO8.out), HRr.out.cd]
          have x1 : ∀ w', ExtS Fd w8.drew w' → w'.cell? ⟨nb, 1, none⟩ = some (.int .u32 r.a) := fun w' h => by rw [heap_cell (h.heap hnFd HX8.out)]; rfl
          have x2 : ∀ w', ExtS Fd w8.drew w' → w'.cell? ⟨nb, 2, none⟩ = some (.int .i64 r.l) := fun w' h => by rw [heap_cell (h.heap hnFd HX8.out)]; rfl
          have hxd9 : Ext w8 w8.drew := (Ext.refl w8).drew
          generalize w8.drew = W9 at *
          iterate 6 (refine wpE_read (v := ?_) rfl (by rfl) ?_ ?_; rotate_left; (focus (intro w' hx; go_simp; first | done | with_reducible rfl)); simp only [Act.put, List.setIfInBounds_toArray, List.set_cons_zero, List.set_cons_succ])
          (refine wpE_call rfl (by rfl) (fun K hK => ?_); go_simp; first | (go_at_call 97; refine (del_at (HD8.out.ext hxd9) (by have := delK_len (gB L (i : Int) U) A k; omega) r.a r.l ha0 ha1).mono ?_; rintro x w10 ⟨rfl, hda⟩; have HDA : Hid (DirAns W9 Fd e.db 16 _ w10) := hda; refine hK _ _ hda.choose_spec.2.1 ?_; clear hK K hda))
          refine wpE_done ?_
          clear e1 x1 x2
          go_wp2_with fail
          go_roundg (A.length - (k + 1))
          case measure => omega
          case rel => exact ⟨k + 1, by go_num, by omega, Nat.le_refl _, (by rw [delK_yes HRK.out HGR.out]; exact LayW.both HT.out.1 HT.out.2.1 HT.out.2.2.1 HT.out.2.2.2.1 HT.out.2.2.2.2 (hxr6.trans hxd7) HTA.out hxd9 HDA.out : LayW w w10 e (delK (gB L (i : Int) U) A (k + 1)) (delK (gB L (i : Int) U) A (k + 1)))⟩
      · obtain rfl : k = A.length := by omega
        go_wp2_with fail
        have HB2 : Hid (LayW w wr e (delK (gB L (i : Int) U) A A.length) (delK (gB L (i : Int) U) A A.length)) := HW.out
        clear HW
        go_loopg [67] B.length (fun ky s67 wq => ∃ j : Nat, s67 = .int .i64 j ∧ j ≤ B.length ∧ B.length - j ≤ ky ∧ Hid (LayW w wq e (setK (delK (gB L (i : Int) U) A A.length) B j) (setK (delK (gB L (i : Int) U) A A.length) B j)))
        case atStart => exact ⟨0, rfl, Nat.zero_le _, Nat.le_refl _, (HB2.out : LayW w wr e (setK (delK (gB L (i : Int) U) A A.length) B 0) (setK (delK (gB L (i : Int) U) A A.length) B 0))⟩
        case round =>
          obtain ⟨j, rfl, hjB, hjx, HW⟩ := hrel
          clear HB2
          by_cases hlt : j < B.length
          · have hki : (j : Int) < (B.length : Int) := by omega
            obtain ⟨r, hrk⟩ : ∃ r, B[j]? = some r := ⟨_, List.getElem?_eq_getElem hlt⟩
            have hvr := HPB.out.vp r (List.mem_of_getElem? hrk)
            have hiv : isV r.a r.l = true := isV_px hvr
            obtain ⟨ha0, ha1⟩ := px_bd hvr
            obtain ⟨Ft, Fd, t1, t2, t3, t4, t5⟩ := HW.out
            have LR := HL.out.later t4
            have HRr : Hid (LayR wr fb i rb C q m d L U Fr e (.slice pB B.length cB) B) := LR
            have HT : Hid (TrieR wr e.tb (setK (delK (gB L (i : Int) U) A A.length) B j) Ft ∧ DirAt wr e.db 16 (setK (delK (gB L (i : Int) U) A A.length) B j) Fd ∧ (∀ x ∈ Ft, x ∉ Fd) ∧ ExtS e.F w wr ∧ ∀ x, x ∈ Ft ∨ x ∈ Fd → x ∈ e.F ∨ w.heap.size ≤ x) := ⟨t1, t2, t3, t4, t5⟩
            have hfFt : fb ∉ Ft := fun hh => (t5 fb (.inl hh)).elim HL.out.fF fun h => by have := heap_lt HL.out.obj; omega
            have hfFd : fb ∉ Fd := fun hh => (t5 fb (.inr hh)).elim HL.out.fF fun h => by have := heap_lt HL.out.obj; omega
            have hnFt : wr.heap.size ∉ Ft := fun hh => Nat.lt_irrefl _ (t1.lt _ hh)
            have hnFd : wr.heap.size ∉ Fd := fun hh => Nat.lt_irrefl _ (t2.lt _ hh)
            obtain ⟨b, off, hpb, hb, g0, g1, g2, g3, g4, g5⟩ : ∃ b off, pB = some ⟨b, off, none⟩ ∧ b < wr.heap.size ∧ wr.cell? ⟨b, off + j * 6, none⟩ = some (.int .i64 r.t) ∧ wr.cell? ⟨b, off + j * 6 + 1, none⟩ = some (.int .u32 r.a) ∧ wr.cell? ⟨b, off + j * 6 + 2, none⟩ = some (.int .i64 r.l) ∧ wr.cell? ⟨b, off + j * 6 + 3, none⟩ = some (.int .i64 r.i) ∧ wr.cell? ⟨b, off + j * 6 + 4, none⟩ = some (.int .u32 r.g) ∧ wr.cell? ⟨b, off + j * 6 + 5, none⟩ = some (.int .i64 r.m) := by
              obtain ⟨p', c', e', -, -, hR⟩ := LR.new.slice
              cases e'
              exact hR.cell hrk
            subst hpb
            have HRK : Hid (B[j]? = some r) := hrk
            have hxr6 : Ext wr (wr.alloc (.cells #[.int .i64 r.t, .int .u32 r.a, .int .i64 r.l, .int .i64 r.i, .int .u32 r.g, .int .i64 r.m] 48)) := (Ext.refl wr).alloc _
            have HX1 : Hid ((wr.alloc (.cells #[.int .i64 r.t, .int .u32 r.a, .int .i64 r.l, .int .i64 r.i, .int .u32 r.g, .int .i64 r.m] 48)).heap[wr.heap.size]? = some (.cells #[.int .i64 r.t, .int .u32 r.a, .int .i64 r.l, .int .i64 r.i, .int .u32 r.g, .int .i64 r.m] 48 (0, 0))) := heap_new wr _
            have hx16 : Ext (wr.alloc (.cells #[.int .i64 r.t, .int .u32 r.a, .int .i64 r.l, .int .i64 r.i, .int .u32 r.g, .int .i64 r.m] 48)) (wr.alloc (.cells #[.int .i64 r.t, .int .u32 r.a, .int .i64 r.l, .int .i64 r.i, .int .u32 r.g, .int .i64 r.m] 48)) := Ext.refl _
            clear t1 t2 t3 t4 t5 LR hrk hvr HW
            go_wp2_with fail
            clear g0 g1 g2 g3 g4 g5
            generalize hnb : wr.heap.size = nb at *
            generalize hW6 : (wr.alloc (.cells #[.int .i64 r.t, .int .u32 r.a, .int .i64 r.l, .int .i64 r.i, .int .u32 r.g, .int .i64 r.m] 48)) = W6 at *
            clear hW6
            refine wp_region_eagerS Ft [(0, false), (1, false), (2, false), (3, false), (4, false), (5, false), (6, false), (7, true)] (by kernel_rfl) (by kernel_rfl) rfl (by kernel_rfl) (fun _ _ _ _ _ h => h) ?_
            have hO6 : W6.heap[fb]? = some (.cells C 82 (0, 0)) := hxr6.heap HRr.out.obj
            have e1 : ∀ w', ExtS Ft W6.drew w' → w'.cell? ⟨fb, 2 + i * 3 + 1, none⟩ = some (.pointer (some ⟨e.tb, 0, none⟩)) := fun w' h => by rw [heap_cell (h.heap hfFt hO6), HRr.out.ct]
            have x1 : ∀ w', ExtS Ft W6.drew w' → w'.cell? ⟨nb, 1, none⟩ = some (.int .u32 r.a) := fun w' h => by rw [heap_cell (h.heap hnFt (hx16.heap HX1.out))]; rfl
            have x2 : ∀ w', ExtS Ft W6.drew w' → w'.cell? ⟨nb, 2, none⟩ = some (.int .i64 r.l) := fun w' h => by rw [heap_cell (h.heap hnFt (hx16.heap HX1.out))]; rfl
            have hxd7 : Ext W6 W6.drew := (Ext.refl W6).drew
            have HO6 : Hid _ := hO6
            clear hO6
            generalize W6.drew = W7 at *
            iterate 7 (refine wpE_read (v := ?_) rfl (by rfl) ?_ ?_; rotate_left; (focus (intro w' hx; go_simp; first | done | with_reducible rfl)); simp only [Act.put, List.setIfInBounds_toArray, List.set_cons_zero, List.set_cons_succ])
            (refine wpE_call rfl (by rfl) (fun K hK => ?_); go_simp; first | (go_at_call 98; refine (tset (HT.out.1.ext (hxr6.trans hxd7)) r.a r.l (j : Int) ha0 ha1 hiv).mono ?_; rintro x w8 ⟨rfl, hta⟩; have HTA : Hid (TrieRAns W7 Ft e.tb _ w8) := hta; refine hK _ _ hta.choose_spec.2.1 ?_; clear hK K hta))
            refine wpE_done ?_
            clear e1 x1 x2
            obtain ⟨F8, k1, k2, k3⟩ := HTA.out
            have hO8 : w8.heap[fb]? = some (.cells C 82 (0, 0)) := k2.heap hfFt (hxd7.heap HO6.out)
            have hX8 : w8.heap[nb]? = some (.cells #[.int .i64 r.t, .int .u32 r.a, .int .i64 r.l, .int .i64 r.i, .int .u32 r.g, .int .i64 r.m] 48 (0, 0)) := k2.heap hnFt (hxd7.heap (hx16.heap HX1.out))
            have hD8 : DirAt w8 e.db 16 (setK (delK (gB L (i : Int) U) A A.length) B j) Fd := (HT.out.2.1.ext (hxr6.trans hxd7)).later k2 fun x hx hx' => HT.out.2.2.1 x hx' hx
            have HD8 : Hid (DirAt w8 e.db 16 (setK (delK (gB L (i : Int) U) A A.length) B j) Fd) := hD8
            have HO8 : Hid _ := hO8
            have HX8 : Hid _ := hX8
            clear k1 k2 k3 hO8 hX8 hD8
            go_wp2_with fail
            refine wp_region_eagerS Fd [(0, false), (1, false), (2, false), (3, false), (4, false), (5, false), (6, false), (7, true)] (by kernel_rfl) (by kernel_rfl) rfl (by kernel_rfl) (fun _ _ _ _ _ h => h) ?_
            have e1 : ∀ w', ExtS Fd w8.drew w' → w'.cell? ⟨fb, 2 + i * 3 + 2, none⟩ = some (.pointer (some ⟨e.db, 0, none⟩)) := fun w' h => by rw [heap_cell (h.heap hfFd HO8.out), HRr.out.cd]
            have x1 : ∀ w', ExtS Fd w8.drew w' → w'.cell? ⟨nb, 1, none⟩ = some (.int .u32 r.a) := fun w' h => by rw [heap_cell (h.heap hnFd HX8.out)]; rfl
            have x2 : ∀ w', ExtS Fd w8.drew w' → w'.cell? ⟨nb, 2, none⟩ = some (.int .i64 r.l) := fun w' h => by rw [heap_cell (h.heap hnFd HX8.out)]; rfl
            have hxd9 : Ext w8 w8.drew := (Ext.refl w8).drew
            generalize w8.drew = W9 at *
            iterate 7 (refine wpE_read (v := ?_) rfl (by rfl) ?_ ?_; rotate_left; (focus (intro w' hx; go_simp; first | done | with_reducible rfl)); simp only [Act.put, List.setIfInBounds_toArray, List.set_cons_zero, List.set_cons_succ])
            (refine wpE_call rfl (by rfl) (fun K hK => ?_); go_simp; first | (go_at_call 99; have cs := set_at (HD8.out.ext hxd9) (by have := setK_len (delK (gB L (i : Int) U) A A.length) B j; have := delK_len (gB L (i : Int) U) A A.length; omega) r.a r.l (j : Int) ha0 ha1; have hok := setR_ok (D := (setK (delK (gB L (i : Int) U) A A.length) B j)) (p := (r.a, r.l)) (k := j) hiv (by have h := set_room HA.out HPB.out HGO.out (k := j + 1); rw [setK_next HRK.out] at h; exact Nat.le_trans h HRM.out); rw [hok] at cs; refine cs.mono ?_; clear cs hok; rintro x w10 ⟨rfl, hda⟩; have HDA : Hid (DirAns W9 Fd e.db 16 _ w10) := hda; refine hK _ _ hda.choose_spec.2.1 ?_; clear hK K hda))
            refine wpE_done ?_
            clear e1 x1 x2
            go_wp2_with fail
            go_roundg (B.length - (j + 1))
            case measure => omega
            case rel => exact ⟨j + 1, by go_num, by omega, Nat.le_refl _, (by rw [setK_next HRK.out]; exact LayW.both HT.out.1 HT.out.2.1 HT.out.2.2.1 HT.out.2.2.2.1 HT.out.2.2.2.2 (hxr6.trans hxd7) HTA.out hxd9 HDA.out : LayW w w10 e (setK (delK (gB L (i : Int) U) A A.length) B (j + 1)) (setK (delK (gB L (i : Int) U) A A.length) B (j + 1)))⟩
          · obtain rfl : j = B.length := by omega
            have hO := (HL.out.later HW.out.S).obj
            have c0 : wr.cell? ⟨fb, 2 + i * 3, none⟩ = some (.slice pA A.length cA) := by rw [heap_cell hO, HL.out.cv, HEV.out]
            have f0 : wr.frozen? ⟨fb, 2 + i * 3, none⟩ = false := heap_frozen hO
            clear hO
            go_wp2_with fail
            (first | go_end0 | (simp only [Exit.inBlock, Exit.then]; refine bodyPost_ret (results_none rfl _ _ _) rfl ?_) | refine bodyPost_ret (results_none rfl _ _ _) rfl ?_)
            refine ⟨rfl, put_last HL.out ?_⟩
            have hW := HW.out
            rw [laid_row HA.out HPB.out HGO.out] at hW
            exact hW
end Go.Proofs.YtkfhkhgiojpfoaaGreat.Fb

namespace Go.Proofs.YtkfhkhgiojpfoaaGreat.Fb

set_option maxRecDepth 100000

open Go.RowKit Go.Proofs.YtkfhkhgiojpfoaaGreat Go.Proofs.YtkfhkhgiojpfoaaGreat.Rb

open Go.Proofs.YtkfhkhgiojpfoaaGreat.Tri (PX Vp Row TrieR TrieRAns delL foundB tdel tset)

open Go.Proofs.YtkfhkhgiojpfoaaGreat.Dr (DirAt DirAns del_at set_at keysL ownN)

set_option linter.unusedVariables false

set_option linter.unusedSimpArgs false

structure FibIn (w : World) (fb rb : Nat) (q : Option Addr) (m d : Nat) (C : Array Value) (L : List Rt) (U : List Bool) (A : Nat → List Rt) (Fr : List Nat) (E : Nat → Eng) (F : List Nat) : Prop where
  obj : w.heap[fb]? = some (.cells C 82 (0, 0))
  size : C.size = 14
  c0 : C[0]? = some (.pointer (some ⟨rb, 0, none⟩))
  c1 : C[1]? = some (.slice q m d)
  cv : ∀ i, i < 4 → C[2 + i * 3]? = some (E i).v
  ct : ∀ i, i < 4 → C[2 + i * 3 + 1]? = some (.pointer (some ⟨(E i).tb, 0, none⟩))
  cd : ∀ i, i < 4 → C[2 + i * 3 + 2]? = some (.pointer (some ⟨(E i).db, 0, none⟩))
  rib : RibAt 98 w rb L Fr
  ups : Ups w q m U
  own : OwnB w 0 (.slice q m d) U
  good : Rb.Good L
  eight : U.length ≤ 8
  eng : ∀ i, i < 4 → EngAt w (A i) (E i)
  pf : ∀ i, i < 4 → Pf (A i)
  fF : fb ∈ F
  rF : ∀ x ∈ Fr, x ∈ F
  uF : ∀ x ∈ ubk q, x ∈ F
  eF : ∀ i, i < 4 → ∀ x ∈ (E i).F, x ∈ F
  vF : ∀ i, i < 4 → ∀ x ∈ blks (E i).v, x ∈ F
  lt : ∀ x ∈ F, x < w.heap.size
  fE : ∀ i, i < 4 → fb ∉ (E i).F
  rE : ∀ i, i < 4 → ∀ x ∈ Fr, x ∉ (E i).F
  uE : ∀ i, i < 4 → ∀ x ∈ ubk q, x ∉ (E i).F
  vE : ∀ i j, i < 4 → j < 4 → ∀ x ∈ blks (E i).v, x ∉ (E j).F
  eE : ∀ i j, i < 4 → j < 4 → i ≠ j → ∀ x ∈ (E i).F, x ∉ (E j).F
  fr : fb ∉ Fr
  fu : fb ∉ ubk q
  fv : ∀ i, i < 4 → fb ∉ blks (E i).v

theorem blks_ubk (q : Option Addr) (m d : Nat) : blks (.slice q m d) = ubk q := by
  cases q <;> rfl

theorem FibIn.later {w w' : World} {fb rb : Nat} {q : Option Addr} {m d : Nat} {C : Array Value} {L : List Rt} {U : List Bool} {A : Nat → List Rt} {Fr : List Nat} {E : Nat → Eng} {F G : List Nat} (h : FibIn w fb rb q m d C L U A Fr E F) (hx : ExtS G w w') (hF : ∀ x ∈ F, x ∉ G) : FibIn w' fb rb q m d C L U A Fr E F :=
  { h with
    obj := hx.heap (hF fb h.fF) h.obj
    rib := h.rib.later hx fun x hh => hF x (h.rF x hh)
    ups := Ups.later h.ups hx fun x hh => hF x (h.uF x hh)
    own := h.own.later hx fun x hh => hF x (h.uF x (by rw [blks_ubk] at hh; exact hh))
    eng := fun i hi => (h.eng i hi).later hx (fun x hh => hF x (h.eF i hi x hh)) fun x hh => hF x (h.vF i hi x hh)
    lt := fun x hh => Nat.lt_of_lt_of_le (h.lt x hh) hx.size }

theorem FibIn.ext {w w' : World} {fb rb : Nat} {q : Option Addr} {m d : Nat} {C : Array Value} {L : List Rt} {U : List Bool} {A : Nat → List Rt} {Fr : List Nat} {E : Nat → Eng} {F : List Nat} (h : FibIn w fb rb q m d C L U A Fr E F) (hx : Ext w w') : FibIn w' fb rb q m d C L U A Fr E F := h.later (hx.toS []) (by simp)

/-- What lay needs of table k. -/
theorem FibIn.lay {w : World} {fb rb : Nat} {q : Option Addr} {m d : Nat} {C : Array Value} {L : List Rt} {U : List Bool} {A : Nat → List Rt} {Fr : List Nat} {E : Nat → Eng} {F : List Nat} (h : FibIn w fb rb q m d C L U A Fr E F) {k : Nat} (hk : k < 4) {v : Value} {B : List Rt} (hv : OwnR w 0 v B) (hvF : ∀ x ∈ blks v, x ∉ (E k).F) :
    LayR w fb k rb C q m d L U Fr (E k) v B :=
  ⟨h.obj, h.size, h.c0, h.c1, h.cv k hk, h.ct k hk, h.cd k hk, h.rib, h.ups, hv, h.fE k hk, h.rE k hk, h.uE k hk, hvF⟩

def upd {α : Type} (f : Nat → α) (k : Nat) (a : α) : Nat → α := fun i => if i = k then a else f i

theorem upd_same {α : Type} (f : Nat → α) (k : Nat) (a : α) : upd f k a k = a := by simp [upd]

theorem upd_other {α : Type} (f : Nat → α) {k i : Nat} (a : α) (h : i ≠ k) : upd f k a i = f i := by simp [upd, h]

/-- One table laid anew. -/
theorem FibIn.step {w w' : World} {fb rb : Nat} {q : Option Addr} {m d : Nat} {C : Array Value} {L : List Rt} {U : List Bool} {A : Nat → List Rt} {Fr : List Nat} {E : Nat → Eng} {F : List Nat} (h : FibIn w fb rb q m d C L U A Fr E F) {k : Nat} (hk : k < 4) {v : Value} {B : List Rt} (hv : OwnR w 0 v B) (hvE : ∀ j, j < 4 → ∀ x ∈ blks v, x ∉ (E j).F) (hvf : fb ∉ blks v) (hB : Pf B)
    (ha : LayAns w fb k C (E k) v B w') : ∃ C' e', FibIn w' fb rb q m d C' L U (upd A k B) Fr (upd E k e') (F ++ (e'.F ++ blks e'.v)) ∧ ExtS (fb :: (E k).F) w w' ∧ (∀ x ∈ e'.F, x ∈ (E k).F ∨ w.heap.size ≤ x) ∧ (e'.v = (E k).v ∨ e'.v = v) := by
  obtain ⟨e', a1, a2, a3, a4, a5, a6, a7⟩ := ha
  refine ⟨C.setIfInBounds (2 + k * 3) e'.v, e', ?_, a4, a5, a7⟩
  have hne : ∀ x, x ∈ Fr ∨ x ∈ ubk q ∨ (∃ i, i < 4 ∧ x ∈ blks (E i).v) → x ∉ fb :: (E k).F := fun x hx hm => by
    rcases List.mem_cons.1 hm with rfl | hm
    · rcases hx with hx | hx | ⟨i, hi, hx⟩
      · exact h.fr hx
      · exact h.fu hx
      · exact h.fv i hi hx
    · rcases hx with hx | hx | ⟨i, hi, hx⟩
      · exact h.rE k hk x hx hm
      · exact h.uE k hk x hx hm
      · exact h.vE i k hi hk x hx hm
  have heE : ∀ i, i < 4 → i ≠ k → ∀ x ∈ (E i).F, x ∉ fb :: (E k).F := fun i hi hik x hx hm => by
    rcases List.mem_cons.1 hm with rfl | hm
    · exact h.fE i hi hx
    · exact h.eE i k hi hk hik x hx hm
  have cell : ∀ j, j ≠ 2 + k * 3 → (C.setIfInBounds (2 + k * 3) e'.v)[j]? = C[j]? := fun j hj => by
    rw [Array.getElem?_setIfInBounds, if_neg (fun e => hj e.symm)]
  have here : (C.setIfInBounds (2 + k * 3) e'.v)[2 + k * 3]? = some e'.v := by
    rw [Array.getElem?_setIfInBounds, if_pos rfl, if_pos (by rw [h.size]; omega)]
  have hnew : ∀ x ∈ e'.F, ∀ y, y < w.heap.size → y ∉ (E k).F → y ≠ x := fun x hx y hy hyE e => by
    rcases a5 x hx with h1 | h1
    · exact hyE (e ▸ h1)
    · omega
  have hvb : ∀ x ∈ blks e'.v, (∀ j, j < 4 → x ∉ (E j).F) ∧ x ≠ fb ∧ x < w.heap.size := fun x hx => by
    rcases a7 with h1 | h1
    · rw [h1] at hx
      exact ⟨fun j hj => h.vE k j hk hj x hx, fun e => h.fv k hk (e ▸ hx), h.lt x (h.vF k hk x hx)⟩
    · rw [h1] at hx
      exact ⟨fun j hj => hvE j hj x hx, fun e => hvf (e ▸ hx), (hv.lt x hx).2⟩
  refine { obj := a6, size := by rw [Array.size_setIfInBounds]; exact h.size, c0 := by rw [cell 0 (by omega)]; exact h.c0, c1 := by rw [cell 1 (by omega)]; exact h.c1, cv := fun i hi => ?_, ct := fun i hi => ?_, cd := fun i hi => ?_,
           rib := h.rib.later a4 fun x hx => hne x (.inl hx), ups := Ups.later h.ups a4 fun x hx => hne x (.inr (.inl hx)), own := h.own.later a4 fun x hx => hne x (.inr (.inl (by rw [blks_ubk] at hx; exact hx))), good := h.good, eight := h.eight, eng := fun i hi => ?_, pf := fun i hi => ?_,
           fF := List.mem_append_left _ h.fF, rF := fun x hx => List.mem_append_left _ (h.rF x hx), uF := fun x hx => List.mem_append_left _ (h.uF x hx), eF := fun i hi x hx => ?_, vF := fun i hi x hx => ?_, lt := fun x hx => ?_,
           fE := fun i hi hx => ?_, rE := fun i hi x hx hx' => ?_, uE := fun i hi x hx hx' => ?_, vE := fun i j hi hj x hx hx' => ?_, eE := fun i j hi hj hij x hx hx' => ?_, fr := h.fr, fu := h.fu, fv := fun i hi hx => ?_ }
  · by_cases e : i = k
    · subst e; rw [upd_same]; exact here
    · rw [upd_other _ _ e, cell _ (by omega)]; exact h.cv i hi
  · rw [cell _ (by omega), h.ct i hi]
    by_cases e : i = k
    · subst e; rw [upd_same, a2]
    · rw [upd_other _ _ e]
  · rw [cell _ (by omega), h.cd i hi]
    by_cases e : i = k
    · subst e; rw [upd_same, a3]
    · rw [upd_other _ _ e]
  · by_cases e : i = k
    · subst e; rw [upd_same, upd_same]; exact a1
    · rw [upd_other _ _ e, upd_other _ _ e]
      exact (h.eng i hi).later a4 (heE i hi e) fun x hx => hne x (.inr (.inr ⟨i, hi, hx⟩))
  · by_cases e : i = k
    · subst e; rw [upd_same]; exact hB
    · rw [upd_other _ _ e]; exact h.pf i hi
  · by_cases e : i = k
    · subst e; rw [upd_same] at hx
      exact List.mem_append_right _ (List.mem_append_left _ hx)
    · rw [upd_other _ _ e] at hx
      exact List.mem_append_left _ (h.eF i hi x hx)
  · by_cases e : i = k
    · subst e; rw [upd_same] at hx
      exact List.mem_append_right _ (List.mem_append_right _ hx)
    · rw [upd_other _ _ e] at hx
      exact List.mem_append_left _ (h.vF i hi x hx)
  · rcases List.mem_append.1 hx with hx | hx
    · exact Nat.lt_of_lt_of_le (h.lt x hx) a4.size
    · rcases List.mem_append.1 hx with hx | hx
      · exact a1.lt x hx
      · exact Nat.lt_of_lt_of_le (hvb x hx).2.2 a4.size
  · by_cases e : i = k
    · subst e; rw [upd_same] at hx
      exact hnew fb hx fb (h.lt fb h.fF) (h.fE i hi) rfl
    · rw [upd_other _ _ e] at hx
      exact h.fE i hi hx
  · by_cases e : i = k
    · subst e; rw [upd_same] at hx'
      exact hnew x hx' x (h.lt x (h.rF x hx)) (h.rE i hi x hx) rfl
    · rw [upd_other _ _ e] at hx'
      exact h.rE i hi x hx hx'
  · by_cases e : i = k
    · subst e; rw [upd_same] at hx'
      exact hnew x hx' x (h.lt x (h.uF x hx)) (h.uE i hi x hx) rfl
    · rw [upd_other _ _ e] at hx'
      exact h.uE i hi x hx hx'
  · have hxx : (∀ j, j < 4 → x ∉ (E j).F) ∧ x < w.heap.size := by
      by_cases e : i = k
      · subst e; rw [upd_same] at hx
        exact ⟨(hvb x hx).1, (hvb x hx).2.2⟩
      · rw [upd_other _ _ e] at hx
        exact ⟨fun j hj => h.vE i j hi hj x hx, h.lt x (h.vF i hi x hx)⟩
    by_cases e : j = k
    · subst e; rw [upd_same] at hx'
      exact hnew x hx' x hxx.2 (hxx.1 j hj) rfl
    · rw [upd_other _ _ e] at hx'
      exact hxx.1 j hj hx'
  · by_cases e : i = k
    · subst e
      rw [upd_same] at hx
      rw [upd_other _ _ (fun e => hij e.symm)] at hx'
      exact hnew x hx x (h.lt x (h.eF j hj x hx')) (h.eE j i hj hi (fun e => hij e.symm) x hx') rfl
    · rw [upd_other _ _ e] at hx
      by_cases e2 : j = k
      · subst e2
        rw [upd_same] at hx'
        exact hnew x hx' x (h.lt x (h.eF i hi x hx)) (h.eE i j hi hj hij x hx) rfl
      · rw [upd_other _ _ e2] at hx'
        exact h.eE i j hi hj hij x hx hx'
  · by_cases e : i = k
    · subst e; rw [upd_same] at hx
      exact (hvb fb hx).2.1 rfl
    · rw [upd_other _ _ e] at hx
      exact h.fv i hi hx

/-- A Fib of the ways L, with U up, in the blocks F. -/
def FibAt (w : World) (fb : Nat) (L : List Rt) (U : List Bool) (F : List Nat) : Prop := ∃ rb q d C Fr E, FibIn w fb rb q U.length d C L U (fun i => actL L (i : Int) U) Fr E F

theorem FibAt.later {w w' : World} {fb : Nat} {L : List Rt} {U : List Bool} {F G : List Nat} (h : FibAt w fb L U F) (hx : ExtS G w w') (hF : ∀ x ∈ F, x ∉ G) : FibAt w' fb L U F := by
  obtain ⟨rb, q, d, C, Fr, E, h⟩ := h
  exact ⟨rb, q, d, C, Fr, E, h.later hx hF⟩

theorem FibAt.ext {w w' : World} {fb : Nat} {L : List Rt} {U : List Bool} {F : List Nat} (h : FibAt w fb L U F) (hx : Ext w w') : FibAt w' fb L U F := h.later (hx.toS []) (by simp)

theorem FibAt.lt {w : World} {fb : Nat} {L : List Rt} {U : List Bool} {F : List Nat} (h : FibAt w fb L U F) : ∀ x ∈ F, x < w.heap.size := by
  obtain ⟨rb, q, d, C, Fr, E, h⟩ := h
  exact h.lt

theorem FibAt.good {w : World} {fb : Nat} {L : List Rt} {U : List Bool} {F : List Nat} (h : FibAt w fb L U F) : Rb.Good L := by
  obtain ⟨rb, q, d, C, Fr, E, h⟩ := h
  exact h.good

theorem FibAt.eight {w : World} {fb : Nat} {L : List Rt} {U : List Bool} {F : List Nat} (h : FibAt w fb L U F) : U.length ≤ 8 := by
  obtain ⟨rb, q, d, C, Fr, E, h⟩ := h
  exact h.eight

theorem FibAt.room {w : World} {fb : Nat} {L : List Rt} {U : List Bool} {F : List Nat} (h : FibAt w fb L U F) : fullB L U = false := by
  obtain ⟨rb, q, d, C, Fr, E, h⟩ := h
  refine fullB_false fun k hk => ?_
  have := (h.eng k hk).dir.room
  rw [own_row] at this
  omega

/-- A Fib, and what may have been written for it. -/
def FibAns (w : World) (fb : Nat) (F : List Nat) (L : List Rt) (U : List Bool) (w' : World) : Prop := ∃ F', FibAt w' fb L U F' ∧ ExtS F w w' ∧ ∀ x ∈ F', x ∈ F ∨ w.heap.size ≤ x

theorem FibAns.same {w w' : World} {fb : Nat} {F : List Nat} {L : List Rt} {U : List Bool} (h : FibAt w fb L U F) (hx : Ext w w') : FibAns w fb F L U w' := ⟨F, h.ext hx, hx.toS F, fun x hx => .inl hx⟩

theorem FibAns.from {w w1 w' : World} {fb : Nat} {F : List Nat} {L : List Rt} {U : List Bool} (hx : Ext w w1) (h : FibAns w1 fb F L U w') : FibAns w fb F L U w' := by
  obtain ⟨F', h1, h2, h3⟩ := h
  exact ⟨F', h1, (hx.toS F).trans h2, fun x hh => (h3 x hh).imp_right fun h => Nat.le_trans hx.size h⟩
end Go.Proofs.YtkfhkhgiojpfoaaGreat.Fb

namespace Go.Proofs.YtkfhkhgiojpfoaaGreat.Fb

set_option maxRecDepth 100000

open Go.RowKit Go.Proofs.YtkfhkhgiojpfoaaGreat Go.Proofs.YtkfhkhgiojpfoaaGreat.Rb

open Go.Proofs.YtkfhkhgiojpfoaaGreat.Tri (PX Vp Row TrieR TrieRAns delL foundB tdel tset)

open Go.Proofs.YtkfhkhgiojpfoaaGreat.Dr (DirAt DirAns del_at set_at keysL ownN)

set_option linter.unusedVariables false

set_option linter.unusedSimpArgs false

theorem FibIn.congr {w : World} {fb rb : Nat} {q : Option Addr} {m d : Nat} {C : Array Value} {L : List Rt} {U : List Bool} {A A' : Nat → List Rt} {Fr : List Nat} {E : Nat → Eng} {F : List Nat} (h : FibIn w fb rb q m d C L U A Fr E F) (hA : ∀ i, i < 4 → A' i = A i) : FibIn w fb rb q m d C L U A' Fr E F :=
  { h with
    eng := fun i hi => by rw [hA i hi]; exact h.eng i hi
    pf := fun i hi => by rw [hA i hi]; exact h.pf i hi }

/-- Other ways, others up: the engines as they were. -/
theorem FibIn.turn {w W : World} {fb rb rb' : Nat} {q q' : Option Addr} {m d m' d' : Nat} {C : Array Value} {L L' : List Rt} {U U' : List Bool} {A : Nat → List Rt} {Fr Fr' : List Nat} {E : Nat → Eng} {F : List Nat} (h : FibIn w fb rb q m d C L U A Fr E F) (hx : ExtS [fb] w W)
    (hC : W.heap[fb]? = some (.cells ((C.setIfInBounds 0 (.pointer (some ⟨rb', 0, none⟩))).setIfInBounds 1 (.slice q' m' d')) 82 (0, 0))) (hr : RibAt 98 w rb' L' Fr') (hg : Rb.Good L') (hu : Ups w q' m' U') (ho : OwnB w 0 (.slice q' m' d') U') (h8 : U'.length ≤ 8)
    (ql : ∀ x ∈ ubk q', x < w.heap.size) (far : ∀ x, x ∈ Fr' ∨ x ∈ ubk q' → (∀ j, j < 4 → x ∉ (E j).F) ∧ x ≠ fb) :
    FibIn W fb rb' q' m' d' ((C.setIfInBounds 0 (.pointer (some ⟨rb', 0, none⟩))).setIfInBounds 1 (.slice q' m' d')) L' U' A Fr' E (F ++ (Fr' ++ ubk q')) := by
  have cell : ∀ j, 2 ≤ j → ((C.setIfInBounds 0 (.pointer (some ⟨rb', 0, none⟩))).setIfInBounds 1 (.slice q' m' d'))[j]? = C[j]? := fun j hj => by
    rw [Array.getElem?_setIfInBounds, if_neg (by omega), Array.getElem?_setIfInBounds, if_neg (by omega)]
  refine { obj := hC, size := by rw [Array.size_setIfInBounds, Array.size_setIfInBounds]; exact h.size, c0 := ?_, c1 := ?_, cv := fun i hi => by rw [cell _ (by omega)]; exact h.cv i hi, ct := fun i hi => by rw [cell _ (by omega)]; exact h.ct i hi, cd := fun i hi => by rw [cell _ (by omega)]; exact h.cd i hi,
           rib := hr.later hx fun x hh e => (far x (.inl hh)).2 (List.mem_singleton.1 e), ups := Ups.later hu hx fun x hh e => (far x (.inr hh)).2 (List.mem_singleton.1 e), own := ho.later hx fun x hh e => (far x (.inr (by rw [blks_ubk] at hh; exact hh))).2 (List.mem_singleton.1 e), good := hg, eight := h8,
           eng := fun i hi => (h.eng i hi).later hx (fun x hh e => h.fE i hi (by rw [← List.mem_singleton.1 e]; exact hh)) fun x hh e => h.fv i hi (by rw [← List.mem_singleton.1 e]; exact hh), pf := h.pf,
           fF := List.mem_append_left _ h.fF, rF := fun x hh => List.mem_append_right _ (List.mem_append_left _ hh), uF := fun x hh => List.mem_append_right _ (List.mem_append_right _ hh), eF := fun i hi x hh => List.mem_append_left _ (h.eF i hi x hh), vF := fun i hi x hh => List.mem_append_left _ (h.vF i hi x hh), lt := fun x hh => ?_,
           fE := h.fE, rE := fun i hi x hh => (far x (.inl hh)).1 i hi, uE := fun i hi x hh => (far x (.inr hh)).1 i hi, vE := h.vE, eE := h.eE, fr := fun hh => (far fb (.inl hh)).2 rfl, fu := fun hh => (far fb (.inr hh)).2 rfl, fv := h.fv }
  · rw [Array.getElem?_setIfInBounds, if_neg (by omega), Array.getElem?_setIfInBounds, if_pos rfl, if_pos (by rw [h.size]; omega)]
  · rw [Array.getElem?_setIfInBounds, if_pos rfl, if_pos (by rw [Array.size_setIfInBounds, h.size]; omega)]
  · have := hx.size
    rcases List.mem_append.1 hh with hh | hh
    · have := h.lt x hh; omega
    · rcases List.mem_append.1 hh with hh | hh
      · have := hr.lt x hh; omega
      · have := ql x hh; omega

theorem ix4 {C : Array Value} {k : Nat} {p : Option Addr} {n c : Nat} (hk : k < 4) (hs : C.size = 4) (h : C[k]? = some (.slice p n c)) (w : World) : (Instr.index 122 (.agg C) (.int .i64 (k : Int))).run Tryz.prog w = .ok (.slice p n c) w := by
  obtain ⟨l⟩ := C
  match l, hs with
  | [v0, v1, v2, v3], _ =>
    rcases (by omega : k = 0 ∨ k = 1 ∨ k = 2 ∨ k = 3) with rfl | rfl | rfl | rfl
    · obtain rfl : v0 = .slice p n c := by simpa using h
      rfl
    · obtain rfl : v1 = .slice p n c := by simpa using h
      rfl
    · obtain rfl : v2 = .slice p n c := by simpa using h
      rfl
    · obtain rfl : v3 = .slice p n c := by simpa using h
      rfl

def actK (L : List Rt) (U : List Bool) (A : Nat → List Rt) (k : Nat) : Nat → List Rt := fun i => if i < k then actL L (i : Int) U else A i

theorem actK_next (L : List Rt) (U : List Bool) (A : Nat → List Rt) (k : Nat) : upd (actK L U A k) k (actL L (k : Int) U) = actK L U A (k + 1) := by
  funext i
  unfold upd actK
  by_cases e : i = k
  · subst e; rw [if_pos rfl, if_pos (by omega)]
  · rw [if_neg e]
    by_cases h : i < k
    · rw [if_pos h, if_pos (by omega)]
    · rw [if_neg h, if_neg (by omega)]

/-- Where change stands: the tables below k are laid. -/
structure ChgW (w wr : World) (fb rb : Nat) (q : Option Addr) (m d : Nat) (L : List Rt) (U : List Bool) (A : Nat → List Rt) (Fr F : List Nat) (E : Nat → Eng) (C4 C : Array Value) (E1 : Nat → Eng) (F1 : List Nat) (k : Nat) : Prop where
  fib : FibIn wr fb rb q m d C L U (actK L U A k) Fr E1 F1
  ext : ExtS F w wr
  sub : ∀ x ∈ F1, x ∈ F ∨ x ∈ Fr ++ ubk q ∨ w.heap.size ≤ x
  old : ∀ i, k ≤ i → i < 4 → E1 i = E i
  rows : ∀ j : Nat, j < 4 → ∃ v, C4[j]? = some v ∧ OwnR wr w.heap.size v (actL L (j : Int) U) ∧ ∀ x ∈ blks v, ∀ i, i < 4 → x ∉ (E1 i).F

theorem ChgW.step {w wr w' : World} {fb rb : Nat} {q : Option Addr} {m d : Nat} {L : List Rt} {U : List Bool} {A : Nat → List Rt} {Fr F : List Nat} {E : Nat → Eng} {C4 C : Array Value} {E1 : Nat → Eng} {F1 : List Nat} {k : Nat} (h : ChgW w wr fb rb q m d L U A Fr F E C4 C E1 F1 k) (hk : k < 4) (hfF : fb ∈ F) (hlt : ∀ x ∈ F, x < w.heap.size) (hEF : ∀ i, i < 4 → ∀ x ∈ (E i).F, x ∈ F)
    {v : Value} (hv : C4[k]? = some v) (ha : LayAns wr fb k C (E1 k) v (actL L (k : Int) U) w') : ∃ C' E' F', ChgW w w' fb rb q m d L U A Fr F E C4 C' E' F' (k + 1) := by
  obtain ⟨v', e', hv1, hv2⟩ := h.rows k hk
  rw [hv] at e'
  obtain rfl := (Option.some.inj e')
  have hfl : fb < w.heap.size := hlt fb hfF
  obtain ⟨C', e1, h1, h2, h3, h4⟩ := h.fib.step hk (hv1.base (Nat.zero_le _)) (fun j hj x hx => hv2 x hx j hj) (fun hx => by have := (hv1.lt fb hx).1; omega) (act_pf h.fib.good (k : Int) U) ha
  rw [actK_next] at h1
  have hsz := h.ext.size
  have hk1 : E1 k = E k := h.old k (Nat.le_refl _) hk
  refine ⟨C', _, _, h1, h.ext.then h2 fun b hb => ?_, fun x hx => ?_, fun i hi hi4 => ?_, fun j hj => ?_⟩
  · rcases List.mem_cons.1 hb with rfl | hb
    · exact .inl hfF
    · rw [hk1] at hb; exact .inl (hEF k hk b hb)
  · rcases List.mem_append.1 hx with hx | hx
    · exact h.sub x hx
    · rcases List.mem_append.1 hx with hx | hx
      · rcases h3 x hx with h5 | h5
        · rw [hk1] at h5; exact .inl (hEF k hk x h5)
        · exact .inr (.inr (by omega))
      · rcases h4 with h5 | h5
        · rw [h5] at hx; exact h.sub x (h.fib.vF k hk x hx)
        · rw [h5] at hx; exact .inr (.inr (hv1.lt x hx).1)
  · rw [upd_other _ _ (by omega)]; exact h.old i (by omega) hi4
  · obtain ⟨u, hu0, hu1, hu2⟩ := h.rows j hj
    refine ⟨u, hu0, hu1.later h2 fun x hx hm => ?_, fun x hx i hi => ?_⟩
    · rcases List.mem_cons.1 hm with rfl | hm
      · have := (hu1.lt x hx).1; omega
      · exact hu2 x hx k hk hm
    · by_cases e : i = k
      · subst e
        rw [upd_same]
        intro hm
        rcases h3 x hm with h5 | h5
        · exact hu2 x hx i hi h5
        · have := (hu1.lt x hx).2; omega
      · rw [upd_other _ _ e]; exact hu2 x hx i hi

theorem rows_open {w w' : World} {L : List Rt} {U : List Bool} {C : Array Value} (h : RowsK w w' L U C 4) : ∃ p0 n0 c0 p1 n1 c1 p2 n2 c2 p3 n3 c3, C = #[.slice p0 n0 c0, .slice p1 n1 c1, .slice p2 n2 c2, .slice p3 n3 c3] := by
  obtain ⟨l⟩ := C
  match l, h.size with
  | [v0, v1, v2, v3], _ =>
    have key : ∀ j (hj : j < 4), ∃ p n c, ((#[v0, v1, v2, v3] : Array Value)[j]?) = some (.slice p n c) := fun j hj => by
      obtain ⟨v, h1, h2⟩ := h.rows j hj
      obtain ⟨p, c, rfl, -, -, -⟩ := h2.slice
      exact ⟨p, _, c, h1⟩
    obtain ⟨p0, n0, c0, h0⟩ := key 0 (by omega)
    obtain ⟨p1, n1, c1, h1⟩ := key 1 (by omega)
    obtain ⟨p2, n2, c2, h2⟩ := key 2 (by omega)
    obtain ⟨p3, n3, c3, h3⟩ := key 3 (by omega)
    obtain rfl : v0 = .slice p0 n0 c0 := by simpa using h0
    obtain rfl : v1 = .slice p1 n1 c1 := by simpa using h1
    obtain rfl : v2 = .slice p2 n2 c2 := by simpa using h2
    obtain rfl : v3 = .slice p3 n3 c3 := by simpa using h3
    exact ⟨p0, n0, c0, p1, n1, c1, p2, n2, c2, p3, n3, c3, rfl⟩

def ChgAns (w : World) (fb : Nat) (F X : List Nat) (L : List Rt) (U : List Bool) (e : Ending) (w' : World) : Prop :=
  (fullB L U = true ∧ e = .returned (.int .i64 6) ∧ Ext w w') ∨ (fullB L U = false ∧ e = .returned (.int .i64 0) ∧ ∃ F', FibAt w' fb L U F' ∧ ExtS F w w' ∧ ∀ x ∈ F', x ∈ F ∨ x ∈ X ∨ w.heap.size ≤ x)

set_option maxHeartbeats 4000000 in
theorem change_any (fb rb rb' : Nat) (q q' : Option Addr) (m d m' d' : Nat) (C : Array Value) (L L' : List Rt) (U U' : List Bool) (A : Nat → List Rt) (Fr Fr' : List Nat) (E : Nat → Eng) (F : List Nat) (w : World) (h : FibIn w fb rb q m d C L U A Fr E F)
    (hr : RibAt 98 w rb' L' Fr') (hg : Rb.Good L') (hu : Ups w q' m' U') (ho : OwnB w 0 (.slice q' m' d') U') (h8 : U'.length ≤ 8) (ql : ∀ x ∈ ubk q', x < w.heap.size) (far : ∀ x, x ∈ Fr' ∨ x ∈ ubk q' → (∀ j, j < 4 → x ∉ (E j).F) ∧ x ≠ fb) :
    Calls Tryz.prog 50 #[.pointer (some ⟨fb, 0, none⟩), .pointer (some ⟨rb', 0, none⟩), .slice q' m' d'] w (ChgAns w fb F (Fr' ++ ubk q') L' U') := by
  have HF : Hid (FibIn w fb rb q m d C L U A Fr E F) := h
  have HR : Hid (RibAt 98 w rb' L' Fr' ∧ Rb.Good L' ∧ Ups w q' m' U' ∧ U'.length ≤ 8) := ⟨hr, hg, hu, h8⟩
  have HOU : Hid (OwnB w 0 (.slice q' m' d') U') := ho
  have HQ : Hid ((∀ x ∈ ubk q', x < w.heap.size) ∧ ∀ x, x ∈ Fr' ∨ x ∈ ubk q' → (∀ j, j < 4 → x ∉ (E j).F) ∧ x ≠ fb) := ⟨ql, far⟩
  have ct := try_any rb' L' Fr' q' m' d' U' w hr hg hu
  clear h hr hg hu ho h8 ql far
  go_enter Tryz.func50, Tryz.ntmps50
  go_wp2_with fail
  go_at_call 69
  refine ct.mono ?_
  rintro e w2 ⟨hx2, ⟨hfu, rfl⟩ | ⟨hnf, C4, HC4, rfl⟩⟩
  · have HFU : Hid _ := hfu
    have HB2 : Hid _ := heap_new w2 (.cells #[.slice none 0 0, .slice none 0 0, .slice none 0 0, .slice none 0 0] 122)
    clear hfu
    simp only [z4]
    go_wp2_with fail
    go_ret
    exact .inl ⟨HFU.out, rfl, hx2.alloc _⟩
  · have HNF : Hid (fullB L' U' = false) := hnf
    have H4 : Hid (RowsK w w2 L' U' C4 4) := HC4
    clear hnf HC4 ct
    obtain ⟨p0, n0, c0, p1, n1, c1, p2, n2, c2, p3, n3, c3, rfl⟩ := rows_open H4.out
    have hA2 : Ext w2 (w2.alloc (.cells #[.slice p0 n0 c0, .slice p1 n1 c1, .slice p2 n2 c2, .slice p3 n3 c3] 122)) := (Ext.refl w2).alloc _
    have HB2 : Hid ((w2.alloc (.cells #[.slice p0 n0 c0, .slice p1 n1 c1, .slice p2 n2 c2, .slice p3 n3 c3] 122)).heap[w2.heap.size]? = some (.cells #[.slice p0 n0 c0, .slice p1 n1 c1, .slice p2 n2 c2, .slice p3 n3 c3] 122 (0, 0))) := heap_new w2 _
    have hx3 := hx2.trans hA2
    have HF3 : Hid _ := HF.out.ext hx3
    have e0 : (w2.alloc (.cells #[.slice p0 n0 c0, .slice p1 n1 c1, .slice p2 n2 c2, .slice p3 n3 c3] 122)).cell? ⟨fb, 0, none⟩ = some (.pointer (some ⟨rb, 0, none⟩)) := by rw [heap_cell HF3.out.obj, HF.out.c0]
    have e1 : (w2.alloc (.cells #[.slice p0 n0 c0, .slice p1 n1 c1, .slice p2 n2 c2, .slice p3 n3 c3] 122)).cell? ⟨fb, 1, none⟩ = some (.slice q m d) := by rw [heap_cell HF3.out.obj, HF.out.c1]
    have f0 : ∀ k, (w2.alloc (.cells #[.slice p0 n0 c0, .slice p1 n1 c1, .slice p2 n2 c2, .slice p3 n3 c3] 122)).frozen? ⟨fb, k, none⟩ = false := fun k => heap_frozen HF3.out.obj
    have hx5 : ExtS [fb] (w2.alloc (.cells #[.slice p0 n0 c0, .slice p1 n1 c1, .slice p2 n2 c2, .slice p3 n3 c3] 122)) (((w2.alloc (.cells #[.slice p0 n0 c0, .slice p1 n1 c1, .slice p2 n2 c2, .slice p3 n3 c3] 122)).setCell ⟨fb, 0, none⟩ (.pointer (some ⟨rb', 0, none⟩))).setCell ⟨fb, 1, none⟩ (.slice q' m' d')) := (ExtS.setCell (ExtS.refl [fb] _) (p := ⟨fb, 0, none⟩) (.inl (by simp)) _).setCell (p := ⟨fb, 1, none⟩) (.inl (by simp)) _
    have hfl : fb < w2.heap.size := Nat.lt_of_lt_of_le (heap_lt HF.out.obj) hx2.size
    have HN5 : Hid ((((w2.alloc (.cells #[.slice p0 n0 c0, .slice p1 n1 c1, .slice p2 n2 c2, .slice p3 n3 c3] 122)).setCell ⟨fb, 0, none⟩ (.pointer (some ⟨rb', 0, none⟩))).setCell ⟨fb, 1, none⟩ (.slice q' m' d')).heap[w2.heap.size]? = some (.cells #[.slice p0 n0 c0, .slice p1 n1 c1, .slice p2 n2 c2, .slice p3 n3 c3] 122 (0, 0))) := hx5.heap (by simp; omega) HB2.out
    have HF5 : Hid (FibIn (((w2.alloc (.cells #[.slice p0 n0 c0, .slice p1 n1 c1, .slice p2 n2 c2, .slice p3 n3 c3] 122)).setCell ⟨fb, 0, none⟩ (.pointer (some ⟨rb', 0, none⟩))).setCell ⟨fb, 1, none⟩ (.slice q' m' d')) fb rb' q' m' d' ((C.setIfInBounds 0 (.pointer (some ⟨rb', 0, none⟩))).setIfInBounds 1 (.slice q' m' d')) L' U' A Fr' E (F ++ (Fr' ++ ubk q'))) :=
      HF3.out.turn hx5 (heap_set (heap_set HF3.out.obj _) _) (HR.out.1.ext hx3) HR.out.2.1 (HR.out.2.2.1.ext hx3) (HOU.out.ext hx3) HR.out.2.2.2 (fun x hx => Nat.lt_of_lt_of_le (HQ.out.1 x hx) hx3.size) HQ.out.2
    have HX5 : Hid (ExtS F w (((w2.alloc (.cells #[.slice p0 n0 c0, .slice p1 n1 c1, .slice p2 n2 c2, .slice p3 n3 c3] 122)).setCell ⟨fb, 0, none⟩ (.pointer (some ⟨rb', 0, none⟩))).setCell ⟨fb, 1, none⟩ (.slice q' m' d'))) := (hx3.toS F).then hx5 fun b hb => .inl (by rw [List.mem_singleton.1 hb]; exact HF.out.fF)
    have HK5 : Hid (RowsK w (((w2.alloc (.cells #[.slice p0 n0 c0, .slice p1 n1 c1, .slice p2 n2 c2, .slice p3 n3 c3] 122)).setCell ⟨fb, 0, none⟩ (.pointer (some ⟨rb', 0, none⟩))).setCell ⟨fb, 1, none⟩ (.slice q' m' d')) L' U' #[.slice p0 n0 c0, .slice p1 n1 c1, .slice p2 n2 c2, .slice p3 n3 c3] 4) :=
      ⟨rfl, fun j hj => by
        obtain ⟨v, h1, h2⟩ := H4.out.rows j hj
        refine ⟨v, h1, (h2.ext hA2).later hx5 fun g hg e => ?_⟩
        have := (h2.lt g hg).1
        have := heap_lt HF.out.obj
        rw [List.mem_singleton.1 e] at *
        omega, H4.out.one⟩
    clear hx5 hfl hx3 hA2
    go_wp2_with (refine wpl_load (by rfl) 122 _ rfl w2.heap.size #[.slice p0 n0 c0, .slice p1 n1 c1, .slice p2 n2 c2, .slice p3 n3 c3] _ _ rfl HN5.out Tryz.underlying122 rfl arr4_size ?_)
    clear e0 e1 f0
    generalize hC4 : (#[.slice p0 n0 c0, .slice p1 n1 c1, .slice p2 n2 c2, .slice p3 n3 c3] : Array Value) = C4 at *
    clear hC4 HN5 HB2 HF3 H4
    generalize (((w2.alloc (.cells C4 122)).setCell ⟨fb, 0, none⟩ (.pointer (some ⟨rb', 0, none⟩))).setCell ⟨fb, 1, none⟩ (.slice q' m' d')) = W5 at *
    have HW0 : Hid (ChgW w W5 fb rb' q' m' d' L' U' A Fr' F E C4 ((C.setIfInBounds 0 (.pointer (some ⟨rb', 0, none⟩))).setIfInBounds 1 (.slice q' m' d')) E (F ++ (Fr' ++ ubk q')) 0) :=
      ⟨HF5.out.congr fun i hi => by unfold actK; rw [if_neg (by omega)], HX5.out, fun x hx => (List.mem_append.1 hx).imp_right .inl, fun i _ _ => rfl, fun j hj => by
        obtain ⟨v, h1, h2⟩ := HK5.out.rows j hj
        exact ⟨v, h1, h2, fun x hx i hi hm => by have := (h2.lt x hx).1; have := HF.out.lt x (HF.out.eF i hi x hm); omega⟩⟩
    have HS4 : Hid (C4.size = 4) := HK5.out.size
    clear HF5 HX5 HK5
    go_loopg [29] 4 (fun kx s29 wr => ∃ (k : Nat) (C1 : Array Value) (E1 : Nat → Eng) (F1 : List Nat), s29 = .int .i64 k ∧ k ≤ 4 ∧ 4 - k ≤ kx ∧ Hid (ChgW w wr fb rb' q' m' d' L' U' A Fr' F E C4 C1 E1 F1 k))
    case atStart => exact ⟨0, _, _, _, rfl, by omega, by omega, HW0⟩
    case round =>
      obtain ⟨k, C1, E1, F1, rfl, hk4, hkx, HW⟩ := hrel
      clear HW0
      by_cases hlt : k < 4
      · have hki : (k : Int) < 4 := by omega
        obtain ⟨v, hv1, hv2, hv3⟩ := HW.out.rows k hlt
        obtain ⟨p, c, rfl, -, -, -⟩ := hv2.slice
        have hix := ix4 hlt HS4.out hv1
        have HV1 : Hid _ := hv1
        have cl := lay_any fb k rb' C1 q' m' d' L' U' Fr' (E1 k) (.slice p (actL L' (k : Int) U').length c) (actK L' U' A k k) (actL L' (k : Int) U') wr (HW.out.fib.lay hlt (hv2.base (Nat.zero_le _)) fun x hx => hv3 x hx k hlt) (HW.out.fib.eng k hlt) hlt (HW.out.fib.pf k hlt) HR.out.2.1 rfl (fullB_le HNF.out hlt)
        clear hv1 hv2 hv3
        go_wp2_with (go_at_call 70; refine cl.mono ?_; rintro x w6 ⟨rfl, hla⟩; have HLA : Hid (LayAns wr fb k C1 (E1 k) (.slice p (actL L' (k : Int) U').length c) (actL L' (k : Int) U') w6) := hla; clear hla)
        obtain ⟨C2, E2, F2, hW2⟩ := HW.out.step hlt HF.out.fF HF.out.lt HF.out.eF HV1.out HLA.out
        go_roundg (4 - (k + 1))
        case measure => omega
        case rel => exact ⟨k + 1, C2, E2, F2, by go_num, by omega, Nat.le_refl _, hW2⟩
      · obtain rfl : k = 4 := by omega
        go_wp2_with fail
        go_ret
        have hlen := HW.out.fib.ups.len
        have hf := HW.out.fib
        rw [← hlen] at hf
        exact .inr ⟨HNF.out, rfl, F1, ⟨rb', q', d', C1, Fr', E1, hf.congr fun i hi => by unfold actK; rw [if_pos hi]⟩, HW.out.ext, HW.out.sub⟩
end Go.Proofs.YtkfhkhgiojpfoaaGreat.Fb
