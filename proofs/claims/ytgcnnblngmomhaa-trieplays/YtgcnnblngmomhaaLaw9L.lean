/- Law 9's laid: a tree behind a script, in both; prefixes: two rows. -/
import Derived.Test.YtgcnnblngmomhaaLaw9K
import Derived.Test.YtgcnnblngmomhaaRefTr4
import Derived.Test.YtgcnnblngmomhaaRowG
namespace Go.Proofs.Ytgcnnblngmomhaa.Tri
open Go.RowKit Go.Proofs.Ytgcnnblngmomhaa
set_option linter.unusedVariables false

theorem sz_put (t : Sh) (p : PX) (v : Int) : szS (putS t p v) ≤ szS t + 2 := by
  induction t with
  | nil => simp [putS, leaf, szS]
  | node q th u l r ihl ihr =>
    simp only [putS, overS, leaf]
    repeat' split
    all_goals simp only [szS] at *
    all_goals omega

theorem sz_need (q : PX) (th : Bool) (u : Int) (l r : Sh) : szS (needS (.node q th u l r)) ≤ szS l + szS r + 1 := by
  simp only [needS]
  repeat' split
  all_goals (try simp only [szS])
  all_goals omega

theorem sz_cut (t : Sh) (p : PX) : szS (cutS t p) ≤ szS t := by
  induction t with
  | nil => exact Nat.le_refl _
  | node q th u l r ihl ihr =>
    simp only [cutS]
    repeat' split
    · exact sz_need _ _ _ _ _
    · refine Nat.le_trans (sz_need _ _ _ _ _) ?_; simp only [szS]; omega
    · refine Nat.le_trans (sz_need _ _ _ _ _) ?_; simp only [szS]; omega

/-- A prefix taken away, if it is there. -/
def delS (t : Sh) (p : PX) : Sh := if foundB (toL t) p = true then cutS t p else t

theorem del_toL {t : Sh} (h : WF t) (p : PX) : toL (delS t p) = delL (toL t) p := by
  unfold delS
  split
  · rename_i hf; exact cut_toL h hf
  · rename_i hf; exact (del_not (srt_toL h) (by simpa using hf)).symm

theorem sz_del (t : Sh) (p : PX) : szS (delS t p) ≤ szS t := by
  unfold delS; split
  · exact sz_cut t p
  · exact Nat.le_refl _

theorem get_t {t : Sh} (h : WF t) {p : PX} (h0 : 0 ≤ p.1) (h1 : p.1 ≤ 4294967295) : getF (lastF none (coversS (begS t p) p)) p = getL (toL t) p := by
  rw [beg_covL h h0 h1, get_toL (srt_toL h) (fun x hx => h.vp hx) h0 h1]

/-- Del, whatever the prefix. -/
theorem Del_any (tb : Nat) (c m : Int) (t : Sh) (F : List Nat) (w : World) (c0 : 0 ≤ c) (c1 : c ≤ 4294967295) (h : TrieAt w tb t F) :
    Calls Try.prog 13 #[.pointer (some ⟨tb, 0, none⟩), .agg #[.int .u32 c, .int .i64 m]] w fun e w' => e = .returned (.bool (foundB (toL t) (c, m))) ∧ TrieAns w tb F (delS t (c, m)) w' := by
  have hg := get_t h.wf (p := (c, m)) c0 c1
  have h2 := getL_two (toL t) (c, m)
  unfold delS
  by_cases hf : foundB (toL t) (c, m) = true
  · rw [if_pos hf, hf]
    obtain ⟨u, hu⟩ := (found_mem (srt_toL h.wf)).1 hf
    exact Del_yes tb c m t F w c0 c1 h (by rw [hg, h2, hf]) (path_of h.wf hu)
  · have hf' : foundB (toL t) (c, m) = false := by simpa using hf
    rw [if_neg hf, hf']
    obtain ⟨root, ht, hi⟩ := h.top
    refine (Del_no _ root t c m w ht hi h.wf c0 c1 (by rw [hg, h2, hf'])).mono ?_
    rintro e w' ⟨rfl, hx⟩
    exact ⟨rfl, F, h.later (hx.toS []) (by simp), hx.toS F, fun x hx => .inl hx⟩

/-! Two rows of prefixes. -/

set_option maxHeartbeats 1000000 in
theorem prefixes_any (A B : Nat) (v u : Value) (L M : List PX) (w : World) (h1 : OwnP w A v L) (h2 : OwnP w B u M) (hL : L.length ≤ 1000000) (hM : M.length ≤ 1000000) :
    Calls Try.prog 24 #[v, u] w fun e w' => e = .returned (.bool (decide (L = M))) ∧ Ext w w' := by
  obtain ⟨a, cv, rfl, -, -, -⟩ := owns_slice h1
  obtain ⟨b, cu, rfl, -, -, -⟩ := owns_slice h2
  by_cases hlen : L.length = M.length
  · have hle : ((L.length : Int) == (M.length : Int)) = true := by rw [beq_iff_eq]; omega
    rw [hlen] at h1
    have H1 : Hid (OwnP w A (.slice a L.length cv) L) := by rw [hlen]; exact h1
    have H2 : Hid (OwnP w B (.slice b M.length cu) M) := h2
    have HL : Hid (L.length = M.length) := hlen
    clear h1 h2 hlen
    go_enter Try.func24, Try.ntmps24
    go_wp2_with fail
    go_loopw [5] (fun i wr => ∃ k : Nat, k ≤ L.length ∧ i = .int .i64 k ∧ Ext w wr ∧ Hid (L.take k = M.take k)) (fun i _ => L.length - (intOf i).toNat)
    case atStart => exact ⟨0, Nat.zero_le _, rfl, Ext.refl _, by show _ = _; simp⟩
    case round =>
      obtain ⟨k, hk, rfl, hx, HK⟩ := hrel
      by_cases hlt : k < L.length
      · have hlt2 : k < M.length := by rw [← HL.out]; exact hlt
        obtain ⟨⟨pa, pn⟩, hp⟩ : ∃ x, L[k]? = some x := ⟨_, List.getElem?_eq_getElem hlt⟩
        obtain ⟨⟨qa, qn⟩, hq⟩ : ∃ x, M[k]? = some x := ⟨_, List.getElem?_eq_getElem hlt2⟩
        obtain ⟨g, c', hs, g0, g1⟩ := OwnP.cell (owns_later H1.out hx : OwnP wr A _ L) hp
        cases hs
        obtain ⟨g', c2, hs, e0, e1⟩ := OwnP.cell (owns_later H2.out hx : OwnP wr B _ M) hq
        cases hs
        have nq := fun w => neq_prefix pa pn qa qn w
        have eg := eq_guard
        have hki : (k : Int) < (L.length : Int) := by omega
        have hki2 : (k : Int) < (M.length : Int) := by omega
        have HP : Hid (L[k]? = some (pa, pn) ∧ M[k]? = some (qa, qn)) := ⟨hp, hq⟩
        clear hp hq
        simp only at g0 g1 e0 e1
        cases hd : (pa == qa && pn == qn) with
        | false =>
          rw [hd] at nq
          have HD : Hid _ := hd
          clear hd
          go_wp2_with fail
          go_region
          go_wp2_with fail
          go_ret
          refine ⟨?_, hx.drew⟩
          have hne : L ≠ M := fun e => by
            obtain ⟨h1, h2⟩ := HP.out
            rw [e, h2] at h1
            cases h1
            have := HD.out
            simp at this
          rw [decide_eq_false hne]
          rfl
        | true =>
          rw [hd] at nq
          have HD : Hid _ := hd
          clear hd
          go_wp2_with fail
          go_region
          go_wp2_with fail
          go_roundw
          case rel =>
            refine ⟨k + 1, by omega, by go_num, hx.drew, ?_⟩
            obtain ⟨h1, h2⟩ := HP.out
            have h3 := HD.out
            simp only [Bool.and_eq_true, beq_iff_eq] at h3
            obtain ⟨rfl, rfl⟩ := h3
            show _ = _
            rw [List.take_add_one, List.take_add_one, HK.out, h1, h2]
          case measure => simp [intOf]; omega
      · obtain rfl : k = L.length := by omega
        go_wp2_with fail
        go_ret
        refine ⟨?_, hx⟩
        have : L = M := by
          have := HK.out
          rwa [List.take_length, HL.out, List.take_length] at this
        rw [decide_eq_true this]
        rfl
  · have hle : ((L.length : Int) == (M.length : Int)) = false := by rw [beq_eq_false_iff_ne]; omega
    have HE : Hid (L ≠ M) := fun e => hlen (by rw [e])
    clear hlen h1 h2
    go_enter Try.func24, Try.ntmps24
    go_wp2_with fail
    go_ret
    refine ⟨?_, Ext.refl w⟩
    rw [decide_eq_false HE.out]
    rfl

/-! A script. -/

abbrev ActV := Bool × Int × Int × Int
def actC (z : ActV) : List Value := [.bool (z.1), .int .u32 (z.2.1), .int .i64 (z.2.2.1), .int .i64 (z.2.2.2)]
def actOk (z : ActV) : Prop := (Lit.int .u32 (z.2.1)).wf = true ∧ (Lit.int .i64 (z.2.2.1)).wf = true ∧ (Lit.int .i64 (z.2.2.2)).wf = true

theorem act_cells {w : World} {a : Option Addr} {len cap : Nat} {zs : List ActV} (h : IsRowG 4 actC actOk w a len cap zs) {k : Nat} (hk : k < len) :
    ∃ b off d c m v, a = some ⟨b, off, none⟩ ∧ zs[k]? = some (d, c, m, v) ∧ 0 ≤ c ∧ c ≤ 4294967295 ∧ b < w.heap.size ∧ w.cell? ⟨b, off + k * 4, none⟩ = some (.bool d) ∧ w.cell? ⟨b, off + k * 4 + 1, none⟩ = some (.int .u32 c) ∧ w.cell? ⟨b, off + k * 4 + 2, none⟩ = some (.int .i64 m) ∧ w.cell? ⟨b, off + k * 4 + 3, none⟩ = some (.int .i64 v) := by
  have hl := h.length
  obtain ⟨⟨d, c, m, v⟩, hz⟩ : ∃ z, zs[k]? = some z := ⟨_, List.getElem?_eq_getElem (by omega)⟩
  rcases h.cells with h0 | ⟨b, off, rfl, hc⟩
  · omega
  · have h0 := hc k _ hz 0 (by omega)
    have h1 := hc k _ hz 1 (by omega)
    have h2 := hc k _ hz 2 (by omega)
    have h3 := hc k _ hz 3 (by omega)
    have hb := bounds_u32 (h.ok _ (List.mem_of_getElem? hz)).1
    simp only [actC, List.getElem?_cons_zero, List.getElem?_cons_succ, ← Nat.add_assoc, Nat.add_zero] at h0 h1 h2 h3
    exact ⟨b, off, d, c, m, v, rfl, hz, hb.1, hb.2, block_lt h0, h0, h1, h2, h3⟩

/-- A prefix laid, if it may be. -/
def setS (t : Sh) (p : PX) (v : Int) : Sh := if isV p.1 p.2 = true then putS t p v else t
def setR (L : Row) (p : PX) (v : Int) : Row := if isV p.1 p.2 = true then setL L p v else L
def errV (p : PX) : Int := if isV p.1 p.2 = true then 0 else 1

theorem setS_toL {t : Sh} (h : WF t) {p : PX} (h0 : 0 ≤ p.1) (h1 : p.1 ≤ 4294967295) (v : Int) : toL (setS t p v) = setR (toL t) p v := by
  unfold setS setR
  split
  · rename_i hv; exact put_toL h (vp_of h0 h1 hv) v
  · rfl

theorem sz_set (t : Sh) (p : PX) (v : Int) : szS (setS t p v) ≤ szS t + 2 := by
  unfold setS; split
  · exact sz_put t p v
  · omega

/-- Both trees, of one row. -/
structure Both (w0 : Nat) (w : World) (tb xb : Nat) (t : Sh) (F G : List Nat) : Prop where
  trie : TrieAt w tb t F
  ref : RefAt w xb (toL t) G
  apart : ∀ y ∈ F, y ∉ G
  newF : ∀ y ∈ F, w0 ≤ y
  newG : ∀ y ∈ G, w0 ≤ y

theorem Both.step_t {w0 : Nat} {w w' : World} {tb xb : Nat} {t t' : Sh} {F F' G : List Nat} (h : Both w0 w tb xb t F G) (h0 : w0 ≤ w.heap.size) (ht : TrieAt w' tb t' F') (hx : ExtS F w w') (hn : ∀ y ∈ F', y ∈ F ∨ w.heap.size ≤ y) :
    RefAt w' xb (toL t) G ∧ (∀ y ∈ F', y ∉ G) ∧ ∀ y ∈ F', w0 ≤ y := by
  have hG := h.ref.lt
  refine ⟨h.ref.later hx (fun y hy e => h.apart y e hy), fun y hy e => ?_, fun y hy => ?_⟩
  · rcases hn y hy with h1 | h1
    · exact h.apart y h1 e
    · have := hG y e; omega
  · rcases hn y hy with h1 | h1
    · exact h.newF y h1
    · omega

theorem Both.step_x {w0 : Nat} {w w' : World} {tb xb : Nat} {t : Sh} {F G G' : List Nat} (hT : TrieAt w tb t F) (hap : ∀ y ∈ F, y ∉ G) (hF : ∀ y ∈ F, w0 ≤ y) (hG : ∀ y ∈ G, w0 ≤ y) (h0 : w0 ≤ w.heap.size) (hx : ExtS G w w') (hn : ∀ y ∈ G', y ∈ G ∨ w.heap.size ≤ y) (hR : RefAt w' xb (toL t) G') :
    Both w0 w' tb xb t F G' := by
  have hl := hT.lt
  refine ⟨hT.later hx hap, hR, fun y hy e => ?_, hF, fun y hy => ?_⟩
  · rcases hn y e with h1 | h1
    · exact hap y hy h1
    · have := hl y hy; omega
  · rcases hn y hy with h1 | h1
    · exact hG y h1
    · omega

def LaidAns (w : World) (e : Ending) (w' : World) : Prop := ∃ tb xb t F G, e = .returned (.tuple #[.pointer (some ⟨tb, 0, none⟩), .pointer (some ⟨xb, 0, none⟩)]) ∧ Both w.heap.size w' tb xb t F G ∧ szS t ≤ 160 ∧ Ext w w'

set_option maxHeartbeats 2000000 in
theorem laid_any (a : Option Addr) (len cap : Nat) (zs : List ActV) (w : World) (row : IsRowG 4 actC actOk w a len cap zs) :
    Calls Try.prog 21 #[.slice a len cap] w (LaidAns w) := by
  have k0 := fun w => new_any w
  have hm := row.le
  have hm2 := row.room
  unfold maxLen at hm2
  have HR : Hid _ := row
  have kd := fun (tb : Nat) c m t F w (c0 : 0 ≤ c) (c1 : c ≤ 4294967295) (h : TrieAt w tb t F) => Del_any tb c m t F w c0 c1 h
  clear row
  have hA : Ext w ((w.alloc (.cells #[.pointer none] 62)).alloc (.cells #[.slice none 0 0, .slice none 0 0] 29)) := ((Ext.refl w).alloc _).alloc _
  have hB : Both w.heap.size ((w.alloc (.cells #[.pointer none] 62)).alloc (.cells #[.slice none 0 0, .slice none 0 0] 29)) w.heap.size (w.heap.size + 1) .nil [w.heap.size] [w.heap.size + 1] := by
    refine ⟨(trie_new w).later (((Ext.refl _).alloc _).toS []) (by simp), ⟨.slice none 0 0, .slice none 0 0, rfl, ?_, OwnP.nil _ _, World.ownsRow_nil _ _ _ _, .inl ⟨rfl, rfl⟩⟩, by simp, by simp, by simp⟩
    have := heap_new (w.alloc (.cells #[.pointer none] 62)) (.cells #[.slice none 0 0, .slice none 0 0] 29)
    rwa [show (w.alloc (.cells #[.pointer none] 62)).heap.size = w.heap.size + 1 by simp] at this
  have HB : Hid _ := hB
  clear hB
  go_enter Try.func21, Try.ntmps21
  go_wp2_with (go_at_call 12; refine (k0 _).mono ?_; rintro e w1 ⟨rfl, rfl⟩)
  go_loopw [6] (fun i wr => ∃ (k : Nat) (t : Sh) (F G : List Nat), k ≤ 80 ∧ i = .int .i64 k ∧ Ext w wr ∧ Hid (Both w.heap.size wr w.heap.size (w.heap.size + 1) t F G ∧ szS t ≤ 2 * k)) (fun i _ => 80 - (intOf i).toNat)
  case atStart => exact ⟨0, .nil, [w.heap.size], [w.heap.size + 1], Nat.zero_le _, rfl, hA, ⟨HB.out, Nat.le_refl _⟩⟩
  case round =>
    obtain ⟨k, t, F, G, hk, rfl, hx, HK⟩ := hrel
    clear HB hA k0
    by_cases hlt : k < len
    · by_cases h80 : k < 80
      · obtain ⟨b, off, d, c, m, v, rfl, -, c0, c1, hbl, g0, g1, g2, g3⟩ := act_cells HR.out hlt
        obtain ⟨hBo, hsz⟩ := HK.out
        have hws := hx.size
        have hlx := hx.below
        have j0 : wr.cell? ⟨b, off + k * 4, none⟩ = some (.bool d) := by rw [hlx.cell (p := ⟨b, off + k * 4, none⟩) hbl]; exact g0
        have j1 : wr.cell? ⟨b, off + k * 4 + 1, none⟩ = some (.int .u32 c) := by rw [hlx.cell (p := ⟨b, off + k * 4 + 1, none⟩) hbl]; exact g1
        have j2 : wr.cell? ⟨b, off + k * 4 + 2, none⟩ = some (.int .i64 m) := by rw [hlx.cell (p := ⟨b, off + k * 4 + 2, none⟩) hbl]; exact g2
        have j3 : wr.cell? ⟨b, off + k * 4 + 3, none⟩ = some (.int .i64 v) := by rw [hlx.cell (p := ⟨b, off + k * 4 + 3, none⟩) hbl]; exact g3
        have hki : (k : Int) < (len : Int) := by omega
        have HG : Hid (w.cell? ⟨b, off + k * 4, none⟩ = some (.bool d) ∧ w.cell? ⟨b, off + k * 4 + 1, none⟩ = some (.int .u32 c) ∧ w.cell? ⟨b, off + k * 4 + 2, none⟩ = some (.int .i64 m) ∧ w.cell? ⟨b, off + k * 4 + 3, none⟩ = some (.int .i64 v)) := ⟨g0, g1, g2, g3⟩
        clear g0 g1 g2 g3 hlx HR
        cases d
        · have hbF : b ∉ F := fun h => by have := hBo.newF b h; omega
          have hbG : b ∉ G := fun h => by have := hBo.newG b h; omega
          have ks := Set_any w.heap.size c m v t F wr.drew c0 c1 (hBo.trie.later (((Ext.refl wr).drew).toS []) (by simp))
          have kr := fun W (h : RefAt W (w.heap.size + 1) (toL t) G) => refSet_any (w.heap.size + 1) (toL t) G c m v W h (by have := toL_len t; omega) c0 c1
          have e1 : (if isV c m = true then putS t (c, m) v else t) = setS t (c, m) v := rfl
          have e2 : (if isV c m = true then setL (toL t) (c, m) v else toL t) = setR (toL t) (c, m) v := rfl
          have e3 : (if isV c m = true then (0 : Int) else 1) = errV (c, m) := rfl
          rw [e1, e3] at ks
          simp only [e2, e3] at kr
          have HE : Hid (toL (setS t (c, m) v) = setR (toL t) (c, m) v ∧ szS (setS t (c, m) v) ≤ szS t + 2) := ⟨setS_toL hBo.trie.wf c0 c1 v, sz_set t (c, m) v⟩
          clear e1 e2 e3
          generalize setS t (c, m) v = t2 at *
          generalize setR (toL t) (c, m) v = L2 at *
          generalize errV (c, m) = er at *
          go_wp2_with fail
          refine wp_region_eagerS F [(0, false), (1, false), (2, false), (3, false), (4, false), (5, false), (6, false), (7, false), (8, false), (9, false), (10, false), (11, true)] (by kernel_rfl) (by kernel_rfl) rfl (by kernel_rfl) (fun _ _ _ _ _ h => h) ?_
          have hxd : Ext w wr.drew := hx.drew
          have hBd : Both w.heap.size wr.drew w.heap.size (w.heap.size + 1) t F G := ⟨hBo.trie.later (((Ext.refl wr).drew).toS []) (by simp), hBo.ref.later (((Ext.refl wr).drew).toS []) (by simp), hBo.apart, hBo.newF, hBo.newG⟩
          have r1 : ∀ w', ExtS F wr.drew w' → w'.cell? ⟨b, off + k * 4 + 1, none⟩ = some (.int .u32 c) := fun w' h => by rw [((((hxd.toS F).trans h).ext hBo.newF)).below.cell (p := ⟨b, off + k * 4 + 1, none⟩) hbl]; exact HG.out.2.1
          have r2 : ∀ w', ExtS F wr.drew w' → w'.cell? ⟨b, off + k * 4 + 2, none⟩ = some (.int .i64 m) := fun w' h => by rw [((((hxd.toS F).trans h).ext hBo.newF)).below.cell (p := ⟨b, off + k * 4 + 2, none⟩) hbl]; exact HG.out.2.2.1
          have r3 : ∀ w', ExtS F wr.drew w' → w'.cell? ⟨b, off + k * 4 + 3, none⟩ = some (.int .i64 v) := fun w' h => by rw [((((hxd.toS F).trans h).ext hBo.newF)).below.cell (p := ⟨b, off + k * 4 + 3, none⟩) hbl]; exact HG.out.2.2.2
          clear j0 j1 j2 j3
          generalize wr.drew = W at *
          repeat (first
            | (refine wpE_read (v := ?_) rfl (by rfl) ?_ ?_; rotate_left; (focus (intro w' hx; go_simp; first | done | with_reducible rfl)); simp only [Act.put, List.setIfInBounds_toArray, List.set_cons_zero, List.set_cons_succ])
            | (refine wpE_call rfl (by rfl) (fun K hK => ?_); go_simp; first
                | (go_at_call 15; refine ks.mono ?_; rintro e w2 ⟨rfl, F2, hT2, hx2, hn2⟩; refine hK _ _ hx2 ?_; clear hK K)))
          refine wpE_done ?_
          clear r1 r2 r3
          obtain ⟨hR2, hap2, hF2⟩ := hBd.step_t hxd.size hT2 hx2 hn2
          have hxw2 : Ext w w2 := ((hxd.toS F).trans hx2).ext hBo.newF
          go_wp2_with fail
          refine wp_region_eagerS G [(0, false), (1, false), (2, false), (3, false), (4, false), (5, false), (6, false), (7, false), (8, false), (9, false), (10, false), (11, true)] (by kernel_rfl) (by kernel_rfl) rfl (by kernel_rfl) (fun _ _ _ _ _ h => h) ?_
          have hxd2 : Ext w w2.drew := hxw2.drew
          have hR2d := hR2.later (((Ext.refl w2).drew).toS []) (by simp)
          have hT2d := hT2.later (((Ext.refl w2).drew).toS []) (by simp)
          have r1 : ∀ w', ExtS G w2.drew w' → w'.cell? ⟨b, off + k * 4 + 1, none⟩ = some (.int .u32 c) := fun w' h => by rw [((((hxd2.toS G).trans h).ext hBo.newG)).below.cell (p := ⟨b, off + k * 4 + 1, none⟩) hbl]; exact HG.out.2.1
          have r2 : ∀ w', ExtS G w2.drew w' → w'.cell? ⟨b, off + k * 4 + 2, none⟩ = some (.int .i64 m) := fun w' h => by rw [((((hxd2.toS G).trans h).ext hBo.newG)).below.cell (p := ⟨b, off + k * 4 + 2, none⟩) hbl]; exact HG.out.2.2.1
          have r3 : ∀ w', ExtS G w2.drew w' → w'.cell? ⟨b, off + k * 4 + 3, none⟩ = some (.int .i64 v) := fun w' h => by rw [((((hxd2.toS G).trans h).ext hBo.newG)).below.cell (p := ⟨b, off + k * 4 + 3, none⟩) hbl]; exact HG.out.2.2.2
          generalize w2.drew = W2 at *
          repeat (first
            | (refine wpE_read (v := ?_) rfl (by rfl) ?_ ?_; rotate_left; (focus (intro w' hx; go_simp; first | done | with_reducible rfl)); simp only [Act.put, List.setIfInBounds_toArray, List.set_cons_zero, List.set_cons_succ])
            | (refine wpE_call rfl (by rfl) (fun K hK => ?_); go_simp; first
                | (go_at_call 16; refine (kr _ hR2d).mono ?_; rintro e w3 ⟨rfl, G3, hR3, hx3, hn3⟩; refine hK _ _ hx3 ?_; clear hK K)))
          refine wpE_done ?_
          clear r1 r2 r3
          go_wp2_with fail
          go_roundw
          case rel =>
            refine ⟨k + 1, t2, F2, G3, by omega, by go_num, ((hxd2.toS G).trans hx3).ext hBo.newG, ?_⟩
            refine ⟨Both.step_x hT2d hap2 hF2 hBo.newG hxd2.size hx3 hn3 ?_, ?_⟩
            · rw [HE.out.1]; exact hR3
            · have := HE.out.2; omega
          case measure => simp [intOf]; omega
        · go_wp2_with (first
            | (go_at_call 13; refine (kd _ c m t F _ c0 c1 hBo.trie).mono ?_; rintro e w2 ⟨rfl, F2, hT2, hx2, hn2⟩; obtain ⟨hR2, hap2, hF2⟩ := hBo.step_t hws hT2 hx2 hn2; have hxw2 : Ext w w2 := ((hx.toS F).trans hx2).ext hBo.newF; have i1 : w2.cell? ⟨b, off + k * 4 + 1, none⟩ = some (.int .u32 c) := (by rw [hxw2.below.cell (p := ⟨b, off + k * 4 + 1, none⟩) hbl]; exact HG.out.2.1); have i2 : w2.cell? ⟨b, off + k * 4 + 2, none⟩ = some (.int .i64 m) := (by rw [hxw2.below.cell (p := ⟨b, off + k * 4 + 2, none⟩) hbl]; exact HG.out.2.2.1))
            | (go_at_call 14; refine (refDel_any _ _ G c m _ hR2 (srt_toL hBo.trie.wf) (by have := toL_len t; omega)).mono ?_; rintro e w3 ⟨rfl, G3, hR3, hx3, hn3⟩))
          go_roundw
          case rel =>
            refine ⟨k + 1, delS t (c, m), F2, G3, by omega, by go_num, ?_, ?_⟩
            · exact ((hxw2.toS G).trans hx3).ext hBo.newG
            · refine ⟨Both.step_x hT2 hap2 hF2 hBo.newG hxw2.size hx3 hn3 ?_, ?_⟩
              · rw [del_toL hBo.trie.wf]; exact hR3
              · have := sz_del t (c, m); omega
          case measure => simp [intOf]; omega
      · obtain rfl : k = 80 := by omega
        have hki : ((80 : Nat) : Int) < (len : Int) := by omega
        go_wp2_with fail
        go_ret2
        exact ⟨_, _, t, F, G, rfl, HK.out.1, HK.out.2, hx⟩
    · have hki : (len : Int) ≤ (k : Int) := by omega
      go_wp2_with fail
      go_ret2
      exact ⟨_, _, t, F, G, rfl, HK.out.1, by have := HK.out.2; omega, hx⟩
end Go.Proofs.Ytgcnnblngmomhaa.Tri
