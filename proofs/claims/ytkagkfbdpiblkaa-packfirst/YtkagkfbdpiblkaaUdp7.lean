/- What the document's own Build answers of any datagram (chapter 6). -/
import Derived.Test.YtkagkfbdpiblkaaUdpP
import Derived.Test.YtkagkfbdpiblkaaBoxDat
import Derived.Test.YtkagkfbdpiblkaaOf3
import Derived.Test.YtkagkfbdpiblkaaPseudoO
import Derived.Test.YtkagkfbdpiblkaaRef2
namespace Go.Proofs.Ytkagkfbdpiblkaa.Udp
open Go.RowKit
set_option linter.unusedVariables false

/-- What the document's own Build answers. -/
def RefBuildAns (w : World) (s d : Int) (p : DATv) (n : Nat) (e : Ending) (w' : World) : Prop := ∃ q c, e = .returned (.tuple #[.slice q n c, .int .i64 0]) ∧ Bytes w' q n (buildV s d p) ∧ Ext w w'

/-- The same, as a row of the caller's own. -/
def RefBuildOwn (w : World) (s d : Int) (p : DATv) (n : Nat) (e : Ending) (w' : World) : Prop := ∃ q c, e = .returned (.tuple #[.slice q n c, .int .i64 0]) ∧ w'.ownsRow w.heap.size 5 1 (.slice q n c) n ((buildV s d p).map (Value.int .u8)) ∧ Ext w w'

set_option maxHeartbeats 1000000 in
theorem refBuild_bad (s d : Int) (p : DATv) (a1 : Option Addr) (n1 c1 : Nat) (w : World) (h1 : p.data.length = n1) (hv : isV p = false) :
    Calls Try.prog 26 #[.int .u32 s, .int .u32 d, .agg #[.int .i64 p.src, .int .i64 p.dst, .slice a1 n1 c1]] w fun e w' => e = .returned (.tuple #[.slice none 0 0, .int .i64 1]) ∧ Ext w w' := by
  unfold isV at hv
  rw [decide_eq_false_iff_not, h1] at hv
  obtain ⟨p0, p1, p2⟩ := p
  dsimp only at *
  clear h1
  have hx : Ext w (w.alloc (.cells #[.int .i64 p0, .int .i64 p1, .slice a1 n1 c1] 59)) := (Ext.refl w).alloc _
  have go : ∀ (h : p0 < 0 ∨ (0 ≤ p0 ∧ 65535 < p0) ∨ (0 ≤ p0 ∧ p0 ≤ 65535 ∧ p1 < 0) ∨ (0 ≤ p0 ∧ p0 ≤ 65535 ∧ 0 ≤ p1 ∧ 65535 < p1) ∨ (0 ≤ p0 ∧ p0 ≤ 65535 ∧ 0 ≤ p1 ∧ p1 ≤ 65535 ∧ (65000 : Int) < (n1 : Int))),
      Calls Try.prog 26 #[.int .u32 s, .int .u32 d, .agg #[.int .i64 p0, .int .i64 p1, .slice a1 n1 c1]] w fun e w' => e = .returned (.tuple #[.slice none 0 0, .int .i64 1]) ∧ Ext w w' := by
    intro h
    clear hv
    rcases h with h | ⟨h, h2⟩ | ⟨h, h2, h3⟩ | ⟨h, h2, h3, h4⟩ | ⟨h, h2, h3, h4, h5⟩
    all_goals
      go_enter Try.func26, Try.ntmps26
      go_wp2
      go_ret2
      exact ⟨rfl, hx⟩
  exact go (by omega)

set_option maxRecDepth 100000 in
set_option maxHeartbeats 4000000 in
theorem refBuild_own (s d : Int) (p : DATv) (a1 : Option Addr) (n1 c1 : Nat) (w : World) (h1 : Bytes w a1 n1 p.data) (z1 : a1 = none → c1 = 0)
    (hp : Fits p) (s0 : 0 ≤ s) (s1 : s ≤ 4294967295) (d0 : 0 ≤ d) (d1 : d ≤ 4294967295) (N : Nat) (hN : 8 + n1 = N) : Calls Try.prog 26 #[.int .u32 s, .int .u32 d, .agg #[.int .i64 p.src, .int .i64 p.dst, .slice a1 n1 c1]] w (RefBuildOwn w s d p N) := by
  have l1 := h1.length
  have hall := hp.all
  rw [l1] at hall
  have HP : Hid (∀ e w', RefBuildOwn w s d p N e w' ↔ ∃ q c, e = .returned (.tuple #[.slice q N c, .int .i64 0]) ∧ w'.ownsRow w.heap.size 5 1 (.slice q N c) N ((buildV s d p).map (Value.int .u8)) ∧ Ext w w') := fun e w' => Iff.rfl
  generalize RefBuildOwn w s d p N = Ans at *
  have hsu := sum_bd (p := p) h1.ok s0 s1 d0 d1
  have hck := check_bd (p := p) h1.ok s0 s1 d0 d1
  have hce : checkV s d p = sentV (sumV s d p) := rfl
  have okB := build_ok (p := p) s d h1.ok
  obtain ⟨fs, fl, fo, fp⟩ := ref_form (p := p) s d h1.ok
  have hE : pseuV s d p = pseudoV s d 17 (N : Int) := by
    unfold pseuV; rw [l1, ← hN]; congr 1
  rw [hE] at fs
  rw [l1, hN] at fl
  have HX : Hid ((((([p.src / 256 % 256, p.src % 256] ++ [p.dst / 256 % 256, p.dst % 256]) ++ [(8 + (n1 : Int)) / 256 % 256, (8 + (n1 : Int)) % 256]) ++ [0, 0]) ++ p.data) = refX p) := by
    show _ = _
    unfold refX aheadV; rw [l1]; simp
  have HS : Hid _ := fs
  have HPt : Hid _ := fp
  have cE : ∀ w, _ := fun w => refPseudo_own s d 17 (N : Int) w s0 s1 d0 d1 (by omega) (by omega) (by omega) (by omega)
  have oP : BytesOk (pseudoV s d 17 (N : Int)) := pseudoV_ok _ _ s0 s1 d0 d1
  have okX := bytesOk_append oP fo
  clear fs fp hE
  obtain ⟨t0, t1, u0, u1, _⟩ := hp
  generalize refX p = XX at *
  generalize checkV s d p = ck at *
  generalize sumV s d p = su at *
  generalize buildV s d p = Y at *
  generalize pseudoV s d 17 (N : Int) = E at *
  obtain ⟨p0, p1, p2⟩ := p
  dsimp only at *
  have hx0 : Ext w (w.alloc (.cells #[.int .i64 p0, .int .i64 p1, .slice a1 n1 c1] 59)) := (Ext.refl w).alloc _
  obtain ⟨b0, b1, b2⟩ := box_datE (heap_new' w (.cells #[.int .i64 p0, .int .i64 p1, .slice a1 n1 c1] 59))
  obtain ⟨i0, hi, hz0, hz1, hz2⟩ := info_parts Try.infoByte
  have HN : Hid _ := hN
  have hall' : (n1 : Int) ≤ 65000 := by omega
  have H0 : Hid ((su == 0) = true → 65535 = ck) := fun h => by rw [hce]; unfold sentV; rw [if_pos (by simpa using h)]
  have H1 : Hid ((su == 0) = false → su = ck) := fun h => by rw [hce]; unfold sentV; rw [if_neg (by simpa using h)]
  have cput : ∀ (w : World) (n : Int), n = ck → Calls Try.prog 36 #[.int .i64 n] w fun e w' => e = .returned (.slice (some ⟨w.heap.size, 0, none⟩) 2 2) ∧ w' = w.alloc (.cells #[.int .u8 (ck / 256 % 256), .int .u8 (ck % 256)] 5) := fun w n h => by subst h; exact refPut16_any n w (by omega) (by omega)
  generalize ck / 256 % 256 = x at *
  generalize ck % 256 = y at *
  clear hce
  go_enter Try.func26, Try.ntmps26
  go_wp2
  refine wp_region_eagerN (w.alloc (.cells #[.int .i64 p0, .int .i64 p1, .slice a1 n1 c1] 59)).heap.size [(0, false), (1, false), (3, false), (4, false), (2, true), (5, true), (6, true), (7, false)] (by kernel_rfl) (by kernel_rfl) rfl (by kernel_rfl) (fun _ _ _ _ _ h => h) ?_
  have hXd : Ext (w.alloc (.cells #[.int .i64 p0, .int .i64 p1, .slice a1 n1 c1] 59)) (w.alloc (.cells #[.int .i64 p0, .int .i64 p1, .slice a1 n1 c1] 59)).drew := (Ext.refl _).drew
  generalize (w.alloc (.cells #[.int .i64 p0, .int .i64 p1, .slice a1 n1 c1] 59)).drew = V at *
  generalize (w.alloc (.cells #[.int .i64 p0, .int .i64 p1, .slice a1 n1 c1] 59)) = W0 at *
  have y0 : ∀ w', ExtN W0.heap.size V w' → w'.cell? ⟨w.heap.size, 0, none⟩ = _ := fun w' hx => b0 w' (ExtN.ext hXd hx (Nat.le_refl _))
  have y1 : ∀ w', ExtN W0.heap.size V w' → w'.cell? ⟨w.heap.size, 1, none⟩ = _ := fun w' hx => b1 w' (ExtN.ext hXd hx (Nat.le_refl _))
  (refine wpE_read (v := ?_) rfl (by rfl) ?_ ?_; rotate_left; (focus (intro w' hx; go_simp; first | done | with_reducible rfl)); simp only [Act.put, List.setIfInBounds_toArray, List.set_cons_zero, List.set_cons_succ])
  (refine wpE_read (v := ?_) rfl (by rfl) ?_ ?_; rotate_left; (focus (intro w' hx; go_simp; first | done | with_reducible rfl)); simp only [Act.put, List.setIfInBounds_toArray, List.set_cons_zero, List.set_cons_succ])
  (refine wpE_read (v := ?_) rfl (by rfl) ?_ ?_; rotate_left; (focus (intro w' hx; go_simp; first | done | with_reducible rfl)); simp only [Act.put, List.setIfInBounds_toArray, List.set_cons_zero, List.set_cons_succ])
  (refine wpE_read (v := ?_) rfl (by rfl) ?_ ?_; rotate_left; (focus (intro w' hx; go_simp; first | done | with_reducible rfl)); simp only [Act.put, List.setIfInBounds_toArray, List.set_cons_zero, List.set_cons_succ])
  clear y0 y1
  refine wpE_call rfl (by rfl) (fun K hK => ?_); go_simp; (go_at_call 36; refine (refPut16_own _ _ (by omega) (by omega)).mono ?_; rintro e V1 ⟨rfl, hoa, hx1⟩; refine hK _ _ (hx1.upto _) ?_; clear hK K; have hX1 := hXd.trans hx1; have ho1 := owns_base hoa hXd.size; clear hoa hx1 hXd)
  refine wpE_call rfl (by rfl) (fun K hK => ?_); go_simp; (go_at_call 36; refine (refPut16_new _ _ (by omega) (by omega)).mono ?_; rintro e V2 ⟨q2, rfl, hb2, hx2⟩; refine hK _ _ (hx2.upto _) ?_; clear hK K; have hX2 := hX1.trans hx2; have ho2 := owns_later ho1 hx2; clear ho1 hx2)
  refine wpE_call rfl (by rfl) (fun K hK => ?_)
  refine wp_append_bytes (.tmp 37) (.tmp 40) 22 rfl W0.heap.size 5 i0 (.int .u8 0) Try.underlying22 hi hz0 hz1 hz2 rfl _ _ _ rfl ho2 q2 2 2 _ rfl hb2 (hb2.has (by omega) _) (by omega) hX2.size ?_
  intro v3 V3 ho3 hg3
  have hX3 := grown_ext hX2 ho2 hg3
  refine hK _ _ (grown_N ho2 hg3) ?_
  clear hK K hg3 ho2
  simp only [Act.put, List.setIfInBounds_toArray, List.set_cons_zero, List.set_cons_succ]
  (refine wpE_read (v := ?_) rfl (by rfl) ?_ ?_; rotate_left; (focus (intro w' hx; go_simp; first | done | with_reducible rfl)); simp only [Act.put, List.setIfInBounds_toArray, List.set_cons_zero, List.set_cons_succ])
  refine wpE_done ?_
  clear hX1 hX2 hb2
  have tA : Hid True := trivial
  have tB : Hid True := trivial
  have tC : Hid True := trivial
  have tD : Hid True := trivial
  have tE : Hid True := trivial
  go_wp2_with (first
    | (go_at_call 36; clear tE; refine (refPut16_new _ _ (by omega) (by omega)).mono ?_; rintro e w10 ⟨q10, rfl, hb10, hx10⟩; have ho10 := owns_later ho3 hx10; have hX10 := hX3.trans hx10; clear ho3 hx10)
    | (at_builtin; clear tA; refine append_bytes rfl (.tmp 42) (.tmp 47) 22 rfl W0.heap.size 5 i0 (.int .u8 0) Try.underlying22 hi hz0 hz1 hz2 rfl _ _ _ rfl ho10 q10 2 2 _ rfl hb10 (hb10.has (by omega) _) (by omega) hX10.size ?_; intro v11 w11 ho11 hg11; have hX11 := grown_ext hX10 ho10 hg11; clear hg11 ho10 hb10)
    | (at_builtin; clear tB; have hn : Bytes (w11.alloc (.cells #[.int .u8 0, .int .u8 0] 5)) (some ⟨w11.heap.size, 0, none⟩) 2 [0, 0] := Bytes.new w11 _ [0, 0] (by intro x hx; simp at hx; omega) (by simp); have ho12 := ho11.alloc (.cells #[.int .u8 0, .int .u8 0] 5); have hX12 := hX11.alloc (.cells #[.int .u8 0, .int .u8 0] 5); refine append_bytes rfl (.tmp 48) (.tmp 49) 22 rfl W0.heap.size 5 i0 (.int .u8 0) Try.underlying22 hi hz0 hz1 hz2 rfl _ _ _ rfl ho12 _ 2 2 _ rfl hn (by simp) (by omega) hX12.size ?_; intro v13 w13 ho13 hg13; have hX13 := grown_ext hX12 ho12 hg13; clear hg13 ho12 hn ho11)
    | (at_builtin; clear tC; refine append_bytes rfl (.tmp 51) (.tmp 53) 22 rfl W0.heap.size 5 i0 (.int .u8 0) Try.underlying22 hi hz0 hz1 hz2 rfl _ _ _ rfl ho13 a1 n1 c1 _ rfl (h1.below (hx0.trans hX13)) z1 (by omega) hX13.size ?_; intro v17 V17 ho17' hg17; have hX17 := grown_ext hX13 ho13 hg17; have ho17 : V17.ownsRow W0.heap.size 5 1 v17 N (XX.map (Value.int .u8)) := (by rw [← HX.out]; have e : 2 + 2 + 2 + 2 + n1 = N := (by have := HN.out; omega); rw [← e]; exact ho17'); clear ho17' hg17 ho13; obtain ⟨g, c5, rfl, hO⟩ := OwnB.of_owns ho17 (by omega) fo)
    | (go_at_call 41; refine (cE V17).mono ?_; rintro e V18 ⟨pE, dE, rfl, hoE, hx18⟩; have hb18 := hO.bytes.below hx18)
    | (at_builtin; refine append_bytes (by rfl) (.tmp 59) (.tmp 60) 22 rfl V17.heap.size 5 i0 (.int .u8 0) Try.underlying22 hi hz0 hz1 hz2 rfl _ _ _ rfl hoE _ N c5 _ rfl hb18 (by simp) (by omega) hx18.size ?_; intro v19 V19 ho19 hg19; have hx19 := grown_ext hx18 hoE hg19; obtain ⟨a19, c19, rfl⟩ := owns_shape ho19; obtain ⟨hb19, _, _⟩ := owns_slice ho19 okX; clear hg19 hoE ho19)
    | (go_at_call 38; have co := refOf_any a19 (12 + N) c19 _ V19 hb19 (by omega); rw [HS.out] at co; refine co.mono ?_; clear co; rintro e V20 ⟨rfl, rfl⟩; have hO20 := hO.later hx19; have ho20 := owns_later ho17 hx19; have m16 := hO20.cell (k := 6) (by omega); have m17 := hO20.cell (k := 7) (by omega); have f16 := hO20.frozen 6; have f17 := hO20.frozen 7; have hgw := hO20.lt; have hgne : g ≠ V20.heap.size := (by omega); clear tD)
    | (go_at_call 36; refine (cput _ _ (by first | exact H0.out (by assumption) | exact H1.out (by assumption))).mono ?_; rintro e V21 ⟨rfl, rfl⟩))
  all_goals
    have b16 : (6 : Int) < (N : Int) := by omega
    have b17 : (7 : Int) < (N : Int) := by omega
    go_region
    have hoz := owns_later (owns_put 7 y (owns_put 6 x ho20 (by omega)) (by omega)) (((Ext.refl _).alloc (.cells #[.int .u8 x, .int .u8 y] 5)).drew)
    have hXz := ((ExtX.ext (hX17.trans hx19) (((ExtX.refl g V20).setCell (p := ⟨g, 6, none⟩) rfl (.int .u8 x)).setCell (p := ⟨g, 7, none⟩) rfl (.int .u8 y)) hO20.base).alloc (.cells #[.int .u8 x, .int .u8 y] 5)).drew
    rw [HPt.out] at hoz
    have oY := owns_base hoz hx0.size
    clear m16 m17 f16 f17 hgw hgne hoz
    generalize (((V20.setCell ⟨g, 6, none⟩ (.int .u8 x)).setCell ⟨g, 7, none⟩ (.int .u8 y)).alloc (.cells #[.int .u8 x, .int .u8 y] 5)).drew = Vz at oY hXz ⊢
    go_wp2
    exact (HP.out _ _).2 ⟨_, _, rfl, oY, hx0.trans hXz⟩

theorem refBuild_good (s d : Int) (p : DATv) (a1 : Option Addr) (n1 c1 : Nat) (w : World) (h1 : Bytes w a1 n1 p.data) (z1 : a1 = none → c1 = 0)
    (hp : Fits p) (s0 : 0 ≤ s) (s1 : s ≤ 4294967295) (d0 : 0 ≤ d) (d1 : d ≤ 4294967295) (N : Nat) (hN : 8 + n1 = N) : Calls Try.prog 26 #[.int .u32 s, .int .u32 d, .agg #[.int .i64 p.src, .int .i64 p.dst, .slice a1 n1 c1]] w (RefBuildAns w s d p N) :=
  (refBuild_own s d p a1 n1 c1 w h1 z1 hp s0 s1 d0 d1 N hN).mono fun e w' ⟨q, c, he, ho, hx⟩ => ⟨q, c, he, (owns_slice ho (build_ok s d h1.ok)).1, hx⟩

end Go.Proofs.Ytkagkfbdpiblkaa.Udp
