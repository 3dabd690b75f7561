/- Texts joined by a program: Rpf3, Law13K, Rpf4. -/
import Derived.Test.YtkfhkhgiojpfoaaGreatJ24
import Derived.Test.YtkfhkhgiojpfoaaGreatJ25
namespace Go.Proofs.YtkfhkhgiojpfoaaGreat.Rp

set_option maxRecDepth 100000

open Go.RowKit Go.Proofs.YtkfhkhgiojpfoaaGreat Go.Proofs.YtkfhkhgiojpfoaaGreat.Rb Go.Proofs.YtkfhkhgiojpfoaaGreat.Fb

set_option linter.unusedVariables false

set_option linter.unusedSimpArgs false

def fV (U : List Bool) (src mode iface : Int) (r : Rt) : Bool := aliveB U src r && suchV mode iface r

theorem fV_alive {U : List Bool} {src mode iface : Int} {r : Rt} (h : aliveB U src r = true) : fV U src mode iface r = suchV mode iface r := by unfold fV; rw [h]; rfl

theorem fV_dead {U : List Bool} {src mode iface : Int} {r : Rt} (h : aliveB U src r = false) : fV U src mode iface r = false := by unfold fV; rw [h]; rfl

theorem any_no {α : Type} {L : List α} {f : α → Bool} {k : Nat} {x : α} (h : (L.take (k + 1)).any f = ((L.take k).any f || f x)) (h0 : (L.take k).any f = false) (hx : f x = false) : (L.take (k + 1)).any f = false := by
  rw [h, h0, hx]; rfl

set_option maxHeartbeats 8000000 in
theorem dcheck_loop (xb : Nat) (L : List Rt) (U : List Bool) (F : List Nat) (mode iface src : Int) (w : World) (h : DocAt w xb L U F) (hg : Rb.Good L) (h8 : U.length ≤ 8) (s0 : 0 ≤ src) (s1 : src ≤ 4294967295) (m0 : mode ≠ 0) (m1 : mode ≠ 1) :
    Calls Tryz.prog 11 #[.pointer (some ⟨xb, 0, none⟩), .int .i64 mode, .int .i64 iface, .int .u32 src] w (ChecksTo w (L.any (fV U src mode iface))) := by
  obtain ⟨vR, vU, h1, h2, h3, h4, h5, h6, h7⟩ := h
  obtain ⟨q, c, rfl, -, -⟩ := h3.slice
  obtain ⟨pR, cR, rfl, -, -, hR⟩ := h2.slice
  have HX : Hid (w.heap[xb]? = some (.cells #[.slice pR L.length cR, .slice q U.length c] 54 (0, 0))) := h1
  have HR : Hid (Rd w pR L.length cR L) := hR
  have HU : Hid (Ups w q U.length U) := h3.ups (by omega)
  have HG : Hid (Rb.Good L) := hg
  have hl := hg.len
  have d0 : (mode == 0) = false := by simpa using m0
  have d1 : (mode == 1) = false := by simpa using m1
  clear h1 h2 h3 h4 h5 h6 h7 hR hg m0 m1
  go_enter Tryz.func11, Tryz.ntmps11
  go_wp2_with fail
  go_loopg [11] L.length (fun kx s11 wr => ∃ k : Nat, s11 = .int .i64 k ∧ k ≤ L.length ∧ L.length - k ≤ kx ∧ Ext w wr ∧ Hid ((L.take k).any (fV U src mode iface) = false))
  case atStart => exact ⟨0, rfl, Nat.zero_le _, Nat.le_refl _, Ext.refl _, (rfl : (L.take 0).any (fV U src mode iface) = false)⟩
  case round =>
    obtain ⟨k, rfl, hkn, hkx, hx, HA⟩ := hrel
    have q0 : wr.cell? ⟨xb, 0, none⟩ = some (.slice pR L.length cR) := by rw [heap_cell (hx.heap HX.out)]; rfl
    by_cases hlt : k < L.length
    · obtain ⟨x, hxk⟩ : ∃ x, L[k]? = some x := ⟨_, List.getElem?_eq_getElem hlt⟩
      have HT : Hid ((L.take (k + 1)).any (fV U src mode iface) = ((L.take k).any (fV U src mode iface) || fV U src mode iface x)) := any_take hxk
      obtain ⟨b, off, rfl, hb, g0, g1, g2, g3, g4, g5⟩ := (HR.out.ext hx).cell hxk
      obtain ⟨xa0, xa1⟩ := (HG.out.ok x (List.mem_of_getElem? hxk)).2.2
      have hki : (k : Int) < (L.length : Int) := by omega
      have hE : Ext w (wr.alloc (.cells #[.int .i64 x.t, .int .u32 x.a, .int .i64 x.l, .int .i64 x.i, .int .u32 x.g, .int .i64 x.m] 48)) := hx.alloc _
      have hbx := box_rtE (heap_new wr (.cells #[.int .i64 x.t, .int .u32 x.a, .int .i64 x.l, .int .i64 x.i, .int .u32 x.g, .int .i64 x.m] 48))
      have hd : Ext (wr.alloc (.cells #[.int .i64 x.t, .int .u32 x.a, .int .i64 x.l, .int .i64 x.i, .int .u32 x.g, .int .i64 x.m] 48)) (wr.alloc (.cells #[.int .i64 x.t, .int .u32 x.a, .int .i64 x.l, .int .i64 x.i, .int .u32 x.g, .int .i64 x.m] 48)).drew := (Ext.refl _).drew
      obtain ⟨b0, b1, b2, b3, b4, b5⟩ := hbx
      have y0 := fun w' h => b0 w' (hd.trans h)
      have y1 := fun w' h => b1 w' (hd.trans h)
      have y2 := fun w' h => b2 w' (hd.trans h)
      have y3 := fun w' h => b3 w' (hd.trans h)
      have HZ : Hid _ := b2
      have HZ3 : Hid _ := b3
      have e1 : ∀ w', Ext (wr.alloc (.cells #[.int .i64 x.t, .int .u32 x.a, .int .i64 x.l, .int .i64 x.i, .int .u32 x.g, .int .i64 x.m] 48)).drew w' → w'.cell? ⟨xb, 1, none⟩ = some (.slice q U.length c) := fun w' h => by rw [heap_cell ((hE.trans (hd.trans h)).heap HX.out)]; rfl
      have co := fun w' (h : Ext (wr.alloc (.cells #[.int .i64 x.t, .int .u32 x.a, .int .i64 x.l, .int .i64 x.i, .int .u32 x.g, .int .i64 x.m] 48)).drew w') => on_any x.i q U.length c U w' (HU.out.ext (hE.trans (hd.trans h)))
      have kh := fun w' => refHas_any x.a x.l src w' xa0 xa1.1 s0 s1
      have HE : Hid (Ext w (wr.alloc (.cells #[.int .i64 x.t, .int .u32 x.a, .int .i64 x.l, .int .i64 x.i, .int .u32 x.g, .int .i64 x.m] 48)).drew) := hE.trans hd
      clear b0 b1 b2 b3 b4 b5 hxk hb hE
      by_cases ht : x.t = 0
      · have htd : (x.t != 0) = false := by rw [ht]; rfl
        cases hu : upB U x.i with
        | false =>
          have HD : Hid (fV U src mode iface x = false) := fV_dead (by unfold aliveB; rw [hu]; simp)
          rw [hu] at co
          clear ht hu
          go_wp2_with fail
          refine wp_region_eager [(0, false), (1, false), (2, false), (3, false), (4, false), (5, false), (6, false), (7, false), (8, false), (9, false), (10, true), (11, false), (12, false), (13, false), (14, false), (15, false), (16, false), (17, true), (18, false), (19, false)] (by kernel_rfl) (by kernel_rfl) rfl (by kernel_rfl) (fun _ _ _ _ _ h => h) ?_
          generalize (wr.alloc (.cells #[.int .i64 x.t, .int .u32 x.a, .int .i64 x.l, .int .i64 x.i, .int .u32 x.g, .int .i64 x.m] 48)).drew = W at *
          iterate 10 (refine wpE_read (v := ?_) rfl (by rfl) ?_ ?_; rotate_left; (focus (intro w' hx; go_simp; first | done | with_reducible rfl)); simp only [Act.put, List.setIfInBounds_toArray, List.set_cons_zero, List.set_cons_succ])
          (refine wpE_call rfl (by rfl) (fun K hK => ?_); go_simp; first | (go_at_call 32; refine (co _ (Ext.refl _)).mono ?_; rintro e w3 ⟨rfl, hx3⟩; refine hK _ _ hx3 ?_; clear hK K; have y1c := fun w' (h : Ext w3 w') => y1 w' (hx3.trans h); have y2c := fun w' (h : Ext w3 w') => y2 w' (hx3.trans h)))
          iterate 3 (refine wpE_read (v := ?_) rfl (by rfl) ?_ ?_; rotate_left; (focus (intro w' hx; go_simp; first | done | with_reducible rfl)); simp only [Act.put, List.setIfInBounds_toArray, List.set_cons_zero, List.set_cons_succ])
          iterate 5 (rw [wpE_skip_eq _ rfl (by rfl)]; simp only [Act.put, List.setIfInBounds_toArray, List.set_cons_zero, List.set_cons_succ])
          iterate 1 (refine wpE_read (v := ?_) rfl (by rfl) ?_ ?_; rotate_left; (focus (intro w' hx; go_simp; first | done | with_reducible rfl)); simp only [Act.put, List.setIfInBounds_toArray, List.set_cons_zero, List.set_cons_succ])
          refine wpE_done ?_
          clear y0 y1 y2 y3 e1 co kh
          have HN : Hid ((L.take (k + 1)).any (fV U src mode iface) = false) := any_no HT.out HA.out HD.out
          have HEE : Hid (Ext w w3) := HE.out.trans hx3
          go_wp2_with fail
          go_roundg (L.length - (k + 1))
          case measure => omega
          case rel => exact ⟨k + 1, by go_num, by omega, Nat.le_refl _, HEE.out, HN⟩
        | true =>
          cases hh : hasV x.a x.l src with
          | false =>
            have HD : Hid (fV U src mode iface x = false) := fV_dead (by unfold aliveB; rw [hh]; simp)
            rw [hu] at co
            rw [hh] at kh
            clear ht hu hh
            go_wp2_with fail
            refine wp_region_eager [(0, false), (1, false), (2, false), (3, false), (4, false), (5, false), (6, false), (7, false), (8, false), (9, false), (10, true), (11, false), (12, false), (13, false), (14, false), (15, false), (16, false), (17, true), (18, false), (19, false)] (by kernel_rfl) (by kernel_rfl) rfl (by kernel_rfl) (fun _ _ _ _ _ h => h) ?_
            generalize (wr.alloc (.cells #[.int .i64 x.t, .int .u32 x.a, .int .i64 x.l, .int .i64 x.i, .int .u32 x.g, .int .i64 x.m] 48)).drew = W at *
            iterate 10 (refine wpE_read (v := ?_) rfl (by rfl) ?_ ?_; rotate_left; (focus (intro w' hx; go_simp; first | done | with_reducible rfl)); simp only [Act.put, List.setIfInBounds_toArray, List.set_cons_zero, List.set_cons_succ])
            (refine wpE_call rfl (by rfl) (fun K hK => ?_); go_simp; first | (go_at_call 32; refine (co _ (Ext.refl _)).mono ?_; rintro e w3 ⟨rfl, hx3⟩; refine hK _ _ hx3 ?_; clear hK K; have y1c := fun w' (h : Ext w3 w') => y1 w' (hx3.trans h); have y2c := fun w' (h : Ext w3 w') => y2 w' (hx3.trans h)))
            iterate 6 (refine wpE_read (v := ?_) rfl (by rfl) ?_ ?_; rotate_left; (focus (intro w' hx; go_simp; first | done | with_reducible rfl)); simp only [Act.put, List.setIfInBounds_toArray, List.set_cons_zero, List.set_cons_succ])
            (refine wpE_call rfl (by rfl) (fun K hK => ?_); go_simp; first | (go_at_call 33; refine (kh _).mono ?_; rintro e w4 ⟨rfl, hx4⟩; refine hK _ _ hx4 ?_; clear hK K))
            iterate 2 (refine wpE_read (v := ?_) rfl (by rfl) ?_ ?_; rotate_left; (focus (intro w' hx; go_simp; first | done | with_reducible rfl)); simp only [Act.put, List.setIfInBounds_toArray, List.set_cons_zero, List.set_cons_succ])
            refine wpE_done ?_
            clear y0 y1 y2 y3 e1 co kh
            have HN : Hid ((L.take (k + 1)).any (fV U src mode iface) = false) := any_no HT.out HA.out HD.out
            have HEE : Hid (Ext w w4) := HE.out.trans (hx3.trans hx4)
            go_wp2_with fail
            go_roundg (L.length - (k + 1))
            case measure => omega
            case rel => exact ⟨k + 1, by go_num, by omega, Nat.le_refl _, HEE.out, HN⟩
          | true =>
            have HD : Hid (fV U src mode iface x = suchV mode iface x) := fV_alive (by unfold aliveB; rw [hh, hu, ht]; rfl)
            rw [hu] at co
            rw [hh] at kh
            clear ht hu hh
            have HD4 : Hid (Ext (wr.alloc (.cells #[.int .i64 x.t, .int .u32 x.a, .int .i64 x.l, .int .i64 x.i, .int .u32 x.g, .int .i64 x.m] 48)) (wr.alloc (.cells #[.int .i64 x.t, .int .u32 x.a, .int .i64 x.l, .int .i64 x.i, .int .u32 x.g, .int .i64 x.m] 48)).drew) := hd
            go_wp2_with fail
            refine wp_region_eager [(0, false), (1, false), (2, false), (3, false), (4, false), (5, false), (6, false), (7, false), (8, false), (9, false), (10, true), (11, false), (12, false), (13, false), (14, false), (15, false), (16, false), (17, true), (18, false), (19, false)] (by kernel_rfl) (by kernel_rfl) rfl (by kernel_rfl) (fun _ _ _ _ _ h => h) ?_
            generalize (wr.alloc (.cells #[.int .i64 x.t, .int .u32 x.a, .int .i64 x.l, .int .i64 x.i, .int .u32 x.g, .int .i64 x.m] 48)).drew = W at *
            iterate 10 (refine wpE_read (v := ?_) rfl (by rfl) ?_ ?_; rotate_left; (focus (intro w' hx; go_simp; first | done | with_reducible rfl)); simp only [Act.put, List.setIfInBounds_toArray, List.set_cons_zero, List.set_cons_succ])
            (refine wpE_call rfl (by rfl) (fun K hK => ?_); go_simp; first | (go_at_call 32; refine (co _ (Ext.refl _)).mono ?_; rintro e w3 ⟨rfl, hx3⟩; refine hK _ _ hx3 ?_; clear hK K; have y1c := fun w' (h : Ext w3 w') => y1 w' (hx3.trans h); have y2c := fun w' (h : Ext w3 w') => y2 w' (hx3.trans h)))
            iterate 6 (refine wpE_read (v := ?_) rfl (by rfl) ?_ ?_; rotate_left; (focus (intro w' hx; go_simp; first | done | with_reducible rfl)); simp only [Act.put, List.setIfInBounds_toArray, List.set_cons_zero, List.set_cons_succ])
            (refine wpE_call rfl (by rfl) (fun K hK => ?_); go_simp; first | (go_at_call 33; refine (kh _).mono ?_; rintro e w4 ⟨rfl, hx4⟩; refine hK _ _ hx4 ?_; clear hK K))
            iterate 2 (refine wpE_read (v := ?_) rfl (by rfl) ?_ ?_; rotate_left; (focus (intro w' hx; go_simp; first | done | with_reducible rfl)); simp only [Act.put, List.setIfInBounds_toArray, List.set_cons_zero, List.set_cons_succ])
            refine wpE_done ?_
            clear y0 y1 y2 y3 e1 co kh
            have HEE : Hid (Ext w w4) := HE.out.trans (hx3.trans hx4)
            have z2 := HZ.out w4 (Ext.trans HD4.out (hx3.trans hx4))
            have z3 := HZ3.out w4 (Ext.trans HD4.out (hx3.trans hx4))
            clear hx3 hx4
            by_cases m3 : mode = 3
            · subst m3
              have HY : Hid (L.any (fV U src 3 iface) = true) := any_in HT.out (by rw [HD.out]; rfl)
              go_wp2_with fail
              go_ret
              rw [HY.out]
              exact ⟨rfl, HEE.out⟩
            · by_cases m2 : mode = 2
              · subst m2
                by_cases hl0 : 0 < x.l
                · have HY : Hid (L.any (fV U src 2 iface) = true) := any_in HT.out (by rw [HD.out]; unfold suchV; simp [hl0])
                  go_wp2_with fail
                  go_ret
                  rw [HY.out]
                  exact ⟨rfl, HEE.out⟩
                · have HN : Hid ((L.take (k + 1)).any (fV U src 2 iface) = false) := any_no HT.out HA.out (by rw [HD.out]; unfold suchV; simp [hl0])
                  have hl0' : decide (0 < x.l) = false := decide_eq_false hl0
                  go_wp2_with fail
                  go_roundg (L.length - (k + 1))
                  case measure => omega
                  case rel => exact ⟨k + 1, by go_num, by omega, Nat.le_refl _, HEE.out, HN⟩
              · by_cases m4 : mode = 4
                · subst m4
                  by_cases hi0 : x.i = iface
                  · have HY : Hid (L.any (fV U src 4 iface) = true) := any_in HT.out (by rw [HD.out]; unfold suchV; simp [hi0])
                    have hi1 : (x.i == iface) = true := by simpa using hi0
                    have HI0 : Hid _ := hi0
                    clear hi0
                    go_wp2_with fail
                    go_ret
                    rw [HY.out]
                    exact ⟨rfl, HEE.out⟩
                  · have HN : Hid ((L.take (k + 1)).any (fV U src 4 iface) = false) := any_no HT.out HA.out (by rw [HD.out]; unfold suchV; simp [hi0])
                    have hi1 : (x.i == iface) = false := by simpa using hi0
                    clear hi0
                    go_wp2_with fail
                    go_roundg (L.length - (k + 1))
                    case measure => omega
                    case rel => exact ⟨k + 1, by go_num, by omega, Nat.le_refl _, HEE.out, HN⟩
                · have HN : Hid ((L.take (k + 1)).any (fV U src mode iface) = false) := any_no HT.out HA.out (by rw [HD.out]; unfold suchV; simp [m2, m3, m4])
                  have d2 : (mode == 2) = false := by simpa using m2
                  have d3 : (mode == 3) = false := by simpa using m3
                  have d4 : (mode == 4) = false := by simpa using m4
                  clear m2 m3 m4
                  go_wp2_with fail
                  go_roundg (L.length - (k + 1))
                  case measure => omega
                  case rel => exact ⟨k + 1, by go_num, by omega, Nat.le_refl _, HEE.out, HN⟩
      · have htd : (x.t != 0) = true := by simpa using ht
        have HD : Hid (fV U src mode iface x = false) := fV_dead (by unfold aliveB; rw [decide_eq_false ht]; rfl)
        clear ht
        go_wp2_with fail
        refine wp_region_eager [(0, false), (1, false), (2, false), (3, false), (4, false), (5, false), (6, false), (7, false), (8, false), (9, false), (10, true), (11, false), (12, false), (13, false), (14, false), (15, false), (16, false), (17, true), (18, false), (19, false)] (by kernel_rfl) (by kernel_rfl) rfl (by kernel_rfl) (fun _ _ _ _ _ h => h) ?_
        generalize (wr.alloc (.cells #[.int .i64 x.t, .int .u32 x.a, .int .i64 x.l, .int .i64 x.i, .int .u32 x.g, .int .i64 x.m] 48)).drew = W at *
        iterate 4 (refine wpE_read (v := ?_) rfl (by rfl) ?_ ?_; rotate_left; (focus (intro w' hx; go_simp; first | done | with_reducible rfl)); simp only [Act.put, List.setIfInBounds_toArray, List.set_cons_zero, List.set_cons_succ])
        iterate 8 (rw [wpE_skip_eq _ rfl (by rfl)]; simp only [Act.put, List.setIfInBounds_toArray, List.set_cons_zero, List.set_cons_succ])
        iterate 2 (refine wpE_read (v := ?_) rfl (by rfl) ?_ ?_; rotate_left; (focus (intro w' hx; go_simp; first | done | with_reducible rfl)); simp only [Act.put, List.setIfInBounds_toArray, List.set_cons_zero, List.set_cons_succ])
        iterate 5 (rw [wpE_skip_eq _ rfl (by rfl)]; simp only [Act.put, List.setIfInBounds_toArray, List.set_cons_zero, List.set_cons_succ])
        iterate 1 (refine wpE_read (v := ?_) rfl (by rfl) ?_ ?_; rotate_left; (focus (intro w' hx; go_simp; first | done | with_reducible rfl)); simp only [Act.put, List.setIfInBounds_toArray, List.set_cons_zero, List.set_cons_succ])
        refine wpE_done ?_
        clear y0 y1 y2 y3 e1 co kh
        have HN : Hid ((L.take (k + 1)).any (fV U src mode iface) = false) := any_no HT.out HA.out HD.out
        have HEE : Hid (Ext w W) := HE.out
        go_wp2_with fail
        go_roundg (L.length - (k + 1))
        case measure => omega
        case rel => exact ⟨k + 1, by go_num, by omega, Nat.le_refl _, HEE.out, HN⟩
    · obtain rfl : k = L.length := by omega
      have HZ : Hid (L.any (fV U src mode iface) = false) := by have h := HA.out; rwa [List.take_of_length_le (Nat.le_refl _)] at h
      go_wp2_with fail
      go_ret
      rw [HZ.out]
      exact ⟨rfl, hx⟩

set_option maxHeartbeats 4000000 in
theorem dcheck_any (xb : Nat) (L : List Rt) (U : List Bool) (F : List Nat) (mode iface src : Int) (w : World) (h : DocAt w xb L U F) (hg : Rb.Good L) (h8 : U.length ≤ 8) (s0 : 0 ≤ src) (s1 : src ≤ 4294967295) :
    Calls Tryz.prog 11 #[.pointer (some ⟨xb, 0, none⟩), .int .i64 mode, .int .i64 iface, .int .u32 src] w (ChecksTo w (checkV L U mode iface src)) := by
  by_cases m0 : mode = 0
  · subst m0
    have hv : checkV L U 0 iface src = true := rfl
    rw [hv]
    clear hv h hg
    go_enter Tryz.func11, Tryz.ntmps11
    go_wp2_with fail
    go_ret
    exact ⟨rfl, Ext.refl _⟩
  · by_cases m1 : mode = 1
    · subst m1
      have hv : checkV L U 1 iface src = ((wayO L U 0 src).isSome && decide ((theR (wayO L U 0 src)).i = iface)) := rfl
      rw [hv]
      have cl := dlook_any xb 0 src L U F w h hg h8 s0 s1
      generalize wayO L U 0 src = oo at *
      clear hv h hg m0
      cases oo with
      | none =>
        go_enter Tryz.func11, Tryz.ntmps11
        go_wp2_with (go_at_call 31; refine cl.mono ?_; rintro e w1 ⟨rfl, hx1⟩)
        go_ret
        exact ⟨rfl, hx1.alloc _⟩
      | some r =>
        go_enter Tryz.func11, Tryz.ntmps11
        go_wp2_with (go_at_call 31; refine cl.mono ?_; rintro e w1 ⟨rfl, hx1⟩)
        go_ret
        exact ⟨rfl, hx1.alloc _⟩
    · have hv : checkV L U mode iface src = L.any (fV U src mode iface) := by unfold checkV; rw [if_neg m0, if_neg m1]; rfl
      rw [hv]
      exact dcheck_loop xb L U F mode iface src w h hg h8 s0 s1 m0 m1
end Go.Proofs.YtkfhkhgiojpfoaaGreat.Rp

namespace Go.Proofs.YtkfhkhgiojpfoaaGreat.Rp

set_option maxRecDepth 100000

open Go.RowKit Go.Proofs.YtkfhkhgiojpfoaaGreat Go.Proofs.YtkfhkhgiojpfoaaGreat.Rb Go.Proofs.YtkfhkhgiojpfoaaGreat.Fb

set_option linter.unusedVariables false

set_option linter.unusedSimpArgs false

def j2 : Rt := ⟨0, 167772160, 8, 1, 0, 0⟩

theorem clampJ : clampN 2 = 2 := by decide
theorem addJ : addF [] [true, true] j2 = (0, [j2]) := by kernel_rfl
theorem inJ : InB [j2] [true, true] := by have h := (InB.nil [true, true]).add j2; rwa [addJ] at h
theorem checkJ1 : checkV [j2] [true, true] 1 0 167772165 = false := by kernel_rfl
theorem checkJ2 : checkV [j2] [true, true] 1 1 167772165 = true := by kernel_rfl
theorem checkJ3 : checkV [j2] [true, true] 2 0 167772165 = true := by kernel_rfl

set_option maxHeartbeats 1000000 in
theorem known_any (w : World) : Calls Tryz.prog 12 #[] w (ChecksTo w true) := by
  have cN := fnew_any 2 w
  rw [clampJ] at cN
  have cA := fun w fb F (h : FibAt w fb [] [true, true] F) => add_any fb [] [true, true] F j2 w h ⟨by decide, by decide, by decide, by decide, by decide, by decide, by decide, by decide, by decide, by decide, by decide, by decide⟩
  rw [addJ] at cA
  have c1 := fun w fb F (h : FibAt w fb [j2] [true, true] F) => check_any fb [j2] [true, true] F 1 0 167772165 w h inJ (by omega) (by omega)
  have c2 := fun w fb F (h : FibAt w fb [j2] [true, true] F) => check_any fb [j2] [true, true] F 1 1 167772165 w h inJ (by omega) (by omega)
  have c3 := fun w fb F (h : FibAt w fb [j2] [true, true] F) => check_any fb [j2] [true, true] F 2 0 167772165 w h inJ (by omega) (by omega)
  rw [checkJ1] at c1
  rw [checkJ2] at c2
  rw [checkJ3] at c3
  have tok1 : Hid True := trivial
  have tok2 : Hid True := trivial
  go_enter Tryz.func12, Tryz.ntmps12
  go_wp2_with (first
    | (go_at_call 20; refine cN.mono ?_; rintro e w1 ⟨fb, F, rfl, h1, hx1, hF⟩; have H1 : Hid (FibAt w1 fb [] [true, true] F ∧ Ext w w1 ∧ ∀ x ∈ F, w.heap.size ≤ x) := ⟨h1, hx1, hF⟩; clear h1 hx1 hF)
    | (go_at_call 22; refine (cA _ _ _ H1.out.1).mono ?_; rintro e w2 ⟨rfl, F2, g1, g2, g3⟩; have H2 : Hid (FibAt w2 fb [j2] [true, true] F2 ∧ Ext w w2) := ⟨g1, ExtS.ext ((H1.out.2.1.toS F).trans g2) H1.out.2.2⟩; clear g1 g2 g3)
    | (go_at_call 10; clear tok1; refine (c1 _ _ _ H2.out.1).mono ?_; rintro e w3 ⟨rfl, hx3⟩; have H3 : Hid (FibAt w3 fb [j2] [true, true] F2 ∧ Ext w w3) := ⟨H2.out.1.ext hx3, H2.out.2.trans hx3⟩; clear hx3)
    | (go_at_call 10; clear tok2; refine (c2 _ _ _ H3.out.1).mono ?_; rintro e w4 ⟨rfl, hx4⟩; have H4 : Hid (FibAt w4 fb [j2] [true, true] F2 ∧ Ext w w4) := ⟨H3.out.1.ext hx4, H3.out.2.trans hx4⟩; clear hx4)
    | (go_at_call 10; refine (c3 _ _ _ H4.out.1).mono ?_; rintro e w5 ⟨rfl, hx5⟩))
  go_ret
  exact ⟨rfl, H4.out.2.trans hx5⟩

theorem addF_both {w wr : World} {fb xb : Nat} {L : List Rt} {U : List Bool} {M : List Rt} {V : List Bool} {H : List Nat} (h : BothH w wr fb xb L U M V H) (r : Rt) (hr : RtOk r) :
    Calls Tryz.prog 22 #[.pointer (some ⟨fb, 0, none⟩), (.agg #[.int .i64 r.t, .int .u32 r.a, .int .i64 r.l, .int .i64 r.i, .int .u32 r.g, .int .i64 r.m])] wr fun e w' => e = .returned (.int .i64 (addF L U r).1) ∧ BothAns w wr fb xb (addF L U r).2 U M V H w' := by
  obtain ⟨F, hF, sF⟩ := h.stepF
  exact (add_any fb L U F r wr hF hr).mono fun e w' ⟨a, b⟩ => ⟨a, sF b⟩

theorem addX_both {w wr : World} {fb xb : Nat} {L : List Rt} {U : List Bool} {M : List Rt} {V : List Bool} {H : List Nat} (h : BothH w wr fb xb L U M V H) (r : Rt) (hr : RtOk r) (hg : Rb.Good M) (h8 : V.length ≤ 8) :
    Calls Tryz.prog 23 #[.pointer (some ⟨xb, 0, none⟩), (.agg #[.int .i64 r.t, .int .u32 r.a, .int .i64 r.l, .int .i64 r.i, .int .u32 r.g, .int .i64 r.m])] wr fun e w' => e = .returned (.int .i64 (addF M V r).1) ∧ BothAns w wr fb xb L U (addF M V r).2 V H w' := by
  obtain ⟨G, hX, sX⟩ := h.stepX
  exact (dadd_any xb M V G r wr hX hg hr h8).mono fun e w' ⟨a, b⟩ => ⟨a, sX b⟩

theorem setF_both {w wr : World} {fb xb : Nat} {L : List Rt} {U : List Bool} {M : List Rt} {V : List Bool} {H : List Nat} (h : BothH w wr fb xb L U M V H) (i : Int) (b : Bool) :
    Calls Tryz.prog 24 #[.pointer (some ⟨fb, 0, none⟩), .int .i64 i, .bool b] wr fun e w' => e = .returned (.int .i64 (setF L U i b).1) ∧ BothAns w wr fb xb L (setF L U i b).2 M V H w' := by
  obtain ⟨F, hF, sF⟩ := h.stepF
  exact (setUp_any fb L U F i b wr hF).mono fun e w' ⟨a, b⟩ => ⟨a, sF b⟩

theorem setX_both {w wr : World} {fb xb : Nat} {L : List Rt} {U : List Bool} {M : List Rt} {V : List Bool} {H : List Nat} (h : BothH w wr fb xb L U M V H) (i : Int) (b : Bool) (hg : Rb.Good M) (h8 : V.length ≤ 8) :
    Calls Tryz.prog 25 #[.pointer (some ⟨xb, 0, none⟩), .int .i64 i, .bool b] wr fun e w' => e = .returned (.int .i64 (setF M V i b).1) ∧ BothAns w wr fb xb L U M (setF M V i b).2 H w' := by
  obtain ⟨G, hX, sX⟩ := h.stepX
  exact (dsetUp_any xb M V G i b wr hX hg h8).mono fun e w' ⟨a, b⟩ => ⟨a, sX b⟩

/-- Both, of the same ways and the same up. -/
def Mates (w wr : World) (fb xb : Nat) (L : List Rt) (U : List Bool) : Prop := ∃ H, BothH w wr fb xb L U L U H

theorem Mates.later {w wr w' : World} {fb xb : Nat} {L : List Rt} {U : List Bool} (h : Mates w wr fb xb L U) (hx : Ext wr w') : Mates w w' fb xb L U := by
  obtain ⟨H, h⟩ := h
  exact ⟨H, h.later hx⟩

theorem Mates.ext {w wr : World} {fb xb : Nat} {L : List Rt} {U : List Bool} (h : Mates w wr fb xb L U) : Ext w wr := by
  obtain ⟨H, h⟩ := h
  exact h.ext

theorem Mates.good {w wr : World} {fb xb : Nat} {L : List Rt} {U : List Bool} (h : Mates w wr fb xb L U) : Rb.Good L ∧ U.length ≤ 8 ∧ fullB L U = false := by
  obtain ⟨H, h⟩ := h
  exact h.good

theorem Mates.fib {w wr : World} {fb xb : Nat} {L : List Rt} {U : List Bool} (h : Mates w wr fb xb L U) : ∃ F, FibAt wr fb L U F := by
  obtain ⟨H, F, G, h1, -⟩ := h
  exact ⟨F, h1⟩

theorem Mates.doc {w wr : World} {fb xb : Nat} {L : List Rt} {U : List Bool} (h : Mates w wr fb xb L U) : ∃ G, DocAt wr xb L U G := by
  obtain ⟨H, F, G, -, h2, -⟩ := h
  exact ⟨G, h2⟩

/-- Check of a twin. -/
theorem Mates.check {w wr : World} {fb xb : Nat} {L : List Rt} {U : List Bool} (h : Mates w wr fb xb L U) (hb : InB L U) (mode iface src : Int) (s0 : 0 ≤ src) (s1 : src ≤ 4294967295) :
    Calls Tryz.prog 10 #[.pointer (some ⟨fb, 0, none⟩), .int .i64 mode, .int .i64 iface, .int .u32 src] wr (ChecksTo wr (checkV L U mode iface src)) := by
  obtain ⟨F, hF⟩ := h.fib
  exact check_any fb L U F mode iface src wr hF hb s0 s1

theorem Mates.dcheck {w wr : World} {fb xb : Nat} {L : List Rt} {U : List Bool} (h : Mates w wr fb xb L U) (mode iface src : Int) (s0 : 0 ≤ src) (s1 : src ≤ 4294967295) :
    Calls Tryz.prog 11 #[.pointer (some ⟨xb, 0, none⟩), .int .i64 mode, .int .i64 iface, .int .u32 src] wr (ChecksTo wr (checkV L U mode iface src)) := by
  obtain ⟨G, hG⟩ := h.doc
  exact dcheck_any xb L U G mode iface src wr hG h.good.1 h.good.2.1 s0 s1

theorem InB.lay {U : List Bool} : ∀ (R : List Rt) {L : List Rt}, InB L U → InB (layL U L R) U
  | [], L, h => h
  | r :: R, L, h => InB.lay R (h.add r)

def LaidAns (w : World) (n : Nat) (R : List Rt) (down : Int) (e : Ending) (w' : World) : Prop := ∃ fb xb, e = .returned (.tuple #[.pointer (some ⟨fb, 0, none⟩), .pointer (some ⟨xb, 0, none⟩)]) ∧
  Mates w w' fb xb (layL (List.replicate n true) [] (R.take 40)) (setF (layL (List.replicate n true) [] (R.take 40)) (List.replicate n true) down false).2

theorem take_all {α : Type} {R : List α} {k : Nat} (h : R.length ≤ k) : R.take k = R := List.take_of_length_le h

set_option maxHeartbeats 4000000 in
theorem laid_any (n down : Int) (p : Option Addr) (m c : Nat) (R : List Rt) (w : World) (hR : Rd w p m c R) (hok : ∀ r ∈ R, RtOk r) :
    Calls Tryz.prog 9 #[.int .i64 n, .slice p m c, .int .i64 down] w (LaidAns w (clampN n) R down) := by
  have HR : Hid (Rd w p m c R) := hR
  have HL : Hid (R.length = m) := hR.len
  have HOK : Hid (∀ r ∈ R, RtOk r) := hok
  have cN := fun w => fnew_any n w
  have cX := fun w => dnew_any n w
  generalize hU : List.replicate (clampN n) true = U at *
  have HU : Hid (List.replicate (clampN n) true = U) := hU
  clear hR hok hU
  go_enter Tryz.func9, Tryz.ntmps9
  go_wp2_with (first
    | (go_at_call 20; refine (cN _).mono ?_; rintro e w1 ⟨fb, F, rfl, h1, hx1, hF⟩; have H1 : Hid (FibAt w1 fb [] (List.replicate (clampN n) true) F ∧ Ext w w1 ∧ ∀ x ∈ F, w.heap.size ≤ x) := ⟨h1, hx1, hF⟩; clear h1 hx1 hF)
    | (go_at_call 21; refine (cX _).mono ?_; rintro e w2 ⟨xb, G, rfl, h2, hx2, hG⟩; have HB0 : Hid (BothH w w2 fb xb [] (List.replicate (clampN n) true) [] (List.replicate (clampN n) true) (F ++ G)) := both_new H1.out.1 H1.out.2.1 H1.out.2.2 h2 hx2 hG; clear h2 hx2 hG))
  have HT0 : Hid (Mates w w2 fb xb [] U) := by have h := HB0.out; rw [HU.out] at h; exact ⟨_, h⟩
  clear HB0 H1 cN cX
  go_loopg [10] 40 (fun kx s10 wr => ∃ k : Nat, s10 = .int .i64 k ∧ k ≤ 40 ∧ k ≤ m ∧ 40 - k ≤ kx ∧ Hid (Mates w wr fb xb (layL U [] (R.take k)) U))
  case atStart => exact ⟨0, rfl, by omega, Nat.zero_le _, by omega, (HT0.out : Mates w w2 fb xb (layL U [] (R.take 0)) U)⟩
  case round =>
    clear HT0
    obtain ⟨k, rfl, hk4, hkm, hkx, HT⟩ := hrel
    have last : ∀ (hk : R.take k = R.take 40), Mates w wr fb xb (layL U [] (R.take 40)) U := fun hk => by rw [← hk]; exact HT.out
    by_cases hlt : k < m
    · by_cases h40 : k < 40
      · obtain ⟨x, hxk⟩ : ∃ x, R[k]? = some x := ⟨_, List.getElem?_eq_getElem (by rw [HL.out]; exact hlt)⟩
        have HOX : Hid (RtOk x) := HOK.out x (List.mem_of_getElem? hxk)
        have HS : Hid (layL U [] (R.take (k + 1)) = (addF (layL U [] (R.take k)) U x).2) := layL_take hxk
        obtain ⟨b, off, rfl, hb, -⟩ := HR.out.cell hxk
        have HC : Hid (∀ w', Ext w w' → w'.cell? ⟨b, off + k * 6, none⟩ = some (.int .i64 x.t) ∧ w'.cell? ⟨b, off + k * 6 + 1, none⟩ = some (.int .u32 x.a) ∧ w'.cell? ⟨b, off + k * 6 + 2, none⟩ = some (.int .i64 x.l) ∧ w'.cell? ⟨b, off + k * 6 + 3, none⟩ = some (.int .i64 x.i) ∧ w'.cell? ⟨b, off + k * 6 + 4, none⟩ = some (.int .u32 x.g) ∧ w'.cell? ⟨b, off + k * 6 + 5, none⟩ = some (.int .i64 x.m)) := fun w' hx => by
          obtain ⟨b', off', e, -, g⟩ := (HR.out.ext hx).cell hxk
          cases e
          exact g
        obtain ⟨g0, g1, g2, g3, g4, g5⟩ := HC.out wr HT.out.ext
        obtain ⟨hg, h8, -⟩ := HT.out.good
        have HGG : Hid (Rb.Good (layL U [] (R.take k)) ∧ U.length ≤ 8) := ⟨hg, h8⟩
        generalize layL U [] (R.take k) = L at *
        obtain ⟨H, hB⟩ := HT.out
        have cF := addF_both hB x HOX.out
        have hki : (k : Int) < (m : Int) := by omega
        have hk4 : (k : Int) < 40 := by omega
        clear hxk hb hg h8 hB last
        go_wp2_with (go_at_call 22; refine cF.mono ?_; rintro e w3 ⟨rfl, H3, hB3, -, -⟩; have HB3 : Hid (BothH w w3 fb xb (addF L U x).2 U L U H3) := hB3; obtain ⟨z0, z1, z2, z3, z4, z5⟩ := HC.out w3 HB3.out.ext; have cX := addX_both HB3.out x HOX.out HGG.out.1 HGG.out.2; clear hB3)
        go_wp2_with (go_at_call 23; refine cX.mono ?_; rintro e w4 ⟨rfl, H4, hB4, -, -⟩; have HB4 : Hid (BothH w w4 fb xb (addF L U x).2 U (addF L U x).2 U H4) := hB4; clear hB4)
        go_roundg (40 - (k + 1))
        case measure => omega
        case rel => exact ⟨k + 1, by go_num, by omega, by omega, Nat.le_refl _, (by rw [HS.out]; exact ⟨H4, HB4.out⟩ : Mates w w4 fb xb (layL U [] (R.take (k + 1))) U)⟩
      · obtain rfl : k = 40 := by omega
        have hB := last rfl
        have HGG := hB.good
        generalize hLL : layL U [] (R.take 40) = L at *
        have HLL : Hid (layL U [] (R.take 40) = L) := hLL
        have HG2 : Hid (Rb.Good L ∧ U.length ≤ 8) := ⟨HGG.1, HGG.2.1⟩
        obtain ⟨H, hB⟩ := hB
        have cF := setF_both hB down false
        have hki : (40 : Int) < (m : Int) := by omega
        clear hLL hB last HGG
        go_wp2_with (go_at_call 24; refine cF.mono ?_; rintro e w3 ⟨rfl, H3, hB3, -, -⟩; have HB3 : Hid (BothH w w3 fb xb L (setF L U down false).2 L U H3) := hB3; have cX := setX_both HB3.out down false HG2.out.1 HG2.out.2; clear hB3)
        go_wp2_with (go_at_call 25; refine cX.mono ?_; rintro e w4 ⟨rfl, H4, hB4, -, -⟩; have HB4 : Hid (BothH w w4 fb xb L (setF L U down false).2 L (setF L U down false).2 H4) := hB4; clear hB4)
        go_ret2
        unfold LaidAns
        rw [HU.out, HLL.out]
        exact ⟨fb, xb, rfl, H4, HB4.out⟩
    · obtain rfl : k = m := by omega
      have hB := last (by rw [take_all (by rw [HL.out]; exact Nat.le_refl _), take_all (by rw [HL.out]; exact hk4)])
      have HGG := hB.good
      generalize hLL : layL U [] (R.take 40) = L at *
      have HLL : Hid (layL U [] (R.take 40) = L) := hLL
      have HG2 : Hid (Rb.Good L ∧ U.length ≤ 8) := ⟨HGG.1, HGG.2.1⟩
      obtain ⟨H, hB⟩ := hB
      have cF := setF_both hB down false
      clear hLL hB last HGG HT
      go_wp2_with (go_at_call 24; refine cF.mono ?_; rintro e w3 ⟨rfl, H3, hB3, -, -⟩; have HB3 : Hid (BothH w w3 fb xb L (setF L U down false).2 L U H3) := hB3; have cX := setX_both HB3.out down false HG2.out.1 HG2.out.2; clear hB3)
      go_wp2_with (go_at_call 25; refine cX.mono ?_; rintro e w4 ⟨rfl, H4, hB4, -, -⟩; have HB4 : Hid (BothH w w4 fb xb L (setF L U down false).2 L (setF L U down false).2 H4) := hB4; clear hB4)
      go_ret2
      unfold LaidAns
      rw [HU.out, HLL.out]
      exact ⟨fb, xb, rfl, H4, HB4.out⟩

/-- A literal row of ways. -/
theorem rd_lit {w : World} {g : Nat} {L : List Rt} {ty : TypeId} {cs : Array Value} (h : w.heap[g]? = some (.cells cs ty (0, 0))) (hc : cs = (rtCs L).toArray) : Rd w (some ⟨g, 0, none⟩) L.length L.length L := by
  subst hc
  refine ⟨rtCs_length L, (fun e => by cases e), fun u hu => rtCs_cell hu, .inr ⟨g, 0, rfl, fun j u hj => ?_⟩⟩
  rw [heap_cell h, Nat.zero_add]
  simpa using hj

def LaidTo (w : World) (L : List Rt) (U : List Bool) (e : Ending) (w' : World) : Prop := ∃ fb xb, e = .returned (.tuple #[.pointer (some ⟨fb, 0, none⟩), .pointer (some ⟨xb, 0, none⟩)]) ∧ Mates w w' fb xb L U

theorem laidTo_any (n down : Int) (p : Option Addr) (m c : Nat) (R : List Rt) (w : World) (hR : Rd w p m c R) (hok : ∀ r ∈ R, RtOk r) :
    Calls Tryz.prog 9 #[.int .i64 n, .slice p m c, .int .i64 down] w (LaidTo w (layL (List.replicate (clampN n) true) [] (R.take 40)) (setF (layL (List.replicate (clampN n) true) [] (R.take 40)) (List.replicate (clampN n) true) down false).2) := laid_any n down p m c R w hR hok
end Go.Proofs.YtkfhkhgiojpfoaaGreat.Rp

namespace Go.Proofs.YtkfhkhgiojpfoaaGreat.Rp

set_option maxRecDepth 100000

open Go.RowKit Go.Proofs.YtkfhkhgiojpfoaaGreat Go.Proofs.YtkfhkhgiojpfoaaGreat.Rb Go.Proofs.YtkfhkhgiojpfoaaGreat.Fb

open Go.Proofs.YtkfhkhgiojpfoaaGreat.Tri (PX)

set_option linter.unusedVariables false

set_option linter.unusedSimpArgs false

def broadI (a : Int) (x : IfE) : Bool := decide (x.2.2.1 ≤ 30) && (wideV x.2.1 x.2.2.1 == a)

/-- P13.2. -/
def ownV (L : List IfE) (a : Int) : Bool := L.any fun x => x.2.1 == a

def broadV (L : List IfE) (a : Int) : Bool := (a == 4294967295) || L.any (broadI a)

def bogonV (B : List PX) (a : Int) : Bool := B.any fun p => hasV p.1 p.2 a

def sourceV (L : List IfE) (B : List PX) (a : Int) : Bool := !hasV 0 8 a && (!castV a && (!ownV L a && (!broadV L a && !bogonV B a)))

def OkI (L : List IfE) : Prop := ∀ x ∈ L, 0 ≤ x.2.1 ∧ x.2.1 ≤ 4294967295

def OkP (B : List PX) : Prop := ∀ p ∈ B, 0 ≤ p.1 ∧ p.1 ≤ 4294967295

def To (w : World) (y : Bool) (e : Ending) (w' : World) : Prop := e = .returned (.bool y) ∧ Ext w w'

theorem enters_o (args : Array Value) (w : World) : (callFunc 39 args).run Tryz.prog w = .ok (.enter 39 args) w := enters_of Tryz.func39 (by kernel_rfl) rfl args w

theorem enters_b (args : Array Value) (w : World) : (callFunc 40 args).run Tryz.prog w = .ok (.enter 40 args) w := enters_of Tryz.func40 (by kernel_rfl) rfl args w

theorem enters_g (args : Array Value) (w : World) : (callFunc 62 args).run Tryz.prog w = .ok (.enter 62 args) w := enters_of Tryz.func62 (by kernel_rfl) rfl args w

theorem own1_any (ab : Nat) (a : Int) (x : IfE) (w : World) (ha : ∀ w', Ext w w' → w'.cell? ⟨ab, 0, none⟩ = some (.int .u32 a)) :
    Calls Tryz.prog 39 (#[.agg #[.string x.1, .int .u32 x.2.1, .int .i64 x.2.2.1, .int .i64 x.2.2.2.1, .int .i64 x.2.2.2.2]] ++ #[.pointer (some ⟨ab, 0, none⟩)]) w fun e w2 => e = .returned (.bool (x.2.1 == a)) ∧ Ext w w2 := by
  have hA : Ext w (w.alloc (.cells #[.string x.1, .int .u32 x.2.1, .int .i64 x.2.2.1, .int .i64 x.2.2.2.1, .int .i64 x.2.2.2.2] 44)) := (Ext.refl w).alloc _
  have i0 := ha _ hA
  have HA : Hid (Ext w (w.alloc (.cells #[.string x.1, .int .u32 x.2.1, .int .i64 x.2.2.1, .int .i64 x.2.2.2.1, .int .i64 x.2.2.2.2] 44))) := hA
  clear ha hA
  go_enter Tryz.func39, Tryz.ntmps39
  go_wp2_with fail
  go_ret
  exact ⟨rfl, HA.out⟩

theorem box5E {w : World} {b : Nat} {v0 v1 v2 v3 v4 : Value} {t : TypeId} (h : w.heap[b]? = some (.cells #[v0, v1, v2, v3, v4] t (0, 0))) :
    (∀ w', Ext w w' → w'.cell? ⟨b, 0, none⟩ = some v0) ∧ (∀ w', Ext w w' → w'.cell? ⟨b, 1, none⟩ = some v1) ∧ (∀ w', Ext w w' → w'.cell? ⟨b, 2, none⟩ = some v2) ∧ (∀ w', Ext w w' → w'.cell? ⟨b, 3, none⟩ = some v3) ∧ (∀ w', Ext w w' → w'.cell? ⟨b, 4, none⟩ = some v4) := by
  have hk : ∀ k w', Ext w w' → w'.cell? ⟨b, k, none⟩ = #[v0, v1, v2, v3, v4][k]? := fun k w' hx => heap_cell (hx.heap h)
  exact ⟨hk 0, hk 1, hk 2, hk 3, hk 4⟩

set_option maxHeartbeats 1000000 in
theorem broad1_any (ab : Nat) (a : Int) (x : IfE) (w : World) (ha : ∀ w', Ext w w' → w'.cell? ⟨ab, 0, none⟩ = some (.int .u32 a)) (x0 : 0 ≤ x.2.1) (x1 : x.2.1 ≤ 4294967295) :
    Calls Tryz.prog 40 (#[.agg #[.string x.1, .int .u32 x.2.1, .int .i64 x.2.2.1, .int .i64 x.2.2.2.1, .int .i64 x.2.2.2.2]] ++ #[.pointer (some ⟨ab, 0, none⟩)]) w fun e w2 => e = .returned (.bool (broadI a x)) ∧ Ext w w2 := by
  have hA : Ext w (w.alloc (.cells #[.string x.1, .int .u32 x.2.1, .int .i64 x.2.2.1, .int .i64 x.2.2.2.1, .int .i64 x.2.2.2.2] 44)) := (Ext.refl w).alloc _
  have hd : Ext (w.alloc (.cells #[.string x.1, .int .u32 x.2.1, .int .i64 x.2.2.1, .int .i64 x.2.2.2.1, .int .i64 x.2.2.2.2] 44)) (w.alloc (.cells #[.string x.1, .int .u32 x.2.1, .int .i64 x.2.2.1, .int .i64 x.2.2.2.1, .int .i64 x.2.2.2.2] 44)).drew := (Ext.refl _).drew
  obtain ⟨b0, b1, b2, b3, b4⟩ := box5E (heap_new w (.cells #[.string x.1, .int .u32 x.2.1, .int .i64 x.2.2.1, .int .i64 x.2.2.2.1, .int .i64 x.2.2.2.2] 44))
  have y1 := fun w' h => b1 w' (hd.trans h)
  have y2 := fun w' h => b2 w' (hd.trans h)
  have i0 := fun w' h => ha w' ((hA.trans hd).trans h)
  have cw := fun w => wide_any x.2.1 x.2.2.1 w x0 x1
  have HA : Hid (Ext w (w.alloc (.cells #[.string x.1, .int .u32 x.2.1, .int .i64 x.2.2.1, .int .i64 x.2.2.2.1, .int .i64 x.2.2.2.2] 44)).drew) := hA.trans hd
  unfold broadI
  generalize wideV x.2.1 x.2.2.1 = v at *
  clear ha hA hd b0 b1 b2 b3 b4
  by_cases hl : x.2.2.1 ≤ 30
  · have hd1 : decide (x.2.2.1 ≤ 30) = true := decide_eq_true hl
    rw [hd1, Bool.true_and]
    clear hl
    go_enter Tryz.func40, Tryz.ntmps40
    go_wp2_with fail
    refine wp_region_eager [(0, false), (1, false), (2, false), (3, false), (4, false), (5, false), (6, false), (8, false), (7, true), (9, false), (10, false), (11, false)] (by kernel_rfl) (by kernel_rfl) rfl (by kernel_rfl) (fun _ _ _ _ _ h => h) ?_
    generalize (w.alloc (.cells #[.string x.1, .int .u32 x.2.1, .int .i64 x.2.2.1, .int .i64 x.2.2.2.1, .int .i64 x.2.2.2.2] 44)).drew = W at *
    iterate 8 (refine wpE_read (v := ?_) rfl (by rfl) ?_ ?_; rotate_left; (focus (intro w' hx; go_simp; first | done | with_reducible rfl)); simp only [Act.put, List.setIfInBounds_toArray, List.set_cons_zero, List.set_cons_succ])
    (refine wpE_call rfl (by rfl) (fun K hK => ?_); go_simp; first | (go_at_call 41; refine (cw _).mono ?_; rintro e w3 ⟨rfl, hx3⟩; refine hK _ _ hx3 ?_; clear hK K))
    iterate 3 (refine wpE_read (v := ?_) rfl (by rfl) ?_ ?_; rotate_left; (focus (intro w' hx; go_simp; first | done | with_reducible rfl)); simp only [Act.put, List.setIfInBounds_toArray, List.set_cons_zero, List.set_cons_succ])
    refine wpE_done ?_
    go_wp2_with fail
    go_ret
    exact ⟨rfl, HA.out.trans hx3⟩
  · have hd1 : decide (x.2.2.1 ≤ 30) = false := decide_eq_false hl
    rw [hd1, Bool.false_and]
    clear hl
    go_enter Tryz.func40, Tryz.ntmps40
    go_wp2_with fail
    refine wp_region_eager [(0, false), (1, false), (2, false), (3, false), (4, false), (5, false), (6, false), (8, false), (7, true), (9, false), (10, false), (11, false)] (by kernel_rfl) (by kernel_rfl) rfl (by kernel_rfl) (fun _ _ _ _ _ h => h) ?_
    generalize (w.alloc (.cells #[.string x.1, .int .u32 x.2.1, .int .i64 x.2.2.1, .int .i64 x.2.2.2.1, .int .i64 x.2.2.2.2] 44)).drew = W at *
    iterate 5 (refine wpE_read (v := ?_) rfl (by rfl) ?_ ?_; rotate_left; (focus (intro w' hx; go_simp; first | done | with_reducible rfl)); simp only [Act.put, List.setIfInBounds_toArray, List.set_cons_zero, List.set_cons_succ])
    iterate 5 (rw [wpE_skip_eq _ rfl (by rfl)]; simp only [Act.put, List.setIfInBounds_toArray, List.set_cons_zero, List.set_cons_succ])
    iterate 2 (refine wpE_read (v := ?_) rfl (by rfl) ?_ ?_; rotate_left; (focus (intro w' hx; go_simp; first | done | with_reducible rfl)); simp only [Act.put, List.setIfInBounds_toArray, List.set_cons_zero, List.set_cons_succ])
    refine wpE_done ?_
    go_wp2_with fail
    go_ret
    exact ⟨rfl, HA.out⟩

theorem bogon1_any (ab : Nat) (a : Int) (p : PX) (w : World) (ha : ∀ w', Ext w w' → w'.cell? ⟨ab, 0, none⟩ = some (.int .u32 a)) (p0 : 0 ≤ p.1) (p1 : p.1 ≤ 4294967295) (a0 : 0 ≤ a) (a1 : a ≤ 4294967295) :
    Calls Tryz.prog 62 (#[.agg #[.int .u32 p.1, .int .i64 p.2]] ++ #[.pointer (some ⟨ab, 0, none⟩)]) w fun e w2 => e = .returned (.bool (hasV p.1 p.2 a)) ∧ Ext w w2 := by
  have hA : Ext w (w.alloc (.cells #[.int .u32 p.1, .int .i64 p.2] 42)) := (Ext.refl w).alloc _
  have i0 := ha _ hA
  have HA : Hid (Ext w (w.alloc (.cells #[.int .u32 p.1, .int .i64 p.2] 42))) := hA
  have ch := fun w => has_any p.1 p.2 a w p0 p1 a0 a1
  clear ha hA
  go_enter Tryz.func62, Tryz.ntmps62
  go_wp2_with (go_at_call 34; refine (ch _).mono ?_; rintro e w1 ⟨rfl, hx1⟩)
  go_ret
  exact ⟨rfl, HA.out.trans hx1⟩

set_option maxHeartbeats 1000000 in
theorem own_any (pI : Option Addr) (nI cI : Nat) (pB : Option Addr) (nB cB : Nat) (pT : Option Addr) (nT cT : Nat) (pR : Option Addr) (nR cR : Nat) (fl er : Int) (L : List IfE) (a : Int) (w : World) (hI : RdI w pI nI cI L) (hn : nI ≤ 1000000) :
    Calls Tryz.prog 16 #[.agg #[.slice pI nI cI, .slice pB nB cB, .slice pT nT cT, .slice pR nR cR, .int .i64 fl, .int .i64 er], .int .u32 a] w (To w (ownV L a)) := by
  have hA : Ext w ((w.alloc (.cells #[.slice pI nI cI, .slice pB nB cB, .slice pT nT cT, .slice pR nR cR, .int .i64 fl, .int .i64 er] 38)).alloc (.cells #[.int .u32 a] 23)) := ((Ext.refl w).alloc _).alloc _
  have hB1 : ((w.alloc (.cells #[.slice pI nI cI, .slice pB nB cB, .slice pT nT cT, .slice pR nR cR, .int .i64 fl, .int .i64 er] 38)).alloc (.cells #[.int .u32 a] 23)).heap[w.heap.size]? = some (.cells #[.slice pI nI cI, .slice pB nB cB, .slice pT nT cT, .slice pR nR cR, .int .i64 fl, .int .i64 er] 38 (0, 0)) := (Below.heap_alloc (w.alloc (.cells #[.slice pI nI cI, .slice pB nB cB, .slice pT nT cT, .slice pR nR cR, .int .i64 fl, .int .i64 er] 38)) _ w.heap.size (by simp)).trans (heap_new w _)
  have hB2 : ((w.alloc (.cells #[.slice pI nI cI, .slice pB nB cB, .slice pT nT cT, .slice pR nR cR, .int .i64 fl, .int .i64 er] 38)).alloc (.cells #[.int .u32 a] 23)).heap[w.heap.size + 1]? = some (.cells #[.int .u32 a] 23 (0, 0)) := by
    have := heap_new (w.alloc (.cells #[.slice pI nI cI, .slice pB nB cB, .slice pT nT cT, .slice pR nR cR, .int .i64 fl, .int .i64 er] 38)) (.cells #[.int .u32 a] 23)
    rwa [show (w.alloc (.cells #[.slice pI nI cI, .slice pB nB cB, .slice pT nT cT, .slice pR nR cR, .int .i64 fl, .int .i64 er] 38)).heap.size = w.heap.size + 1 by simp] at this
  have bA := Rb.box1E hB2
  have hmf : ∀ (fn : Fn) (first cap : Array Value) (w : World), (Instr.makeFunc fn first cap).run Tryz.prog w = .ok (.func fn first cap) w := fun _ _ _ _ => rfl
  have HA : Hid (Ext w ((w.alloc (.cells #[.slice pI nI cI, .slice pB nB cB, .slice pT nT cT, .slice pR nR cR, .int .i64 fl, .int .i64 er] 38)).alloc (.cells #[.int .u32 a] 23))) := hA
  have cc := containsI 39 #[.pointer (some ⟨w.heap.size + 1, 0, none⟩)] pI nI cI L (fun x => x.2.1 == a) _ enters_o (hI.ext hA) hn (fun w' hx x hxL => own1_any (w.heap.size + 1) a x w' (fun w'' h => bA w'' (hx.trans h)))
  unfold ownV
  generalize (L.any fun x => x.2.1 == a) = y at *
  clear hI hA hB1 hB2 bA
  go_enter Tryz.func16, Tryz.ntmps16
  go_wp2_with (go_at_call 38; refine cc.mono ?_; rintro e w3 ⟨rfl, hx3⟩)
  go_ret
  exact ⟨rfl, HA.out.trans hx3⟩

set_option maxHeartbeats 1000000 in
theorem broad_any (pI : Option Addr) (nI cI : Nat) (pB : Option Addr) (nB cB : Nat) (pT : Option Addr) (nT cT : Nat) (pR : Option Addr) (nR cR : Nat) (fl er : Int) (L : List IfE) (a : Int) (w : World) (hI : RdI w pI nI cI L) (hok : OkI L) (hn : nI ≤ 1000000) :
    Calls Tryz.prog 18 #[.agg #[.slice pI nI cI, .slice pB nB cB, .slice pT nT cT, .slice pR nR cR, .int .i64 fl, .int .i64 er], .int .u32 a] w (To w (broadV L a)) := by
  have hA : Ext w ((w.alloc (.cells #[.slice pI nI cI, .slice pB nB cB, .slice pT nT cT, .slice pR nR cR, .int .i64 fl, .int .i64 er] 38)).alloc (.cells #[.int .u32 a] 23)) := ((Ext.refl w).alloc _).alloc _
  have hB1 : ((w.alloc (.cells #[.slice pI nI cI, .slice pB nB cB, .slice pT nT cT, .slice pR nR cR, .int .i64 fl, .int .i64 er] 38)).alloc (.cells #[.int .u32 a] 23)).heap[w.heap.size]? = some (.cells #[.slice pI nI cI, .slice pB nB cB, .slice pT nT cT, .slice pR nR cR, .int .i64 fl, .int .i64 er] 38 (0, 0)) := (Below.heap_alloc (w.alloc (.cells #[.slice pI nI cI, .slice pB nB cB, .slice pT nT cT, .slice pR nR cR, .int .i64 fl, .int .i64 er] 38)) _ w.heap.size (by simp)).trans (heap_new w _)
  have hB2 : ((w.alloc (.cells #[.slice pI nI cI, .slice pB nB cB, .slice pT nT cT, .slice pR nR cR, .int .i64 fl, .int .i64 er] 38)).alloc (.cells #[.int .u32 a] 23)).heap[w.heap.size + 1]? = some (.cells #[.int .u32 a] 23 (0, 0)) := by
    have := heap_new (w.alloc (.cells #[.slice pI nI cI, .slice pB nB cB, .slice pT nT cT, .slice pR nR cR, .int .i64 fl, .int .i64 er] 38)) (.cells #[.int .u32 a] 23)
    rwa [show (w.alloc (.cells #[.slice pI nI cI, .slice pB nB cB, .slice pT nT cT, .slice pR nR cR, .int .i64 fl, .int .i64 er] 38)).heap.size = w.heap.size + 1 by simp] at this
  have bA := Rb.box1E hB2
  have hmf : ∀ (fn : Fn) (first cap : Array Value) (w : World), (Instr.makeFunc fn first cap).run Tryz.prog w = .ok (.func fn first cap) w := fun _ _ _ _ => rfl
  have HA : Hid (Ext w ((w.alloc (.cells #[.slice pI nI cI, .slice pB nB cB, .slice pT nT cT, .slice pR nR cR, .int .i64 fl, .int .i64 er] 38)).alloc (.cells #[.int .u32 a] 23))) := hA
  have a0 := bA _ (Ext.refl _)
  unfold broadV
  by_cases ha : a = 4294967295
  · subst ha
    clear hI hA hB1 hB2 bA hmf
    have hy : (((4294967295 : Int) == 4294967295) || L.any (broadI 4294967295)) = true := rfl
    rw [hy]
    clear hy
    go_enter Tryz.func18, Tryz.ntmps18
    go_wp2_with fail
    go_ret
    exact ⟨rfl, HA.out⟩
  · have he : (a == 4294967295) = false := by simpa using ha
    have cc := containsI 40 #[.pointer (some ⟨w.heap.size + 1, 0, none⟩)] pI nI cI L (broadI a) _ enters_b (hI.ext hA) hn (fun w' hx x hxL => broad1_any (w.heap.size + 1) a x w' (fun w'' h => bA w'' (hx.trans h)) (hok x hxL).1 (hok x hxL).2)
    rw [he, Bool.false_or]
    generalize L.any (broadI a) = y at *
    clear hI hA hB1 hB2 bA ha
    go_enter Tryz.func18, Tryz.ntmps18
    go_wp2_with (go_at_call 38; refine cc.mono ?_; rintro e w3 ⟨rfl, hx3⟩)
    go_ret
    exact ⟨rfl, HA.out.trans hx3⟩

set_option maxHeartbeats 1000000 in
theorem bogon_any (pI : Option Addr) (nI cI : Nat) (pB : Option Addr) (nB cB : Nat) (pT : Option Addr) (nT cT : Nat) (pR : Option Addr) (nR cR : Nat) (fl er : Int) (B : List PX) (a : Int) (w : World) (hP : RdP w pB nB cB B) (hok : OkP B) (hn : nB ≤ 1000000) (a0 : 0 ≤ a) (a1 : a ≤ 4294967295) :
    Calls Tryz.prog 36 #[.agg #[.slice pI nI cI, .slice pB nB cB, .slice pT nT cT, .slice pR nR cR, .int .i64 fl, .int .i64 er], .int .u32 a] w (To w (bogonV B a)) := by
  have hA : Ext w ((w.alloc (.cells #[.slice pI nI cI, .slice pB nB cB, .slice pT nT cT, .slice pR nR cR, .int .i64 fl, .int .i64 er] 38)).alloc (.cells #[.int .u32 a] 23)) := ((Ext.refl w).alloc _).alloc _
  have hB1 : ((w.alloc (.cells #[.slice pI nI cI, .slice pB nB cB, .slice pT nT cT, .slice pR nR cR, .int .i64 fl, .int .i64 er] 38)).alloc (.cells #[.int .u32 a] 23)).heap[w.heap.size]? = some (.cells #[.slice pI nI cI, .slice pB nB cB, .slice pT nT cT, .slice pR nR cR, .int .i64 fl, .int .i64 er] 38 (0, 0)) := (Below.heap_alloc (w.alloc (.cells #[.slice pI nI cI, .slice pB nB cB, .slice pT nT cT, .slice pR nR cR, .int .i64 fl, .int .i64 er] 38)) _ w.heap.size (by simp)).trans (heap_new w _)
  have hB2 : ((w.alloc (.cells #[.slice pI nI cI, .slice pB nB cB, .slice pT nT cT, .slice pR nR cR, .int .i64 fl, .int .i64 er] 38)).alloc (.cells #[.int .u32 a] 23)).heap[w.heap.size + 1]? = some (.cells #[.int .u32 a] 23 (0, 0)) := by
    have := heap_new (w.alloc (.cells #[.slice pI nI cI, .slice pB nB cB, .slice pT nT cT, .slice pR nR cR, .int .i64 fl, .int .i64 er] 38)) (.cells #[.int .u32 a] 23)
    rwa [show (w.alloc (.cells #[.slice pI nI cI, .slice pB nB cB, .slice pT nT cT, .slice pR nR cR, .int .i64 fl, .int .i64 er] 38)).heap.size = w.heap.size + 1 by simp] at this
  have bA := Rb.box1E hB2
  have hmf : ∀ (fn : Fn) (first cap : Array Value) (w : World), (Instr.makeFunc fn first cap).run Tryz.prog w = .ok (.func fn first cap) w := fun _ _ _ _ => rfl
  have HA : Hid (Ext w ((w.alloc (.cells #[.slice pI nI cI, .slice pB nB cB, .slice pT nT cT, .slice pR nR cR, .int .i64 fl, .int .i64 er] 38)).alloc (.cells #[.int .u32 a] 23))) := hA
  have cc := containsP 62 #[.pointer (some ⟨w.heap.size + 1, 0, none⟩)] pB nB cB B (fun p => hasV p.1 p.2 a) _ enters_g (hP.ext hA) hn (fun w' hx x hxL => bogon1_any (w.heap.size + 1) a x w' (fun w'' h => bA w'' (hx.trans h)) (hok x hxL).1 (hok x hxL).2 a0 a1)
  unfold bogonV
  generalize (B.any fun p => hasV p.1 p.2 a) = y at *
  clear hP hA hB1 hB2 bA
  go_enter Tryz.func36, Tryz.ntmps36
  go_wp2_with (go_at_call 61; refine cc.mono ?_; rintro e w3 ⟨rfl, hx3⟩)
  go_ret
  exact ⟨rfl, HA.out.trans hx3⟩

set_option maxHeartbeats 4000000 in
theorem source_any (pI : Option Addr) (nI cI : Nat) (pB : Option Addr) (nB cB : Nat) (pT : Option Addr) (nT cT : Nat) (pR : Option Addr) (nR cR : Nat) (fl er : Int) (L : List IfE) (B : List PX) (a : Int) (w : World) (hI : RdI w pI nI cI L) (hok : OkI L) (hn : nI ≤ 1000000) (hP : RdP w pB nB cB B) (hokB : OkP B) (hnB : nB ≤ 1000000) (a0 : 0 ≤ a) (a1 : a ≤ 4294967295) :
    Calls Tryz.prog 14 #[.agg #[.slice pI nI cI, .slice pB nB cB, .slice pT nT cT, .slice pR nR cR, .int .i64 fl, .int .i64 er], .int .u32 a] w (To w (sourceV L B a)) := by
  have hA : Ext w (w.alloc (.cells #[.slice pI nI cI, .slice pB nB cB, .slice pT nT cT, .slice pR nR cR, .int .i64 fl, .int .i64 er] 38)) := (Ext.refl w).alloc _
  obtain ⟨b0, b1, b2, b3, b4, b5⟩ := box_rtE (heap_new w (.cells #[.slice pI nI cI, .slice pB nB cB, .slice pT nT cT, .slice pR nR cR, .int .i64 fl, .int .i64 er] 38))
  have c1 := fun w => has_any 0 8 a w (by omega) (by omega) a0 a1
  have c2 := fun w => cast_any a w a0 a1
  have c3 := fun w' (hx : Ext w w') => own_any pI nI cI pB nB cB pT nT cT pR nR cR fl er L a w' (hI.ext hx) hn
  have c4 := fun w' (hx : Ext w w') => broad_any pI nI cI pB nB cB pT nT cT pR nR cR fl er L a w' (hI.ext hx) hok hn
  have c5 := fun w' (hx : Ext w w') => bogon_any pI nI cI pB nB cB pT nT cT pR nR cR fl er B a w' (hP.ext hx) hokB hnB a0 a1
  have HA : Hid (Ext w (w.alloc (.cells #[.slice pI nI cI, .slice pB nB cB, .slice pT nT cT, .slice pR nR cR, .int .i64 fl, .int .i64 er] 38))) := hA
  unfold sourceV
  generalize hasV 0 8 a = y1 at *
  generalize castV a = y2 at *
  generalize ownV L a = y3 at *
  generalize broadV L a = y4 at *
  generalize bogonV B a = y5 at *
  clear hI hP hok hokB hA
  cases y1 with
  | true =>
    go_enter Tryz.func14, Tryz.ntmps14
    go_wp2_with (first
      | (go_at_call 34; refine (c1 _).mono ?_; rintro e w1 ⟨rfl, hx1⟩; have z0 := b0 _ hx1; have z1 := b1 _ hx1; have z2 := b2 _ hx1; have z3 := b3 _ hx1; have z4 := b4 _ hx1; have z5 := b5 _ hx1))
    go_ret
    exact ⟨rfl, HA.out.trans hx1⟩
  | false =>
    cases y2 with
    | true =>
      go_enter Tryz.func14, Tryz.ntmps14
      go_wp2_with (first
        | (go_at_call 34; refine (c1 _).mono ?_; rintro e w1 ⟨rfl, hx1⟩; have z0 := b0 _ hx1; have z1 := b1 _ hx1; have z2 := b2 _ hx1; have z3 := b3 _ hx1; have z4 := b4 _ hx1; have z5 := b5 _ hx1)
        | (go_at_call 35; refine (c2 _).mono ?_; rintro e w2 ⟨rfl, hw2⟩; obtain rfl := hw2.symm; clear hw2))
      go_ret
      exact ⟨rfl, HA.out.trans hx1⟩
    | false =>
      cases y3 with
      | true =>
        go_enter Tryz.func14, Tryz.ntmps14
        go_wp2_with (first
          | (go_at_call 34; refine (c1 _).mono ?_; rintro e w1 ⟨rfl, hx1⟩; have z0 := b0 _ hx1; have z1 := b1 _ hx1; have z2 := b2 _ hx1; have z3 := b3 _ hx1; have z4 := b4 _ hx1; have z5 := b5 _ hx1)
          | (go_at_call 35; refine (c2 _).mono ?_; rintro e w2 ⟨rfl, hw2⟩; obtain rfl := hw2.symm; clear hw2)
          | (go_at_call 16; refine (c3 _ (HA.out.trans hx1)).mono ?_; rintro e w3 ⟨rfl, hx3⟩; have u0 := b0 _ (hx1.trans hx3); have u1 := b1 _ (hx1.trans hx3); have u2 := b2 _ (hx1.trans hx3); have u3 := b3 _ (hx1.trans hx3); have u4 := b4 _ (hx1.trans hx3); have u5 := b5 _ (hx1.trans hx3)))
        go_ret
        exact ⟨rfl, HA.out.trans (hx1.trans hx3)⟩
      | false =>
        cases y4 with
        | true =>
          go_enter Tryz.func14, Tryz.ntmps14
          go_wp2_with (first
            | (go_at_call 34; refine (c1 _).mono ?_; rintro e w1 ⟨rfl, hx1⟩; have z0 := b0 _ hx1; have z1 := b1 _ hx1; have z2 := b2 _ hx1; have z3 := b3 _ hx1; have z4 := b4 _ hx1; have z5 := b5 _ hx1)
            | (go_at_call 35; refine (c2 _).mono ?_; rintro e w2 ⟨rfl, hw2⟩; obtain rfl := hw2.symm; clear hw2)
            | (go_at_call 16; refine (c3 _ (HA.out.trans hx1)).mono ?_; rintro e w3 ⟨rfl, hx3⟩; have u0 := b0 _ (hx1.trans hx3); have u1 := b1 _ (hx1.trans hx3); have u2 := b2 _ (hx1.trans hx3); have u3 := b3 _ (hx1.trans hx3); have u4 := b4 _ (hx1.trans hx3); have u5 := b5 _ (hx1.trans hx3))
            | (go_at_call 18; refine (c4 _ (HA.out.trans (hx1.trans hx3))).mono ?_; rintro e w4 ⟨rfl, hx4⟩; have v0 := b0 _ (hx1.trans (hx3.trans hx4)); have v1 := b1 _ (hx1.trans (hx3.trans hx4)); have v2 := b2 _ (hx1.trans (hx3.trans hx4)); have v3 := b3 _ (hx1.trans (hx3.trans hx4)); have v4 := b4 _ (hx1.trans (hx3.trans hx4)); have v5 := b5 _ (hx1.trans (hx3.trans hx4))))
          go_ret
          exact ⟨rfl, HA.out.trans (hx1.trans (hx3.trans hx4))⟩
        | false =>
          go_enter Tryz.func14, Tryz.ntmps14
          go_wp2_with (first
            | (go_at_call 34; refine (c1 _).mono ?_; rintro e w1 ⟨rfl, hx1⟩; have z0 := b0 _ hx1; have z1 := b1 _ hx1; have z2 := b2 _ hx1; have z3 := b3 _ hx1; have z4 := b4 _ hx1; have z5 := b5 _ hx1)
            | (go_at_call 35; refine (c2 _).mono ?_; rintro e w2 ⟨rfl, hw2⟩; obtain rfl := hw2.symm; clear hw2)
            | (go_at_call 16; refine (c3 _ (HA.out.trans hx1)).mono ?_; rintro e w3 ⟨rfl, hx3⟩; have u0 := b0 _ (hx1.trans hx3); have u1 := b1 _ (hx1.trans hx3); have u2 := b2 _ (hx1.trans hx3); have u3 := b3 _ (hx1.trans hx3); have u4 := b4 _ (hx1.trans hx3); have u5 := b5 _ (hx1.trans hx3))
            | (go_at_call 18; refine (c4 _ (HA.out.trans (hx1.trans hx3))).mono ?_; rintro e w4 ⟨rfl, hx4⟩; have v0 := b0 _ (hx1.trans (hx3.trans hx4)); have v1 := b1 _ (hx1.trans (hx3.trans hx4)); have v2 := b2 _ (hx1.trans (hx3.trans hx4)); have v3 := b3 _ (hx1.trans (hx3.trans hx4)); have v4 := b4 _ (hx1.trans (hx3.trans hx4)); have v5 := b5 _ (hx1.trans (hx3.trans hx4)))
            | (go_at_call 36; refine (c5 _ (HA.out.trans (hx1.trans (hx3.trans hx4)))).mono ?_; rintro e w5 ⟨rfl, hx5⟩))
          go_ret
          exact ⟨rfl, HA.out.trans (hx1.trans (hx3.trans (hx4.trans hx5)))⟩
end Go.Proofs.YtkfhkhgiojpfoaaGreat.Rp
