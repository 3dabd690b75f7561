/- Law 9's alike: both trees say the same. -/
import Derived.Test.YtgcnnblngmomhaaRefTr8
namespace Go.Proofs.Ytgcnnblngmomhaa.Tri
open Go.RowKit Go.Proofs.Ytgcnnblngmomhaa
set_option linter.unusedVariables false

theorem ExtS.toN {F : List Nat} {N : Nat} {A B : World} (h : ExtS F A B) (hF : ∀ y ∈ F, N ≤ y) : ExtN N A B :=
  ⟨h.os, h.tape, h.output, h.size, fun k hk hx => h.block k hx (fun e => by have := hF k e; omega)⟩

set_option maxHeartbeats 1000000 in
theorem alike_any (tb xb : Nat) (t : Sh) (F G : List Nat) (w : World) (hT : TrieAt w tb t F) (hR : RefAt w xb (toL t) G) (hs : szS t ≤ 1000) :
    Calls Try.prog 19 #[.pointer (some ⟨tb, 0, none⟩), .pointer (some ⟨xb, 0, none⟩)] w fun e w' => e = .returned (.bool true) ∧ Ext w w' := by
  have HT : Hid (TrieAt w tb t F) := hT
  have HR : Hid (RefAt w xb (toL t) G) := hR
  obtain ⟨vp, vi, -, hX, hP, -⟩ := hR
  obtain ⟨ap, cp, rfl, -, -, -⟩ := owns_slice hP
  rw [List.length_map] at hX hP
  have hll := toL_len t
  have HX : Hid _ := hX
  have HP : Hid _ := hP
  have kW := fun W (h : Ext w W) => tWalk (HT.out.ext h) (by omega)
  have kL := fun W (h : Ext w W) => tLen (HT.out.ext h) (by omega)
  have kN := fun W (h : Ext w W) => tNodes (HT.out.ext h) (by omega)
  have kM := fun W (h : Ext w W) => refNodes_any xb (toL t) G W (HR.out.ext h) (fun x hx => HT.out.wf.vp hx) (by omega)
  have kP := fun (A : Nat) v W (h1 : OwnP W A v ((toL t).map (·.1))) (h : Ext w W) => prefixes_any A _ v _ ((toL t).map (·.1)) ((toL t).map (·.1)) W h1 (owns_later HP.out h) (by rw [List.length_map]; omega) (by rw [List.length_map]; omega)
  simp only [decide_true] at kP
  generalize nodesL (toL t) = nn at *
  clear hX hP hT hll
  go_enter Try.func19, Try.ntmps19
  go_wp2_with fail
  refine wp_region_eager [(0, false), (2, false), (3, false), (4, false), (5, false), (1, true), (6, true), (7, false), (8, false), (10, false), (11, false), (12, false), (13, false), (14, false), (9, true), (15, false), (16, false), (17, false), (18, false), (20, false), (19, true), (21, true), (22, false), (23, false), (24, false)] (by kernel_rfl) (by kernel_rfl) rfl (by kernel_rfl) (fun _ _ _ _ _ h => h) ?_
  have hxd : Ext w w.drew := (Ext.refl w).drew
  have z0 : ∀ W, Ext w.drew W → W.cell? ⟨xb, 0, none⟩ = some (.slice ap (toL t).length cp) := fun W h => by rw [heap_cell ((hxd.trans h).heap HX.out)]; rfl
  generalize hW : w.drew = W at *
  clear hW
  iterate 5 (refine wpE_read (v := ?_) rfl (by rfl) ?_ ?_; rotate_left; (focus (intro w' hx; go_simp; first | done | with_reducible rfl)); simp only [Act.put, List.setIfInBounds_toArray, List.set_cons_zero, List.set_cons_succ])
  (refine wpE_call rfl (by rfl) (fun K hK => ?_); go_simp; first
    | (go_at_call 27; refine (kW _ hxd).mono ?_; rintro e w1 ⟨v, rfl, ho, hx1⟩; refine hK _ _ hx1 ?_; clear hK K))
  (refine wpE_call rfl (by rfl) (fun K hK => ?_); go_simp; first
    | (go_at_call 24; refine (kP _ _ _ ho (hxd.trans hx1)).mono ?_; rintro e w2 ⟨rfl, hx2⟩; refine hK _ _ hx2 ?_; clear hK K))
  have z1 := fun W h => z0 W ((hx1.trans hx2).trans h)
  have hxw2 : Ext w w2 := hxd.trans (hx1.trans hx2)
  clear z0
  iterate 7 (refine wpE_read (v := ?_) rfl (by rfl) ?_ ?_; rotate_left; (focus (intro w' hx; go_simp; first | done | with_reducible rfl)); simp only [Act.put, List.setIfInBounds_toArray, List.set_cons_zero, List.set_cons_succ])
  (refine wpE_call rfl (by rfl) (fun K hK => ?_); go_simp; first
    | (go_at_call 31; refine (kL _ hxw2).mono ?_; rintro e w3 ⟨rfl, hw⟩; obtain rfl := hw.symm; clear hw; refine hK _ _ (Ext.refl _) ?_; clear hK K))
  iterate 5 (refine wpE_read (v := ?_) rfl (by rfl) ?_ ?_; rotate_left; (focus (intro w' hx; go_simp; first | done | with_reducible rfl)); simp only [Act.put, List.setIfInBounds_toArray, List.set_cons_zero, List.set_cons_succ])
  (refine wpE_call rfl (by rfl) (fun K hK => ?_); go_simp; first
    | (go_at_call 28; refine (kN _ hxw2).mono ?_; rintro e w3 ⟨rfl, hw⟩; obtain rfl := hw.symm; clear hw; refine hK _ _ (Ext.refl _) ?_; clear hK K))
  (refine wpE_call rfl (by rfl) (fun K hK => ?_); go_simp; first
    | (go_at_call 39; refine (kM _ hxw2).mono ?_; rintro e w4 ⟨rfl, hx4⟩; refine hK _ _ hx4 ?_; clear hK K))
  iterate 3 (refine wpE_read (v := ?_) rfl (by rfl) ?_ ?_; rotate_left; (focus (intro w' hx; go_simp; first | done | with_reducible rfl)); simp only [Act.put, List.setIfInBounds_toArray, List.set_cons_zero, List.set_cons_succ])
  refine wpE_done ?_
  go_wp2_with fail
  go_ret
  exact ⟨rfl, hxw2.trans hx4⟩
end Go.Proofs.Ytgcnnblngmomhaa.Tri
