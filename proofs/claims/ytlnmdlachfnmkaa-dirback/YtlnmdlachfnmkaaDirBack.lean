/- For every script, every prefix and every address, the law DirBack returns true: a prefix that comes and goes leaves all as it was; no condition. -/
import Derived.Test.YtlnmdlachfnmkaaRows
import Derived.Test.YtlnmdlachfnmkaaLaw10B
import Derived.Test.YtlnmdlachfnmkaaFrame
import Derived.Test.YtlnmdlachfnmkaaRowG
import Derived.WalkKit
import Derived.ProofKit
import Derived.OpenShut
import Derived.ShutString
import Derived.ChangeOld
import Derived.Deep.DeepHandedRow
import Derived.Lib.LaidTab
import Derived.Lib.SmallJoins
import Derived.LaidMore
import Derived.Stop.LaidErr
import Derived.ChangeMaps5
namespace Go.Proofs.Ytlnmdlachfnmkaa.dirBack
open Go.ChangeShapes Go.WideShapes Go.ChangeAt Go.RowKit Go.ChangeMaps
set_option linter.unusedVariables false
set_option maxRecDepth 100000

theorem own : ownKnob Try.prog.godebug = none := by kernel_rfl
theorem laidOut : laidOutB Try.prog = true := by kernel_rfl

theorem arr2 {α : Type} {cs : Array α} (h : cs.size = 2) : ∃ c0 c1, cs = #[c0, c1] := by
  obtain ⟨l⟩ := cs
  match l, h with
  | [c0, c1], _ => exact ⟨c0, c1, rfl⟩

abbrev Elem32 := Bool × Int × Int × Int
def cells32 (z : Elem32) : List Value := [.bool (z.1), .int .u32 (z.2.1), .int .i64 (z.2.2.1), .int .i64 (z.2.2.2)]
def ok32 (z : Elem32) : Prop := (Lit.int .u32 (z.2.1)).wf = true ∧ (Lit.int .i64 (z.2.2.1)).wf = true ∧ (Lit.int .i64 (z.2.2.2)).wf = true
theorem cells32_length (z : Elem32) : (cells32 z).length = 4 := rfl
theorem elem32 {H : Type} {enc : TypeId × Value → H} {w : World} {base : Nat} {spare : Nat → Bool} {held : Bool} (n : Nat) (cs : List Value) (y : DataW H × List MemPlace)
    (h : DataW.trod enc Try.prog w base spare held n 32 cs = some y) : ∃ z : Elem32, cs = cells32 z ∧ ok32 z := by
  have hl : cs.length = 4 := by
    obtain ⟨_, _, _, _, hl, _⟩ := DataW.trod_struct Try.underlying32 h
    exact hl.trans (by kernel_rfl)
  obtain ⟨u0, u1, u2, u3, rfl⟩ : ∃ u0 u1 u2 u3, cs = [u0, u1, u2, u3] := by
    match cs, hl with
    | [u0, u1, u2, u3], _ => exact ⟨u0, u1, u2, u3, rfl⟩
  obtain ⟨_, _, e1⟩ := field_at Try.underlying32 h 0 rfl 1 (by kernel_rfl)
  obtain ⟨az0, c2, _⟩ := DataW.trod_bool Try.underlying4 e1
  obtain rfl : u0 = .bool az0 := by simpa using c2
  obtain ⟨_, _, e3⟩ := field_at Try.underlying32 h 1 rfl 2 (by kernel_rfl)
  obtain ⟨_, _, e4⟩ := field_at Try.underlying30 e3 0 rfl 1 (by kernel_rfl)
  obtain ⟨az10, c5, _, wz10⟩ := DataW.trod_int Try.underlying28 e4
  obtain rfl : u1 = .int .u32 az10 := by simpa using c5
  obtain ⟨_, _, e6⟩ := field_at Try.underlying30 e3 1 rfl 1 (by kernel_rfl)
  obtain ⟨az11, c7, _, wz11⟩ := DataW.trod_int Try.underlying3 e6
  obtain rfl : u2 = .int .i64 az11 := by simpa using c7
  obtain ⟨_, _, e8⟩ := field_at Try.underlying32 h 2 rfl 1 (by kernel_rfl)
  obtain ⟨az2, c9, _, wz2⟩ := DataW.trod_int Try.underlying3 e8
  obtain rfl : u3 = .int .i64 az2 := by simpa using c9
  exact ⟨(az0, az10, az11, az2), rfl, ⟨wz10, wz11, wz2⟩⟩

open Go.Proofs.Ytlnmdlachfnmkaa.Tri Go.Proofs.Ytlnmdlachfnmkaa.Dr

set_option maxHeartbeats 4000000 in
theorem walk (a0 : Option Addr) (len0 cap0 : Nat) (zs0 : List Elem32) (a10 : Int) (a11 : Int) (a2 : Int) (w : World) (row0 : IsRowG 4 cells32 ok32 w a0 len0 cap0 zs0) (w10 : (Lit.int .u32 a10).wf = true) (w11 : (Lit.int .i64 a11).wf = true) (w2 : (Lit.int .u32 a2).wf = true) (hsh : w.ShapedOpen Try.prog) :
    Calls Try.prog 6 #[.slice a0 len0 cap0, .agg #[.int .u32 a10, .int .i64 a11], .int .u32 a2] w fun e w' => e = .returned (.bool true) ∧ Below w.heap.size w w' := by
  have hb1 := bounds_u32 w10
  have hb2 := bounds_u32 w2
  have row : IsRowG 4 actC actOk w a0 len0 cap0 zs0 := row0
  have kn := fun w => known_any w
  have hm := row.le
  have hm2 := row.room
  unfold maxLen at hm2
  have HR : Hid (IsRowG 4 actC actOk w a0 len0 cap0 zs0) := row
  clear row row0 w10 w2
  obtain ⟨b0, b1⟩ := hb1
  have hszd : (w.alloc (.cells #[.int .u32 a10, .int .i64 a11] 30)).heap.size = w.heap.size + 1 := by simp
  have HSZ : Hid ((w.alloc (.cells #[.int .u32 a10, .int .i64 a11] 30)).heap.size = w.heap.size + 1) := hszd
  clear hszd
  have hxW : Ext w (w.alloc (.cells #[.int .u32 a10, .int .i64 a11] 30)) := (Ext.refl w).alloc _
  have hBX := heap_new w (.cells #[.int .u32 a10, .int .i64 a11] 30)
  have hszW := heap_lt hBX
  have HB : Hid ((w.alloc (.cells #[.int .u32 a10, .int .i64 a11] 30)).heap[w.heap.size]? = some (.cells #[.int .u32 a10, .int .i64 a11] 30 (0, 0))) := hBX
  clear hBX
  have kw := fun w => refWide_any a10 a11 w b0 b1
  obtain ⟨wb0, wb1⟩ := wideV_bd a10 a11 b0 b1
  generalize wideV a10 a11 = wd at *
  obtain ⟨u2, hu2⟩ : ∃ u, IntKind.u32.wrap (wd + 1) = u := ⟨_, rfl⟩
  have hub2 : 0 ≤ u2 ∧ u2 ≤ 4294967295 := by rw [← hu2, IntKind.wrap_u32]; omega
  go_enter Try.func6, Try.ntmps6
  go_wp2_with (go_at_call 10; refine (new_own 64 _).mono ?_; rintro e w1 ⟨rfl, o1⟩)
  rw [show maxV 64 = 64 from rfl, HSZ.out] at o1
  clear HSZ
  generalize (w.alloc (.cells #[.int .u32 a10, .int .i64 a11] 30)) = W0 at *
  go_loopw [8] (fun i wr => ∃ (k : Nat) (L : Row), k ≤ 60 ∧ k ≤ len0 ∧ i = .int .i64 k ∧ Ext W0 wr ∧ Hid (Own10 W0 wr (w.heap.size + 1) 64 L ∧ L.length ≤ k ∧ NoP (a10, a11) L)) (fun i _ => 60 - (intOf i).toNat)
  case atStart => exact ⟨0, [], Nat.zero_le _, Nat.zero_le _, rfl, o1.toExt, ⟨o1, Nat.le_refl _, by intro x hx; cases hx⟩⟩
  case round =>
    clear o1
    obtain ⟨k, L, hk, hkl, rfl, hx, HK⟩ := hrel
    by_cases hlt : k < len0
    · by_cases h60 : k < 60
      · obtain ⟨b, off, d, c, m, v, rfl, hz, c0, c1, hbl, g0, g1, g2, g3⟩ := act_cells HR.out hlt
        have hki : (k : Int) < (len0 : Int) := by omega
        have h60i : (k : Int) < 60 := by omega
        have hk0i : (0 : Int) ≤ (k : Int) := by omega
        have hxd : Ext W0 wr.drew := hx.drew
        have rb0 : ∀ w', Ext wr.drew w' → w'.cell? ⟨w.heap.size, 0, none⟩ = some (.int .u32 a10) := fun w' h => by rw [heap_cell ((hxd.trans h).heap HB.out)]; rfl
        have rb1 : ∀ w', Ext wr.drew w' → w'.cell? ⟨w.heap.size, 1, none⟩ = some (.int .i64 a11) := fun w' h => by rw [heap_cell ((hxd.trans h).heap HB.out)]; rfl
        have HO1 : Hid (Own10 W0 wr.drew (w.heap.size + 1) 64 L ∧ L.length ≤ k ∧ NoP (a10, a11) L) := ⟨HK.out.1.ext ((Ext.refl wr).drew), HK.out.2⟩
        clear HK
        by_cases hpe : c = a10 ∧ m = a11
        · rw [hpe.1] at g1
          rw [hpe.2] at g2
          have r1 : ∀ w', Ext wr.drew w' → w'.cell? ⟨b, off + k * 4 + 1, none⟩ = some (.int .u32 a10) := fun w' h => act_later (hxW.trans (hxd.trans h)) hbl g1
          have r2 : ∀ w', Ext wr.drew w' → w'.cell? ⟨b, off + k * 4 + 2, none⟩ = some (.int .i64 a11) := fun w' h => act_later (hxW.trans (hxd.trans h)) hbl g2
          clear g0 g1 g2 g3
          go_wp2_with fail
          refine wp_region_eager [(0, false), (1, false), (2, false), (3, false), (4, false), (5, false), (6, false)] (by kernel_rfl) (by kernel_rfl) rfl (by kernel_rfl) (fun _ _ _ _ _ h => h) ?_
          generalize wr.drew = W1 at *
          iterate 7 (refine wpE_read (v := ?_) rfl (by rfl) ?_ ?_; rotate_left; (focus (intro w' hx; go_simp; first | done | with_reducible rfl)); simp only [Act.put, List.setIfInBounds_toArray, List.set_cons_zero, List.set_cons_succ])
          refine wpE_done ?_
          clear r1 r2 rb0 rb1
          go_wp2_with fail
          exact ⟨⟨k + 1, L, by omega, by omega, by simp, hxd, ⟨HO1.out.1, by have := HO1.out.2.1; omega, HO1.out.2.2⟩⟩, by simp only [intOf]; omega⟩
        · have r1 : ∀ w', Ext wr.drew w' → w'.cell? ⟨b, off + k * 4 + 1, none⟩ = some (.int .u32 c) := fun w' h => act_later (hxW.trans (hxd.trans h)) hbl g1
          have r2 : ∀ w', Ext wr.drew w' → w'.cell? ⟨b, off + k * 4 + 2, none⟩ = some (.int .i64 m) := fun w' h => act_later (hxW.trans (hxd.trans h)) hbl g2
          have HG : Hid (w.cell? ⟨b, off + k * 4 + 1, none⟩ = some (.int .u32 c) ∧ w.cell? ⟨b, off + k * 4 + 2, none⟩ = some (.int .i64 m) ∧ w.cell? ⟨b, off + k * 4 + 3, none⟩ = some (.int .i64 v)) := ⟨g1, g2, g3⟩
          have hne : ((c, m) : PX) ≠ (a10, a11) := fun e => hpe (by simpa using e)
          have HNE : Hid (((c, m) : PX) ≠ (a10, a11)) := hne
          clear g0 g1 g2 g3 hne
          go_wp2_with fail
          refine wp_region_eager [(0, false), (1, false), (2, false), (3, false), (4, false), (5, false), (6, false)] (by kernel_rfl) (by kernel_rfl) rfl (by kernel_rfl) (fun _ _ _ _ _ h => h) ?_
          generalize wr.drew = W1 at *
          iterate 6 (refine wpE_read (v := ?_) rfl (by rfl) ?_ ?_; rotate_left; (focus (intro w' hx; go_simp; first | done | with_reducible rfl)); simp only [Act.put, List.setIfInBounds_toArray, List.set_cons_zero, List.set_cons_succ])
          refine wpE_read (v := .bool true) rfl (by rfl) (fun w' hx => ?_) ?_
          · go_simp
            exact fun e1 e2 => hpe ⟨e1, e2⟩
          simp only [Act.put, List.setIfInBounds_toArray, List.set_cons_zero, List.set_cons_succ]
          refine wpE_done ?_
          clear r1 r2 rb0 rb1
          go_wp2_with fail
          have hxd2 : Ext W0 W1.drew := hxd.drew
          have ks := set_ownN (HO1.out.1.ext ((Ext.refl W1).drew)) (by have := HO1.out.2.1; omega) c m v c0 c1
          have hNo2 := HO1.out.2.2.set HO1.out.1.srt 64 HNE.out v
          have hlen2 := setR_len 64 L (c, m) v
          have hlenk := HO1.out.2.1
          generalize (setR 64 L (c, m) v).1 = er at *
          generalize (setR 64 L (c, m) v).2 = L2 at *
          have HN2 : Hid (L2.length ≤ k + 1 ∧ NoP (a10, a11) L2) := ⟨by omega, hNo2⟩
          have hbl0 : b < W0.heap.size := Nat.lt_of_lt_of_le hbl hxW.size
          have r1 := fun w' (h : ExtN W0.heap.size W1.drew w') => act_laterN (W := W1.drew) (w' := w') hxd2 h hbl0 (act_later hxW hbl HG.out.1)
          have r2 := fun w' (h : ExtN W0.heap.size W1.drew w') => act_laterN (W := W1.drew) (w' := w') hxd2 h hbl0 (act_later hxW hbl HG.out.2.1)
          have r3 := fun w' (h : ExtN W0.heap.size W1.drew w') => act_laterN (W := W1.drew) (w' := w') hxd2 h hbl0 (act_later hxW hbl HG.out.2.2)
          clear hNo2 hlen2 hlenk HO1 HG
          refine wp_region_eagerN W0.heap.size [(0, false), (1, false), (2, false), (3, false), (4, false), (5, false), (6, false), (7, false), (8, false), (9, false), (10, false), (11, true)] (by kernel_rfl) (by kernel_rfl) rfl (by kernel_rfl) (fun _ _ _ _ _ h => h) ?_
          generalize W1.drew = W2 at *
          iterate 11 (refine wpE_read (v := ?_) rfl (by rfl) ?_ ?_; rotate_left; (focus (intro w' hx; go_simp; first | done | with_reducible rfl)); simp only [Act.put, List.setIfInBounds_toArray, List.set_cons_zero, List.set_cons_succ])
          refine wpE_call rfl (by rfl) (fun K hK => ?_); go_simp; first | (go_at_call 20; refine ks.mono ?_; rintro e w4 ⟨rfl, o4, x4⟩; refine hK _ _ x4 ?_; clear hK K)
          clear r1 r2 r3 ks
          refine wpE_done ?_
          go_wp2_with fail
          exact ⟨⟨k + 1, L2, by omega, by omega, by simp, o4.toExt, ⟨o4, HN2.out⟩⟩, by simp only [intOf]; omega⟩
      · obtain rfl : k = 60 := by omega
        have hki : ((60 : Nat) : Int) < (len0 : Int) := by omega
        obtain ⟨hO, hL, hNo⟩ := HK.out
        obtain ⟨F, hd, hxS, hF⟩ := hO
        have hL60 : L.length ≤ 60 := by omega
        have kb := blocks_at hd
        have hxd : Ext W0 wr.drew := hx.drew
        have rb0 : ∀ w', Ext wr.drew w' → w'.cell? ⟨w.heap.size, 0, none⟩ = some (.int .u32 a10) := fun w' h => by rw [heap_cell ((hxd.trans h).heap HB.out)]; rfl
        have rb1 : ∀ w', Ext wr.drew w' → w'.cell? ⟨w.heap.size, 1, none⟩ = some (.int .i64 a11) := fun w' h => by rw [heap_cell ((hxd.trans h).heap HB.out)]; rfl
        have HD : Hid (DirAt wr.drew (w.heap.size + 1) 64 L F ∧ (∀ x ∈ F, W0.heap.size ≤ x) ∧ (∀ x ∈ F, x < wr.drew.heap.size) ∧ NoP (a10, a11) L) := ⟨hd.ext ((Ext.refl wr).drew), hF, hd.lt, hNo⟩
        generalize hown : ownN (keysL L) = ow at *
        have HOW : Hid (ownN (keysL L) = ow) := hown
        clear hd hxS hF hNo hL HK hown
        go_wp2_with (go_at_call 13; refine kb.mono ?_; rintro e w2 ⟨rfl, h2⟩; subst w2)
        clear kb
        refine wp_region_eager [(0, false), (1, false), (2, false), (3, false), (5, false), (4, true), (6, true), (7, false), (8, true), (9, false)] (by kernel_rfl) (by kernel_rfl) rfl (by kernel_rfl) (fun _ _ _ _ _ h => h) ?_
        generalize wr.drew = W1 at *
        iterate 5 (refine wpE_read (v := ?_) rfl (by rfl) ?_ ?_; rotate_left; (focus (intro w' hx; go_simp; first | done | with_reducible rfl)); simp only [Act.put, List.setIfInBounds_toArray, List.set_cons_zero, List.set_cons_succ])
        refine wpE_call rfl (by rfl) (fun K hK => ?_); go_simp; first | (go_at_call 17; refine (kw _).mono ?_; rintro e w2 ⟨rfl, hx2⟩; refine hK _ _ hx2 ?_; clear hK K)
        refine wpE_call rfl (by rfl) (fun K hK => ?_); go_simp; first | (go_at_call 17; refine (kw _).mono ?_; rintro e w3 ⟨rfl, hx3⟩; refine hK _ _ hx3 ?_; clear hK K)
        (refine wpE_read (v := ?_) rfl (by rfl) ?_ ?_; rotate_left; (focus (intro w' hx; go_simp; first | done | with_reducible rfl)); simp only [Act.put, List.setIfInBounds_toArray, List.set_cons_zero, List.set_cons_succ])
        refine wpE_call rfl (by rfl) (fun K hK => ?_); go_simp
        have hx4 : Ext w3 (w3.alloc (.cells #[.int .u32 a2, .int .u32 a10, .int .u32 wd, .int .u32 u2] 28)) := (Ext.refl w3).alloc _
        have hn4 := heap_new w3 (.cells #[.int .u32 a2, .int .u32 a10, .int .u32 wd, .int .u32 u2] 28)
        have hask : ∀ (q : Nat) (y : Int), [a2, a10, wd, u2][q]? = some y → (w3.alloc (.cells #[.int .u32 a2, .int .u32 a10, .int .u32 wd, .int .u32 u2] 28)).cell? ⟨w3.heap.size, q, none⟩ = some (.int .u32 y) := fun q y hq => by
          obtain ⟨g, cc, e, -, hc⟩ := (ownZ_new (w := w) (B := 0) [a2, a10, wd, u2] _ (Nat.zero_le _) hn4 (by unfold maxLen; simp)).cell hq
          cases e
          exact hc
        refine hK _ _ hx4 ?_
        clear hK K
        (refine wpE_read (v := ?_) rfl (by rfl) ?_ ?_; rotate_left; (focus (intro w' hx; go_simp; first | done | with_reducible rfl)); simp only [Act.put, List.setIfInBounds_toArray, List.set_cons_zero, List.set_cons_succ])
        refine wpE_done ?_
        have hx14 : Ext W1 (w3.alloc (.cells #[.int .u32 a2, .int .u32 a10, .int .u32 wd, .int .u32 u2] 28)) := hx2.trans (hx3.trans hx4)
        have hgaF : w3.heap.size ∉ F := fun h => by
          have := HD.out.2.2.1 _ h
          have := (hx2.trans hx3).size
          omega
        have hga4 : w3.heap.size < (w3.alloc (.cells #[.int .u32 a2, .int .u32 a10, .int .u32 wd, .int .u32 u2] 28)).heap.size := heap_lt hn4
        generalize (w3.alloc (.cells #[.int .u32 a2, .int .u32 a10, .int .u32 wd, .int .u32 u2] 28)) = W4 at *
        generalize w3.heap.size = ga at *
        have hyb : ∀ y ∈ [a2, a10, wd, u2], 0 ≤ y ∧ y ≤ 4294967295 := fun y hy => by
          simp only [List.mem_cons, List.not_mem_nil, or_false] at hy
          rcases hy with rfl | rfl | rfl | rfl <;> omega
        have hys : [a2, a10, wd, u2].length = 4 := rfl
        clear rb0 rb1 hx2 hx3 hx4 hn4
        generalize [a2, a10, wd, u2] = ys at *
        have HY : Hid ((∀ (q : Nat) (y : Int), ys[q]? = some y → W4.cell? ⟨ga, q, none⟩ = some (.int .u32 y)) ∧ ys.length = 4 ∧ ∀ y ∈ ys, 0 ≤ y ∧ y ≤ 4294967295) := ⟨hask, hys, hyb⟩
        clear hask hys hyb
        have hx04 : Ext W0 W4 := hxd.trans hx14
        go_wp2_with fail
        go_loopw [11, 12] (fun v i wq => ∃ q : Nat, q ≤ 4 ∧ i = .int .i64 q ∧ Ext W4 wq ∧ Hid (OwnI wq W4.heap.size v (wasL L (ys.take q)))) (fun _ i _ => 4 - (intOf i).toNat)
        case atStart => exact ⟨0, Nat.zero_le _, rfl, Ext.refl _, World.ownsRow_nil _ _ _ _⟩
        case round =>
          obtain ⟨q, hq, rfl, hxq, HW⟩ := hrel
          by_cases hql : q < 4
          · obtain ⟨y, hy⟩ : ∃ y, ys[q]? = some y := ⟨_, List.getElem?_eq_getElem (by rw [HY.out.2.1]; exact hql)⟩
            have hyb := HY.out.2.2 y (List.mem_of_getElem? hy)
            have t0 := act_later hxq hga4 (HY.out.1 q y hy)
            have kA := look_at (HD.out.1.ext (hx14.trans hxq)) y hyb.1 hyb.2
            have hqi : (q : Int) < 4 := by omega
            have hnx := wasL_next (L := L) hy
            have hMl : (wasL L (ys.take q)).length ≤ 4 := by simp only [wasL, List.length_map, List.length_take]; omega
            generalize wasL L (ys.take q) = M at *
            have HWM : Hid (OwnI wr W4.heap.size u11 M) := HW
            clear HW
            cases ho : lastF none (covL L (y, 32)) with
            | none =>
              rw [ho] at kA hnx
              simp only [numO] at kA
              have HNX : Hid (wasL L (ys.take (q + 1)) = M ++ [(-1)]) := hnx
              clear hnx ho hy
              go_wp2_with (first
                | (go_at_call 18; refine kA.mono ?_; rintro e w7 ⟨rfl, h7⟩; subst w7)
                | (at_builtin; refine append_int1 rfl (.tmp 80) (.tmp 82) rfl W4.heap.size u11 M rfl (owns_later HWM.out ((Ext.refl _).alloc _)) _ 1 (-1) rfl (heap_new _ _) (by omega) (Nat.le_trans hxq.size ((Ext.refl _).alloc _).size) ?_; intro v8 w8 hown8 hgrow8; have hx8 : Ext W4 w8 := grown_ext (hxq.trans ((Ext.refl _).alloc _)) (owns_later HWM.out ((Ext.refl _).alloc _)) hgrow8))
              exact ⟨⟨q + 1, by omega, by simp, hx8, by rw [HNX.out]; exact hown8⟩, by simp only [intOf]; omega⟩
            | some x =>
              rw [ho] at kA hnx
              simp only [numO] at kA
              have HNX : Hid (wasL L (ys.take (q + 1)) = M ++ [x.2]) := hnx
              clear hnx ho hy
              go_wp2_with (first
                | (go_at_call 18; refine kA.mono ?_; rintro e w7 ⟨rfl, h7⟩; subst w7)
                | (at_builtin; refine append_int1 rfl (.tmp 80) (.tmp 82) rfl W4.heap.size u11 M rfl (owns_later HWM.out ((Ext.refl _).alloc _)) _ 1 x.2 rfl (heap_new _ _) (by omega) (Nat.le_trans hxq.size ((Ext.refl _).alloc _).size) ?_; intro v8 w8 hown8 hgrow8; have hx8 : Ext W4 w8 := grown_ext (hxq.trans ((Ext.refl _).alloc _)) (owns_later HWM.out ((Ext.refl _).alloc _)) hgrow8))
              exact ⟨⟨q + 1, by omega, by simp, hx8, by rw [HNX.out]; exact hown8⟩, by simp only [intOf]; omega⟩
          · obtain rfl : q = 4 := by omega
            have hall : ys.take 4 = ys := List.take_of_length_le (by rw [HY.out.2.1]; exact Nat.le_refl _)
            have hI := HW.out
            rw [hall] at hI
            have hMl : (wasL L ys).length = 4 := by simp only [wasL, List.length_map]; exact HY.out.2.1
            obtain ⟨m0, hm0⟩ : ∃ m0, (wasL L ys)[0]? = some m0 := ⟨_, List.getElem?_eq_getElem (by omega)⟩
            obtain ⟨gm, cm, rfl, -⟩ := hI.cell hm0
            have hwas : ∀ (q : Nat) (y : Int), ys[q]? = some y → wr.cell? ⟨gm, q, none⟩ = some (.int .i64 (wasO (lastF none (covL L (y, 32))))) := fun q y hqy => by
              obtain ⟨g, c, e, hc⟩ := hI.cell (i := q) (p := wasO (lastF none (covL L (y, 32)))) (by simp [wasL, hqy])
              cases e
              exact hc
            obtain ⟨hg4, hgl, -⟩ := owns_block hI (g := gm) rfl
            have hgmF : gm ∉ F := fun h => by
              have := HD.out.2.2.1 _ h
              have := hx14.size
              omega
            rw [hMl]
            have kS := set_at (HD.out.1.ext (hx14.trans hxq)) (by omega) a10 a11 1048576 b0 b1
            have hback := back_row HD.out.2.2.2 HD.out.1.srt 64 1048576
            obtain ⟨fb, hfb, heq⟩ : ∃ fb, foundB (setR 64 L (a10, a11) 1048576).2 (a10, a11) = fb ∧ ((setR 64 L (a10, a11) 1048576).1 == 0) = fb := ⟨_, rfl, by rw [hback.1]; rfl⟩
            obtain ⟨-, hdel, hlen1⟩ := hback
            generalize (setR 64 L (a10, a11) 1048576).1 = er at *
            generalize (setR 64 L (a10, a11) 1048576).2 = L1 at *
            have hbF : w.heap.size ∉ F := fun h => by
              have := HD.out.2.1 _ h
              omega
            have hB5 := (hx04.trans hxq).heap HB.out
            have p0 : wr.cell? ⟨w.heap.size, 0, none⟩ = some (.int .u32 a10) := (heap_cell hB5).trans rfl
            have p1 : wr.cell? ⟨w.heap.size, 1, none⟩ = some (.int .i64 a11) := (heap_cell hB5).trans rfl
            have kD := fun (W : World) (F1 : List Nat) (d : DirAt W (w.heap.size + 1) 64 L1 F1) => del_at d (by omega) a10 a11 b0 b1
            simp only [hfb, hdel] at kD
            have hkb : ∀ (W : World) (F2 : List Nat), DirAt W (w.heap.size + 1) 64 L F2 → Calls Try.prog 13 #[.pointer (some ⟨w.heap.size + 1, 0, none⟩)] W fun e w' => e = .returned (.int .i64 (ow : Nat)) ∧ w' = W := fun W F2 d => by
              have := blocks_at d
              rwa [HOW.out] at this
            have HWAS : Hid (∀ (q : Nat) (y : Int), ys[q]? = some y → wr.cell? ⟨gm, q, none⟩ = some (.int .i64 (wasO (lastF none (covL L (y, 32)))))) := hwas
            have HX5 : Hid (wr.heap[w.heap.size]? = some (.cells #[.int .u32 a10, .int .i64 a11] 30 (0, 0))) := hB5
            clear hall hI hm0 hwas hfb hdel HW hB5
            go_wp2_with (first
              | (go_at_call 20; refine kS.mono ?_; rintro e w6 ⟨rfl, F1, d1, x1, n1⟩; have hB6 := x1.heap hbF HX5.out; have p2 : w6.cell? ⟨w.heap.size, 0, none⟩ = some (.int .u32 a10) := (heap_cell hB6).trans rfl; have p3 : w6.cell? ⟨w.heap.size, 1, none⟩ = some (.int .i64 a11) := (heap_cell hB6).trans rfl)
              | (go_at_call 21; refine (kD _ _ d1).mono ?_; rintro e w7 ⟨rfl, F2, d2, x2, n2⟩)
              | (go_at_call 13; refine (hkb _ _ d2).mono ?_; rintro e w8 ⟨rfl, h8⟩; subst w8))
            have XS : ExtS F wr w7 := x1.then x2 n1
            have hgal : ga < wr.heap.size := Nat.lt_of_lt_of_le hga4 hxq.size
            have h07 : Ext W0 w7 := ext_new (hx04.trans hxq) HD.out.2.1 XS
            have hask7 : ∀ (q : Nat) (y : Int), ys[q]? = some y → w7.cell? ⟨ga, q, none⟩ = some (.int .u32 y) := fun q y h => cellSF XS hgal hgaF (act_later hxq hga4 (HY.out.1 q y h))
            have hwas7 : ∀ (q : Nat) (y : Int), ys[q]? = some y → w7.cell? ⟨gm, q, none⟩ = some (.int .i64 (wasO (lastF none (covL L (y, 32))))) := fun q y h => cellSF XS hgl hgmF (HWAS.out q y h)
            have HA7 : Hid (∀ (q : Nat) (y : Int), ys[q]? = some y → w7.cell? ⟨ga, q, none⟩ = some (.int .u32 y)) := hask7
            have HW7 : Hid (∀ (q : Nat) (y : Int), ys[q]? = some y → w7.cell? ⟨gm, q, none⟩ = some (.int .i64 (wasO (lastF none (covL L (y, 32)))))) := hwas7
            have HD7 : Hid (DirAt w7 (w.heap.size + 1) 64 L F2) := d2
            have hga7 : ga < w7.heap.size := Nat.lt_of_lt_of_le hgal XS.size
            have hgm7 : gm < w7.heap.size := Nat.lt_of_lt_of_le hgl XS.size
            clear hask7 hwas7 HWAS d1 d2 x1 x2 n1 n2 hB6 p0 p1 p2 p3 kS kD hkb
            go_loopw [17] (fun i wq => ∃ q : Nat, q ≤ 4 ∧ i = .int .i64 q ∧ Ext w7 wq) (fun i _ => 4 - (intOf i).toNat)
            case atStart => exact ⟨0, Nat.zero_le _, rfl, Ext.refl _⟩
            case round =>
              obtain ⟨q, hq, rfl, hxz⟩ := hrel
              by_cases hql : q < 4
              · obtain ⟨y, hy⟩ : ∃ y, ys[q]? = some y := ⟨_, List.getElem?_eq_getElem (by rw [HY.out.2.1]; exact hql)⟩
                have hyb := HY.out.2.2 y (List.mem_of_getElem? hy)
                have t0 := act_later hxz hga7 (HA7.out q y hy)
                have t1 := act_later hxz hgm7 (HW7.out q y hy)
                have kA := look_at (HD7.out.ext hxz) y hyb.1 hyb.2
                have hqi : (q : Int) < 4 := by omega
                cases ho : lastF none (covL L (y, 32)) with
                | none =>
                  rw [ho] at kA t1
                  simp only [numO] at kA
                  simp only [wasO] at t1
                  clear ho hy
                  go_wp2_with (go_at_call 18; refine kA.mono ?_; rintro e w9 ⟨rfl, h9⟩; subst w9)
                  exact ⟨⟨q + 1, by omega, by simp, hxz⟩, by simp only [intOf]; omega⟩
                | some x =>
                  rw [ho] at kA t1
                  simp only [numO] at kA
                  simp only [wasO] at t1
                  clear ho hy
                  go_wp2_with (go_at_call 18; refine kA.mono ?_; rintro e w9 ⟨rfl, h9⟩; subst w9)
                  exact ⟨⟨q + 1, by omega, by simp, hxz⟩, by simp only [intOf]; omega⟩
              · obtain rfl : q = 4 := by omega
                go_wp2_with (go_at_call 16; refine (kn _).mono ?_; rintro e w9 ⟨rfl, hx9⟩)
                go_ret
                exact ⟨rfl, hxW.trans (h07.trans (hxz.trans hx9))⟩
    · obtain rfl : k = len0 := by omega
      have hki : ¬ ((k : Int) < (k : Int)) := by omega
      obtain ⟨hO, hL, hNo⟩ := HK.out
      obtain ⟨F, hd, hxS, hF⟩ := hO
      have hL60 : L.length ≤ 60 := by omega
      have kb := blocks_at hd
      have hxd : Ext W0 wr.drew := hx.drew
      have rb0 : ∀ w', Ext wr.drew w' → w'.cell? ⟨w.heap.size, 0, none⟩ = some (.int .u32 a10) := fun w' h => by rw [heap_cell ((hxd.trans h).heap HB.out)]; rfl
      have rb1 : ∀ w', Ext wr.drew w' → w'.cell? ⟨w.heap.size, 1, none⟩ = some (.int .i64 a11) := fun w' h => by rw [heap_cell ((hxd.trans h).heap HB.out)]; rfl
      have HD : Hid (DirAt wr.drew (w.heap.size + 1) 64 L F ∧ (∀ x ∈ F, W0.heap.size ≤ x) ∧ (∀ x ∈ F, x < wr.drew.heap.size) ∧ NoP (a10, a11) L) := ⟨hd.ext ((Ext.refl wr).drew), hF, hd.lt, hNo⟩
      generalize hown : ownN (keysL L) = ow at *
      have HOW : Hid (ownN (keysL L) = ow) := hown
      clear hd hxS hF hNo hL HK hown
      go_wp2_with (go_at_call 13; refine kb.mono ?_; rintro e w2 ⟨rfl, h2⟩; subst w2)
      clear kb
      refine wp_region_eager [(0, false), (1, false), (2, false), (3, false), (5, false), (4, true), (6, true), (7, false), (8, true), (9, false)] (by kernel_rfl) (by kernel_rfl) rfl (by kernel_rfl) (fun _ _ _ _ _ h => h) ?_
      generalize wr.drew = W1 at *
      iterate 5 (refine wpE_read (v := ?_) rfl (by rfl) ?_ ?_; rotate_left; (focus (intro w' hx; go_simp; first | done | with_reducible rfl)); simp only [Act.put, List.setIfInBounds_toArray, List.set_cons_zero, List.set_cons_succ])
      refine wpE_call rfl (by rfl) (fun K hK => ?_); go_simp; first | (go_at_call 17; refine (kw _).mono ?_; rintro e w2 ⟨rfl, hx2⟩; refine hK _ _ hx2 ?_; clear hK K)
      refine wpE_call rfl (by rfl) (fun K hK => ?_); go_simp; first | (go_at_call 17; refine (kw _).mono ?_; rintro e w3 ⟨rfl, hx3⟩; refine hK _ _ hx3 ?_; clear hK K)
      (refine wpE_read (v := ?_) rfl (by rfl) ?_ ?_; rotate_left; (focus (intro w' hx; go_simp; first | done | with_reducible rfl)); simp only [Act.put, List.setIfInBounds_toArray, List.set_cons_zero, List.set_cons_succ])
      refine wpE_call rfl (by rfl) (fun K hK => ?_); go_simp
      have hx4 : Ext w3 (w3.alloc (.cells #[.int .u32 a2, .int .u32 a10, .int .u32 wd, .int .u32 u2] 28)) := (Ext.refl w3).alloc _
      have hn4 := heap_new w3 (.cells #[.int .u32 a2, .int .u32 a10, .int .u32 wd, .int .u32 u2] 28)
      have hask : ∀ (q : Nat) (y : Int), [a2, a10, wd, u2][q]? = some y → (w3.alloc (.cells #[.int .u32 a2, .int .u32 a10, .int .u32 wd, .int .u32 u2] 28)).cell? ⟨w3.heap.size, q, none⟩ = some (.int .u32 y) := fun q y hq => by
        obtain ⟨g, cc, e, -, hc⟩ := (ownZ_new (w := w) (B := 0) [a2, a10, wd, u2] _ (Nat.zero_le _) hn4 (by unfold maxLen; simp)).cell hq
        cases e
        exact hc
      refine hK _ _ hx4 ?_
      clear hK K
      (refine wpE_read (v := ?_) rfl (by rfl) ?_ ?_; rotate_left; (focus (intro w' hx; go_simp; first | done | with_reducible rfl)); simp only [Act.put, List.setIfInBounds_toArray, List.set_cons_zero, List.set_cons_succ])
      refine wpE_done ?_
      have hx14 : Ext W1 (w3.alloc (.cells #[.int .u32 a2, .int .u32 a10, .int .u32 wd, .int .u32 u2] 28)) := hx2.trans (hx3.trans hx4)
      have hgaF : w3.heap.size ∉ F := fun h => by
        have := HD.out.2.2.1 _ h
        have := (hx2.trans hx3).size
        omega
      have hga4 : w3.heap.size < (w3.alloc (.cells #[.int .u32 a2, .int .u32 a10, .int .u32 wd, .int .u32 u2] 28)).heap.size := heap_lt hn4
      generalize (w3.alloc (.cells #[.int .u32 a2, .int .u32 a10, .int .u32 wd, .int .u32 u2] 28)) = W4 at *
      generalize w3.heap.size = ga at *
      have hyb : ∀ y ∈ [a2, a10, wd, u2], 0 ≤ y ∧ y ≤ 4294967295 := fun y hy => by
        simp only [List.mem_cons, List.not_mem_nil, or_false] at hy
        rcases hy with rfl | rfl | rfl | rfl <;> omega
      have hys : [a2, a10, wd, u2].length = 4 := rfl
      clear rb0 rb1 hx2 hx3 hx4 hn4
      generalize [a2, a10, wd, u2] = ys at *
      have HY : Hid ((∀ (q : Nat) (y : Int), ys[q]? = some y → W4.cell? ⟨ga, q, none⟩ = some (.int .u32 y)) ∧ ys.length = 4 ∧ ∀ y ∈ ys, 0 ≤ y ∧ y ≤ 4294967295) := ⟨hask, hys, hyb⟩
      clear hask hys hyb
      have hx04 : Ext W0 W4 := hxd.trans hx14
      go_wp2_with fail
      go_loopw [11, 12] (fun v i wq => ∃ q : Nat, q ≤ 4 ∧ i = .int .i64 q ∧ Ext W4 wq ∧ Hid (OwnI wq W4.heap.size v (wasL L (ys.take q)))) (fun _ i _ => 4 - (intOf i).toNat)
      case atStart => exact ⟨0, Nat.zero_le _, rfl, Ext.refl _, World.ownsRow_nil _ _ _ _⟩
      case round =>
        obtain ⟨q, hq, rfl, hxq, HW⟩ := hrel
        by_cases hql : q < 4
        · obtain ⟨y, hy⟩ : ∃ y, ys[q]? = some y := ⟨_, List.getElem?_eq_getElem (by rw [HY.out.2.1]; exact hql)⟩
          have hyb := HY.out.2.2 y (List.mem_of_getElem? hy)
          have t0 := act_later hxq hga4 (HY.out.1 q y hy)
          have kA := look_at (HD.out.1.ext (hx14.trans hxq)) y hyb.1 hyb.2
          have hqi : (q : Int) < 4 := by omega
          have hnx := wasL_next (L := L) hy
          have hMl : (wasL L (ys.take q)).length ≤ 4 := by simp only [wasL, List.length_map, List.length_take]; omega
          generalize wasL L (ys.take q) = M at *
          have HWM : Hid (OwnI wr W4.heap.size u11 M) := HW
          clear HW
          cases ho : lastF none (covL L (y, 32)) with
          | none =>
            rw [ho] at kA hnx
            simp only [numO] at kA
            have HNX : Hid (wasL L (ys.take (q + 1)) = M ++ [(-1)]) := hnx
            clear hnx ho hy
            go_wp2_with (first
              | (go_at_call 18; refine kA.mono ?_; rintro e w7 ⟨rfl, h7⟩; subst w7)
              | (at_builtin; refine append_int1 rfl (.tmp 80) (.tmp 82) rfl W4.heap.size u11 M rfl (owns_later HWM.out ((Ext.refl _).alloc _)) _ 1 (-1) rfl (heap_new _ _) (by omega) (Nat.le_trans hxq.size ((Ext.refl _).alloc _).size) ?_; intro v8 w8 hown8 hgrow8; have hx8 : Ext W4 w8 := grown_ext (hxq.trans ((Ext.refl _).alloc _)) (owns_later HWM.out ((Ext.refl _).alloc _)) hgrow8))
            exact ⟨⟨q + 1, by omega, by simp, hx8, by rw [HNX.out]; exact hown8⟩, by simp only [intOf]; omega⟩
          | some x =>
            rw [ho] at kA hnx
            simp only [numO] at kA
            have HNX : Hid (wasL L (ys.take (q + 1)) = M ++ [x.2]) := hnx
            clear hnx ho hy
            go_wp2_with (first
              | (go_at_call 18; refine kA.mono ?_; rintro e w7 ⟨rfl, h7⟩; subst w7)
              | (at_builtin; refine append_int1 rfl (.tmp 80) (.tmp 82) rfl W4.heap.size u11 M rfl (owns_later HWM.out ((Ext.refl _).alloc _)) _ 1 x.2 rfl (heap_new _ _) (by omega) (Nat.le_trans hxq.size ((Ext.refl _).alloc _).size) ?_; intro v8 w8 hown8 hgrow8; have hx8 : Ext W4 w8 := grown_ext (hxq.trans ((Ext.refl _).alloc _)) (owns_later HWM.out ((Ext.refl _).alloc _)) hgrow8))
            exact ⟨⟨q + 1, by omega, by simp, hx8, by rw [HNX.out]; exact hown8⟩, by simp only [intOf]; omega⟩
        · obtain rfl : q = 4 := by omega
          have hall : ys.take 4 = ys := List.take_of_length_le (by rw [HY.out.2.1]; exact Nat.le_refl _)
          have hI := HW.out
          rw [hall] at hI
          have hMl : (wasL L ys).length = 4 := by simp only [wasL, List.length_map]; exact HY.out.2.1
          obtain ⟨m0, hm0⟩ : ∃ m0, (wasL L ys)[0]? = some m0 := ⟨_, List.getElem?_eq_getElem (by omega)⟩
          obtain ⟨gm, cm, rfl, -⟩ := hI.cell hm0
          have hwas : ∀ (q : Nat) (y : Int), ys[q]? = some y → wr.cell? ⟨gm, q, none⟩ = some (.int .i64 (wasO (lastF none (covL L (y, 32))))) := fun q y hqy => by
            obtain ⟨g, c, e, hc⟩ := hI.cell (i := q) (p := wasO (lastF none (covL L (y, 32)))) (by simp [wasL, hqy])
            cases e
            exact hc
          obtain ⟨hg4, hgl, -⟩ := owns_block hI (g := gm) rfl
          have hgmF : gm ∉ F := fun h => by
            have := HD.out.2.2.1 _ h
            have := hx14.size
            omega
          rw [hMl]
          have kS := set_at (HD.out.1.ext (hx14.trans hxq)) (by omega) a10 a11 1048576 b0 b1
          have hback := back_row HD.out.2.2.2 HD.out.1.srt 64 1048576
          obtain ⟨fb, hfb, heq⟩ : ∃ fb, foundB (setR 64 L (a10, a11) 1048576).2 (a10, a11) = fb ∧ ((setR 64 L (a10, a11) 1048576).1 == 0) = fb := ⟨_, rfl, by rw [hback.1]; rfl⟩
          obtain ⟨-, hdel, hlen1⟩ := hback
          generalize (setR 64 L (a10, a11) 1048576).1 = er at *
          generalize (setR 64 L (a10, a11) 1048576).2 = L1 at *
          have hbF : w.heap.size ∉ F := fun h => by
            have := HD.out.2.1 _ h
            omega
          have hB5 := (hx04.trans hxq).heap HB.out
          have p0 : wr.cell? ⟨w.heap.size, 0, none⟩ = some (.int .u32 a10) := (heap_cell hB5).trans rfl
          have p1 : wr.cell? ⟨w.heap.size, 1, none⟩ = some (.int .i64 a11) := (heap_cell hB5).trans rfl
          have kD := fun (W : World) (F1 : List Nat) (d : DirAt W (w.heap.size + 1) 64 L1 F1) => del_at d (by omega) a10 a11 b0 b1
          simp only [hfb, hdel] at kD
          have hkb : ∀ (W : World) (F2 : List Nat), DirAt W (w.heap.size + 1) 64 L F2 → Calls Try.prog 13 #[.pointer (some ⟨w.heap.size + 1, 0, none⟩)] W fun e w' => e = .returned (.int .i64 (ow : Nat)) ∧ w' = W := fun W F2 d => by
            have := blocks_at d
            rwa [HOW.out] at this
          have HWAS : Hid (∀ (q : Nat) (y : Int), ys[q]? = some y → wr.cell? ⟨gm, q, none⟩ = some (.int .i64 (wasO (lastF none (covL L (y, 32)))))) := hwas
          have HX5 : Hid (wr.heap[w.heap.size]? = some (.cells #[.int .u32 a10, .int .i64 a11] 30 (0, 0))) := hB5
          clear hall hI hm0 hwas hfb hdel HW hB5
          go_wp2_with (first
            | (go_at_call 20; refine kS.mono ?_; rintro e w6 ⟨rfl, F1, d1, x1, n1⟩; have hB6 := x1.heap hbF HX5.out; have p2 : w6.cell? ⟨w.heap.size, 0, none⟩ = some (.int .u32 a10) := (heap_cell hB6).trans rfl; have p3 : w6.cell? ⟨w.heap.size, 1, none⟩ = some (.int .i64 a11) := (heap_cell hB6).trans rfl)
            | (go_at_call 21; refine (kD _ _ d1).mono ?_; rintro e w7 ⟨rfl, F2, d2, x2, n2⟩)
            | (go_at_call 13; refine (hkb _ _ d2).mono ?_; rintro e w8 ⟨rfl, h8⟩; subst w8))
          have XS : ExtS F wr w7 := x1.then x2 n1
          have hgal : ga < wr.heap.size := Nat.lt_of_lt_of_le hga4 hxq.size
          have h07 : Ext W0 w7 := ext_new (hx04.trans hxq) HD.out.2.1 XS
          have hask7 : ∀ (q : Nat) (y : Int), ys[q]? = some y → w7.cell? ⟨ga, q, none⟩ = some (.int .u32 y) := fun q y h => cellSF XS hgal hgaF (act_later hxq hga4 (HY.out.1 q y h))
          have hwas7 : ∀ (q : Nat) (y : Int), ys[q]? = some y → w7.cell? ⟨gm, q, none⟩ = some (.int .i64 (wasO (lastF none (covL L (y, 32))))) := fun q y h => cellSF XS hgl hgmF (HWAS.out q y h)
          have HA7 : Hid (∀ (q : Nat) (y : Int), ys[q]? = some y → w7.cell? ⟨ga, q, none⟩ = some (.int .u32 y)) := hask7
          have HW7 : Hid (∀ (q : Nat) (y : Int), ys[q]? = some y → w7.cell? ⟨gm, q, none⟩ = some (.int .i64 (wasO (lastF none (covL L (y, 32)))))) := hwas7
          have HD7 : Hid (DirAt w7 (w.heap.size + 1) 64 L F2) := d2
          have hga7 : ga < w7.heap.size := Nat.lt_of_lt_of_le hgal XS.size
          have hgm7 : gm < w7.heap.size := Nat.lt_of_lt_of_le hgl XS.size
          clear hask7 hwas7 HWAS d1 d2 x1 x2 n1 n2 hB6 p0 p1 p2 p3 kS kD hkb
          go_loopw [17] (fun i wq => ∃ q : Nat, q ≤ 4 ∧ i = .int .i64 q ∧ Ext w7 wq) (fun i _ => 4 - (intOf i).toNat)
          case atStart => exact ⟨0, Nat.zero_le _, rfl, Ext.refl _⟩
          case round =>
            obtain ⟨q, hq, rfl, hxz⟩ := hrel
            by_cases hql : q < 4
            · obtain ⟨y, hy⟩ : ∃ y, ys[q]? = some y := ⟨_, List.getElem?_eq_getElem (by rw [HY.out.2.1]; exact hql)⟩
              have hyb := HY.out.2.2 y (List.mem_of_getElem? hy)
              have t0 := act_later hxz hga7 (HA7.out q y hy)
              have t1 := act_later hxz hgm7 (HW7.out q y hy)
              have kA := look_at (HD7.out.ext hxz) y hyb.1 hyb.2
              have hqi : (q : Int) < 4 := by omega
              cases ho : lastF none (covL L (y, 32)) with
              | none =>
                rw [ho] at kA t1
                simp only [numO] at kA
                simp only [wasO] at t1
                clear ho hy
                go_wp2_with (go_at_call 18; refine kA.mono ?_; rintro e w9 ⟨rfl, h9⟩; subst w9)
                exact ⟨⟨q + 1, by omega, by simp, hxz⟩, by simp only [intOf]; omega⟩
              | some x =>
                rw [ho] at kA t1
                simp only [numO] at kA
                simp only [wasO] at t1
                clear ho hy
                go_wp2_with (go_at_call 18; refine kA.mono ?_; rintro e w9 ⟨rfl, h9⟩; subst w9)
                exact ⟨⟨q + 1, by omega, by simp, hxz⟩, by simp only [intOf]; omega⟩
            · obtain rfl : q = 4 := by omega
              go_wp2_with (go_at_call 16; refine (kn _).mono ?_; rintro e w9 ⟨rfl, hx9⟩)
              go_ret
              exact ⟨rfl, hxW.trans (h07.trans (hxz.trans hx9))⟩

theorem contract (H : Type) (enc : TypeId × Value → H) (W : World) (base : Nat) (args : Array Value) (ds gs : List (DataW H)) (before : List MemPlace)
    (hval : ∀ (j : Nat) t v, Try.f6.params[j]? = some t → args[j]? = some v → Value.okWide Try.prog W .any base t v)
    (hW : DataW.Whole enc Try.prog Try.f6.params.toList Rows.dirBackSpec.vars false W args.toList ds gs before) (hsh : W.ShapedOpen Try.prog) :
    Calls Try.prog 6 args W fun e W' => ∃ v, e = .returned v ∧ Rows.dirBackSpec.post enc Try.prog Try.f6 false true false false W args v W' := by
  have hW' := hW
  obtain ⟨p, q, hA0, hV, rfl, hfz, hnd⟩ := hW
  have hA : DataW.TrodAll enc Try.prog W 0 (fun _ => true) true Try.f6.params.toList args.toList ds p := hA0
  rw [Try.params6] at hA hval
  obtain ⟨v0, vs0, d0, ds0, p0, q0, hargs, rfl, rfl, h0, r0⟩ := trodAll_cons hA
  obtain ⟨v1, vs1, d1, ds1, p1, q1, rfl, rfl, rfl, h1, r1⟩ := trodAll_cons r0
  obtain ⟨v2, vs2, d2, ds2, p2, q2, rfl, rfl, rfl, h2, r2⟩ := trodAll_cons r1
  obtain ⟨rfl, rfl, rfl⟩ := trodAll_nil r2
  obtain rfl : args = #[v0, v1, v2] := by cases args; simp_all
  obtain ⟨rfl, rfl⟩ := trodVars_none hV
  have k0 := h0
  have lt0 : ∀ x ∈ p0, x.block < W.heap.size := by obtain ⟨m, hm⟩ := k0; exact DataW.trod_lt m _ _ _ hm
  obtain ⟨b0, l0, c0, rfl⟩ := okWide_slice Try.underlying22 (hval 0 22 v0 rfl rfl)
  obtain ⟨fu0, hf0⟩ := h0
  obtain ⟨a0, len0, cap0, zs0, ce0, row0⟩ := open_rowG 4 cells32 ok32 (by omega) cells32_length Try.underlying22 (by kernel_rfl) elem32 hf0
  obtain ⟨rfl, rfl, rfl⟩ : a0 = b0 ∧ len0 = l0 ∧ cap0 = c0 := by simpa [Value.cells, eq_comm] using ce0
  have k1 := h1
  have lt1 : ∀ x ∈ p1, x.block < W.heap.size := by obtain ⟨m, hm⟩ := k1; exact DataW.trod_lt m _ _ _ hm
  obtain ⟨cs1, rfl, hs1⟩ := okWide_struct Try.underlying30 (hval 1 30 v1 rfl rfl)
  obtain ⟨u1a, u1b, rfl⟩ := arr2 (hs1.trans (by kernel_rfl))
  obtain ⟨fu1, hf1⟩ := h1
  obtain ⟨_, _, e10⟩ := field_at Try.underlying30 hf1 0 rfl 1 (by kernel_rfl)
  obtain ⟨a10, c11, _, w10⟩ := DataW.trod_int Try.underlying28 e10
  obtain rfl : u1a = .int .u32 a10 := by simpa [Value.cells] using c11
  obtain ⟨_, _, e12⟩ := field_at Try.underlying30 hf1 1 rfl 1 (by kernel_rfl)
  obtain ⟨a11, c13, _, w11⟩ := DataW.trod_int Try.underlying3 e12
  obtain rfl : u1b = .int .i64 a11 := by simpa [Value.cells] using c13
  obtain ⟨a2, rfl, rfl, rfl, w2⟩ := open_int Try.underlying28 (hval 2 28 v2 rfl rfl) h2
  clear hA0
  refine (walk a0 len0 cap0 zs0 a10 a11 a2 W row0 w10 w11 w2 hsh).mono fun e W' ⟨he, bel⟩ => ?_
  subst he
  exact ⟨_, rfl, _, _, _, [], _, [], hW', trodAll_mk1 (shut_bool Try.underlying4 _), (trodAll_cons_mk (Below.trod laidOut (by kernel_rfl) (of_decide_eq_true (by kernel_rfl)) k0 bel lt0) (trodAll_cons_mk (Below.trod laidOut (by kernel_rfl) (of_decide_eq_true (by kernel_rfl)) k1 bel lt1) (trodAll_cons_mk (shut_int Try.underlying28 w2) trodAll_mk0))), rfl, bel.frame _, fun h => by cases h⟩

theorem laid_met (os : Os) : laidMet Try.prog Rows.dirBackRow.laid ((World.doorLaid Try.prog 24 os).forCall (fun _ _ => 0) ⟨#[], #[.slice none 0 0, .agg #[.int .u32 0, .int .i64 0], .int .u32 0], []⟩).memory :=
  laidMet_of_run' 8 (by kernel_rfl) (by kernel_rfl)
theorem reads (os : Os) {H : Type} (enc : TypeId × Value → H) : ∃ places, DataW.whole enc Try.prog ((World.doorLaid Try.prog 24 os).forCall (fun _ _ => 0) ⟨#[], #[.slice none 0 0, .agg #[.int .u32 0, .int .i64 0], .int .u32 0], []⟩).memory Try.f6.params.toList Rows.dirBackSpec.vars false (#[.slice none 0 0, .agg #[.int .u32 0, .int .i64 0], .int .u32 0] : Array Value).toList 8 = some ([.nil, .agg [.lit (.int .u32 0), .lit (.int .i64 0)], .lit (.int .u32 0)], [], places) :=
  ⟨[], by kernel_rfl⟩

set_option maxRecDepth 100000 in
theorem lifted (os : Os) (started : os.Started) (H : Type) (enc : TypeId × Value → H) (F : Stop.Interp) :
    ReturnsInHanded {} Try.checked os 6 .any ((OpenSpec.ofChange Rows.dirBackSpec).preRow enc Try.prog Try.f6 Rows.dirBackRow.domain false Rows.dirBackRow.laid) (((OpenSpec.ofChange Rows.dirBackSpec).at F).post enc Try.prog Try.f6 false true false false) := by
  obtain ⟨places, hx⟩ := reads os enc
  refine returnsInHanded_of_row (C := Try.checked) (s := (OpenSpec.ofChange Rows.dirBackSpec)) own started (by kernel_rfl) Try.func6
    (witness_row_at (enc := enc) (C := Try.checked) false (World.doorLaid Try.prog 24 os) #[.slice none 0 0, .agg #[.int .u32 0, .int .i64 0], .int .u32 0] rfl (by kernel_rfl) (by kernel_rfl) (by kernel_rfl)
      (OpenSpec.preRow_of_cond 8 hx (by kernel_rfl) (fun k hk => by cases hk) (by kernel_rfl) (laid_met os))) ?_
  intro W base args ds gs before hval hW _ hcond _ hL hsh _
  exact contract H enc W base args ds gs before hval hW hsh

theorem said : Rows.DirBackSaid :=
  OpenClaim.holds_of_cond 6 Try.f6 rfl rfl rfl rfl rfl rfl rfl ⟨rfl, rfl, rfl, rfl, rfl⟩ rfl rfl rfl rfl rfl (by kernel_rfl) Try.func6 (by kernel_rfl)
    (of_decide_eq_true (by kernel_rfl)) (by unfold Func.isWrapper; first | (rw [if_pos (by decide +kernel)]; kernel_rfl) | (rw [if_neg (by decide +kernel)]; exact ⟨rfl, rfl⟩))
    (fun os started H enc _ F => by rw [OpenClaim.pre_eq_preRow]; exact lifted os started H enc F)

end Go.Proofs.Ytlnmdlachfnmkaa.dirBack

namespace Go.Proofs.Ytlnmdlachfnmkaa
theorem dirBack_holds : Rows.DirBackSaid := dirBack.said
#print axioms dirBack_holds
end Go.Proofs.Ytlnmdlachfnmkaa
