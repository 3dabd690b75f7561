/- For every script, the law TriePlays returns true: played out on both, step by step, package trie's tree and the document's row answer alike (Set, Del, Get, Walk, Len, Nodes), to eighty steps; no condition. -/
import Derived.Test.YtgcnnblngmomhaaRows
import Derived.Test.YtgcnnblngmomhaaLaw9P
import Derived.Test.YtgcnnblngmomhaaFrame
import Derived.Test.YtgcnnblngmomhaaRowG
import Derived.WalkKit
import Derived.ProofKit
import Derived.OpenShut
import Derived.ShutString
import Derived.ChangeOld
import Derived.Deep.DeepHandedRow
import Derived.Lib.LaidTab
import Derived.Lib.SmallJoins
import Derived.LaidMore
import Derived.Stop.LaidErr
import Derived.ChangeMaps5
namespace Go.Proofs.Ytgcnnblngmomhaa.triePlays
open Go.ChangeShapes Go.WideShapes Go.ChangeAt Go.RowKit Go.ChangeMaps
set_option linter.unusedVariables false
set_option maxRecDepth 100000

theorem own : ownKnob Try.prog.godebug = none := by kernel_rfl
theorem laidOut : laidOutB Try.prog = true := by kernel_rfl

abbrev Elem34 := Bool × Int × Int × Int
def cells34 (z : Elem34) : List Value := [.bool (z.1), .int .u32 (z.2.1), .int .i64 (z.2.2.1), .int .i64 (z.2.2.2)]
def ok34 (z : Elem34) : Prop := (Lit.int .u32 (z.2.1)).wf = true ∧ (Lit.int .i64 (z.2.2.1)).wf = true ∧ (Lit.int .i64 (z.2.2.2)).wf = true
theorem cells34_length (z : Elem34) : (cells34 z).length = 4 := rfl
theorem elem34 {H : Type} {enc : TypeId × Value → H} {w : World} {base : Nat} {spare : Nat → Bool} {held : Bool} (n : Nat) (cs : List Value) (y : DataW H × List MemPlace)
    (h : DataW.trod enc Try.prog w base spare held n 34 cs = some y) : ∃ z : Elem34, cs = cells34 z ∧ ok34 z := by
  have hl : cs.length = 4 := by
    obtain ⟨_, _, _, _, hl, _⟩ := DataW.trod_struct Try.underlying34 h
    exact hl.trans (by kernel_rfl)
  obtain ⟨u0, u1, u2, u3, rfl⟩ : ∃ u0 u1 u2 u3, cs = [u0, u1, u2, u3] := by
    match cs, hl with
    | [u0, u1, u2, u3], _ => exact ⟨u0, u1, u2, u3, rfl⟩
  obtain ⟨_, _, e1⟩ := field_at Try.underlying34 h 0 rfl 1 (by kernel_rfl)
  obtain ⟨az0, c2, _⟩ := DataW.trod_bool Try.underlying4 e1
  obtain rfl : u0 = .bool az0 := by simpa using c2
  obtain ⟨_, _, e3⟩ := field_at Try.underlying34 h 1 rfl 2 (by kernel_rfl)
  obtain ⟨_, _, e4⟩ := field_at Try.underlying32 e3 0 rfl 1 (by kernel_rfl)
  obtain ⟨az10, c5, _, wz10⟩ := DataW.trod_int Try.underlying30 e4
  obtain rfl : u1 = .int .u32 az10 := by simpa using c5
  obtain ⟨_, _, e6⟩ := field_at Try.underlying32 e3 1 rfl 1 (by kernel_rfl)
  obtain ⟨az11, c7, _, wz11⟩ := DataW.trod_int Try.underlying3 e6
  obtain rfl : u2 = .int .i64 az11 := by simpa using c7
  obtain ⟨_, _, e8⟩ := field_at Try.underlying34 h 2 rfl 1 (by kernel_rfl)
  obtain ⟨az2, c9, _, wz2⟩ := DataW.trod_int Try.underlying3 e8
  obtain rfl : u3 = .int .i64 az2 := by simpa using c9
  exact ⟨(az0, az10, az11, az2), rfl, ⟨wz10, wz11, wz2⟩⟩

open Go.Proofs.Ytgcnnblngmomhaa.Tri

set_option maxHeartbeats 4000000 in
theorem walk (a0 : Option Addr) (len0 cap0 : Nat) (zs0 : List Elem34) (w : World) (row0 : IsRowG 4 cells34 ok34 w a0 len0 cap0 zs0) (hsh : w.ShapedOpen Try.prog) :
    Calls Try.prog 3 #[.slice a0 len0 cap0] w fun e w' => e = .returned (.bool true) ∧ Below w.heap.size w w' := by
  have row : IsRowG 4 actC actOk w a0 len0 cap0 zs0 := row0
  have k0 := fun w => new_any w
  have kn := fun w => known_any w
  have hm := row.le
  have hm2 := row.room
  unfold maxLen at hm2
  have HR : Hid _ := row
  have kd := fun (tb : Nat) c m t F w (c0 : 0 ≤ c) (c1 : c ≤ 4294967295) (h : TrieAt w tb t F) => Del_any tb c m t F w c0 c1 h
  clear row row0
  have hA : Ext w ((w.alloc (.cells #[.pointer none] 62)).alloc (.cells #[.slice none 0 0, .slice none 0 0] 29)) := ((Ext.refl w).alloc _).alloc _
  have hB : Both w.heap.size ((w.alloc (.cells #[.pointer none] 62)).alloc (.cells #[.slice none 0 0, .slice none 0 0] 29)) w.heap.size (w.heap.size + 1) .nil [w.heap.size] [w.heap.size + 1] := by
    refine ⟨(trie_new w).later (((Ext.refl _).alloc _).toS []) (by simp), ⟨.slice none 0 0, .slice none 0 0, rfl, ?_, OwnP.nil _ _, World.ownsRow_nil _ _ _ _, .inl ⟨rfl, rfl⟩⟩, by simp, by simp, by simp⟩
    have := heap_new (w.alloc (.cells #[.pointer none] 62)) (.cells #[.slice none 0 0, .slice none 0 0] 29)
    rwa [show (w.alloc (.cells #[.pointer none] 62)).heap.size = w.heap.size + 1 by simp] at this
  have HB : Hid _ := hB
  clear hB
  go_enter Try.func3, Try.ntmps3
  go_wp2_with (go_at_call 12; refine (k0 _).mono ?_; rintro e w1 ⟨rfl, rfl⟩)
  go_loopw [5] (fun i wr => ∃ (k : Nat) (t : Sh) (F G : List Nat), k ≤ 80 ∧ i = .int .i64 k ∧ Ext w wr ∧ Hid (Both w.heap.size wr w.heap.size (w.heap.size + 1) t F G ∧ szS t ≤ 2 * k)) (fun i _ => 80 - (intOf i).toNat)
  case atStart => exact ⟨0, .nil, [w.heap.size], [w.heap.size + 1], Nat.zero_le _, rfl, hA, ⟨HB.out, Nat.le_refl _⟩⟩
  case round =>
    obtain ⟨k, t, F, G, hk, rfl, hx, HK⟩ := hrel
    clear HB hA k0
    by_cases hlt : k < len0
    · by_cases h80 : k < 80
      · obtain ⟨b, off, d, c, m, v, rfl, -, c0, c1, hbl, g0, g1', g2', g3⟩ := act_cells HR.out hlt
        obtain ⟨hBo, hsz⟩ := HK.out
        have hws := hx.size
        have hlx := hx.below
        have j0 : wr.cell? ⟨b, off + k * 4, none⟩ = some (.bool d) := by rw [hlx.cell (p := ⟨b, off + k * 4, none⟩) hbl]; exact g0
        have hki : (k : Int) < (len0 : Int) := by omega
        have h80i : (k : Int) < 80 := by omega
        have HG : Hid (w.cell? ⟨b, off + k * 4, none⟩ = some (.bool d) ∧ w.cell? ⟨b, off + k * 4 + 1, none⟩ = some (.int .u32 c) ∧ w.cell? ⟨b, off + k * 4 + 2, none⟩ = some (.int .i64 m) ∧ w.cell? ⟨b, off + k * 4 + 3, none⟩ = some (.int .i64 v)) := ⟨g0, g1', g2', g3⟩
        have hxd : Ext w wr.drew := hx.drew
        have hBd : Both w.heap.size wr.drew w.heap.size (w.heap.size + 1) t F G := ⟨hBo.trie.later (((Ext.refl wr).drew).toS []) (by simp), hBo.ref.later (((Ext.refl wr).drew).toS []) (by simp), hBo.apart, hBo.newF, hBo.newG⟩
        have cN : ∀ (j : Nat) (u : Value), w.cell? ⟨b, j, none⟩ = some u → ∀ w', ExtN w.heap.size wr.drew w' → w'.cell? ⟨b, j, none⟩ = some u := fun j u hv w' h => by
          have := (h.block b hbl (Nat.lt_of_lt_of_le hbl hxd.size)).trans (hxd.block b hbl)
          unfold World.cell? at hv ⊢
          rw [this]; exact hv
        have HCN : Hid _ := cN
        have HBO : Hid _ := hBo
        have HBD : Hid _ := hBd
        have hlt' := toL_len t
        clear g0 g1' g2' g3 hlx HR cN hBo hBd HK
        cases d
        · have ks := Set_any w.heap.size c m v t F wr.drew c0 c1 HBD.out.trie
          have kr := fun W (h : RefAt W (w.heap.size + 1) (toL t) G) => refSet_any (w.heap.size + 1) (toL t) G c m v W h (by omega) c0 c1
          have e1 : (if isV c m = true then putS t (c, m) v else t) = setS t (c, m) v := rfl
          have e2 : (if isV c m = true then Tri.setL (toL t) (c, m) v else toL t) = setR (toL t) (c, m) v := rfl
          have e3 : (if isV c m = true then (0 : Int) else 1) = errV (c, m) := rfl
          rw [e1, e3] at ks
          simp only [e2, e3] at kr
          have HE : Hid (toL (setS t (c, m) v) = setR (toL t) (c, m) v ∧ szS (setS t (c, m) v) ≤ szS t + 2) := ⟨setS_toL HBO.out.trie.wf c0 c1 v, sz_set t (c, m) v⟩
          clear e1 e2 e3
          generalize setS t (c, m) v = t2 at *
          generalize setR (toL t) (c, m) v = L2 at *
          generalize errV (c, m) = er at *
          go_wp2_with fail
          refine wp_region_eagerN w.heap.size [(0, false), (1, false), (2, false), (3, false), (4, false), (5, false), (6, false), (7, false), (8, false), (9, false), (10, false), (12, false), (13, false), (14, false), (15, false), (16, false), (17, false), (18, false), (19, false), (20, false), (21, false), (22, false), (11, true), (23, true), (24, false)] (by kernel_rfl) (by kernel_rfl) rfl (by kernel_rfl) (fun _ _ _ _ _ h => h) ?_
          have r1 := HCN.out _ _ HG.out.2.1
          have r2 := HCN.out _ _ HG.out.2.2.1
          have r3 := HCN.out _ _ HG.out.2.2.2
          clear j0 HCN
          generalize wr.drew = W at *
          iterate 22 (refine wpE_read (v := ?_) rfl (by rfl) ?_ ?_; rotate_left; (focus (intro w' hx; go_simp; first | done | with_reducible rfl)); simp only [Act.put, List.setIfInBounds_toArray, List.set_cons_zero, List.set_cons_succ])
          (refine wpE_call rfl (by rfl) (fun K hK => ?_); go_simp; first
            | (go_at_call 15; refine ks.mono ?_; rintro e w2 ⟨rfl, F2, hT2, hx2, hn2⟩; refine hK _ _ (ExtS.toN hx2 HBO.out.newF) ?_; clear hK K))
          obtain ⟨hR2, hap2, hF2⟩ := HBD.out.step_t hxd.size hT2 hx2 hn2
          have hxw2 : Ext w w2 := ((hxd.toS F).trans hx2).ext HBO.out.newF
          (refine wpE_call rfl (by rfl) (fun K hK => ?_); go_simp; first
            | (go_at_call 16; refine (kr _ hR2).mono ?_; rintro e w3 ⟨rfl, G3, hR3, hx3, hn3⟩; refine hK _ _ (ExtS.toN hx3 HBO.out.newG) ?_; clear hK K))
          clear r1 r2 r3
          (refine wpE_read (v := ?_) rfl (by rfl) ?_ ?_; rotate_left; (focus (intro w' hx; go_simp; first | done | with_reducible rfl)); simp only [Act.put, List.setIfInBounds_toArray, List.set_cons_zero, List.set_cons_succ])
          refine wpE_done ?_
          have hxw3 : Ext w w3 := ((hxw2.toS G).trans hx3).ext HBO.out.newG
          have hB3 : Both w.heap.size w3 w.heap.size (w.heap.size + 1) t2 F2 G3 := Both.step_x hT2 hap2 hF2 HBO.out.newG hxw2.size hx3 hn3 (by rw [HE.out.1]; exact hR3)
          have hsz2 : szS t2 ≤ 2 * (k + 1) := by have := HE.out.2; omega
          clear ks kr kd hT2 hR2 hR3 hap2 hF2 hx2 hx3 hn2 hn3 hsz hlt'
          have i1 : w3.cell? ⟨b, off + k * 4 + 1, none⟩ = some (.int .u32 c) := by rw [hxw3.below.cell (p := ⟨b, off + k * 4 + 1, none⟩) hbl]; exact HG.out.2.1
          have i2 : w3.cell? ⟨b, off + k * 4 + 2, none⟩ = some (.int .i64 m) := by rw [hxw3.below.cell (p := ⟨b, off + k * 4 + 2, none⟩) hbl]; exact HG.out.2.2.1
          have hll := toL_len t2
          have kG := tGet hB3.trie c m c0 c1
          have kX := fun W (h : Ext w3 W) => refGet_any _ (toL t2) G3 c m W (hB3.ref.ext h) (by omega)
          have kA := fun W (h : Ext w3 W) => alike_any _ _ t2 F2 G3 W (hB3.trie.ext h) (hB3.ref.ext h) (by omega)
          generalize (getL (toL t2) (c, m)).1 = g1 at *
          generalize (getL (toL t2) (c, m)).2 = g2 at *
          have HB3 : Hid _ := hB3
          clear hB3
          go_wp2_with (first
            | (go_at_call 17; refine kG.mono ?_; rintro e w4 ⟨rfl, hx4⟩; have i3 : w4.cell? ⟨b, off + k * 4 + 1, none⟩ = some (.int .u32 c) := (by rw [(hxw3.trans hx4).below.cell (p := ⟨b, off + k * 4 + 1, none⟩) hbl]; exact HG.out.2.1); have i4 : w4.cell? ⟨b, off + k * 4 + 2, none⟩ = some (.int .i64 m) := (by rw [(hxw3.trans hx4).below.cell (p := ⟨b, off + k * 4 + 2, none⟩) hbl]; exact HG.out.2.2.1))
            | (go_at_call 18; refine (kX _ hx4).mono ?_; rintro e w5 ⟨rfl, hx5⟩)
            | (go_at_call 19; refine (kA _ (hx4.trans hx5)).mono ?_; rintro e w6 ⟨rfl, hx6⟩))
          have hx36 : Ext w3 w6 := (hx4.trans hx5).trans hx6
          have hB6 : Both w.heap.size w6 w.heap.size (w.heap.size + 1) t2 F2 G3 := ⟨HB3.out.trie.ext hx36, HB3.out.ref.ext hx36, HB3.out.apart, HB3.out.newF, HB3.out.newG⟩
          go_roundw
          case rel => exact ⟨k + 1, t2, F2, G3, by omega, by go_num, hxw3.trans hx36, ⟨hB6, by omega⟩⟩
          case measure => simp [intOf]; omega
        · have kdd := kd _ c m t F wr.drew c0 c1 HBD.out.trie
          have kr := fun W (h : RefAt W (w.heap.size + 1) (toL t) G) => refDel_any _ (toL t) G c m W h (srt_toL HBO.out.trie.wf) (by omega)
          have HE : Hid (toL (delS t (c, m)) = delL (toL t) (c, m) ∧ szS (delS t (c, m)) ≤ szS t) := ⟨del_toL HBO.out.trie.wf _, sz_del t (c, m)⟩
          generalize delS t (c, m) = t2 at *
          generalize delL (toL t) (c, m) = L2 at *
          generalize foundB (toL t) (c, m) = fo at *
          go_wp2_with fail
          refine wp_region_eagerN w.heap.size [(0, false), (1, false), (2, false), (3, false), (4, false), (5, false), (7, false), (8, false), (9, false), (10, false), (11, false), (12, false), (6, true), (13, true), (14, false)] (by kernel_rfl) (by kernel_rfl) rfl (by kernel_rfl) (fun _ _ _ _ _ h => h) ?_
          have r1 := HCN.out _ _ HG.out.2.1
          have r2 := HCN.out _ _ HG.out.2.2.1
          clear j0 HCN
          generalize wr.drew = W at *
          iterate 12 (refine wpE_read (v := ?_) rfl (by rfl) ?_ ?_; rotate_left; (focus (intro w' hx; go_simp; first | done | with_reducible rfl)); simp only [Act.put, List.setIfInBounds_toArray, List.set_cons_zero, List.set_cons_succ])
          (refine wpE_call rfl (by rfl) (fun K hK => ?_); go_simp; first
            | (go_at_call 13; refine kdd.mono ?_; rintro e w2 ⟨rfl, F2, hT2, hx2, hn2⟩; refine hK _ _ (ExtS.toN hx2 HBO.out.newF) ?_; clear hK K))
          obtain ⟨hR2, hap2, hF2⟩ := HBD.out.step_t hxd.size hT2 hx2 hn2
          have hxw2 : Ext w w2 := ((hxd.toS F).trans hx2).ext HBO.out.newF
          (refine wpE_call rfl (by rfl) (fun K hK => ?_); go_simp; first
            | (go_at_call 14; refine (kr _ hR2).mono ?_; rintro e w3 ⟨rfl, G3, hR3, hx3, hn3⟩; refine hK _ _ (ExtS.toN hx3 HBO.out.newG) ?_; clear hK K))
          clear r1 r2
          (refine wpE_read (v := ?_) rfl (by rfl) ?_ ?_; rotate_left; (focus (intro w' hx; go_simp; first | done | with_reducible rfl)); simp only [Act.put, List.setIfInBounds_toArray, List.set_cons_zero, List.set_cons_succ])
          refine wpE_done ?_
          have hxw3 : Ext w w3 := ((hxw2.toS G).trans hx3).ext HBO.out.newG
          have hB3 : Both w.heap.size w3 w.heap.size (w.heap.size + 1) t2 F2 G3 := Both.step_x hT2 hap2 hF2 HBO.out.newG hxw2.size hx3 hn3 (by rw [HE.out.1]; exact hR3)
          have hsz2 : szS t2 ≤ 2 * (k + 1) := by have := HE.out.2; omega
          clear kdd kr kd hT2 hR2 hR3 hap2 hF2 hx2 hx3 hn2 hn3 hsz hlt'
          have i1 : w3.cell? ⟨b, off + k * 4 + 1, none⟩ = some (.int .u32 c) := by rw [hxw3.below.cell (p := ⟨b, off + k * 4 + 1, none⟩) hbl]; exact HG.out.2.1
          have i2 : w3.cell? ⟨b, off + k * 4 + 2, none⟩ = some (.int .i64 m) := by rw [hxw3.below.cell (p := ⟨b, off + k * 4 + 2, none⟩) hbl]; exact HG.out.2.2.1
          have hll := toL_len t2
          have kG := tGet hB3.trie c m c0 c1
          have kX := fun W (h : Ext w3 W) => refGet_any _ (toL t2) G3 c m W (hB3.ref.ext h) (by omega)
          have kA := fun W (h : Ext w3 W) => alike_any _ _ t2 F2 G3 W (hB3.trie.ext h) (hB3.ref.ext h) (by omega)
          generalize (getL (toL t2) (c, m)).1 = g1 at *
          generalize (getL (toL t2) (c, m)).2 = g2 at *
          have HB3 : Hid _ := hB3
          clear hB3
          go_wp2_with (first
            | (go_at_call 17; refine kG.mono ?_; rintro e w4 ⟨rfl, hx4⟩; have i3 : w4.cell? ⟨b, off + k * 4 + 1, none⟩ = some (.int .u32 c) := (by rw [(hxw3.trans hx4).below.cell (p := ⟨b, off + k * 4 + 1, none⟩) hbl]; exact HG.out.2.1); have i4 : w4.cell? ⟨b, off + k * 4 + 2, none⟩ = some (.int .i64 m) := (by rw [(hxw3.trans hx4).below.cell (p := ⟨b, off + k * 4 + 2, none⟩) hbl]; exact HG.out.2.2.1))
            | (go_at_call 18; refine (kX _ hx4).mono ?_; rintro e w5 ⟨rfl, hx5⟩)
            | (go_at_call 19; refine (kA _ (hx4.trans hx5)).mono ?_; rintro e w6 ⟨rfl, hx6⟩))
          have hx36 : Ext w3 w6 := (hx4.trans hx5).trans hx6
          have hB6 : Both w.heap.size w6 w.heap.size (w.heap.size + 1) t2 F2 G3 := ⟨HB3.out.trie.ext hx36, HB3.out.ref.ext hx36, HB3.out.apart, HB3.out.newF, HB3.out.newG⟩
          go_roundw
          case rel => exact ⟨k + 1, t2, F2, G3, by omega, by go_num, hxw3.trans hx36, ⟨hB6, by omega⟩⟩
          case measure => simp [intOf]; omega
      · obtain rfl : k = 80 := by omega
        have hki : ((80 : Nat) : Int) < (len0 : Int) := by omega
        clear kd
        go_wp2_with (go_at_call 20; refine (kn _).mono ?_; rintro e w6 ⟨rfl, hx6⟩)
        go_ret
        exact ⟨rfl, hx.trans hx6⟩
    · have hki : (len0 : Int) ≤ (k : Int) := by omega
      clear kd
      go_wp2_with (go_at_call 20; refine (kn _).mono ?_; rintro e w6 ⟨rfl, hx6⟩)
      go_ret
      exact ⟨rfl, hx.trans hx6⟩

theorem contract (H : Type) (enc : TypeId × Value → H) (W : World) (base : Nat) (args : Array Value) (ds gs : List (DataW H)) (before : List MemPlace)
    (hval : ∀ (j : Nat) t v, Try.f3.params[j]? = some t → args[j]? = some v → Value.okWide Try.prog W .any base t v)
    (hW : DataW.Whole enc Try.prog Try.f3.params.toList Rows.triePlaysSpec.vars false W args.toList ds gs before) (hsh : W.ShapedOpen Try.prog) :
    Calls Try.prog 3 args W fun e W' => ∃ v, e = .returned v ∧ Rows.triePlaysSpec.post enc Try.prog Try.f3 false true false false W args v W' := by
  have hW' := hW
  obtain ⟨p, q, hA0, hV, rfl, hfz, hnd⟩ := hW
  have hA : DataW.TrodAll enc Try.prog W 0 (fun _ => true) true Try.f3.params.toList args.toList ds p := hA0
  rw [Try.params3] at hA hval
  obtain ⟨v0, vs0, d0, ds0, p0, q0, hargs, rfl, rfl, h0, r0⟩ := trodAll_cons hA
  obtain ⟨rfl, rfl, rfl⟩ := trodAll_nil r0
  obtain rfl : args = #[v0] := by cases args; simp_all
  obtain ⟨rfl, rfl⟩ := trodVars_none hV
  have k0 := h0
  have lt0 : ∀ x ∈ p0, x.block < W.heap.size := by obtain ⟨m, hm⟩ := k0; exact DataW.trod_lt m _ _ _ hm
  obtain ⟨b0, l0, c0, rfl⟩ := okWide_slice Try.underlying22 (hval 0 22 v0 rfl rfl)
  obtain ⟨fu0, hf0⟩ := h0
  obtain ⟨a0, len0, cap0, zs0, ce0, row0⟩ := open_rowG 4 cells34 ok34 (by omega) cells34_length Try.underlying22 (by kernel_rfl) elem34 hf0
  obtain ⟨rfl, rfl, rfl⟩ : a0 = b0 ∧ len0 = l0 ∧ cap0 = c0 := by simpa [Value.cells, eq_comm] using ce0
  clear hA0
  refine (walk a0 len0 cap0 zs0 W row0 hsh).mono fun e W' ⟨he, bel⟩ => ?_
  subst he
  exact ⟨_, rfl, _, _, _, [], _, [], hW', trodAll_mk1 (shut_bool Try.underlying4 _), (trodAll_cons_mk (Below.trod laidOut (by kernel_rfl) (of_decide_eq_true (by kernel_rfl)) k0 bel lt0) trodAll_mk0), rfl, bel.frame _, fun h => by cases h⟩

theorem laid_met (os : Os) : laidMet Try.prog Rows.triePlaysRow.laid ((World.doorLaid Try.prog 24 os).forCall (fun _ _ => 0) ⟨#[], #[.slice none 0 0], []⟩).memory :=
  laidMet_of_run' 8 (by kernel_rfl) (by kernel_rfl)
theorem reads (os : Os) {H : Type} (enc : TypeId × Value → H) : ∃ places, DataW.whole enc Try.prog ((World.doorLaid Try.prog 24 os).forCall (fun _ _ => 0) ⟨#[], #[.slice none 0 0], []⟩).memory Try.f3.params.toList Rows.triePlaysSpec.vars false (#[.slice none 0 0] : Array Value).toList 8 = some ([.nil], [], places) :=
  ⟨[], by kernel_rfl⟩

set_option maxRecDepth 100000 in
theorem lifted (os : Os) (started : os.Started) (H : Type) (enc : TypeId × Value → H) (F : Stop.Interp) :
    ReturnsInHanded {} Try.checked os 3 .any ((OpenSpec.ofChange Rows.triePlaysSpec).preRow enc Try.prog Try.f3 Rows.triePlaysRow.domain false Rows.triePlaysRow.laid) (((OpenSpec.ofChange Rows.triePlaysSpec).at F).post enc Try.prog Try.f3 false true false false) := by
  obtain ⟨places, hx⟩ := reads os enc
  refine returnsInHanded_of_row (C := Try.checked) (s := (OpenSpec.ofChange Rows.triePlaysSpec)) own started (by kernel_rfl) Try.func3
    (witness_row_at (enc := enc) (C := Try.checked) false (World.doorLaid Try.prog 24 os) #[.slice none 0 0] rfl (by kernel_rfl) (by kernel_rfl) (by kernel_rfl)
      (OpenSpec.preRow_of_cond 8 hx (by kernel_rfl) (fun k hk => by cases hk) (by kernel_rfl) (laid_met os))) ?_
  intro W base args ds gs before hval hW _ hcond _ hL hsh _
  exact contract H enc W base args ds gs before hval hW hsh

theorem said : Rows.TriePlaysSaid :=
  OpenClaim.holds_of_cond 3 Try.f3 rfl rfl rfl rfl rfl rfl rfl ⟨rfl, rfl, rfl, rfl, rfl⟩ rfl rfl rfl rfl rfl (by kernel_rfl) Try.func3 (by kernel_rfl)
    (of_decide_eq_true (by kernel_rfl)) (by unfold Func.isWrapper; first | (rw [if_pos (by decide +kernel)]; kernel_rfl) | (rw [if_neg (by decide +kernel)]; exact ⟨rfl, rfl⟩))
    (fun os started H enc _ F => by rw [OpenClaim.pre_eq_preRow]; exact lifted os started H enc F)

end Go.Proofs.Ytgcnnblngmomhaa.triePlays

namespace Go.Proofs.Ytgcnnblngmomhaa
theorem triePlays_holds : Rows.TriePlaysSaid := triePlays.said
#print axioms triePlays_holds
end Go.Proofs.Ytgcnnblngmomhaa
