/- For every bound, every script and every address, the law DirLooks returns true: behind any script each address has the number of the longest prefix that has it; no condition. -/
import Derived.Test.YtlnmdlachfnmkaaRows
import Derived.Test.YtlnmdlachfnmkaaLaw10R
import Derived.Test.YtlnmdlachfnmkaaFrame
import Derived.Test.YtlnmdlachfnmkaaRowG
import Derived.WalkKit
import Derived.ProofKit
import Derived.OpenShut
import Derived.ShutString
import Derived.ChangeOld
import Derived.Deep.DeepHandedRow
import Derived.Lib.LaidTab
import Derived.Lib.SmallJoins
import Derived.LaidMore
import Derived.Stop.LaidErr
import Derived.ChangeMaps5
namespace Go.Proofs.Ytlnmdlachfnmkaa.dirLooks
open Go.ChangeShapes Go.WideShapes Go.ChangeAt Go.RowKit Go.ChangeMaps
set_option linter.unusedVariables false
set_option maxRecDepth 100000

theorem own : ownKnob Try.prog.godebug = none := by kernel_rfl
theorem laidOut : laidOutB Try.prog = true := by kernel_rfl

abbrev Elem32 := Bool × Int × Int × Int
def cells32 (z : Elem32) : List Value := [.bool (z.1), .int .u32 (z.2.1), .int .i64 (z.2.2.1), .int .i64 (z.2.2.2)]
def ok32 (z : Elem32) : Prop := (Lit.int .u32 (z.2.1)).wf = true ∧ (Lit.int .i64 (z.2.2.1)).wf = true ∧ (Lit.int .i64 (z.2.2.2)).wf = true
theorem cells32_length (z : Elem32) : (cells32 z).length = 4 := rfl
theorem elem32 {H : Type} {enc : TypeId × Value → H} {w : World} {base : Nat} {spare : Nat → Bool} {held : Bool} (n : Nat) (cs : List Value) (y : DataW H × List MemPlace)
    (h : DataW.trod enc Try.prog w base spare held n 32 cs = some y) : ∃ z : Elem32, cs = cells32 z ∧ ok32 z := by
  have hl : cs.length = 4 := by
    obtain ⟨_, _, _, _, hl, _⟩ := DataW.trod_struct Try.underlying32 h
    exact hl.trans (by kernel_rfl)
  obtain ⟨u0, u1, u2, u3, rfl⟩ : ∃ u0 u1 u2 u3, cs = [u0, u1, u2, u3] := by
    match cs, hl with
    | [u0, u1, u2, u3], _ => exact ⟨u0, u1, u2, u3, rfl⟩
  obtain ⟨_, _, e1⟩ := field_at Try.underlying32 h 0 rfl 1 (by kernel_rfl)
  obtain ⟨az0, c2, _⟩ := DataW.trod_bool Try.underlying4 e1
  obtain rfl : u0 = .bool az0 := by simpa using c2
  obtain ⟨_, _, e3⟩ := field_at Try.underlying32 h 1 rfl 2 (by kernel_rfl)
  obtain ⟨_, _, e4⟩ := field_at Try.underlying30 e3 0 rfl 1 (by kernel_rfl)
  obtain ⟨az10, c5, _, wz10⟩ := DataW.trod_int Try.underlying28 e4
  obtain rfl : u1 = .int .u32 az10 := by simpa using c5
  obtain ⟨_, _, e6⟩ := field_at Try.underlying30 e3 1 rfl 1 (by kernel_rfl)
  obtain ⟨az11, c7, _, wz11⟩ := DataW.trod_int Try.underlying3 e6
  obtain rfl : u2 = .int .i64 az11 := by simpa using c7
  obtain ⟨_, _, e8⟩ := field_at Try.underlying32 h 2 rfl 1 (by kernel_rfl)
  obtain ⟨az2, c9, _, wz2⟩ := DataW.trod_int Try.underlying3 e8
  obtain rfl : u3 = .int .i64 az2 := by simpa using c9
  exact ⟨(az0, az10, az11, az2), rfl, ⟨wz10, wz11, wz2⟩⟩

open Go.Proofs.Ytlnmdlachfnmkaa.Tri Go.Proofs.Ytlnmdlachfnmkaa.Dr

/-- The two Dirs behind k acts, and the row of addresses to ask for. -/
def LooksAt (w0 wr : World) (db xb : Nat) (mst : Int) (v : Value) (k : Nat) : Prop := ∃ L H xs, BothH w0 wr db xb mst L H ∧ L.length ≤ k ∧ OwnZ wr w0.heap.size v xs ∧ (∀ g, v.ownBlock = some g → g ∉ H) ∧ xs.length = 1 + 4 * k ∧ ∀ y ∈ xs, 0 ≤ y ∧ y ≤ 4294967295

set_option maxHeartbeats 4000000 in
theorem walk (a0 : Int) (a1 : Option Addr) (len1 cap1 : Nat) (zs1 : List Elem32) (a2 : Int) (w : World) (w0 : (Lit.int .i64 a0).wf = true) (row1 : IsRowG 4 cells32 ok32 w a1 len1 cap1 zs1) (w2 : (Lit.int .u32 a2).wf = true) (hsh : w.ShapedOpen Try.prog) :
    Calls Try.prog 4 #[.int .i64 a0, .slice a1 len1 cap1, .int .u32 a2] w fun e w' => e = .returned (.bool true) ∧ Below w.heap.size w w' := by
  have hb2 := bounds_u32 w2
  have row : IsRowG 4 actC actOk w a1 len1 cap1 zs1 := row1
  have kn := fun w => known_any w
  have hm := row.le
  have hm2 := row.room
  unfold maxLen at hm2
  have HR : Hid (IsRowG 4 actC actOk w a1 len1 cap1 zs1) := row
  clear row row1 w2
  go_enter Try.func4, Try.ntmps4
  go_wp2_with (first
    | (go_at_call 10; refine (new_at a0 _).mono ?_; rintro e w1 ⟨rfl, hx1, d1⟩)
    | (go_at_call 11; refine (newR_any a0 _).mono ?_; rintro e w2 ⟨rfl, hx2, d2⟩))
  have l1 := d1.lt w.heap.size (by simp)
  have l2 := d2.lt w1.heap.size (by simp)
  have hx3 : Ext w2 (w2.alloc (.cells #[.int .u32 a2] 28)) := (Ext.refl w2).alloc _
  have hB0 : LooksAt w (w2.alloc (.cells #[.int .u32 a2] 28)) w.heap.size w1.heap.size (maxV a0) (.slice (some ⟨w2.heap.size, 0, none⟩) 1 1) 0 := by
    refine ⟨[], _, [a2], ⟨[w.heap.size], [w1.heap.size], rfl, d1.ext (hx2.trans hx3), d2.ext hx3, ?_, by simp, by simp; exact hx1.size, (hx1.trans hx2).trans hx3⟩, Nat.le_refl _, ownZ_new (w := w) [a2] _ (Nat.le_trans hx1.size hx2.size) (heap_new w2 _) (by unfold maxLen; simp), ?_, rfl, ?_⟩
    · simp; omega
    · intro g hg hh
      simp [Value.ownBlock] at hg hh
      have := hx2.size
      omega
    · simp; exact hb2
  have hx0 : Ext w (w2.alloc (.cells #[.int .u32 a2] 28)) := (hx1.trans hx2).trans hx3
  generalize w1.heap.size = xb at *
  generalize maxV a0 = mst at *
  clear hx1 hx2 hx3 d1 d2 l1 l2
  go_loopw [9, 10] (fun v i wr => ∃ k : Nat, k ≤ 60 ∧ k ≤ len1 ∧ i = .int .i64 k ∧ Ext w wr ∧ Hid (LooksAt w wr w.heap.size xb mst v k)) (fun _ i _ => 60 - (intOf i).toNat)
  case atStart => exact ⟨0, Nat.zero_le _, Nat.zero_le _, rfl, hx0, hB0⟩
  case round =>
    clear hB0 hx0
    obtain ⟨k, hk, hkl, rfl, hx, HK⟩ := hrel
    by_cases hlt : k < len1
    · by_cases h60 : k < 60
      · obtain ⟨b, off, d, c, m, v, rfl, hz, c0, c1, hbl, g0, g1, g2, g3⟩ := act_cells HR.out hlt
        have hki : (k : Int) < (len1 : Int) := by omega
        have h60i : (k : Int) < 60 := by omega
        have hk0i : (0 : Int) ≤ (k : Int) := by omega
        obtain ⟨L, H, xs, hO, hL, hZ, hap, hxl, hxb⟩ := HK.out
        obtain ⟨az, cz, rfl, -, -, -⟩ := owns_slice hZ
        have ka := act_at hO (by omega) d c m v c0 c1
        have hlen2 := actR_len mst L d (c, m) v
        have hlenk : (actR mst L d (c, m) v).length ≤ k + 1 := by omega
        generalize actR mst L d (c, m) v = L2 at *
        have HLEN : Hid (L2.length ≤ k + 1) := hlenk
        have j0 := act_later hx hbl g0
        have j1 := act_later hx hbl g1
        have j2 := act_later hx hbl g2
        have j3 := act_later hx hbl g3
        have HZ : Hid (OwnZ wr w.heap.size (.slice az xs.length cz) xs ∧ (∀ g, (Value.slice az xs.length cz).ownBlock = some g → g ∉ H) ∧ xs.length = 1 + 4 * k ∧ ∀ y ∈ xs, 0 ≤ y ∧ y ≤ 4294967295) := ⟨hZ, hap, hxl, hxb⟩
        clear hZ hap hxl hxb hlen2 hlenk HK hO hL
        go_wp2_with (first
          | (go_at_call 12; refine ka.mono ?_; rintro e w4 ⟨rfl, H4, o4, x4, n4, s4⟩; have hx4 := o4.toExt; have i1 := act_later hx4 hbl g1; have i2 := act_later hx4 hbl g2)
          | (go_at_call 17; refine (refWide_any c m _ c0 c1).mono ?_; rintro e w5 ⟨rfl, hx5⟩))
        have hx6 : Ext w w5.drew := (hx4.trans hx5).drew
        have hx46 : Ext w4 w5.drew := hx5.drew
        have hz6 : OwnZ w5.drew w.heap.size (.slice az xs.length cz) xs := owns_later (owns_laterS HZ.out.1 x4 HZ.out.2.1) hx46
        have HZ6 : Hid (OwnZ w5.drew w.heap.size (.slice az xs.length cz) xs) := hz6
        have HO6 : Hid (BothH w w5.drew w.heap.size xb mst L2 H4) := o4.ext hx46
        have r1 := fun w' (h : ExtN w.heap.size w5.drew w') => act_laterN (W := w5.drew) (w' := w') hx6 h hbl g1
        obtain ⟨wb0, wb1⟩ := wideV_bd c m c0 c1
        clear o4 hz6 g0 g1 g2 g3 i1 i2 j0 j1 j2 j3 hx5 ka
        generalize wideV c m = wd at *
        obtain ⟨u1, hu1⟩ : ∃ u, IntKind.u32.wrap (c - 1) = u := ⟨_, rfl⟩
        obtain ⟨u2, hu2⟩ : ∃ u, IntKind.u32.wrap (wd + 1) = u := ⟨_, rfl⟩
        have hub1 : 0 ≤ u1 ∧ u1 ≤ 4294967295 := by rw [← hu1, IntKind.wrap_u32]; omega
        have hub2 : 0 ≤ u2 ∧ u2 ≤ 4294967295 := by rw [← hu2, IntKind.wrap_u32]; omega
        refine wp_region_eagerN w.heap.size [(0, false), (1, false), (2, false), (3, false), (4, false), (5, false), (6, false), (7, false), (8, false), (9, false), (10, false), (11, false), (12, false), (13, false), (14, false), (15, false), (16, false), (17, true), (18, true), (19, false)] (by kernel_rfl) (by kernel_rfl) rfl (by kernel_rfl) (fun _ _ _ _ _ h => h) ?_
        generalize w5.drew = W6 at *
        iterate 17 (refine wpE_read (v := ?_) rfl (by rfl) ?_ ?_; rotate_left; (focus (intro w' hx; go_simp; first | done | with_reducible rfl)); simp only [Act.put, List.setIfInBounds_toArray, List.set_cons_zero, List.set_cons_succ])
        refine wpE_call rfl (by rfl) (fun K hK => ?_); go_simp
        have hn7 := heap_new W6 (.cells #[.int .u32 c, .int .u32 u1, .int .u32 wd, .int .u32 u2] 28)
        have hx67 : Ext W6 (W6.alloc (.cells #[.int .u32 c, .int .u32 u1, .int .u32 wd, .int .u32 u2] 28)) := (Ext.refl W6).alloc _
        have hz7 : OwnZ (W6.alloc (.cells #[.int .u32 c, .int .u32 u1, .int .u32 wd, .int .u32 u2] 28)) w.heap.size (.slice az xs.length cz) xs := owns_later HZ6.out hx67
        have hO7 : BothH w (W6.alloc (.cells #[.int .u32 c, .int .u32 u1, .int .u32 wd, .int .u32 u2] 28)) w.heap.size xb mst L2 H4 := HO6.out.ext hx67
        refine hK _ _ (extS_N (hx67.toS []) (by simp)) ?_
        clear hK K
        have hx7 := hx6.trans hx67
        generalize (W6.alloc (.cells #[.int .u32 c, .int .u32 u1, .int .u32 wd, .int .u32 u2] 28)) = W7 at *
        have hxl := HZ.out.2.2.1
        have hap4 : ∀ g, (Value.slice az xs.length cz).ownBlock = some g → g ∉ H4 := fun g hg hh => by
          rcases n4 g hh with h1 | h1
          · exact HZ.out.2.1 g hg h1
          · have := (owns_block HZ.out.1 hg).2.1
            omega
        refine wpE_call rfl (by rfl) (fun K hK => ?_)
        refine wp_append_z (.tmp 49) (.tmp 66) rfl w.heap.size _ xs rfl hz7 W6.heap.size 4 [c, u1, wd, u2] rfl hn7 (by simp only [List.length_cons, List.length_nil]; omega) hx7.size ?_
        intro v' w8 hz8 hg8 hat8
        have hN8 : ExtN w.heap.size W7 w8 := grown_extN hz7 (Nat.le_refl _) hg8
        refine hK _ _ hN8 ?_
        clear hK K
        simp only [Act.put, List.setIfInBounds_toArray, List.set_cons_zero, List.set_cons_succ]
        have hx8 : Ext w w8 := ExtN.ext hx7 hN8 (Nat.le_refl _)
        have hS8 : ExtS (blks (.slice az xs.length cz)) W7 w8 := grown_extS hz7 hg8 (fun g hg => mem_blks.2 hg)
        have hys : (xs ++ [c, u1, wd, u2]).length = 1 + 4 * (k + 1) := by simp only [List.length_append, List.length_cons, List.length_nil]; omega
        have hyb : ∀ y ∈ xs ++ [c, u1, wd, u2], 0 ≤ y ∧ y ≤ 4294967295 := fun y hy => by
          rcases List.mem_append.1 hy with h | h
          · exact HZ.out.2.2.2 y h
          · simp only [List.mem_cons, List.not_mem_nil, or_false] at h
            rcases h with rfl | rfl | rfl | rfl <;> omega
        have hL8 : LooksAt w w8 w.heap.size xb mst v' (k + 1) := by
          refine ⟨L2, H4, _, hO7.later hS8 (fun y hy hh => hap4 y (mem_blks.1 hh) hy) hx8, HLEN.out, hz8, fun g hg hh => ?_, hys, hyb⟩
          rcases hat8 with h | h
          · exact hap4 g (h ▸ hg) hh
          · rw [h] at hg
            cases hg
            have := hO7.lt _ hh
            omega
        have HL8 : Hid (LooksAt w w8 w.heap.size xb mst v' (k + 1)) := hL8
        clear hL8 hys hyb hO7 hz7 hz8 hap4 hat8 hg8 hS8 hN8 hn7
        (refine wpE_read (v := ?_) rfl (by rfl) ?_ ?_; rotate_left; (focus (intro w' hx; go_simp; first | done | with_reducible rfl)); simp only [Act.put, List.setIfInBounds_toArray, List.set_cons_zero, List.set_cons_succ])
        refine wpE_done ?_
        go_wp2_with fail
        exact ⟨⟨k + 1, by omega, by omega, by simp, hx8, HL8⟩, by simp only [intOf]; omega⟩
      · obtain rfl : k = 60 := by omega
        have hki : ((60 : Nat) : Int) < (len1 : Int) := by omega
        obtain ⟨L, H, xs, hO, hL, hZ, hap, hxl, hxb⟩ := HK.out
        obtain ⟨az, cz, rfl, -, -, -⟩ := owns_slice hZ
        obtain ⟨F, G, -, hd, hr, -⟩ := hO
        have HD : Hid (DirAt wr w.heap.size mst L F ∧ TriD.RefAt mst wr xb L G ∧ OwnZ wr w.heap.size (.slice az xs.length cz) xs ∧ L.length ≤ 60 ∧ ∀ y ∈ xs, 0 ≤ y ∧ y ≤ 4294967295) := ⟨hd, hr, hZ, by omega, hxb⟩
        have hxl' : xs.length ≤ 1000 := by omega
        clear hL hZ hap hxl hxb HK hd hr
        go_wp2_with fail
        go_loopw [12] (fun i wq => ∃ q : Nat, q ≤ xs.length ∧ i = .int .i64 q ∧ Ext wr wq) (fun i _ => xs.length - (intOf i).toNat)
        case atStart => exact ⟨0, Nat.zero_le _, rfl, Ext.refl _⟩
        case round =>
          obtain ⟨q, hq, rfl, hxq⟩ := hrel
          by_cases hql : q < xs.length
          · obtain ⟨y, hy⟩ : ∃ y, xs[q]? = some y := ⟨_, List.getElem?_eq_getElem hql⟩
            obtain ⟨hd, hr, hZ, hL, hxb⟩ := HD.out
            obtain ⟨g, cc, e, hgl, hc⟩ := hZ.cell hy
            cases e
            have hyb := hxb y (List.mem_of_getElem? hy)
            have kA := look_at (hd.ext hxq) y hyb.1 hyb.2
            have kB := lookR_any xb L G y _ (hr.ext hxq) hd.srt hd.valid (by omega) hyb.1 hyb.2
            obtain ⟨nv, nok, hno⟩ := numO_shape (lastF none (covL L (y, 32)))
            rw [hno] at kA kB
            have t0 := act_later hxq hgl hc
            have hqi : (q : Int) < (xs.length : Int) := by omega
            clear hd hr hZ hL hxb hno hc hy hyb
            go_wp2_with (first
              | (go_at_call 18; refine kA.mono ?_; rintro e w7 ⟨rfl, h7⟩; subst w7)
              | (go_at_call 19; refine kB.mono ?_; rintro e w8 ⟨rfl, hx8⟩))
            exact ⟨⟨q + 1, by omega, by simp, hxq.trans hx8⟩, by simp only [intOf]; omega⟩
          · obtain rfl : q = xs.length := by omega
            go_wp2_with (go_at_call 16; refine (kn _).mono ?_; rintro e w9 ⟨rfl, hx9⟩)
            go_ret
            exact ⟨rfl, (hx.trans hxq).trans hx9⟩
    · obtain rfl : k = len1 := by omega
      have hki : ¬ ((k : Int) < (k : Int)) := by omega
      obtain ⟨L, H, xs, hO, hL, hZ, hap, hxl, hxb⟩ := HK.out
      obtain ⟨az, cz, rfl, -, -, -⟩ := owns_slice hZ
      obtain ⟨F, G, -, hd, hr, -⟩ := hO
      have HD : Hid (DirAt wr w.heap.size mst L F ∧ TriD.RefAt mst wr xb L G ∧ OwnZ wr w.heap.size (.slice az xs.length cz) xs ∧ L.length ≤ 60 ∧ ∀ y ∈ xs, 0 ≤ y ∧ y ≤ 4294967295) := ⟨hd, hr, hZ, by omega, hxb⟩
      have hxl' : xs.length ≤ 1000 := by omega
      clear hL hZ hap hxl hxb HK hd hr
      go_wp2_with fail
      go_loopw [12] (fun i wq => ∃ q : Nat, q ≤ xs.length ∧ i = .int .i64 q ∧ Ext wr wq) (fun i _ => xs.length - (intOf i).toNat)
      case atStart => exact ⟨0, Nat.zero_le _, rfl, Ext.refl _⟩
      case round =>
        obtain ⟨q, hq, rfl, hxq⟩ := hrel
        by_cases hql : q < xs.length
        · obtain ⟨y, hy⟩ : ∃ y, xs[q]? = some y := ⟨_, List.getElem?_eq_getElem hql⟩
          obtain ⟨hd, hr, hZ, hL, hxb⟩ := HD.out
          obtain ⟨g, cc, e, hgl, hc⟩ := hZ.cell hy
          cases e
          have hyb := hxb y (List.mem_of_getElem? hy)
          have kA := look_at (hd.ext hxq) y hyb.1 hyb.2
          have kB := lookR_any xb L G y _ (hr.ext hxq) hd.srt hd.valid (by omega) hyb.1 hyb.2
          obtain ⟨nv, nok, hno⟩ := numO_shape (lastF none (covL L (y, 32)))
          rw [hno] at kA kB
          have t0 := act_later hxq hgl hc
          have hqi : (q : Int) < (xs.length : Int) := by omega
          clear hd hr hZ hL hxb hno hc hy hyb
          go_wp2_with (first
            | (go_at_call 18; refine kA.mono ?_; rintro e w7 ⟨rfl, h7⟩; subst w7)
            | (go_at_call 19; refine kB.mono ?_; rintro e w8 ⟨rfl, hx8⟩))
          exact ⟨⟨q + 1, by omega, by simp, hxq.trans hx8⟩, by simp only [intOf]; omega⟩
        · obtain rfl : q = xs.length := by omega
          go_wp2_with (go_at_call 16; refine (kn _).mono ?_; rintro e w9 ⟨rfl, hx9⟩)
          go_ret
          exact ⟨rfl, (hx.trans hxq).trans hx9⟩

theorem contract (H : Type) (enc : TypeId × Value → H) (W : World) (base : Nat) (args : Array Value) (ds gs : List (DataW H)) (before : List MemPlace)
    (hval : ∀ (j : Nat) t v, Try.f4.params[j]? = some t → args[j]? = some v → Value.okWide Try.prog W .any base t v)
    (hW : DataW.Whole enc Try.prog Try.f4.params.toList Rows.dirLooksSpec.vars false W args.toList ds gs before) (hsh : W.ShapedOpen Try.prog) :
    Calls Try.prog 4 args W fun e W' => ∃ v, e = .returned v ∧ Rows.dirLooksSpec.post enc Try.prog Try.f4 false true false false W args v W' := by
  have hW' := hW
  obtain ⟨p, q, hA0, hV, rfl, hfz, hnd⟩ := hW
  have hA : DataW.TrodAll enc Try.prog W 0 (fun _ => true) true Try.f4.params.toList args.toList ds p := hA0
  rw [Try.params4] at hA hval
  obtain ⟨v0, vs0, d0, ds0, p0, q0, hargs, rfl, rfl, h0, r0⟩ := trodAll_cons hA
  obtain ⟨v1, vs1, d1, ds1, p1, q1, rfl, rfl, rfl, h1, r1⟩ := trodAll_cons r0
  obtain ⟨v2, vs2, d2, ds2, p2, q2, rfl, rfl, rfl, h2, r2⟩ := trodAll_cons r1
  obtain ⟨rfl, rfl, rfl⟩ := trodAll_nil r2
  obtain rfl : args = #[v0, v1, v2] := by cases args; simp_all
  obtain ⟨rfl, rfl⟩ := trodVars_none hV
  obtain ⟨a0, rfl, rfl, rfl, w0⟩ := open_int Try.underlying3 (hval 0 3 v0 rfl rfl) h0
  have k1 := h1
  have lt1 : ∀ x ∈ p1, x.block < W.heap.size := by obtain ⟨m, hm⟩ := k1; exact DataW.trod_lt m _ _ _ hm
  obtain ⟨b1, l1, c1, rfl⟩ := okWide_slice Try.underlying22 (hval 1 22 v1 rfl rfl)
  obtain ⟨fu1, hf1⟩ := h1
  obtain ⟨a1, len1, cap1, zs1, ce1, row1⟩ := open_rowG 4 cells32 ok32 (by omega) cells32_length Try.underlying22 (by kernel_rfl) elem32 hf1
  obtain ⟨rfl, rfl, rfl⟩ : a1 = b1 ∧ len1 = l1 ∧ cap1 = c1 := by simpa [Value.cells, eq_comm] using ce1
  obtain ⟨a2, rfl, rfl, rfl, w2⟩ := open_int Try.underlying28 (hval 2 28 v2 rfl rfl) h2
  clear hA0
  refine (walk a0 a1 len1 cap1 zs1 a2 W w0 row1 w2 hsh).mono fun e W' ⟨he, bel⟩ => ?_
  subst he
  exact ⟨_, rfl, _, _, _, [], _, [], hW', trodAll_mk1 (shut_bool Try.underlying4 _), (trodAll_cons_mk (shut_int Try.underlying3 w0) (trodAll_cons_mk (Below.trod laidOut (by kernel_rfl) (of_decide_eq_true (by kernel_rfl)) k1 bel lt1) (trodAll_cons_mk (shut_int Try.underlying28 w2) trodAll_mk0))), rfl, bel.frame _, fun h => by cases h⟩

theorem laid_met (os : Os) : laidMet Try.prog Rows.dirLooksRow.laid ((World.doorLaid Try.prog 24 os).forCall (fun _ _ => 0) ⟨#[], #[.int .i64 0, .slice none 0 0, .int .u32 0], []⟩).memory :=
  laidMet_of_run' 8 (by kernel_rfl) (by kernel_rfl)
theorem reads (os : Os) {H : Type} (enc : TypeId × Value → H) : ∃ places, DataW.whole enc Try.prog ((World.doorLaid Try.prog 24 os).forCall (fun _ _ => 0) ⟨#[], #[.int .i64 0, .slice none 0 0, .int .u32 0], []⟩).memory Try.f4.params.toList Rows.dirLooksSpec.vars false (#[.int .i64 0, .slice none 0 0, .int .u32 0] : Array Value).toList 8 = some ([.lit (.int .i64 0), .nil, .lit (.int .u32 0)], [], places) :=
  ⟨[], by kernel_rfl⟩

set_option maxRecDepth 100000 in
theorem lifted (os : Os) (started : os.Started) (H : Type) (enc : TypeId × Value → H) (F : Stop.Interp) :
    ReturnsInHanded {} Try.checked os 4 .any ((OpenSpec.ofChange Rows.dirLooksSpec).preRow enc Try.prog Try.f4 Rows.dirLooksRow.domain false Rows.dirLooksRow.laid) (((OpenSpec.ofChange Rows.dirLooksSpec).at F).post enc Try.prog Try.f4 false true false false) := by
  obtain ⟨places, hx⟩ := reads os enc
  refine returnsInHanded_of_row (C := Try.checked) (s := (OpenSpec.ofChange Rows.dirLooksSpec)) own started (by kernel_rfl) Try.func4
    (witness_row_at (enc := enc) (C := Try.checked) false (World.doorLaid Try.prog 24 os) #[.int .i64 0, .slice none 0 0, .int .u32 0] rfl (by kernel_rfl) (by kernel_rfl) (by kernel_rfl)
      (OpenSpec.preRow_of_cond 8 hx (by kernel_rfl) (fun k hk => by cases hk) (by kernel_rfl) (laid_met os))) ?_
  intro W base args ds gs before hval hW _ hcond _ hL hsh _
  exact contract H enc W base args ds gs before hval hW hsh

theorem said : Rows.DirLooksSaid :=
  OpenClaim.holds_of_cond 4 Try.f4 rfl rfl rfl rfl rfl rfl rfl ⟨rfl, rfl, rfl, rfl, rfl⟩ rfl rfl rfl rfl rfl (by kernel_rfl) Try.func4 (by kernel_rfl)
    (of_decide_eq_true (by kernel_rfl)) (by unfold Func.isWrapper; first | (rw [if_pos (by decide +kernel)]; kernel_rfl) | (rw [if_neg (by decide +kernel)]; exact ⟨rfl, rfl⟩))
    (fun os started H enc _ F => by rw [OpenClaim.pre_eq_preRow]; exact lifted os started H enc F)

end Go.Proofs.Ytlnmdlachfnmkaa.dirLooks

namespace Go.Proofs.Ytlnmdlachfnmkaa
theorem dirLooks_holds : Rows.DirLooksSaid := dirLooks.said
#print axioms dirLooks_holds
end Go.Proofs.Ytlnmdlachfnmkaa
