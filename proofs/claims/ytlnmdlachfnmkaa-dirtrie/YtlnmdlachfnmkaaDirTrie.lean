/- For every script and every address, the law DirTrie returns true: what is looked up is what the longest prefix says, in whatever order they came; no condition. -/
import Derived.Test.YtlnmdlachfnmkaaRows
import Derived.Test.YtlnmdlachfnmkaaLaw10T
import Derived.Test.YtlnmdlachfnmkaaFrame
import Derived.Test.YtlnmdlachfnmkaaRowG
import Derived.WalkKit
import Derived.ProofKit
import Derived.OpenShut
import Derived.ShutString
import Derived.ChangeOld
import Derived.Deep.DeepHandedRow
import Derived.Lib.LaidTab
import Derived.Lib.SmallJoins
import Derived.LaidMore
import Derived.Stop.LaidErr
import Derived.ChangeMaps5
namespace Go.Proofs.Ytlnmdlachfnmkaa.dirTrie
open Go.ChangeShapes Go.WideShapes Go.ChangeAt Go.RowKit Go.ChangeMaps
set_option linter.unusedVariables false
set_option maxRecDepth 100000

theorem own : ownKnob Try.prog.godebug = none := by kernel_rfl
theorem laidOut : laidOutB Try.prog = true := by kernel_rfl

abbrev Elem32 := Bool × Int × Int × Int
def cells32 (z : Elem32) : List Value := [.bool (z.1), .int .u32 (z.2.1), .int .i64 (z.2.2.1), .int .i64 (z.2.2.2)]
def ok32 (z : Elem32) : Prop := (Lit.int .u32 (z.2.1)).wf = true ∧ (Lit.int .i64 (z.2.2.1)).wf = true ∧ (Lit.int .i64 (z.2.2.2)).wf = true
theorem cells32_length (z : Elem32) : (cells32 z).length = 4 := rfl
theorem elem32 {H : Type} {enc : TypeId × Value → H} {w : World} {base : Nat} {spare : Nat → Bool} {held : Bool} (n : Nat) (cs : List Value) (y : DataW H × List MemPlace)
    (h : DataW.trod enc Try.prog w base spare held n 32 cs = some y) : ∃ z : Elem32, cs = cells32 z ∧ ok32 z := by
  have hl : cs.length = 4 := by
    obtain ⟨_, _, _, _, hl, _⟩ := DataW.trod_struct Try.underlying32 h
    exact hl.trans (by kernel_rfl)
  obtain ⟨u0, u1, u2, u3, rfl⟩ : ∃ u0 u1 u2 u3, cs = [u0, u1, u2, u3] := by
    match cs, hl with
    | [u0, u1, u2, u3], _ => exact ⟨u0, u1, u2, u3, rfl⟩
  obtain ⟨_, _, e1⟩ := field_at Try.underlying32 h 0 rfl 1 (by kernel_rfl)
  obtain ⟨az0, c2, _⟩ := DataW.trod_bool Try.underlying4 e1
  obtain rfl : u0 = .bool az0 := by simpa using c2
  obtain ⟨_, _, e3⟩ := field_at Try.underlying32 h 1 rfl 2 (by kernel_rfl)
  obtain ⟨_, _, e4⟩ := field_at Try.underlying30 e3 0 rfl 1 (by kernel_rfl)
  obtain ⟨az10, c5, _, wz10⟩ := DataW.trod_int Try.underlying28 e4
  obtain rfl : u1 = .int .u32 az10 := by simpa using c5
  obtain ⟨_, _, e6⟩ := field_at Try.underlying30 e3 1 rfl 1 (by kernel_rfl)
  obtain ⟨az11, c7, _, wz11⟩ := DataW.trod_int Try.underlying3 e6
  obtain rfl : u2 = .int .i64 az11 := by simpa using c7
  obtain ⟨_, _, e8⟩ := field_at Try.underlying32 h 2 rfl 1 (by kernel_rfl)
  obtain ⟨az2, c9, _, wz2⟩ := DataW.trod_int Try.underlying3 e8
  obtain rfl : u3 = .int .i64 az2 := by simpa using c9
  exact ⟨(az0, az10, az11, az2), rfl, ⟨wz10, wz11, wz2⟩⟩

open Go.Proofs.Ytlnmdlachfnmkaa.Tri Go.Proofs.Ytlnmdlachfnmkaa.Dr

theorem both_shape (o : Option (PX × Int)) : ∃ p0 p1 v ok, ansO o = .tuple #[.agg #[.int .u32 p0, .int .i64 p1], .int .i64 v, .bool ok] ∧ numO o = .tuple #[.int .i64 v, .bool ok] := by
  cases o with
  | none => exact ⟨0, 0, 0, false, rfl, rfl⟩
  | some x => exact ⟨_, _, _, _, rfl, rfl⟩

set_option maxHeartbeats 4000000 in
theorem walk (a0 : Option Addr) (len0 cap0 : Nat) (zs0 : List Elem32) (a1 : Int) (w : World) (row0 : IsRowG 4 cells32 ok32 w a0 len0 cap0 zs0) (w1 : (Lit.int .u32 a1).wf = true) (hsh : w.ShapedOpen Try.prog) :
    Calls Try.prog 8 #[.slice a0 len0 cap0, .int .u32 a1] w fun e w' => e = .returned (.bool true) ∧ Below w.heap.size w w' := by
  have hb1 := bounds_u32 w1
  have row : IsRowG 4 actC actOk w a0 len0 cap0 zs0 := row0
  have kn := fun w => known_any w
  have hm := row.le
  have hm2 := row.room
  unfold maxLen at hm2
  have HR : Hid (IsRowG 4 actC actOk w a0 len0 cap0 zs0) := row
  have hnot : ∀ (x : Bool) (w : World), (Op.unary .not (.bool x)).run Try.prog w = .ok (.bool (!x)) w := fun _ _ => rfl
  clear row row0 w1
  have tok1 : Hid True := trivial
  go_enter Try.func8, Try.ntmps8
  go_wp2_with (first
    | (go_at_call 10; clear tok1; refine (new_at 200 _).mono ?_; rintro e w1 ⟨rfl, hx1, d1⟩)
    | (go_at_call 10; refine (new_at 200 _).mono ?_; rintro e w2 ⟨rfl, hx2, d2⟩))
  have hx3 : Ext w2 (w2.alloc (.cells #[.slice none 0 0, .slice none 0 0] 38)) := (Ext.refl w2).alloc _
  have hn3 := heap_new w2 (.cells #[.slice none 0 0, .slice none 0 0] 38)
  have l1 := d1.lt w.heap.size (by simp)
  have l2 := d2.lt w1.heap.size (by simp)
  have hT0 : Three w (w2.alloc (.cells #[.slice none 0 0, .slice none 0 0] 38)) w.heap.size w1.heap.size w2.heap.size [] [] [] := by
    refine ⟨_, _, [w2.heap.size], d1.ext (hx2.trans hx3), d2.ext hx3, ⟨.slice none 0 0, .slice none 0 0, rfl, hn3, OwnP.nil _ _, World.ownsRow_nil _ _ _ _, .inl ⟨rfl, rfl⟩⟩, ?_, ?_, ?_, by simp, by simp; exact hx1.size, by simp; exact Nat.le_trans hx1.size hx2.size, (hx1.trans hx2).trans hx3⟩
    · simp; omega
    · simp; have := hx2.size; omega
    · simp; omega
  generalize w1.heap.size = eb at *
  generalize w2.heap.size = xb at *
  have hx0 : Ext w (w2.alloc (.cells #[.slice none 0 0, .slice none 0 0] 38)) := (hx1.trans hx2).trans hx3
  clear hx1 hx2 hx3 hn3 d1 d2 l1 l2
  go_loopw [8] (fun i wr => ∃ (k : Nat) (L : Row), k ≤ 60 ∧ k ≤ len0 ∧ i = .int .i64 k ∧ Ext w wr ∧ Hid (Three w wr w.heap.size eb xb L [] L ∧ L.length ≤ k ∧ ∀ x ∈ L, 0 ≤ x.2)) (fun i _ => 60 - (intOf i).toNat)
  case atStart => exact ⟨0, [], Nat.zero_le _, Nat.zero_le _, rfl, hx0, ⟨hT0, Nat.le_refl _, by intro x hx; cases hx⟩⟩
  case round =>
    clear hT0 hx0
    obtain ⟨k, L, hk, hkl, rfl, hx, HK⟩ := hrel
    by_cases hlt : k < len0
    · by_cases h60 : k < 60
      · obtain ⟨b, off, d, c, m, v, rfl, hz, c0, c1, hbl, g0, g1, g2, g3⟩ := act_cells HR.out hlt
        have hki : (k : Int) < (len0 : Int) := by omega
        have h60i : (k : Int) < 60 := by omega
        have j0 := act_later hx hbl g0
        have j3 := act_later hx hbl g3
        by_cases hv : v < 0
        · clear g0 g1 g2 g3
          go_wp2_with fail
          exact ⟨⟨k + 1, L, by omega, by omega, by simp, hx, ⟨HK.out.1, by have := HK.out.2.1; omega, HK.out.2.2⟩⟩, by simp only [intOf]; omega⟩
        · have hv0 : 0 ≤ v := by omega
          cases d with
          | true =>
            clear g0 g1 g2 g3
            go_wp2_with fail
            exact ⟨⟨k + 1, L, by omega, by omega, by simp, hx, ⟨HK.out.1, by have := HK.out.2.1; omega, HK.out.2.2⟩⟩, by simp only [intOf]; omega⟩
          | false =>
            obtain ⟨hO, hL, hpos⟩ := HK.out
            have hx2 := hx.drew
            have ks := three_d (hO.ext ((Ext.refl wr).drew)) (by omega) c m v c0 c1
            rw [setR_200 (by omega) (c, m) hv0] at ks
            simp only at ks
            have hpos2 : ∀ x ∈ (if isV c m = true then Tri.setL L (c, m) v else L), 0 ≤ x.2 := fun x hx' => by
              split at hx'
              · obtain ⟨F, dd⟩ := hO.dirs.1
                rcases (set_mem dd.srt (c, m) v x).1 hx' with rfl | ⟨h1, -⟩
                · exact hv0
                · exact hpos x h1
              · exact hpos x hx'
            have hlen2 : (if isV c m = true then Tri.setL L (c, m) v else L).length ≤ k + 1 := by
              split
              · have := setL_len L (c, m) v; omega
              · omega
            have kx := fun W (L1 : Row) (h : Three w W w.heap.size eb xb L1 [] L) => three_x h (by omega) c m v c0 c1
            have r1 := fun w' h => act_laterN (W := wr.drew) (w' := w') hx2 h hbl g1
            have r2 := fun w' h => act_laterN (W := wr.drew) (w' := w') hx2 h hbl g2
            have r3 := fun w' h => act_laterN (W := wr.drew) (w' := w') hx2 h hbl g3
            have HG : Hid (w.cell? ⟨b, off + k * 4 + 1, none⟩ = some (.int .u32 c) ∧ w.cell? ⟨b, off + k * 4 + 2, none⟩ = some (.int .i64 m) ∧ w.cell? ⟨b, off + k * 4 + 3, none⟩ = some (.int .i64 v)) := ⟨g1, g2, g3⟩
            have e1 : (if isV c m = true then ((0 : Int), Tri.setL L (c, m) v) else (1, L)).2 = (if isV c m = true then Tri.setL L (c, m) v else L) := by split <;> rfl
            rw [e1] at ks
            generalize (if isV c m = true then ((0 : Int), Tri.setL L (c, m) v) else (1, L)).1 = er at *
            generalize (if isV c m = true then Tri.setL L (c, m) v else L) = L2 at *
            generalize (if isV c m = true then (0 : Int) else 1) = er2 at *
            have HP2 : Hid (L2.length ≤ k + 1 ∧ ∀ x ∈ L2, 0 ≤ x.2) := ⟨hlen2, hpos2⟩
            clear g0 g1 g2 g3 hO hL hpos hpos2 hlen2 HK e1
            go_wp2_with fail
            refine wp_region_eagerN w.heap.size [(0, false), (1, false), (2, false), (3, false), (4, false), (5, false), (6, false), (7, false), (8, false), (9, false), (10, false), (11, true)] (by kernel_rfl) (by kernel_rfl) rfl (by kernel_rfl) (fun _ _ _ _ _ h => h) ?_
            generalize wr.drew = W at *
            iterate 11 (refine wpE_read (v := ?_) rfl (by rfl) ?_ ?_; rotate_left; (focus (intro w' hx; go_simp; first | done | with_reducible rfl)); simp only [Act.put, List.setIfInBounds_toArray, List.set_cons_zero, List.set_cons_succ])
            refine wpE_call rfl (by rfl) (fun K hK => ?_); go_simp; first | (go_at_call 20; refine ks.mono ?_; rintro e w4 ⟨rfl, o4, x4⟩; refine hK _ _ x4 ?_; clear hK K)
            clear r1 r2 r3 ks
            refine wpE_done ?_
            go_wp2_with fail
            have hx4 := o4.toExt.drew
            have r1 := fun w' h => act_laterN (W := w4.drew) (w' := w') hx4 h hbl HG.out.1
            have r2 := fun w' h => act_laterN (W := w4.drew) (w' := w') hx4 h hbl HG.out.2.1
            have r3 := fun w' h => act_laterN (W := w4.drew) (w' := w') hx4 h hbl HG.out.2.2
            have o5 := o4.ext ((Ext.refl w4).drew)
            have kx5 := kx _ _ o5
            clear kx o4 x4
            refine wp_region_eagerN w.heap.size [(0, false), (1, false), (2, false), (3, false), (4, false), (5, false), (6, false), (7, false), (8, false), (9, false), (10, true)] (by kernel_rfl) (by kernel_rfl) rfl (by kernel_rfl) (fun _ _ _ _ _ h => h) ?_
            generalize w4.drew = W5 at *
            iterate 10 (refine wpE_read (v := ?_) rfl (by rfl) ?_ ?_; rotate_left; (focus (intro w' hx; go_simp; first | done | with_reducible rfl)); simp only [Act.put, List.setIfInBounds_toArray, List.set_cons_zero, List.set_cons_succ])
            refine wpE_call rfl (by rfl) (fun K hK => ?_); go_simp; first | (go_at_call 22; refine kx5.mono ?_; rintro e w6 ⟨rfl, o6, x6⟩; refine hK _ _ x6 ?_; clear hK K)
            clear r1 r2 r3 kx5
            refine wpE_done ?_
            go_wp2_with fail
            exact ⟨⟨k + 1, L2, by omega, by omega, by simp, o6.toExt, ⟨o6, HP2.out⟩⟩, by simp only [intOf]; omega⟩
      · obtain rfl : k = 60 := by omega
        have hki : ((60 : Nat) : Int) < (len0 : Int) := by omega
        have hL60 := HK.out.2.1
        have hT := HK.out.1
        have hpos := HK.out.2.2
        obtain ⟨ap0, cp0, u0, x0⟩ : ∃ ap cp u, wr.heap[xb]? = some (.cells #[.slice ap L.length cp, u] 38 (0, 0)) := by
          obtain ⟨F, hF⟩ := hT.dirs.2.2
          obtain ⟨ap, cp, ai, ci, hX, -⟩ := hF.open
          exact ⟨_, _, _, hX⟩
        have x1 : wr.cell? ⟨xb, 0, none⟩ = some (.slice ap0 L.length cp0) := by rw [heap_cell x0]; rfl
        have HT : Hid (Three w wr w.heap.size eb xb L [] L) := hT
        have HPOS : Hid (∀ x ∈ L, 0 ≤ x.2) := hpos
        clear hT hpos HK x0
        go_wp2_with fail
        clear x1
        go_loopw [9] (fun i wr => ∃ j : Nat, j ≤ L.length ∧ i = .int .i64 ((j : Int) - 1) ∧ Hid (Three w wr w.heap.size eb xb L (L.drop j) L)) (fun i _ => (intOf i + 1).toNat)
        case atStart => exact ⟨L.length, Nat.le_refl _, rfl, by rw [List.drop_length]; exact HT.out⟩
        case round =>
          clear hx HT
          obtain ⟨j, hj, rfl, HK⟩ := hrel
          have hT := HK.out
          have hx := hT.toExt
          by_cases h0 : j = 0
          · subst h0
            rw [List.drop_zero] at hT
            obtain ⟨⟨Fd, dd⟩, ⟨Fe, de⟩, Fx, dx⟩ := hT.dirs
            have kL := fun W (h : Ext wr W) => refLongest_any xb L Fx a1 W (dx.ext h) dd.srt dd.valid (by omega) hb1.1 hb1.2
            have kA := fun W (h : Ext wr W) => look_at (dd.ext h) a1 hb1.1 hb1.2
            have kB := fun W (h : Ext wr W) => look_at (de.ext h) a1 hb1.1 hb1.2
            have kC := fun W (h : Ext wr W) => blocks_at (dd.ext h)
            have kD := fun W (h : Ext wr W) => blocks_at (de.ext h)
            obtain ⟨p0, p1, v, ok, ho1, ho2⟩ := both_shape (lastF none (covL L (a1, 32)))
            rw [ho1] at kL
            rw [ho2] at kA kB
            generalize ownN (keysL L) = ow at *
            have t1 : Hid True := trivial
            have t2 : Hid True := trivial
            have hrr := Ext.refl wr
            clear hT HK ho1 ho2 dd de dx HPOS
            go_wp2_with (first
              | (go_at_call 23; refine (kL _ hrr).mono ?_; rintro e w3 ⟨rfl, hx3⟩; replace hrr := (hrr.trans hx3).alloc (.cells #[.int .u32 p0, .int .i64 p1] 30))
              | (go_at_call 18; clear t1; refine (kA _ hrr).mono ?_; rintro e w4 ⟨rfl, rfl⟩)
              | (go_at_call 18; refine (kB _ hrr).mono ?_; rintro e w5 ⟨rfl, rfl⟩)
              | (go_at_call 13; clear t2; refine (kC _ hrr).mono ?_; rintro e w6 ⟨rfl, rfl⟩)
              | (go_at_call 13; refine (kD _ hrr).mono ?_; rintro e w7 ⟨rfl, rfl⟩)
              | (go_at_call 16; refine (kn _).mono ?_; rintro e w10 ⟨rfl, hx10⟩))
            go_ret
            exact ⟨by simp, (hx.trans hrr).trans hx10⟩
          · obtain ⟨i, rfl⟩ : ∃ i, j = i + 1 := ⟨j - 1, by omega⟩
            have hil : i < L.length := by omega
            obtain ⟨⟨⟨pa, pn⟩, u⟩, hxk⟩ : ∃ x, L[i]? = some x := ⟨_, List.getElem?_eq_getElem hil⟩
            have hmem : ((pa, pn), u) ∈ L := List.mem_of_getElem? hxk
            obtain ⟨Fd, Fe, Fx, dd, de, dx, s1, s2, s3, n1, n2, n3, -⟩ := hT
            have hvp := dd.valid _ hmem
            have hbd := hvp.bd
            have hu0 := HPOS.out _ hmem
            simp only at hbd hu0
            obtain ⟨gp, cp, gi, ci, hrd⟩ := ref_reads (dx.ext ((Ext.refl wr).drew)) hxk
            have kS := set_at (de.ext ((Ext.refl wr).drew)) (by rw [List.length_drop]; omega) pa pn u hbd.1 hbd.2.1
            have hset : setR 200 (L.drop (i + 1)) (pa, pn) u = (0, L.drop i) := by
              rw [setR_200 (by rw [List.length_drop]; omega) (pa, pn) hu0, if_pos hvp.is]
              have e : L.drop i = ((pa, pn), u) :: L.drop (i + 1) := by rw [List.drop_eq_getElem_cons hil, (List.getElem?_eq_some_iff.1 hxk).2]
              rw [e]
              congr 1
              refine set_ahead (x := ((pa, pn), u)) ?_
              rw [← e]
              exact List.Pairwise.sublist (List.drop_sublist _ _) dd.srt
            rw [hset] at kS
            have cast1 : (((i + 1 : Nat) : Int) - 1) = (i : Int) := by omega
            rw [cast1]
            have hi0 : (0 : Int) ≤ (i : Int) := by omega
            have hki : (i : Int) < (L.length : Int) := by omega
            have hxd : Ext w wr.drew := hx.drew
            have r0 : ∀ w', ExtS Fe wr.drew w' → w'.cell? ⟨xb, 0, none⟩ = some (.slice (some ⟨gp, 0, none⟩) L.length cp) := fun w' h => (hrd w' Fe h (apart_symm s3)).1
            have r1 : ∀ w', ExtS Fe wr.drew w' → w'.cell? ⟨xb, 1, none⟩ = some (.slice (some ⟨gi, 0, none⟩) L.length ci) := fun w' h => (hrd w' Fe h (apart_symm s3)).2.1
            have r2 : ∀ w', ExtS Fe wr.drew w' → w'.cell? ⟨gp, i * 2, none⟩ = some (.int .u32 pa) := fun w' h => (hrd w' Fe h (apart_symm s3)).2.2.1
            have r3 : ∀ w', ExtS Fe wr.drew w' → w'.cell? ⟨gp, i * 2 + 1, none⟩ = some (.int .i64 pn) := fun w' h => (hrd w' Fe h (apart_symm s3)).2.2.2.1
            have r4 : ∀ w', ExtS Fe wr.drew w' → w'.cell? ⟨gi, i, none⟩ = some (.int .i64 u) := fun w' h => (hrd w' Fe h (apart_symm s3)).2.2.2.2
            have HD : Hid (DirAt wr.drew w.heap.size 200 L Fd ∧ RefAt wr.drew xb L Fx ∧ (∀ x ∈ Fe, x < wr.drew.heap.size)) := ⟨dd.ext ((Ext.refl wr).drew), dx.ext ((Ext.refl wr).drew), de.lt⟩
            clear hrd hset cast1 hmem hxk dd de dx HK
            go_wp2_with fail
            refine wp_region_eagerS Fe [(0, false), (1, false), (2, false), (3, false), (4, false), (5, false), (6, false), (7, false), (8, false), (9, false), (10, false), (11, true)] (by kernel_rfl) (by kernel_rfl) rfl (by kernel_rfl) (fun _ _ _ _ _ h => h) ?_
            generalize wr.drew = W at *
            iterate 11 (refine wpE_read (v := ?_) rfl (by rfl) ?_ ?_; rotate_left; (focus (intro w' hx; go_simp; first | done | with_reducible rfl)); simp only [Act.put, List.setIfInBounds_toArray, List.set_cons_zero, List.set_cons_succ])
            refine wpE_call rfl (by rfl) (fun K hK => ?_); go_simp; first | (go_at_call 20; refine kS.mono ?_; rintro e w4 ⟨rfl, F', d4, x4, hn4⟩; refine hK _ _ x4 ?_; clear hK K)
            clear r0 r1 r2 r3 r4 kS
            refine wpE_done ?_
            have hT4 : Three w w4 w.heap.size eb xb L (L.drop i) L := ⟨Fd, F', Fx, HD.out.1.later x4 s1, d4, HD.out.2.1.later x4 (apart_symm s3), apart_symm (apart_step (apart_symm s1) hn4 HD.out.1.lt), s2, apart_step s3 hn4 HD.out.2.1.lt, n1, new_ge hxd n2 hn4, n3, ext_new hxd n2 x4⟩
            have HT4 : Hid (Three w w4 w.heap.size eb xb L (L.drop i) L) := hT4
            clear hT4 d4 x4
            go_wp2_with fail
            exact ⟨⟨i, by omega, by simp, HT4⟩, by simp only [intOf]; omega⟩
    · obtain rfl : k = len0 := by omega
      have hL60 := HK.out.2.1
      have hT := HK.out.1
      have hpos := HK.out.2.2
      obtain ⟨ap0, cp0, u0, x0⟩ : ∃ ap cp u, wr.heap[xb]? = some (.cells #[.slice ap L.length cp, u] 38 (0, 0)) := by
        obtain ⟨F, hF⟩ := hT.dirs.2.2
        obtain ⟨ap, cp, ai, ci, hX, -⟩ := hF.open
        exact ⟨_, _, _, hX⟩
      have x1 : wr.cell? ⟨xb, 0, none⟩ = some (.slice ap0 L.length cp0) := by rw [heap_cell x0]; rfl
      have HT : Hid (Three w wr w.heap.size eb xb L [] L) := hT
      have HPOS : Hid (∀ x ∈ L, 0 ≤ x.2) := hpos
      clear hT hpos HK x0
      go_wp2_with fail
      clear x1
      go_loopw [9] (fun i wr => ∃ j : Nat, j ≤ L.length ∧ i = .int .i64 ((j : Int) - 1) ∧ Hid (Three w wr w.heap.size eb xb L (L.drop j) L)) (fun i _ => (intOf i + 1).toNat)
      case atStart => exact ⟨L.length, Nat.le_refl _, rfl, by rw [List.drop_length]; exact HT.out⟩
      case round =>
        clear hx HT
        obtain ⟨j, hj, rfl, HK⟩ := hrel
        have hT := HK.out
        have hx := hT.toExt
        by_cases h0 : j = 0
        · subst h0
          rw [List.drop_zero] at hT
          obtain ⟨⟨Fd, dd⟩, ⟨Fe, de⟩, Fx, dx⟩ := hT.dirs
          have kL := fun W (h : Ext wr W) => refLongest_any xb L Fx a1 W (dx.ext h) dd.srt dd.valid (by omega) hb1.1 hb1.2
          have kA := fun W (h : Ext wr W) => look_at (dd.ext h) a1 hb1.1 hb1.2
          have kB := fun W (h : Ext wr W) => look_at (de.ext h) a1 hb1.1 hb1.2
          have kC := fun W (h : Ext wr W) => blocks_at (dd.ext h)
          have kD := fun W (h : Ext wr W) => blocks_at (de.ext h)
          obtain ⟨p0, p1, v, ok, ho1, ho2⟩ := both_shape (lastF none (covL L (a1, 32)))
          rw [ho1] at kL
          rw [ho2] at kA kB
          generalize ownN (keysL L) = ow at *
          have t1 : Hid True := trivial
          have t2 : Hid True := trivial
          have hrr := Ext.refl wr
          clear hT HK ho1 ho2 dd de dx HPOS
          go_wp2_with (first
            | (go_at_call 23; refine (kL _ hrr).mono ?_; rintro e w3 ⟨rfl, hx3⟩; replace hrr := (hrr.trans hx3).alloc (.cells #[.int .u32 p0, .int .i64 p1] 30))
            | (go_at_call 18; clear t1; refine (kA _ hrr).mono ?_; rintro e w4 ⟨rfl, rfl⟩)
            | (go_at_call 18; refine (kB _ hrr).mono ?_; rintro e w5 ⟨rfl, rfl⟩)
            | (go_at_call 13; clear t2; refine (kC _ hrr).mono ?_; rintro e w6 ⟨rfl, rfl⟩)
            | (go_at_call 13; refine (kD _ hrr).mono ?_; rintro e w7 ⟨rfl, rfl⟩)
            | (go_at_call 16; refine (kn _).mono ?_; rintro e w10 ⟨rfl, hx10⟩))
          go_ret
          exact ⟨by simp, (hx.trans hrr).trans hx10⟩
        · obtain ⟨i, rfl⟩ : ∃ i, j = i + 1 := ⟨j - 1, by omega⟩
          have hil : i < L.length := by omega
          obtain ⟨⟨⟨pa, pn⟩, u⟩, hxk⟩ : ∃ x, L[i]? = some x := ⟨_, List.getElem?_eq_getElem hil⟩
          have hmem : ((pa, pn), u) ∈ L := List.mem_of_getElem? hxk
          obtain ⟨Fd, Fe, Fx, dd, de, dx, s1, s2, s3, n1, n2, n3, -⟩ := hT
          have hvp := dd.valid _ hmem
          have hbd := hvp.bd
          have hu0 := HPOS.out _ hmem
          simp only at hbd hu0
          obtain ⟨gp, cp, gi, ci, hrd⟩ := ref_reads (dx.ext ((Ext.refl wr).drew)) hxk
          have kS := set_at (de.ext ((Ext.refl wr).drew)) (by rw [List.length_drop]; omega) pa pn u hbd.1 hbd.2.1
          have hset : setR 200 (L.drop (i + 1)) (pa, pn) u = (0, L.drop i) := by
            rw [setR_200 (by rw [List.length_drop]; omega) (pa, pn) hu0, if_pos hvp.is]
            have e : L.drop i = ((pa, pn), u) :: L.drop (i + 1) := by rw [List.drop_eq_getElem_cons hil, (List.getElem?_eq_some_iff.1 hxk).2]
            rw [e]
            congr 1
            refine set_ahead (x := ((pa, pn), u)) ?_
            rw [← e]
            exact List.Pairwise.sublist (List.drop_sublist _ _) dd.srt
          rw [hset] at kS
          have cast1 : (((i + 1 : Nat) : Int) - 1) = (i : Int) := by omega
          rw [cast1]
          have hi0 : (0 : Int) ≤ (i : Int) := by omega
          have hki : (i : Int) < (L.length : Int) := by omega
          have hxd : Ext w wr.drew := hx.drew
          have r0 : ∀ w', ExtS Fe wr.drew w' → w'.cell? ⟨xb, 0, none⟩ = some (.slice (some ⟨gp, 0, none⟩) L.length cp) := fun w' h => (hrd w' Fe h (apart_symm s3)).1
          have r1 : ∀ w', ExtS Fe wr.drew w' → w'.cell? ⟨xb, 1, none⟩ = some (.slice (some ⟨gi, 0, none⟩) L.length ci) := fun w' h => (hrd w' Fe h (apart_symm s3)).2.1
          have r2 : ∀ w', ExtS Fe wr.drew w' → w'.cell? ⟨gp, i * 2, none⟩ = some (.int .u32 pa) := fun w' h => (hrd w' Fe h (apart_symm s3)).2.2.1
          have r3 : ∀ w', ExtS Fe wr.drew w' → w'.cell? ⟨gp, i * 2 + 1, none⟩ = some (.int .i64 pn) := fun w' h => (hrd w' Fe h (apart_symm s3)).2.2.2.1
          have r4 : ∀ w', ExtS Fe wr.drew w' → w'.cell? ⟨gi, i, none⟩ = some (.int .i64 u) := fun w' h => (hrd w' Fe h (apart_symm s3)).2.2.2.2
          have HD : Hid (DirAt wr.drew w.heap.size 200 L Fd ∧ RefAt wr.drew xb L Fx ∧ (∀ x ∈ Fe, x < wr.drew.heap.size)) := ⟨dd.ext ((Ext.refl wr).drew), dx.ext ((Ext.refl wr).drew), de.lt⟩
          clear hrd hset cast1 hmem hxk dd de dx HK
          go_wp2_with fail
          refine wp_region_eagerS Fe [(0, false), (1, false), (2, false), (3, false), (4, false), (5, false), (6, false), (7, false), (8, false), (9, false), (10, false), (11, true)] (by kernel_rfl) (by kernel_rfl) rfl (by kernel_rfl) (fun _ _ _ _ _ h => h) ?_
          generalize wr.drew = W at *
          iterate 11 (refine wpE_read (v := ?_) rfl (by rfl) ?_ ?_; rotate_left; (focus (intro w' hx; go_simp; first | done | with_reducible rfl)); simp only [Act.put, List.setIfInBounds_toArray, List.set_cons_zero, List.set_cons_succ])
          refine wpE_call rfl (by rfl) (fun K hK => ?_); go_simp; first | (go_at_call 20; refine kS.mono ?_; rintro e w4 ⟨rfl, F', d4, x4, hn4⟩; refine hK _ _ x4 ?_; clear hK K)
          clear r0 r1 r2 r3 r4 kS
          refine wpE_done ?_
          have hT4 : Three w w4 w.heap.size eb xb L (L.drop i) L := ⟨Fd, F', Fx, HD.out.1.later x4 s1, d4, HD.out.2.1.later x4 (apart_symm s3), apart_symm (apart_step (apart_symm s1) hn4 HD.out.1.lt), s2, apart_step s3 hn4 HD.out.2.1.lt, n1, new_ge hxd n2 hn4, n3, ext_new hxd n2 x4⟩
          have HT4 : Hid (Three w w4 w.heap.size eb xb L (L.drop i) L) := hT4
          clear hT4 d4 x4
          go_wp2_with fail
          exact ⟨⟨i, by omega, by simp, HT4⟩, by simp only [intOf]; omega⟩

theorem contract (H : Type) (enc : TypeId × Value → H) (W : World) (base : Nat) (args : Array Value) (ds gs : List (DataW H)) (before : List MemPlace)
    (hval : ∀ (j : Nat) t v, Try.f8.params[j]? = some t → args[j]? = some v → Value.okWide Try.prog W .any base t v)
    (hW : DataW.Whole enc Try.prog Try.f8.params.toList Rows.dirTrieSpec.vars false W args.toList ds gs before) (hsh : W.ShapedOpen Try.prog) :
    Calls Try.prog 8 args W fun e W' => ∃ v, e = .returned v ∧ Rows.dirTrieSpec.post enc Try.prog Try.f8 false true false false W args v W' := by
  have hW' := hW
  obtain ⟨p, q, hA0, hV, rfl, hfz, hnd⟩ := hW
  have hA : DataW.TrodAll enc Try.prog W 0 (fun _ => true) true Try.f8.params.toList args.toList ds p := hA0
  rw [Try.params8] at hA hval
  obtain ⟨v0, vs0, d0, ds0, p0, q0, hargs, rfl, rfl, h0, r0⟩ := trodAll_cons hA
  obtain ⟨v1, vs1, d1, ds1, p1, q1, rfl, rfl, rfl, h1, r1⟩ := trodAll_cons r0
  obtain ⟨rfl, rfl, rfl⟩ := trodAll_nil r1
  obtain rfl : args = #[v0, v1] := by cases args; simp_all
  obtain ⟨rfl, rfl⟩ := trodVars_none hV
  have k0 := h0
  have lt0 : ∀ x ∈ p0, x.block < W.heap.size := by obtain ⟨m, hm⟩ := k0; exact DataW.trod_lt m _ _ _ hm
  obtain ⟨b0, l0, c0, rfl⟩ := okWide_slice Try.underlying22 (hval 0 22 v0 rfl rfl)
  obtain ⟨fu0, hf0⟩ := h0
  obtain ⟨a0, len0, cap0, zs0, ce0, row0⟩ := open_rowG 4 cells32 ok32 (by omega) cells32_length Try.underlying22 (by kernel_rfl) elem32 hf0
  obtain ⟨rfl, rfl, rfl⟩ : a0 = b0 ∧ len0 = l0 ∧ cap0 = c0 := by simpa [Value.cells, eq_comm] using ce0
  obtain ⟨a1, rfl, rfl, rfl, w1⟩ := open_int Try.underlying28 (hval 1 28 v1 rfl rfl) h1
  clear hA0
  refine (walk a0 len0 cap0 zs0 a1 W row0 w1 hsh).mono fun e W' ⟨he, bel⟩ => ?_
  subst he
  exact ⟨_, rfl, _, _, _, [], _, [], hW', trodAll_mk1 (shut_bool Try.underlying4 _), (trodAll_cons_mk (Below.trod laidOut (by kernel_rfl) (of_decide_eq_true (by kernel_rfl)) k0 bel lt0) (trodAll_cons_mk (shut_int Try.underlying28 w1) trodAll_mk0)), rfl, bel.frame _, fun h => by cases h⟩

theorem laid_met (os : Os) : laidMet Try.prog Rows.dirTrieRow.laid ((World.doorLaid Try.prog 24 os).forCall (fun _ _ => 0) ⟨#[], #[.slice none 0 0, .int .u32 0], []⟩).memory :=
  laidMet_of_run' 8 (by kernel_rfl) (by kernel_rfl)
theorem reads (os : Os) {H : Type} (enc : TypeId × Value → H) : ∃ places, DataW.whole enc Try.prog ((World.doorLaid Try.prog 24 os).forCall (fun _ _ => 0) ⟨#[], #[.slice none 0 0, .int .u32 0], []⟩).memory Try.f8.params.toList Rows.dirTrieSpec.vars false (#[.slice none 0 0, .int .u32 0] : Array Value).toList 8 = some ([.nil, .lit (.int .u32 0)], [], places) :=
  ⟨[], by kernel_rfl⟩

set_option maxRecDepth 100000 in
theorem lifted (os : Os) (started : os.Started) (H : Type) (enc : TypeId × Value → H) (F : Stop.Interp) :
    ReturnsInHanded {} Try.checked os 8 .any ((OpenSpec.ofChange Rows.dirTrieSpec).preRow enc Try.prog Try.f8 Rows.dirTrieRow.domain false Rows.dirTrieRow.laid) (((OpenSpec.ofChange Rows.dirTrieSpec).at F).post enc Try.prog Try.f8 false true false false) := by
  obtain ⟨places, hx⟩ := reads os enc
  refine returnsInHanded_of_row (C := Try.checked) (s := (OpenSpec.ofChange Rows.dirTrieSpec)) own started (by kernel_rfl) Try.func8
    (witness_row_at (enc := enc) (C := Try.checked) false (World.doorLaid Try.prog 24 os) #[.slice none 0 0, .int .u32 0] rfl (by kernel_rfl) (by kernel_rfl) (by kernel_rfl)
      (OpenSpec.preRow_of_cond 8 hx (by kernel_rfl) (fun k hk => by cases hk) (by kernel_rfl) (laid_met os))) ?_
  intro W base args ds gs before hval hW _ hcond _ hL hsh _
  exact contract H enc W base args ds gs before hval hW hsh

theorem said : Rows.DirTrieSaid :=
  OpenClaim.holds_of_cond 8 Try.f8 rfl rfl rfl rfl rfl rfl rfl ⟨rfl, rfl, rfl, rfl, rfl⟩ rfl rfl rfl rfl rfl (by kernel_rfl) Try.func8 (by kernel_rfl)
    (of_decide_eq_true (by kernel_rfl)) (by unfold Func.isWrapper; first | (rw [if_pos (by decide +kernel)]; kernel_rfl) | (rw [if_neg (by decide +kernel)]; exact ⟨rfl, rfl⟩))
    (fun os started H enc _ F => by rw [OpenClaim.pre_eq_preRow]; exact lifted os started H enc F)

end Go.Proofs.Ytlnmdlachfnmkaa.dirTrie

namespace Go.Proofs.Ytlnmdlachfnmkaa
theorem dirTrie_holds : Rows.DirTrieSaid := dirTrie.said
#print axioms dirTrie_holds
end Go.Proofs.Ytlnmdlachfnmkaa
