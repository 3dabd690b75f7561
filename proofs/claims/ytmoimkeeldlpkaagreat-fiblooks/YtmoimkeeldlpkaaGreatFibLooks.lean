/- For every number of interfaces, every script, every table and every address, the law FibLooks returns true: behind any script both engines tell of each address the best way of the longest prefix, as the document says; no condition. -/
import Derived.Test.YtmoimkeeldlpkaaGreatRows
import Derived.Test.YtmoimkeeldlpkaaGreatJ1
import Derived.Test.YtmoimkeeldlpkaaGreatJ2
import Derived.Test.YtmoimkeeldlpkaaGreatJ3
import Derived.Test.YtmoimkeeldlpkaaGreatJ4
import Derived.Test.YtmoimkeeldlpkaaGreatJ5
import Derived.Test.YtmoimkeeldlpkaaGreatJ6
import Derived.Test.YtmoimkeeldlpkaaGreatJ7
import Derived.Test.YtmoimkeeldlpkaaGreatJ8
import Derived.Test.YtmoimkeeldlpkaaGreatJ9
import Derived.Test.YtmoimkeeldlpkaaGreatJ10
import Derived.Test.YtmoimkeeldlpkaaGreatJ11
import Derived.Test.YtmoimkeeldlpkaaGreatJ12
import Derived.Test.YtmoimkeeldlpkaaGreatJ13
import Derived.Test.YtmoimkeeldlpkaaGreatJ14
import Derived.Test.YtmoimkeeldlpkaaGreatJ15
import Derived.Test.YtmoimkeeldlpkaaGreatJ16
import Derived.Test.YtmoimkeeldlpkaaGreatJ17
import Derived.Test.YtmoimkeeldlpkaaGreatJ18
import Derived.Test.YtmoimkeeldlpkaaGreatJ19
import Derived.Test.YtmoimkeeldlpkaaGreatJ20
import Derived.Test.YtmoimkeeldlpkaaGreatJ21
import Derived.Test.YtmoimkeeldlpkaaGreatJ22
import Derived.Test.YtmoimkeeldlpkaaGreatJ23
import Derived.Test.YtmoimkeeldlpkaaGreatJ24
import Derived.Test.YtmoimkeeldlpkaaGreatJ25
import Derived.Test.YtmoimkeeldlpkaaGreatJ26
import Derived.WalkKit
import Derived.ProofKit
import Derived.OpenShut
import Derived.ShutString
import Derived.ChangeOld
import Derived.Deep.DeepHandedRow
import Derived.Lib.LaidTab
import Derived.Lib.SmallJoins
import Derived.LaidMore
import Derived.Stop.LaidErr
import Derived.ChangeMaps5
namespace Go.Proofs.YtmoimkeeldlpkaaGreat.fibLooks
open Go.ChangeShapes Go.WideShapes Go.ChangeAt Go.RowKit Go.ChangeMaps
set_option linter.unusedVariables false
set_option maxRecDepth 100000

theorem own : ownKnob Tryz.prog.godebug = none := by kernel_rfl
theorem laidOut : laidOutB Tryz.prog = true := by kernel_rfl

abbrev Elem35 := Int × Int × Int × Int × Int × Int × Int × Int × Bool
def cells35 (z : Elem35) : List Value := [.int .i64 (z.1), .int .i64 (z.2.1), .int .u32 (z.2.2.1), .int .i64 (z.2.2.2.1), .int .i64 (z.2.2.2.2.1), .int .u32 (z.2.2.2.2.2.1), .int .i64 (z.2.2.2.2.2.2.1), .int .i64 (z.2.2.2.2.2.2.2.1), .bool (z.2.2.2.2.2.2.2.2)]
def ok35 (z : Elem35) : Prop := (Lit.int .i64 (z.1)).wf = true ∧ (Lit.int .i64 (z.2.1)).wf = true ∧ (Lit.int .u32 (z.2.2.1)).wf = true ∧ (Lit.int .i64 (z.2.2.2.1)).wf = true ∧ (Lit.int .i64 (z.2.2.2.2.1)).wf = true ∧ (Lit.int .u32 (z.2.2.2.2.2.1)).wf = true ∧ (Lit.int .i64 (z.2.2.2.2.2.2.1)).wf = true ∧ (Lit.int .i64 (z.2.2.2.2.2.2.2.1)).wf = true
theorem cells35_length (z : Elem35) : (cells35 z).length = 9 := rfl
theorem elem35 {H : Type} {enc : TypeId × Value → H} {w : World} {base : Nat} {spare : Nat → Bool} {held : Bool} (n : Nat) (cs : List Value) (y : DataW H × List MemPlace)
    (h : DataW.trod enc Tryz.prog w base spare held n 35 cs = some y) : ∃ z : Elem35, cs = cells35 z ∧ ok35 z := by
  have hl : cs.length = 9 := by
    obtain ⟨_, _, _, _, hl, _⟩ := DataW.trod_struct Tryz.underlying35 h
    exact hl.trans (by kernel_rfl)
  obtain ⟨u0, u1, u2, u3, u4, u5, u6, u7, u8, rfl⟩ : ∃ u0 u1 u2 u3 u4 u5 u6 u7 u8, cs = [u0, u1, u2, u3, u4, u5, u6, u7, u8] := by
    match cs, hl with
    | [u0, u1, u2, u3, u4, u5, u6, u7, u8], _ => exact ⟨u0, u1, u2, u3, u4, u5, u6, u7, u8, rfl⟩
  obtain ⟨_, _, e1⟩ := field_at Tryz.underlying35 h 0 rfl 1 (by kernel_rfl)
  obtain ⟨az0, c2, _, wz0⟩ := DataW.trod_int Tryz.underlying3 e1
  obtain rfl : u0 = .int .i64 az0 := by simpa using c2
  obtain ⟨_, _, e3⟩ := field_at Tryz.underlying35 h 1 rfl 6 (by kernel_rfl)
  obtain ⟨_, _, e4⟩ := field_at Tryz.underlying33 e3 0 rfl 1 (by kernel_rfl)
  obtain ⟨az10, c5, _, wz10⟩ := DataW.trod_int Tryz.underlying3 e4
  obtain rfl : u1 = .int .i64 az10 := by simpa using c5
  obtain ⟨_, _, e6⟩ := field_at Tryz.underlying33 e3 1 rfl 2 (by kernel_rfl)
  obtain ⟨_, _, e7⟩ := field_at Tryz.underlying31 e6 0 rfl 1 (by kernel_rfl)
  obtain ⟨az110, c8, _, wz110⟩ := DataW.trod_int Tryz.underlying29 e7
  obtain rfl : u2 = .int .u32 az110 := by simpa using c8
  obtain ⟨_, _, e9⟩ := field_at Tryz.underlying31 e6 1 rfl 1 (by kernel_rfl)
  obtain ⟨az111, c10, _, wz111⟩ := DataW.trod_int Tryz.underlying3 e9
  obtain rfl : u3 = .int .i64 az111 := by simpa using c10
  obtain ⟨_, _, e11⟩ := field_at Tryz.underlying33 e3 2 rfl 1 (by kernel_rfl)
  obtain ⟨az12, c12, _, wz12⟩ := DataW.trod_int Tryz.underlying3 e11
  obtain rfl : u4 = .int .i64 az12 := by simpa using c12
  obtain ⟨_, _, e13⟩ := field_at Tryz.underlying33 e3 3 rfl 1 (by kernel_rfl)
  obtain ⟨az13, c14, _, wz13⟩ := DataW.trod_int Tryz.underlying29 e13
  obtain rfl : u5 = .int .u32 az13 := by simpa using c14
  obtain ⟨_, _, e15⟩ := field_at Tryz.underlying33 e3 4 rfl 1 (by kernel_rfl)
  obtain ⟨az14, c16, _, wz14⟩ := DataW.trod_int Tryz.underlying3 e15
  obtain rfl : u6 = .int .i64 az14 := by simpa using c16
  obtain ⟨_, _, e17⟩ := field_at Tryz.underlying35 h 2 rfl 1 (by kernel_rfl)
  obtain ⟨az2, c18, _, wz2⟩ := DataW.trod_int Tryz.underlying3 e17
  obtain rfl : u7 = .int .i64 az2 := by simpa using c18
  obtain ⟨_, _, e19⟩ := field_at Tryz.underlying35 h 3 rfl 1 (by kernel_rfl)
  obtain ⟨az3, c20, _⟩ := DataW.trod_bool Tryz.underlying4 e19
  obtain rfl : u8 = .bool az3 := by simpa using c20
  exact ⟨(az0, az10, az110, az111, az12, az13, az14, az2, az3), rfl, ⟨wz0, wz10, wz110, wz111, wz12, wz13, wz14, wz2⟩⟩

open Go.Proofs.YtmoimkeeldlpkaaGreat.Tri Go.Proofs.YtmoimkeeldlpkaaGreat.Rb Go.Proofs.YtmoimkeeldlpkaaGreat.Fb

set_option maxHeartbeats 40000000 in
theorem walk (a0 : Int) (a1 : Option Addr) (len1 cap1 : Nat) (zs1 : List Elem35) (a2 : Int) (a3 : Int) (w : World) (w0 : (Lit.int .i64 a0).wf = true) (row1 : IsRowG 9 cells35 ok35 w a1 len1 cap1 zs1) (w2 : (Lit.int .i64 a2).wf = true) (w3 : (Lit.int .u32 a3).wf = true) (hsh : w.ShapedOpen Tryz.prog) :
    Calls Tryz.prog 4 #[.int .i64 a0, .slice a1 len1 cap1, .int .i64 a2, .int .u32 a3] w fun e w' => e = .returned (.bool true) ∧ Below w.heap.size w w' := by
  have hb3 := bounds_u32 w3
  have row : IsRowG 9 aC aOk w a1 len1 cap1 zs1 := row1
  have kn := fun w => known_any w
  have hm := row.le
  have hm2 := row.room
  unfold maxLen at hm2
  have HR : Hid (IsRowG 9 aC aOk w a1 len1 cap1 zs1) := row
  have HB3 : Hid (0 ≤ a3 ∧ a3 ≤ 4294967295) := hb3
  have nr := fun x w => neq_rt x x w
  simp only [eqB_refl, Bool.not_true] at nr
  clear row row1 w3 hb3
  go_enter Tryz.func4, Tryz.ntmps4
  go_wp2_with (first
    | (go_at_call 10; refine (fnew_any a0 _).mono ?_; rintro e w1 ⟨fb, F, rfl, h1, hx1, hF⟩; have H1 : Hid (FibAt w1 fb [] (List.replicate (clampN a0) true) F ∧ Ext w w1 ∧ ∀ x ∈ F, w.heap.size ≤ x) := ⟨h1, hx1, hF⟩; clear h1 hx1 hF)
    | (go_at_call 11; refine (dnew_any a0 _).mono ?_; rintro e w2 ⟨xb, G, rfl, h2, hx2, hG⟩; have HB0 : Hid (BothH w w2 fb xb [] (List.replicate (clampN a0) true) [] (List.replicate (clampN a0) true) (F ++ G)) := both_new H1.out.1 H1.out.2.1 H1.out.2.2 h2 hx2 hG; clear h2 hx2 hG))
  have HL0 : Hid (LooksAt w (w2.alloc (.cells #[.int .u32 a3] 29)) fb xb (.slice (some ⟨w2.heap.size, 0, none⟩) 1 1) 0) := by
    have hx3 : Ext w2 (w2.alloc (.cells #[.int .u32 a3] 29)) := (Ext.refl w2).alloc _
    refine ⟨_, _, _, [a3], HB0.out.later hx3, ownZ_new (w := w) [a3] _ HB0.out.ext.size (heap_new w2 _) (by unfold maxLen; simp), fun g hg hh => ?_, rfl, by simpa using HB3.out⟩
    obtain rfl : g = w2.heap.size := by simpa [blks, Value.ownBlock] using hg
    exact Nat.lt_irrefl _ (HB0.out.lt _ hh).2
  clear HB0 H1
  generalize (w2.alloc (.cells #[.int .u32 a3] 29)) = W0 at *
  generalize (Value.slice (some ⟨w2.heap.size, 0, none⟩) 1 1) = v0 at *
  go_loopw [11, 12] (fun v i wr => ∃ k : Nat, k ≤ 50 ∧ k ≤ len1 ∧ i = .int .i64 k ∧ Hid (LooksAt w wr fb xb v k)) (fun _ i _ => 50 - (intOf i).toNat)
  case atStart => exact ⟨0, Nat.zero_le _, Nat.zero_le _, rfl, HL0⟩
  case round =>
    clear HL0
    obtain ⟨k, hk, hkl, rfl, HK⟩ := hrel
    obtain ⟨L, U, H, xs, hO, hZ, hap, hxl, hxb⟩ := HK.out
    have HB : Hid (BothH w wr fb xb L U L U H) := hO
    have HE : Hid (Ext w wr) := hO.ext
    obtain ⟨az, cz, rfl, -, -, -⟩ := owns_slice hZ
    have HZ : Hid (OwnZ wr w.heap.size (.slice az xs.length cz) xs ∧ (∀ g ∈ blks (.slice az xs.length cz), g ∉ H) ∧ xs.length = 1 + 4 * k ∧ ∀ y ∈ xs, 0 ≤ y ∧ y ≤ 4294967295) := ⟨hZ, hap, hxl, hxb⟩
    clear hO hZ hap hxl hxb HK
    by_cases hlt : k < len1
    · by_cases h60 : k < 50
      · clear nr
        obtain ⟨b, off, kd, r, i, u, rfl, hrok, hbl, hc⟩ := aCells HR.out hlt
        have hki : (k : Int) < (len1 : Int) := by omega
        have h60i : (k : Int) < 50 := by omega
        have HC : Hid (RtOk r ∧ b < w.heap.size) := ⟨hrok, hbl⟩
        have HCC : Hid _ := hc
        obtain ⟨x0, x1, x2, x3, x4, x5, x6, x7, x8⟩ := hc wr (cell_ext hbl HE.out)
        have ka := act_any fb xb kd r i u L U H w wr HB.out hrok
        clear hc hrok hbl
        go_wp2_with (go_at_call 12; refine ka.mono ?_; rintro e w3 ⟨rfl, hb3⟩; have HB4 : Hid (BothAns w wr fb xb (actF L U kd r i u).2.1 (actF L U kd r i u).2.2 (actF L U kd r i u).2.1 (actF L U kd r i u).2.2 H w3) := hb3; obtain ⟨H4, hb4, hS4, hH4⟩ := hb3; have HX3 : Hid (Ext w w3) := hb4.ext; obtain ⟨z0, z1, z2, z3, z4, z5, z6, z7, z8⟩ := HCC.out w3 (cell_ext HC.out.2 hb4.ext); have HH : Hid (BothH w w3 fb xb (actF L U kd r i u).2.1 (actF L U kd r i u).2.2 (actF L U kd r i u).2.1 (actF L U kd r i u).2.2 H4 ∧ ExtS H wr w3 ∧ ∀ y ∈ H4, y ∈ H ∨ wr.heap.size ≤ y) := ⟨hb4, hS4, hH4⟩; clear hb4 hS4 hH4)
        generalize (actF L U kd r i u).2.1 = L2 at *
        generalize (actF L U kd r i u).2.2 = U2 at *
        clear HB4 x0 x1 x2 x3 x4 x5 x6 x7 x8 z0 z3 z4 z5 z6 z7 z8
        have hA5 : Ext w3 (w3.alloc (.cells #[.int .u32 r.a, .int .i64 r.l] 31)) := (Ext.refl w3).alloc _
        have hB5 : (w3.alloc (.cells #[.int .u32 r.a, .int .i64 r.l] 31)).heap[w3.heap.size]? = some (.cells #[.int .u32 r.a, .int .i64 r.l] 31 (0, 0)) := heap_new w3 _
        have ha0 : 0 ≤ r.a := HC.out.1.2.2.1
        have ha1 : r.a ≤ 4294967295 := HC.out.1.2.2.2.1
        have cw := fun W => refWide_any r.a r.l W ha0 ha1
        obtain ⟨wb0, wb1⟩ := wideV_bd r.a r.l ha0 ha1
        generalize wideV r.a r.l = wd at *
        obtain ⟨u1, hu1⟩ : ∃ u, IntKind.u32.wrap (r.a - 1) = u := ⟨_, rfl⟩
        obtain ⟨u2, hu2⟩ : ∃ u, IntKind.u32.wrap (wd + 1) = u := ⟨_, rfl⟩
        have hub1 : 0 ≤ u1 ∧ u1 ≤ 4294967295 := by rw [← hu1, IntKind.wrap_u32]; omega
        have hub2 : 0 ≤ u2 ∧ u2 ≤ 4294967295 := by rw [← hu2, IntKind.wrap_u32]; omega
        have HUB : Hid ((0 ≤ r.a ∧ r.a ≤ 4294967295) ∧ (0 ≤ u1 ∧ u1 ≤ 4294967295) ∧ (0 ≤ wd ∧ wd ≤ 4294967295) ∧ (0 ≤ u2 ∧ u2 ≤ 4294967295)) := ⟨⟨ha0, ha1⟩, hub1, ⟨wb0, wb1⟩, hub2⟩
        have HB5 : Hid _ := hB5
        have HA5 : Hid _ := hA5
        clear hA5 hB5 hub1 hub2 ka
        have hnF : w3.heap.size ∉ blks (.slice az xs.length cz) := fun hh => by have h1 := (HZ.out.1 : OwnZ wr w.heap.size (.slice az xs.length cz) xs); have h2 := (owns_block h1 (mem_blks.1 hh)).2.1; have := HH.out.2.1.size; omega
        have HNF : Hid (w3.heap.size ∉ blks (.slice az xs.length cz)) := hnF
        clear hnF
        refine wp_region_eagerS (blks (.slice az xs.length cz)) [(0, false), (1, false), (2, false), (3, false), (4, false), (5, false), (6, false), (8, false), (7, true), (9, true), (10, false), (11, true), (12, true), (13, false)] (by kernel_rfl) (by kernel_rfl) rfl (by kernel_rfl) (fun _ _ _ _ _ h => h) ?_
        have hx6 : Ext w3 (w3.alloc (.cells #[.int .u32 r.a, .int .i64 r.l] 31)).drew := HA5.out.drew
        have hB6 : (w3.alloc (.cells #[.int .u32 r.a, .int .i64 r.l] 31)).drew.heap[w3.heap.size]? = some (.cells #[.int .u32 r.a, .int .i64 r.l] 31 (0, 0)) := HB5.out
        have HX6 : Hid _ := hx6
        have p0 : ∀ w', ExtS (blks (.slice az xs.length cz)) (w3.alloc (.cells #[.int .u32 r.a, .int .i64 r.l] 31)).drew w' → w'.cell? ⟨w3.heap.size, 0, none⟩ = some (.int .u32 r.a) := fun w' h => by rw [heap_cell (h.heap HNF.out hB6)]; rfl
        have p1 : ∀ w', ExtS (blks (.slice az xs.length cz)) (w3.alloc (.cells #[.int .u32 r.a, .int .i64 r.l] 31)).drew w' → w'.cell? ⟨w3.heap.size, 1, none⟩ = some (.int .i64 r.l) := fun w' h => by rw [heap_cell (h.heap HNF.out hB6)]; rfl
        clear hx6 hB6
        generalize (w3.alloc (.cells #[.int .u32 r.a, .int .i64 r.l] 31)).drew = W6 at *
        iterate 8 (refine wpE_read (v := ?_) rfl (by rfl) ?_ ?_; rotate_left; (focus (intro w' hx; go_simp; first | done | with_reducible rfl)); simp only [Act.put, List.setIfInBounds_toArray, List.set_cons_zero, List.set_cons_succ])
        clear p0 p1
        (refine wpE_call rfl (by rfl) (fun K hK => ?_); go_simp; first | (go_at_call 15; refine (cw _).mono ?_; rintro e w7 ⟨rfl, hx7⟩; refine hK _ _ (hx7.toS _) ?_; clear hK K))
        (refine wpE_call rfl (by rfl) (fun K hK => ?_); go_simp; first | (go_at_call 15; refine (cw _).mono ?_; rintro e w8 ⟨rfl, hx8⟩; refine hK _ _ (hx8.toS _) ?_; clear hK K))
        iterate 1 (refine wpE_read (v := ?_) rfl (by rfl) ?_ ?_; rotate_left; (focus (intro w' hx; go_simp; first | done | with_reducible rfl)); simp only [Act.put, List.setIfInBounds_toArray, List.set_cons_zero, List.set_cons_succ])
        refine wpE_call rfl (by rfl) (fun K hK => ?_)
        go_simp
        have hx9 : Ext w8 (w8.alloc (.cells #[.int .u32 r.a, .int .u32 u1, .int .u32 wd, .int .u32 u2] 29)) := (Ext.refl w8).alloc _
        have hn9 : (w8.alloc (.cells #[.int .u32 r.a, .int .u32 u1, .int .u32 wd, .int .u32 u2] 29)).heap[w8.heap.size]? = some (.cells #[.int .u32 r.a, .int .u32 u1, .int .u32 wd, .int .u32 u2] 29 (0, 0)) := heap_new w8 _
        refine hK _ _ (hx9.toS _) ?_
        clear hK K
        have hx39 : Ext w3 (w8.alloc (.cells #[.int .u32 r.a, .int .u32 u1, .int .u32 wd, .int .u32 u2] 29)) := Ext.trans HX6.out (hx7.trans (hx8.trans hx9))
        generalize (w8.alloc (.cells #[.int .u32 r.a, .int .u32 u1, .int .u32 wd, .int .u32 u2] 29)) = W9 at *
        have hz9 : OwnZ W9 w.heap.size (.slice az xs.length cz) xs := owns_later (owns_laterS HZ.out.1 HH.out.2.1 fun g hg => HZ.out.2.1 g (mem_blks.2 hg)) hx39
        have hO9 : BothH w W9 fb xb L2 U2 L2 U2 H4 := HH.out.1.later hx39
        have hap9 : ∀ g ∈ blks (.slice az xs.length cz), g ∉ H4 := fun g hg hh => by
          rcases HH.out.2.2 g hh with h1 | h1
          · exact HZ.out.2.1 g hg h1
          · have h2 := (owns_block (HZ.out.1 : OwnZ wr w.heap.size (.slice az xs.length cz) xs) (mem_blks.1 hg)).2.1
            omega
        have hxl := HZ.out.2.2.1
        refine wpE_call rfl (by rfl) (fun K hK => ?_)
        refine wp_append_z (.tmp 62) (.tmp 73) rfl w.heap.size _ xs rfl hz9 w8.heap.size 4 [r.a, u1, wd, u2] rfl hn9 (by simp only [List.length_cons, List.length_nil]; omega) hO9.ext.size ?_
        intro v' w10 hz10 hg10 hat10
        have hS10 : ExtS (blks (.slice az xs.length cz)) W9 w10 := grown_extS hz9 hg10 (fun g hg => mem_blks.2 hg)
        refine hK _ _ hS10 ?_
        clear hK K
        simp only [Act.put, List.setIfInBounds_toArray, List.set_cons_zero, List.set_cons_succ]
        have HL10 : Hid (LooksAt w w10 fb xb v' (k + 1)) := by
          have hE10 : Ext w w10 := grown_ext hO9.ext hz9 hg10
          obtain ⟨F5, G5, f1, f2, f3, f4, f5, f6, f7⟩ := hO9
          refine ⟨L2, U2, H4, _, ⟨F5, G5, f1.later hS10 fun y hy hh => hap9 y hh (f4 y hy), f2.later hS10 fun y hy hh => hap9 y hh (f5 y hy), f3, f4, f5, fun y hy => ⟨(f6 y hy).1, Nat.lt_of_lt_of_le (f6 y hy).2 hS10.size⟩, hE10⟩, hz10, fun g hg hh => ?_, by simp only [List.length_append, List.length_cons, List.length_nil]; omega, fun y hy => ?_⟩
          · rcases hat10 with h | h
            · exact hap9 g (mem_blks.2 (h ▸ mem_blks.1 hg)) hh
            · have h1 := mem_blks.1 hg
              rw [h] at h1
              cases h1
              exact Nat.lt_irrefl _ (f6 _ hh).2
          · rcases List.mem_append.1 hy with h | h
            · exact HZ.out.2.2.2 y h
            · simp only [List.mem_cons, List.not_mem_nil, or_false] at h
              have hub := HUB.out
              rcases h with rfl | rfl | rfl | rfl
              · exact hub.1
              · exact hub.2.1
              · exact hub.2.2.1
              · exact hub.2.2.2
        clear hS10 hz10 hat10 hg10 hz9 hO9 hap9 hxl hn9 hx39
        iterate 1 (refine wpE_read (v := ?_) rfl (by rfl) ?_ ?_; rotate_left; (focus (intro w' hx; go_simp; first | done | with_reducible rfl)); simp only [Act.put, List.setIfInBounds_toArray, List.set_cons_zero, List.set_cons_succ])
        refine wpE_done ?_
        go_wp2_with fail
        exact ⟨⟨k + 1, by omega, by omega, by go_num, HL10⟩, by simp only [intOf]; omega⟩
      · obtain rfl : k = 50 := by omega
        have hki : (50 : Int) < (len1 : Int) := by omega
        have HN : Hid (∀ (x : Rt) (w : World), (binOp .neq 33 (.agg #[.int .i64 x.t, .int .u32 x.a, .int .i64 x.l, .int .i64 x.i, .int .u32 x.g, .int .i64 x.m]) (.agg #[.int .i64 x.t, .int .u32 x.a, .int .i64 x.l, .int .i64 x.i, .int .u32 x.g, .int .i64 x.m])).run Tryz.prog w = .ok (.bool false) w) := nr
        clear nr
        have hxl' : xs.length ≤ 1000 := by have := HZ.out.2.2.1; omega
        obtain ⟨wo, hwo⟩ : ∃ wo : World, wo = wr := ⟨_, rfl⟩
        rw [← hwo] at HB HE HZ
        go_wp2_with fail
        go_loopg [2, 16] 2 (fun kx s2 s16 wq => ∃ (t : Nat) (tt : Int), s16 = .int .i64 t ∧ s2 = .int .i64 tt ∧ t ≤ 2 ∧ 2 - t ≤ kx ∧ Ext wo wq)
        case atStart => exact ⟨0, a2, rfl, rfl, by omega, by omega, by rw [hwo]; exact Ext.refl _⟩
        case round =>
          clear hwo
          obtain ⟨t, tt, rfl, rfl, ht2, htx, hxq⟩ := hrel
          by_cases htl : t < 2
          · have hti : (t : Int) < 2 := by omega
            go_wp2_with fail
            go_loopg [17] xs.length (fun ky s17 wz => ∃ q : Nat, s17 = .int .i64 q ∧ q ≤ xs.length ∧ xs.length - q ≤ ky ∧ Ext wo wz)
            case atStart => exact ⟨0, rfl, Nat.zero_le _, Nat.le_refl _, hxq⟩
            case round =>
              obtain ⟨q, rfl, hql, hqx, hxz⟩ := hrel
              by_cases hqlt : q < xs.length
              · obtain ⟨y, hy⟩ : ∃ y, xs[q]? = some y := ⟨_, List.getElem?_eq_getElem hqlt⟩
                obtain ⟨g, cc, e, hgl, hc⟩ := OwnZ.cell HZ.out.1 hy
                cases e
                have hqi : (q : Int) < (xs.length : Int) := by omega
                have hyb := HZ.out.2.2.2 y (List.mem_of_getElem? hy)
                have hask := asks HB.out tt y hyb.1 hyb.2
                have ky : ∀ w', Ext wo w' → w'.cell? ⟨g, q, none⟩ = some (.int .u32 y) := fun w' h => by rw [h.below.cell (p := ⟨g, q, none⟩) (block_lt hc)]; exact hc
                have k0 := ky _ hxz
                generalize wayO L U tt y = oo at *
                have n0 := fun w => HN.out (theR oo) w
                have HKY : Hid _ := ky
                clear ky hc hy hyb
                go_wp2_with (first
                  | (go_at_call 16; refine (hask _ hxz).1.mono ?_; rintro e v1 ⟨rfl, hv1⟩; have hz1 : Ext wo (v1.alloc (.cells #[.int .i64 (theR oo).t, .int .u32 (theR oo).a, .int .i64 (theR oo).l, .int .i64 (theR oo).i, .int .u32 (theR oo).g, .int .i64 (theR oo).m] 33)) := hxz.trans (hv1.alloc _); have k1 := HKY.out _ hz1; have B1 : Hid _ := heap_new v1 (.cells #[.int .i64 (theR oo).t, .int .u32 (theR oo).a, .int .i64 (theR oo).l, .int .i64 (theR oo).i, .int .u32 (theR oo).g, .int .i64 (theR oo).m] 33))
                  | (go_at_call 17; refine (hask _ hz1).2.1.mono ?_; rintro e v2 ⟨rfl, hv2⟩; have hz2 : Ext wo (v2.alloc (.cells #[.int .i64 (theR oo).t, .int .u32 (theR oo).a, .int .i64 (theR oo).l, .int .i64 (theR oo).i, .int .u32 (theR oo).g, .int .i64 (theR oo).m] 33)) := hz1.trans (hv2.alloc _); have k2 := HKY.out _ hz2; have B12 : Hid _ := (hv2.alloc (.cells #[.int .i64 (theR oo).t, .int .u32 (theR oo).a, .int .i64 (theR oo).l, .int .i64 (theR oo).i, .int .u32 (theR oo).g, .int .i64 (theR oo).m] 33)).heap B1.out; have B2 : Hid _ := heap_new v2 (.cells #[.int .i64 (theR oo).t, .int .u32 (theR oo).a, .int .i64 (theR oo).l, .int .i64 (theR oo).i, .int .u32 (theR oo).g, .int .i64 (theR oo).m] 33))
                  | (go_at_call 18; refine (hask _ hz2).2.2.1.mono ?_; rintro e v3 ⟨rfl, hv3⟩; have hz3 : Ext wo (v3.alloc (.cells #[.int .i64 (theR oo).t, .int .u32 (theR oo).a, .int .i64 (theR oo).l, .int .i64 (theR oo).i, .int .u32 (theR oo).g, .int .i64 (theR oo).m] 33)) := hz2.trans (hv3.alloc _); have k3 := HKY.out _ hz3; have B13 : Hid _ := (hv3.alloc (.cells #[.int .i64 (theR oo).t, .int .u32 (theR oo).a, .int .i64 (theR oo).l, .int .i64 (theR oo).i, .int .u32 (theR oo).g, .int .i64 (theR oo).m] 33)).heap B12.out; have B23 : Hid _ := (hv3.alloc (.cells #[.int .i64 (theR oo).t, .int .u32 (theR oo).a, .int .i64 (theR oo).l, .int .i64 (theR oo).i, .int .u32 (theR oo).g, .int .i64 (theR oo).m] 33)).heap B2.out; have B3 : Hid _ := heap_new v3 (.cells #[.int .i64 (theR oo).t, .int .u32 (theR oo).a, .int .i64 (theR oo).l, .int .i64 (theR oo).i, .int .u32 (theR oo).g, .int .i64 (theR oo).m] 33))
                  | (go_at_call 19; refine (hask _ hz3).2.2.2.mono ?_; rintro e v4 ⟨rfl, hv4⟩; have hz4 : Ext wo (v4.alloc (.cells #[.int .i64 (theR oo).t, .int .u32 (theR oo).a, .int .i64 (theR oo).l, .int .i64 (theR oo).i, .int .u32 (theR oo).g, .int .i64 (theR oo).m] 33)) := hz3.trans (hv4.alloc _); obtain ⟨p0, p1, p2, p3, p4, p5⟩ := rt6 ((hv4.alloc (.cells #[.int .i64 (theR oo).t, .int .u32 (theR oo).a, .int .i64 (theR oo).l, .int .i64 (theR oo).i, .int .u32 (theR oo).g, .int .i64 (theR oo).m] 33)).heap B13.out); obtain ⟨q0, q1, q2, q3, q4, q5⟩ := rt6 ((hv4.alloc (.cells #[.int .i64 (theR oo).t, .int .u32 (theR oo).a, .int .i64 (theR oo).l, .int .i64 (theR oo).i, .int .u32 (theR oo).g, .int .i64 (theR oo).m] 33)).heap B23.out); obtain ⟨r0, r1, r2, r3, r4, r5⟩ := rt6 ((hv4.alloc (.cells #[.int .i64 (theR oo).t, .int .u32 (theR oo).a, .int .i64 (theR oo).l, .int .i64 (theR oo).i, .int .u32 (theR oo).g, .int .i64 (theR oo).m] 33)).heap B3.out); obtain ⟨s0, s1, s2, s3, s4, s5⟩ := rt6 (heap_new v4 (.cells #[.int .i64 (theR oo).t, .int .u32 (theR oo).a, .int .i64 (theR oo).l, .int .i64 (theR oo).i, .int .u32 (theR oo).g, .int .i64 (theR oo).m] 33)); clear k0 k1 k2 k3 hv1 hv2 hv3 hv4))
                go_roundg (xs.length - (q + 1))
                case measure => omega
                case rel => exact ⟨q + 1, by go_num, by omega, Nat.le_refl _, hz4⟩
              · obtain rfl : q = xs.length := by omega
                go_wp2_with fail
                go_roundg (2 - (t + 1))
                case measure => omega
                case rel => exact ⟨t + 1, 0, by go_num, rfl, by omega, Nat.le_refl _, hxz⟩
          · obtain rfl : t = 2 := by omega
            go_wp2_with (go_at_call 14; refine (kn _).mono ?_; rintro e wz ⟨rfl, hxw⟩)
            go_ret
            exact ⟨rfl, (HE.out.trans (hxq.trans hxw)).below⟩
    · obtain rfl : k = len1 := by omega
      have HN : Hid (∀ (x : Rt) (w : World), (binOp .neq 33 (.agg #[.int .i64 x.t, .int .u32 x.a, .int .i64 x.l, .int .i64 x.i, .int .u32 x.g, .int .i64 x.m]) (.agg #[.int .i64 x.t, .int .u32 x.a, .int .i64 x.l, .int .i64 x.i, .int .u32 x.g, .int .i64 x.m])).run Tryz.prog w = .ok (.bool false) w) := nr
      clear nr
      have hxl' : xs.length ≤ 1000 := by have := HZ.out.2.2.1; omega
      obtain ⟨wo, hwo⟩ : ∃ wo : World, wo = wr := ⟨_, rfl⟩
      rw [← hwo] at HB HE HZ
      go_wp2_with fail
      go_loopg [2, 16] 2 (fun kx s2 s16 wq => ∃ (t : Nat) (tt : Int), s16 = .int .i64 t ∧ s2 = .int .i64 tt ∧ t ≤ 2 ∧ 2 - t ≤ kx ∧ Ext wo wq)
      case atStart => exact ⟨0, a2, rfl, rfl, by omega, by omega, by rw [hwo]; exact Ext.refl _⟩
      case round =>
        clear hwo
        obtain ⟨t, tt, rfl, rfl, ht2, htx, hxq⟩ := hrel
        by_cases htl : t < 2
        · have hti : (t : Int) < 2 := by omega
          go_wp2_with fail
          go_loopg [17] xs.length (fun ky s17 wz => ∃ q : Nat, s17 = .int .i64 q ∧ q ≤ xs.length ∧ xs.length - q ≤ ky ∧ Ext wo wz)
          case atStart => exact ⟨0, rfl, Nat.zero_le _, Nat.le_refl _, hxq⟩
          case round =>
            obtain ⟨q, rfl, hql, hqx, hxz⟩ := hrel
            by_cases hqlt : q < xs.length
            · obtain ⟨y, hy⟩ : ∃ y, xs[q]? = some y := ⟨_, List.getElem?_eq_getElem hqlt⟩
              obtain ⟨g, cc, e, hgl, hc⟩ := OwnZ.cell HZ.out.1 hy
              cases e
              have hqi : (q : Int) < (xs.length : Int) := by omega
              have hyb := HZ.out.2.2.2 y (List.mem_of_getElem? hy)
              have hask := asks HB.out tt y hyb.1 hyb.2
              have ky : ∀ w', Ext wo w' → w'.cell? ⟨g, q, none⟩ = some (.int .u32 y) := fun w' h => by rw [h.below.cell (p := ⟨g, q, none⟩) (block_lt hc)]; exact hc
              have k0 := ky _ hxz
              generalize wayO L U tt y = oo at *
              have n0 := fun w => HN.out (theR oo) w
              have HKY : Hid _ := ky
              clear ky hc hy hyb
              go_wp2_with (first
                | (go_at_call 16; refine (hask _ hxz).1.mono ?_; rintro e v1 ⟨rfl, hv1⟩; have hz1 : Ext wo (v1.alloc (.cells #[.int .i64 (theR oo).t, .int .u32 (theR oo).a, .int .i64 (theR oo).l, .int .i64 (theR oo).i, .int .u32 (theR oo).g, .int .i64 (theR oo).m] 33)) := hxz.trans (hv1.alloc _); have k1 := HKY.out _ hz1; have B1 : Hid _ := heap_new v1 (.cells #[.int .i64 (theR oo).t, .int .u32 (theR oo).a, .int .i64 (theR oo).l, .int .i64 (theR oo).i, .int .u32 (theR oo).g, .int .i64 (theR oo).m] 33))
                | (go_at_call 17; refine (hask _ hz1).2.1.mono ?_; rintro e v2 ⟨rfl, hv2⟩; have hz2 : Ext wo (v2.alloc (.cells #[.int .i64 (theR oo).t, .int .u32 (theR oo).a, .int .i64 (theR oo).l, .int .i64 (theR oo).i, .int .u32 (theR oo).g, .int .i64 (theR oo).m] 33)) := hz1.trans (hv2.alloc _); have k2 := HKY.out _ hz2; have B12 : Hid _ := (hv2.alloc (.cells #[.int .i64 (theR oo).t, .int .u32 (theR oo).a, .int .i64 (theR oo).l, .int .i64 (theR oo).i, .int .u32 (theR oo).g, .int .i64 (theR oo).m] 33)).heap B1.out; have B2 : Hid _ := heap_new v2 (.cells #[.int .i64 (theR oo).t, .int .u32 (theR oo).a, .int .i64 (theR oo).l, .int .i64 (theR oo).i, .int .u32 (theR oo).g, .int .i64 (theR oo).m] 33))
                | (go_at_call 18; refine (hask _ hz2).2.2.1.mono ?_; rintro e v3 ⟨rfl, hv3⟩; have hz3 : Ext wo (v3.alloc (.cells #[.int .i64 (theR oo).t, .int .u32 (theR oo).a, .int .i64 (theR oo).l, .int .i64 (theR oo).i, .int .u32 (theR oo).g, .int .i64 (theR oo).m] 33)) := hz2.trans (hv3.alloc _); have k3 := HKY.out _ hz3; have B13 : Hid _ := (hv3.alloc (.cells #[.int .i64 (theR oo).t, .int .u32 (theR oo).a, .int .i64 (theR oo).l, .int .i64 (theR oo).i, .int .u32 (theR oo).g, .int .i64 (theR oo).m] 33)).heap B12.out; have B23 : Hid _ := (hv3.alloc (.cells #[.int .i64 (theR oo).t, .int .u32 (theR oo).a, .int .i64 (theR oo).l, .int .i64 (theR oo).i, .int .u32 (theR oo).g, .int .i64 (theR oo).m] 33)).heap B2.out; have B3 : Hid _ := heap_new v3 (.cells #[.int .i64 (theR oo).t, .int .u32 (theR oo).a, .int .i64 (theR oo).l, .int .i64 (theR oo).i, .int .u32 (theR oo).g, .int .i64 (theR oo).m] 33))
                | (go_at_call 19; refine (hask _ hz3).2.2.2.mono ?_; rintro e v4 ⟨rfl, hv4⟩; have hz4 : Ext wo (v4.alloc (.cells #[.int .i64 (theR oo).t, .int .u32 (theR oo).a, .int .i64 (theR oo).l, .int .i64 (theR oo).i, .int .u32 (theR oo).g, .int .i64 (theR oo).m] 33)) := hz3.trans (hv4.alloc _); obtain ⟨p0, p1, p2, p3, p4, p5⟩ := rt6 ((hv4.alloc (.cells #[.int .i64 (theR oo).t, .int .u32 (theR oo).a, .int .i64 (theR oo).l, .int .i64 (theR oo).i, .int .u32 (theR oo).g, .int .i64 (theR oo).m] 33)).heap B13.out); obtain ⟨q0, q1, q2, q3, q4, q5⟩ := rt6 ((hv4.alloc (.cells #[.int .i64 (theR oo).t, .int .u32 (theR oo).a, .int .i64 (theR oo).l, .int .i64 (theR oo).i, .int .u32 (theR oo).g, .int .i64 (theR oo).m] 33)).heap B23.out); obtain ⟨r0, r1, r2, r3, r4, r5⟩ := rt6 ((hv4.alloc (.cells #[.int .i64 (theR oo).t, .int .u32 (theR oo).a, .int .i64 (theR oo).l, .int .i64 (theR oo).i, .int .u32 (theR oo).g, .int .i64 (theR oo).m] 33)).heap B3.out); obtain ⟨s0, s1, s2, s3, s4, s5⟩ := rt6 (heap_new v4 (.cells #[.int .i64 (theR oo).t, .int .u32 (theR oo).a, .int .i64 (theR oo).l, .int .i64 (theR oo).i, .int .u32 (theR oo).g, .int .i64 (theR oo).m] 33)); clear k0 k1 k2 k3 hv1 hv2 hv3 hv4))
              go_roundg (xs.length - (q + 1))
              case measure => omega
              case rel => exact ⟨q + 1, by go_num, by omega, Nat.le_refl _, hz4⟩
            · obtain rfl : q = xs.length := by omega
              go_wp2_with fail
              go_roundg (2 - (t + 1))
              case measure => omega
              case rel => exact ⟨t + 1, 0, by go_num, rfl, by omega, Nat.le_refl _, hxz⟩
        · obtain rfl : t = 2 := by omega
          go_wp2_with (go_at_call 14; refine (kn _).mono ?_; rintro e wz ⟨rfl, hxw⟩)
          go_ret
          exact ⟨rfl, (HE.out.trans (hxq.trans hxw)).below⟩

theorem contract (H : Type) (enc : TypeId × Value → H) (W : World) (base : Nat) (args : Array Value) (ds gs : List (DataW H)) (before : List MemPlace)
    (hval : ∀ (j : Nat) t v, Tryz.f4.params[j]? = some t → args[j]? = some v → Value.okWide Tryz.prog W .any base t v)
    (hW : DataW.Whole enc Tryz.prog Tryz.f4.params.toList Rows.fibLooksSpec.vars false W args.toList ds gs before) (hsh : W.ShapedOpen Tryz.prog) :
    Calls Tryz.prog 4 args W fun e W' => ∃ v, e = .returned v ∧ Rows.fibLooksSpec.post enc Tryz.prog Tryz.f4 false true false false W args v W' := by
  have hW' := hW
  obtain ⟨p, q, hA0, hV, rfl, hfz, hnd⟩ := hW
  have hA : DataW.TrodAll enc Tryz.prog W 0 (fun _ => true) true Tryz.f4.params.toList args.toList ds p := hA0
  rw [Tryz.params4] at hA hval
  obtain ⟨v0, vs0, d0, ds0, p0, q0, hargs, rfl, rfl, h0, r0⟩ := trodAll_cons hA
  obtain ⟨v1, vs1, d1, ds1, p1, q1, rfl, rfl, rfl, h1, r1⟩ := trodAll_cons r0
  obtain ⟨v2, vs2, d2, ds2, p2, q2, rfl, rfl, rfl, h2, r2⟩ := trodAll_cons r1
  obtain ⟨v3, vs3, d3, ds3, p3, q3, rfl, rfl, rfl, h3, r3⟩ := trodAll_cons r2
  obtain ⟨rfl, rfl, rfl⟩ := trodAll_nil r3
  obtain rfl : args = #[v0, v1, v2, v3] := by cases args; simp_all
  obtain ⟨rfl, rfl⟩ := trodVars_none hV
  obtain ⟨a0, rfl, rfl, rfl, w0⟩ := open_int Tryz.underlying3 (hval 0 3 v0 rfl rfl) h0
  have k1 := h1
  have lt1 : ∀ x ∈ p1, x.block < W.heap.size := by obtain ⟨m, hm⟩ := k1; exact DataW.trod_lt m _ _ _ hm
  obtain ⟨b1, l1, c1, rfl⟩ := okWide_slice Tryz.underlying22 (hval 1 22 v1 rfl rfl)
  obtain ⟨fu1, hf1⟩ := h1
  obtain ⟨a1, len1, cap1, zs1, ce1, row1⟩ := open_rowG 9 cells35 ok35 (by omega) cells35_length Tryz.underlying22 (by kernel_rfl) elem35 hf1
  obtain ⟨rfl, rfl, rfl⟩ : a1 = b1 ∧ len1 = l1 ∧ cap1 = c1 := by simpa [Value.cells, eq_comm] using ce1
  obtain ⟨a2, rfl, rfl, rfl, w2⟩ := open_int Tryz.underlying3 (hval 2 3 v2 rfl rfl) h2
  obtain ⟨a3, rfl, rfl, rfl, w3⟩ := open_int Tryz.underlying29 (hval 3 29 v3 rfl rfl) h3
  clear hA0
  refine (walk a0 a1 len1 cap1 zs1 a2 a3 W w0 row1 w2 w3 hsh).mono fun e W' ⟨he, bel⟩ => ?_
  subst he
  exact ⟨_, rfl, _, _, _, [], _, [], hW', trodAll_mk1 (shut_bool Tryz.underlying4 _), (trodAll_cons_mk (shut_int Tryz.underlying3 w0) (trodAll_cons_mk (Below.trod laidOut (by kernel_rfl) (of_decide_eq_true (by kernel_rfl)) k1 bel lt1) (trodAll_cons_mk (shut_int Tryz.underlying3 w2) (trodAll_cons_mk (shut_int Tryz.underlying29 w3) trodAll_mk0)))), rfl, bel.frame _, fun h => by cases h⟩

theorem laid_met (os : Os) : laidMet Tryz.prog Rows.fibLooksRow.laid ((World.doorLaid Tryz.prog 24 os).forCall (fun _ _ => 0) ⟨#[], #[.int .i64 0, .slice none 0 0, .int .i64 0, .int .u32 0], []⟩).memory :=
  laidMet_of_run' 8 (by kernel_rfl) (by kernel_rfl)
theorem reads (os : Os) {H : Type} (enc : TypeId × Value → H) : ∃ places, DataW.whole enc Tryz.prog ((World.doorLaid Tryz.prog 24 os).forCall (fun _ _ => 0) ⟨#[], #[.int .i64 0, .slice none 0 0, .int .i64 0, .int .u32 0], []⟩).memory Tryz.f4.params.toList Rows.fibLooksSpec.vars false (#[.int .i64 0, .slice none 0 0, .int .i64 0, .int .u32 0] : Array Value).toList 8 = some ([.lit (.int .i64 0), .nil, .lit (.int .i64 0), .lit (.int .u32 0)], [], places) :=
  ⟨[], by kernel_rfl⟩

set_option maxRecDepth 100000 in
theorem lifted (os : Os) (started : os.Started) (H : Type) (enc : TypeId × Value → H) (F : Stop.Interp) :
    ReturnsInHanded {} Tryz.checked os 4 .any ((OpenSpec.ofChange Rows.fibLooksSpec).preRow enc Tryz.prog Tryz.f4 Rows.fibLooksRow.domain false Rows.fibLooksRow.laid) (((OpenSpec.ofChange Rows.fibLooksSpec).at F).post enc Tryz.prog Tryz.f4 false true false false) := by
  obtain ⟨places, hx⟩ := reads os enc
  refine returnsInHanded_of_row (C := Tryz.checked) (s := (OpenSpec.ofChange Rows.fibLooksSpec)) own started (by kernel_rfl) Tryz.func4
    (witness_row_at (enc := enc) (C := Tryz.checked) false (World.doorLaid Tryz.prog 24 os) #[.int .i64 0, .slice none 0 0, .int .i64 0, .int .u32 0] rfl (by kernel_rfl) (by kernel_rfl) (by kernel_rfl)
      (OpenSpec.preRow_of_cond 8 hx (by kernel_rfl) (fun k hk => by cases hk) (by kernel_rfl) (laid_met os))) ?_
  intro W base args ds gs before hval hW _ hcond _ hL hsh _
  exact contract H enc W base args ds gs before hval hW hsh

theorem said : Rows.FibLooksSaid :=
  OpenClaim.holds_of_cond 4 Tryz.f4 rfl rfl rfl rfl rfl rfl rfl ⟨rfl, rfl, rfl, rfl, rfl⟩ rfl rfl rfl rfl rfl (by kernel_rfl) Tryz.func4 (by kernel_rfl)
    (of_decide_eq_true (by kernel_rfl)) (by unfold Func.isWrapper; first | (rw [if_pos (by decide +kernel)]; kernel_rfl) | (rw [if_neg (by decide +kernel)]; exact ⟨rfl, rfl⟩))
    (fun os started H enc _ F => by rw [OpenClaim.pre_eq_preRow]; exact lifted os started H enc F)

end Go.Proofs.YtmoimkeeldlpkaaGreat.fibLooks

namespace Go.Proofs.YtmoimkeeldlpkaaGreat
theorem fibLooks_holds : Rows.FibLooksSaid := fibLooks.said
#print axioms fibLooks_holds
end Go.Proofs.YtmoimkeeldlpkaaGreat
