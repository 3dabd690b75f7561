/- What the document's own Build answers of a packet that may be built (chapter 4). -/
import Derived.Test.YtkagkfbdpiblkaaIpM
import Derived.Test.YtkagkfbdpiblkaaGrow3
namespace Go.Proofs.Ytkagkfbdpiblkaa
open Go.RowKit
set_option linter.unusedVariables false
set_option maxRecDepth 100000

theorem or_flag (o c : Int) (h0 : 0 ≤ o) (h1 : o ≤ 8191) (hc : c = 16384 ∨ c = 8192) : bits .or .i64 o c = o + c := by
  obtain ⟨a, rfl⟩ := Int.eq_ofNat_of_zero_le h0
  obtain ⟨b, rfl⟩ := Int.eq_ofNat_of_zero_le (show 0 ≤ c by omega)
  rw [(bits_nat .i64 63 (by decide) wraps_i64 a b (by omega) (by omega)).2, Nat.or_comm, ← (bits_nat .i64 63 (by decide) wraps_i64 b a (by omega) (by omega)).2]
  rw [bits_join .i64 63 (by decide) wraps_i64 13 (b : Int) (a : Int) (by omega) (by omega) (by omega) (by omega) (by omega) (by omega)]
  omega

theorem or_flag2 (o : Int) (h0 : 0 ≤ o) (h1 : o ≤ 8191) : bits .or .i64 (o + 16384) 8192 = o + 24576 := by
  have e : bits .or .i64 (o + 16384) 8192 = bits .or .i64 24576 o := by
    obtain ⟨a, rfl⟩ := Int.eq_ofNat_of_zero_le h0
    have e1 := (bits_nat .i64 63 (by decide) wraps_i64 (a + 16384) 8192 (by omega) (by omega)).2
    have e2 := (bits_nat .i64 63 (by decide) wraps_i64 24576 a (by omega) (by omega)).2
    have e3 : (a + 16384) ||| 8192 = 24576 ||| a := by
      have f1 : a + 16384 = 16384 ||| a := by
        have := bits_join .i64 63 (by decide) wraps_i64 14 (16384 : Int) (a : Int) (by omega) (by omega) (by omega) (by omega) (by omega) (by omega)
        have f2 := (bits_nat .i64 63 (by decide) wraps_i64 16384 a (by omega) (by omega)).2
        have f3 : ((16384 ||| a : Nat) : Int) = 16384 + (a : Int) := by rw [← f2]; exact this
        omega
      rw [f1, Nat.or_comm 16384 a, Nat.or_assoc, Nat.or_comm]
      rfl
    have c1 : ((a : Int) + 16384) = ((a + 16384 : Nat) : Int) := by omega
    rw [c1]
    exact e1.trans ((congrArg (fun n : Nat => (n : Int)) e3).trans e2.symm)
  rw [e, bits_join .i64 63 (by decide) wraps_i64 13 (24576 : Int) o (by omega) (by omega) (by omega) h0 (by omega) (by omega)]
  omega

/-- The header with noughts for the checksum, as it is put together. -/
def refA (hb tos all id fo ttl proto src dst : Int) (opts : List Int) : List Int :=
  [hb, tos] ++ [all / 256 % 256, all % 256] ++ [id / 256 % 256, id % 256] ++ [fo / 256 % 256, fo % 256] ++ [ttl, proto, 0, 0] ++
    [src / 16777216, src / 65536 % 256, src / 256 % 256, src % 256] ++ [dst / 16777216, dst / 65536 % 256, dst / 256 % 256, dst % 256] ++ opts

def refX (p : IPv) : List Int := refA (64 + (20 + (p.opts.length : Int)) / 4) p.tos (20 + (p.opts.length : Int) + p.data.length) p.id (flagV p.df p.mf + p.off) p.ttl p.proto p.src p.dst p.opts

theorem refX_eq (p : IPv) : refX p = aheadV p ++ ([0, 0] ++ behindV p) := by
  simp [refX, refA, aheadV, behindV]

/-- What that is for. -/
structure RefForm (p : IPv) : Prop where
  sum : ofV (refX p) = checkV p
  len : (refX p).length = 20 + p.opts.length
  ok : BytesOk (refX p)
  put : ((refX p).set 10 (checkV p / 256 % 256)).set 11 (checkV p % 256) ++ p.data = buildV p

theorem ref_form {p : IPv} (f : Fine p) (h : Fits p) : RefForm p := by
  have oA := ahead_ok f h
  have oB := behind_ok f
  have o0 : BytesOk [(0 : Int), 0] := by intro x hx; simp at hx; omega
  refine ⟨?_, ?_, ?_, ?_⟩
  · rw [refX_eq]
    unfold checkV ofV
    rw [sumB_append, sumB_append, sumB_append, ahead_len, par_even _ (by omega), show sumB true [(0 : Int), 0] = 0 from rfl, show par true [(0 : Int), 0].length = true from rfl, Int.zero_add]
  · rw [refX_eq, List.length_append, List.length_append, ahead_len, behind_len]; simp; omega
  · rw [refX_eq]; exact bytesOk_append oA (bytesOk_append o0 oB)
  · rw [refX_eq]
    simp [aheadV, behindV, buildV]

/-- What Build answers. -/
def RefBuildAns (w : World) (p : IPv) (n : Nat) (e : Ending) (w' : World) : Prop := ∃ q c, e = .returned (.tuple #[.slice q n c, .int .i64 0]) ∧ Bytes w' q n (buildV p) ∧ Ext w w'

/-- The same, as a row of the caller's own. -/
def RefBuildOwn (w : World) (p : IPv) (n : Nat) (e : Ending) (w' : World) : Prop := ∃ q c, e = .returned (.tuple #[.slice q n c, .int .i64 0]) ∧ w'.ownsRow w.heap.size 5 1 (.slice q n c) n ((buildV p).map (Value.int .u8)) ∧ Ext w w'

set_option maxHeartbeats 2000000 in
theorem refBuild_ff (p0 p1 p4 p5 p6 p7 p8 : Int) (p9 pa : List Int) (a1 : Option Addr) (n1 c1 : Nat) (a2 : Option Addr) (n2 c2 : Nat) (w : World) (h1 : Bytes w a1 n1 p9) (z1 : a1 = none → c1 = 0) (h2 : Bytes w a2 n2 pa) (z2 : a2 = none → c2 = 0)
    (f : Fine ⟨p0, p1, false, false, p4, p5, p6, p7, p8, p9, pa⟩) (hp : Fits ⟨p0, p1, false, false, p4, p5, p6, p7, p8, p9, pa⟩) (hn2 : n2 ≤ 1500) :
    Calls Try.prog 21 #[.agg #[.int .i64 p0, .int .i64 p1, .bool false, .bool false, .int .i64 p4, .int .i64 p5, .int .i64 p6, .int .u32 p7, .int .u32 p8, .slice a1 n1 c1, .slice a2 n2 c2]] w (RefBuildOwn w ⟨p0, p1, false, false, p4, p5, p6, p7, p8, p9, pa⟩ (20 + n1 + n2)) := by
  have l1 := h1.length
  have l2 := h2.length
  have cf := fun w => refIs_any ⟨p0, p1, false, false, p4, p5, p6, p7, p8, p9, pa⟩ a1 n1 c1 a2 n2 c2 w l1 (by have := h1.small; exact this)
  rw [(isV_iff _).2 hp] at cf
  have HP : Hid (∀ e w', RefBuildOwn w ⟨p0, p1, false, false, p4, p5, p6, p7, p8, p9, pa⟩ (20 + n1 + n2) e w' ↔ ∃ q c, e = .returned (.tuple #[.slice q (20 + n1 + n2) c, .int .i64 0]) ∧ w'.ownsRow w.heap.size 5 1 (.slice q (20 + n1 + n2) c) (20 + n1 + n2) ((buildV ⟨p0, p1, false, false, p4, p5, p6, p7, p8, p9, pa⟩).map (Value.int .u8)) ∧ Ext w w') := fun e w' => Iff.rfl
  generalize RefBuildOwn w ⟨p0, p1, false, false, p4, p5, p6, p7, p8, p9, pa⟩ (20 + n1 + n2) = Ans at *
  have hform := ref_form f hp
  have hck : 0 ≤ checkV ⟨p0, p1, false, false, p4, p5, p6, p7, p8, p9, pa⟩ ∧ checkV ⟨p0, p1, false, false, p4, p5, p6, p7, p8, p9, pa⟩ ≤ 65535 := check_bd f hp
  have okB := build_ok f hp
  obtain ⟨t0, t1, u0, u1, r0, r1, i0', i1', o0, o1, n4, n40⟩ := hp
  obtain ⟨s0, s1, d0', d1', ho', hd'⟩ := f
  dsimp only at *
  rw [l1] at n4 n40
  have hF := (show flagV false false + p4 = p4 by simp [flagV])
  have hX1 : refA (64 + (20 + (n1 : Int)) / 4) p0 (20 + (n1 : Int) + n2) p1 p4 p5 p6 p7 p8 p9 = refX ⟨p0, p1, false, false, p4, p5, p6, p7, p8, p9, pa⟩ := by unfold refX; dsimp only; rw [l1, l2, hF]
  have HX : Hid _ := hX1
  obtain ⟨fs, fl', fo, fp⟩ := hform
  dsimp only at fp fl'
  rw [l1] at fl'
  have HS : Hid _ := fs
  have HPt : Hid _ := fp
  clear hX1 fs fp
  generalize refX ⟨p0, p1, false, false, p4, p5, p6, p7, p8, p9, pa⟩ = XX at *
  generalize checkV ⟨p0, p1, false, false, p4, p5, p6, p7, p8, p9, pa⟩ = ck at *
  generalize buildV ⟨p0, p1, false, false, p4, p5, p6, p7, p8, p9, pa⟩ = Y at *
  have hx0 : Ext w (w.alloc (.cells #[.int .i64 p0, .int .i64 p1, .bool false, .bool false, .int .i64 p4, .int .i64 p5, .int .i64 p6, .int .u32 p7, .int .u32 p8, .slice a1 n1 c1, .slice a2 n2 c2] 25)) := (Ext.refl w).alloc _
  obtain ⟨b0, b1, b2, b3, b4, b5, b6, b7, b8, b9, ba⟩ := box_ipE (heap_new' w (.cells #[.int .i64 p0, .int .i64 p1, .bool false, .bool false, .int .i64 p4, .int .i64 p5, .int .i64 p6, .int .u32 p7, .int .u32 p8, .slice a1 n1 c1, .slice a2 n2 c2] 25))
  obtain ⟨i0, hi, hz0, hz1, hz2⟩ := info_parts Try.infoByte
  have e1 : IntKind.i64.wrap ((20 + (n1 : Int)).tdiv 4) = (20 + (n1 : Int)) / 4 := by rw [Int.tdiv_eq_ediv_of_nonneg (by omega), IntKind.wrap_i64]; omega
  have e2 : IntKind.u8.wrap (64 + (20 + (n1 : Int)) / 4) = 64 + (20 + (n1 : Int)) / 4 := by rw [IntKind.wrap_u8]; omega
  have e3 : IntKind.u8.wrap p0 = p0 := by rw [IntKind.wrap_u8]; omega
  have e4 : IntKind.u8.wrap p5 = p5 := by rw [IntKind.wrap_u8]; omega
  have e5 : IntKind.u8.wrap p6 = p6 := by rw [IntKind.wrap_u8]; omega
  have e6 : IntKind.i64.wrap (64 + (20 + (n1 : Int)) / 4) = 64 + (20 + (n1 : Int)) / 4 := by rw [IntKind.wrap_i64]; omega
  have e7 : IntKind.i64.wrap (20 + (n1 : Int) + n2) = 20 + (n1 : Int) + n2 := by rw [IntKind.wrap_i64]; omega
  have hhb : 0 ≤ 64 + (20 + (n1 : Int)) / 4 ∧ 64 + (20 + (n1 : Int)) / 4 ≤ 255 := by omega
  have hcl := hF
  clear hF hcl
  go_enter Try.func21, Try.ntmps21
  go_wp2_with (go_at_call 20; refine (cf _).mono ?_; rintro e w1 ⟨rfl, hx1⟩)
  have hX : Ext (w.alloc (.cells #[.int .i64 p0, .int .i64 p1, .bool false, .bool false, .int .i64 p4, .int .i64 p5, .int .i64 p6, .int .u32 p7, .int .u32 p8, .slice a1 n1 c1, .slice a2 n2 c2] 25)) w1.drew := hx1.drew
  have hsz : (w.alloc (.cells #[.int .i64 p0, .int .i64 p1, .bool false, .bool false, .int .i64 p4, .int .i64 p5, .int .i64 p6, .int .u32 p7, .int .u32 p8, .slice a1 n1 c1, .slice a2 n2 c2] 25)).heap.size ≤ w1.heap.size := hx1.size
  generalize (w.alloc (.cells #[.int .i64 p0, .int .i64 p1, .bool false, .bool false, .int .i64 p4, .int .i64 p5, .int .i64 p6, .int .u32 p7, .int .u32 p8, .slice a1 n1 c1, .slice a2 n2 c2] 25)) = W0 at *
  refine wp_region_make W0.heap.size hsz [(0, 0), (1, 0), (2, 0), (3, 0), (4, 0), (5, 0), (6, 0), (8, 0), (9, 0), (10, 0), (11, 0), (12, 0), (7, 3), (13, 1), (7, 2), (14, 1), (15, 0)] (by kernel_rfl) (by kernel_rfl) rfl (by kernel_rfl) (fun _ _ _ _ _ => Iff.rfl) ?_
  clear hx1 cf hsz
  generalize w1.drew = W at *
  have x0 := fun w' h => b0 w' (hX.trans h)
  have xa := fun w' h => ba w' (hX.trans h)
  repeat (first
    | (refine wpW_read (v := ?_) rfl (by rfl) ?_ ?_; rotate_left; (focus (intro w' hx; go_simp; first | done | with_reducible rfl)); simp only [Act.put, List.setIfInBounds_toArray, List.set_cons_zero, List.set_cons_succ]))
  clear x0 xa
  (refine wpW_say _ (fun g => .slice (some ⟨g, 0, none⟩) 2 2) rfl (by rfl) (fun w' => by go_simp; first | done | with_reducible rfl) ?_)
  refine wpW_call rfl (by rfl) (fun W1 hx1 K hK => ?_); go_simp; (go_at_call 36; refine (refPut16_new _ _ (by omega) (by omega)).mono ?_; rintro e W1' ⟨q1, rfl, hq1, hx1'⟩; refine hK _ _ hx1' ?_; clear hK K)
  refine wpW_make _ (fun g => .slice (some ⟨g, 0, none⟩) 2 2) rfl (by rfl) (fun w' => by go_simp; first | done | with_reducible rfl) ?_; simp only [Act.put, List.setIfInBounds_toArray, List.set_cons_zero, List.set_cons_succ]; intro W2 g2 hx2 hB2 hg2
  refine wpW_call rfl (by rfl) (fun W3 hx3 K hK => ?_)
  refine wp_append_full (.tmp 38) (.tmp 44) 22 rfl 5 i0 (.int .u8 0) Try.underlying22 hi hz0 hz1 hz2 rfl g2 2 [64 + (20 + (n1 : Int)) / 4, p0] rfl (hx3.heap hg2) rfl q1 2 2 _ rfl (hq1.below (hx2.trans hx3)) (hq1.has (by omega) _) (by omega) W0.heap.size hB2 ?_
  intro v4 W4 ho4 hx4
  refine hK _ _ hx4 ?_
  clear hK K
  simp only [Act.put, List.setIfInBounds_toArray, List.set_cons_zero, List.set_cons_succ]
  have hX4 : Ext W0 W4 := hX.trans (hx1.trans (hx1'.trans (hx2.trans (hx3.trans hx4))))
  clear hg2 hq1 hx1 hx1' hx2 hx3 hx4 hB2 hX
  (refine wpW_read (v := ?_) rfl (by rfl) ?_ ?_; rotate_left; (focus (intro w' hx; go_simp; first | done | with_reducible rfl)); simp only [Act.put, List.setIfInBounds_toArray, List.set_cons_zero, List.set_cons_succ])
  refine wpW_done ?_
  have tA : Hid True := trivial
  have tB : Hid True := trivial
  have tC : Hid True := trivial
  have tD : Hid True := trivial
  go_wp2_with (first
    | (go_at_call 36; clear tA; refine (refPut16_new _ _ (by omega) (by omega)).mono ?_; rintro e w5 ⟨q5, rfl, hb5, hx5⟩; have ho5 := owns_later ho4 hx5; have hX5 := hX4.trans hx5; clear ho4 hx5)
    | (at_builtin; clear tB; refine append_bytes rfl (.tmp 46) (.tmp 49) 22 rfl W0.heap.size 5 i0 (.int .u8 0) Try.underlying22 hi hz0 hz1 hz2 rfl _ _ _ rfl ho5 q5 2 2 _ rfl hb5 (hb5.has (by omega) _) (by omega) hX5.size ?_; intro v6 w6 ho6 hg6; have hX6 := grown_ext hX5 ho5 hg6; clear hg6 ho5 hb5)
    | (go_at_call 36; clear tC; refine (refPut16_new _ _ (by omega) (by omega)).mono ?_; rintro e w7 ⟨q7, rfl, hb7, hx7⟩; have ho7 := owns_later ho6 hx7; have hX7 := hX6.trans hx7; clear ho6 hx7)
    | (at_builtin; clear tD; refine append_bytes rfl (.tmp 50) (.tmp 52) 22 rfl W0.heap.size 5 i0 (.int .u8 0) Try.underlying22 hi hz0 hz1 hz2 rfl _ _ _ rfl ho7 q7 2 2 _ rfl hb7 (hb7.has (by omega) _) (by omega) hX7.size ?_; intro v8 w8 ho8 hg8; have hX8 := grown_ext hX7 ho7 hg8; clear hg8 ho7 hb7)
    | (at_builtin; have hn : Bytes (w8.alloc (.cells #[.int .u8 p5, .int .u8 p6, .int .u8 0, .int .u8 0] 5)) (some ⟨w8.heap.size, 0, none⟩) 4 [p5, p6, 0, 0] := Bytes.new w8 _ [p5, p6, 0, 0] (by intro x hx; simp at hx; omega) (by simp); have ho9 := ho8.alloc (.cells #[.int .u8 p5, .int .u8 p6, .int .u8 0, .int .u8 0] 5); have hX9 := hX8.alloc (.cells #[.int .u8 p5, .int .u8 p6, .int .u8 0, .int .u8 0] 5); refine append_bytes rfl (.tmp 54) (.tmp 61) 22 rfl W0.heap.size 5 i0 (.int .u8 0) Try.underlying22 hi hz0 hz1 hz2 rfl _ _ _ rfl ho9 _ 4 4 _ rfl hn (by simp) (by omega) hX9.size ?_; intro va wa hoa hga; have hXa := grown_ext hX9 ho9 hga; clear hga ho9 hn ho8))
  refine wp_region_eagerN W0.heap.size [(0, false), (1, false), (2, false), (5, false), (6, false), (3, true), (4, true), (7, true), (8, true), (9, false)] (by kernel_rfl) (by kernel_rfl) rfl (by kernel_rfl) (fun _ _ _ _ _ h => h) ?_
  have hXb : Ext W0 wa.drew := hXa.drew
  have hob := owns_later hoa (Ext.refl wa).drew
  have y7 : ∀ w', ExtN W0.heap.size wa.drew w' → w'.cell? ⟨w.heap.size, 7, none⟩ = some (.int .u32 p7) := fun w' hx => b7 w' (ExtN.ext hXb hx (Nat.le_refl _))
  have y8 : ∀ w', ExtN W0.heap.size wa.drew w' → w'.cell? ⟨w.heap.size, 8, none⟩ = some (.int .u32 p8) := fun w' hx => b8 w' (ExtN.ext hXb hx (Nat.le_refl _))
  clear hXa hoa e1 e2 e3 e4 e5 e6 e7
  generalize wa.drew = V at *
  (refine wpE_read (v := ?_) rfl (by rfl) ?_ ?_; rotate_left; (focus (intro w' hx; go_simp; first | done | with_reducible rfl)); simp only [Act.put, List.setIfInBounds_toArray, List.set_cons_zero, List.set_cons_succ])
  (refine wpE_read (v := ?_) rfl (by rfl) ?_ ?_; rotate_left; (focus (intro w' hx; go_simp; first | done | with_reducible rfl)); simp only [Act.put, List.setIfInBounds_toArray, List.set_cons_zero, List.set_cons_succ])
  (refine wpE_read (v := ?_) rfl (by rfl) ?_ ?_; rotate_left; (focus (intro w' hx; go_simp; first | done | with_reducible rfl)); simp only [Act.put, List.setIfInBounds_toArray, List.set_cons_zero, List.set_cons_succ])
  (refine wpE_read (v := ?_) rfl (by rfl) ?_ ?_; rotate_left; (focus (intro w' hx; go_simp; first | done | with_reducible rfl)); simp only [Act.put, List.setIfInBounds_toArray, List.set_cons_zero, List.set_cons_succ])
  (refine wpE_read (v := ?_) rfl (by rfl) ?_ ?_; rotate_left; (focus (intro w' hx; go_simp; first | done | with_reducible rfl)); simp only [Act.put, List.setIfInBounds_toArray, List.set_cons_zero, List.set_cons_succ])
  clear y7 y8
  refine wpE_call rfl (by rfl) (fun K hK => ?_); go_simp; (go_at_call 37; refine (refPut32_new _ _ (by omega) (by omega)).mono ?_; rintro e V1 ⟨q1, rfl, hb1, hx1⟩; refine hK _ _ (hx1.upto _) ?_; clear hK K; have hX1 := hXb.trans hx1; have ho1 := owns_later hob hx1; clear hob hx1)
  refine wpE_call rfl (by rfl) (fun K hK => ?_)
  refine wp_append_bytes (.tmp 63) (.tmp 66) 22 rfl W0.heap.size 5 i0 (.int .u8 0) Try.underlying22 hi hz0 hz1 hz2 rfl _ _ _ rfl ho1 q1 4 4 _ rfl hb1 (hb1.has (by omega) _) (by omega) hX1.size ?_
  intro v2 V2 ho2 hg2
  have hX2 := grown_ext hX1 ho1 hg2
  refine hK _ _ (grown_N ho1 hg2) ?_
  clear hK K hg2 ho1 hb1
  simp only [Act.put, List.setIfInBounds_toArray, List.set_cons_zero, List.set_cons_succ]
  refine wpE_call rfl (by rfl) (fun K hK => ?_); go_simp; (go_at_call 37; refine (refPut32_new _ _ (by omega) (by omega)).mono ?_; rintro e V3 ⟨q3, rfl, hb3, hx3⟩; refine hK _ _ (hx3.upto _) ?_; clear hK K; have hX3 := hX2.trans hx3; have ho3 := owns_later ho2 hx3; clear ho2 hx3)
  refine wpE_call rfl (by rfl) (fun K hK => ?_)
  refine wp_append_bytes (.tmp 67) (.tmp 70) 22 rfl W0.heap.size 5 i0 (.int .u8 0) Try.underlying22 hi hz0 hz1 hz2 rfl _ _ _ rfl ho3 q3 4 4 _ rfl hb3 (hb3.has (by omega) _) (by omega) hX3.size ?_
  intro v4' V4 ho4' hg4
  have hX4' := grown_ext hX3 ho3 hg4
  refine hK _ _ (grown_N ho3 hg4) ?_
  clear hK K hg4 ho3 hb3
  simp only [Act.put, List.setIfInBounds_toArray, List.set_cons_zero, List.set_cons_succ]
  (refine wpE_read (v := ?_) rfl (by rfl) ?_ ?_; rotate_left; (focus (intro w' hx; go_simp; first | done | with_reducible rfl)); simp only [Act.put, List.setIfInBounds_toArray, List.set_cons_zero, List.set_cons_succ])
  refine wpE_done ?_
  have hb9 := h1.below (hx0.trans hX4')
  go_wp2_with (first
    | (at_builtin; refine append_bytes rfl (.tmp 72) (.tmp 74) 22 rfl W0.heap.size 5 i0 (.int .u8 0) Try.underlying22 hi hz0 hz1 hz2 rfl _ _ _ rfl ho4' a1 n1 c1 _ rfl hb9 z1 (by omega) hX4'.size ?_; intro v5 V5 ho5' hg5; have hX5' := grown_ext hX4' ho4' hg5; clear hg5 ho4' hb9; have ho6' : V5.ownsRow W0.heap.size 5 1 v5 (20 + n1) (XX.map (Value.int .u8)) := (by rw [← HX.out]; have e : 2 + 2 + 2 + 2 + 4 + 4 + 4 + n1 = 20 + n1 := (by omega); rw [← e]; exact ho5'); clear ho5'; obtain ⟨g, c5', rfl, hO⟩ := OwnB.of_owns ho6' (by omega) fo)
    | (go_at_call 38; have co := refOf_any _ (20 + n1) c5' XX V5 hO.bytes (by omega); rw [HS.out] at co; refine co.mono ?_; clear co; rintro e V6 ⟨rfl, rfl⟩; have m10 := hO.cell (k := 10) (by omega); have m11 := hO.cell (k := 11) (by omega); have f10 := hO.frozen 10; have f11 := hO.frozen 11; have hgw := hO.lt; have hgne : g ≠ V6.heap.size := (by omega))
    | (go_at_call 36; refine (refPut16_any _ _ (by omega) (by omega)).mono ?_; rintro e V7 ⟨rfl, rfl⟩))
  go_region
  have hoz := owns_later (owns_put 11 (ck % 256) (owns_put 10 (ck / 256 % 256) ho6' (by omega)) (by omega)) (((Ext.refl _).alloc (.cells #[.int .u8 (ck / 256 % 256), .int .u8 (ck % 256)] 5)).drew)
  have hXz := ((ExtX.ext hX5' (((ExtX.refl g V6).setCell (p := ⟨g, 10, none⟩) rfl (.int .u8 (ck / 256 % 256))).setCell (p := ⟨g, 11, none⟩) rfl (.int .u8 (ck % 256))) hO.base).alloc (.cells #[.int .u8 (ck / 256 % 256), .int .u8 (ck % 256)] 5)).drew
  clear m10 m11 f10 f11 ho6' hX5' hO hgw hgne
  generalize (((V6.setCell ⟨g, 10, none⟩ (.int .u8 (ck / 256 % 256))).setCell ⟨g, 11, none⟩ (.int .u8 (ck % 256))).alloc (.cells #[.int .u8 (ck / 256 % 256), .int .u8 (ck % 256)] 5)).drew = Vz at hoz hXz ⊢
  have hbD := h2.below (hx0.trans hXz)
  go_wp2_with (at_builtin; refine append_bytes rfl (.tmp 89) (.tmp 91) 22 rfl W0.heap.size 5 i0 (.int .u8 0) Try.underlying22 hi hz0 hz1 hz2 rfl _ _ _ rfl hoz a2 n2 c2 _ rfl hbD z2 (by omega) hXz.size ?_; intro vY VY hoY hgY; have hXY := grown_ext hXz hoz hgY; rw [HPt.out] at hoY; obtain ⟨qY, cY, rfl⟩ := owns_shape hoY; have oY := owns_base hoY hx0.size; clear hgY hoz)
  exact (HP.out _ _).2 ⟨qY, cY, rfl, oY, hx0.trans hXY⟩

set_option maxHeartbeats 2000000 in
theorem refBuild_tf (p0 p1 p4 p5 p6 p7 p8 : Int) (p9 pa : List Int) (a1 : Option Addr) (n1 c1 : Nat) (a2 : Option Addr) (n2 c2 : Nat) (w : World) (h1 : Bytes w a1 n1 p9) (z1 : a1 = none → c1 = 0) (h2 : Bytes w a2 n2 pa) (z2 : a2 = none → c2 = 0)
    (f : Fine ⟨p0, p1, true, false, p4, p5, p6, p7, p8, p9, pa⟩) (hp : Fits ⟨p0, p1, true, false, p4, p5, p6, p7, p8, p9, pa⟩) (hn2 : n2 ≤ 1500) :
    Calls Try.prog 21 #[.agg #[.int .i64 p0, .int .i64 p1, .bool true, .bool false, .int .i64 p4, .int .i64 p5, .int .i64 p6, .int .u32 p7, .int .u32 p8, .slice a1 n1 c1, .slice a2 n2 c2]] w (RefBuildOwn w ⟨p0, p1, true, false, p4, p5, p6, p7, p8, p9, pa⟩ (20 + n1 + n2)) := by
  have l1 := h1.length
  have l2 := h2.length
  have cf := fun w => refIs_any ⟨p0, p1, true, false, p4, p5, p6, p7, p8, p9, pa⟩ a1 n1 c1 a2 n2 c2 w l1 (by have := h1.small; exact this)
  rw [(isV_iff _).2 hp] at cf
  have HP : Hid (∀ e w', RefBuildOwn w ⟨p0, p1, true, false, p4, p5, p6, p7, p8, p9, pa⟩ (20 + n1 + n2) e w' ↔ ∃ q c, e = .returned (.tuple #[.slice q (20 + n1 + n2) c, .int .i64 0]) ∧ w'.ownsRow w.heap.size 5 1 (.slice q (20 + n1 + n2) c) (20 + n1 + n2) ((buildV ⟨p0, p1, true, false, p4, p5, p6, p7, p8, p9, pa⟩).map (Value.int .u8)) ∧ Ext w w') := fun e w' => Iff.rfl
  generalize RefBuildOwn w ⟨p0, p1, true, false, p4, p5, p6, p7, p8, p9, pa⟩ (20 + n1 + n2) = Ans at *
  have hform := ref_form f hp
  have hck : 0 ≤ checkV ⟨p0, p1, true, false, p4, p5, p6, p7, p8, p9, pa⟩ ∧ checkV ⟨p0, p1, true, false, p4, p5, p6, p7, p8, p9, pa⟩ ≤ 65535 := check_bd f hp
  have okB := build_ok f hp
  obtain ⟨t0, t1, u0, u1, r0, r1, i0', i1', o0, o1, n4, n40⟩ := hp
  obtain ⟨s0, s1, d0', d1', ho', hd'⟩ := f
  dsimp only at *
  rw [l1] at n4 n40
  have hor := or_flag p4 16384 o0 (by omega) (by decide)
  obtain ⟨fv, hfv⟩ : ∃ fv, p4 + 16384 = fv := ⟨_, rfl⟩
  rw [hfv] at hor
  have hfb : 0 ≤ fv ∧ fv ≤ 65535 := by omega
  have hF := (show flagV true false + p4 = fv by simp [flagV]; omega)
  have hX1 : refA (64 + (20 + (n1 : Int)) / 4) p0 (20 + (n1 : Int) + n2) p1 fv p5 p6 p7 p8 p9 = refX ⟨p0, p1, true, false, p4, p5, p6, p7, p8, p9, pa⟩ := by unfold refX; dsimp only; rw [l1, l2, hF]
  have HX : Hid _ := hX1
  obtain ⟨fs, fl', fo, fp⟩ := hform
  dsimp only at fp fl'
  rw [l1] at fl'
  have HS : Hid _ := fs
  have HPt : Hid _ := fp
  clear hX1 fs fp
  generalize refX ⟨p0, p1, true, false, p4, p5, p6, p7, p8, p9, pa⟩ = XX at *
  generalize checkV ⟨p0, p1, true, false, p4, p5, p6, p7, p8, p9, pa⟩ = ck at *
  generalize buildV ⟨p0, p1, true, false, p4, p5, p6, p7, p8, p9, pa⟩ = Y at *
  have hx0 : Ext w (w.alloc (.cells #[.int .i64 p0, .int .i64 p1, .bool true, .bool false, .int .i64 p4, .int .i64 p5, .int .i64 p6, .int .u32 p7, .int .u32 p8, .slice a1 n1 c1, .slice a2 n2 c2] 25)) := (Ext.refl w).alloc _
  obtain ⟨b0, b1, b2, b3, b4, b5, b6, b7, b8, b9, ba⟩ := box_ipE (heap_new' w (.cells #[.int .i64 p0, .int .i64 p1, .bool true, .bool false, .int .i64 p4, .int .i64 p5, .int .i64 p6, .int .u32 p7, .int .u32 p8, .slice a1 n1 c1, .slice a2 n2 c2] 25))
  obtain ⟨i0, hi, hz0, hz1, hz2⟩ := info_parts Try.infoByte
  have e1 : IntKind.i64.wrap ((20 + (n1 : Int)).tdiv 4) = (20 + (n1 : Int)) / 4 := by rw [Int.tdiv_eq_ediv_of_nonneg (by omega), IntKind.wrap_i64]; omega
  have e2 : IntKind.u8.wrap (64 + (20 + (n1 : Int)) / 4) = 64 + (20 + (n1 : Int)) / 4 := by rw [IntKind.wrap_u8]; omega
  have e3 : IntKind.u8.wrap p0 = p0 := by rw [IntKind.wrap_u8]; omega
  have e4 : IntKind.u8.wrap p5 = p5 := by rw [IntKind.wrap_u8]; omega
  have e5 : IntKind.u8.wrap p6 = p6 := by rw [IntKind.wrap_u8]; omega
  have e6 : IntKind.i64.wrap (64 + (20 + (n1 : Int)) / 4) = 64 + (20 + (n1 : Int)) / 4 := by rw [IntKind.wrap_i64]; omega
  have e7 : IntKind.i64.wrap (20 + (n1 : Int) + n2) = 20 + (n1 : Int) + n2 := by rw [IntKind.wrap_i64]; omega
  have hhb : 0 ≤ 64 + (20 + (n1 : Int)) / 4 ∧ 64 + (20 + (n1 : Int)) / 4 ≤ 255 := by omega
  have hcl := hF
  clear hF hcl
  go_enter Try.func21, Try.ntmps21
  go_wp2_with (go_at_call 20; refine (cf _).mono ?_; rintro e w1 ⟨rfl, hx1⟩)
  have hX : Ext (w.alloc (.cells #[.int .i64 p0, .int .i64 p1, .bool true, .bool false, .int .i64 p4, .int .i64 p5, .int .i64 p6, .int .u32 p7, .int .u32 p8, .slice a1 n1 c1, .slice a2 n2 c2] 25)) w1.drew := hx1.drew
  have hsz : (w.alloc (.cells #[.int .i64 p0, .int .i64 p1, .bool true, .bool false, .int .i64 p4, .int .i64 p5, .int .i64 p6, .int .u32 p7, .int .u32 p8, .slice a1 n1 c1, .slice a2 n2 c2] 25)).heap.size ≤ w1.heap.size := hx1.size
  generalize (w.alloc (.cells #[.int .i64 p0, .int .i64 p1, .bool true, .bool false, .int .i64 p4, .int .i64 p5, .int .i64 p6, .int .u32 p7, .int .u32 p8, .slice a1 n1 c1, .slice a2 n2 c2] 25)) = W0 at *
  refine wp_region_make W0.heap.size hsz [(0, 0), (1, 0), (2, 0), (3, 0), (4, 0), (5, 0), (6, 0), (8, 0), (9, 0), (10, 0), (11, 0), (12, 0), (7, 3), (13, 1), (7, 2), (14, 1), (15, 0)] (by kernel_rfl) (by kernel_rfl) rfl (by kernel_rfl) (fun _ _ _ _ _ => Iff.rfl) ?_
  clear hx1 cf hsz
  generalize w1.drew = W at *
  have x0 := fun w' h => b0 w' (hX.trans h)
  have xa := fun w' h => ba w' (hX.trans h)
  repeat (first
    | (refine wpW_read (v := ?_) rfl (by rfl) ?_ ?_; rotate_left; (focus (intro w' hx; go_simp; first | done | with_reducible rfl)); simp only [Act.put, List.setIfInBounds_toArray, List.set_cons_zero, List.set_cons_succ]))
  clear x0 xa
  (refine wpW_say _ (fun g => .slice (some ⟨g, 0, none⟩) 2 2) rfl (by rfl) (fun w' => by go_simp; first | done | with_reducible rfl) ?_)
  refine wpW_call rfl (by rfl) (fun W1 hx1 K hK => ?_); go_simp; (go_at_call 36; refine (refPut16_new _ _ (by omega) (by omega)).mono ?_; rintro e W1' ⟨q1, rfl, hq1, hx1'⟩; refine hK _ _ hx1' ?_; clear hK K)
  refine wpW_make _ (fun g => .slice (some ⟨g, 0, none⟩) 2 2) rfl (by rfl) (fun w' => by go_simp; first | done | with_reducible rfl) ?_; simp only [Act.put, List.setIfInBounds_toArray, List.set_cons_zero, List.set_cons_succ]; intro W2 g2 hx2 hB2 hg2
  refine wpW_call rfl (by rfl) (fun W3 hx3 K hK => ?_)
  refine wp_append_full (.tmp 38) (.tmp 44) 22 rfl 5 i0 (.int .u8 0) Try.underlying22 hi hz0 hz1 hz2 rfl g2 2 [64 + (20 + (n1 : Int)) / 4, p0] rfl (hx3.heap hg2) rfl q1 2 2 _ rfl (hq1.below (hx2.trans hx3)) (hq1.has (by omega) _) (by omega) W0.heap.size hB2 ?_
  intro v4 W4 ho4 hx4
  refine hK _ _ hx4 ?_
  clear hK K
  simp only [Act.put, List.setIfInBounds_toArray, List.set_cons_zero, List.set_cons_succ]
  have hX4 : Ext W0 W4 := hX.trans (hx1.trans (hx1'.trans (hx2.trans (hx3.trans hx4))))
  clear hg2 hq1 hx1 hx1' hx2 hx3 hx4 hB2 hX
  (refine wpW_read (v := ?_) rfl (by rfl) ?_ ?_; rotate_left; (focus (intro w' hx; go_simp; first | done | with_reducible rfl)); simp only [Act.put, List.setIfInBounds_toArray, List.set_cons_zero, List.set_cons_succ])
  refine wpW_done ?_
  have tA : Hid True := trivial
  have tB : Hid True := trivial
  have tC : Hid True := trivial
  have tD : Hid True := trivial
  go_wp2_with (first
    | (go_at_call 36; clear tA; refine (refPut16_new _ _ (by omega) (by omega)).mono ?_; rintro e w5 ⟨q5, rfl, hb5, hx5⟩; have ho5 := owns_later ho4 hx5; have hX5 := hX4.trans hx5; clear ho4 hx5)
    | (at_builtin; clear tB; refine append_bytes rfl (.tmp 46) (.tmp 49) 22 rfl W0.heap.size 5 i0 (.int .u8 0) Try.underlying22 hi hz0 hz1 hz2 rfl _ _ _ rfl ho5 q5 2 2 _ rfl hb5 (hb5.has (by omega) _) (by omega) hX5.size ?_; intro v6 w6 ho6 hg6; have hX6 := grown_ext hX5 ho5 hg6; clear hg6 ho5 hb5)
    | (go_at_call 36; clear tC; refine (refPut16_new _ _ (by omega) (by omega)).mono ?_; rintro e w7 ⟨q7, rfl, hb7, hx7⟩; have ho7 := owns_later ho6 hx7; have hX7 := hX6.trans hx7; clear ho6 hx7)
    | (at_builtin; clear tD; refine append_bytes rfl (.tmp 50) (.tmp 52) 22 rfl W0.heap.size 5 i0 (.int .u8 0) Try.underlying22 hi hz0 hz1 hz2 rfl _ _ _ rfl ho7 q7 2 2 _ rfl hb7 (hb7.has (by omega) _) (by omega) hX7.size ?_; intro v8 w8 ho8 hg8; have hX8 := grown_ext hX7 ho7 hg8; clear hg8 ho7 hb7)
    | (at_builtin; have hn : Bytes (w8.alloc (.cells #[.int .u8 p5, .int .u8 p6, .int .u8 0, .int .u8 0] 5)) (some ⟨w8.heap.size, 0, none⟩) 4 [p5, p6, 0, 0] := Bytes.new w8 _ [p5, p6, 0, 0] (by intro x hx; simp at hx; omega) (by simp); have ho9 := ho8.alloc (.cells #[.int .u8 p5, .int .u8 p6, .int .u8 0, .int .u8 0] 5); have hX9 := hX8.alloc (.cells #[.int .u8 p5, .int .u8 p6, .int .u8 0, .int .u8 0] 5); refine append_bytes rfl (.tmp 54) (.tmp 61) 22 rfl W0.heap.size 5 i0 (.int .u8 0) Try.underlying22 hi hz0 hz1 hz2 rfl _ _ _ rfl ho9 _ 4 4 _ rfl hn (by simp) (by omega) hX9.size ?_; intro va wa hoa hga; have hXa := grown_ext hX9 ho9 hga; clear hga ho9 hn ho8))
  refine wp_region_eagerN W0.heap.size [(0, false), (1, false), (2, false), (5, false), (6, false), (3, true), (4, true), (7, true), (8, true), (9, false)] (by kernel_rfl) (by kernel_rfl) rfl (by kernel_rfl) (fun _ _ _ _ _ h => h) ?_
  have hXb : Ext W0 wa.drew := hXa.drew
  have hob := owns_later hoa (Ext.refl wa).drew
  have y7 : ∀ w', ExtN W0.heap.size wa.drew w' → w'.cell? ⟨w.heap.size, 7, none⟩ = some (.int .u32 p7) := fun w' hx => b7 w' (ExtN.ext hXb hx (Nat.le_refl _))
  have y8 : ∀ w', ExtN W0.heap.size wa.drew w' → w'.cell? ⟨w.heap.size, 8, none⟩ = some (.int .u32 p8) := fun w' hx => b8 w' (ExtN.ext hXb hx (Nat.le_refl _))
  clear hXa hoa e1 e2 e3 e4 e5 e6 e7
  generalize wa.drew = V at *
  (refine wpE_read (v := ?_) rfl (by rfl) ?_ ?_; rotate_left; (focus (intro w' hx; go_simp; first | done | with_reducible rfl)); simp only [Act.put, List.setIfInBounds_toArray, List.set_cons_zero, List.set_cons_succ])
  (refine wpE_read (v := ?_) rfl (by rfl) ?_ ?_; rotate_left; (focus (intro w' hx; go_simp; first | done | with_reducible rfl)); simp only [Act.put, List.setIfInBounds_toArray, List.set_cons_zero, List.set_cons_succ])
  (refine wpE_read (v := ?_) rfl (by rfl) ?_ ?_; rotate_left; (focus (intro w' hx; go_simp; first | done | with_reducible rfl)); simp only [Act.put, List.setIfInBounds_toArray, List.set_cons_zero, List.set_cons_succ])
  (refine wpE_read (v := ?_) rfl (by rfl) ?_ ?_; rotate_left; (focus (intro w' hx; go_simp; first | done | with_reducible rfl)); simp only [Act.put, List.setIfInBounds_toArray, List.set_cons_zero, List.set_cons_succ])
  (refine wpE_read (v := ?_) rfl (by rfl) ?_ ?_; rotate_left; (focus (intro w' hx; go_simp; first | done | with_reducible rfl)); simp only [Act.put, List.setIfInBounds_toArray, List.set_cons_zero, List.set_cons_succ])
  clear y7 y8
  refine wpE_call rfl (by rfl) (fun K hK => ?_); go_simp; (go_at_call 37; refine (refPut32_new _ _ (by omega) (by omega)).mono ?_; rintro e V1 ⟨q1, rfl, hb1, hx1⟩; refine hK _ _ (hx1.upto _) ?_; clear hK K; have hX1 := hXb.trans hx1; have ho1 := owns_later hob hx1; clear hob hx1)
  refine wpE_call rfl (by rfl) (fun K hK => ?_)
  refine wp_append_bytes (.tmp 63) (.tmp 66) 22 rfl W0.heap.size 5 i0 (.int .u8 0) Try.underlying22 hi hz0 hz1 hz2 rfl _ _ _ rfl ho1 q1 4 4 _ rfl hb1 (hb1.has (by omega) _) (by omega) hX1.size ?_
  intro v2 V2 ho2 hg2
  have hX2 := grown_ext hX1 ho1 hg2
  refine hK _ _ (grown_N ho1 hg2) ?_
  clear hK K hg2 ho1 hb1
  simp only [Act.put, List.setIfInBounds_toArray, List.set_cons_zero, List.set_cons_succ]
  refine wpE_call rfl (by rfl) (fun K hK => ?_); go_simp; (go_at_call 37; refine (refPut32_new _ _ (by omega) (by omega)).mono ?_; rintro e V3 ⟨q3, rfl, hb3, hx3⟩; refine hK _ _ (hx3.upto _) ?_; clear hK K; have hX3 := hX2.trans hx3; have ho3 := owns_later ho2 hx3; clear ho2 hx3)
  refine wpE_call rfl (by rfl) (fun K hK => ?_)
  refine wp_append_bytes (.tmp 67) (.tmp 70) 22 rfl W0.heap.size 5 i0 (.int .u8 0) Try.underlying22 hi hz0 hz1 hz2 rfl _ _ _ rfl ho3 q3 4 4 _ rfl hb3 (hb3.has (by omega) _) (by omega) hX3.size ?_
  intro v4' V4 ho4' hg4
  have hX4' := grown_ext hX3 ho3 hg4
  refine hK _ _ (grown_N ho3 hg4) ?_
  clear hK K hg4 ho3 hb3
  simp only [Act.put, List.setIfInBounds_toArray, List.set_cons_zero, List.set_cons_succ]
  (refine wpE_read (v := ?_) rfl (by rfl) ?_ ?_; rotate_left; (focus (intro w' hx; go_simp; first | done | with_reducible rfl)); simp only [Act.put, List.setIfInBounds_toArray, List.set_cons_zero, List.set_cons_succ])
  refine wpE_done ?_
  have hb9 := h1.below (hx0.trans hX4')
  go_wp2_with (first
    | (at_builtin; refine append_bytes rfl (.tmp 72) (.tmp 74) 22 rfl W0.heap.size 5 i0 (.int .u8 0) Try.underlying22 hi hz0 hz1 hz2 rfl _ _ _ rfl ho4' a1 n1 c1 _ rfl hb9 z1 (by omega) hX4'.size ?_; intro v5 V5 ho5' hg5; have hX5' := grown_ext hX4' ho4' hg5; clear hg5 ho4' hb9; have ho6' : V5.ownsRow W0.heap.size 5 1 v5 (20 + n1) (XX.map (Value.int .u8)) := (by rw [← HX.out]; have e : 2 + 2 + 2 + 2 + 4 + 4 + 4 + n1 = 20 + n1 := (by omega); rw [← e]; exact ho5'); clear ho5'; obtain ⟨g, c5', rfl, hO⟩ := OwnB.of_owns ho6' (by omega) fo)
    | (go_at_call 38; have co := refOf_any _ (20 + n1) c5' XX V5 hO.bytes (by omega); rw [HS.out] at co; refine co.mono ?_; clear co; rintro e V6 ⟨rfl, rfl⟩; have m10 := hO.cell (k := 10) (by omega); have m11 := hO.cell (k := 11) (by omega); have f10 := hO.frozen 10; have f11 := hO.frozen 11; have hgw := hO.lt; have hgne : g ≠ V6.heap.size := (by omega))
    | (go_at_call 36; refine (refPut16_any _ _ (by omega) (by omega)).mono ?_; rintro e V7 ⟨rfl, rfl⟩))
  go_region
  have hoz := owns_later (owns_put 11 (ck % 256) (owns_put 10 (ck / 256 % 256) ho6' (by omega)) (by omega)) (((Ext.refl _).alloc (.cells #[.int .u8 (ck / 256 % 256), .int .u8 (ck % 256)] 5)).drew)
  have hXz := ((ExtX.ext hX5' (((ExtX.refl g V6).setCell (p := ⟨g, 10, none⟩) rfl (.int .u8 (ck / 256 % 256))).setCell (p := ⟨g, 11, none⟩) rfl (.int .u8 (ck % 256))) hO.base).alloc (.cells #[.int .u8 (ck / 256 % 256), .int .u8 (ck % 256)] 5)).drew
  clear m10 m11 f10 f11 ho6' hX5' hO hgw hgne
  generalize (((V6.setCell ⟨g, 10, none⟩ (.int .u8 (ck / 256 % 256))).setCell ⟨g, 11, none⟩ (.int .u8 (ck % 256))).alloc (.cells #[.int .u8 (ck / 256 % 256), .int .u8 (ck % 256)] 5)).drew = Vz at hoz hXz ⊢
  have hbD := h2.below (hx0.trans hXz)
  go_wp2_with (at_builtin; refine append_bytes rfl (.tmp 89) (.tmp 91) 22 rfl W0.heap.size 5 i0 (.int .u8 0) Try.underlying22 hi hz0 hz1 hz2 rfl _ _ _ rfl hoz a2 n2 c2 _ rfl hbD z2 (by omega) hXz.size ?_; intro vY VY hoY hgY; have hXY := grown_ext hXz hoz hgY; rw [HPt.out] at hoY; obtain ⟨qY, cY, rfl⟩ := owns_shape hoY; have oY := owns_base hoY hx0.size; clear hgY hoz)
  exact (HP.out _ _).2 ⟨qY, cY, rfl, oY, hx0.trans hXY⟩

set_option maxHeartbeats 2000000 in
theorem refBuild_ft (p0 p1 p4 p5 p6 p7 p8 : Int) (p9 pa : List Int) (a1 : Option Addr) (n1 c1 : Nat) (a2 : Option Addr) (n2 c2 : Nat) (w : World) (h1 : Bytes w a1 n1 p9) (z1 : a1 = none → c1 = 0) (h2 : Bytes w a2 n2 pa) (z2 : a2 = none → c2 = 0)
    (f : Fine ⟨p0, p1, false, true, p4, p5, p6, p7, p8, p9, pa⟩) (hp : Fits ⟨p0, p1, false, true, p4, p5, p6, p7, p8, p9, pa⟩) (hn2 : n2 ≤ 1500) :
    Calls Try.prog 21 #[.agg #[.int .i64 p0, .int .i64 p1, .bool false, .bool true, .int .i64 p4, .int .i64 p5, .int .i64 p6, .int .u32 p7, .int .u32 p8, .slice a1 n1 c1, .slice a2 n2 c2]] w (RefBuildOwn w ⟨p0, p1, false, true, p4, p5, p6, p7, p8, p9, pa⟩ (20 + n1 + n2)) := by
  have l1 := h1.length
  have l2 := h2.length
  have cf := fun w => refIs_any ⟨p0, p1, false, true, p4, p5, p6, p7, p8, p9, pa⟩ a1 n1 c1 a2 n2 c2 w l1 (by have := h1.small; exact this)
  rw [(isV_iff _).2 hp] at cf
  have HP : Hid (∀ e w', RefBuildOwn w ⟨p0, p1, false, true, p4, p5, p6, p7, p8, p9, pa⟩ (20 + n1 + n2) e w' ↔ ∃ q c, e = .returned (.tuple #[.slice q (20 + n1 + n2) c, .int .i64 0]) ∧ w'.ownsRow w.heap.size 5 1 (.slice q (20 + n1 + n2) c) (20 + n1 + n2) ((buildV ⟨p0, p1, false, true, p4, p5, p6, p7, p8, p9, pa⟩).map (Value.int .u8)) ∧ Ext w w') := fun e w' => Iff.rfl
  generalize RefBuildOwn w ⟨p0, p1, false, true, p4, p5, p6, p7, p8, p9, pa⟩ (20 + n1 + n2) = Ans at *
  have hform := ref_form f hp
  have hck : 0 ≤ checkV ⟨p0, p1, false, true, p4, p5, p6, p7, p8, p9, pa⟩ ∧ checkV ⟨p0, p1, false, true, p4, p5, p6, p7, p8, p9, pa⟩ ≤ 65535 := check_bd f hp
  have okB := build_ok f hp
  obtain ⟨t0, t1, u0, u1, r0, r1, i0', i1', o0, o1, n4, n40⟩ := hp
  obtain ⟨s0, s1, d0', d1', ho', hd'⟩ := f
  dsimp only at *
  rw [l1] at n4 n40
  have hor := or_flag p4 8192 o0 (by omega) (by decide)
  obtain ⟨fv, hfv⟩ : ∃ fv, p4 + 8192 = fv := ⟨_, rfl⟩
  rw [hfv] at hor
  have hfb : 0 ≤ fv ∧ fv ≤ 65535 := by omega
  have hF := (show flagV false true + p4 = fv by simp [flagV]; omega)
  have hX1 : refA (64 + (20 + (n1 : Int)) / 4) p0 (20 + (n1 : Int) + n2) p1 fv p5 p6 p7 p8 p9 = refX ⟨p0, p1, false, true, p4, p5, p6, p7, p8, p9, pa⟩ := by unfold refX; dsimp only; rw [l1, l2, hF]
  have HX : Hid _ := hX1
  obtain ⟨fs, fl', fo, fp⟩ := hform
  dsimp only at fp fl'
  rw [l1] at fl'
  have HS : Hid _ := fs
  have HPt : Hid _ := fp
  clear hX1 fs fp
  generalize refX ⟨p0, p1, false, true, p4, p5, p6, p7, p8, p9, pa⟩ = XX at *
  generalize checkV ⟨p0, p1, false, true, p4, p5, p6, p7, p8, p9, pa⟩ = ck at *
  generalize buildV ⟨p0, p1, false, true, p4, p5, p6, p7, p8, p9, pa⟩ = Y at *
  have hx0 : Ext w (w.alloc (.cells #[.int .i64 p0, .int .i64 p1, .bool false, .bool true, .int .i64 p4, .int .i64 p5, .int .i64 p6, .int .u32 p7, .int .u32 p8, .slice a1 n1 c1, .slice a2 n2 c2] 25)) := (Ext.refl w).alloc _
  obtain ⟨b0, b1, b2, b3, b4, b5, b6, b7, b8, b9, ba⟩ := box_ipE (heap_new' w (.cells #[.int .i64 p0, .int .i64 p1, .bool false, .bool true, .int .i64 p4, .int .i64 p5, .int .i64 p6, .int .u32 p7, .int .u32 p8, .slice a1 n1 c1, .slice a2 n2 c2] 25))
  obtain ⟨i0, hi, hz0, hz1, hz2⟩ := info_parts Try.infoByte
  have e1 : IntKind.i64.wrap ((20 + (n1 : Int)).tdiv 4) = (20 + (n1 : Int)) / 4 := by rw [Int.tdiv_eq_ediv_of_nonneg (by omega), IntKind.wrap_i64]; omega
  have e2 : IntKind.u8.wrap (64 + (20 + (n1 : Int)) / 4) = 64 + (20 + (n1 : Int)) / 4 := by rw [IntKind.wrap_u8]; omega
  have e3 : IntKind.u8.wrap p0 = p0 := by rw [IntKind.wrap_u8]; omega
  have e4 : IntKind.u8.wrap p5 = p5 := by rw [IntKind.wrap_u8]; omega
  have e5 : IntKind.u8.wrap p6 = p6 := by rw [IntKind.wrap_u8]; omega
  have e6 : IntKind.i64.wrap (64 + (20 + (n1 : Int)) / 4) = 64 + (20 + (n1 : Int)) / 4 := by rw [IntKind.wrap_i64]; omega
  have e7 : IntKind.i64.wrap (20 + (n1 : Int) + n2) = 20 + (n1 : Int) + n2 := by rw [IntKind.wrap_i64]; omega
  have hhb : 0 ≤ 64 + (20 + (n1 : Int)) / 4 ∧ 64 + (20 + (n1 : Int)) / 4 ≤ 255 := by omega
  have hcl := hF
  clear hF hcl
  go_enter Try.func21, Try.ntmps21
  go_wp2_with (go_at_call 20; refine (cf _).mono ?_; rintro e w1 ⟨rfl, hx1⟩)
  have hX : Ext (w.alloc (.cells #[.int .i64 p0, .int .i64 p1, .bool false, .bool true, .int .i64 p4, .int .i64 p5, .int .i64 p6, .int .u32 p7, .int .u32 p8, .slice a1 n1 c1, .slice a2 n2 c2] 25)) w1.drew := hx1.drew
  have hsz : (w.alloc (.cells #[.int .i64 p0, .int .i64 p1, .bool false, .bool true, .int .i64 p4, .int .i64 p5, .int .i64 p6, .int .u32 p7, .int .u32 p8, .slice a1 n1 c1, .slice a2 n2 c2] 25)).heap.size ≤ w1.heap.size := hx1.size
  generalize (w.alloc (.cells #[.int .i64 p0, .int .i64 p1, .bool false, .bool true, .int .i64 p4, .int .i64 p5, .int .i64 p6, .int .u32 p7, .int .u32 p8, .slice a1 n1 c1, .slice a2 n2 c2] 25)) = W0 at *
  refine wp_region_make W0.heap.size hsz [(0, 0), (1, 0), (2, 0), (3, 0), (4, 0), (5, 0), (6, 0), (8, 0), (9, 0), (10, 0), (11, 0), (12, 0), (7, 3), (13, 1), (7, 2), (14, 1), (15, 0)] (by kernel_rfl) (by kernel_rfl) rfl (by kernel_rfl) (fun _ _ _ _ _ => Iff.rfl) ?_
  clear hx1 cf hsz
  generalize w1.drew = W at *
  have x0 := fun w' h => b0 w' (hX.trans h)
  have xa := fun w' h => ba w' (hX.trans h)
  repeat (first
    | (refine wpW_read (v := ?_) rfl (by rfl) ?_ ?_; rotate_left; (focus (intro w' hx; go_simp; first | done | with_reducible rfl)); simp only [Act.put, List.setIfInBounds_toArray, List.set_cons_zero, List.set_cons_succ]))
  clear x0 xa
  (refine wpW_say _ (fun g => .slice (some ⟨g, 0, none⟩) 2 2) rfl (by rfl) (fun w' => by go_simp; first | done | with_reducible rfl) ?_)
  refine wpW_call rfl (by rfl) (fun W1 hx1 K hK => ?_); go_simp; (go_at_call 36; refine (refPut16_new _ _ (by omega) (by omega)).mono ?_; rintro e W1' ⟨q1, rfl, hq1, hx1'⟩; refine hK _ _ hx1' ?_; clear hK K)
  refine wpW_make _ (fun g => .slice (some ⟨g, 0, none⟩) 2 2) rfl (by rfl) (fun w' => by go_simp; first | done | with_reducible rfl) ?_; simp only [Act.put, List.setIfInBounds_toArray, List.set_cons_zero, List.set_cons_succ]; intro W2 g2 hx2 hB2 hg2
  refine wpW_call rfl (by rfl) (fun W3 hx3 K hK => ?_)
  refine wp_append_full (.tmp 38) (.tmp 44) 22 rfl 5 i0 (.int .u8 0) Try.underlying22 hi hz0 hz1 hz2 rfl g2 2 [64 + (20 + (n1 : Int)) / 4, p0] rfl (hx3.heap hg2) rfl q1 2 2 _ rfl (hq1.below (hx2.trans hx3)) (hq1.has (by omega) _) (by omega) W0.heap.size hB2 ?_
  intro v4 W4 ho4 hx4
  refine hK _ _ hx4 ?_
  clear hK K
  simp only [Act.put, List.setIfInBounds_toArray, List.set_cons_zero, List.set_cons_succ]
  have hX4 : Ext W0 W4 := hX.trans (hx1.trans (hx1'.trans (hx2.trans (hx3.trans hx4))))
  clear hg2 hq1 hx1 hx1' hx2 hx3 hx4 hB2 hX
  (refine wpW_read (v := ?_) rfl (by rfl) ?_ ?_; rotate_left; (focus (intro w' hx; go_simp; first | done | with_reducible rfl)); simp only [Act.put, List.setIfInBounds_toArray, List.set_cons_zero, List.set_cons_succ])
  refine wpW_done ?_
  have tA : Hid True := trivial
  have tB : Hid True := trivial
  have tC : Hid True := trivial
  have tD : Hid True := trivial
  go_wp2_with (first
    | (go_at_call 36; clear tA; refine (refPut16_new _ _ (by omega) (by omega)).mono ?_; rintro e w5 ⟨q5, rfl, hb5, hx5⟩; have ho5 := owns_later ho4 hx5; have hX5 := hX4.trans hx5; clear ho4 hx5)
    | (at_builtin; clear tB; refine append_bytes rfl (.tmp 46) (.tmp 49) 22 rfl W0.heap.size 5 i0 (.int .u8 0) Try.underlying22 hi hz0 hz1 hz2 rfl _ _ _ rfl ho5 q5 2 2 _ rfl hb5 (hb5.has (by omega) _) (by omega) hX5.size ?_; intro v6 w6 ho6 hg6; have hX6 := grown_ext hX5 ho5 hg6; clear hg6 ho5 hb5)
    | (go_at_call 36; clear tC; refine (refPut16_new _ _ (by omega) (by omega)).mono ?_; rintro e w7 ⟨q7, rfl, hb7, hx7⟩; have ho7 := owns_later ho6 hx7; have hX7 := hX6.trans hx7; clear ho6 hx7)
    | (at_builtin; clear tD; refine append_bytes rfl (.tmp 50) (.tmp 52) 22 rfl W0.heap.size 5 i0 (.int .u8 0) Try.underlying22 hi hz0 hz1 hz2 rfl _ _ _ rfl ho7 q7 2 2 _ rfl hb7 (hb7.has (by omega) _) (by omega) hX7.size ?_; intro v8 w8 ho8 hg8; have hX8 := grown_ext hX7 ho7 hg8; clear hg8 ho7 hb7)
    | (at_builtin; have hn : Bytes (w8.alloc (.cells #[.int .u8 p5, .int .u8 p6, .int .u8 0, .int .u8 0] 5)) (some ⟨w8.heap.size, 0, none⟩) 4 [p5, p6, 0, 0] := Bytes.new w8 _ [p5, p6, 0, 0] (by intro x hx; simp at hx; omega) (by simp); have ho9 := ho8.alloc (.cells #[.int .u8 p5, .int .u8 p6, .int .u8 0, .int .u8 0] 5); have hX9 := hX8.alloc (.cells #[.int .u8 p5, .int .u8 p6, .int .u8 0, .int .u8 0] 5); refine append_bytes rfl (.tmp 54) (.tmp 61) 22 rfl W0.heap.size 5 i0 (.int .u8 0) Try.underlying22 hi hz0 hz1 hz2 rfl _ _ _ rfl ho9 _ 4 4 _ rfl hn (by simp) (by omega) hX9.size ?_; intro va wa hoa hga; have hXa := grown_ext hX9 ho9 hga; clear hga ho9 hn ho8))
  refine wp_region_eagerN W0.heap.size [(0, false), (1, false), (2, false), (5, false), (6, false), (3, true), (4, true), (7, true), (8, true), (9, false)] (by kernel_rfl) (by kernel_rfl) rfl (by kernel_rfl) (fun _ _ _ _ _ h => h) ?_
  have hXb : Ext W0 wa.drew := hXa.drew
  have hob := owns_later hoa (Ext.refl wa).drew
  have y7 : ∀ w', ExtN W0.heap.size wa.drew w' → w'.cell? ⟨w.heap.size, 7, none⟩ = some (.int .u32 p7) := fun w' hx => b7 w' (ExtN.ext hXb hx (Nat.le_refl _))
  have y8 : ∀ w', ExtN W0.heap.size wa.drew w' → w'.cell? ⟨w.heap.size, 8, none⟩ = some (.int .u32 p8) := fun w' hx => b8 w' (ExtN.ext hXb hx (Nat.le_refl _))
  clear hXa hoa e1 e2 e3 e4 e5 e6 e7
  generalize wa.drew = V at *
  (refine wpE_read (v := ?_) rfl (by rfl) ?_ ?_; rotate_left; (focus (intro w' hx; go_simp; first | done | with_reducible rfl)); simp only [Act.put, List.setIfInBounds_toArray, List.set_cons_zero, List.set_cons_succ])
  (refine wpE_read (v := ?_) rfl (by rfl) ?_ ?_; rotate_left; (focus (intro w' hx; go_simp; first | done | with_reducible rfl)); simp only [Act.put, List.setIfInBounds_toArray, List.set_cons_zero, List.set_cons_succ])
  (refine wpE_read (v := ?_) rfl (by rfl) ?_ ?_; rotate_left; (focus (intro w' hx; go_simp; first | done | with_reducible rfl)); simp only [Act.put, List.setIfInBounds_toArray, List.set_cons_zero, List.set_cons_succ])
  (refine wpE_read (v := ?_) rfl (by rfl) ?_ ?_; rotate_left; (focus (intro w' hx; go_simp; first | done | with_reducible rfl)); simp only [Act.put, List.setIfInBounds_toArray, List.set_cons_zero, List.set_cons_succ])
  (refine wpE_read (v := ?_) rfl (by rfl) ?_ ?_; rotate_left; (focus (intro w' hx; go_simp; first | done | with_reducible rfl)); simp only [Act.put, List.setIfInBounds_toArray, List.set_cons_zero, List.set_cons_succ])
  clear y7 y8
  refine wpE_call rfl (by rfl) (fun K hK => ?_); go_simp; (go_at_call 37; refine (refPut32_new _ _ (by omega) (by omega)).mono ?_; rintro e V1 ⟨q1, rfl, hb1, hx1⟩; refine hK _ _ (hx1.upto _) ?_; clear hK K; have hX1 := hXb.trans hx1; have ho1 := owns_later hob hx1; clear hob hx1)
  refine wpE_call rfl (by rfl) (fun K hK => ?_)
  refine wp_append_bytes (.tmp 63) (.tmp 66) 22 rfl W0.heap.size 5 i0 (.int .u8 0) Try.underlying22 hi hz0 hz1 hz2 rfl _ _ _ rfl ho1 q1 4 4 _ rfl hb1 (hb1.has (by omega) _) (by omega) hX1.size ?_
  intro v2 V2 ho2 hg2
  have hX2 := grown_ext hX1 ho1 hg2
  refine hK _ _ (grown_N ho1 hg2) ?_
  clear hK K hg2 ho1 hb1
  simp only [Act.put, List.setIfInBounds_toArray, List.set_cons_zero, List.set_cons_succ]
  refine wpE_call rfl (by rfl) (fun K hK => ?_); go_simp; (go_at_call 37; refine (refPut32_new _ _ (by omega) (by omega)).mono ?_; rintro e V3 ⟨q3, rfl, hb3, hx3⟩; refine hK _ _ (hx3.upto _) ?_; clear hK K; have hX3 := hX2.trans hx3; have ho3 := owns_later ho2 hx3; clear ho2 hx3)
  refine wpE_call rfl (by rfl) (fun K hK => ?_)
  refine wp_append_bytes (.tmp 67) (.tmp 70) 22 rfl W0.heap.size 5 i0 (.int .u8 0) Try.underlying22 hi hz0 hz1 hz2 rfl _ _ _ rfl ho3 q3 4 4 _ rfl hb3 (hb3.has (by omega) _) (by omega) hX3.size ?_
  intro v4' V4 ho4' hg4
  have hX4' := grown_ext hX3 ho3 hg4
  refine hK _ _ (grown_N ho3 hg4) ?_
  clear hK K hg4 ho3 hb3
  simp only [Act.put, List.setIfInBounds_toArray, List.set_cons_zero, List.set_cons_succ]
  (refine wpE_read (v := ?_) rfl (by rfl) ?_ ?_; rotate_left; (focus (intro w' hx; go_simp; first | done | with_reducible rfl)); simp only [Act.put, List.setIfInBounds_toArray, List.set_cons_zero, List.set_cons_succ])
  refine wpE_done ?_
  have hb9 := h1.below (hx0.trans hX4')
  go_wp2_with (first
    | (at_builtin; refine append_bytes rfl (.tmp 72) (.tmp 74) 22 rfl W0.heap.size 5 i0 (.int .u8 0) Try.underlying22 hi hz0 hz1 hz2 rfl _ _ _ rfl ho4' a1 n1 c1 _ rfl hb9 z1 (by omega) hX4'.size ?_; intro v5 V5 ho5' hg5; have hX5' := grown_ext hX4' ho4' hg5; clear hg5 ho4' hb9; have ho6' : V5.ownsRow W0.heap.size 5 1 v5 (20 + n1) (XX.map (Value.int .u8)) := (by rw [← HX.out]; have e : 2 + 2 + 2 + 2 + 4 + 4 + 4 + n1 = 20 + n1 := (by omega); rw [← e]; exact ho5'); clear ho5'; obtain ⟨g, c5', rfl, hO⟩ := OwnB.of_owns ho6' (by omega) fo)
    | (go_at_call 38; have co := refOf_any _ (20 + n1) c5' XX V5 hO.bytes (by omega); rw [HS.out] at co; refine co.mono ?_; clear co; rintro e V6 ⟨rfl, rfl⟩; have m10 := hO.cell (k := 10) (by omega); have m11 := hO.cell (k := 11) (by omega); have f10 := hO.frozen 10; have f11 := hO.frozen 11; have hgw := hO.lt; have hgne : g ≠ V6.heap.size := (by omega))
    | (go_at_call 36; refine (refPut16_any _ _ (by omega) (by omega)).mono ?_; rintro e V7 ⟨rfl, rfl⟩))
  go_region
  have hoz := owns_later (owns_put 11 (ck % 256) (owns_put 10 (ck / 256 % 256) ho6' (by omega)) (by omega)) (((Ext.refl _).alloc (.cells #[.int .u8 (ck / 256 % 256), .int .u8 (ck % 256)] 5)).drew)
  have hXz := ((ExtX.ext hX5' (((ExtX.refl g V6).setCell (p := ⟨g, 10, none⟩) rfl (.int .u8 (ck / 256 % 256))).setCell (p := ⟨g, 11, none⟩) rfl (.int .u8 (ck % 256))) hO.base).alloc (.cells #[.int .u8 (ck / 256 % 256), .int .u8 (ck % 256)] 5)).drew
  clear m10 m11 f10 f11 ho6' hX5' hO hgw hgne
  generalize (((V6.setCell ⟨g, 10, none⟩ (.int .u8 (ck / 256 % 256))).setCell ⟨g, 11, none⟩ (.int .u8 (ck % 256))).alloc (.cells #[.int .u8 (ck / 256 % 256), .int .u8 (ck % 256)] 5)).drew = Vz at hoz hXz ⊢
  have hbD := h2.below (hx0.trans hXz)
  go_wp2_with (at_builtin; refine append_bytes rfl (.tmp 89) (.tmp 91) 22 rfl W0.heap.size 5 i0 (.int .u8 0) Try.underlying22 hi hz0 hz1 hz2 rfl _ _ _ rfl hoz a2 n2 c2 _ rfl hbD z2 (by omega) hXz.size ?_; intro vY VY hoY hgY; have hXY := grown_ext hXz hoz hgY; rw [HPt.out] at hoY; obtain ⟨qY, cY, rfl⟩ := owns_shape hoY; have oY := owns_base hoY hx0.size; clear hgY hoz)
  exact (HP.out _ _).2 ⟨qY, cY, rfl, oY, hx0.trans hXY⟩

set_option maxHeartbeats 2000000 in
theorem refBuild_tt (p0 p1 p4 p5 p6 p7 p8 : Int) (p9 pa : List Int) (a1 : Option Addr) (n1 c1 : Nat) (a2 : Option Addr) (n2 c2 : Nat) (w : World) (h1 : Bytes w a1 n1 p9) (z1 : a1 = none → c1 = 0) (h2 : Bytes w a2 n2 pa) (z2 : a2 = none → c2 = 0)
    (f : Fine ⟨p0, p1, true, true, p4, p5, p6, p7, p8, p9, pa⟩) (hp : Fits ⟨p0, p1, true, true, p4, p5, p6, p7, p8, p9, pa⟩) (hn2 : n2 ≤ 1500) :
    Calls Try.prog 21 #[.agg #[.int .i64 p0, .int .i64 p1, .bool true, .bool true, .int .i64 p4, .int .i64 p5, .int .i64 p6, .int .u32 p7, .int .u32 p8, .slice a1 n1 c1, .slice a2 n2 c2]] w (RefBuildOwn w ⟨p0, p1, true, true, p4, p5, p6, p7, p8, p9, pa⟩ (20 + n1 + n2)) := by
  have l1 := h1.length
  have l2 := h2.length
  have cf := fun w => refIs_any ⟨p0, p1, true, true, p4, p5, p6, p7, p8, p9, pa⟩ a1 n1 c1 a2 n2 c2 w l1 (by have := h1.small; exact this)
  rw [(isV_iff _).2 hp] at cf
  have HP : Hid (∀ e w', RefBuildOwn w ⟨p0, p1, true, true, p4, p5, p6, p7, p8, p9, pa⟩ (20 + n1 + n2) e w' ↔ ∃ q c, e = .returned (.tuple #[.slice q (20 + n1 + n2) c, .int .i64 0]) ∧ w'.ownsRow w.heap.size 5 1 (.slice q (20 + n1 + n2) c) (20 + n1 + n2) ((buildV ⟨p0, p1, true, true, p4, p5, p6, p7, p8, p9, pa⟩).map (Value.int .u8)) ∧ Ext w w') := fun e w' => Iff.rfl
  generalize RefBuildOwn w ⟨p0, p1, true, true, p4, p5, p6, p7, p8, p9, pa⟩ (20 + n1 + n2) = Ans at *
  have hform := ref_form f hp
  have hck : 0 ≤ checkV ⟨p0, p1, true, true, p4, p5, p6, p7, p8, p9, pa⟩ ∧ checkV ⟨p0, p1, true, true, p4, p5, p6, p7, p8, p9, pa⟩ ≤ 65535 := check_bd f hp
  have okB := build_ok f hp
  obtain ⟨t0, t1, u0, u1, r0, r1, i0', i1', o0, o1, n4, n40⟩ := hp
  obtain ⟨s0, s1, d0', d1', ho', hd'⟩ := f
  dsimp only at *
  rw [l1] at n4 n40
  have hor := or_flag p4 16384 o0 (by omega) (by decide)
  have hor2 := or_flag2 p4 o0 (by omega)
  obtain ⟨fv, hfv⟩ : ∃ fv, p4 + 24576 = fv := ⟨_, rfl⟩
  rw [hfv] at hor2
  have hfb : 0 ≤ fv ∧ fv ≤ 65535 := by omega
  have hF := (show flagV true true + p4 = fv by simp [flagV]; omega)
  have hX1 : refA (64 + (20 + (n1 : Int)) / 4) p0 (20 + (n1 : Int) + n2) p1 fv p5 p6 p7 p8 p9 = refX ⟨p0, p1, true, true, p4, p5, p6, p7, p8, p9, pa⟩ := by unfold refX; dsimp only; rw [l1, l2, hF]
  have HX : Hid _ := hX1
  obtain ⟨fs, fl', fo, fp⟩ := hform
  dsimp only at fp fl'
  rw [l1] at fl'
  have HS : Hid _ := fs
  have HPt : Hid _ := fp
  clear hX1 fs fp
  generalize refX ⟨p0, p1, true, true, p4, p5, p6, p7, p8, p9, pa⟩ = XX at *
  generalize checkV ⟨p0, p1, true, true, p4, p5, p6, p7, p8, p9, pa⟩ = ck at *
  generalize buildV ⟨p0, p1, true, true, p4, p5, p6, p7, p8, p9, pa⟩ = Y at *
  have hx0 : Ext w (w.alloc (.cells #[.int .i64 p0, .int .i64 p1, .bool true, .bool true, .int .i64 p4, .int .i64 p5, .int .i64 p6, .int .u32 p7, .int .u32 p8, .slice a1 n1 c1, .slice a2 n2 c2] 25)) := (Ext.refl w).alloc _
  obtain ⟨b0, b1, b2, b3, b4, b5, b6, b7, b8, b9, ba⟩ := box_ipE (heap_new' w (.cells #[.int .i64 p0, .int .i64 p1, .bool true, .bool true, .int .i64 p4, .int .i64 p5, .int .i64 p6, .int .u32 p7, .int .u32 p8, .slice a1 n1 c1, .slice a2 n2 c2] 25))
  obtain ⟨i0, hi, hz0, hz1, hz2⟩ := info_parts Try.infoByte
  have e1 : IntKind.i64.wrap ((20 + (n1 : Int)).tdiv 4) = (20 + (n1 : Int)) / 4 := by rw [Int.tdiv_eq_ediv_of_nonneg (by omega), IntKind.wrap_i64]; omega
  have e2 : IntKind.u8.wrap (64 + (20 + (n1 : Int)) / 4) = 64 + (20 + (n1 : Int)) / 4 := by rw [IntKind.wrap_u8]; omega
  have e3 : IntKind.u8.wrap p0 = p0 := by rw [IntKind.wrap_u8]; omega
  have e4 : IntKind.u8.wrap p5 = p5 := by rw [IntKind.wrap_u8]; omega
  have e5 : IntKind.u8.wrap p6 = p6 := by rw [IntKind.wrap_u8]; omega
  have e6 : IntKind.i64.wrap (64 + (20 + (n1 : Int)) / 4) = 64 + (20 + (n1 : Int)) / 4 := by rw [IntKind.wrap_i64]; omega
  have e7 : IntKind.i64.wrap (20 + (n1 : Int) + n2) = 20 + (n1 : Int) + n2 := by rw [IntKind.wrap_i64]; omega
  have hhb : 0 ≤ 64 + (20 + (n1 : Int)) / 4 ∧ 64 + (20 + (n1 : Int)) / 4 ≤ 255 := by omega
  have hcl := hF
  clear hF hcl
  go_enter Try.func21, Try.ntmps21
  go_wp2_with (go_at_call 20; refine (cf _).mono ?_; rintro e w1 ⟨rfl, hx1⟩)
  have hX : Ext (w.alloc (.cells #[.int .i64 p0, .int .i64 p1, .bool true, .bool true, .int .i64 p4, .int .i64 p5, .int .i64 p6, .int .u32 p7, .int .u32 p8, .slice a1 n1 c1, .slice a2 n2 c2] 25)) w1.drew := hx1.drew
  have hsz : (w.alloc (.cells #[.int .i64 p0, .int .i64 p1, .bool true, .bool true, .int .i64 p4, .int .i64 p5, .int .i64 p6, .int .u32 p7, .int .u32 p8, .slice a1 n1 c1, .slice a2 n2 c2] 25)).heap.size ≤ w1.heap.size := hx1.size
  generalize (w.alloc (.cells #[.int .i64 p0, .int .i64 p1, .bool true, .bool true, .int .i64 p4, .int .i64 p5, .int .i64 p6, .int .u32 p7, .int .u32 p8, .slice a1 n1 c1, .slice a2 n2 c2] 25)) = W0 at *
  refine wp_region_make W0.heap.size hsz [(0, 0), (1, 0), (2, 0), (3, 0), (4, 0), (5, 0), (6, 0), (8, 0), (9, 0), (10, 0), (11, 0), (12, 0), (7, 3), (13, 1), (7, 2), (14, 1), (15, 0)] (by kernel_rfl) (by kernel_rfl) rfl (by kernel_rfl) (fun _ _ _ _ _ => Iff.rfl) ?_
  clear hx1 cf hsz
  generalize w1.drew = W at *
  have x0 := fun w' h => b0 w' (hX.trans h)
  have xa := fun w' h => ba w' (hX.trans h)
  repeat (first
    | (refine wpW_read (v := ?_) rfl (by rfl) ?_ ?_; rotate_left; (focus (intro w' hx; go_simp; first | done | with_reducible rfl)); simp only [Act.put, List.setIfInBounds_toArray, List.set_cons_zero, List.set_cons_succ]))
  clear x0 xa
  (refine wpW_say _ (fun g => .slice (some ⟨g, 0, none⟩) 2 2) rfl (by rfl) (fun w' => by go_simp; first | done | with_reducible rfl) ?_)
  refine wpW_call rfl (by rfl) (fun W1 hx1 K hK => ?_); go_simp; (go_at_call 36; refine (refPut16_new _ _ (by omega) (by omega)).mono ?_; rintro e W1' ⟨q1, rfl, hq1, hx1'⟩; refine hK _ _ hx1' ?_; clear hK K)
  refine wpW_make _ (fun g => .slice (some ⟨g, 0, none⟩) 2 2) rfl (by rfl) (fun w' => by go_simp; first | done | with_reducible rfl) ?_; simp only [Act.put, List.setIfInBounds_toArray, List.set_cons_zero, List.set_cons_succ]; intro W2 g2 hx2 hB2 hg2
  refine wpW_call rfl (by rfl) (fun W3 hx3 K hK => ?_)
  refine wp_append_full (.tmp 38) (.tmp 44) 22 rfl 5 i0 (.int .u8 0) Try.underlying22 hi hz0 hz1 hz2 rfl g2 2 [64 + (20 + (n1 : Int)) / 4, p0] rfl (hx3.heap hg2) rfl q1 2 2 _ rfl (hq1.below (hx2.trans hx3)) (hq1.has (by omega) _) (by omega) W0.heap.size hB2 ?_
  intro v4 W4 ho4 hx4
  refine hK _ _ hx4 ?_
  clear hK K
  simp only [Act.put, List.setIfInBounds_toArray, List.set_cons_zero, List.set_cons_succ]
  have hX4 : Ext W0 W4 := hX.trans (hx1.trans (hx1'.trans (hx2.trans (hx3.trans hx4))))
  clear hg2 hq1 hx1 hx1' hx2 hx3 hx4 hB2 hX
  (refine wpW_read (v := ?_) rfl (by rfl) ?_ ?_; rotate_left; (focus (intro w' hx; go_simp; first | done | with_reducible rfl)); simp only [Act.put, List.setIfInBounds_toArray, List.set_cons_zero, List.set_cons_succ])
  refine wpW_done ?_
  have tA : Hid True := trivial
  have tB : Hid True := trivial
  have tC : Hid True := trivial
  have tD : Hid True := trivial
  go_wp2_with (first
    | (go_at_call 36; clear tA; refine (refPut16_new _ _ (by omega) (by omega)).mono ?_; rintro e w5 ⟨q5, rfl, hb5, hx5⟩; have ho5 := owns_later ho4 hx5; have hX5 := hX4.trans hx5; clear ho4 hx5)
    | (at_builtin; clear tB; refine append_bytes rfl (.tmp 46) (.tmp 49) 22 rfl W0.heap.size 5 i0 (.int .u8 0) Try.underlying22 hi hz0 hz1 hz2 rfl _ _ _ rfl ho5 q5 2 2 _ rfl hb5 (hb5.has (by omega) _) (by omega) hX5.size ?_; intro v6 w6 ho6 hg6; have hX6 := grown_ext hX5 ho5 hg6; clear hg6 ho5 hb5)
    | (go_at_call 36; clear tC; refine (refPut16_new _ _ (by omega) (by omega)).mono ?_; rintro e w7 ⟨q7, rfl, hb7, hx7⟩; have ho7 := owns_later ho6 hx7; have hX7 := hX6.trans hx7; clear ho6 hx7)
    | (at_builtin; clear tD; refine append_bytes rfl (.tmp 50) (.tmp 52) 22 rfl W0.heap.size 5 i0 (.int .u8 0) Try.underlying22 hi hz0 hz1 hz2 rfl _ _ _ rfl ho7 q7 2 2 _ rfl hb7 (hb7.has (by omega) _) (by omega) hX7.size ?_; intro v8 w8 ho8 hg8; have hX8 := grown_ext hX7 ho7 hg8; clear hg8 ho7 hb7)
    | (at_builtin; have hn : Bytes (w8.alloc (.cells #[.int .u8 p5, .int .u8 p6, .int .u8 0, .int .u8 0] 5)) (some ⟨w8.heap.size, 0, none⟩) 4 [p5, p6, 0, 0] := Bytes.new w8 _ [p5, p6, 0, 0] (by intro x hx; simp at hx; omega) (by simp); have ho9 := ho8.alloc (.cells #[.int .u8 p5, .int .u8 p6, .int .u8 0, .int .u8 0] 5); have hX9 := hX8.alloc (.cells #[.int .u8 p5, .int .u8 p6, .int .u8 0, .int .u8 0] 5); refine append_bytes rfl (.tmp 54) (.tmp 61) 22 rfl W0.heap.size 5 i0 (.int .u8 0) Try.underlying22 hi hz0 hz1 hz2 rfl _ _ _ rfl ho9 _ 4 4 _ rfl hn (by simp) (by omega) hX9.size ?_; intro va wa hoa hga; have hXa := grown_ext hX9 ho9 hga; clear hga ho9 hn ho8))
  refine wp_region_eagerN W0.heap.size [(0, false), (1, false), (2, false), (5, false), (6, false), (3, true), (4, true), (7, true), (8, true), (9, false)] (by kernel_rfl) (by kernel_rfl) rfl (by kernel_rfl) (fun _ _ _ _ _ h => h) ?_
  have hXb : Ext W0 wa.drew := hXa.drew
  have hob := owns_later hoa (Ext.refl wa).drew
  have y7 : ∀ w', ExtN W0.heap.size wa.drew w' → w'.cell? ⟨w.heap.size, 7, none⟩ = some (.int .u32 p7) := fun w' hx => b7 w' (ExtN.ext hXb hx (Nat.le_refl _))
  have y8 : ∀ w', ExtN W0.heap.size wa.drew w' → w'.cell? ⟨w.heap.size, 8, none⟩ = some (.int .u32 p8) := fun w' hx => b8 w' (ExtN.ext hXb hx (Nat.le_refl _))
  clear hXa hoa e1 e2 e3 e4 e5 e6 e7
  generalize wa.drew = V at *
  (refine wpE_read (v := ?_) rfl (by rfl) ?_ ?_; rotate_left; (focus (intro w' hx; go_simp; first | done | with_reducible rfl)); simp only [Act.put, List.setIfInBounds_toArray, List.set_cons_zero, List.set_cons_succ])
  (refine wpE_read (v := ?_) rfl (by rfl) ?_ ?_; rotate_left; (focus (intro w' hx; go_simp; first | done | with_reducible rfl)); simp only [Act.put, List.setIfInBounds_toArray, List.set_cons_zero, List.set_cons_succ])
  (refine wpE_read (v := ?_) rfl (by rfl) ?_ ?_; rotate_left; (focus (intro w' hx; go_simp; first | done | with_reducible rfl)); simp only [Act.put, List.setIfInBounds_toArray, List.set_cons_zero, List.set_cons_succ])
  (refine wpE_read (v := ?_) rfl (by rfl) ?_ ?_; rotate_left; (focus (intro w' hx; go_simp; first | done | with_reducible rfl)); simp only [Act.put, List.setIfInBounds_toArray, List.set_cons_zero, List.set_cons_succ])
  (refine wpE_read (v := ?_) rfl (by rfl) ?_ ?_; rotate_left; (focus (intro w' hx; go_simp; first | done | with_reducible rfl)); simp only [Act.put, List.setIfInBounds_toArray, List.set_cons_zero, List.set_cons_succ])
  clear y7 y8
  refine wpE_call rfl (by rfl) (fun K hK => ?_); go_simp; (go_at_call 37; refine (refPut32_new _ _ (by omega) (by omega)).mono ?_; rintro e V1 ⟨q1, rfl, hb1, hx1⟩; refine hK _ _ (hx1.upto _) ?_; clear hK K; have hX1 := hXb.trans hx1; have ho1 := owns_later hob hx1; clear hob hx1)
  refine wpE_call rfl (by rfl) (fun K hK => ?_)
  refine wp_append_bytes (.tmp 63) (.tmp 66) 22 rfl W0.heap.size 5 i0 (.int .u8 0) Try.underlying22 hi hz0 hz1 hz2 rfl _ _ _ rfl ho1 q1 4 4 _ rfl hb1 (hb1.has (by omega) _) (by omega) hX1.size ?_
  intro v2 V2 ho2 hg2
  have hX2 := grown_ext hX1 ho1 hg2
  refine hK _ _ (grown_N ho1 hg2) ?_
  clear hK K hg2 ho1 hb1
  simp only [Act.put, List.setIfInBounds_toArray, List.set_cons_zero, List.set_cons_succ]
  refine wpE_call rfl (by rfl) (fun K hK => ?_); go_simp; (go_at_call 37; refine (refPut32_new _ _ (by omega) (by omega)).mono ?_; rintro e V3 ⟨q3, rfl, hb3, hx3⟩; refine hK _ _ (hx3.upto _) ?_; clear hK K; have hX3 := hX2.trans hx3; have ho3 := owns_later ho2 hx3; clear ho2 hx3)
  refine wpE_call rfl (by rfl) (fun K hK => ?_)
  refine wp_append_bytes (.tmp 67) (.tmp 70) 22 rfl W0.heap.size 5 i0 (.int .u8 0) Try.underlying22 hi hz0 hz1 hz2 rfl _ _ _ rfl ho3 q3 4 4 _ rfl hb3 (hb3.has (by omega) _) (by omega) hX3.size ?_
  intro v4' V4 ho4' hg4
  have hX4' := grown_ext hX3 ho3 hg4
  refine hK _ _ (grown_N ho3 hg4) ?_
  clear hK K hg4 ho3 hb3
  simp only [Act.put, List.setIfInBounds_toArray, List.set_cons_zero, List.set_cons_succ]
  (refine wpE_read (v := ?_) rfl (by rfl) ?_ ?_; rotate_left; (focus (intro w' hx; go_simp; first | done | with_reducible rfl)); simp only [Act.put, List.setIfInBounds_toArray, List.set_cons_zero, List.set_cons_succ])
  refine wpE_done ?_
  have hb9 := h1.below (hx0.trans hX4')
  go_wp2_with (first
    | (at_builtin; refine append_bytes rfl (.tmp 72) (.tmp 74) 22 rfl W0.heap.size 5 i0 (.int .u8 0) Try.underlying22 hi hz0 hz1 hz2 rfl _ _ _ rfl ho4' a1 n1 c1 _ rfl hb9 z1 (by omega) hX4'.size ?_; intro v5 V5 ho5' hg5; have hX5' := grown_ext hX4' ho4' hg5; clear hg5 ho4' hb9; have ho6' : V5.ownsRow W0.heap.size 5 1 v5 (20 + n1) (XX.map (Value.int .u8)) := (by rw [← HX.out]; have e : 2 + 2 + 2 + 2 + 4 + 4 + 4 + n1 = 20 + n1 := (by omega); rw [← e]; exact ho5'); clear ho5'; obtain ⟨g, c5', rfl, hO⟩ := OwnB.of_owns ho6' (by omega) fo)
    | (go_at_call 38; have co := refOf_any _ (20 + n1) c5' XX V5 hO.bytes (by omega); rw [HS.out] at co; refine co.mono ?_; clear co; rintro e V6 ⟨rfl, rfl⟩; have m10 := hO.cell (k := 10) (by omega); have m11 := hO.cell (k := 11) (by omega); have f10 := hO.frozen 10; have f11 := hO.frozen 11; have hgw := hO.lt; have hgne : g ≠ V6.heap.size := (by omega))
    | (go_at_call 36; refine (refPut16_any _ _ (by omega) (by omega)).mono ?_; rintro e V7 ⟨rfl, rfl⟩))
  go_region
  have hoz := owns_later (owns_put 11 (ck % 256) (owns_put 10 (ck / 256 % 256) ho6' (by omega)) (by omega)) (((Ext.refl _).alloc (.cells #[.int .u8 (ck / 256 % 256), .int .u8 (ck % 256)] 5)).drew)
  have hXz := ((ExtX.ext hX5' (((ExtX.refl g V6).setCell (p := ⟨g, 10, none⟩) rfl (.int .u8 (ck / 256 % 256))).setCell (p := ⟨g, 11, none⟩) rfl (.int .u8 (ck % 256))) hO.base).alloc (.cells #[.int .u8 (ck / 256 % 256), .int .u8 (ck % 256)] 5)).drew
  clear m10 m11 f10 f11 ho6' hX5' hO hgw hgne
  generalize (((V6.setCell ⟨g, 10, none⟩ (.int .u8 (ck / 256 % 256))).setCell ⟨g, 11, none⟩ (.int .u8 (ck % 256))).alloc (.cells #[.int .u8 (ck / 256 % 256), .int .u8 (ck % 256)] 5)).drew = Vz at hoz hXz ⊢
  have hbD := h2.below (hx0.trans hXz)
  go_wp2_with (at_builtin; refine append_bytes rfl (.tmp 89) (.tmp 91) 22 rfl W0.heap.size 5 i0 (.int .u8 0) Try.underlying22 hi hz0 hz1 hz2 rfl _ _ _ rfl hoz a2 n2 c2 _ rfl hbD z2 (by omega) hXz.size ?_; intro vY VY hoY hgY; have hXY := grown_ext hXz hoz hgY; rw [HPt.out] at hoY; obtain ⟨qY, cY, rfl⟩ := owns_shape hoY; have oY := owns_base hoY hx0.size; clear hgY hoz)
  exact (HP.out _ _).2 ⟨qY, cY, rfl, oY, hx0.trans hXY⟩

/-- What Build answers of a packet that may be built. -/
theorem refBuild_own (p : IPv) (a1 : Option Addr) (n1 c1 : Nat) (a2 : Option Addr) (n2 c2 : Nat) (w : World) (h1 : Bytes w a1 n1 p.opts) (z1 : a1 = none → c1 = 0) (h2 : Bytes w a2 n2 p.data) (z2 : a2 = none → c2 = 0)
    (f : Fine p) (hp : Fits p) (hn2 : n2 ≤ 1500) : Calls Try.prog 21 #[.agg #[.int .i64 p.tos, .int .i64 p.id, .bool p.df, .bool p.mf, .int .i64 p.off, .int .i64 p.ttl, .int .i64 p.proto, .int .u32 p.src, .int .u32 p.dst, .slice a1 n1 c1, .slice a2 n2 c2]] w (RefBuildOwn w p (20 + n1 + n2)) := by
  obtain ⟨p0, p1, p2, p3, p4, p5, p6, p7, p8, p9, pa⟩ := p
  cases p2 <;> cases p3
  · exact refBuild_ff p0 p1 p4 p5 p6 p7 p8 p9 pa a1 n1 c1 a2 n2 c2 w h1 z1 h2 z2 f hp hn2
  · exact refBuild_ft p0 p1 p4 p5 p6 p7 p8 p9 pa a1 n1 c1 a2 n2 c2 w h1 z1 h2 z2 f hp hn2
  · exact refBuild_tf p0 p1 p4 p5 p6 p7 p8 p9 pa a1 n1 c1 a2 n2 c2 w h1 z1 h2 z2 f hp hn2
  · exact refBuild_tt p0 p1 p4 p5 p6 p7 p8 p9 pa a1 n1 c1 a2 n2 c2 w h1 z1 h2 z2 f hp hn2

theorem refBuild_good (p : IPv) (a1 : Option Addr) (n1 c1 : Nat) (a2 : Option Addr) (n2 c2 : Nat) (w : World) (h1 : Bytes w a1 n1 p.opts) (z1 : a1 = none → c1 = 0) (h2 : Bytes w a2 n2 p.data) (z2 : a2 = none → c2 = 0)
    (f : Fine p) (hp : Fits p) (hn2 : n2 ≤ 1500) : Calls Try.prog 21 #[.agg #[.int .i64 p.tos, .int .i64 p.id, .bool p.df, .bool p.mf, .int .i64 p.off, .int .i64 p.ttl, .int .i64 p.proto, .int .u32 p.src, .int .u32 p.dst, .slice a1 n1 c1, .slice a2 n2 c2]] w (RefBuildAns w p (20 + n1 + n2)) :=
  (refBuild_own p a1 n1 c1 a2 n2 c2 w h1 z1 h2 z2 f hp hn2).mono fun e w' ⟨q, c, he, ho, hx⟩ => ⟨q, c, he, (owns_slice ho (build_ok f hp)).1, hx⟩

set_option maxHeartbeats 1000000 in
theorem refBuild_bad (p : IPv) (a1 : Option Addr) (n1 c1 : Nat) (a2 : Option Addr) (n2 c2 : Nat) (w : World) (h1 : p.opts.length = n1) (hn : n1 ≤ 9223372036854775807) (hv : isV p = false) :
    Calls Try.prog 21 #[.agg #[.int .i64 p.tos, .int .i64 p.id, .bool p.df, .bool p.mf, .int .i64 p.off, .int .i64 p.ttl, .int .i64 p.proto, .int .u32 p.src, .int .u32 p.dst, .slice a1 n1 c1, .slice a2 n2 c2]] w fun e w' => e = .returned (.tuple #[.slice none 0 0, .int .i64 1]) ∧ Ext w w' := by
  have c := fun w => refIs_any p a1 n1 c1 a2 n2 c2 w h1 hn
  rw [hv] at c
  obtain ⟨p0, p1, p2, p3, p4, p5, p6, p7, p8, p9, pa⟩ := p
  dsimp only at *
  have hx : Ext w (w.alloc (.cells #[.int .i64 p0, .int .i64 p1, .bool p2, .bool p3, .int .i64 p4, .int .i64 p5, .int .i64 p6, .int .u32 p7, .int .u32 p8, .slice a1 n1 c1, .slice a2 n2 c2] 25)) := (Ext.refl w).alloc _
  go_enter Try.func21, Try.ntmps21
  go_wp2_with (go_at_call 20; refine (c _).mono ?_; rintro e w1 ⟨rfl, hx1⟩)
  go_ret2
  exact ⟨rfl, hx.trans hx1⟩

end Go.Proofs.Ytkagkfbdpiblkaa
