/- A Rib and the document's side by side; scripts, played. -/
import Derived.Test.YtbchfmadmcppkaaLaw11
namespace Go.Proofs.Ytbchfmadmcppkaa.Rb
set_option maxRecDepth 100000
open Go.RowKit Go.Proofs.Ytbchfmadmcppkaa
set_option linter.unusedVariables false
set_option linter.unusedSimpArgs false

abbrev ActV := Bool × Int × Int × Int × Int × Int × Int
def actC (z : ActV) : List Value := [.bool (z.1), .int .i64 (z.2.1), .int .u32 (z.2.2.1), .int .i64 (z.2.2.2.1), .int .i64 (z.2.2.2.2.1), .int .u32 (z.2.2.2.2.2.1), .int .i64 (z.2.2.2.2.2.2)]
def actOk (z : ActV) : Prop := (Lit.int .i64 (z.2.1)).wf = true ∧ (Lit.int .u32 (z.2.2.1)).wf = true ∧ (Lit.int .i64 (z.2.2.2.1)).wf = true ∧ (Lit.int .i64 (z.2.2.2.2.1)).wf = true ∧ (Lit.int .u32 (z.2.2.2.2.2.1)).wf = true ∧ (Lit.int .i64 (z.2.2.2.2.2.2)).wf = true
def actR (z : ActV) : Rt := ⟨z.2.1, z.2.2.1, z.2.2.2.1, z.2.2.2.2.1, z.2.2.2.2.2.1, z.2.2.2.2.2.2⟩

theorem rtOk_of {t a l i g m : Int} (h0 : (Lit.int .i64 t).wf = true) (h1 : (Lit.int .u32 a).wf = true) (h2 : (Lit.int .i64 l).wf = true) (h3 : (Lit.int .i64 i).wf = true) (h4 : (Lit.int .u32 g).wf = true) (h5 : (Lit.int .i64 m).wf = true) : RtOk ⟨t, a, l, i, g, m⟩ := by
  have b0 := bounds_i64 h0
  have b1 := bounds_u32 h1
  have b2 := bounds_i64 h2
  have b3 := bounds_i64 h3
  have b4 := bounds_u32 h4
  have b5 := bounds_i64 h5
  exact ⟨b0.1, b0.2, b1.1, b1.2, b2.1, b2.2, b3.1, b3.2, b4.1, b4.2, b5.1, b5.2⟩

theorem act_cells {w : World} {a : Option Addr} {len cap : Nat} {zs : List ActV} (h : IsRowG 7 actC actOk w a len cap zs) {k : Nat} (hk : k < len) :
    ∃ (b off : Nat) (d : Bool) (r : Rt), a = some ⟨b, off, none⟩ ∧ RtOk r ∧ b < w.heap.size ∧ w.cell? ⟨b, off + k * 7, none⟩ = some (.bool d) ∧ w.cell? ⟨b, off + k * 7 + 1, none⟩ = some (.int .i64 r.t) ∧ w.cell? ⟨b, off + k * 7 + 2, none⟩ = some (.int .u32 r.a) ∧ w.cell? ⟨b, off + k * 7 + 3, none⟩ = some (.int .i64 r.l) ∧ w.cell? ⟨b, off + k * 7 + 4, none⟩ = some (.int .i64 r.i) ∧ w.cell? ⟨b, off + k * 7 + 5, none⟩ = some (.int .u32 r.g) ∧ w.cell? ⟨b, off + k * 7 + 6, none⟩ = some (.int .i64 r.m) := by
  have hl := h.length
  obtain ⟨z, hz⟩ : ∃ z, zs[k]? = some z := ⟨_, List.getElem?_eq_getElem (by omega)⟩
  rcases h.cells with h0 | ⟨b, off, rfl, hc⟩
  · omega
  · have h0 := hc k _ hz 0 (by omega)
    have h1 := hc k _ hz 1 (by omega)
    have h2 := hc k _ hz 2 (by omega)
    have h3 := hc k _ hz 3 (by omega)
    have h4 := hc k _ hz 4 (by omega)
    have h5 := hc k _ hz 5 (by omega)
    have h6 := hc k _ hz 6 (by omega)
    obtain ⟨w0, w1, w2, w3, w4, w5⟩ := h.ok _ (List.mem_of_getElem? hz)
    simp only [← Nat.add_assoc, Nat.add_zero] at h0 h1 h2 h3 h4 h5 h6
    exact ⟨b, off, z.1, actR z, rfl, rtOk_of w0 w1 w2 w3 w4 w5, block_lt h0, h0, h1, h2, h3, h4, h5, h6⟩

/-- A Rib of L and the document's of M, in memory of the call's own, apart. -/
structure Two (w wr : World) (rb xb : Nat) (L M : List Rt) (F G : List Nat) : Prop where
  b : RibAt 60 wr rb L F
  x : RibAt 36 wr xb M G
  apart : ∀ y ∈ F, y ∉ G
  f : ∀ y ∈ F, w.heap.size ≤ y
  g : ∀ y ∈ G, w.heap.size ≤ y
  ext : Ext w wr

theorem Two.later {w wr w' : World} {rb xb : Nat} {L M : List Rt} {F G : List Nat} (h : Two w wr rb xb L M F G) (hx : Ext wr w') : Two w w' rb xb L M F G :=
  ⟨h.b.ext hx, h.x.ext hx, h.apart, h.f, h.g, h.ext.trans hx⟩

theorem Two.stepB {w wr w' : World} {rb xb : Nat} {L M L' : List Rt} {F G : List Nat} (h : Two w wr rb xb L M F G) (ha : RibAns 60 wr rb F L' w') : ∃ F', Two w w' rb xb L' M F' G ∧ ExtN w.heap.size wr w' := by
  obtain ⟨F', h1, h2, h3, h4, h5⟩ := ha.own h.ext h.f
  refine ⟨F', ⟨h1, h.x.later h4 fun y hy hf => h.apart y hf hy, fun y hy hg => ?_, h3, h.g, h2⟩, ExtS.toN h4 h.f⟩
  rcases h5 y hy with h6 | h6
  · exact h.apart y h6 hg
  · have := h.x.lt y hg; omega

theorem Two.stepX {w wr w' : World} {rb xb : Nat} {L M M' : List Rt} {F G : List Nat} (h : Two w wr rb xb L M F G) (ha : RibAns 36 wr xb G M' w') : ∃ G', Two w w' rb xb L M' F G' ∧ ExtN w.heap.size wr w' := by
  obtain ⟨G', h1, h2, h3, h4, h5⟩ := ha.own h.ext h.g
  refine ⟨G', ⟨h.b.later h4 fun y hy hg => h.apart y hy hg, h1, fun y hy hg => ?_, h.f, h3, h2⟩, ExtS.toN h4 h.g⟩
  rcases h5 y hg with h6 | h6
  · exact h.apart y hy h6
  · have := h.b.lt y hy; omega

def PlayAns (w : World) (e : Ending) (w' : World) : Prop := ∃ (rb xb : Nat) (L : List Rt) (F G : List Nat), e = .returned (.tuple #[.pointer (some ⟨rb, 0, none⟩), .pointer (some ⟨xb, 0, none⟩), .bool true]) ∧ Good L ∧ Two w w' rb xb L L F G

set_option maxHeartbeats 2000000 in
theorem played_any (a : Option Addr) (len cap : Nat) (zs : List ActV) (w : World) (row : IsRowG 7 actC actOk w a len cap zs) :
    Calls Try.prog 11 #[.slice a len cap] w (PlayAns w) := by
  have hm := row.le
  have hm2 := row.room
  unfold maxLen at hm2
  have HR : Hid (IsRowG 7 actC actOk w a len cap zs) := row
  have k0 := fun w => new_any w
  clear row
  go_enter Try.func11, Try.ntmps11
  go_wp2_with (go_at_call 23; refine (k0 _).mono ?_; rintro e w1 ⟨rfl, h1, hx1⟩)
  have hB0 : Two w (w1.alloc (.cells #[.slice none 0 0] 36)) w.heap.size w1.heap.size [] [] [w.heap.size] [w1.heap.size] := by
    have hl := h1.lt w.heap.size (by simp)
    refine ⟨h1.ext ((Ext.refl w1).alloc _), ⟨.slice none 0 0, rfl, heap_new w1 _, OwnR.nil _ _⟩, ?_, by simp, ?_, hx1.alloc _⟩
    · simp; omega
    · simp; exact hx1.size
  generalize (w1.alloc (.cells #[.slice none 0 0] 36)) = W0 at *
  generalize w1.heap.size = xb at *
  generalize hrb : w.heap.size = rb at *
  clear h1 hx1 k0 hrb
  go_loopw [7] (fun i wr => ∃ (k : Nat) (L : List Rt) (F G : List Nat), k ≤ 60 ∧ k ≤ len ∧ i = .int .i64 k ∧ Hid (Good L ∧ Two w wr rb xb L L F G)) (fun i _ => 60 - (intOf i).toNat)
  case atStart => exact ⟨0, [], _, _, Nat.zero_le _, Nat.zero_le _, rfl, ⟨Good.nil, hB0⟩⟩
  case round =>
    clear hB0
    obtain ⟨k, L, F, G, hk, hkl, rfl, HK⟩ := hrel
    by_cases hlt : k < len
    · by_cases h60 : k < 60
      · obtain ⟨b, off, d, r, rfl, hrok, hbl, g0, g1, g2, g3, g4, g5, g6⟩ := act_cells HR.out hlt
        have hki : (k : Int) < (len : Int) := by omega
        have hk60 : (k : Int) < 60 := by omega
        have e0 : wr.cell? ⟨b, off + k * 7, none⟩ = some (.bool d) := by rw [HK.out.2.ext.below.cell (p := ⟨b, off + k * 7, none⟩) hbl]; exact g0
        have hN : ∀ j u, w.cell? ⟨b, j, none⟩ = some u → ∀ w', ExtN w.heap.size wr.drew w' → w'.cell? ⟨b, j, none⟩ = some u := fun j u h w' h' => by
          have e1 := h'.block b hbl (Nat.lt_of_lt_of_le hbl HK.out.2.ext.size)
          have e2 := HK.out.2.ext.block b hbl
          rw [← h]
          unfold World.cell?
          rw [e1, show wr.drew.heap[b]? = wr.heap[b]? from rfl, e2]
        have x1 := hN _ _ g1
        have x2 : ∀ w', ExtN w.heap.size wr.drew w' → w'.cell? ⟨b, off + k * 7 + 1 + 1, none⟩ = some (.int .u32 r.a) := hN _ _ g2
        have x3 : ∀ w', ExtN w.heap.size wr.drew w' → w'.cell? ⟨b, off + k * 7 + 1 + 2, none⟩ = some (.int .i64 r.l) := hN _ _ g3
        have x4 : ∀ w', ExtN w.heap.size wr.drew w' → w'.cell? ⟨b, off + k * 7 + 1 + 3, none⟩ = some (.int .i64 r.i) := hN _ _ g4
        have x5 : ∀ w', ExtN w.heap.size wr.drew w' → w'.cell? ⟨b, off + k * 7 + 1 + 4, none⟩ = some (.int .u32 r.g) := hN _ _ g5
        have x6 : ∀ w', ExtN w.heap.size wr.drew w' → w'.cell? ⟨b, off + k * 7 + 1 + 5, none⟩ = some (.int .i64 r.m) := hN _ _ g6
        clear hN g0 g1 g2 g3 g4 g5 g6
        have hd : Two w wr.drew rb xb L L F G := HK.out.2.later (Ext.refl wr).drew
        have hgl := HK.out.1
        cases d
        · have kB := add_any rb L F r wr.drew hd.b hgl hrok
          have kX := fun w' G' (h : RibAt 36 w' xb L G') => refAdd_any xb L G' r w' h hgl.len hrok
          have hgood := hgl.add hrok
          generalize addE L r = z at *
          generalize addS L r = L' at *
          have HG : Hid (Good L') := hgood
          have HD : Hid (Two w wr.drew rb xb L L F G) := hd
          clear hd hgl hgood
          go_wp2_with fail
          refine wp_region_eagerN w.heap.size [(0, false), (1, false), (2, false), (3, false), (4, false), (5, false), (7, false), (8, false), (9, false), (10, false), (11, false), (12, false), (6, true), (13, true), (14, false)] (by kernel_rfl) (by kernel_rfl) rfl (by kernel_rfl) (fun _ _ _ _ _ h => h) ?_
          generalize wr.drew = W at *
          iterate 12 (refine wpE_read (v := ?_) rfl (by rfl) ?_ ?_; rotate_left; (focus (intro w' hx; go_simp; first | done | with_reducible rfl)); simp only [Act.put, List.setIfInBounds_toArray, List.set_cons_zero, List.set_cons_succ])
          clear x1 x2 x3 x4 x5 x6
          refine wpE_call rfl (by rfl) (fun K hK => ?_)
          go_simp
          go_at_call 25
          refine kB.mono ?_
          rintro e w2 ⟨rfl, hA2⟩
          obtain ⟨F', hT2, hN2⟩ := HD.out.stepB hA2
          refine hK _ _ hN2 ?_
          clear hK K
          refine wpE_call rfl (by rfl) (fun K hK => ?_)
          go_simp
          go_at_call 29
          refine (kX _ G hT2.x).mono ?_
          rintro e w3 ⟨rfl, hA3⟩
          obtain ⟨G', hT3, hN3⟩ := hT2.stepX hA3
          refine hK _ _ hN3 ?_
          clear hK K
          iterate 1 (refine wpE_read (v := ?_) rfl (by rfl) ?_ ?_; rotate_left; (focus (intro w' hx; go_simp; first | done | with_reducible rfl)); simp only [Act.put, List.setIfInBounds_toArray, List.set_cons_zero, List.set_cons_succ])
          refine wpE_done ?_
          go_wp2_with fail
          go_roundw
          case rel => exact ⟨k + 1, L', F', G', by omega, by omega, by go_num, ⟨HG.out, hT3⟩⟩
          case measure => simp [intOf]; omega
        · have kB := del_any rb L F r wr.drew hd.b hgl
          have kX := fun w' G' (h : RibAt 36 w' xb L G') => refDel_any xb L G' r w' h (by have := hgl.len; omega)
          have hgood := hgl.del r
          generalize delE L r = z at *
          generalize delS L r = L' at *
          have HG : Hid (Good L') := hgood
          have HD : Hid (Two w wr.drew rb xb L L F G) := hd
          clear hd hgl hgood
          go_wp2_with fail
          refine wp_region_eagerN w.heap.size [(0, false), (1, false), (2, false), (3, false), (4, false), (5, false), (7, false), (8, false), (9, false), (10, false), (11, false), (12, false), (6, true), (13, true), (14, false)] (by kernel_rfl) (by kernel_rfl) rfl (by kernel_rfl) (fun _ _ _ _ _ h => h) ?_
          generalize wr.drew = W at *
          iterate 12 (refine wpE_read (v := ?_) rfl (by rfl) ?_ ?_; rotate_left; (focus (intro w' hx; go_simp; first | done | with_reducible rfl)); simp only [Act.put, List.setIfInBounds_toArray, List.set_cons_zero, List.set_cons_succ])
          clear x1 x2 x3 x4 x5 x6
          refine wpE_call rfl (by rfl) (fun K hK => ?_)
          go_simp
          go_at_call 26
          refine kB.mono ?_
          rintro e w2 ⟨rfl, hA2⟩
          obtain ⟨F', hT2, hN2⟩ := HD.out.stepB hA2
          refine hK _ _ hN2 ?_
          clear hK K
          refine wpE_call rfl (by rfl) (fun K hK => ?_)
          go_simp
          go_at_call 28
          refine (kX _ G hT2.x).mono ?_
          rintro e w3 ⟨rfl, hA3⟩
          obtain ⟨G', hT3, hN3⟩ := hT2.stepX hA3
          refine hK _ _ hN3 ?_
          clear hK K
          iterate 1 (refine wpE_read (v := ?_) rfl (by rfl) ?_ ?_; rotate_left; (focus (intro w' hx; go_simp; first | done | with_reducible rfl)); simp only [Act.put, List.setIfInBounds_toArray, List.set_cons_zero, List.set_cons_succ])
          refine wpE_done ?_
          go_wp2_with fail
          go_roundw
          case rel => exact ⟨k + 1, L', F', G', by omega, by omega, by go_num, ⟨HG.out, hT3⟩⟩
          case measure => simp [intOf]; omega
      · obtain rfl : k = 60 := by omega
        have hki : (60 : Int) < (len : Int) := by omega
        go_wp2_with fail
        go_ret3
        exact ⟨rb, xb, L, F, G, rfl, HK.out.1, HK.out.2⟩
    · obtain rfl : k = len := by omega
      go_wp2_with fail
      go_ret3
      exact ⟨rb, xb, L, F, G, rfl, HK.out.1, HK.out.2⟩
end Go.Proofs.Ytbchfmadmcppkaa.Rb
