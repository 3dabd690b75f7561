/- What of bytes is looked at (chapter 8): pack.Parse; the document's inner, message, inside, Parse. -/
import Derived.Test.YtkagkfbdpiblkaaPack4
import Derived.Test.YtkagkfbdpiblkaaIp6
import Derived.Test.YtkagkfbdpiblkaaPack1
import Derived.Test.YtkagkfbdpiblkaaRef1
import Derived.Test.YtkagkfbdpiblkaaIcmp6
import Derived.Test.YtkagkfbdpiblkaaTcp6
import Derived.Test.YtkagkfbdpiblkaaUdp6
import Derived.Test.YtkagkfbdpiblkaaIp8
namespace Go.Proofs.Ytkagkfbdpiblkaa.Pack
open Go.RowKit
set_option linter.unusedVariables false
set_option maxRecDepth 100000

/-- What the value of what is looked at is, in a world. -/
structure IsPkt (w : World) (v : Value) (p : PKTv) : Prop where
  val : ∃ a1 n1 c1 a2 n2 c2 k, v = .agg #[.int .i64 p.ip.tos, .int .i64 p.ip.id, .bool p.ip.df, .bool p.ip.mf, .int .i64 p.ip.off, .int .i64 p.ip.ttl, .int .i64 p.ip.proto, .int .u32 p.ip.src, .int .u32 p.ip.dst, .slice a1 n1 c1, .slice a2 n2 c2, .int .i64 p.cls, .int .i64 p.src, .int .i64 p.dst, .int .i64 p.flags, .int .i64 p.type, .int .i64 p.code, .pointer k] ∧ Bytes w a1 n1 p.ip.opts ∧ Bytes w a2 n2 p.ip.data ∧ IsKey w k p.inner

/-- What Parse answers: what is looked at, in new memory, and the error. -/
def PackAns (w : World) (xs : List Int) (e : Ending) (w' : World) : Prop := ∃ v, e = .returned (.tuple #[v, .int .i64 (lookX xs)]) ∧ IsPkt w' v (packX xs) ∧ Ext w w'

theorem isPkt_zero (w : World) : IsPkt w (.agg #[.int .i64 0, .int .i64 0, .bool false, .bool false, .int .i64 0, .int .i64 0, .int .i64 0, .int .u32 0, .int .u32 0, .slice none 0 0, .slice none 0 0, .int .i64 0, .int .i64 0, .int .i64 0, .int .i64 0, .int .i64 0, .int .i64 0, .pointer none]) zeroPkt := ⟨none, 0, 0, none, 0, 0, none, rfl, bytes_nil w, bytes_nil w, rfl⟩

theorem no_byte_z {w : World} {g : Nat} {t : TypeId} (h : w.heap[g]? = some (.cells #[.int .i64 0, .int .i64 0, .bool false, .bool false, .int .i64 0, .int .i64 0, .int .i64 0, .int .u32 0, .int .u32 0, .slice none 0 0, .slice none 0 0, .int .i64 0, .int .i64 0, .int .i64 0, .int .i64 0, .int .i64 0, .int .i64 0, .pointer none] t (0, 0))) : ∀ k v, w.cell? ⟨g, k, none⟩ ≠ some (.int .u8 v) := fun k v => by
  rw [heap_cell h]
  match k with
  | 0 => simp
  | 1 => simp
  | 2 => simp
  | 3 => simp
  | 4 => simp
  | 5 => simp
  | 6 => simp
  | 7 => simp
  | 8 => simp
  | 9 => simp
  | 10 => simp
  | 11 => simp
  | 12 => simp
  | 13 => simp
  | 14 => simp
  | 15 => simp
  | 16 => simp
  | 17 => simp
  | k + 18 => simp

/-- The ways a packet may be looked at. -/
theorem parse_cases (p : IPv) :
    (classV p = 2 ∧ lookP p = 0 ∧ fullP p = ⟨p, classV p, 0, 0, 0, 0, 0, none⟩) ∨
    (classV p ≠ 2 ∧ p.proto = 6 ∧ lookP p = Tcp.lookV p.data ∧ fullP p = ⟨p, classV p, (Tcp.parseV p.data).src, (Tcp.parseV p.data).dst, (Tcp.parseV p.data).flags, 0, 0, none⟩) ∨
    (classV p ≠ 2 ∧ p.proto = 17 ∧ lookP p = partV (classV p) (Udp.lookV p.data) p.data ∧ fullP p = ⟨p, classV p, get16V p.data 0, get16V p.data 2, 0, 0, 0, none⟩) ∨
    (classV p ≠ 2 ∧ p.proto = 1 ∧ lookP p = partV (classV p) (Icmp.lookV p.data) p.data ∧ fullP p = ⟨p, classV p, numberV p.data, numberV p.data, 0, byteV p.data 0, byteV p.data 1, innerV p.data⟩) ∨
    (classV p ≠ 2 ∧ p.proto ≠ 6 ∧ p.proto ≠ 17 ∧ p.proto ≠ 1 ∧ lookP p = 0 ∧ fullP p = ⟨p, classV p, 0, 0, 0, 0, 0, none⟩) := by
  unfold lookP fullP
  by_cases h2 : classV p = 2
  · rw [if_pos h2, if_pos h2]; exact .inl ⟨h2, rfl, rfl⟩
  rw [if_neg h2, if_neg h2]; refine .inr ?_
  by_cases h6 : p.proto = 6
  · rw [if_pos h6, if_pos h6]; exact .inl ⟨h2, h6, rfl, rfl⟩
  rw [if_neg h6, if_neg h6]; refine .inr ?_
  by_cases h17 : p.proto = 17
  · rw [if_pos h17, if_pos h17]; exact .inl ⟨h2, h17, rfl, rfl⟩
  rw [if_neg h17, if_neg h17]; refine .inr ?_
  by_cases h1 : p.proto = 1
  · rw [if_pos h1, if_pos h1]; exact .inl ⟨h2, h1, rfl, rfl⟩
  rw [if_neg h1, if_neg h1]
  exact .inr ⟨h2, h6, h17, h1, rfl, rfl⟩

set_option maxHeartbeats 2000000 in
theorem packParse_bad (a : Option Addr) (len cap : Nat) (xs : List Int) (w : World) (h : Bytes w a len xs) (hcap : len ≤ cap) (hn : len ≤ 1000000) (hv : lookV xs ≠ 0) :
    Calls Try.prog 8 #[.slice a len cap] w (PackAns w xs) := by
  have hx0 := (Ext.refl w).alloc (.cells #[.int .i64 0, .int .i64 0, .bool false, .bool false, .int .i64 0, .int .i64 0, .int .i64 0, .int .u32 0, .int .u32 0, .slice none 0 0, .slice none 0 0, .int .i64 0, .int .i64 0, .int .i64 0, .int .i64 0, .int .i64 0, .int .i64 0, .pointer none] 28)
  have H1 := heap_new' w (.cells #[.int .i64 0, .int .i64 0, .bool false, .bool false, .int .i64 0, .int .i64 0, .int .i64 0, .int .u32 0, .int .u32 0, .slice none 0 0, .slice none 0 0, .int .i64 0, .int .i64 0, .int .i64 0, .int .i64 0, .int .i64 0, .int .i64 0, .pointer none] 28)
  have hlx : lookX xs = lookV xs := by unfold lookX; rw [if_neg hv]
  have hpx : packX xs = zeroPkt := by unfold packX; rw [hlx, if_neg hv]
  have HP : Hid (∀ w', Ext w w' → PackAns w xs (.returned (.tuple #[.agg #[.int .i64 0, .int .i64 0, .bool false, .bool false, .int .i64 0, .int .i64 0, .int .i64 0, .int .u32 0, .int .u32 0, .slice none 0 0, .slice none 0 0, .int .i64 0, .int .i64 0, .int .i64 0, .int .i64 0, .int .i64 0, .int .i64 0, .pointer none], .int .i64 (lookX xs)])) w') := fun w' h => ⟨_, rfl, by rw [hpx]; exact isPkt_zero w', h⟩
  generalize PackAns w xs = Ans at *
  rw [hlx] at HP
  have cp := fun w h => parse_not a len cap xs _ w h hcap hn rfl hv
  have hne : (lookV xs == 0) = false := by simpa using hv
  have hne' : (lookV xs != 0) = true := by simpa using hv
  simp only [zeroIP] at cp
  generalize lookV xs = er at *
  clear hv hlx hpx
  have h0 := h.below hx0
  clear h
  go_enter Try.func8, Try.ntmps8
  iterate 6 (first | go_values | go_skip | go_guarded | go_step | go_upon | go_in | go_simp)
  generalize (w.alloc (.cells #[.int .i64 0, .int .i64 0, .bool false, .bool false, .int .i64 0, .int .i64 0, .int .i64 0, .int .u32 0, .int .u32 0, .slice none 0 0, .slice none 0 0, .int .i64 0, .int .i64 0, .int .i64 0, .int .i64 0, .int .i64 0, .int .i64 0, .pointer none] 28)) = W at *
  have K1 : Hid _ := H1
  clear H1
  go_wp2_with (first
    | (go_at_call 27; refine (cp _ h0).mono ?_; rintro e w1 ⟨a1, n1, c1, a2, n2, c2, rfl, _, _, _, _, hx1⟩; have hx2 := hx1.alloc (.cells #[.int .i64 0, .int .i64 0, .bool false, .bool false, .int .i64 0, .int .i64 0, .int .i64 0, .int .u32 0, .int .u32 0, .slice a1 n1 c1, .slice a2 n2 c2] 25))
    | (refine wpl_store (by rfl) 28 _ _ rfl rfl 18 w.heap.size #[.int .i64 0, .int .i64 0, .bool false, .bool false, .int .i64 0, .int .i64 0, .int .i64 0, .int .u32 0, .int .u32 0, .slice none 0 0, .slice none 0 0, .int .i64 0, .int .i64 0, .int .i64 0, .int .i64 0, .int .i64 0, .int .i64 0, .pointer none] _ _ rfl rfl (hx2.heap K1.out) pkt_size rfl rfl (by simp [Value.oneCell']) ?_; intro w5 hx5 k5))
  exact bodyPost_ret (results_two Try.results8 _ rfl k5 Try.underlying28 rfl pkt_size) rfl (HP.out _ (ExtX.ext (hx0.trans hx2) hx5 (Nat.le_refl _)))

set_option maxHeartbeats 8000000 in
theorem packParse_good (a : Option Addr) (len cap : Nat) (xs : List Int) (w : World) (h : Bytes w a len xs) (hcap : len ≤ cap) (hn : len ≤ 1000000) (hv : lookV xs = 0) :
    Calls Try.prog 8 #[.slice a len cap] w (PackAns w xs) := by
  have hx0 := (Ext.refl w).alloc (.cells #[.int .i64 0, .int .i64 0, .bool false, .bool false, .int .i64 0, .int .i64 0, .int .i64 0, .int .u32 0, .int .u32 0, .slice none 0 0, .slice none 0 0, .int .i64 0, .int .i64 0, .int .i64 0, .int .i64 0, .int .i64 0, .int .i64 0, .pointer none] 28)
  have H1 := heap_new' w (.cells #[.int .i64 0, .int .i64 0, .bool false, .bool false, .int .i64 0, .int .i64 0, .int .i64 0, .int .u32 0, .int .u32 0, .slice none 0 0, .slice none 0 0, .int .i64 0, .int .i64 0, .int .i64 0, .int .i64 0, .int .i64 0, .int .i64 0, .pointer none] 28)
  have hl := h.length
  have hlx : lookX xs = lookP (parseV xs) := by unfold lookX; rw [if_pos hv]
  have hpx : packX xs = if lookP (parseV xs) = 0 then fullP (parseV xs) else zeroPkt := by unfold packX; rw [hlx]
  have HP : Hid (∀ v w', IsPkt w' v (packX xs) → Ext w w' → PackAns w xs (.returned (.tuple #[v, .int .i64 (lookX xs)])) w') := fun v w' hp h => ⟨v, rfl, hp, h⟩
  generalize PackAns w xs = Ans at *
  rw [hlx, hpx] at HP
  have hdl : (parseV xs).data.length ≤ len := by
    show ((xs.take _).drop _).length ≤ len
    rw [List.length_drop, List.length_take]; omega
  have hpk : packV xs = parseV xs := by unfold packV; rw [if_pos hv]
  have cp := fun w h => (parse_any a len cap xs w h hcap hn).mono (fun e w' (h : ParseAns w xs e w') => (show ∃ v, e = .returned (.tuple #[v, .int .i64 (lookV xs)]) ∧ IsIP w' v (packV xs) ∧ Ext w w' from h))
  rw [hv, hpk] at cp
  have hcs := parse_cases (parseV xs)
  have cC := fun a1 n1 c1 a2 n2 c2 w => class_any (parseV xs) a1 n1 c1 a2 n2 c2 w
  clear hv hlx hpx hpk
  generalize parseV xs = p at *
  generalize classV p = C at *
  generalize lookP p = er at *
  generalize fullP p = F at *
  obtain ⟨p0, p1, p2, p3, p4, p5, p6, p7, p8, p9, pa⟩ := p
  dsimp only at *
  have h0 := h.below hx0
  clear h
  go_enter Try.func8, Try.ntmps8
  iterate 6 (first | go_values | go_skip | go_guarded | go_step | go_upon | go_in | go_simp)
  have hsz : w.heap.size + 1 ≤ (w.alloc (.cells #[.int .i64 0, .int .i64 0, .bool false, .bool false, .int .i64 0, .int .i64 0, .int .i64 0, .int .u32 0, .int .u32 0, .slice none 0 0, .slice none 0 0, .int .i64 0, .int .i64 0, .int .i64 0, .int .i64 0, .int .i64 0, .int .i64 0, .pointer none] 28)).heap.size := by simp
  generalize (w.alloc (.cells #[.int .i64 0, .int .i64 0, .bool false, .bool false, .int .i64 0, .int .i64 0, .int .i64 0, .int .u32 0, .int .u32 0, .slice none 0 0, .slice none 0 0, .int .i64 0, .int .i64 0, .int .i64 0, .int .i64 0, .int .i64 0, .int .i64 0, .pointer none] 28)) = W at *
  have K1 : Hid _ := H1
  clear H1
  go_wp2_with (first
    | (go_at_call 27; refine (cp _ h0).mono ?_; rintro e w1 ⟨v, rfl, ⟨⟨a1, n1, c1, a2, n2, c2, rfl, hb1, _, hb2, _, hc2⟩⟩, hx1⟩; dsimp only at *))
  have hs1 := hx1.size
  have hBo : (w1.alloc (.cells #[.int .i64 p0, .int .i64 p1, .bool p2, .bool p3, .int .i64 p4, .int .i64 p5, .int .i64 p6, .int .u32 p7, .int .u32 p8, .slice a1 n1 c1, .slice a2 n2 c2] 25)).drew.heap[w1.heap.size]? = some (.cells #[.int .i64 p0, .int .i64 p1, .bool p2, .bool p3, .int .i64 p4, .int .i64 p5, .int .i64 p6, .int .u32 p7, .int .u32 p8, .slice a1 n1 c1, .slice a2 n2 c2] 25 (0, 0)) := heap_new' w1 _
  have hx2 : Ext w1 (w1.alloc (.cells #[.int .i64 p0, .int .i64 p1, .bool p2, .bool p3, .int .i64 p4, .int .i64 p5, .int .i64 p6, .int .u32 p7, .int .u32 p8, .slice a1 n1 c1, .slice a2 n2 c2] 25)).drew := ((Ext.refl w1).alloc _).drew
  have hsN : (w1.alloc (.cells #[.int .i64 p0, .int .i64 p1, .bool p2, .bool p3, .int .i64 p4, .int .i64 p5, .int .i64 p6, .int .u32 p7, .int .u32 p8, .slice a1 n1 c1, .slice a2 n2 c2] 25)).heap.size = w1.heap.size + 1 := by simp
  refine wp_region_makeN (w1.heap.size + 1) (w1.heap.size + 1) (by rw [hsN]; exact Nat.le_refl _) [(0, 0), (1, 0), (4, 3), (2, 1), (3, 0), (4, 2), (5, 4)] (by kernel_rfl) (by kernel_rfl) rfl (by kernel_rfl) (fun _ _ _ _ _ => Iff.rfl) ?_
  have hsV : (w1.alloc (.cells #[.int .i64 p0, .int .i64 p1, .bool p2, .bool p3, .int .i64 p4, .int .i64 p5, .int .i64 p6, .int .u32 p7, .int .u32 p8, .slice a1 n1 c1, .slice a2 n2 c2] 25)).drew.heap.size = w1.heap.size + 1 := hsN
  clear hsN
  generalize (w1.alloc (.cells #[.int .i64 p0, .int .i64 p1, .bool p2, .bool p3, .int .i64 p4, .int .i64 p5, .int .i64 p6, .int .u32 p7, .int .u32 p8, .slice a1 n1 c1, .slice a2 n2 c2] 25)).drew = V at *
  have hrd : ∀ k w', ExtN (w1.heap.size + 1) V w' → w'.cell? ⟨w1.heap.size, k, none⟩ = (#[.int .i64 p0, .int .i64 p1, .bool p2, .bool p3, .int .i64 p4, .int .i64 p5, .int .i64 p6, .int .u32 p7, .int .u32 p8, .slice a1 n1 c1, .slice a2 n2 c2] : Array Value)[k]? := fun k w' hx => heap_cell (ExtN.heap hx (by omega) hBo)
  have y0 := hrd 0
  have y1 := hrd 1
  have y2 := hrd 2
  have y3 := hrd 3
  have y4 := hrd 4
  have y5 := hrd 5
  have y6 := hrd 6
  have y7 := hrd 7
  have y8 := hrd 8
  have y9 := hrd 9
  have y10 := hrd 10
  simp only [List.getElem?_toArray, List.getElem?_cons_zero, List.getElem?_cons_succ] at y0 y1 y2 y3 y4 y5 y6 y7 y8 y9 y10
  clear hrd
  iterate 2 (refine wpW_read (v := ?_) rfl (by rfl) ?_ ?_; rotate_left; (focus (intro w' hx; go_simp; first | done | with_reducible rfl)); simp only [Act.put, List.setIfInBounds_toArray, List.set_cons_zero, List.set_cons_succ])
  clear y0 y1 y2 y3 y4 y5 y6 y7 y8 y9 y10
  (refine wpW_say _ (fun g => .pointer (some ⟨g, 0, none⟩)) rfl (by rfl) (fun w' => by go_simp; first | done | with_reducible rfl) ?_)
  refine wpW_call rfl (by rfl) (fun V1 hx3 K hK => ?_); go_simp; (go_at_call 17; refine (cC a1 n1 c1 a2 n2 c2 V1).mono ?_; rintro e V2 ⟨rfl, hx4⟩; refine hK _ _ hx4 ?_; clear hK K)
  (refine wpW_read (v := ?_) rfl (by rfl) ?_ ?_; rotate_left; (focus (intro w' hx; go_simp; first | done | with_reducible rfl)); simp only [Act.put, List.setIfInBounds_toArray, List.set_cons_zero, List.set_cons_succ])
  refine wpW_make _ (fun g => .pointer (some ⟨g, 0, none⟩)) rfl (by rfl) (fun w' => by go_simp; first | done | with_reducible rfl) ?_; simp only [Act.put, List.setIfInBounds_toArray, List.set_cons_zero, List.set_cons_succ]; intro V3 g hx5 hBg hg3
  refine wpW_last rfl (by rfl) (fun K hK => ?_)
  refine wp_store 28 _ _ rfl rfl 18 g #[.int .i64 p0, .int .i64 p1, .bool p2, .bool p3, .int .i64 p4, .int .i64 p5, .int .i64 p6, .int .u32 p7, .int .u32 p8, .slice a1 n1 c1, .slice a2 n2 c2, .int .i64 C, .int .i64 0, .int .i64 0, .int .i64 0, .int .i64 0, .int .i64 0, .pointer none] _ _ rfl rfl hg3 pkt_size rfl rfl (by simp [Value.oneCell']) ?_
  intro V4 hx6 k6
  have hx6' : ExtN (w1.heap.size + 1) V3 V4 := ⟨hx6.os, hx6.tape, hx6.output, hx6.size, fun k hk hk' => hx6.block k hk' (by omega)⟩
  refine hK _ _ hx6' ?_
  clear hK K
  refine wpW_done ?_
  have hxV : ExtN (w1.heap.size + 1) V V4 := ((hx3.trans (hx4.trans hx5)).upto _).trans hx6'
  have hx14 : Ext w1 V4 := ExtN.ext hx2 hxV (by omega)
  have hX4 : Ext w V4 := (hx0.trans hx1).trans hx14
  have hB4 := ExtN.heap hxV (by omega) hBo
  have m6 := heap_cell (k := 6) hB4
  have mb := heap_cell (k := 11) k6
  have b1 := hb1.below hx14
  have b2 := hb2.below hx14
  have l2 := hb2.length
  have K6 : Hid _ := k6
  have KZ : Hid _ := hx14.heap (hx1.heap K1.out)
  have nb := no_byte_z KZ.out
  have hs4 := hx14.size
  have hgs := block_of k6
  clear k6 hx6 hx6' hx3 hx4 hx5 hg3 hBo hB4 hx2 hb1 hb2 cp cC h0 K1 hxV hx1
  rcases hcs with ⟨rfl, rfl, rfl⟩ | ⟨hC, rfl, hE, rfl⟩ | ⟨hC, rfl, hE, rfl⟩ | ⟨hC, rfl, hE, rfl⟩ | ⟨hC, hP1, hP2, hP3, rfl, rfl⟩
  · rw [if_pos rfl] at HP
    go_wp2_with (first
      | (refine wpl_load (by rfl) 28 _ rfl g _ _ _ rfl K6.out Try.underlying28 rfl pkt_size ?_)
      | (refine wpl_store (by rfl) 28 _ _ rfl rfl 18 w.heap.size _ _ _ rfl rfl KZ.out pkt_size rfl rfl (by simp [Value.oneCell']) ?_; intro w5 hx7 k5))
    exact bodyPost_ret (results_two Try.results8 _ rfl k5 Try.underlying28 rfl pkt_size) rfl
        (HP.out _ _ ⟨a1, n1, c1, a2, n2, c2, none, rfl, b1.laterX hx7 nb, b2.laterX hx7 nb, rfl⟩ (ExtX.ext hX4 hx7 (Nat.le_refl _)))
  · have hCb : (C == 2) = false := by simpa using hC
    by_cases hz : er = 0
    · subst hz
      rw [if_pos rfl] at HP
      have cs := fun w h => seg_good p0 p1 p2 p3 p4 p5 6 p7 p8 C a1 n1 c1 a2 n2 c2 pa w h hc2 (by omega) hE.symm
      clear hE
      go_wp2_with (first
        | (refine wpl_load (by rfl) 28 _ rfl g _ _ _ rfl K6.out Try.underlying28 rfl pkt_size ?_)
        | (go_at_call 28; refine (cs _ b2).mono ?_; rintro e w3 ⟨rfl, hx8⟩)
        | (refine wpl_store (by rfl) 28 _ _ rfl rfl 18 w.heap.size _ _ _ rfl rfl (hx8.heap KZ.out) pkt_size rfl rfl (by simp [Value.oneCell']) ?_; intro w5 hx7 k5))
      exact bodyPost_ret (results_two Try.results8 _ rfl k5 Try.underlying28 rfl pkt_size) rfl
          (HP.out _ _ ⟨a1, n1, c1, a2, n2, c2, none, rfl, (b1.below hx8).laterX hx7 (no_byte_z (hx8.heap KZ.out)), (b2.below hx8).laterX hx7 (no_byte_z (hx8.heap KZ.out)), rfl⟩ (ExtX.ext (hX4.trans hx8) hx7 (Nat.le_refl _)))
    · rw [if_neg hz] at HP
      have cs := fun w h => seg_bad p0 p1 p2 p3 p4 p5 6 p7 p8 C er a1 n1 c1 a2 n2 c2 pa w h hc2 (by omega) hE.symm hz
      clear hE
      go_wp2_with (first
        | (refine wpl_load (by rfl) 28 _ rfl g _ _ _ rfl K6.out Try.underlying28 rfl pkt_size ?_)
        | (go_at_call 28; refine (cs _ b2).mono ?_; rintro e w3 ⟨rfl, hx8⟩)
        | (refine wpl_store (by rfl) 28 _ _ rfl rfl 18 w.heap.size _ _ _ rfl rfl (hx8.heap KZ.out) pkt_size rfl rfl (by simp [Value.oneCell']) ?_; intro w5 hx7 k5))
      exact bodyPost_ret (results_two Try.results8 _ rfl k5 Try.underlying28 rfl pkt_size) rfl
          (HP.out _ _ (isPkt_zero _) (ExtX.ext (hX4.trans hx8) hx7 (Nat.le_refl _)))
  · have hCb : (C == 2) = false := by simpa using hC
    by_cases hz : er = 0
    · subst hz
      rw [if_pos rfl] at HP
      have cs := fun w h => dat_good p0 p1 p2 p3 p4 p5 17 p7 p8 C a1 n1 c1 a2 n2 c2 pa w h hc2 (by omega) hE.symm
      clear hE
      go_wp2_with (first
        | (refine wpl_load (by rfl) 28 _ rfl g _ _ _ rfl K6.out Try.underlying28 rfl pkt_size ?_)
        | (go_at_call 29; refine (cs _ b2).mono ?_; rintro e w3 ⟨rfl, hx8⟩)
        | (refine wpl_store (by rfl) 28 _ _ rfl rfl 18 w.heap.size _ _ _ rfl rfl (hx8.heap KZ.out) pkt_size rfl rfl (by simp [Value.oneCell']) ?_; intro w5 hx7 k5))
      exact bodyPost_ret (results_two Try.results8 _ rfl k5 Try.underlying28 rfl pkt_size) rfl
          (HP.out _ _ ⟨a1, n1, c1, a2, n2, c2, none, rfl, (b1.below hx8).laterX hx7 (no_byte_z (hx8.heap KZ.out)), (b2.below hx8).laterX hx7 (no_byte_z (hx8.heap KZ.out)), rfl⟩ (ExtX.ext (hX4.trans hx8) hx7 (Nat.le_refl _)))
    · rw [if_neg hz] at HP
      have cs := fun w h => dat_bad p0 p1 p2 p3 p4 p5 17 p7 p8 C er a1 n1 c1 a2 n2 c2 pa w h hc2 (by omega) hE.symm hz
      clear hE
      go_wp2_with (first
        | (refine wpl_load (by rfl) 28 _ rfl g _ _ _ rfl K6.out Try.underlying28 rfl pkt_size ?_)
        | (go_at_call 29; refine (cs _ b2).mono ?_; rintro e w3 ⟨rfl, hx8⟩)
        | (refine wpl_store (by rfl) 28 _ _ rfl rfl 18 w.heap.size _ _ _ rfl rfl (hx8.heap KZ.out) pkt_size rfl rfl (by simp [Value.oneCell']) ?_; intro w5 hx7 k5))
      exact bodyPost_ret (results_two Try.results8 _ rfl k5 Try.underlying28 rfl pkt_size) rfl
          (HP.out _ _ (isPkt_zero _) (ExtX.ext (hX4.trans hx8) hx7 (Nat.le_refl _)))
  · have hCb : (C == 2) = false := by simpa using hC
    by_cases hz : er = 0
    · subst hz
      rw [if_pos rfl] at HP
      have cs := fun w h => msg_good p0 p1 p2 p3 p4 p5 1 p7 p8 C a1 n1 c1 a2 n2 c2 pa w h hc2 (by omega) hE.symm
      clear hE
      go_wp2_with (first
        | (refine wpl_load (by rfl) 28 _ rfl g _ _ _ rfl K6.out Try.underlying28 rfl pkt_size ?_)
        | (go_at_call 30; refine (cs _ b2).mono ?_; rintro e w3 ⟨k, rfl, hk, hfr, hx8⟩)
        | (refine wpl_store (by rfl) 28 _ _ rfl rfl 18 w.heap.size _ _ _ rfl rfl (hx8.heap KZ.out) pkt_size rfl rfl (by simp [Value.oneCell']) ?_; intro w5 hx7 k5))
      exact bodyPost_ret (results_two Try.results8 _ rfl k5 Try.underlying28 rfl pkt_size) rfl
          (HP.out _ _ ⟨a1, n1, c1, a2, n2, c2, k, rfl, (b1.below hx8).laterX hx7 (no_byte_z (hx8.heap KZ.out)), (b2.below hx8).laterX hx7 (no_byte_z (hx8.heap KZ.out)), hk.laterX hx7 (fun a ha => by have := hfr a ha; omega)⟩ (ExtX.ext (hX4.trans hx8) hx7 (Nat.le_refl _)))
    · rw [if_neg hz] at HP
      have cs := fun w h => msg_bad p0 p1 p2 p3 p4 p5 1 p7 p8 C er a1 n1 c1 a2 n2 c2 pa w h hc2 (by omega) hE.symm hz
      clear hE
      go_wp2_with (first
        | (refine wpl_load (by rfl) 28 _ rfl g _ _ _ rfl K6.out Try.underlying28 rfl pkt_size ?_)
        | (go_at_call 30; refine (cs _ b2).mono ?_; rintro e w3 ⟨rfl, hx8⟩)
        | (refine wpl_store (by rfl) 28 _ _ rfl rfl 18 w.heap.size _ _ _ rfl rfl (hx8.heap KZ.out) pkt_size rfl rfl (by simp [Value.oneCell']) ?_; intro w5 hx7 k5))
      exact bodyPost_ret (results_two Try.results8 _ rfl k5 Try.underlying28 rfl pkt_size) rfl
          (HP.out _ _ (isPkt_zero _) (ExtX.ext (hX4.trans hx8) hx7 (Nat.le_refl _)))
  · rw [if_pos rfl] at HP
    have hCb : (C == 2) = false := by simpa using hC
    have e1 : (p6 == 6) = false := by simpa using hP1
    have e2 : (p6 == 17) = false := by simpa using hP2
    have e3 : (p6 == 1) = false := by simpa using hP3
    go_wp2_with (first
      | (refine wpl_load (by rfl) 28 _ rfl g _ _ _ rfl K6.out Try.underlying28 rfl pkt_size ?_)
      | (refine wpl_store (by rfl) 28 _ _ rfl rfl 18 w.heap.size _ _ _ rfl rfl KZ.out pkt_size rfl rfl (by simp [Value.oneCell']) ?_; intro w5 hx7 k5))
    exact bodyPost_ret (results_two Try.results8 _ rfl k5 Try.underlying28 rfl pkt_size) rfl
        (HP.out _ _ ⟨a1, n1, c1, a2, n2, c2, none, rfl, b1.laterX hx7 nb, b2.laterX hx7 nb, rfl⟩ (ExtX.ext hX4 hx7 (Nat.le_refl _)))

theorem packParse_any (a : Option Addr) (len cap : Nat) (xs : List Int) (w : World) (h : Bytes w a len xs) (hcap : len ≤ cap) (hn : len ≤ 1000000) :
    Calls Try.prog 8 #[.slice a len cap] w (PackAns w xs) := by
  by_cases hv : lookV xs = 0
  · exact packParse_good a len cap xs w h hcap hn hv
  · exact packParse_bad a len cap xs w h hcap hn hv

end Go.Proofs.Ytkagkfbdpiblkaa.Pack

namespace Go.Proofs.Ytkagkfbdpiblkaa.Pack
open Go.RowKit
set_option linter.unusedVariables false
set_option maxRecDepth 100000

theorem inner_cases (ys : List Int) (h : isQuoteV ys = false) :
    ys.length < 20 ∨ (20 ≤ ys.length ∧ byteV ys 0 / 16 ≠ 4) ∨ (20 ≤ ys.length ∧ byteV ys 0 / 16 = 4 ∧ headV ys < 20) ∨
    (20 ≤ ys.length ∧ byteV ys 0 / 16 = 4 ∧ 20 ≤ headV ys ∧ (ys.length : Int) < headV ys + 8) ∨
    (20 ≤ ys.length ∧ byteV ys 0 / 16 = 4 ∧ 20 ≤ headV ys ∧ headV ys + 8 ≤ (ys.length : Int) ∧ get16V ys 6 % 8192 ≠ 0) := by
  unfold isQuoteV at h
  rw [decide_eq_false_iff_not] at h
  omega

set_option maxHeartbeats 1000000 in
theorem refInner_bad (a : Option Addr) (len cap : Nat) (xs : List Int) (w : World) (h : Bytes w a len xs) (hn : len ≤ 1000000) (hq : isQuoteV xs = false) :
    Calls Try.prog 76 #[.slice a len cap] w (KeyAns w (aboutV xs)) := by
  have hl := h.length
  have hv : aboutV xs = none := by unfold aboutV; rw [hq]; simp
  rw [hv]
  have hcs := inner_cases xs hq
  have HP : Hid (KeyAns w none (.returned (.pointer none)) w) := ⟨_, rfl, rfl, (by intro a h; cases h), Ext.refl w⟩
  generalize KeyAns w none = Ans at *
  have c1 := refHeader_any a len cap xs w h
  have hh := headV_bd h.ok
  have cg := refGet16_any a len cap xs 6 w h (by omega) (by omega)
  have g6 := get16V_bd h.ok 6
  have n6 := i64_and13 (get16V xs 6) g6.1 g6.2
  clear hq hv
  rw [hl] at hcs
  rcases hcs with h1 | hcs
  · generalize headV xs = hd at *
    clear cg n6
    go_enter Try.func76, Try.ntmps76
    go_wp2_with (go_at_call 39; refine c1.mono ?_; rintro e w1 ⟨rfl, hw⟩; obtain rfl := hw.symm; clear hw)
    exact HP.out
  obtain ⟨b, off, rfl, hc0⟩ := h.cell (k := 0) (by omega)
  rw [Nat.add_zero] at hc0
  have hb0 := h.ok.get 0
  have ex0 : byteV xs 0 = xs[0]?.getD 0 := byteV_nat xs 0
  rw [ex0] at hcs
  clear ex0
  generalize xs[0]?.getD 0 = x0 at *
  generalize headV xs = hd at *
  generalize get16V xs 6 = z at *
  rcases hcs with ⟨h1, h2⟩ | ⟨h1, h2, h3⟩ | ⟨h1, h2, h3, h4⟩ | ⟨h1, h2, h3, h4, h5⟩
  · clear cg n6
    go_enter Try.func76, Try.ntmps76
    go_wp2_with (go_at_call 39; refine c1.mono ?_; rintro e w1 ⟨rfl, hw⟩; obtain rfl := hw.symm; clear hw)
    exact HP.out
  · clear cg n6
    go_enter Try.func76, Try.ntmps76
    go_wp2_with (go_at_call 39; refine c1.mono ?_; rintro e w1 ⟨rfl, hw⟩; obtain rfl := hw.symm; clear hw)
    exact HP.out
  · clear cg n6
    go_enter Try.func76, Try.ntmps76
    go_wp2_with (go_at_call 39; refine c1.mono ?_; rintro e w1 ⟨rfl, hw⟩; obtain rfl := hw.symm; clear hw)
    exact HP.out
  · have h5b : (z % 8192 == 0) = false := by simpa using h5
    have h5c : (z % 8192 != 0) = true := by simpa using h5
    go_enter Try.func76, Try.ntmps76
    go_wp2_with (first
      | (go_at_call 39; refine c1.mono ?_; rintro e w1 ⟨rfl, hw⟩; obtain rfl := hw.symm; clear hw)
      | (go_at_call 57; refine cg.mono ?_; rintro e w1 ⟨rfl, hw⟩; obtain rfl := hw.symm; clear hw))
    exact HP.out

set_option maxHeartbeats 4000000 in
theorem refInner_good (a : Option Addr) (len cap : Nat) (xs : List Int) (w : World) (h : Bytes w a len xs) (hcap : len ≤ cap) (hn : len ≤ 1000000) (hq : isQuoteV xs = true) :
    Calls Try.prog 76 #[.slice a len cap] w (KeyAns w (aboutV xs)) := by
  have hl := h.length
  have hv : aboutV xs = some (quotedV xs) := by unfold aboutV; rw [hq]; simp
  have hh := headV_bd h.ok
  have hf : 20 ≤ headV xs ∧ headV xs + 8 ≤ (xs.length : Int) ∧ byteV xs 0 / 16 = 4 ∧ get16V xs 6 % 8192 = 0 := by
    unfold isQuoteV at hq
    rwa [decide_eq_true_eq] at hq
  have hok := h.ok
  have cH := fun w h => refHeader_any a len cap xs w h
  have hcs := about_cases xs
  rw [hv]
  unfold quotedV
  rw [hl] at hf
  obtain ⟨k, hk⟩ : ∃ k : Nat, headV xs = k := ⟨(headV xs).toNat, by omega⟩
  rw [hk] at hh hf cH hcs
  obtain ⟨b, off, rfl, hc0⟩ := h.cell (k := 0) (by omega)
  rw [Nat.add_zero] at hc0
  have g6 := fun w h => refGet16_any (some ⟨b, off, none⟩) len cap xs 6 w h (by omega) (by omega)
  have gA := fun w h => refGet16_any (some ⟨b, off, none⟩) len cap xs k w h (by omega) (by omega)
  have gB := fun w h => refGet16_any (some ⟨b, off, none⟩) len cap xs (k + 2) w h (by omega) (by omega)
  have gN := fun w h => refGet16_any (some ⟨b, off, none⟩) len cap xs (k + 4) w h (by omega) (by omega)
  have z6 := get16V_bd hok 6
  have n6 := i64_and13 (get16V xs 6) z6.1 z6.2
  have bk : byteV xs k = xs[k]?.getD 0 := byteV_nat xs k
  have cQ := fun w => Icmp.refQuery_any (xs[k]?.getD 0) w
  have b9 : byteV xs 9 = xs[9]?.getD 0 := byteV_nat xs 9
  have b0 : byteV xs 0 = xs[0]?.getD 0 := byteV_nat xs 0
  have y0 := hok.get 0
  have y9 := hok.get 9
  have yk := hok.get k
  have v9 := wraps_i64 _ y9.1 (by omega)
  have vk := wraps_i64 _ yk.1 (by omega)
  rw [bk, b9] at hcs
  rw [b9]
  rw [b0] at hf
  have g12 := fun w h => refGet32_any (some ⟨b, off, none⟩) len cap xs 12 w h (by omega) (by omega)
  have g16 := fun w h => refGet32_any (some ⟨b, off, none⟩) len cap xs 16 w h (by omega) (by omega)
  clear bk b9 b0
  have HP : Hid (∀ g w', w.heap.size ≤ g → w'.heap[g]? = some (.cells #[.int .i64 (xs[9]?.getD 0), .int .u32 (accV xs 12 4), .int .u32 (accV xs 16 4), .int .i64 (aboutA xs), .int .i64 (aboutB xs)] 38 (0, 0)) → Ext w w' →
      KeyAns w (some ⟨xs[9]?.getD 0, accV xs 12 4, accV xs 16 4, aboutA xs, aboutB xs⟩) (.returned (.pointer (some ⟨g, 0, none⟩))) w') :=
    fun g w' hge hg hx => ⟨_, rfl, ⟨g, 0, rfl, KeyAt.of hg⟩, (by intro a h; cases h; exact hge), hx⟩
  generalize KeyAns w (some ⟨xs[9]?.getD 0, accV xs 12 4, accV xs 16 4, aboutA xs, aboutB xs⟩) = Ans at *
  have hrd : ∀ j, j < len → ∀ w', Ext w w' → w'.cell? ⟨b, off + j, none⟩ = some (.int .u8 (xs[j]?.getD 0)) := fun j hj w' hx => by
    obtain ⟨b', off', hab, hc⟩ := (h.below hx).cell hj
    obtain ⟨rfl, rfl⟩ : b = b' ∧ off = off' := by simpa using hab
    exact hc
  have r9 : ∀ w', Ext w.drew w' → w'.cell? ⟨b, off + 9, none⟩ = some (.int .u8 (xs[9]?.getD 0)) := fun w' hx => hrd 9 (by omega) w' (((Ext.refl w).drew).trans hx)
  have HRk : Hid (∀ w', Ext w w' → w'.cell? ⟨b, off + k, none⟩ = some (.int .u8 (xs[k]?.getD 0))) := hrd k (by omega)
  clear hrd hk hv hq
  generalize accV xs 12 4 = s1 at *
  generalize accV xs 16 4 = s2 at *
  generalize xs[9]?.getD 0 = P at *
  generalize xs[0]?.getD 0 = x0 at *
  generalize xs[k]?.getD 0 = T at *
  generalize get16V xs 6 = z at *
  generalize get16V xs k = vA at *
  generalize get16V xs (k + 2) = vB at *
  generalize get16V xs (k + 4) = vN at *
  generalize Icmp.queryV T = Q at *
  generalize aboutA xs = fA at *
  generalize aboutB xs = fB at *
  obtain ⟨f1, f2, f3, f4⟩ := hf
  rw [f4] at n6
  have l0 : (20 : Int) ≤ (len : Int) := by omega
  have l9 : (9 : Int) < (len : Int) := by omega
  have lc : (len : Int) ≤ (cap : Int) := by omega
  have kl : (k : Int) < (len : Int) := by omega
  have hX : Ext w w.drew := (Ext.refl w).drew
  go_enter Try.func76, Try.ntmps76
  go_wp2_with (first
    | (go_at_call 39; refine (cH _ h).mono ?_; rintro e w1 ⟨rfl, hw⟩; obtain rfl := hw.symm; clear hw)
    | (go_at_call 57; refine (g6 _ h).mono ?_; rintro e w1 ⟨rfl, hw⟩; obtain rfl := hw.symm; clear hw))
  refine wp_region_eager [(0, false), (1, false), (2, false), (3, false), (4, false), (6, false), (5, true), (7, true), (8, false), (9, true), (10, false)] (by kernel_rfl) (by kernel_rfl) rfl (by kernel_rfl) (fun _ _ _ _ _ h => h) ?_
  generalize w.drew = W at *
  iterate 6 (refine wpE_read (v := ?_) rfl (by rfl) ?_ ?_; rotate_left; (focus (intro w' hx; go_simp; first | done | with_reducible rfl)); simp only [Act.put, List.setIfInBounds_toArray, List.set_cons_zero, List.set_cons_succ])
  refine wpE_call rfl (by rfl) (fun K hK => ?_); go_simp; (go_at_call 70; refine (g12 _ (h.below hX)).mono ?_; rintro e w1 ⟨rfl, hw⟩; obtain rfl := hw.symm; clear hw; refine hK _ _ (Ext.refl _) ?_; clear hK K)
  refine wpE_call rfl (by rfl) (fun K hK => ?_); go_simp; (go_at_call 70; refine (g16 _ (h.below hX)).mono ?_; rintro e w1 ⟨rfl, hw⟩; obtain rfl := hw.symm; clear hw; refine hK _ _ (Ext.refl _) ?_; clear hK K)
  (refine wpE_read (v := ?_) rfl (by rfl) ?_ ?_; rotate_left; (focus (intro w' hx; go_simp; first | done | with_reducible rfl)); simp only [Act.put, List.setIfInBounds_toArray, List.set_cons_zero, List.set_cons_succ])
  refine wpE_call rfl (by rfl) (fun K hK => ?_); go_simp; refine hK _ _ ((Ext.refl _).alloc _) ?_; clear hK K
  have K4 := heap_new' W (.cells #[.int .i64 P, .int .u32 s1, .int .u32 s2, .int .i64 0, .int .i64 0] 38)
  have hX4 := hX.alloc (.cells #[.int .i64 P, .int .u32 s1, .int .u32 s2, .int .i64 0, .int .i64 0] 38)
  have hge := hX.size
  generalize (W.alloc (.cells #[.int .i64 P, .int .u32 s1, .int .u32 s2, .int .i64 0, .int .i64 0] 38)) = V at *
  generalize W.heap.size = g at *
  (refine wpE_read (v := ?_) rfl (by rfl) ?_ ?_; rotate_left; (focus (intro w' hx; go_simp; first | done | with_reducible rfl)); simp only [Act.put, List.setIfInBounds_toArray, List.set_cons_zero, List.set_cons_succ])
  refine wpE_done ?_
  have m0 := heap_cell (k := 0) K4
  have m3 := heap_cell (k := 3) K4
  have m4 := heap_cell (k := 4) K4
  have fz := frozen_ip K4
  have H4 := h.below hX4
  have rk := HRk.out _ hX4
  have K5 := fun u v => set_at 4 u (set_at 3 v (l := [.int .i64 P, .int .u32 s1, .int .u32 s2, .int .i64 0, .int .i64 0]) K4)
  simp only [List.set_cons_zero, List.set_cons_succ] at K5
  have KK4 : Hid _ := K4
  have KK5 : Hid _ := K5
  have HX4 : Hid _ := hX4
  clear K4 K5 hX4 HRk h hX r9 g12 g16
  rcases hcs with ⟨hP, rfl, rfl⟩ | ⟨rfl, rfl, rfl, rfl⟩ | ⟨rfl, rfl, rfl, rfl⟩ | ⟨hP1, hP2, hP3, rfl, rfl⟩
  · have tok1 : Hid True := trivial
    rcases hP with rfl | rfl
    all_goals
      go_wp2_with (first
        | (go_at_call 57; clear tok1; refine (gA _ H4).mono ?_; rintro e w1 ⟨rfl, hw⟩; obtain rfl := hw.symm; clear hw)
        | (go_at_call 57; refine (gB _ H4).mono ?_; rintro e w1 ⟨rfl, hw⟩; obtain rfl := hw.symm; clear hw))
      exact HP.out g _ hge (KK5.out _ _) (ExtN.ext HX4.out (((ExtN.refl w.heap.size V).setCell (p := ⟨g, 3, none⟩) hge _).setCell (p := ⟨g, 4, none⟩) hge _) (Nat.le_refl _))
  · go_wp2_with (first
        | (go_at_call 74; refine (cQ _).mono ?_; rintro e w1 ⟨rfl, hw⟩; obtain rfl := hw.symm; clear hw)
        | (go_at_call 57; refine (gN _ H4).mono ?_; rintro e w1 ⟨rfl, hw⟩; obtain rfl := hw.symm; clear hw))
    exact HP.out g _ hge (KK5.out _ _) (ExtN.ext HX4.out (((ExtN.refl w.heap.size V).setCell (p := ⟨g, 3, none⟩) hge _).setCell (p := ⟨g, 4, none⟩) hge _) (Nat.le_refl _))
  · go_wp2_with (first
        | (go_at_call 74; refine (cQ _).mono ?_; rintro e w1 ⟨rfl, hw⟩; obtain rfl := hw.symm; clear hw))
    exact HP.out g _ hge KK4.out HX4.out
  · have e1 : (P == 6) = false := by simpa using hP1
    have e2 : (P == 17) = false := by simpa using hP2
    have e3 : (P == 1) = false := by simpa using hP3
    go_wp2
    exact HP.out g _ hge KK4.out HX4.out

theorem refInner_any (a : Option Addr) (len cap : Nat) (xs : List Int) (w : World) (h : Bytes w a len xs) (hcap : len ≤ cap) (hn : len ≤ 1000000) :
    Calls Try.prog 76 #[.slice a len cap] w (KeyAns w (aboutV xs)) := by
  cases hq : isQuoteV xs with
  | true => exact refInner_good a len cap xs w h hcap hn hq
  | false => exact refInner_bad a len cap xs w h hn hq

end Go.Proofs.Ytkagkfbdpiblkaa.Pack

namespace Go.Proofs.Ytkagkfbdpiblkaa.Pack
open Go.RowKit
set_option linter.unusedVariables false
set_option maxRecDepth 100000

theorem no_byte_p {w : World} {g : Nat} {t : TypeId} {p0 p1 : Int} {p2 p3 : Bool} {p4 p5 p6 p7 p8 : Int} {a1 : Option Addr} {n1 c1 : Nat} {a2 : Option Addr} {n2 c2 : Nat} {m0 m1 m2 m3 m4 m5 : Int} {kp : Option Addr}
    (h : w.heap[g]? = some (.cells #[.int .i64 p0, .int .i64 p1, .bool p2, .bool p3, .int .i64 p4, .int .i64 p5, .int .i64 p6, .int .u32 p7, .int .u32 p8, .slice a1 n1 c1, .slice a2 n2 c2, .int .i64 m0, .int .i64 m1, .int .i64 m2, .int .i64 m3, .int .i64 m4, .int .i64 m5, .pointer kp] t (0, 0))) : ∀ k v, w.cell? ⟨g, k, none⟩ ≠ some (.int .u8 v) := fun k v => by
  rw [heap_cell h]
  match k with
  | 0 => simp
  | 1 => simp
  | 2 => simp
  | 3 => simp
  | 4 => simp
  | 5 => simp
  | 6 => simp
  | 7 => simp
  | 8 => simp
  | 9 => simp
  | 10 => simp
  | 11 => simp
  | 12 => simp
  | 13 => simp
  | 14 => simp
  | 15 => simp
  | 16 => simp
  | 17 => simp
  | k + 18 => simp

/-- What stands in a packet's block behind a good look at what is in it. -/
def LookAns (w : World) (x : Nat) (f : Option Addr → Array Value) (o : Option KEYv) (e : Ending) (w' : World) : Prop :=
  e = .returned (.int .i64 0) ∧ ∃ k, w'.heap[x]? = some (.cells (f k) 28 (0, 0)) ∧ IsKey w' k o ∧ (∀ a, k = some a → w.heap.size ≤ a.block) ∧ ExtX x w w'

/-- An error. -/
def LookBad (w : World) (x : Nat) (er : Int) (e : Ending) (w' : World) : Prop := e = .returned (.int .i64 er) ∧ ExtX x w w'

theorem bad_cases {c : Int} {xs : List Int} (hc : c = 0 ∨ c = 1) (er : Int) (h : partV c (Icmp.lookV xs) xs = er) (h0 : er ≠ 0) : Icmp.lookV xs = er ∧ (er = 3 ∨ (er = 4 ∧ c = 0)) := by
  unfold partV shortV at h
  rcases Icmp.look_cases xs with ⟨h1, h2⟩ | ⟨h1, _, h2⟩ | ⟨h1, _, h2⟩
  · rcases hc with rfl | rfl
    · rw [if_neg (by omega)] at h; omega
    · rw [if_pos rfl, if_pos h1] at h; omega
  · rcases hc with rfl | rfl
    · rw [if_neg (by omega)] at h; omega
    · rw [if_pos rfl, if_neg (by omega)] at h; omega
  · rcases hc with rfl | rfl
    · rw [if_neg (by omega)] at h; omega
    · rw [if_pos rfl, if_neg (by omega)] at h; omega

theorem good_cases {c : Int} {xs : List Int} (hc : c = 0 ∨ c = 1) (h : partV c (Icmp.lookV xs) xs = 0) : Icmp.lookV xs = 0 ∨ (Icmp.lookV xs = 4 ∧ c = 1) := by
  have h8 := part_len h
  unfold partV at h
  rcases Icmp.look_cases xs with ⟨h1, h2⟩ | ⟨h1, _, h2⟩ | ⟨h1, _, h2⟩
  · omega
  · rcases hc with rfl | rfl
    · rw [if_neg (by omega)] at h; omega
    · exact .inr ⟨h2, rfl⟩
  · exact .inl h2

set_option maxHeartbeats 2000000 in
theorem refMsg_bad (p0 p1 : Int) (p2 p3 : Bool) (p4 p5 p6 p7 p8 : Int) (c er : Int) (a1 : Option Addr) (n1 c1 : Nat) (a2 : Option Addr) (n2 c2 : Nat) (xs : List Int) (w : World) (x : Nat)
    (hx : w.heap[x]? = some (.cells #[.int .i64 p0, .int .i64 p1, .bool p2, .bool p3, .int .i64 p4, .int .i64 p5, .int .i64 p6, .int .u32 p7, .int .u32 p8, .slice a1 n1 c1, .slice a2 n2 c2, .int .i64 c, .int .i64 0, .int .i64 0, .int .i64 0, .int .i64 0, .int .i64 0, .pointer none] 28 (0, 0))) (h2 : Bytes w a2 n2 xs) (hcap : n2 ≤ c2) (hn : n2 ≤ 1000000) (hc : c = 0 ∨ c = 1) (hv : partV c (Icmp.lookV xs) xs = er) (h0 : er ≠ 0) :
    Calls Try.prog 58 #[.pointer (some ⟨x, 0, none⟩)] w (LookBad w x er) := by
  obtain ⟨hle, hcs⟩ := bad_cases hc er hv h0
  have xa := heap_cell (k := 10) hx
  have cp := fun w h => (Icmp.refParse_any a2 n2 c2 xs w h hcap hn).mono (fun e w' (h : Icmp.ParseAns w xs e w') => (show ∃ v, e = .returned (.tuple #[v, .int .i64 (Icmp.lookV xs)]) ∧ Icmp.IsMsg w' v (Icmp.packV xs) ∧ Ext w w' from h))
  rw [hle] at cp
  generalize Icmp.packV xs = U at *
  obtain ⟨u0, u1, u2, u3⟩ := U
  have HP : Hid (∀ w', Ext w w' → LookBad w x er (.returned (.int .i64 er)) w') := fun w' h => ⟨rfl, h.but x⟩
  generalize LookBad w x er = Ans at *
  have KX : Hid _ := hx
  clear hle hv h0 hx hc
  rcases hcs with rfl | ⟨rfl, rfl⟩
  all_goals
    go_enter Try.func58, Try.ntmps58
    go_wp2_with (go_at_call 72; refine (cp _ h2).mono ?_; rintro e w1 ⟨v, rfl, ⟨⟨b1, m1, e1, rfl, _⟩⟩, hx1⟩; dsimp only; have mb := heap_cell (k := 11) ((hx1.alloc (.cells #[.int .i64 u0, .int .i64 u1, .int .u32 u2, .slice b1 m1 e1] 49)).heap KX.out))
    exact HP.out _ (hx1.alloc _)

set_option maxHeartbeats 8000000 in
theorem refMsg_good (p0 p1 : Int) (p2 p3 : Bool) (p4 p5 p6 p7 p8 : Int) (c : Int) (a1 : Option Addr) (n1 c1 : Nat) (a2 : Option Addr) (n2 c2 : Nat) (xs : List Int) (w : World) (x : Nat)
    (hx : w.heap[x]? = some (.cells #[.int .i64 p0, .int .i64 p1, .bool p2, .bool p3, .int .i64 p4, .int .i64 p5, .int .i64 p6, .int .u32 p7, .int .u32 p8, .slice a1 n1 c1, .slice a2 n2 c2, .int .i64 c, .int .i64 0, .int .i64 0, .int .i64 0, .int .i64 0, .int .i64 0, .pointer none] 28 (0, 0))) (h2 : Bytes w a2 n2 xs) (hcap : n2 ≤ c2) (hn : n2 ≤ 1000000) (hc : c = 0 ∨ c = 1) (hv : partV c (Icmp.lookV xs) xs = 0) :
    Calls Try.prog 58 #[.pointer (some ⟨x, 0, none⟩)] w
      (LookAns w x (fun k => #[.int .i64 p0, .int .i64 p1, .bool p2, .bool p3, .int .i64 p4, .int .i64 p5, .int .i64 p6, .int .u32 p7, .int .u32 p8, .slice a1 n1 c1, .slice a2 n2 c2, .int .i64 c, .int .i64 (numberV xs), .int .i64 (numberV xs), .int .i64 0, .int .i64 (byteV xs 0), .int .i64 (byteV xs 1), .pointer k]) (innerV xs)) := by
  have hcs := good_cases hc hv
  have h8 := part_len hv
  have hl := h2.length
  rw [hl] at h8
  have hok := h2.ok
  have xa := heap_cell (k := 10) hx
  have cp := fun w h => (Icmp.refParse_any a2 n2 c2 xs w h hcap hn).mono (fun e w' (h : Icmp.ParseAns w xs e w') => (show ∃ v, e = .returned (.tuple #[v, .int .i64 (Icmp.lookV xs)]) ∧ Icmp.IsMsg w' v (Icmp.packV xs) ∧ Ext w w' from h))
  have cr := fun w h => (Icmp.refRead_any a2 n2 c2 xs w h hcap hn h8).mono (fun e w' (h : Icmp.ReadAns w xs e w') => (show ∃ v, e = .returned v ∧ Icmp.IsMsg w' v ⟨byteV xs 0, byteV xs 1, accV xs 4 4, xs.drop 8⟩ ∧ Ext w w' from h))
  generalize Icmp.packV xs = U at *
  obtain ⟨u0, u1, u2, u3⟩ := U
  have ca := fun a3 n3 c3 (hc3 : n3 ≤ c3) (hn3 : n3 ≤ 1000000) w h => (refInner_any a3 n3 c3 (xs.drop 8) w h hc3 hn3).mono (fun e w' (h : KeyAns w (aboutV (xs.drop 8)) e w') => (show ∃ k, e = .returned (.pointer k) ∧ IsKey w' k (aboutV (xs.drop 8)) ∧ (∀ a, k = some a → w.heap.size ≤ a.block) ∧ Ext w w' from h))
  have hdl : (xs.drop 8).length ≤ 1000000 := by rw [List.length_drop]; omega
  have cq := fun w => Icmp.refQuery_any (byteV xs 0) w
  have cb := fun w => Icmp.refBad_any (byteV xs 0) w
  have hN : numberV xs = if Icmp.queryV (byteV xs 0) = true then get16V xs 4 else 0 := rfl
  have hI : innerV xs = if Icmp.badV (byteV xs 0) = true then aboutV (xs.drop 8) else none := rfl
  have hqb := fun h => query_not_bad (t := byteV xs 0) h
  have hR := acc_halves xs 4
  have g4 := get16V_bd hok 4
  have g6 := get16V_bd hok (4 + 2)
  have hR' : accV xs 4 4 / 65536 = get16V xs 4 := by omega
  have hRb : 0 ≤ accV xs 4 4 ∧ accV xs 4 4 < 4294967296 := by omega
  have vN := wraps_i64 (get16V xs 4) g4.1 (by omega)
  rw [hN, hI]
  clear hN hI hR g6
  generalize byteV xs 0 = T at *
  generalize byteV xs 1 = C at *
  generalize accV xs 4 4 = R at *
  generalize get16V xs 4 = N at *
  generalize aboutV (xs.drop 8) = O at *
  generalize xs.drop 8 = D at *
  generalize Icmp.queryV T = Q at *
  generalize Icmp.badV T = B at *
  have HP : Hid (∀ k w', w'.heap[x]? = some (.cells #[.int .i64 p0, .int .i64 p1, .bool p2, .bool p3, .int .i64 p4, .int .i64 p5, .int .i64 p6, .int .u32 p7, .int .u32 p8, .slice a1 n1 c1, .slice a2 n2 c2, .int .i64 c, .int .i64 (if Q = true then N else 0), .int .i64 (if Q = true then N else 0), .int .i64 0, .int .i64 T, .int .i64 C, .pointer k] 28 (0, 0)) → IsKey w' k (if B = true then O else none) → (∀ a, k = some a → w.heap.size ≤ a.block) → ExtX x w w' →
      LookAns w x (fun k => #[.int .i64 p0, .int .i64 p1, .bool p2, .bool p3, .int .i64 p4, .int .i64 p5, .int .i64 p6, .int .u32 p7, .int .u32 p8, .slice a1 n1 c1, .slice a2 n2 c2, .int .i64 c, .int .i64 (if Q = true then N else 0), .int .i64 (if Q = true then N else 0), .int .i64 0, .int .i64 T, .int .i64 C, .pointer k]) (if B = true then O else none) (.returned (.int .i64 0)) w') := fun k w' h1 h2 h3 h4 => ⟨rfl, k, h1, h2, h3, h4⟩
  generalize LookAns w x (fun k => #[.int .i64 p0, .int .i64 p1, .bool p2, .bool p3, .int .i64 p4, .int .i64 p5, .int .i64 p6, .int .u32 p7, .int .u32 p8, .slice a1 n1 c1, .slice a2 n2 c2, .int .i64 c, .int .i64 (if Q = true then N else 0), .int .i64 (if Q = true then N else 0), .int .i64 0, .int .i64 T, .int .i64 C, .pointer k]) (if B = true then O else none) = Ans at *
  have KX : Hid _ := hx
  have hxs := block_of hx
  clear hx hv hc
  have hcs' : ∃ e, Icmp.lookV xs = e ∧ (e = 0 ∨ (e = 4 ∧ (c == 0) = false)) := by
    rcases hcs with he | ⟨he, h1⟩
    · exact ⟨_, he, .inl rfl⟩
    · exact ⟨_, he, .inr ⟨rfl, by rw [h1]; rfl⟩⟩
  clear hcs
  obtain ⟨er, he, hcs⟩ := hcs'
  rw [he] at cp
  clear he
  rcases hcs with rfl | ⟨rfl, hc0⟩
  all_goals
    go_enter Try.func58, Try.ntmps58
    go_wp2_with (first
      | (go_at_call 72; refine (cp _ h2).mono ?_; rintro e w1 ⟨v, rfl, ⟨⟨b1, m1, e1, rfl, _⟩⟩, hx1⟩; dsimp only; have hx2 := hx1.alloc (.cells #[.int .i64 u0, .int .i64 u1, .int .u32 u2, .slice b1 m1 e1] 49); have mb := heap_cell (k := 11) (hx2.heap KX.out))
      | (go_at_call 73; refine (cr _ (h2.below hx2)).mono ?_; rintro e w3 ⟨v, rfl, ⟨⟨a3, n3, c3, rfl, hb3, _, hc3⟩⟩, hx3⟩; dsimp only at *))
    have hx4 : Ext w (w3.alloc (.cells #[.int .i64 T, .int .i64 C, .int .u32 R, .slice a3 n3 c3] 49)).drew := ((hx2.trans hx3).alloc _).drew
    have hx34 : Ext w3 (w3.alloc (.cells #[.int .i64 T, .int .i64 C, .int .u32 R, .slice a3 n3 c3] 49)).drew := ((Ext.refl w3).alloc _).drew
    have hB : (w3.alloc (.cells #[.int .i64 T, .int .i64 C, .int .u32 R, .slice a3 n3 c3] 49)).drew.heap[w3.heap.size]? = some (.cells #[.int .i64 T, .int .i64 C, .int .u32 R, .slice a3 n3 c3] 49 (0, 0)) := heap_new' w3 _
    have hs3 := (hx2.trans hx3).size
    refine wp_region_eagerX x [(0, false), (1, false), (2, false), (3, false), (4, false), (5, false), (6, false), (7, false), (8, true), (9, false), (10, false), (11, true)] (by kernel_rfl) (by kernel_rfl) rfl (by kernel_rfl) (fun _ _ _ _ _ h => h) ?_
    have hb4 := hb3.below hx34
    generalize (w3.alloc (.cells #[.int .i64 T, .int .i64 C, .int .u32 R, .slice a3 n3 c3] 49)).drew = V at *
    generalize hg : w3.heap.size = g at *
    have hgx : g ≠ x := by omega
    have y0 : ∀ w', ExtX x V w' → w'.cell? ⟨g, 0, none⟩ = some (.int .i64 T) := fun w' h => heap_cell (k := 0) (keepX hB h hgx)
    have y1 : ∀ w', ExtX x V w' → w'.cell? ⟨g, 1, none⟩ = some (.int .i64 C) := fun w' h => heap_cell (k := 1) (keepX hB h hgx)
    iterate 8 (refine wpE_read (v := ?_) rfl (by rfl) ?_ ?_; rotate_left; (focus (intro w' hx; go_simp; first | done | with_reducible rfl)); simp only [Act.put, List.setIfInBounds_toArray, List.set_cons_zero, List.set_cons_succ])
    have k1 := hx4.heap KX.out
    have nb := no_byte_p k1
    have mf := heap_cell (k := 15) k1
    have mg := heap_cell (k := 16) k1
    have fz := frozen_ip k1
    have KK1 : Hid _ := k1
    clear k1 y0 y1
    refine wpE_call rfl (by rfl) (fun K hK => ?_); go_simp; refine hK _ _ (putX _ _ _ _) ?_; clear hK K
    iterate 2 (refine wpE_read (v := ?_) rfl (by rfl) ?_ ?_; rotate_left; (focus (intro w' hx; go_simp; first | done | with_reducible rfl)); simp only [Act.put, List.setIfInBounds_toArray, List.set_cons_zero, List.set_cons_succ])
    refine wpE_call rfl (by rfl) (fun K hK => ?_); go_simp; refine hK _ _ (putX _ _ _ _) ?_; clear hK K
    have k6 := set_at 16 (.int .i64 C) (set_at 15 (.int .i64 T) (l := [.int .i64 p0, .int .i64 p1, .bool p2, .bool p3, .int .i64 p4, .int .i64 p5, .int .i64 p6, .int .u32 p7, .int .u32 p8, .slice a1 n1 c1, .slice a2 n2 c2, .int .i64 c, .int .i64 0, .int .i64 0, .int .i64 0, .int .i64 0, .int .i64 0, .pointer none]) KK1.out)
    simp only [List.set_cons_zero, List.set_cons_succ] at k6
    have hxs6 := (putX x 15 V (.int .i64 T)).trans (putX x 16 _ (.int .i64 C))
    refine wpE_done ?_
    have kB := keepX hB hxs6 hgx
    have hb6 := hb4.laterX hxs6 nb
    generalize ((V.setCell ⟨x, 15, none⟩ (.int .i64 T)).setCell ⟨x, 16, none⟩ (.int .i64 C)) = V6 at *
    have hX6 : ExtX x w V6 := (hx4.but x).trans hxs6
    have hs6 := hX6.size
    have y0 := heap_cell (k := 0) kB
    have y3 := heap_cell (k := 3) kB
    have f6 := frozen_ip k6
    have K6 : Hid _ := k6
    have KB : Hid _ := kB
    clear k6 kB mf mg fz KK1 hxs6 cp cr hB hb4 hb3
    cases Q with
    | true =>
      obtain rfl := hqb rfl
      go_wp2_with (first
        | (go_at_call 74; refine (cq _).mono ?_; rintro e w3 ⟨rfl, hw⟩; obtain rfl := hw.symm; clear hw))
      refine wp_region_eagerX x [(0, false), (1, false), (2, false), (3, false), (4, false), (5, false), (6, false), (7, false), (8, false), (9, false), (10, false), (11, false), (12, true), (13, false), (14, false), (15, true)] (by kernel_rfl) (by kernel_rfl) rfl (by kernel_rfl) (fun _ _ _ _ _ h => h) ?_
      have hX7 : ExtX x w V6.drew := hX6.drew
      have K7 : Hid (V6.drew.heap[x]? = _) := K6.out
      have kB7 : V6.drew.heap[g]? = _ := KB.out
      clear y0 y3 f6 K6 KB hX6
      generalize V6.drew = V7 at *
      have y2 : ∀ w', ExtX x V7 w' → w'.cell? ⟨g, 2, none⟩ = some (.int .u32 R) := fun w' h => heap_cell (k := 2) (keepX kB7 h hgx)
      iterate 12 (refine wpE_read (v := ?_) rfl (by rfl) ?_ ?_; rotate_left; (focus (intro w' hx; go_simp; first | done | with_reducible rfl)); simp only [Act.put, List.setIfInBounds_toArray, List.set_cons_zero, List.set_cons_succ])
      have k7 := K7.out
      have mc := heap_cell (k := 12) k7
      have md := heap_cell (k := 13) k7
      have fz := frozen_ip k7
      clear k7 y2
      refine wpE_call rfl (by rfl) (fun K hK => ?_); go_simp; refine hK _ _ (putX _ _ _ _) ?_; clear hK K
      iterate 2 (refine wpE_read (v := ?_) rfl (by rfl) ?_ ?_; rotate_left; (focus (intro w' hx; go_simp; first | done | with_reducible rfl)); simp only [Act.put, List.setIfInBounds_toArray, List.set_cons_zero, List.set_cons_succ])
      refine wpE_call rfl (by rfl) (fun K hK => ?_); go_simp; refine hK _ _ (putX _ _ _ _) ?_; clear hK K
      have k8 := set_at 13 (.int .i64 N) (set_at 12 (.int .i64 N) (l := [.int .i64 p0, .int .i64 p1, .bool p2, .bool p3, .int .i64 p4, .int .i64 p5, .int .i64 p6, .int .u32 p7, .int .u32 p8, .slice a1 n1 c1, .slice a2 n2 c2, .int .i64 c, .int .i64 0, .int .i64 0, .int .i64 0, .int .i64 T, .int .i64 C, .pointer none]) K7.out)
      simp only [List.set_cons_zero, List.set_cons_succ] at k8
      have hxs8 := (putX x 12 V7 (.int .i64 N)).trans (putX x 13 _ (.int .i64 N))
      refine wpE_done ?_
      have y0 := heap_cell (k := 0) (keepX kB7 hxs8 hgx)
      generalize ((V7.setCell ⟨x, 12, none⟩ (.int .i64 N)).setCell ⟨x, 13, none⟩ (.int .i64 N)) = V8 at *
      have K8 : Hid _ := k8
      clear k8 mc md fz kB7 K7
      go_wp2_with (first
        | (go_at_call 75; refine (cb _).mono ?_; rintro e w3 ⟨rfl, hw⟩; obtain rfl := hw.symm; clear hw))
      exact HP.out none _ K8.out rfl (fun a h => by cases h) (hX7.trans hxs8)
    | false =>
      clear hqb
      cases B with
      | false =>
        go_wp2_with (first
          | (go_at_call 74; refine (cq _).mono ?_; rintro e w3 ⟨rfl, hw⟩; obtain rfl := hw.symm; clear hw)
          | (go_at_call 75; refine (cb _).mono ?_; rintro e w3 ⟨rfl, hw⟩; obtain rfl := hw.symm; clear hw))
        exact HP.out none _ K6.out rfl (fun a h => by cases h) hX6
      | true =>
        have l3 := hb6.length
        have cA := ca a3 n3 c3 hc3 (by omega) V6 hb6
        clear ca
        go_wp2_with (first
          | (go_at_call 74; refine (cq _).mono ?_; rintro e w3 ⟨rfl, hw⟩; obtain rfl := hw.symm; clear hw)
          | (go_at_call 75; refine (cb _).mono ?_; rintro e w3 ⟨rfl, hw⟩; obtain rfl := hw.symm; clear hw)
          | (go_at_call 76; refine cA.mono ?_; rintro e w4 ⟨k, rfl, hk, hfr, hx5⟩; have n6 := hx5.heap K6.out; have m17 := heap_cell (k := 17) n6; have f17 := frozen_ip n6; have k8 := set_at 17 (.pointer k) (l := [.int .i64 p0, .int .i64 p1, .bool p2, .bool p3, .int .i64 p4, .int .i64 p5, .int .i64 p6, .int .u32 p7, .int .u32 p8, .slice a1 n1 c1, .slice a2 n2 c2, .int .i64 c, .int .i64 0, .int .i64 0, .int .i64 0, .int .i64 T, .int .i64 C, .pointer none]) n6; simp only [List.set_cons_zero, List.set_cons_succ] at k8; have K8 : Hid _ := k8; have hx8 := putX x 17 w4 (.pointer k); have HX8 : Hid _ := (hX6.trans (hx5.but x)).trans hx8; have HK : Hid _ := hk.laterX hx8 (fun a ha => by have := hfr a ha; omega); clear n6 k8 hx8))
        exact HP.out k _ K8.out HK.out (fun a ha => by have := hfr a ha; omega) HX8.out

end Go.Proofs.Ytkagkfbdpiblkaa.Pack

namespace Go.Proofs.Ytkagkfbdpiblkaa.Pack
open Go.RowKit
set_option linter.unusedVariables false
set_option maxRecDepth 100000

/-- What stands in a packet's block behind a look at its segment. -/
def SegLook (w : World) (x : Nat) (cs : Array Value) (er : Int) (e : Ending) (w' : World) : Prop := e = .returned (.int .i64 er) ∧ w'.heap[x]? = some (.cells cs 28 (0, 0)) ∧ ExtX x w w'

set_option maxHeartbeats 4000000 in
theorem in_seg (p0 p1 : Int) (p2 p3 : Bool) (p4 p5 p7 p8 : Int) (c : Int) (a1 : Option Addr) (n1 c1 : Nat) (a2 : Option Addr) (n2 c2 : Nat) (xs : List Int) (w : World) (x : Nat)
    (hx : w.heap[x]? = some (.cells #[.int .i64 p0, .int .i64 p1, .bool p2, .bool p3, .int .i64 p4, .int .i64 p5, .int .i64 6, .int .u32 p7, .int .u32 p8, .slice a1 n1 c1, .slice a2 n2 c2, .int .i64 c, .int .i64 0, .int .i64 0, .int .i64 0, .int .i64 0, .int .i64 0, .pointer none] 28 (0, 0))) (h2 : Bytes w a2 n2 xs) (hcap : n2 ≤ c2) (hn : n2 ≤ 1000000) :
    Calls Try.prog 32 #[.pointer (some ⟨x, 0, none⟩)] w (SegLook w x #[.int .i64 p0, .int .i64 p1, .bool p2, .bool p3, .int .i64 p4, .int .i64 p5, .int .i64 6, .int .u32 p7, .int .u32 p8, .slice a1 n1 c1, .slice a2 n2 c2, .int .i64 c, .int .i64 (Tcp.packV xs).src, .int .i64 (Tcp.packV xs).dst, .int .i64 (Tcp.packV xs).flags, .int .i64 0, .int .i64 0, .pointer none] (Tcp.lookV xs)) := by
  have xa := heap_cell (k := 10) hx
  have x6 := heap_cell (k := 6) hx
  have cp := fun w h => (Tcp.refParse_any a2 n2 c2 xs w h hcap hn).mono (fun e w' (h : Tcp.ParseAns w xs e w') => (show ∃ v, e = .returned (.tuple #[v, .int .i64 (Tcp.lookV xs)]) ∧ Tcp.IsSeg w' v (Tcp.packV xs) ∧ Ext w w' from h))
  generalize Tcp.packV xs = S at *
  generalize Tcp.lookV xs = er at *
  obtain ⟨s0, s1, s2, s3, s4, s5, s6, s7, s8⟩ := S
  dsimp only at cp ⊢
  have HP : Hid (∀ w', w'.heap[x]? = some (.cells #[.int .i64 p0, .int .i64 p1, .bool p2, .bool p3, .int .i64 p4, .int .i64 p5, .int .i64 6, .int .u32 p7, .int .u32 p8, .slice a1 n1 c1, .slice a2 n2 c2, .int .i64 c, .int .i64 s0, .int .i64 s1, .int .i64 s4, .int .i64 0, .int .i64 0, .pointer none] 28 (0, 0)) → ExtX x w w' → SegLook w x #[.int .i64 p0, .int .i64 p1, .bool p2, .bool p3, .int .i64 p4, .int .i64 p5, .int .i64 6, .int .u32 p7, .int .u32 p8, .slice a1 n1 c1, .slice a2 n2 c2, .int .i64 c, .int .i64 s0, .int .i64 s1, .int .i64 s4, .int .i64 0, .int .i64 0, .pointer none] er (.returned (.int .i64 er)) w') := fun w' h h' => ⟨rfl, h, h'⟩
  generalize SegLook w x #[.int .i64 p0, .int .i64 p1, .bool p2, .bool p3, .int .i64 p4, .int .i64 p5, .int .i64 6, .int .u32 p7, .int .u32 p8, .slice a1 n1 c1, .slice a2 n2 c2, .int .i64 c, .int .i64 s0, .int .i64 s1, .int .i64 s4, .int .i64 0, .int .i64 0, .pointer none] er = Ans at *
  have KX : Hid _ := hx
  have hxs := block_of hx
  clear hx
  go_enter Try.func32, Try.ntmps32
  go_wp2_with (go_at_call 55; refine (cp _ h2).mono ?_; rintro e w1 ⟨v, rfl, ⟨⟨b1, m1, e1, b2, m2, e2, rfl, _⟩⟩, hx1⟩; dsimp only)
  refine wp_region_eagerX x [(0, false), (1, false), (2, false), (3, false), (4, false), (5, false), (6, false), (7, false), (8, false), (9, false), (10, false), (11, true), (12, false), (13, false), (14, true), (15, false), (16, false), (17, true)] (by kernel_rfl) (by kernel_rfl) rfl (by kernel_rfl) (fun _ _ _ _ _ h => h) ?_
  have hx2 : Ext w (w1.alloc (.cells #[.int .i64 s0, .int .i64 s1, .int .u32 s2, .int .u32 s3, .int .i64 s4, .int .i64 s5, .int .i64 s6, .slice b1 m1 e1, .slice b2 m2 e2] 52)).drew := (hx1.alloc _).drew
  have hs1 := hx1.size
  have hB : (w1.alloc (.cells #[.int .i64 s0, .int .i64 s1, .int .u32 s2, .int .u32 s3, .int .i64 s4, .int .i64 s5, .int .i64 s6, .slice b1 m1 e1, .slice b2 m2 e2] 52)).drew.heap[w1.heap.size]? = some (.cells #[.int .i64 s0, .int .i64 s1, .int .u32 s2, .int .u32 s3, .int .i64 s4, .int .i64 s5, .int .i64 s6, .slice b1 m1 e1, .slice b2 m2 e2] 52 (0, 0)) := heap_new' w1 _
  generalize (w1.alloc (.cells #[.int .i64 s0, .int .i64 s1, .int .u32 s2, .int .u32 s3, .int .i64 s4, .int .i64 s5, .int .i64 s6, .slice b1 m1 e1, .slice b2 m2 e2] 52)).drew = V at *
  generalize hg : w1.heap.size = g at *
  have hgx : g ≠ x := by omega
  have y0 : ∀ w', ExtX x V w' → w'.cell? ⟨g, 0, none⟩ = some (.int .i64 s0) := fun w' h => heap_cell (k := 0) (keepX hB h hgx)
  have y1 : ∀ w', ExtX x V w' → w'.cell? ⟨g, 1, none⟩ = some (.int .i64 s1) := fun w' h => heap_cell (k := 1) (keepX hB h hgx)
  have y4 : ∀ w', ExtX x V w' → w'.cell? ⟨g, 4, none⟩ = some (.int .i64 s4) := fun w' h => heap_cell (k := 4) (keepX hB h hgx)
  iterate 11 (refine wpE_read (v := ?_) rfl (by rfl) ?_ ?_; rotate_left; (focus (intro w' hx; go_simp; first | done | with_reducible rfl)); simp only [Act.put, List.setIfInBounds_toArray, List.set_cons_zero, List.set_cons_succ])
  have k1 := hx2.heap KX.out
  have mc := heap_cell (k := 12) k1
  have md := heap_cell (k := 13) k1
  have me := heap_cell (k := 14) k1
  have fz := frozen_ip k1
  clear y0 y1 y4
  have KK1 : Hid _ := k1
  clear k1
  refine wpE_call rfl (by rfl) (fun K hK => ?_); go_simp; refine hK _ _ (putX _ _ _ _) ?_; clear hK K
  iterate 2 (refine wpE_read (v := ?_) rfl (by rfl) ?_ ?_; rotate_left; (focus (intro w' hx; go_simp; first | done | with_reducible rfl)); simp only [Act.put, List.setIfInBounds_toArray, List.set_cons_zero, List.set_cons_succ])
  refine wpE_call rfl (by rfl) (fun K hK => ?_); go_simp; refine hK _ _ (putX _ _ _ _) ?_; clear hK K
  iterate 2 (refine wpE_read (v := ?_) rfl (by rfl) ?_ ?_; rotate_left; (focus (intro w' hx; go_simp; first | done | with_reducible rfl)); simp only [Act.put, List.setIfInBounds_toArray, List.set_cons_zero, List.set_cons_succ])
  refine wpE_call rfl (by rfl) (fun K hK => ?_); go_simp; refine hK _ _ (putX _ _ _ _) ?_; clear hK K
  have k6 := set_at 14 (.int .i64 s4) (set_at 13 (.int .i64 s1) (set_at 12 (.int .i64 s0) (l := [.int .i64 p0, .int .i64 p1, .bool p2, .bool p3, .int .i64 p4, .int .i64 p5, .int .i64 6, .int .u32 p7, .int .u32 p8, .slice a1 n1 c1, .slice a2 n2 c2, .int .i64 c, .int .i64 0, .int .i64 0, .int .i64 0, .int .i64 0, .int .i64 0, .pointer none]) KK1.out))
  simp only [List.set_cons_zero, List.set_cons_succ] at k6
  have hxs6 := ((putX x 12 V (.int .i64 s0)).trans (putX x 13 _ (.int .i64 s1))).trans (putX x 14 _ (.int .i64 s4))
  refine wpE_done ?_
  have K6 : Hid _ := k6
  have HX6 : Hid _ := (hx2.but x).trans hxs6
  clear k6 hxs6 mc md me fz KK1
  generalize (((V.setCell ⟨x, 12, none⟩ (.int .i64 s0)).setCell ⟨x, 13, none⟩ (.int .i64 s1)).setCell ⟨x, 14, none⟩ (.int .i64 s4)) = V6 at *
  go_wp2
  exact HP.out _ K6.out HX6.out

theorem dat_cases {c : Int} {xs : List Int} (hc : c = 0 ∨ c = 1) : (xs.length < 8 ∧ Udp.lookV xs = 3 ∧ partV c (Udp.lookV xs) xs = 3) ∨ (8 ≤ xs.length ∧ c = 0 ∧ Udp.lookV xs = 2 ∧ partV c (Udp.lookV xs) xs = 2) ∨
    (8 ≤ xs.length ∧ c = 0 ∧ Udp.lookV xs = 3 ∧ partV c (Udp.lookV xs) xs = 3) ∨ (8 ≤ xs.length ∧ (Udp.lookV xs = 0 ∨ c = 1) ∧ partV c (Udp.lookV xs) xs = 0) := by
  unfold partV shortV
  rcases Udp.look_cases xs with ⟨h1, h2⟩ | ⟨h1, _, h2⟩ | ⟨h1, _, _, h2⟩ | ⟨h1, _, _, h2⟩
  · refine .inl ⟨h1, h2, ?_⟩
    rcases hc with rfl | rfl
    · rw [if_neg (by omega)]; exact h2
    · rw [if_pos rfl, if_pos h1]
  all_goals
    rcases hc with rfl | rfl
    · rw [if_neg (by omega), h2]; omega
    · rw [if_pos rfl, if_neg (by omega)]; omega

set_option maxHeartbeats 4000000 in
theorem in_dat_bad (p0 p1 : Int) (p2 p3 : Bool) (p4 p5 p7 p8 : Int) (c er : Int) (a1 : Option Addr) (n1 c1 : Nat) (a2 : Option Addr) (n2 c2 : Nat) (xs : List Int) (w : World) (x : Nat)
    (hx : w.heap[x]? = some (.cells #[.int .i64 p0, .int .i64 p1, .bool p2, .bool p3, .int .i64 p4, .int .i64 p5, .int .i64 17, .int .u32 p7, .int .u32 p8, .slice a1 n1 c1, .slice a2 n2 c2, .int .i64 c, .int .i64 0, .int .i64 0, .int .i64 0, .int .i64 0, .int .i64 0, .pointer none] 28 (0, 0))) (h2 : Bytes w a2 n2 xs) (hcap : n2 ≤ c2) (hn : n2 ≤ 1000000) (hc : c = 0 ∨ c = 1) (hv : partV c (Udp.lookV xs) xs = er) (h0 : er ≠ 0) :
    Calls Try.prog 32 #[.pointer (some ⟨x, 0, none⟩)] w (LookBad w x er) := by
  have xa := heap_cell (k := 10) hx
  have x6 := heap_cell (k := 6) hx
  have hl := h2.length
  have cp := fun w h => (Udp.refParse_any a2 n2 c2 xs w h hcap hn).mono (fun e w' (h : Udp.ParseAns w xs e w') => (show ∃ v, e = .returned (.tuple #[v, .int .i64 (Udp.lookV xs)]) ∧ Udp.IsDat w' v (Udp.packV xs) ∧ Ext w w' from h))
  have hcs := dat_cases (xs := xs) hc
  rw [hv, hl] at hcs
  generalize Udp.packV xs = U at *
  generalize Udp.lookV xs = eu at *
  obtain ⟨u0, u1, u2⟩ := U
  have HP : Hid (∀ w', Ext w w' → LookBad w x er (.returned (.int .i64 er)) w') := fun w' h => ⟨rfl, h.but x⟩
  generalize LookBad w x er = Ans at *
  have KX : Hid _ := hx
  clear hv hx hc
  rcases hcs with ⟨h8, rfl, rfl⟩ | ⟨h8, rfl, rfl, rfl⟩ | ⟨h8, rfl, rfl, rfl⟩ | ⟨_, _, rfl⟩
  rotate_right
  · exact absurd rfl h0
  all_goals
    have h8' : (n2 : Int) = (n2 : Int) := rfl
    clear h0
    go_enter Try.func32, Try.ntmps32
    go_wp2_with (go_at_call 56; refine (cp _ h2).mono ?_; rintro e w1 ⟨v, rfl, ⟨⟨b1, m1, e1, rfl, _⟩⟩, hx1⟩; dsimp only; have mb := heap_cell (k := 11) ((hx1.alloc (.cells #[.int .i64 u0, .int .i64 u1, .slice b1 m1 e1] 59)).heap KX.out))
    exact HP.out _ (hx1.alloc _)

set_option maxHeartbeats 4000000 in
theorem in_dat_good (p0 p1 : Int) (p2 p3 : Bool) (p4 p5 p7 p8 : Int) (c : Int) (a1 : Option Addr) (n1 c1 : Nat) (a2 : Option Addr) (n2 c2 : Nat) (xs : List Int) (w : World) (x : Nat)
    (hx : w.heap[x]? = some (.cells #[.int .i64 p0, .int .i64 p1, .bool p2, .bool p3, .int .i64 p4, .int .i64 p5, .int .i64 17, .int .u32 p7, .int .u32 p8, .slice a1 n1 c1, .slice a2 n2 c2, .int .i64 c, .int .i64 0, .int .i64 0, .int .i64 0, .int .i64 0, .int .i64 0, .pointer none] 28 (0, 0))) (h2 : Bytes w a2 n2 xs) (hcap : n2 ≤ c2) (hn : n2 ≤ 1000000) (hc : c = 0 ∨ c = 1) (hv : partV c (Udp.lookV xs) xs = 0) :
    Calls Try.prog 32 #[.pointer (some ⟨x, 0, none⟩)] w (LookAns w x (fun k => #[.int .i64 p0, .int .i64 p1, .bool p2, .bool p3, .int .i64 p4, .int .i64 p5, .int .i64 17, .int .u32 p7, .int .u32 p8, .slice a1 n1 c1, .slice a2 n2 c2, .int .i64 c, .int .i64 (get16V xs 0), .int .i64 (get16V xs 2), .int .i64 0, .int .i64 0, .int .i64 0, .pointer k]) none) := by
  have xa := heap_cell (k := 10) hx
  have x6 := heap_cell (k := 6) hx
  have hl := h2.length
  have cp := fun w h => (Udp.refParse_any a2 n2 c2 xs w h hcap hn).mono (fun e w' (h : Udp.ParseAns w xs e w') => (show ∃ v, e = .returned (.tuple #[v, .int .i64 (Udp.lookV xs)]) ∧ Udp.IsDat w' v (Udp.packV xs) ∧ Ext w w' from h))
  have hcs := dat_cases (xs := xs) hc
  rw [hv, hl] at hcs
  have g0 := fun w h => refGet16_any a2 n2 c2 xs 0 w h (by omega) (by omega)
  have g2 := fun w h => refGet16_any a2 n2 c2 xs 2 w h (by omega) (by omega)
  generalize get16V xs 0 = s0 at *
  generalize get16V xs 2 = s1 at *
  generalize Udp.packV xs = U at *
  generalize Udp.lookV xs = eu at *
  obtain ⟨u0, u1, u2⟩ := U
  have HP : Hid (∀ w', w'.heap[x]? = some (.cells #[.int .i64 p0, .int .i64 p1, .bool p2, .bool p3, .int .i64 p4, .int .i64 p5, .int .i64 17, .int .u32 p7, .int .u32 p8, .slice a1 n1 c1, .slice a2 n2 c2, .int .i64 c, .int .i64 s0, .int .i64 s1, .int .i64 0, .int .i64 0, .int .i64 0, .pointer none] 28 (0, 0)) → ExtX x w w' → LookAns w x (fun k => #[.int .i64 p0, .int .i64 p1, .bool p2, .bool p3, .int .i64 p4, .int .i64 p5, .int .i64 17, .int .u32 p7, .int .u32 p8, .slice a1 n1 c1, .slice a2 n2 c2, .int .i64 c, .int .i64 s0, .int .i64 s1, .int .i64 0, .int .i64 0, .int .i64 0, .pointer k]) none (.returned (.int .i64 0)) w') := fun w' h h' => ⟨rfl, none, h, rfl, (fun a h => by cases h), h'⟩
  generalize LookAns w x (fun k => #[.int .i64 p0, .int .i64 p1, .bool p2, .bool p3, .int .i64 p4, .int .i64 p5, .int .i64 17, .int .u32 p7, .int .u32 p8, .slice a1 n1 c1, .slice a2 n2 c2, .int .i64 c, .int .i64 s0, .int .i64 s1, .int .i64 0, .int .i64 0, .int .i64 0, .pointer k]) none = Ans at *
  have KX : Hid _ := hx
  have hxs := block_of hx
  clear hv hx hc
  have h8 : 8 ≤ n2 := by omega
  have hcs' : eu = 0 ∨ (c == 0) = false := by
    rcases hcs with ⟨_, _, h⟩ | ⟨_, _, _, h⟩ | ⟨_, _, _, h⟩ | ⟨_, h | h, _⟩
    · omega
    · omega
    · omega
    · exact .inl h
    · exact .inr (by rw [h]; rfl)
  clear hcs
  have l8 : (8 : Int) ≤ (n2 : Int) := by omega
  have tok1 : Hid True := trivial
  have H2 : Hid _ := h2
  have fin : ∀ (V : World), Ext w V → Hid (V.heap[x]? = some (.cells #[.int .i64 p0, .int .i64 p1, .bool p2, .bool p3, .int .i64 p4, .int .i64 p5, .int .i64 17, .int .u32 p7, .int .u32 p8, .slice a1 n1 c1, .slice a2 n2 c2, .int .i64 c, .int .i64 0, .int .i64 0, .int .i64 0, .int .i64 0, .int .i64 0, .pointer none] 28 (0, 0)) ∧ Bytes V a2 n2 xs) := fun V hV => ⟨hV.heap KX.out, H2.out.below hV⟩
  have done' : ∀ (V : World), Ext w V → Ans (.returned (.int .i64 0)) ((V.setCell ⟨x, 12, none⟩ (.int .i64 s0)).setCell ⟨x, 13, none⟩ (.int .i64 s1)) := fun V hV => by
    have k6 := set_at 13 (.int .i64 s1) (set_at 12 (.int .i64 s0) (l := [.int .i64 p0, .int .i64 p1, .bool p2, .bool p3, .int .i64 p4, .int .i64 p5, .int .i64 17, .int .u32 p7, .int .u32 p8, .slice a1 n1 c1, .slice a2 n2 c2, .int .i64 c, .int .i64 0, .int .i64 0, .int .i64 0, .int .i64 0, .int .i64 0, .pointer none]) (fin V hV).out.1)
    simp only [List.set_cons_zero, List.set_cons_succ] at k6
    exact HP.out _ k6 ((hV.but x).trans ((putX x 12 V (.int .i64 s0)).trans (putX x 13 _ (.int .i64 s1))))
  have DN : Hid _ := done'
  clear done' h8
  rcases hcs' with rfl | hc0
  · go_enter Try.func32, Try.ntmps32
    go_wp2_with (first
      | (go_at_call 56; refine (cp _ h2).mono ?_; rintro e w1 ⟨v, rfl, ⟨⟨b1, m1, e1, rfl, _⟩⟩, hx1⟩; dsimp only; have hx2 := hx1.alloc (.cells #[.int .i64 u0, .int .i64 u1, .slice b1 m1 e1] 59); have hf := (fin _ hx2).out; have mb := heap_cell (k := 11) hf.1; have mc := heap_cell (k := 12) hf.1; have md := heap_cell (k := 13) hf.1; have fz := frozen_ip hf.1; have b2 := hf.2; clear hf)
      | (go_at_call 57; clear tok1; refine (g0 _ b2).mono ?_; rintro e w3 ⟨rfl, hw⟩; obtain rfl := hw.symm; clear hw)
      | (go_at_call 57; refine (g2 _ b2).mono ?_; rintro e w3 ⟨rfl, hw⟩; obtain rfl := hw.symm; clear hw))
    exact DN.out _ hx2
  · by_cases he : eu = 0
    · subst he
      go_enter Try.func32, Try.ntmps32
      go_wp2_with (first
        | (go_at_call 56; refine (cp _ h2).mono ?_; rintro e w1 ⟨v, rfl, ⟨⟨b1, m1, e1, rfl, _⟩⟩, hx1⟩; dsimp only; have hx2 := hx1.alloc (.cells #[.int .i64 u0, .int .i64 u1, .slice b1 m1 e1] 59); have hf := (fin _ hx2).out; have mb := heap_cell (k := 11) hf.1; have mc := heap_cell (k := 12) hf.1; have md := heap_cell (k := 13) hf.1; have fz := frozen_ip hf.1; have b2 := hf.2; clear hf)
        | (go_at_call 57; clear tok1; refine (g0 _ b2).mono ?_; rintro e w3 ⟨rfl, hw⟩; obtain rfl := hw.symm; clear hw)
        | (go_at_call 57; refine (g2 _ b2).mono ?_; rintro e w3 ⟨rfl, hw⟩; obtain rfl := hw.symm; clear hw))
      exact DN.out _ hx2
    · have he' : (eu != 0) = true := by simpa using he
      go_enter Try.func32, Try.ntmps32
      go_wp2_with (first
        | (go_at_call 56; refine (cp _ h2).mono ?_; rintro e w1 ⟨v, rfl, ⟨⟨b1, m1, e1, rfl, _⟩⟩, hx1⟩; dsimp only; have hx2 := hx1.alloc (.cells #[.int .i64 u0, .int .i64 u1, .slice b1 m1 e1] 59); have hf := (fin _ hx2).out; have mb := heap_cell (k := 11) hf.1; have mc := heap_cell (k := 12) hf.1; have md := heap_cell (k := 13) hf.1; have fz := frozen_ip hf.1; have b2 := hf.2; clear hf)
        | (go_at_call 57; clear tok1; refine (g0 _ b2).mono ?_; rintro e w3 ⟨rfl, hw⟩; obtain rfl := hw.symm; clear hw)
        | (go_at_call 57; refine (g2 _ b2).mono ?_; rintro e w3 ⟨rfl, hw⟩; obtain rfl := hw.symm; clear hw))
      exact DN.out _ hx2

theorem in_msg_bad (p0 p1 : Int) (p2 p3 : Bool) (p4 p5 p7 p8 : Int) (c er : Int) (a1 : Option Addr) (n1 c1 : Nat) (a2 : Option Addr) (n2 c2 : Nat) (xs : List Int) (w : World) (x : Nat)
    (hx : w.heap[x]? = some (.cells #[.int .i64 p0, .int .i64 p1, .bool p2, .bool p3, .int .i64 p4, .int .i64 p5, .int .i64 1, .int .u32 p7, .int .u32 p8, .slice a1 n1 c1, .slice a2 n2 c2, .int .i64 c, .int .i64 0, .int .i64 0, .int .i64 0, .int .i64 0, .int .i64 0, .pointer none] 28 (0, 0))) (h2 : Bytes w a2 n2 xs) (hcap : n2 ≤ c2) (hn : n2 ≤ 1000000) (hc : c = 0 ∨ c = 1) (hv : partV c (Icmp.lookV xs) xs = er) (h0 : er ≠ 0) :
    Calls Try.prog 32 #[.pointer (some ⟨x, 0, none⟩)] w (LookBad w x er) := by
  have xa := heap_cell (k := 10) hx
  have x6 := heap_cell (k := 6) hx
  have cp := (refMsg_bad p0 p1 p2 p3 p4 p5 1 p7 p8 c er a1 n1 c1 a2 n2 c2 xs w x hx h2 hcap hn hc hv h0).mono (fun e w' (h : LookBad w x er e w') => (show e = .returned (.int .i64 er) ∧ ExtX x w w' from h))
  have HP : Hid (∀ w', ExtX x w w' → LookBad w x er (.returned (.int .i64 er)) w') := fun w' h => ⟨rfl, h⟩
  generalize LookBad w x er = Ans at *
  clear hx hv h0 hc
  go_enter Try.func32, Try.ntmps32
  go_wp2_with (go_at_call 58; refine cp.mono ?_; rintro e w1 ⟨rfl, hx1⟩)
  exact HP.out _ hx1

theorem in_msg_good (p0 p1 : Int) (p2 p3 : Bool) (p4 p5 p7 p8 : Int) (c : Int) (a1 : Option Addr) (n1 c1 : Nat) (a2 : Option Addr) (n2 c2 : Nat) (xs : List Int) (w : World) (x : Nat)
    (hx : w.heap[x]? = some (.cells #[.int .i64 p0, .int .i64 p1, .bool p2, .bool p3, .int .i64 p4, .int .i64 p5, .int .i64 1, .int .u32 p7, .int .u32 p8, .slice a1 n1 c1, .slice a2 n2 c2, .int .i64 c, .int .i64 0, .int .i64 0, .int .i64 0, .int .i64 0, .int .i64 0, .pointer none] 28 (0, 0))) (h2 : Bytes w a2 n2 xs) (hcap : n2 ≤ c2) (hn : n2 ≤ 1000000) (hc : c = 0 ∨ c = 1) (hv : partV c (Icmp.lookV xs) xs = 0) :
    Calls Try.prog 32 #[.pointer (some ⟨x, 0, none⟩)] w (LookAns w x (fun k => #[.int .i64 p0, .int .i64 p1, .bool p2, .bool p3, .int .i64 p4, .int .i64 p5, .int .i64 1, .int .u32 p7, .int .u32 p8, .slice a1 n1 c1, .slice a2 n2 c2, .int .i64 c, .int .i64 (numberV xs), .int .i64 (numberV xs), .int .i64 0, .int .i64 (byteV xs 0), .int .i64 (byteV xs 1), .pointer k]) (innerV xs)) := by
  have xa := heap_cell (k := 10) hx
  have x6 := heap_cell (k := 6) hx
  have cp := (refMsg_good p0 p1 p2 p3 p4 p5 1 p7 p8 c a1 n1 c1 a2 n2 c2 xs w x hx h2 hcap hn hc hv).mono (fun e w' (h : LookAns w x (fun k => #[.int .i64 p0, .int .i64 p1, .bool p2, .bool p3, .int .i64 p4, .int .i64 p5, .int .i64 1, .int .u32 p7, .int .u32 p8, .slice a1 n1 c1, .slice a2 n2 c2, .int .i64 c, .int .i64 (numberV xs), .int .i64 (numberV xs), .int .i64 0, .int .i64 (byteV xs 0), .int .i64 (byteV xs 1), .pointer k]) (innerV xs) e w') => (show e = .returned (.int .i64 0) ∧ LookAns w x (fun k => #[.int .i64 p0, .int .i64 p1, .bool p2, .bool p3, .int .i64 p4, .int .i64 p5, .int .i64 1, .int .u32 p7, .int .u32 p8, .slice a1 n1 c1, .slice a2 n2 c2, .int .i64 c, .int .i64 (numberV xs), .int .i64 (numberV xs), .int .i64 0, .int .i64 (byteV xs 0), .int .i64 (byteV xs 1), .pointer k]) (innerV xs) (.returned (.int .i64 0)) w' from ⟨h.1, rfl, h.2⟩))
  generalize LookAns w x (fun k => #[.int .i64 p0, .int .i64 p1, .bool p2, .bool p3, .int .i64 p4, .int .i64 p5, .int .i64 1, .int .u32 p7, .int .u32 p8, .slice a1 n1 c1, .slice a2 n2 c2, .int .i64 c, .int .i64 (numberV xs), .int .i64 (numberV xs), .int .i64 0, .int .i64 (byteV xs 0), .int .i64 (byteV xs 1), .pointer k]) (innerV xs) = Ans at *
  clear hx hv hc
  go_enter Try.func32, Try.ntmps32
  go_wp2_with (go_at_call 58; refine cp.mono ?_; rintro e w1 ⟨rfl, hx1⟩)
  exact hx1

theorem in_none (p0 p1 : Int) (p2 p3 : Bool) (p4 p5 p6 p7 p8 : Int) (c : Int) (a1 : Option Addr) (n1 c1 : Nat) (a2 : Option Addr) (n2 c2 : Nat) (xs : List Int) (w : World) (x : Nat)
    (hx : w.heap[x]? = some (.cells #[.int .i64 p0, .int .i64 p1, .bool p2, .bool p3, .int .i64 p4, .int .i64 p5, .int .i64 p6, .int .u32 p7, .int .u32 p8, .slice a1 n1 c1, .slice a2 n2 c2, .int .i64 c, .int .i64 0, .int .i64 0, .int .i64 0, .int .i64 0, .int .i64 0, .pointer none] 28 (0, 0))) (h2 : Bytes w a2 n2 xs) (hcap : n2 ≤ c2) (hn : n2 ≤ 1000000) (h6 : p6 ≠ 6) (h17 : p6 ≠ 17) (h1 : p6 ≠ 1) :
    Calls Try.prog 32 #[.pointer (some ⟨x, 0, none⟩)] w (LookAns w x (fun k => #[.int .i64 p0, .int .i64 p1, .bool p2, .bool p3, .int .i64 p4, .int .i64 p5, .int .i64 p6, .int .u32 p7, .int .u32 p8, .slice a1 n1 c1, .slice a2 n2 c2, .int .i64 c, .int .i64 0, .int .i64 0, .int .i64 0, .int .i64 0, .int .i64 0, .pointer k]) none) := by
  have xa := heap_cell (k := 10) hx
  have x6 := heap_cell (k := 6) hx
  have HP : Hid (LookAns w x (fun k => #[.int .i64 p0, .int .i64 p1, .bool p2, .bool p3, .int .i64 p4, .int .i64 p5, .int .i64 p6, .int .u32 p7, .int .u32 p8, .slice a1 n1 c1, .slice a2 n2 c2, .int .i64 c, .int .i64 0, .int .i64 0, .int .i64 0, .int .i64 0, .int .i64 0, .pointer k]) none (.returned (.int .i64 0)) w) := ⟨rfl, none, hx, rfl, (fun a h => by cases h), ExtX.refl x w⟩
  generalize LookAns w x (fun k => #[.int .i64 p0, .int .i64 p1, .bool p2, .bool p3, .int .i64 p4, .int .i64 p5, .int .i64 p6, .int .u32 p7, .int .u32 p8, .slice a1 n1 c1, .slice a2 n2 c2, .int .i64 c, .int .i64 0, .int .i64 0, .int .i64 0, .int .i64 0, .int .i64 0, .pointer k]) none = Ans at *
  have e1 : (p6 == 6) = false := by simpa using h6
  have e2 : (p6 == 17) = false := by simpa using h17
  have e3 : (p6 == 1) = false := by simpa using h1
  clear hx
  go_enter Try.func32, Try.ntmps32
  go_wp2
  exact HP.out

end Go.Proofs.Ytkagkfbdpiblkaa.Pack

namespace Go.Proofs.Ytkagkfbdpiblkaa.Pack
open Go.RowKit
set_option linter.unusedVariables false
set_option maxRecDepth 100000

set_option maxHeartbeats 2000000 in
theorem refPackParse_bad (a : Option Addr) (len cap : Nat) (xs : List Int) (w : World) (h : Bytes w a len xs) (hcap : len ≤ cap) (hn : len ≤ 1000000) (hv : lookV xs ≠ 0) :
    Calls Try.prog 9 #[.slice a len cap] w (PackAns w xs) := by
  have hx0 := (Ext.refl w).alloc (.cells #[.int .i64 0, .int .i64 0, .bool false, .bool false, .int .i64 0, .int .i64 0, .int .i64 0, .int .u32 0, .int .u32 0, .slice none 0 0, .slice none 0 0, .int .i64 0, .int .i64 0, .int .i64 0, .int .i64 0, .int .i64 0, .int .i64 0, .pointer none] 28)
  have H1 := heap_new' w (.cells #[.int .i64 0, .int .i64 0, .bool false, .bool false, .int .i64 0, .int .i64 0, .int .i64 0, .int .u32 0, .int .u32 0, .slice none 0 0, .slice none 0 0, .int .i64 0, .int .i64 0, .int .i64 0, .int .i64 0, .int .i64 0, .int .i64 0, .pointer none] 28)
  have hlx : lookX xs = lookV xs := by unfold lookX; rw [if_neg hv]
  have hpx : packX xs = zeroPkt := by unfold packX; rw [hlx, if_neg hv]
  have HP : Hid (∀ w', Ext w w' → PackAns w xs (.returned (.tuple #[.agg #[.int .i64 0, .int .i64 0, .bool false, .bool false, .int .i64 0, .int .i64 0, .int .i64 0, .int .u32 0, .int .u32 0, .slice none 0 0, .slice none 0 0, .int .i64 0, .int .i64 0, .int .i64 0, .int .i64 0, .int .i64 0, .int .i64 0, .pointer none], .int .i64 (lookX xs)])) w') := fun w' h => ⟨_, rfl, by rw [hpx]; exact isPkt_zero w', h⟩
  generalize PackAns w xs = Ans at *
  rw [hlx] at HP
  have hpk : packV xs = zeroIP := by unfold packV; rw [if_neg hv]
  have cp := fun w h => (refParse_any a len cap xs w h hcap hn).mono (fun e w' (h : ParseAns w xs e w') => (show ∃ v, e = .returned (.tuple #[v, .int .i64 (lookV xs)]) ∧ IsIP w' v (packV xs) ∧ Ext w w' from h))
  rw [hpk] at cp
  have hne : (lookV xs == 0) = false := by simpa using hv
  have hne' : (lookV xs != 0) = true := by simpa using hv
  generalize lookV xs = er at *
  clear hv hlx hpx hpk
  have h0 := h.below hx0
  clear h
  go_enter Try.func9, Try.ntmps9
  iterate 6 (first | go_values | go_skip | go_guarded | go_step | go_upon | go_in | go_simp)
  generalize (w.alloc (.cells #[.int .i64 0, .int .i64 0, .bool false, .bool false, .int .i64 0, .int .i64 0, .int .i64 0, .int .u32 0, .int .u32 0, .slice none 0 0, .slice none 0 0, .int .i64 0, .int .i64 0, .int .i64 0, .int .i64 0, .int .i64 0, .int .i64 0, .pointer none] 28)) = W at *
  have K1 : Hid _ := H1
  clear H1
  go_wp2_with (first
    | (go_at_call 31; refine (cp _ h0).mono ?_; rintro e w1 ⟨v, rfl, ⟨⟨a1, n1, c1, a2, n2, c2, rfl, _⟩⟩, hx1⟩; simp only [zeroIP]; have hx2 := hx1.alloc (.cells #[.int .i64 0, .int .i64 0, .bool false, .bool false, .int .i64 0, .int .i64 0, .int .i64 0, .int .u32 0, .int .u32 0, .slice a1 n1 c1, .slice a2 n2 c2] 25))
    | (refine wpl_store (by rfl) 28 _ _ rfl rfl 18 w.heap.size #[.int .i64 0, .int .i64 0, .bool false, .bool false, .int .i64 0, .int .i64 0, .int .i64 0, .int .u32 0, .int .u32 0, .slice none 0 0, .slice none 0 0, .int .i64 0, .int .i64 0, .int .i64 0, .int .i64 0, .int .i64 0, .int .i64 0, .pointer none] _ _ rfl rfl (hx2.heap K1.out) pkt_size rfl rfl (by simp [Value.oneCell']) ?_; intro w5 hx5 k5))
  exact bodyPost_ret (results_two Try.results9 _ rfl k5 Try.underlying28 rfl pkt_size) rfl (HP.out _ (ExtX.ext (hx0.trans hx2) hx5 (Nat.le_refl _)))

set_option maxHeartbeats 8000000 in
theorem refPackParse_good (a : Option Addr) (len cap : Nat) (xs : List Int) (w : World) (h : Bytes w a len xs) (hcap : len ≤ cap) (hn : len ≤ 1000000) (hv : lookV xs = 0) :
    Calls Try.prog 9 #[.slice a len cap] w (PackAns w xs) := by
  have hx0 := (Ext.refl w).alloc (.cells #[.int .i64 0, .int .i64 0, .bool false, .bool false, .int .i64 0, .int .i64 0, .int .i64 0, .int .u32 0, .int .u32 0, .slice none 0 0, .slice none 0 0, .int .i64 0, .int .i64 0, .int .i64 0, .int .i64 0, .int .i64 0, .int .i64 0, .pointer none] 28)
  have H1 := heap_new' w (.cells #[.int .i64 0, .int .i64 0, .bool false, .bool false, .int .i64 0, .int .i64 0, .int .i64 0, .int .u32 0, .int .u32 0, .slice none 0 0, .slice none 0 0, .int .i64 0, .int .i64 0, .int .i64 0, .int .i64 0, .int .i64 0, .int .i64 0, .pointer none] 28)
  have hl := h.length
  have hlx : lookX xs = lookP (parseV xs) := by unfold lookX; rw [if_pos hv]
  have hpx : packX xs = if lookP (parseV xs) = 0 then fullP (parseV xs) else zeroPkt := by unfold packX; rw [hlx]
  have HP : Hid (∀ v w', IsPkt w' v (packX xs) → Ext w w' → PackAns w xs (.returned (.tuple #[v, .int .i64 (lookX xs)])) w') := fun v w' hp h => ⟨v, rfl, hp, h⟩
  generalize PackAns w xs = Ans at *
  rw [hlx, hpx] at HP
  have hdl : (parseV xs).data.length ≤ len := by
    show ((xs.take _).drop _).length ≤ len
    rw [List.length_drop, List.length_take]; omega
  have hpk : packV xs = parseV xs := by unfold packV; rw [if_pos hv]
  have cp := fun w h => (refParse_any a len cap xs w h hcap hn).mono (fun e w' (h : ParseAns w xs e w') => (show ∃ v, e = .returned (.tuple #[v, .int .i64 (lookV xs)]) ∧ IsIP w' v (packV xs) ∧ Ext w w' from h))
  rw [hv, hpk] at cp
  have hcs := parse_cases (parseV xs)
  have hC01 := class_cases (parseV xs)
  have cC := fun a1 n1 c1 a2 n2 c2 w => refClass_any (parseV xs) a1 n1 c1 a2 n2 c2 w
  clear hv hlx hpx hpk
  have hC2 : classV (parseV xs) ≠ 2 → classV (parseV xs) = 0 ∨ classV (parseV xs) = 1 := fun h => by omega
  clear hC01
  generalize parseV xs = p at *
  generalize classV p = C at *
  generalize lookP p = er at *
  generalize fullP p = F at *
  obtain ⟨p0, p1, p2, p3, p4, p5, p6, p7, p8, p9, pa⟩ := p
  dsimp only at *
  have h0 := h.below hx0
  clear h
  go_enter Try.func9, Try.ntmps9
  iterate 6 (first | go_values | go_skip | go_guarded | go_step | go_upon | go_in | go_simp)
  have hsz : w.heap.size + 1 ≤ (w.alloc (.cells #[.int .i64 0, .int .i64 0, .bool false, .bool false, .int .i64 0, .int .i64 0, .int .i64 0, .int .u32 0, .int .u32 0, .slice none 0 0, .slice none 0 0, .int .i64 0, .int .i64 0, .int .i64 0, .int .i64 0, .int .i64 0, .int .i64 0, .pointer none] 28)).heap.size := by simp
  generalize (w.alloc (.cells #[.int .i64 0, .int .i64 0, .bool false, .bool false, .int .i64 0, .int .i64 0, .int .i64 0, .int .u32 0, .int .u32 0, .slice none 0 0, .slice none 0 0, .int .i64 0, .int .i64 0, .int .i64 0, .int .i64 0, .int .i64 0, .int .i64 0, .pointer none] 28)) = W at *
  have K1 : Hid _ := H1
  clear H1
  go_wp2_with (first
    | (go_at_call 31; refine (cp _ h0).mono ?_; rintro e w1 ⟨v, rfl, ⟨⟨a1, n1, c1, a2, n2, c2, rfl, hb1, _, hb2, _, hc2⟩⟩, hx1⟩; dsimp only at *))
  have hs1 := hx1.size
  have hBo : (w1.alloc (.cells #[.int .i64 p0, .int .i64 p1, .bool p2, .bool p3, .int .i64 p4, .int .i64 p5, .int .i64 p6, .int .u32 p7, .int .u32 p8, .slice a1 n1 c1, .slice a2 n2 c2] 25)).drew.heap[w1.heap.size]? = some (.cells #[.int .i64 p0, .int .i64 p1, .bool p2, .bool p3, .int .i64 p4, .int .i64 p5, .int .i64 p6, .int .u32 p7, .int .u32 p8, .slice a1 n1 c1, .slice a2 n2 c2] 25 (0, 0)) := heap_new' w1 _
  have hx2 : Ext w1 (w1.alloc (.cells #[.int .i64 p0, .int .i64 p1, .bool p2, .bool p3, .int .i64 p4, .int .i64 p5, .int .i64 p6, .int .u32 p7, .int .u32 p8, .slice a1 n1 c1, .slice a2 n2 c2] 25)).drew := ((Ext.refl w1).alloc _).drew
  refine wp_region_eager [(0, false), (1, false), (2, true), (3, false), (4, true), (5, false)] (by kernel_rfl) (by kernel_rfl) rfl (by kernel_rfl) (fun _ _ _ _ _ h => h) ?_
  generalize (w1.alloc (.cells #[.int .i64 p0, .int .i64 p1, .bool p2, .bool p3, .int .i64 p4, .int .i64 p5, .int .i64 p6, .int .u32 p7, .int .u32 p8, .slice a1 n1 c1, .slice a2 n2 c2] 25)).drew = V at *
  have hrd : ∀ k w', Ext V w' → w'.cell? ⟨w1.heap.size, k, none⟩ = (#[.int .i64 p0, .int .i64 p1, .bool p2, .bool p3, .int .i64 p4, .int .i64 p5, .int .i64 p6, .int .u32 p7, .int .u32 p8, .slice a1 n1 c1, .slice a2 n2 c2] : Array Value)[k]? := fun k w' hx => heap_cell (hx.heap hBo)
  have y0 := hrd 0
  have y1 := hrd 1
  have y2 := hrd 2
  have y3 := hrd 3
  have y4 := hrd 4
  have y5 := hrd 5
  have y6 := hrd 6
  have y7 := hrd 7
  have y8 := hrd 8
  have y9 := hrd 9
  have y10 := hrd 10
  simp only [List.getElem?_toArray, List.getElem?_cons_zero, List.getElem?_cons_succ] at y0 y1 y2 y3 y4 y5 y6 y7 y8 y9 y10
  clear hrd
  iterate 2 (refine wpE_read (v := ?_) rfl (by rfl) ?_ ?_; rotate_left; (focus (intro w' hx; go_simp; first | done | with_reducible rfl)); simp only [Act.put, List.setIfInBounds_toArray, List.set_cons_zero, List.set_cons_succ])
  clear y0 y1 y2 y3 y4 y5 y6 y7 y8 y9 y10
  refine wpE_call rfl (by rfl) (fun K hK => ?_); go_simp; (go_at_call 18; refine (cC a1 n1 c1 a2 n2 c2 V).mono ?_; rintro e V2 ⟨rfl, hx4⟩; refine hK _ _ hx4 ?_; clear hK K)
  (refine wpE_read (v := ?_) rfl (by rfl) ?_ ?_; rotate_left; (focus (intro w' hx; go_simp; first | done | with_reducible rfl)); simp only [Act.put, List.setIfInBounds_toArray, List.set_cons_zero, List.set_cons_succ])
  refine wpE_call rfl (by rfl) (fun K hK => ?_); go_simp; refine hK _ _ ((Ext.refl _).alloc _) ?_; clear hK K
  have k6 := heap_new' V2 (.cells #[.int .i64 p0, .int .i64 p1, .bool p2, .bool p3, .int .i64 p4, .int .i64 p5, .int .i64 p6, .int .u32 p7, .int .u32 p8, .slice a1 n1 c1, .slice a2 n2 c2, .int .i64 C, .int .i64 0, .int .i64 0, .int .i64 0, .int .i64 0, .int .i64 0, .pointer none] 28)
  have hx14 : Ext w1 (V2.alloc (.cells #[.int .i64 p0, .int .i64 p1, .bool p2, .bool p3, .int .i64 p4, .int .i64 p5, .int .i64 p6, .int .u32 p7, .int .u32 p8, .slice a1 n1 c1, .slice a2 n2 c2, .int .i64 C, .int .i64 0, .int .i64 0, .int .i64 0, .int .i64 0, .int .i64 0, .pointer none] 28)) := (hx2.trans hx4).alloc _
  have hsx := (hx2.trans hx4).size
  have hs4 : V2.heap.size + 1 ≤ (V2.alloc (.cells #[.int .i64 p0, .int .i64 p1, .bool p2, .bool p3, .int .i64 p4, .int .i64 p5, .int .i64 p6, .int .u32 p7, .int .u32 p8, .slice a1 n1 c1, .slice a2 n2 c2, .int .i64 C, .int .i64 0, .int .i64 0, .int .i64 0, .int .i64 0, .int .i64 0, .pointer none] 28)).heap.size := by simp
  generalize (V2.alloc (.cells #[.int .i64 p0, .int .i64 p1, .bool p2, .bool p3, .int .i64 p4, .int .i64 p5, .int .i64 p6, .int .u32 p7, .int .u32 p8, .slice a1 n1 c1, .slice a2 n2 c2, .int .i64 C, .int .i64 0, .int .i64 0, .int .i64 0, .int .i64 0, .int .i64 0, .pointer none] 28)) = V4 at *
  generalize V2.heap.size = x at *
  (refine wpE_read (v := ?_) rfl (by rfl) ?_ ?_; rotate_left; (focus (intro w' hx; go_simp; first | done | with_reducible rfl)); simp only [Act.put, List.setIfInBounds_toArray, List.set_cons_zero, List.set_cons_succ])
  refine wpE_done ?_
  have hX4 : Ext w V4 := (hx0.trans hx1).trans hx14
  have mb := heap_cell (k := 11) k6
  have b1 := hb1.below hx14
  have b2 := hb2.below hx14
  have l2 := hb2.length
  have K6 : Hid _ := k6
  have KZ : Hid _ := hx14.heap (hx1.heap K1.out)
  have nb := no_byte_z KZ.out
  have nx := no_byte_p k6
  clear k6 hBo hx2 hb1 hb2 cp cC h0 K1 hx1 hx4
  rcases hcs with ⟨rfl, rfl, rfl⟩ | ⟨hC, rfl, hE, rfl⟩ | ⟨hC, rfl, hE, rfl⟩ | ⟨hC, rfl, hE, rfl⟩ | ⟨hC, hP1, hP2, hP3, rfl, rfl⟩
  · rw [if_pos rfl] at HP
    clear hC2
    go_wp2_with (first
      | (refine wpl_load (by rfl) 28 _ rfl x _ _ _ rfl K6.out Try.underlying28 rfl pkt_size ?_)
      | (refine wpl_store (by rfl) 28 _ _ rfl rfl 18 w.heap.size _ _ _ rfl rfl KZ.out pkt_size rfl rfl (by simp [Value.oneCell']) ?_; intro w5 hx7 k5))
    exact bodyPost_ret (results_two Try.results9 _ rfl k5 Try.underlying28 rfl pkt_size) rfl
        (HP.out _ _ ⟨a1, n1, c1, a2, n2, c2, none, rfl, b1.laterX hx7 nb, b2.laterX hx7 nb, rfl⟩ (ExtX.ext hX4 hx7 (Nat.le_refl _)))
  · have hCb : (C == 2) = false := by simpa using hC
    have hCn : (C != 2) = true := by simpa using hC
    have hc01 := hC2 hC
    clear hC2
    by_cases hz : er = 0
    · subst hz
      rw [if_pos rfl] at HP
      have hpk : Tcp.packV pa = Tcp.parseV pa := by unfold Tcp.packV; rw [if_pos hE.symm]
      have cs := in_seg p0 p1 p2 p3 p4 p5 p7 p8 C a1 n1 c1 a2 n2 c2 pa V4 x K6.out b2 hc2 (by omega)
      rw [← hE, hpk] at cs
      have cs := cs.mono (fun e w' (h : SegLook V4 x _ 0 e w') => (show e = .returned (.int .i64 0) ∧ w'.heap[x]? = _ ∧ ExtX x V4 w' from h))
      clear hE hpk
      go_wp2_with (first
        | (go_at_call 32; refine cs.mono ?_; rintro e w3 ⟨rfl, hk3, hx8⟩; have K8 : Hid _ := hk3; have K9 : Hid _ := keepX KZ.out hx8 (by omega); clear hk3)
        | (refine wpl_load (by rfl) 28 _ rfl x _ _ _ rfl K8.out Try.underlying28 rfl pkt_size ?_)
        | (refine wpl_store (by rfl) 28 _ _ rfl rfl 18 w.heap.size _ _ _ rfl rfl K9.out pkt_size rfl rfl (by simp [Value.oneCell']) ?_; intro w5 hx7 k5))
      exact bodyPost_ret (results_two Try.results9 _ rfl k5 Try.underlying28 rfl pkt_size) rfl
          (HP.out _ _ ⟨a1, n1, c1, a2, n2, c2, none, rfl, (b1.laterX hx8 nx).laterX hx7 (no_byte_z K9.out), (b2.laterX hx8 nx).laterX hx7 (no_byte_z K9.out), rfl⟩ (ExtX.ext (ExtX.ext hX4 hx8 (by omega)) hx7 (Nat.le_refl _)))
    · rw [if_neg hz] at HP
      have cs := in_seg p0 p1 p2 p3 p4 p5 p7 p8 C a1 n1 c1 a2 n2 c2 pa V4 x K6.out b2 hc2 (by omega)
      rw [← hE] at cs
      have hzb : (er != 0) = true := by simpa using hz
      have hzc : (er == 0) = false := by simpa using hz
      clear hE
      go_wp2_with (first
        | (go_at_call 32; refine cs.mono ?_; rintro e w3 ⟨rfl, _, hx8⟩; have K9 : Hid _ := keepX KZ.out hx8 (by omega))
        | (refine wpl_store (by rfl) 28 _ _ rfl rfl 18 w.heap.size _ _ _ rfl rfl K9.out pkt_size rfl rfl (by simp [Value.oneCell']) ?_; intro w5 hx7 k5))
      exact bodyPost_ret (results_two Try.results9 _ rfl k5 Try.underlying28 rfl pkt_size) rfl
          (HP.out _ _ (isPkt_zero _) (ExtX.ext (ExtX.ext hX4 hx8 (by omega)) hx7 (Nat.le_refl _)))
  · have hCb : (C == 2) = false := by simpa using hC
    have hCn : (C != 2) = true := by simpa using hC
    have hc01 := hC2 hC
    clear hC2
    by_cases hz : er = 0
    · subst hz
      rw [if_pos rfl] at HP
      have cs := in_dat_good p0 p1 p2 p3 p4 p5 p7 p8 C a1 n1 c1 a2 n2 c2 pa V4 x K6.out b2 hc2 (by omega) hc01 hE.symm
      clear hE
      go_wp2_with (first
        | (go_at_call 32; refine cs.mono ?_; rintro e w3 ⟨rfl, k, hk3, hk, hfr, hx8⟩; have K8 : Hid _ := hk3; have K9 : Hid _ := keepX KZ.out hx8 (by omega); clear hk3)
        | (refine wpl_load (by rfl) 28 _ rfl x _ _ _ rfl K8.out Try.underlying28 rfl pkt_size ?_)
        | (refine wpl_store (by rfl) 28 _ _ rfl rfl 18 w.heap.size _ _ _ rfl rfl K9.out pkt_size rfl rfl (by simp [Value.oneCell']) ?_; intro w5 hx7 k5))
      exact bodyPost_ret (results_two Try.results9 _ rfl k5 Try.underlying28 rfl pkt_size) rfl
          (HP.out _ _ ⟨a1, n1, c1, a2, n2, c2, k, rfl, (b1.laterX hx8 nx).laterX hx7 (no_byte_z K9.out), (b2.laterX hx8 nx).laterX hx7 (no_byte_z K9.out), hk.laterX hx7 (fun a ha => by have := hfr a ha; omega)⟩ (ExtX.ext (ExtX.ext hX4 hx8 (by omega)) hx7 (Nat.le_refl _)))
    · rw [if_neg hz] at HP
      have cs := in_dat_bad p0 p1 p2 p3 p4 p5 p7 p8 C er a1 n1 c1 a2 n2 c2 pa V4 x K6.out b2 hc2 (by omega) hc01 hE.symm hz
      have hzb : (er != 0) = true := by simpa using hz
      have hzc : (er == 0) = false := by simpa using hz
      clear hE
      go_wp2_with (first
        | (go_at_call 32; refine cs.mono ?_; rintro e w3 ⟨rfl, hx8⟩; have K9 : Hid _ := keepX KZ.out hx8 (by omega))
        | (refine wpl_store (by rfl) 28 _ _ rfl rfl 18 w.heap.size _ _ _ rfl rfl K9.out pkt_size rfl rfl (by simp [Value.oneCell']) ?_; intro w5 hx7 k5))
      exact bodyPost_ret (results_two Try.results9 _ rfl k5 Try.underlying28 rfl pkt_size) rfl
          (HP.out _ _ (isPkt_zero _) (ExtX.ext (ExtX.ext hX4 hx8 (by omega)) hx7 (Nat.le_refl _)))
  · have hCb : (C == 2) = false := by simpa using hC
    have hCn : (C != 2) = true := by simpa using hC
    have hc01 := hC2 hC
    clear hC2
    by_cases hz : er = 0
    · subst hz
      rw [if_pos rfl] at HP
      have cs := in_msg_good p0 p1 p2 p3 p4 p5 p7 p8 C a1 n1 c1 a2 n2 c2 pa V4 x K6.out b2 hc2 (by omega) hc01 hE.symm
      clear hE
      go_wp2_with (first
        | (go_at_call 32; refine cs.mono ?_; rintro e w3 ⟨rfl, k, hk3, hk, hfr, hx8⟩; have K8 : Hid _ := hk3; have K9 : Hid _ := keepX KZ.out hx8 (by omega); clear hk3)
        | (refine wpl_load (by rfl) 28 _ rfl x _ _ _ rfl K8.out Try.underlying28 rfl pkt_size ?_)
        | (refine wpl_store (by rfl) 28 _ _ rfl rfl 18 w.heap.size _ _ _ rfl rfl K9.out pkt_size rfl rfl (by simp [Value.oneCell']) ?_; intro w5 hx7 k5))
      exact bodyPost_ret (results_two Try.results9 _ rfl k5 Try.underlying28 rfl pkt_size) rfl
          (HP.out _ _ ⟨a1, n1, c1, a2, n2, c2, k, rfl, (b1.laterX hx8 nx).laterX hx7 (no_byte_z K9.out), (b2.laterX hx8 nx).laterX hx7 (no_byte_z K9.out), hk.laterX hx7 (fun a ha => by have := hfr a ha; omega)⟩ (ExtX.ext (ExtX.ext hX4 hx8 (by omega)) hx7 (Nat.le_refl _)))
    · rw [if_neg hz] at HP
      have cs := in_msg_bad p0 p1 p2 p3 p4 p5 p7 p8 C er a1 n1 c1 a2 n2 c2 pa V4 x K6.out b2 hc2 (by omega) hc01 hE.symm hz
      have hzb : (er != 0) = true := by simpa using hz
      have hzc : (er == 0) = false := by simpa using hz
      clear hE
      go_wp2_with (first
        | (go_at_call 32; refine cs.mono ?_; rintro e w3 ⟨rfl, hx8⟩; have K9 : Hid _ := keepX KZ.out hx8 (by omega))
        | (refine wpl_store (by rfl) 28 _ _ rfl rfl 18 w.heap.size _ _ _ rfl rfl K9.out pkt_size rfl rfl (by simp [Value.oneCell']) ?_; intro w5 hx7 k5))
      exact bodyPost_ret (results_two Try.results9 _ rfl k5 Try.underlying28 rfl pkt_size) rfl
          (HP.out _ _ (isPkt_zero _) (ExtX.ext (ExtX.ext hX4 hx8 (by omega)) hx7 (Nat.le_refl _)))
  · have hCb : (C == 2) = false := by simpa using hC
    have hCn : (C != 2) = true := by simpa using hC
    have hc01 := hC2 hC
    clear hC2
    rw [if_pos rfl] at HP
    have cs := in_none p0 p1 p2 p3 p4 p5 p6 p7 p8 C a1 n1 c1 a2 n2 c2 pa V4 x K6.out b2 hc2 (by omega) hP1 hP2 hP3
    clear hP1 hP2 hP3
    go_wp2_with (first
      | (go_at_call 32; refine cs.mono ?_; rintro e w3 ⟨rfl, k, hk3, hk, hfr, hx8⟩; have K8 : Hid _ := hk3; have K9 : Hid _ := keepX KZ.out hx8 (by omega); clear hk3)
      | (refine wpl_load (by rfl) 28 _ rfl x _ _ _ rfl K8.out Try.underlying28 rfl pkt_size ?_)
      | (refine wpl_store (by rfl) 28 _ _ rfl rfl 18 w.heap.size _ _ _ rfl rfl K9.out pkt_size rfl rfl (by simp [Value.oneCell']) ?_; intro w5 hx7 k5))
    exact bodyPost_ret (results_two Try.results9 _ rfl k5 Try.underlying28 rfl pkt_size) rfl
        (HP.out _ _ ⟨a1, n1, c1, a2, n2, c2, k, rfl, (b1.laterX hx8 nx).laterX hx7 (no_byte_z K9.out), (b2.laterX hx8 nx).laterX hx7 (no_byte_z K9.out), hk.laterX hx7 (fun a ha => by have := hfr a ha; omega)⟩ (ExtX.ext (ExtX.ext hX4 hx8 (by omega)) hx7 (Nat.le_refl _)))

theorem refPackParse_any (a : Option Addr) (len cap : Nat) (xs : List Int) (w : World) (h : Bytes w a len xs) (hcap : len ≤ cap) (hn : len ≤ 1000000) :
    Calls Try.prog 9 #[.slice a len cap] w (PackAns w xs) := by
  by_cases hv : lookV xs = 0
  · exact refPackParse_good a len cap xs w h hcap hn hv
  · exact refPackParse_bad a len cap xs w h hcap hn hv

end Go.Proofs.Ytkagkfbdpiblkaa.Pack
