/- What ip.Build answers of any packet that may be built and is not long (chapter 4). -/
import Derived.Test.YtlfjbmjincffoaaIp4
namespace Go.Proofs.Ytlfjbmjincffoaa
open Go.RowKit
set_option linter.unusedVariables false

/-- The header's first ten bytes. -/
def aheadV (p : IPv) : List Int :=
  [64 + (20 + (p.opts.length : Int)) / 4, p.tos, (20 + (p.opts.length : Int) + p.data.length) / 256 % 256, (20 + (p.opts.length : Int) + p.data.length) % 256, p.id / 256 % 256, p.id % 256,
    (flagV p.df p.mf + p.off) / 256 % 256, (flagV p.df p.mf + p.off) % 256, p.ttl, p.proto]

/-- The header behind the checksum. -/
def behindV (p : IPv) : List Int :=
  [p.src / 16777216, p.src / 65536 % 256, p.src / 256 % 256, p.src % 256] ++ ([p.dst / 16777216, p.dst / 65536 % 256, p.dst / 256 % 256, p.dst % 256] ++ p.opts)

/-- The checksum. -/
def checkV (p : IPv) : Int := ofV (aheadV p ++ behindV p)

/-- A packet as bytes. -/
def buildV (p : IPv) : List Int := aheadV p ++ ([checkV p / 256 % 256, checkV p % 256] ++ (behindV p ++ p.data))

/-- What comes in: numbers within their kinds, lists of bytes. -/
structure Fine (p : IPv) : Prop where
  s0 : 0 ≤ p.src
  s1 : p.src ≤ 4294967295
  d0 : 0 ≤ p.dst
  d1 : p.dst ≤ 4294967295
  o : BytesOk p.opts
  d : BytesOk p.data

/-- What may be built. -/
structure Fits (p : IPv) : Prop where
  t0 : 0 ≤ p.tos
  t1 : p.tos ≤ 255
  l0 : 0 ≤ p.ttl
  l1 : p.ttl ≤ 255
  r0 : 0 ≤ p.proto
  r1 : p.proto ≤ 255
  i0 : 0 ≤ p.id
  i1 : p.id ≤ 65535
  o0 : 0 ≤ p.off
  o1 : p.off ≤ 8191
  n4 : p.opts.length % 4 = 0
  n40 : p.opts.length ≤ 40

theorem isV_iff (p : IPv) : isV p = true ↔ Fits p := by
  unfold isV
  rw [decide_eq_true_eq]
  constructor
  · rintro ⟨h1, h2, h3, h4, h5, h6, h7, h8, h9, h10, h11, h12⟩
    exact ⟨h1, h2, h3, h4, h5, h6, h7, h8, h9, h10, h11, h12⟩
  · intro h
    exact ⟨h.t0, h.t1, h.l0, h.l1, h.r0, h.r1, h.i0, h.i1, h.o0, h.o1, h.n4, h.n40⟩

theorem flagV_bd (d m : Bool) : 0 ≤ flagV d m ∧ flagV d m ≤ 24576 ∧ flagV d m % 8192 = 0 := by
  cases d <;> cases m <;> simp [flagV]

theorem flag_or (d m : Bool) (o : Int) (h0 : 0 ≤ o) (h1 : o ≤ 8191) : bits .or .i64 (flagV d m) o = flagV d m + o := by
  have h := flagV_bd d m
  exact bits_join .i64 63 (by decide) wraps_i64 13 (flagV d m) o (by omega) (by omega) (by omega) h0 (by omega) (by omega)

theorem head_or (h : Int) (h0 : 5 ≤ h) (h1 : h ≤ 15) : bits .or .i64 64 h = 64 + h :=
  bits_join .i64 63 (by decide) wraps_i64 4 64 h (by omega) (by omega) (by omega) (by omega) (by omega) (by omega)

theorem ahead_ok {p : IPv} (f : Fine p) (h : Fits p) : BytesOk (aheadV p) := by
  have := h.t0; have := h.t1; have := h.l0; have := h.l1; have := h.r0; have := h.r1; have := h.n40
  intro x hx
  simp only [aheadV, List.mem_cons, List.not_mem_nil, or_false] at hx
  omega

theorem behind_ok {p : IPv} (f : Fine p) : BytesOk (behindV p) := by
  have := f.s0; have := f.s1; have := f.d0; have := f.d1
  refine bytesOk_append ?_ (bytesOk_append ?_ f.o)
  · intro x hx
    simp only [List.mem_cons, List.not_mem_nil, or_false] at hx
    omega
  · intro x hx
    simp only [List.mem_cons, List.not_mem_nil, or_false] at hx
    omega

theorem ahead_len (p : IPv) : (aheadV p).length = 10 := rfl
theorem behind_len (p : IPv) : (behindV p).length = 8 + p.opts.length := by
  unfold behindV; simp; omega
theorem build_len (p : IPv) : (buildV p).length = 20 + p.opts.length + p.data.length := by
  unfold buildV; rw [List.length_append, List.length_append, List.length_append, ahead_len, behind_len]; simp; omega

theorem check_bd {p : IPv} (f : Fine p) (h : Fits p) : 0 ≤ checkV p ∧ checkV p ≤ 65535 := ofV_bd (bytesOk_append (ahead_ok f h) (behind_ok f))

theorem build_ok {p : IPv} (f : Fine p) (h : Fits p) : BytesOk (buildV p) := by
  have := check_bd f h
  refine bytesOk_append (ahead_ok f h) (bytesOk_append ?_ (bytesOk_append (behind_ok f) f.d))
  intro x hx
  simp only [List.mem_cons, List.not_mem_nil, or_false] at hx
  omega

/-- Join of a literal of slices, which the caller owns. -/
theorem joinL_own (N k : Nat) (vs : List Value) (L : List (List Int)) (w : World) (hg : w.heap[N]? = some (.cells vs.toArray 22 (0, 0))) (hk : L.length = k) (hk' : k ≤ 1000)
    (h : ∀ i, i < k → ∃ p n c, vs[i]? = some (.slice p n c) ∧ Bytes w p n (L[i]?.getD []) ∧ (p = none → c = 0)) (ys : List Int) (n : Nat) (hf : L.flatten = ys) (hn : ys.length = n) (hs : n ≤ 1000000) :
    Calls Try.prog 28 #[.slice (some ⟨N, 0, none⟩) k k] w fun e w' => ∃ q d, e = .returned (.slice q n d) ∧ w'.ownsRow w.heap.size 5 1 (.slice q n d) n (ys.map (Value.int .u8)) ∧ Ext w w' := by
  have hL : BytesL w (some ⟨N, 0, none⟩) k L := ⟨hk, by omega, .inr ⟨N, 0, rfl, fun i hi => by
    obtain ⟨p, n, c, h1, h2, h3⟩ := h i hi
    exact ⟨p, n, c, by rw [heap_cell hg]; simpa using h1, h2, h3⟩⟩⟩
  subst hf
  subst hn
  refine (join_own _ k k L w hL hs).mono ?_
  rintro e w' ⟨v, rfl, ho, hx⟩
  obtain ⟨q, d, rfl⟩ := owns_shape ho
  exact ⟨q, d, rfl, ho, hx⟩

theorem bytes_of_heap {w : World} {g : Nat} {xs : List Int} {t : TypeId} (h : w.heap[g]? = some (.cells (xs.map (Value.int .u8)).toArray t (0, 0))) (hok : BytesOk xs) (hs : xs.length ≤ 9223372036854775807) : Bytes w (some ⟨g, 0, none⟩) xs.length xs :=
  ⟨rfl, hs, hok, .inr ⟨g, 0, rfl, fun i hi => by rw [heap_cell h]; simp [hi]⟩⟩

/-- What Build answers. -/
def BuildAns (w : World) (p : IPv) (e : Ending) (w' : World) : Prop := ∃ q c, e = .returned (.tuple #[.slice q (20 + p.opts.length + p.data.length) c, .int .i64 0]) ∧
  w'.ownsRow w.heap.size 5 1 (.slice q (20 + p.opts.length + p.data.length) c) (20 + p.opts.length + p.data.length) ((buildV p).map (Value.int .u8)) ∧ Ext w w'

set_option maxHeartbeats 1000000 in
theorem build_bad (p : IPv) (a1 : Option Addr) (n1 c1 : Nat) (a2 : Option Addr) (n2 c2 : Nat) (w : World) (h1 : p.opts.length = n1) (hn : n1 ≤ 9223372036854775807) (hv : isV p = false) :
    Calls Try.prog 18 #[.agg #[.int .i64 p.tos, .int .i64 p.id, .bool p.df, .bool p.mf, .int .i64 p.off, .int .i64 p.ttl, .int .i64 p.proto, .int .u32 p.src, .int .u32 p.dst, .slice a1 n1 c1, .slice a2 n2 c2]] w fun e w' => e = .returned (.tuple #[.slice none 0 0, .int .i64 1]) ∧ Ext w w' := by
  have c := fun w => fits_any p a1 n1 c1 a2 n2 c2 w h1 hn
  rw [hv] at c
  obtain ⟨p0, p1, p2, p3, p4, p5, p6, p7, p8, p9, pa⟩ := p
  dsimp only at *
  have hx : Ext w (w.alloc (.cells #[.int .i64 p0, .int .i64 p1, .bool p2, .bool p3, .int .i64 p4, .int .i64 p5, .int .i64 p6, .int .u32 p7, .int .u32 p8, .slice a1 n1 c1, .slice a2 n2 c2] 25)) := (Ext.refl w).alloc _
  go_enter Try.func18, Try.ntmps18
  go_wp2_with (go_at_call 31; refine (c _).mono ?_; rintro e w1 ⟨rfl, hx1⟩)
  go_ret2
  exact ⟨rfl, hx.trans hx1⟩

end Go.Proofs.Ytlfjbmjincffoaa
