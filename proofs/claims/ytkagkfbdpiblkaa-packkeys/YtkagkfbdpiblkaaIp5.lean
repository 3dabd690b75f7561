/- What ip.Build answers of any packet that may be built and is not long (chapter 4). -/
import Derived.Test.YtkagkfbdpiblkaaIp4
namespace Go.Proofs.Ytkagkfbdpiblkaa
open Go.RowKit
set_option linter.unusedVariables false

/-- The header's first ten bytes. -/
def aheadV (p : IPv) : List Int :=
  [64 + (20 + (p.opts.length : Int)) / 4, p.tos, (20 + (p.opts.length : Int) + p.data.length) / 256 % 256, (20 + (p.opts.length : Int) + p.data.length) % 256, p.id / 256 % 256, p.id % 256,
    (flagV p.df p.mf + p.off) / 256 % 256, (flagV p.df p.mf + p.off) % 256, p.ttl, p.proto]

/-- The header behind the checksum. -/
def behindV (p : IPv) : List Int :=
  [p.src / 16777216, p.src / 65536 % 256, p.src / 256 % 256, p.src % 256] ++ ([p.dst / 16777216, p.dst / 65536 % 256, p.dst / 256 % 256, p.dst % 256] ++ p.opts)

/-- The checksum. -/
def checkV (p : IPv) : Int := ofV (aheadV p ++ behindV p)

/-- A packet as bytes. -/
def buildV (p : IPv) : List Int := aheadV p ++ ([checkV p / 256 % 256, checkV p % 256] ++ (behindV p ++ p.data))

/-- What comes in: numbers within their kinds, lists of bytes. -/
structure Fine (p : IPv) : Prop where
  s0 : 0 ≤ p.src
  s1 : p.src ≤ 4294967295
  d0 : 0 ≤ p.dst
  d1 : p.dst ≤ 4294967295
  o : BytesOk p.opts
  d : BytesOk p.data

/-- What may be built. -/
structure Fits (p : IPv) : Prop where
  t0 : 0 ≤ p.tos
  t1 : p.tos ≤ 255
  l0 : 0 ≤ p.ttl
  l1 : p.ttl ≤ 255
  r0 : 0 ≤ p.proto
  r1 : p.proto ≤ 255
  i0 : 0 ≤ p.id
  i1 : p.id ≤ 65535
  o0 : 0 ≤ p.off
  o1 : p.off ≤ 8191
  n4 : p.opts.length % 4 = 0
  n40 : p.opts.length ≤ 40

theorem isV_iff (p : IPv) : isV p = true ↔ Fits p := by
  unfold isV
  rw [decide_eq_true_eq]
  constructor
  · rintro ⟨h1, h2, h3, h4, h5, h6, h7, h8, h9, h10, h11, h12⟩
    exact ⟨h1, h2, h3, h4, h5, h6, h7, h8, h9, h10, h11, h12⟩
  · intro h
    exact ⟨h.t0, h.t1, h.l0, h.l1, h.r0, h.r1, h.i0, h.i1, h.o0, h.o1, h.n4, h.n40⟩

theorem flagV_bd (d m : Bool) : 0 ≤ flagV d m ∧ flagV d m ≤ 24576 ∧ flagV d m % 8192 = 0 := by
  cases d <;> cases m <;> simp [flagV]

theorem flag_or (d m : Bool) (o : Int) (h0 : 0 ≤ o) (h1 : o ≤ 8191) : bits .or .i64 (flagV d m) o = flagV d m + o := by
  have h := flagV_bd d m
  exact bits_join .i64 63 (by decide) wraps_i64 13 (flagV d m) o (by omega) (by omega) (by omega) h0 (by omega) (by omega)

theorem head_or (h : Int) (h0 : 5 ≤ h) (h1 : h ≤ 15) : bits .or .i64 64 h = 64 + h :=
  bits_join .i64 63 (by decide) wraps_i64 4 64 h (by omega) (by omega) (by omega) (by omega) (by omega) (by omega)

theorem ahead_ok {p : IPv} (f : Fine p) (h : Fits p) : BytesOk (aheadV p) := by
  have := h.t0; have := h.t1; have := h.l0; have := h.l1; have := h.r0; have := h.r1; have := h.n40
  intro x hx
  simp only [aheadV, List.mem_cons, List.not_mem_nil, or_false] at hx
  omega

theorem behind_ok {p : IPv} (f : Fine p) : BytesOk (behindV p) := by
  have := f.s0; have := f.s1; have := f.d0; have := f.d1
  refine bytesOk_append ?_ (bytesOk_append ?_ f.o)
  · intro x hx
    simp only [List.mem_cons, List.not_mem_nil, or_false] at hx
    omega
  · intro x hx
    simp only [List.mem_cons, List.not_mem_nil, or_false] at hx
    omega

theorem ahead_len (p : IPv) : (aheadV p).length = 10 := rfl
theorem behind_len (p : IPv) : (behindV p).length = 8 + p.opts.length := by
  unfold behindV; simp; omega
theorem build_len (p : IPv) : (buildV p).length = 20 + p.opts.length + p.data.length := by
  unfold buildV; rw [List.length_append, List.length_append, List.length_append, ahead_len, behind_len]; simp; omega

theorem check_bd {p : IPv} (f : Fine p) (h : Fits p) : 0 ≤ checkV p ∧ checkV p ≤ 65535 := ofV_bd (bytesOk_append (ahead_ok f h) (behind_ok f))

theorem build_ok {p : IPv} (f : Fine p) (h : Fits p) : BytesOk (buildV p) := by
  have := check_bd f h
  refine bytesOk_append (ahead_ok f h) (bytesOk_append ?_ (bytesOk_append (behind_ok f) f.d))
  intro x hx
  simp only [List.mem_cons, List.not_mem_nil, or_false] at hx
  omega

/-- What Build answers. -/
def BuildAns (w : World) (p : IPv) (e : Ending) (w' : World) : Prop := ∃ q c, e = .returned (.tuple #[.slice q (20 + p.opts.length + p.data.length) c, .int .i64 0]) ∧
  w'.ownsRow w.heap.size 5 1 (.slice q (20 + p.opts.length + p.data.length) c) (20 + p.opts.length + p.data.length) ((buildV p).map (Value.int .u8)) ∧ Ext w w'

end Go.Proofs.Ytkagkfbdpiblkaa
