/- Package match: port, One. -/
import Derived.Test.YtdkmakjjcfkfaaaMa2
import Derived.Test.YtdkmakjjcfkfaaaSkip
namespace Go.Proofs.Ytdkmakjjcfkfaaa.Ma
open Go.RowKit Go.Proofs.Ytdkmakjjcfkfaaa Go.Proofs.Ytdkmakjjcfkfaaa.Ru
set_option linter.unusedVariables false
set_option linter.unusedSimpArgs false
set_option maxRecDepth 100000

/-- A packet that stands in a block: its cells. -/
structure PkAt (W : World) (b : Nat) (p : PkV) : Prop where
  all : ∀ w', Ext W w' → w'.rangeAt b 0 (pkL p)
  c6 : ∀ w', Ext W w' → w'.cell? ⟨b, 6, none⟩ = some (.int .i64 p.proto)
  c7 : ∀ w', Ext W w' → w'.cell? ⟨b, 7, none⟩ = some (.int .u32 p.sa)
  c8 : ∀ w', Ext W w' → w'.cell? ⟨b, 8, none⟩ = some (.int .u32 p.da)
  c9 : ∀ w', Ext W w' → w'.cell? ⟨b, 9, none⟩ = some (.slice p.o p.on p.oc)
  ca : ∀ w', Ext W w' → w'.cell? ⟨b, 10, none⟩ = some (.slice p.d p.dn p.dc)
  cc : ∀ w', Ext W w' → w'.cell? ⟨b, 12, none⟩ = some (.int .i64 p.sp)
  cd : ∀ w', Ext W w' → w'.cell? ⟨b, 13, none⟩ = some (.int .i64 p.dp)
  ce : ∀ w', Ext W w' → w'.cell? ⟨b, 14, none⟩ = some (.int .i64 p.flags)
  cf : ∀ w', Ext W w' → w'.cell? ⟨b, 15, none⟩ = some (.int .i64 p.type)

theorem pkAt {W : World} {b : Nat} {p : PkV} (h : W.heap[b]? = some (.cells (pkL p).toArray 30 (0, 0))) : PkAt W b p :=
  ⟨range_box h, fun w' hx => heap_cell (hx.heap h), fun w' hx => heap_cell (hx.heap h), fun w' hx => heap_cell (hx.heap h), fun w' hx => heap_cell (hx.heap h), fun w' hx => heap_cell (hx.heap h), fun w' hx => heap_cell (hx.heap h), fun w' hx => heap_cell (hx.heap h), fun w' hx => heap_cell (hx.heap h), fun w' hx => heap_cell (hx.heap h)⟩

theorem PkAt.ext {W W' : World} {b : Nat} {p : PkV} (h : PkAt W b p) (hx : Ext W W') : PkAt W' b p :=
  ⟨fun w' k => h.all w' (hx.trans k), fun w' k => h.c6 w' (hx.trans k), fun w' k => h.c7 w' (hx.trans k), fun w' k => h.c8 w' (hx.trans k), fun w' k => h.c9 w' (hx.trans k), fun w' k => h.ca w' (hx.trans k), fun w' k => h.cc w' (hx.trans k), fun w' k => h.cd w' (hx.trans k), fun w' k => h.ce w' (hx.trans k), fun w' k => h.cf w' (hx.trans k)⟩

/-- A rule that stands in a block, from its cell o on. -/
structure RuAt (W : World) (b o : Nat) (r : RuleV) : Prop where
  all : ∀ w', Ext W w' → w'.rangeAt b o (ruleL r)
  c2 : ∀ w', Ext W w' → w'.cell? ⟨b, o + 2, none⟩ = some (.bool r.quick)
  c3 : ∀ w', Ext W w' → w'.cell? ⟨b, o + 3, none⟩ = some (.string r.on)
  c4 : ∀ w', Ext W w' → w'.cell? ⟨b, o + 4, none⟩ = some (.int .i64 r.proto)
  s5 : ∀ w', Ext W w' → w'.rangeAt b (o + 5) (sideL r.src)
  s11 : ∀ w', Ext W w' → w'.rangeAt b (o + 11) (sideL r.dst)
  c17 : ∀ w', Ext W w' → w'.cell? ⟨b, o + 17, none⟩ = some (.int .i64 r.set)
  c18 : ∀ w', Ext W w' → w'.cell? ⟨b, o + 18, none⟩ = some (.int .i64 r.mask)
  c19 : ∀ w', Ext W w' → w'.cell? ⟨b, o + 19, none⟩ = some (.int .i64 r.type)

theorem six {α : Type} {a0 a1 a2 a3 a4 a5 : α} {cs : List α} {k : Nat} (h0 : cs[k + 0]? = some a0) (h1 : cs[k + 1]? = some a1) (h2 : cs[k + 2]? = some a2) (h3 : cs[k + 3]? = some a3) (h4 : cs[k + 4]? = some a4) (h5 : cs[k + 5]? = some a5) :
    ∀ (j : Nat) v, [a0, a1, a2, a3, a4, a5][j]? = some v → cs[k + j]? = some v := by
  intro j v hj
  have hl : j < 6 := (List.getElem?_eq_some_iff.1 hj).1
  match j, hl with
  | 0, _ => rw [h0]; exact hj
  | 1, _ => rw [h1]; exact hj
  | 2, _ => rw [h2]; exact hj
  | 3, _ => rw [h3]; exact hj
  | 4, _ => rw [h4]; exact hj
  | 5, _ => rw [h5]; exact hj

theorem ruAt {W : World} {b o : Nat} {r : RuleV} (h : ∀ w', Ext W w' → w'.rangeAt b o (ruleL r)) : RuAt W b o r :=
  ⟨h, range_cell h 2 _ rfl, range_cell h 3 _ rfl, range_cell h 4 _ rfl, range_part 5 _ (six rfl rfl rfl rfl rfl rfl) h, range_part 11 _ (six rfl rfl rfl rfl rfl rfl) h, range_cell h 17 _ rfl, range_cell h 18 _ rfl, range_cell h 19 _ rfl⟩

set_option maxHeartbeats 1000000 in
theorem port_any (p : PkV) (n : Int) (w : World) :
    Calls Try.prog 19 #[.agg (pkL p).toArray, .int .i64 n] w fun e w' => e = .returned (.int .i64 (portV p n)) ∧ Ext w w' := by
  obtain ⟨W, hW⟩ : ∃ W, w.alloc (.cells (pkL p).toArray 30) = W := ⟨_, rfl⟩
  have hx0 : Ext w W := hW ▸ (Ext.refl w).alloc _
  have hp : PkAt W w.heap.size p := pkAt (hW ▸ heap_new w _)
  have y6 := hp.c6 W (Ext.refl W)
  clear hp
  unfold portV
  obtain ⟨cs, hcs⟩ : ∃ cs, pkL p = cs := ⟨_, rfl⟩
  rw [hcs] at hW ⊢
  clear hcs
  generalize p.proto = q at *
  cases h1 : q == 6 with
  | true =>
    rw [show (if (true || q == 17) = true then n else 0) = n by simp]
    go_enter Try.func19, Try.ntmps19
    go_wp2
    go_ret
    exact ⟨rfl, hx0⟩
  | false =>
    cases h2 : q == 17 with
    | true =>
      rw [show (if (false || true) = true then n else 0) = n by simp]
      go_enter Try.func19, Try.ntmps19
      go_wp2
      go_ret
      exact ⟨rfl, hx0⟩
    | false =>
      rw [show (if (false || false) = true then n else 0) = 0 by simp]
      go_enter Try.func19, Try.ntmps19
      go_wp2
      go_ret
      exact ⟨rfl, hx0⟩

theorem later {W W1 : World} {x : Addr} {v : Value} (h : ∀ w', Ext W w' → w'.cell? x = some v) (hx : Ext W W1) : ∀ w', Ext W1 w' → w'.cell? x = some v := fun w' k => h w' (hx.trans k)

theorem ext_next {W A B : World} (h : Hid (∀ w', Ext A w' → Ext W w')) (hx : Ext A B) : Hid (∀ w', Ext B w' → Ext W w') := fun w' k => h.out w' (hx.trans k)
end Go.Proofs.Ytdkmakjjcfkfaaa.Ma
