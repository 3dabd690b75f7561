/- Law 15's helpers: plain, known. -/
import Derived.Test.YtdkmakjjcfkfaaaMaB
import Derived.Great.BuildSlice
namespace Go.Proofs.Ytdkmakjjcfkfaaa.Ma
open Go.RowKit Go.Proofs.Ytdkmakjjcfkfaaa Go.Proofs.Ytdkmakjjcfkfaaa.Ru
set_option linter.unusedVariables false
set_option linter.unusedSimpArgs false
set_option maxRecDepth 100000

theorem blk_lt {w : World} {b : Nat} {o : Obj} (h : w.heap[b]? = some o) : b < w.heap.size := by
  rcases Nat.lt_or_ge b w.heap.size with hl | hl
  · exact hl
  · simp [Array.getElem?_eq_none hl] at h

/-- A rule that means all, or what is on an interface. -/
def allS : SideV := ⟨true, ⟨#[]⟩, 0, 0, 0, 65535⟩
def plainV (pass q : Bool) (on : ByteArray) : RuleV := ⟨pass, false, q, on, 0, allS, allS, 0, 0, -1, false, ⟨false, ⟨#[]⟩, 0⟩, ⟨false, ⟨#[]⟩, 0⟩, 0⟩

theorem toList_none : (⟨#[]⟩ : ByteArray).toList = [] := by rw [ByteArray.toList_eq]

theorem one_plain (pass q : Bool) (T : List NmV) (iface : ByteArray) (k : PkV) (s0 : 0 ≤ portV k k.sp) (s1 : portV k k.sp ≤ 65535) (d0 : 0 ≤ portV k k.dp) (d1 : portV k k.dp ≤ 65535) : oneV (plainV pass q ⟨#[]⟩) T iface k = true := by
  unfold oneV onV protoV flagV typeV sideV meantV plainV allS
  simp only [toList_none]
  simp [s0, s1, d0, d1]

theorem port_in {k : PkV} {n : Int} (h0 : 0 ≤ n) (h1 : n ≤ 65535) : 0 ≤ portV k n ∧ portV k n ≤ 65535 := by
  unfold portV; split <;> omega

theorem one_off (pass q : Bool) (T : List NmV) (on iface : ByteArray) (k : PkV) (h0 : on.toList ≠ []) (h1 : on.toList ≠ iface.toList) : oneV (plainV pass q on) T iface k = false := by
  have h : onV (plainV pass q on) iface = false := by
    unfold onV plainV
    simp [h0, h1]
  unfold oneV
  rw [h]; rfl

theorem ruOk_plain (pass q : Bool) (on : ByteArray) : RuOk (plainV pass q on) := ⟨by show (0 : Int) ≤ 0; decide, by show (0 : Int) ≤ 4294967295; decide, by show (0 : Int) ≤ 0; decide, by show (0 : Int) ≤ 4294967295; decide⟩

set_option maxHeartbeats 4000000 in
theorem plain_any (pass : Bool) (w : World) : Calls Try.prog 17 #[.bool pass] w fun e w' => e = .returned (.agg (ruleL (plainV pass false ⟨#[]⟩)).toArray) ∧ Ext w w' := by
  obtain ⟨W1, hW1⟩ : ∃ W, w.alloc (.cells #[.bool false, .bool false, .bool false, .string ⟨#[]⟩, .int .i64 0, .bool false, .string ⟨#[]⟩, .int .u32 0, .int .i64 0, .int .i64 0, .int .i64 0, .bool false, .string ⟨#[]⟩, .int .u32 0, .int .i64 0, .int .i64 0, .int .i64 0, .int .i64 0, .int .i64 0, .int .i64 0, .bool false, .bool false, .string ⟨#[]⟩, .int .u32 0, .bool false, .string ⟨#[]⟩, .int .u32 0, .int .i64 0] 43) = W := ⟨_, rfl⟩
  have hx1 : Ext w W1 := hW1 ▸ (Ext.refl w).alloc _
  have hb := hW1 ▸ heap_new w (.cells #[.bool false, .bool false, .bool false, .string ⟨#[]⟩, .int .i64 0, .bool false, .string ⟨#[]⟩, .int .u32 0, .int .i64 0, .int .i64 0, .int .i64 0, .bool false, .string ⟨#[]⟩, .int .u32 0, .int .i64 0, .int .i64 0, .int .i64 0, .int .i64 0, .int .i64 0, .int .i64 0, .bool false, .bool false, .string ⟨#[]⟩, .int .u32 0, .bool false, .string ⟨#[]⟩, .int .u32 0, .int .i64 0] 43)
  have hlt : w.heap.size < W1.heap.size := blk_lt hb
  have HB : Hid _ := fun o => (Below.heap_alloc W1 o _ hlt).trans hb
  have hxa : ∀ o, Ext w (W1.alloc o) := fun o => hx1.alloc o
  clear hb
  go_enter Try.func17, Try.ntmps17
  go_wp2_with (refine wpl_store (by rfl) 43 _ _ rfl rfl 28 w.heap.size (ruleL (plainV pass false ⟨#[]⟩)).toArray _ _ rfl rfl (HB.out _) rule_size rfl rfl (rule_one _) ?_; intro w2 hy2 k2; have HY : Hid _ := hy2; have K2 : Hid _ := k2; clear hy2 k2)
  exact bodyPost_ret (results_one Try.results17 _ rfl K2.out Try.underlying43 rfl rule_size) rfl ⟨rfl, ExtX.ext (hxa _) HY.out (Nat.le_refl _)⟩

/-- Nothing looked at. -/
def zeroPk : PkV := ⟨0, 0, false, false, 0, 0, 0, 0, 0, none, 0, 0, none, 0, 0, 0, 0, 0, 0, 0, 0, none⟩

theorem pkOk_zero : PkOk zeroPk := ⟨by decide, by decide, by decide, by decide⟩

theorem last_known : lastV (fun r => oneV r [] ⟨#[97]⟩ zeroPk) [plainV false false ⟨#[]⟩, plainV true false ⟨#[]⟩] = 1 := by
  have h : ∀ b, oneV (plainV b false ⟨#[]⟩) [] ⟨#[97]⟩ zeroPk = true := fun b => one_plain b false _ _ _ (by decide) (by decide) (by decide) (by decide)
  unfold lastV lastK lastK lastK
  simp only [h]
  rfl

/-- A block of elements, each of k cells, as a row. -/
theorem flat_at {α : Type} {k : Nat} {f : α → List Value} (hk : ∀ z, (f z).length = k) : ∀ (L : List α) (i j : Nat) (x : α) (v : Value), L[i]? = some x → (f x)[j]? = some v → (L.flatMap f)[i * k + j]? = some v
  | [], i, j, x, v, h, _ => by simp at h
  | y :: L, 0, j, x, v, h, hv => by
    simp only [List.getElem?_cons_zero, Option.some.injEq] at h
    subst h
    rw [List.flatMap_cons, Nat.zero_mul, Nat.zero_add, List.getElem?_append_left (List.getElem?_eq_some_iff.1 hv).1]
    exact hv
  | y :: L, i + 1, j, x, v, h, hv => by
    rw [List.getElem?_cons_succ] at h
    rw [List.flatMap_cons, List.getElem?_append_right (by rw [hk, Nat.add_mul]; omega), hk, show (i + 1) * k + j - k = i * k + j by rw [Nat.add_mul]; omega]
    exact flat_at hk L i j x v h hv

theorem rdK_block {α : Type} {k : Nat} {f : α → List Value} (hk : ∀ z, (f z).length = k) {W : World} {b : Nat} {L : List α} {rest : List Value} {t : TypeId} (h : W.heap[b]? = some (.cells (L.flatMap f ++ rest).toArray t (0, 0))) : RdK k f W (some ⟨b, 0, none⟩) L.length L := by
  refine ⟨rfl, .inr ⟨b, 0, rfl, blk_lt h, fun i x hi j v hj => ?_⟩⟩
  have h1 := flat_at hk L i j x v hi hj
  rw [heap_cell h, Nat.zero_add]
  rw [List.getElem?_toArray, List.getElem?_append_left (List.getElem?_eq_some_iff.1 h1).1]
  exact h1

theorem rdN_nil (w : World) : RdN w none 0 [] := ⟨rdK_nil _ _ _ _, by decide, fun z hz => by cases hz⟩

end Go.Proofs.Ytdkmakjjcfkfaaa.Ma
