/- Law 15's helpers: known; literals of rules. -/
import Derived.Test.YtdkmakjjcfkfaaaMaC
import Derived.Great.BuildSlice
namespace Go.Proofs.Ytdkmakjjcfkfaaa.Ma
open Go.RowKit Go.Proofs.Ytdkmakjjcfkfaaa Go.Proofs.Ytdkmakjjcfkfaaa.Ru
set_option linter.unusedVariables false
set_option linter.unusedSimpArgs false
set_option maxRecDepth 100000

theorem Try.infoRule : (Try.prog.info? 43).map (fun i => (i.zero.map (·.cells.size), i.size, i.bytes)) = some (some 28, 28, 248) := by kernel_rfl

theorem info_rule : ∃ i z, Try.prog.info? 43 = some i ∧ i.zero = some z ∧ z.cells.size = 28 ∧ i.size = 28 ∧ i.bytes = 248 := by
  obtain ⟨i, hi, h⟩ := Option.map_eq_some_iff.1 Try.infoRule
  simp only [Prod.mk.injEq] at h
  obtain ⟨z, hz, h1⟩ := Option.map_eq_some_iff.1 h.1
  exact ⟨i, z, hi, hz, h1, h.2⟩

/-- A rule as a value. -/
def ruleVl (r : RuleV) : Value := .agg (ruleL r).toArray

/-- A literal of rules. -/
theorem wp_rules {o : Oper} {a : Act} {w : World} {K : Act → World → Prop} {Q : Exit → Act → World → Prop} (L : List RuleV) (hL : L ≠ []) (hl : L.length ≤ 100) (parts : Array (Nat × Operand)) (ho : o.op = .buildSlice 22 L.length parts)
    (hp : (parts.toList.map fun (i, x) => (i, a.eval x)) = ((L.map ruleVl).zipIdx 0).map fun x => (x.2, x.1))
    (h : ∀ w', Ext w w' → w'.heap[w.heap.size]? = some (.cells (L.flatMap ruleL).toArray 43 (0, 0)) → K (a.put o.dst (.slice (some ⟨w.heap.size, 0, none⟩) L.length L.length)) w') : o.wp Try.prog a w K Q := by
  obtain ⟨i, z, hi, hz, hzs, hsz, hby⟩ := info_rule
  have hpos : 0 < L.length := List.length_pos_iff.2 hL
  refine wp_buildSlice 22 43 L.length parts ho (L.flatMap ruleL).toArray i z Try.underlying22 hi hz (by rw [hsz]; omega) (by rw [hsz]; omega) ?_ ?_
  · rw [Array.toList_map, hp, hsz]
    have h28 : ∀ v ∈ L.map ruleVl, v.cells.size = 28 := fun v hv => by
      obtain ⟨r, _, rfl⟩ := List.mem_map.1 hv
      rfl
    have := Great.fill_whole (s := 28) (by omega) (L.map ruleVl) ((Array.range (L.length * 28)).map (z.cells[· % z.cells.size]!)) h28 (by simp)
    rw [this, List.flatMap_map]
    rfl
  · exact h _ ((Ext.refl w).alloc _) (heap_new w _)

set_option maxHeartbeats 4000000 in
theorem known_any (w : World) : Calls Try.prog 16 #[] w fun e w' => e = .returned (.bool true) ∧ Ext w w' := by
  obtain ⟨W, hW⟩ : ∃ W, w.alloc (.cells (pkL zeroPk).toArray 30) = W := ⟨_, rfl⟩
  have hx0 : Ext w W := hW ▸ (Ext.refl w).alloc _
  have HP : Hid _ := (pkAt (hW ▸ heap_new w (.cells (pkL zeroPk).toArray 30)) : PkAt W w.heap.size zeroPk).all
  have HW : Hid _ := hW
  clear hW
  go_enter Try.func16, Try.ntmps16
  go_wp2_with fail
  have hd : Ext W (w.alloc (.cells (pkL zeroPk).toArray 30)).drew := HW.out ▸ (Ext.refl W).drew
  refine wp_region_eager [(3, false), (0, true), (1, true), (2, true), (4, true), (5, false), (6, false)] (by kernel_rfl) (by kernel_rfl) rfl (by kernel_rfl) (fun _ _ _ _ _ h => h) (WpH.out ?_)
  obtain ⟨W1, hW1⟩ : ∃ W1, (w.alloc (.cells (pkL zeroPk).toArray 30)).drew = W1 := ⟨_, rfl⟩
  rw [hW1] at hd
  unfold pkL zeroPk at hW1
  dsimp only at hW1
  rw [hW1]
  clear hW1
  (refine wpH_read rfl (by rfl) (fun w' hx => exec_range 30 _ rfl w.heap.size 0 (pkL zeroPk) _ rfl (HP.out _ (hd.trans hx)) Try.underlying30 rfl pk_size) ?_; simp only [Act.put, List.setIfInBounds_toArray, List.set_cons_zero, List.set_cons_succ])
  (refine wpH_call rfl (by rfl) (fun K hK => ?_); go_simp; (go_at_call 17; refine (plain_any false _).mono ?_; rintro e w2 ⟨rfl, hx2⟩; refine hK _ _ hx2 ?_; clear hK K))
  (refine wpH_call rfl (by rfl) (fun K hK => ?_); go_simp; (go_at_call 17; refine (plain_any true _).mono ?_; rintro e w3 ⟨rfl, hx3⟩; refine hK _ _ hx3 ?_; clear hK K))
  (refine wpH_call rfl (by rfl) (fun K hK => ?_); refine wp_rules [plainV false false ⟨#[]⟩, plainV true false ⟨#[]⟩] (by simp) (by decide) _ rfl rfl ?_; intro w4 hx4 hb; refine hK _ _ hx4 ?_; clear hK K; simp only [Act.put, List.setIfInBounds_toArray, List.set_cons_zero, List.set_cons_succ])
  have hl : RdL w4 (some ⟨w3.heap.size, 0, none⟩) 2 [plainV false false ⟨#[]⟩, plainV true false ⟨#[]⟩] := ⟨rdK_block (rest := []) ruleL_len (by rw [List.append_nil]; exact hb), by decide, fun r hr => by
    simp only [List.mem_cons, List.not_mem_nil, or_false] at hr
    rcases hr with rfl | rfl <;> exact ruOk_plain _ _ _⟩
  have hc := last_any (some ⟨w3.heap.size, 0, none⟩) 2 2 _ none 0 0 [] ⟨#[97]⟩ zeroPk w4 hl (rdN_nil _) pkOk_zero
  rw [last_known] at hc
  clear hl hb
  (refine wpH_call rfl (by rfl) (fun K hK => ?_); go_simp; (go_at_call 12; refine hc.mono ?_; rintro e w5 ⟨rfl, hx5⟩; refine hK _ _ hx5 ?_; clear hK K))
  iterate 2 (refine wpH_read (v := ?_) rfl (by rfl) ?_ ?_; rotate_left; (focus (intro w' hx; go_simp; first | done | with_reducible rfl)); simp only [Act.put, List.setIfInBounds_toArray, List.set_cons_zero, List.set_cons_succ])
  refine wpH_done ?_
  have hx : Ext w w5 := hx0.trans (hd.trans (hx2.trans (hx3.trans (hx4.trans hx5))))
  clear hd hx2 hx3 hx4 hx5 HP HW hc hx0
  go_wp2_with fail
  go_ret
  exact ⟨rfl, hx⟩
end Go.Proofs.Ytdkmakjjcfkfaaa.Ma
