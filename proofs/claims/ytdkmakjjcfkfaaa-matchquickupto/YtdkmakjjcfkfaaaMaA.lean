/- The document's Last. -/
import Derived.Test.YtdkmakjjcfkfaaaMa9
namespace Go.Proofs.Ytdkmakjjcfkfaaa.Ma
open Go.RowKit Go.Proofs.Ytdkmakjjcfkfaaa Go.Proofs.Ytdkmakjjcfkfaaa.Ru
set_option linter.unusedVariables false
set_option linter.unusedSimpArgs false
set_option maxRecDepth 100000

set_option maxHeartbeats 4000000 in
theorem refLast_any (q : Option Addr) (m cm : Nat) (L : List RuleV) (p : Option Addr) (n c : Nat) (T : List NmV) (iface : ByteArray) (k : PkV) (w : World) (hL : RdL w q m L) (hR : RdN w p n T) (hk : PkOk k) :
    Calls Try.prog 13 #[.slice q m cm, .slice p n c, .string iface, .agg (pkL k).toArray] w fun e w' => e = .returned (.int .i64 (lastV (fun r => oneV r T iface k) L)) ∧ Ext w w' := by
  obtain ⟨W, hW⟩ : ∃ W, w.alloc (.cells (pkL k).toArray 30) = W := ⟨_, rfl⟩
  have hx0 : Ext w W := hW ▸ (Ext.refl w).alloc _
  have HP : Hid _ := (pkAt (hW ▸ heap_new w (.cells (pkL k).toArray 30)) : PkAt W w.heap.size k).all
  have HL : Hid (RdL W q m L) := hL.ext hx0
  have HO : Hid (∀ r ∈ L, ∀ w', Ext W w' → Calls Try.prog 11 #[.agg (ruleL r).toArray, .slice p n c, .string iface, .agg (pkL k).toArray] w' fun e w2 => e = .returned (.bool (oneV r T iface k)) ∧ Ext w' w2) :=
    fun r hr w' hx => refOne_any r p n c T iface k w' ((hR.ext hx0).ext hx) (hL.ok r hr) hk
  obtain ⟨f, hf⟩ : ∃ f, (fun r => oneV r T iface k) = f := ⟨_, rfl⟩
  have hf' : ∀ r, oneV r T iface k = f r := fun r => congrFun hf r
  simp only [hf'] at HO
  simp only [hf]
  have lk := pkL_len k
  obtain ⟨y, hy⟩ : ∃ y, lastV f L = y := ⟨_, rfl⟩
  rw [hy]
  have HY : Hid (lastK f (L.drop 0) (-1) 0 = y) := hy
  have HM : Hid (L.length = m) := hL.row.len
  have hm := hL.le
  clear hL hR hk hf hf' hy
  generalize pkL k = ck at *
  go_enter Try.func13, Try.ntmps13
  go_wp2_with fail
  go_loopg [9, 10] m (fun kx s9 s10 wr => ∃ (j : Nat) (last : Int), s9 = .int .i64 last ∧ s10 = .int .i64 (j : Int) ∧ j ≤ m ∧ m - j ≤ kx ∧ Ext W wr ∧ Hid (lastK f (L.drop j) last j = y))
  case atStart => exact ⟨0, -1, rfl, rfl, Nat.zero_le _, Nat.le_refl _, Ext.refl _, HY⟩
  case round =>
    obtain ⟨j, last, rfl, rfl, hjm, hjx, hx, HA⟩ := hrel
    by_cases hlt : j < m
    · obtain ⟨r, hr⟩ : ∃ r, L[j]? = some r := ⟨_, List.getElem?_eq_getElem (by rw [HM.out]; omega)⟩
      have hc := HO.out r (List.mem_of_getElem? hr)
      obtain ⟨b, off, rfl, hb, hg⟩ := (HL.out.ext hx).row.get hr
      have HT : Hid _ := lastK_at (f := f) hr last j
      have hji : (j : Int) < (m : Int) := by omega
      have HG : Hid (∀ w', Ext wr w' → w'.rangeAt b (off + j * 28) (ruleL r)) := hg
      have HP2 : Hid (∀ w', Ext wr w' → w'.rangeAt w.heap.size 0 ck) := fun w' h => HP.out w' (hx.trans h)
      replace hc := fun w' (h : Ext wr w') => hc w' (hx.trans h)
      have lr := ruleL_len r
      clear hr hb hg
      generalize hcr : ruleL r = cr at *
      go_wp2_with fail
      refine wp_region_eager [(0, false), (1, false), (2, false), (3, false), (4, false), (5, false), (6, false), (7, true), (8, false)] (by kernel_rfl) (by kernel_rfl) rfl (by kernel_rfl) (fun _ _ _ _ _ h => h) (WpH.out ?_)
      have hxd : Ext wr wr.drew := (Ext.refl wr).drew
      generalize wr.drew = W1 at *
      iterate 3 (refine wpH_read (v := ?_) rfl (by rfl) ?_ ?_; rotate_left; (focus (intro w' hx; go_simp; first | done | with_reducible rfl)); simp only [Act.put, List.setIfInBounds_toArray, List.set_cons_zero, List.set_cons_succ])
      (refine wpH_read rfl (by rfl) (fun w' hx => exec_range 43 _ rfl b (off + j * 28) _ _ rfl (HG.out _ (hxd.trans hx)) Try.underlying43 rfl (by rw [lr]; exact rule_size)) ?_; simp only [Act.put, List.setIfInBounds_toArray, List.set_cons_zero, List.set_cons_succ])
      iterate 2 (refine wpH_read (v := ?_) rfl (by rfl) ?_ ?_; rotate_left; (focus (intro w' hx; go_simp; first | done | with_reducible rfl)); simp only [Act.put, List.setIfInBounds_toArray, List.set_cons_zero, List.set_cons_succ])
      (refine wpH_read rfl (by rfl) (fun w' hx => exec_range 30 _ rfl w.heap.size 0 _ _ rfl (HP2.out _ (hxd.trans hx)) Try.underlying30 rfl (by rw [lk]; exact pk_size)) ?_; simp only [Act.put, List.setIfInBounds_toArray, List.set_cons_zero, List.set_cons_succ])
      (refine wpH_call rfl (by rfl) (fun K hK => ?_); go_simp; (go_at_call 11; refine (hc _ hxd).mono ?_; rintro e w3 ⟨rfl, hx3⟩; refine hK _ _ hx3 ?_; clear hK K))
      (refine wpH_read (v := ?_) rfl (by rfl) ?_ ?_; rotate_left; (focus (intro w' hx; go_simp; first | done | with_reducible rfl)); simp only [Act.put, List.setIfInBounds_toArray, List.set_cons_zero, List.set_cons_succ])
      refine wpH_done ?_
      have hxw : Ext wr w3 := hxd.trans hx3
      clear hc hxd
      cases hf : f r with
      | false =>
        have HZ : Hid (lastK f (L.drop (j + 1)) last (j + 1) = y) := by have h := HT.out; rw [hf, if_neg (by decide)] at h; rw [← h]; exact HA.out
        clear hf
        go_wp2_with fail
        go_roundg (m - (j + 1))
        case measure => omega
        case rel => exact ⟨j + 1, last, rfl, by go_num, by omega, Nat.le_refl _, hx.trans hxw, HZ⟩
      | true =>
        have hq2 := (ruAt (hcr ▸ HG.out)).c2 _ hxw
        cases hq : r.quick with
        | true =>
          have HZ : Hid ((j : Int) = y) := by have h := HT.out; rw [hf, if_pos rfl, hq, if_pos rfl] at h; rw [← h]; exact HA.out
          rw [hq] at hq2
          clear hf
          go_wp2_with fail
          go_ret
          exact ⟨by rw [HZ.out]; rfl, hx0.trans (hx.trans hxw)⟩
        | false =>
          have HZ : Hid (lastK f (L.drop (j + 1)) (j : Int) (j + 1) = y) := by have h := HT.out; rw [hf, if_pos rfl, hq, if_neg (by decide)] at h; rw [← h]; exact HA.out
          rw [hq] at hq2
          clear hf
          go_wp2_with fail
          go_roundg (m - (j + 1))
          case measure => omega
          case rel => exact ⟨j + 1, (j : Int), rfl, by go_num, by omega, Nat.le_refl _, hx.trans hxw, HZ⟩
    · obtain rfl : j = m := by omega
      have HZ : Hid (last = y) := by rw [← HA.out]; exact (lastK_end (by rw [HM.out]; exact Nat.le_refl _) last j).symm
      go_wp2_with fail
      go_ret
      exact ⟨by rw [HZ.out]; rfl, hx0.trans hx⟩
end Go.Proofs.Ytdkmakjjcfkfaaa.Ma
