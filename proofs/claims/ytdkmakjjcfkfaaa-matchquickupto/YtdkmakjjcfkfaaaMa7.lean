/- Package match: Last. -/
import Derived.Test.YtdkmakjjcfkfaaaMa6
import Derived.Test.YtdkmakjjcfkfaaaWhole
namespace Go.Proofs.Ytdkmakjjcfkfaaa.Ma
open Go.RowKit Go.Proofs.Ytdkmakjjcfkfaaa Go.Proofs.Ytdkmakjjcfkfaaa.Ru
set_option linter.unusedVariables false
set_option linter.unusedSimpArgs false
set_option maxRecDepth 100000

theorem rule_one (r : RuleV) : ∀ v ∈ (ruleL r).toArray.toList, v.oneCell' = true := by
  intro v hv
  simp only [ruleL, List.mem_cons, List.not_mem_nil, or_false] at hv
  rcases hv with rfl | rfl | rfl | rfl | rfl | rfl | rfl | rfl | rfl | rfl | rfl | rfl | rfl | rfl | rfl | rfl | rfl | rfl | rfl | rfl | rfl | rfl | rfl | rfl | rfl | rfl | rfl | rfl <;> rfl

/-- A row of rules. -/
structure RdL (w : World) (q : Option Addr) (m : Nat) (L : List RuleV) : Prop where
  row : RdK 28 ruleL w q m L
  le : m ≤ 9223372036854775807
  ok : ∀ r ∈ L, RuOk r

theorem RdL.ext {w w' : World} {q : Option Addr} {m : Nat} {L : List RuleV} (h : RdL w q m L) (hx : Ext w w') : RdL w' q m L := ⟨h.row.ext hx, h.le, h.ok⟩

set_option maxHeartbeats 4000000 in
theorem last_any (q : Option Addr) (m cm : Nat) (L : List RuleV) (p : Option Addr) (n c : Nat) (T : List NmV) (iface : ByteArray) (k : PkV) (w : World) (hL : RdL w q m L) (hR : RdN w p n T) (hk : PkOk k) :
    Calls Try.prog 12 #[.slice q m cm, .slice p n c, .string iface, .agg (pkL k).toArray] w fun e w' => e = .returned (.int .i64 (lastV (fun r => oneV r T iface k) L)) ∧ Ext w w' := by
  obtain ⟨W, hW⟩ : ∃ W, w.alloc (.cells (pkL k).toArray 30) = W := ⟨_, rfl⟩
  have hx0 : Ext w W := hW ▸ (Ext.refl w).alloc _
  have HP : Hid _ := (pkAt (hW ▸ heap_new w (.cells (pkL k).toArray 30)) : PkAt W w.heap.size k).all
  have HL : Hid (RdL W q m L) := hL.ext hx0
  have HO : Hid (∀ r ∈ L, ∀ w', Ext W w' → Calls Try.prog 10 #[.agg (ruleL r).toArray, .slice p n c, .string iface, .agg (pkL k).toArray] w' fun e w2 => e = .returned (.bool (oneV r T iface k)) ∧ Ext w' w2) :=
    fun r hr w' hx => one_any r p n c T iface k w' ((hR.ext hx0).ext hx) (hL.ok r hr) hk
  obtain ⟨f, hf⟩ : ∃ f, (fun r => oneV r T iface k) = f := ⟨_, rfl⟩
  have hf' : ∀ r, oneV r T iface k = f r := fun r => congrFun hf r
  simp only [hf'] at HO
  simp only [hf]
  have lk := pkL_len k
  obtain ⟨y, hy⟩ : ∃ y, lastV f L = y := ⟨_, rfl⟩
  rw [hy]
  have HY : Hid (lastK f (L.drop 0) (-1) 0 = y) := hy
  have HM : Hid (L.length = m) := hL.row.len
  have hm := hL.le
  clear hL hR hk hf hf' hy
  generalize pkL k = ck at *
  go_enter Try.func12, Try.ntmps12
  go_wp2_with fail
  go_loopg [9, 14] m (fun kx s9 s14 wr => ∃ (j : Nat) (last : Int), s9 = .int .i64 last ∧ s14 = .int .i64 (j : Int) ∧ j ≤ m ∧ m - j ≤ kx ∧ Ext W wr ∧ Hid (lastK f (L.drop j) last j = y))
  case atStart => exact ⟨0, -1, rfl, rfl, Nat.zero_le _, Nat.le_refl _, Ext.refl _, HY⟩
  case round =>
    obtain ⟨j, last, rfl, rfl, hjm, hjx, hx, HA⟩ := hrel
    by_cases hlt : j < m
    · obtain ⟨r, hr⟩ : ∃ r, L[j]? = some r := ⟨_, List.getElem?_eq_getElem (by rw [HM.out]; omega)⟩
      have hc := HO.out r (List.mem_of_getElem? hr)
      obtain ⟨b, off, rfl, hb, hg⟩ := (HL.out.ext hx).row.get hr
      have hr0 := hg _ (Ext.refl wr)
      have HT : Hid _ := lastK_at (f := f) hr last j
      have hji : (j : Int) < (m : Int) := by omega
      have HP2 : Hid (∀ w', Ext wr w' → w'.rangeAt w.heap.size 0 ck) := fun w' h => HP.out w' (hx.trans h)
      replace hc := fun w' (h : Ext wr w') => hc w' (hx.trans h)
      clear hr hb hg
      have hz : Ext wr (wr.alloc (.cells #[.bool false, .bool false, .bool false, .string ⟨#[]⟩, .int .i64 0, .bool false, .string ⟨#[]⟩, .int .u32 0, .int .i64 0, .int .i64 0, .int .i64 0, .bool false, .string ⟨#[]⟩, .int .u32 0, .int .i64 0, .int .i64 0, .int .i64 0, .int .i64 0, .int .i64 0, .int .i64 0, .bool false, .bool false, .string ⟨#[]⟩, .int .u32 0, .bool false, .string ⟨#[]⟩, .int .u32 0, .int .i64 0] 43)) := (Ext.refl wr).alloc _
      cases hf : f r with
      | false =>
        rw [hf] at hc
        have HZ : Hid (lastK f (L.drop (j + 1)) last (j + 1) = y) := by have h := HT.out; rw [hf, if_neg (by decide)] at h; rw [← h]; exact HA.out
        clear hf
        go_wp2_with (first
          | (refine wpl_range (by rfl) 43 _ rfl b (off + j * 28) _ _ rfl hr0 Try.underlying43 rfl rule_size ?_)
          | (refine wpl_store (by rfl) 43 _ _ rfl rfl 28 wr.heap.size (ruleL r).toArray _ _ rfl rfl (heap_new wr _) rule_size rfl rfl (rule_one r) ?_; intro w2 hy2 k2; have hx2 : Ext wr w2 := ExtX.ext hz hy2 (Nat.le_refl _); have K2 : Hid _ := k2; clear hz hy2 k2 hr0)
          | (refine wpl_load (by rfl) 43 _ rfl wr.heap.size _ _ _ rfl K2.out Try.underlying43 rfl rule_size ?_)
          | (refine wpl_range (by rfl) 30 _ rfl w.heap.size 0 _ _ rfl (HP2.out _ hx2) Try.underlying30 rfl (by rw [lk]; exact pk_size) ?_)
          | (go_at_call 10; refine (hc _ hx2).mono ?_; rintro e w3 ⟨rfl, hx3⟩))
        go_roundg (m - (j + 1))
        case measure => omega
        case rel => exact ⟨j + 1, last, rfl, by go_num, by omega, Nat.le_refl _, hx.trans (hx2.trans hx3), HZ⟩
      | true =>
        rw [hf] at hc
        cases hq : r.quick with
        | true =>
          have HZ : Hid ((j : Int) = y) := by have h := HT.out; rw [hf, if_pos rfl, hq, if_pos rfl] at h; rw [← h]; exact HA.out
          clear hf
          go_wp2_with (first
            | (refine wpl_range (by rfl) 43 _ rfl b (off + j * 28) _ _ rfl hr0 Try.underlying43 rfl rule_size ?_)
            | (refine wpl_store (by rfl) 43 _ _ rfl rfl 28 wr.heap.size (ruleL r).toArray _ _ rfl rfl (heap_new wr _) rule_size rfl rfl (rule_one r) ?_; intro w2 hy2 k2; have hx2 : Ext wr w2 := ExtX.ext hz hy2 (Nat.le_refl _); have K2 : Hid _ := k2; clear hz hy2 k2 hr0)
            | (refine wpl_load (by rfl) 43 _ rfl wr.heap.size _ _ _ rfl K2.out Try.underlying43 rfl rule_size ?_)
            | (refine wpl_range (by rfl) 30 _ rfl w.heap.size 0 _ _ rfl (HP2.out _ hx2) Try.underlying30 rfl (by rw [lk]; exact pk_size) ?_)
            | (go_at_call 10; refine (hc _ hx2).mono ?_; rintro e w3 ⟨rfl, hx3⟩; have hq2 := (ruAt (range_box K2.out)).c2 _ hx3; rw [hq, Nat.zero_add] at hq2))
          go_ret
          exact ⟨by rw [HZ.out]; rfl, hx0.trans (hx.trans (hx2.trans hx3))⟩
        | false =>
          have HZ : Hid (lastK f (L.drop (j + 1)) (j : Int) (j + 1) = y) := by have h := HT.out; rw [hf, if_pos rfl, hq, if_neg (by decide)] at h; rw [← h]; exact HA.out
          clear hf
          go_wp2_with (first
            | (refine wpl_range (by rfl) 43 _ rfl b (off + j * 28) _ _ rfl hr0 Try.underlying43 rfl rule_size ?_)
            | (refine wpl_store (by rfl) 43 _ _ rfl rfl 28 wr.heap.size (ruleL r).toArray _ _ rfl rfl (heap_new wr _) rule_size rfl rfl (rule_one r) ?_; intro w2 hy2 k2; have hx2 : Ext wr w2 := ExtX.ext hz hy2 (Nat.le_refl _); have K2 : Hid _ := k2; clear hz hy2 k2 hr0)
            | (refine wpl_load (by rfl) 43 _ rfl wr.heap.size _ _ _ rfl K2.out Try.underlying43 rfl rule_size ?_)
            | (refine wpl_range (by rfl) 30 _ rfl w.heap.size 0 _ _ rfl (HP2.out _ hx2) Try.underlying30 rfl (by rw [lk]; exact pk_size) ?_)
            | (go_at_call 10; refine (hc _ hx2).mono ?_; rintro e w3 ⟨rfl, hx3⟩; have hq2 := (ruAt (range_box K2.out)).c2 _ hx3; rw [hq, Nat.zero_add] at hq2))
          go_roundg (m - (j + 1))
          case measure => omega
          case rel => exact ⟨j + 1, (j : Int), rfl, by go_num, by omega, Nat.le_refl _, hx.trans (hx2.trans hx3), HZ⟩
    · obtain rfl : j = m := by omega
      have HZ : Hid (last = y) := by rw [← HA.out]; exact (lastK_end (by rw [HM.out]; exact Nat.le_refl _) last j).symm
      go_wp2_with fail
      go_ret
      exact ⟨by rw [HZ.out]; rfl, hx0.trans hx⟩
end Go.Proofs.Ytdkmakjjcfkfaaa.Ma
