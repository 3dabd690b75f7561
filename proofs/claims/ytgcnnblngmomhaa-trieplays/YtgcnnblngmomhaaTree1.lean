/- Package trie's functions that only read: which half, covering, next; a tree in memory. -/
import Derived.Test.YtgcnnblngmomhaaTrieS
import Derived.Test.YtgcnnblngmomhaaGrow4
import Derived.Test.YtgcnnblngmomhaaAddr
import Derived.Test.YtgcnnblngmomhaaSkip
import Derived.Deep.LoopGhost
namespace Go.Proofs.Ytgcnnblngmomhaa.Tri
open Go.RowKit Go.Proofs.Ytgcnnblngmomhaa
set_option linter.unusedVariables false

/-- A node's block. -/
abbrev ndO (q : PX) (th : Bool) (u : Int) (pl pr : Option Addr) : Obj := .cells #[.int .u32 q.1, .int .i64 q.2, .bool th, .int .i64 u, .pointer pl, .pointer pr] 68 (0, 0)

/-- The pointer a leads to the tree t. -/
def Is (w : World) : Sh → Option Addr → Prop
  | .nil, a => a = none
  | .node q th u l r, a => ∃ b pl pr, a = some ⟨b, 0, none⟩ ∧ w.heap[b]? = some (ndO q th u pl pr) ∧ Is w l pl ∧ Is w r pr

theorem Is.later {w w' : World} (hx : Ext w w') : ∀ {t : Sh} {a : Option Addr}, Is w t a → Is w' t a
  | .nil, _, h => h
  | .node q th u l r, _, ⟨b, pl, pr, h1, h2, h3, h4⟩ => ⟨b, pl, pr, h1, hx.heap h2, h3.later hx, h4.later hx⟩

/-- .. and its blocks are those of F, each once. -/
def At (w : World) : Sh → Option Addr → List Nat → Prop
  | .nil, a, F => a = none ∧ F = []
  | .node q th u l r, a, F => ∃ b pl pr Fl Fr, a = some ⟨b, 0, none⟩ ∧ F = b :: (Fl ++ Fr) ∧ w.heap[b]? = some (ndO q th u pl pr) ∧ At w l pl Fl ∧ At w r pr Fr ∧ b ∉ Fl ∧ b ∉ Fr ∧ ∀ x ∈ Fl, x ∉ Fr

theorem At.is {w : World} : ∀ {t : Sh} {a : Option Addr} {F : List Nat}, At w t a F → Is w t a
  | .nil, _, _, h => h.1
  | .node q th u l r, _, _, ⟨b, pl, pr, Fl, Fr, h1, _, h2, h3, h4, _⟩ => ⟨b, pl, pr, h1, h2, h3.is, h4.is⟩

theorem At.lt {w : World} : ∀ {t : Sh} {a : Option Addr} {F : List Nat}, At w t a F → ∀ b ∈ F, b < w.heap.size
  | .nil, _, _, ⟨_, h⟩, b, hb => by subst h; simp at hb
  | .node q th u l r, _, _, ⟨b, pl, pr, Fl, Fr, _, hF, h2, h3, h4, _⟩, x, hx => by
    subst hF
    rcases List.mem_cons.1 hx with rfl | hx
    · exact heap_lt h2
    · rcases List.mem_append.1 hx with hx | hx
      · exact h3.lt x hx
      · exact h4.lt x hx

theorem At.later {w w' : World} {G : List Nat} (hx : ExtS G w w') : ∀ {t : Sh} {a : Option Addr} {F : List Nat}, At w t a F → (∀ b ∈ F, b ∉ G) → At w' t a F
  | .nil, _, _, h, _ => h
  | .node q th u l r, _, _, ⟨b, pl, pr, Fl, Fr, h1, hF, h2, h3, h4, h5⟩, hd =>
    ⟨b, pl, pr, Fl, Fr, h1, hF, hx.heap (hd b (by subst hF; simp)) h2, h3.later hx (fun x hx' => hd x (by subst hF; simp [hx'])), h4.later hx (fun x hx' => hd x (by subst hF; simp [hx'])), h5⟩

theorem box_node {F : List Nat} {w : World} {b : Nat} {v0 v1 v2 v3 v4 v5 : Value} {t : TypeId} (h : w.heap[b]? = some (.cells #[v0, v1, v2, v3, v4, v5] t (0, 0))) (hb : b ∉ F) :
    (∀ w', ExtS F w w' → w'.cell? ⟨b, 0, none⟩ = some v0) ∧ (∀ w', ExtS F w w' → w'.cell? ⟨b, 1, none⟩ = some v1) ∧ (∀ w', ExtS F w w' → w'.cell? ⟨b, 2, none⟩ = some v2) ∧
    (∀ w', ExtS F w w' → w'.cell? ⟨b, 3, none⟩ = some v3) ∧ (∀ w', ExtS F w w' → w'.cell? ⟨b, 4, none⟩ = some v4) ∧ (∀ w', ExtS F w w' → w'.cell? ⟨b, 5, none⟩ = some v5) := by
  have hk : ∀ k w', ExtS F w w' → w'.cell? ⟨b, k, none⟩ = #[v0, v1, v2, v3, v4, v5][k]? := fun k w' hx => heap_cell (hx.heap hb h)
  exact ⟨hk 0, hk 1, hk 2, hk 3, hk 4, hk 5⟩

theorem box_nodeE {w : World} {b : Nat} {v0 v1 v2 v3 v4 v5 : Value} {t : TypeId} (h : w.heap[b]? = some (.cells #[v0, v1, v2, v3, v4, v5] t (0, 0))) {W : World} (hW : Ext w W) :
    (∀ w', Ext W w' → w'.cell? ⟨b, 0, none⟩ = some v0) ∧ (∀ w', Ext W w' → w'.cell? ⟨b, 1, none⟩ = some v1) ∧ (∀ w', Ext W w' → w'.cell? ⟨b, 2, none⟩ = some v2) ∧
    (∀ w', Ext W w' → w'.cell? ⟨b, 3, none⟩ = some v3) ∧ (∀ w', Ext W w' → w'.cell? ⟨b, 4, none⟩ = some v4) ∧ (∀ w', Ext W w' → w'.cell? ⟨b, 5, none⟩ = some v5) := by
  have hk : ∀ k w', Ext W w' → w'.cell? ⟨b, k, none⟩ = #[v0, v1, v2, v3, v4, v5][k]? := fun k w' hx => heap_cell ((hW.trans hx).heap h)
  exact ⟨hk 0, hk 1, hk 2, hk 3, hk 4, hk 5⟩

theorem half_any (a n : Int) (w : World) (n0 : 0 ≤ n) (n1 : n ≤ 32) :
    Calls Try.prog 47 #[.int .u32 a, .int .i64 n] w fun e w' => e = .returned (.int .i64 (halfV a n)) ∧ w' = w := by
  have hb := half_01 a n
  unfold halfV at *
  go_enter Try.func47, Try.ntmps47
  go_wp2
  go_ret
  exact ⟨rfl, rfl⟩

theorem covering_nil (c m : Int) (w : World) : Calls Try.prog 54 #[.pointer none, .agg #[.int .u32 c, .int .i64 m]] w fun e w' => e = .returned (.pointer none) ∧ Ext w w' := by
  obtain ⟨hx0, hb0, hb1⟩ := boxed2 w (.int .u32 c) (.int .i64 m) 32
  go_enter Try.func54, Try.ntmps54
  go_wp2
  refine wp_region_eager [(0, false), (1, false), (2, false), (3, false), (4, false), (5, false), (6, false), (7, false), (8, true), (9, false), (10, false)] (by kernel_rfl) (by kernel_rfl) rfl (by kernel_rfl) (fun _ _ _ _ _ h => h) ?_
  generalize (w.alloc (.cells #[.int .u32 c, .int .i64 m] 32)).drew = W at *
  repeat (first
    | (refine wpE_read (v := ?_) rfl (by rfl) ?_ ?_; rotate_left; (focus (intro w' hx; go_simp; first | done | with_reducible rfl)); simp only [Act.put, List.setIfInBounds_toArray, List.set_cons_zero, List.set_cons_succ])
    | (rw [wpE_skip_eq _ rfl (by rfl)]; simp only [Act.put, List.setIfInBounds_toArray, List.set_cons_zero, List.set_cons_succ]))
  refine wpE_done ?_
  go_wp2
  go_ret
  exact ⟨rfl, hx0⟩

theorem covering_node (b : Nat) (a n c m : Int) (v2 v3 v4 v5 : Value) (w : World) (a0 : 0 ≤ a) (a1 : a ≤ 4294967295) (c0 : 0 ≤ c) (c1 : c ≤ 4294967295)
    (hh : w.heap[b]? = some (.cells #[.int .u32 a, .int .i64 n, v2, v3, v4, v5] 68 (0, 0))) :
    Calls Try.prog 54 #[.pointer (some ⟨b, 0, none⟩), .agg #[.int .u32 c, .int .i64 m]] w fun e w' => e = .returned (.pointer (if coversV a n c m = true then some ⟨b, 0, none⟩ else none)) ∧ Ext w w' := by
  have k1 := fun w => covers_any a n c m w a0 a1 c0 c1
  obtain ⟨hx0, hb0, hb1⟩ := boxed2 w (.int .u32 c) (.int .i64 m) 32
  obtain ⟨n0, n1, -, -, -, -⟩ := box_nodeE hh hx0
  clear hh
  generalize hd : coversV a n c m = d at *
  clear hd
  cases d
  all_goals (
    go_enter Try.func54, Try.ntmps54
    go_wp2
    refine wp_region_eager [(0, false), (1, false), (2, false), (3, false), (4, false), (5, false), (6, false), (7, false), (8, true), (9, false), (10, false)] (by kernel_rfl) (by kernel_rfl) rfl (by kernel_rfl) (fun _ _ _ _ _ h => h) ?_
    generalize (w.alloc (.cells #[.int .u32 c, .int .i64 m] 32)).drew = W at *
    repeat (first
      | (refine wpE_read (v := ?_) rfl (by rfl) ?_ ?_; rotate_left; (focus (intro w' hx; go_simp; first | done | with_reducible rfl)); simp only [Act.put, List.setIfInBounds_toArray, List.set_cons_zero, List.set_cons_succ])
      | (refine wpE_call rfl (by rfl) (fun K hK => ?_); go_simp; first
          | (go_at_call 51; refine (k1 _).mono ?_; rintro e w1 ⟨rfl, hx1⟩; refine hK _ _ hx1 ?_; clear hK K)))
    refine wpE_done ?_
    go_wp2
    go_ret
    exact ⟨rfl, hx0.trans hx1⟩)
end Go.Proofs.Ytgcnnblngmomhaa.Tri
