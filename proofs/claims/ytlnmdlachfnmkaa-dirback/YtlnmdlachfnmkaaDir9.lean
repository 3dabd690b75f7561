/- A Dir in memory, whole; New, Blocks, Len, Look; the Once. -/
import Derived.Test.YtlnmdlachfnmkaaDir8
namespace Go.Proofs.Ytlnmdlachfnmkaa.Dr
set_option maxRecDepth 100000
open Go.RowKit Go.Proofs.Ytlnmdlachfnmkaa Go.Proofs.Ytlnmdlachfnmkaa.Tri
set_option linter.unusedVariables false

def dnV (mb : Option Nat) : Int := match mb with
  | none => 0
  | some _ => 1

/-- A Dir of the prefixes of E (each with the block that tells its number), in the blocks F. -/
structure DirIn (w : World) (db : Nat) (most : Int) (E : List (PX × Nat)) (V : PX → Int) (T f : Nat → Nat → Option Nat) (mb : Option Nat) (F : List Nat) : Prop where
  obj : w.heap[db]? = some (dirO (.int .i64 most) (.int .i64 (ownN (E.map (·.1)) : Nat)) (.map mb) (.int .u32 (dnV mb)) (.int .i32 0) (.int .u32 0) (tbV 0 (T 0 0)))
  begun : mb = none ↔ T 0 0 = none
  map : ∀ m, mb = some m → MapAt w m E
  nomap : mb = none → E = []
  tabs : Tabs w T f
  dom : DisR T (E.map (·.1)) 0 0 0
  paint : Painted E f
  valid : ∀ x ∈ E, Vp x.1
  keys : (E.map (·.1)).Nodup
  blks : (E.map (·.2)).Nodup
  laid : ∀ x ∈ E, w.heap[x.2]? = some (.cells #[.int .i64 x.1.2, .int .i64 (V x.1)] 85 (0, 0))
  fdb : db ∈ F
  fmap : ∀ m, mb = some m → m ∈ F
  ftab : ∀ k n b, T k n = some b → b ∈ F
  flaid : ∀ x ∈ E, x.2 ∈ F
  lt : ∀ x ∈ F, x < w.heap.size

section
variable {w w' : World} {db : Nat} {most : Int} {E : List (PX × Nat)} {V : PX → Int} {T f : Nat → Nat → Option Nat} {mb : Option Nat} {F : List Nat}

theorem DirIn.later {G : List Nat} (h : DirIn w db most E V T f mb F) (hx : ExtS G w w') (hd : ∀ x ∈ F, x ∉ G) : DirIn w' db most E V T f mb F :=
  ⟨hx.heap (hd _ h.fdb) h.obj, h.begun, fun m e => (h.map m e).later hx (hd _ (h.fmap m e)), h.nomap, h.tabs.later hx (fun k n b e => hd _ (h.ftab k n b e)), h.dom, h.paint, h.valid, h.keys, h.blks,
    fun x hx' => hx.heap (hd _ (h.flaid x hx')) (h.laid x hx'), h.fdb, h.fmap, h.ftab, h.flaid, fun x hx' => Nat.lt_of_lt_of_le (h.lt x hx') hx.size⟩

theorem DirIn.ext (h : DirIn w db most E V T f mb F) (hx : Ext w w') : DirIn w' db most E V T f mb F := h.later (hx.toS []) (by simp)

theorem blocks_any (h : DirIn w db most E V T f mb F) : Calls Try.prog 13 #[.pointer (some ⟨db, 0, none⟩)] w fun e w' => e = .returned (.int .i64 (ownN (E.map (·.1)) : Nat)) ∧ w' = w := by
  have c1 : w.cell? ⟨db, 1, none⟩ = some (.int .i64 (ownN (E.map (·.1)) : Nat)) := by rw [heap_cell h.obj]; rfl
  clear h
  go_enter Try.func13, Try.ntmps13
  go_wp2_with fail
  go_ret
  exact ⟨rfl, rfl⟩

theorem len_nil (ty : TypeId) (w : World) : (Builtin.len_ #[59] ty #[.map none]).run Try.prog w = .ok (.int .i64 0) w := by
  simp [Builtin.len_, run_underlying Try.underlying59, Result.andThen]
  rfl

theorem len_any (h : DirIn w db most E V T f mb F) : Calls Try.prog 15 #[.pointer (some ⟨db, 0, none⟩)] w fun e w' => e = .returned (.int .i64 (E.length : Nat)) ∧ w' = w := by
  have c2 : w.cell? ⟨db, 2, none⟩ = some (.map mb) := by rw [heap_cell h.obj]; rfl
  have hl : ∀ ty, (Builtin.len_ #[59] ty #[.map mb]).run Try.prog w = .ok (.int .i64 (E.length : Nat)) w := fun ty => by
    cases mb with
    | none => rw [h.nomap rfl]; exact len_nil ty w
    | some m => exact len_px (h.map m rfl) ty
  clear h
  generalize hn : (E.length : Int) = n at *
  go_enter Try.func15, Try.ntmps15
  go_wp2_with fail
  go_ret
  exact ⟨rfl, rfl⟩

theorem once_any (h : DirIn w db most E V T f mb F) : Calls Try.prog 33 #[.pointer (some ⟨db, 3, none⟩), .func (.func 34) #[.pointer (some ⟨db, 0, none⟩)] #[]] w fun e w' => e = .returned (.tuple #[]) ∧
    ∃ m T' F', DirIn w' db most E V T' f (some m) F' ∧ ExtS F w w' ∧ (∀ x ∈ F', x ∈ F ∨ w.heap.size ≤ x) ∧ (∀ x ∈ F, x ∈ F') ∧ (∀ k n, 1 ≤ k → T' k n = T k n) := by
  cases mb with
  | some m =>
    refine (do_done db _ _ _ _ _ _ _ w h.obj).mono ?_
    rintro e w' ⟨rfl, rfl⟩
    exact ⟨rfl, m, T, F, h, ExtS.refl _ _, fun x hx => .inl hx, fun x hx => hx, fun _ _ _ => rfl⟩
  | none =>
    have hE : E = [] := h.nomap rfl
    subst hE
    have hT0 : T 0 0 = none := h.begun.1 rfl
    have hobj := h.obj
    rw [hT0] at hobj
    have hTn : ∀ k n, T k n = none := fun k n => by
      match k with
      | 0 =>
        cases hh : T 0 n with
        | none => rfl
        | some b => rw [h.tabs.at0 n b hh, hT0] at hh; cases hh
      | k + 1 =>
        rcases Nat.lt_or_ge 2 (k + 1) with hl | hl
        · exact h.tabs.top _ _ hl
        · have := h.dom (k + 1) n (by omega) hl
          cases hh : T (k + 1) n with
          | none => rfl
          | some b =>
            rw [hh] at this
            rcases this.1 rfl with h1 | h1
            · simp [domB] at h1
            · omega
    have hfn : ∀ k m, f k m = none := fun k m => h.tabs.bare k m (hTn _ _)
    refine (do_first db _ _ w hobj).mono ?_
    rintro e w' ⟨rfl, m, g, k1, ⟨b1, b2, b3, b4⟩, k3⟩
    have hg := b4.lt
    have hm : m < w'.heap.size := by obtain ⟨es, cl, hb, -⟩ := b3; exact heap_lt hb
    have hne : ∀ x ∈ F, x ≠ m ∧ x ≠ g := fun x hx => by have := h.lt x hx; omega
    refine ⟨rfl, m, putT T 0 0 (some g), m :: g :: F, ?_, k3.mono (fun b hb => by rw [List.mem_singleton.1 hb]; exact h.fdb), fun x hx => ?_, fun x hx => by simp [hx], fun k n hk => putT_other _ _ (by omega)⟩
    · have htb : Tabs w' (putT T 0 0 (some g)) f := by
        refine ⟨fun n b e => ?_, fun k n hk => ?_, fun k n b e => ?_, fun k n k' n' b e e' => ?_, fun k mm b e => ?_, fun k mm e => hfn k mm⟩
        · by_cases a : (0 : Nat) = 0 ∧ n = 0
          · exact a.2
          · rw [putT_other _ _ a, hTn] at e; cases e
        · rw [putT_other _ _ (by omega)]; exact hTn _ _
        · by_cases a : k = 0 ∧ n = 0
          · obtain ⟨rfl, rfl⟩ := a
            rw [putT_same] at e
            cases e
            refine b4.congr (fun i _ => hfn _ _) (fun i _ => ?_)
            rw [putT_other _ _ (by omega)]; exact hTn _ _
          · rw [putT_other _ _ a, hTn] at e; cases e
        · by_cases a : k = 0 ∧ n = 0
          · by_cases a' : k' = 0 ∧ n' = 0
            · omega
            · rw [putT_other _ _ a', hTn] at e'; cases e'
          · rw [putT_other _ _ a, hTn] at e; cases e
        · rw [putT_other _ _ (by omega), hTn] at e; cases e
      refine ⟨?_, ⟨(fun e => by cases e), (fun e => by rw [putT_same] at e; cases e)⟩, (fun m' e => by cases e; exact b3), (fun e => by cases e), htb, fun j n h1 h2 => ?_, h.paint, by simp, by simp, by simp, by simp, by simp [h.fdb], (fun m' e => by cases e; simp), fun k n b e => ?_, by simp, fun x hx => ?_⟩
      · rw [putT_same]; exact k1
      · rw [putT_other _ _ (by omega)]; exact h.dom j n h1 h2
      · by_cases a : k = 0 ∧ n = 0
        · rw [a.1, a.2, putT_same] at e; cases e; simp
        · rw [putT_other _ _ a, hTn] at e; cases e
      · rcases List.mem_cons.1 hx with rfl | hx
        · exact hm
        · rcases List.mem_cons.1 hx with rfl | hx
          · exact hg
          · exact Nat.lt_of_lt_of_le (h.lt x hx) k3.size
    · rcases List.mem_cons.1 hx with rfl | hx
      · exact .inr b1
      · rcases List.mem_cons.1 hx with rfl | hx
        · exact .inr b2
        · exact .inl hx
end

/-- None. -/
theorem none_in (w : World) (db : Nat) (most : Int) (V : PX → Int) (h : w.heap[db]? = some (dirO (.int .i64 most) (.int .i64 0) (.map none) (.int .u32 0) (.int .i32 0) (.int .u32 0) (.slice none 0 0))) :
    DirIn w db most [] V (fun _ _ => none) (fun _ _ => none) none [db] :=
  ⟨h, ⟨fun _ => rfl, fun _ => rfl⟩, (fun m e => by cases e), fun _ => rfl, ⟨(fun n b e => by cases e), fun _ _ _ => rfl, (fun k n b e => by cases e), (fun k n k' n' b e => by cases e), (fun k m b e => by cases e), fun _ _ _ => rfl⟩,
    fun j n h1 h2 => ⟨(fun e => by cases e), fun e => by rcases e with e | e; simp [domB] at e; omega⟩, (fun k m _ _ x hx => by cases hx), by simp, by simp, by simp, by simp, by simp, (fun m e => by cases e), (fun k n b e => by cases e), by simp, fun x hx => by rw [List.mem_singleton.1 hx]; exact heap_lt h⟩

def maxV (n : Int) : Int := if n < 0 then 0 else n

theorem new_any (n : Int) (w : World) : Calls Try.prog 10 #[.int .i64 n] w fun e w' => e = .returned (.pointer (some ⟨w.heap.size, 0, none⟩)) ∧ Ext w w' ∧ DirIn w' w.heap.size (maxV n) [] (fun _ => 0) (fun _ _ => none) (fun _ _ => none) none [w.heap.size] := by
  have hx0 : ∀ o : Obj, Ext w (w.alloc o) := fun o => (Ext.refl w).alloc o
  go_enter Try.func10, Try.ntmps10
  go_wp2_with fail
  all_goals go_ret
  · refine ⟨rfl, hx0 _, ?_⟩
    rw [show maxV n = 0 by unfold maxV; rw [if_pos h]]
    exact none_in _ _ 0 _ (heap_new w _)
  · refine ⟨rfl, hx0 _, ?_⟩
    rw [show maxV n = n by unfold maxV; rw [if_neg (by omega)]]
    exact none_in _ _ n _ (heap_new w _)

/-! Look. -/

theorem fnd_bst {E : List (PX × Nat)} {f : Nat → Nat → Option Nat} (hp : Painted E f) (hv : ∀ x ∈ E, Vp x.1) {A : Nat} (hA : A < 4294967296) : ∀ k, k ≤ 3 → Bst E 0 (loN k) A (fndN f A k)
  | 0, _ => fun x hx a1 a2 => absurd a2 (by simp only [loN]; omega)
  | k + 1, hk => by
    have ih := fnd_bst hp hv hA k (by omega)
    have hb := hp k (plN k A) (by omega) (pl_lt k A hA (by omega))
    have hb' : Bst E (loN k) (loN (k + 1)) A (f k (plN k A)) := by
      cases hf : f k (plN k A) with
      | none =>
        rw [hf] at hb
        intro x hx a1 a2
        rw [cov_place (hv x hx) (by omega) a2]
        exact hb x hx a1 a2
      | some b =>
        rw [hf] at hb
        obtain ⟨p, h1, h2, h3, h4, h5⟩ := hb
        refine ⟨p, h1, h2, h3, by rw [cov_place (hv _ h1) (k := k) (by omega) h3]; exact h4, fun x hx a1 a2 a3 => h5 x hx a1 a2 ?_⟩
        rw [← cov_place (hv x hx) (by omega) a2]; exact a3
    have hle : loN k ≤ loN (k + 1) := by
      match k, hk with
      | 0, _ => decide
      | 1, _ => decide
      | 2, _ => decide
    simp only [fndN]
    cases hf : f k (plN k A) with
    | none => rw [hf] at hb'; exact bst_join (Nat.zero_le _) hle ih hb'
    | some b => rw [hf] at hb'; exact bst_join (Nat.zero_le _) hle ih hb'

/-- The number of a block. -/
def nvE (E : List (PX × Nat)) (V : PX → Int) (b : Nat) : Int := match E.find? fun x => x.2 == b with
  | some x => V x.1
  | none => 0

theorem nvE_of {E : List (PX × Nat)} {V : PX → Int} (hn : (E.map (·.2)).Nodup) {p : PX} {b : Nat} (h : (p, b) ∈ E) : nvE E V b = V p := by
  unfold nvE
  cases hf : E.find? (fun x => x.2 == b) with
  | none =>
    have := List.find?_eq_none.1 hf _ h
    simp at this
  | some x =>
    have h1 := List.mem_of_find?_eq_some hf
    have h2 := List.find?_some hf
    simp only [beq_iff_eq] at h2
    have : x = (p, b) := by
      have key : ∀ (E : List (PX × Nat)), (E.map (·.2)).Nodup → ∀ x ∈ E, ∀ y ∈ E, x.2 = y.2 → x = y := by
        intro E; induction E with
        | nil => intro _ x hx; cases hx
        | cons z E ih =>
          intro hn x hx y hy e
          rw [List.map_cons, List.nodup_cons] at hn
          rcases List.mem_cons.1 hx with rfl | hx1
          · rcases List.mem_cons.1 hy with rfl | hy1
            · rfl
            · exact absurd (List.mem_map.2 ⟨y, hy1, e.symm⟩) hn.1
          · rcases List.mem_cons.1 hy with rfl | hy1
            · exact absurd (List.mem_map.2 ⟨x, hx1, e⟩) hn.1
            · exact ih hn.2 x hx1 y hy1 e
      exact key E hn x h1 (p, b) h h2
    rw [this]

theorem look_in {w : World} {db A : Nat} {most : Int} {E : List (PX × Nat)} {V : PX → Int} {T f : Nat → Nat → Option Nat} {mb : Option Nat} {F : List Nat} (h : DirIn w db most E V T f mb F) (hA : A < 4294967296) :
    Calls Try.prog 18 #[.pointer (some ⟨db, 0, none⟩), .int .u32 A] w fun e w' => (∃ o, Bst E 0 33 A o ∧ e = .returned (numV o (nvE E V))) ∧ w' = w := by
  have hb := fnd_bst h.paint h.valid hA 3 (Nat.le_refl _)
  refine (look_any db A T f (nvE E V) w h.tabs (by rw [heap_cell h.obj]; rfl) hA (fun b e => ?_)).mono ?_
  · rw [e] at hb
    obtain ⟨p, h1, -⟩ := hb
    rw [nvE_of h.blks h1, heap_cell (h.laid _ h1)]; rfl
  · rintro e w' ⟨rfl, rfl⟩
    exact ⟨⟨_, hb, rfl⟩, rfl⟩
end Go.Proofs.Ytlnmdlachfnmkaa.Dr
