/- Package rule's words: how they are taken one by one. -/
import Derived.Test.YtbmmgjmmooakpaaGreatDoorRu1
import Derived.Test.YtbmmgjmmooakpaaGreatDoorRuP4
import Derived.Test.YtbmmgjmmooakpaaGreatDoorParse
import Derived.Test.YtbmmgjmmooakpaaGreatDoorShelf
namespace Go.Proofs.YtbmmgjmmooakpaaGreatDoor.Ru
open Go.RowKit
set_option linter.unusedVariables false
set_option maxRecDepth 100000

/-- Go's library's variables stand: the table of powers of ten, the machine's greatest length, strconv's two errors. -/
structure Std (w : World) : Prop where
  tab : Tab w
  max : Max w
  syn : ∃ t v, w.var? Tryz.prog "strconv.ErrSyntax" = some #[.iface t v]
  ran : ∃ t v, w.var? Tryz.prog "strconv.ErrRange" = some #[.iface t v]

theorem gTab : Tryz.prog.globalNamed "internal/strconv.uint64pow10" = some (0) := by kernel_rfl
theorem gSyn : Tryz.prog.globalNamed "strconv.ErrSyntax" = some (4) := by kernel_rfl
theorem gRan : Tryz.prog.globalNamed "strconv.ErrRange" = some (5) := by kernel_rfl

theorem heap_lt {w : World} {g : Nat} {o : Obj} (h : w.heap[g]? = some o) : g < w.heap.size := by
  rcases Nat.lt_or_ge g w.heap.size with hl | hl
  · exact hl
  · rw [Array.getElem?_eq_none hl] at h; cases h

theorem var_lt {w : World} {s : String} {g : Nat} {cs : Array Value} (hg : Tryz.prog.globalNamed s = some g) (h : w.var? Tryz.prog s = some cs) : g < w.heap.size := by
  simp only [World.var?, hg, Option.bind_some] at h
  rcases Nat.lt_or_ge g w.heap.size with hl | hl
  · exact hl
  · rw [Array.getElem?_eq_none hl] at h; simp at h

/-- A block behind the library's variables. -/
structure Abv (x : Nat) : Prop where
  tab : 0 < x
  max : 1 < x
  syn : 4 < x
  ran : 5 < x

theorem Std.abv {w : World} (h : Std w) {x : Nat} (hx : w.heap.size ≤ x) : Abv x := by
  have h1 : 0 < w.heap.size := by
    have := h.tab
    unfold Tab Lib.TabIs at this
    exact var_lt gTab this
  obtain ⟨m, hm⟩ := h.max
  have h2 := block_lt hm
  obtain ⟨t, v, hs⟩ := h.syn
  have h3 := var_lt gSyn hs
  obtain ⟨t, v, hr⟩ := h.ran
  have h4 := var_lt gRan hr
  exact ⟨by omega, by exact Nat.lt_of_lt_of_le h2 hx, by omega, by omega⟩

theorem Abv.up {x y : Nat} (h : Abv x) (hy : x ≤ y) : Abv y := ⟨by have := h.tab; omega, by have := h.max; omega, by have := h.syn; omega, by have := h.ran; omega⟩

theorem Std.laterX {w w' : World} {x : Nat} (h : Std w) (hx : ExtX x w w') (ha : Abv x) : Std w' := by
  have hv : ∀ {s : String} {g : Nat}, Tryz.prog.globalNamed s = some g → g < w.heap.size → g < x → w'.var? Tryz.prog s = w.var? Tryz.prog s := by
    intro s g hg h1 h2
    simp only [World.var?, hg, Option.bind_some]
    rw [hx.block g h1 (by omega)]
  refine ⟨?_, ?_, ?_, ?_⟩
  · have h0 := h.tab
    unfold Tab Lib.TabIs at h0 ⊢
    rw [hv gTab (var_lt gTab h0) ha.tab]
    exact h0
  · obtain ⟨m, hm⟩ := h.max
    refine ⟨m, ?_⟩
    rw [← hm]
    unfold World.cell?
    rw [hx.block _ (block_lt hm) (by have := ha.max; show 1 ≠ x; omega)]
  · obtain ⟨t, v, hs⟩ := h.syn
    exact ⟨t, v, by rw [hv gSyn (var_lt gSyn hs) ha.syn]; exact hs⟩
  · obtain ⟨t, v, hs⟩ := h.ran
    exact ⟨t, v, by rw [hv gRan (var_lt gRan hs) ha.ran]; exact hs⟩

theorem Std.later {w w' : World} (h : Std w) (hx : Ext w w') : Std w' := h.laterX (hx.but w.heap.size) (h.abv (Nat.le_refl _))

/-- Block p holds words, of which L are left. -/
def WAt (w : World) (p : Nat) (L : WL) (b : Bool) : Prop := ∃ n r, w.heap[p]? = some (.cells #[.string n, .string r, .bool b] 53 (0, 0)) ∧ Ws n r L

theorem WAt.later {w w' : World} {p : Nat} {L : WL} {b : Bool} (h : WAt w p L b) (hx : Ext w w') : WAt w' p L b := by
  obtain ⟨n, r, h1, h2⟩ := h
  exact ⟨n, r, hx.heap h1, h2⟩

theorem WAt.laterX {w w' : World} {p x : Nat} {L : WL} {b : Bool} (h : WAt w p L b) (hx : ExtX x w w') (hp : p ≠ x) : WAt w' p L b := by
  obtain ⟨n, r, h1, h2⟩ := h
  exact ⟨n, r, (hx.block p (heap_lt h1) hp).trans h1, h2⟩

theorem WAt.lt {w : World} {p : Nat} {L : WL} {b : Bool} (h : WAt w p L b) : p < w.heap.size := by
  obtain ⟨n, r, h1, _⟩ := h
  exact heap_lt h1

theorem Ws.head {n r : ByteArray} {L : WL} (h : Ws n r L) : n = headW L ∧ L.tail = wordsB r := by
  rcases h.words with ⟨h1, rfl, h3⟩ | ⟨h1, rfl⟩
  · exact ⟨h1, h3.symm⟩
  · exact ⟨rfl, rfl⟩

theorem Ws.is {n r : ByteArray} {L : WL} (h : Ws n r L) {t : ByteArray} (ht : t ≠ txt []) : decide (n = t) = isW t L := by
  unfold isW
  rcases h.words with ⟨h1, rfl, h3⟩ | ⟨h1, rfl⟩
  · rw [decide_eq_false (by rw [h1]; exact fun e => ht e.symm), decide_eq_false (by simp)]
  · simp

theorem cells_three {w : World} {b : Nat} {v0 v1 v2 : Value} {t : TypeId} (h : w.heap[b]? = some (.cells #[v0, v1, v2] t (0, 0))) :
    w.cell? ⟨b, 0, none⟩ = some v0 ∧ w.cell? ⟨b, 1, none⟩ = some v1 ∧ w.cell? ⟨b, 2, none⟩ = some v2 ∧ w.frozen? ⟨b, 0, none⟩ = false ∧ w.frozen? ⟨b, 1, none⟩ = false ∧ w.frozen? ⟨b, 2, none⟩ = false :=
  ⟨by rw [heap_cell h]; rfl, by rw [heap_cell h]; rfl, by rw [heap_cell h]; rfl, heap_frozen h, heap_frozen h, heap_frozen h⟩

theorem take_raw (p : Nat) (n r : ByteArray) (b : Bool) (w : World) (hh : w.heap[p]? = some (.cells #[.string n, .string r, .bool b] 53 (0, 0))) (hr : r.size ≤ 1000000) (hs : Std w) :
    Calls Tryz.prog 53 #[.pointer (some ⟨p, 0, none⟩)] w fun e w' => e = .returned (.string n) ∧ WAt w' p (wordsB r) b ∧ ExtX p w w' := by
  have ht := take_words r hr
  have c1 := fun w => Tryz.strings_TrimLeft_one r 32 (by decide) w
  have hl := trim_len r.data.toList
  have hrl : r.data.toList.length = r.size := text_len r
  have c2 := fun w h => cut_any (txt (Lib.trimLeftB r.data.toList 32)) 32 w (by rw [txt_size]; omega) h
  rw [list_txt] at c2
  have hM := hs.max
  simp only [txt] at c2 ht
  generalize wordsB r = Lr at *
  generalize Lib.trimLeftB r.data.toList 32 = tl at *
  generalize hA : (⟨(Lib.cut tl [32]).1.toArray⟩ : ByteArray) = A at *
  generalize hB : (⟨(Lib.cut tl [32]).2.1.toArray⟩ : ByteArray) = B at *
  generalize (Lib.cut tl [32]).2.2 = C at *
  obtain ⟨d0, d1, d2, f0, f1, f2⟩ := cells_three hh
  have HH : Hid _ := hh
  have HT : Hid _ := ht
  clear hl hrl hr ht hh hA hB
  go_enter Tryz.func53, Tryz.ntmps53
  go_wp2_with (first
    | (go_at_call 79; refine (c1 _).mono ?_; rintro e w1 ⟨rfl, rfl⟩)
    | (go_at_call 78; refine (c2 _ hM).mono ?_; rintro e w2 ⟨rfl, hx⟩; have k2 := Ext.heap hx HH.out; have K2 : Hid _ := k2; obtain ⟨d0, d1, d2, f0, f1, f2⟩ := cells_three k2; clear k2))
  go_ret
  exact ⟨rfl, ⟨A, B, by have k3 := heap_set (heap_set K2.out (k := 0) (.string A)) (k := 1) (.string B); exact k3, HT.out⟩, ((hx.but p).setCell rfl _).setCell rfl _⟩

theorem take_any (p : Nat) (L : WL) (b : Bool) (w : World) (h : WAt w p L b) (hs : Std w) :
    Calls Tryz.prog 53 #[.pointer (some ⟨p, 0, none⟩)] w fun e w' => e = .returned (.string (headW L)) ∧ WAt w' p L.tail b ∧ ExtX p w w' := by
  obtain ⟨n, r, hh, hw⟩ := h
  obtain ⟨h1, h2⟩ := hw.head
  rw [← h1, h2]
  exact take_raw p n r b w hh hw.r_small hs
end Go.Proofs.YtbmmgjmmooakpaaGreatDoor.Ru
