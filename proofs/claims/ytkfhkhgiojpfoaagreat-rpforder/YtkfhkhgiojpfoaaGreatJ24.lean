/- Texts joined by a program: RfE, RfF, RfG, RfH. -/
import Derived.Test.YtkfhkhgiojpfoaaGreatJ21
import Derived.Test.YtkfhkhgiojpfoaaGreatJ22
import Derived.Test.YtkfhkhgiojpfoaaGreatJ23
namespace Go.Proofs.YtkfhkhgiojpfoaaGreat.Fb

set_option maxRecDepth 100000

open Go.RowKit Go.Proofs.YtkfhkhgiojpfoaaGreat Go.Proofs.YtkfhkhgiojpfoaaGreat.Rb

open Go.Proofs.YtkfhkhgiojpfoaaGreat.Tri (PX Vp OwnP append_px)

open Go.Proofs.YtkfhkhgiojpfoaaGreat.Dr (owned_any ownN)

set_option linter.unusedVariables false

set_option linter.unusedSimpArgs false

/-- append(row, true). -/
theorem append_bool {w : World} {ops : Array Oper} {rest : List Oper} {o : Oper} {a : Act} {Q : Exit → Act → World → Prop} (hgd : o.guard = none) (s x : Operand)
    (ho : o.op = .call { callee := .builtin .append, args := #[s, x], argTypes := #[52, 52] })
    (B : Nat) (v : Value) (L : List Bool) (hs : a.eval s = v) (hown : OwnB w B v L)
    (g c : Nat) (y : Bool) (hx : a.eval x = .slice (some ⟨g, 0, none⟩) 1 c) (hu : w.heap[g]? = some (.cells #[.bool y] 4 (0, 0)))
    (hsm : L.length ≤ 10000000) (hbase : B ≤ w.heap.size)
    (h : ∀ v' w', OwnB w' B v' (L ++ [y]) → w.grownBy w' v.ownBlock → (v'.ownBlock = v.ownBlock ∨ v'.ownBlock = some w.heap.size) → wpList Tryz.prog ops Q rest (a.put o.dst v') w') : wpList Tryz.prog ops Q (o :: rest) a w := by
  obtain ⟨i, hi, hz, hsz, hby⟩ := info_bool
  refine wpList_append_own_at w hgd s x 52 ho B 4 i _ 1 1 Tryz.underlying52 hi hz hsz hby rfl (by omega) v L.length _ hs hown ⟨g, 0, none⟩ 1 c [.bool y] hx rfl ?_ ?_ (by unfold maxLen; omega) (by omega) hbase ?_
  · intro j u hj
    match j, hj with
    | 0, hj =>
      obtain rfl : Value.bool y = u := by simpa using hj
      show w.cell? ((⟨g, 0, none⟩ : Addr).add 0) = _
      rw [show (⟨g, 0, none⟩ : Addr).add 0 = ⟨g, 0, none⟩ from rfl, heap_cell hu]; rfl
    | j + 1, hj => simp at hj
  · intro u hu'
    rw [List.mem_singleton.1 hu']; rfl
  · intro v' w' h2 h3 _ h5
    refine h v' w' ?_ h3 h5
    unfold OwnB
    rw [List.map_append, List.length_append]
    exact h2

/-- The document's Fib: ways, what is up. -/
def DocAt (w : World) (xb : Nat) (L : List Rt) (U : List Bool) (F : List Nat) : Prop := ∃ vR vU, w.heap[xb]? = some (.cells #[vR, vU] 54 (0, 0)) ∧ OwnR w 0 vR L ∧ OwnB w 0 vU U ∧ xb ∈ F ∧ (∀ x ∈ blks vR, x ∈ F) ∧ (∀ x ∈ blks vU, x ∈ F) ∧ ∀ x ∈ F, x < w.heap.size

theorem DocAt.later {w w' : World} {xb : Nat} {L : List Rt} {U : List Bool} {F G : List Nat} (h : DocAt w xb L U F) (hx : ExtS G w w') (hF : ∀ x ∈ F, x ∉ G) : DocAt w' xb L U F := by
  obtain ⟨vR, vU, h1, h2, h3, h4, h5, h6, h7⟩ := h
  exact ⟨vR, vU, hx.heap (hF xb h4) h1, h2.later hx fun x hh => hF x (h5 x hh), h3.later hx fun x hh => hF x (h6 x hh), h4, h5, h6, fun x hh => Nat.lt_of_lt_of_le (h7 x hh) hx.size⟩

theorem DocAt.ext {w w' : World} {xb : Nat} {L : List Rt} {U : List Bool} {F : List Nat} (h : DocAt w xb L U F) (hx : Ext w w') : DocAt w' xb L U F := h.later (hx.toS []) (by simp)

theorem DocAt.lt {w : World} {xb : Nat} {L : List Rt} {U : List Bool} {F : List Nat} (h : DocAt w xb L U F) : ∀ x ∈ F, x < w.heap.size := by
  obtain ⟨vR, vU, h1, h2, h3, h4, h5, h6, h7⟩ := h
  exact h7

/-- It, and what may have been written for it. -/
def DocAns (w : World) (xb : Nat) (F : List Nat) (L : List Rt) (U : List Bool) (w' : World) : Prop := ∃ F', DocAt w' xb L U F' ∧ ExtS F w w' ∧ ∀ x ∈ F', x ∈ F ∨ w.heap.size ≤ x

theorem DocAns.same {w w' : World} {xb : Nat} {F : List Nat} {L : List Rt} {U : List Bool} (h : DocAt w xb L U F) (hx : Ext w w') : DocAns w xb F L U w' := ⟨F, h.ext hx, hx.toS F, fun x hx => .inl hx⟩

theorem ownB_ne {w : World} {B : Nat} {v : Value} {U : List Bool} {rb : Nat} {cur : Array Value} {ty : TypeId} (h : OwnB w B v U) (hX : w.heap[rb]? = some (.cells cur ty (0, 0))) (ht : ty ≠ 4) : rb ∉ blks v := fun hm => by
  obtain ⟨_, _, cur', hc⟩ := Tri.owns_block h (mem_blks.1 hm)
  rw [hX] at hc
  cases hc
  exact ht rfl

def DocNew (w : World) (n : Nat) (e : Ending) (w' : World) : Prop := ∃ xb F, e = .returned (.pointer (some ⟨xb, 0, none⟩)) ∧ DocAt w' xb [] (List.replicate n true) F ∧ Ext w w' ∧ ∀ x ∈ F, w.heap.size ≤ x

set_option maxHeartbeats 2000000 in
theorem dnew_any (i : Int) (w : World) : Calls Tryz.prog 21 #[.int .i64 i] w (DocNew w (clampN i)) := by
  have hcl := clamp_is i
  have hc8 := clamp_le i
  generalize clampN i = n at *
  have HN : Hid (n ≤ 8) := hc8
  have hA : Ext w (w.alloc (.cells #[.slice none 0 0, .slice none 0 0] 54)) := (Ext.refl w).alloc _
  have HB : Hid ((w.alloc (.cells #[.slice none 0 0, .slice none 0 0] 54)).heap[w.heap.size]? = some (.cells #[.slice none 0 0, .slice none 0 0] 54 (0, 0))) := heap_new w _
  go_enter Tryz.func21, Tryz.ntmps21
  go_wp2_with fail
  generalize hW : (w.alloc (.cells #[.slice none 0 0, .slice none 0 0] 54)) = W0 at *
  clear hW
  go_loopg [4] n (fun kx s4 wr => ∃ (k : Nat) (vU : Value), s4 = .int .i64 k ∧ k ≤ n ∧ n - k ≤ kx ∧ Hid (Ext w wr ∧ wr.heap[w.heap.size]? = some (.cells #[.slice none 0 0, vU] 54 (0, 0)) ∧ OwnB wr w.heap.size vU (List.replicate k true)))
  case atStart => exact ⟨0, _, rfl, Nat.zero_le _, Nat.le_refl _, (⟨hA, HB.out, OwnB.nil _ _⟩ : Ext w W0 ∧ W0.heap[w.heap.size]? = some (.cells #[.slice none 0 0, .slice none 0 0] 54 (0, 0)) ∧ OwnB W0 w.heap.size (.slice none 0 0) (List.replicate 0 true))⟩
  case round =>
    obtain ⟨k, vU, rfl, hkn, hkx, HW⟩ := hrel
    clear hA HB
    by_cases hlt : k < n
    · have hki : (k : Int) < (n : Int) := by omega
      obtain ⟨q, c, rfl, -, -⟩ := HW.out.2.2.slice
      have hA1 : Ext wr (wr.alloc (.cells #[.bool true] 4)) := (Ext.refl wr).alloc _
      have hO1 := HW.out.2.2.ext hA1
      have HO1 : Hid _ := hO1
      have x1 : (wr.alloc (.cells #[.bool true] 4)).cell? ⟨w.heap.size, 1, none⟩ = some (.slice q (List.replicate k true).length c) := by rw [heap_cell (hA1.heap HW.out.2.1)]; rfl
      have x2 : wr.cell? ⟨w.heap.size, 1, none⟩ = some (.slice q (List.replicate k true).length c) := by rw [heap_cell HW.out.2.1]; rfl
      rw [List.length_replicate] at x1 x2
      clear hO1
      have HOA : Hid (OwnB (wr.alloc (.cells #[.bool true] 4)) w.heap.size (.slice q k c) (List.replicate k true)) := by have h : OwnB (wr.alloc (.cells #[.bool true] 4)) w.heap.size (.slice q (List.replicate k true).length c) (List.replicate k true) := HO1.out; rw [List.length_replicate] at h; exact h
      have HXA : Hid ((wr.alloc (.cells #[.bool true] 4)).heap[w.heap.size]? = some (.cells #[.slice none 0 0, .slice q k c] 54 (0, 0))) := by have h := hA1.heap HW.out.2.1; rw [List.length_replicate] at h; exact h
      have far : ∀ (w3 : World), (wr.alloc (.cells #[.bool true] 4)).grownBy w3 (Value.slice q k c).ownBlock → w3.heap[w.heap.size]? = some (.cells #[.slice none 0 0, .slice q k c] 54 (0, 0)) := fun w3 hg3 =>
        (hg3.block _ (heap_lt HXA.out) (fun e => ownB_ne HOA.out HXA.out (by decide) (mem_blks.2 e.symm))).trans HXA.out
      have fex : ∀ (v3 : Value) (w3 : World), OwnB w3 w.heap.size v3 (List.replicate k true ++ [true]) → (wr.alloc (.cells #[.bool true] 4)).grownBy w3 (Value.slice q k c).ownBlock → Ext w w3 := fun v3 w3 ho3 hg3 => Tri.grown_ext (HW.out.1.trans hA1) HOA.out hg3
      go_wp2_with (at_builtin; refine append_bool rfl (.tmp 18) (.tmp 19) rfl w.heap.size (.slice q k c) (List.replicate k true) rfl HOA.out wr.heap.size 1 true rfl (heap_new wr _) (by rw [List.length_replicate]; have := HN.out; omega) (Nat.le_trans HW.out.1.size hA1.size) ?_; intro v3 w3 ho3 hg3 hat3; have hx3 := far w3 hg3; have hE3 := fex v3 w3 ho3 hg3; obtain ⟨q3, c3, hv3, -, -⟩ := ho3.slice; subst hv3; have H3 : Hid (OwnB w3 w.heap.size (.slice q3 (List.replicate k true ++ [true]).length c3) (List.replicate k true ++ [true]) ∧ Ext w w3 ∧ w3.heap[w.heap.size]? = some (.cells #[.slice none 0 0, .slice q k c] 54 (0, 0))) := ⟨ho3, hE3, hx3⟩; have y1 : w3.cell? ⟨w.heap.size, 1, none⟩ = some (.slice q k c) := (by rw [heap_cell hx3]; rfl); have f1 : w3.frozen? ⟨w.heap.size, 1, none⟩ = false := heap_frozen hx3; clear ho3 hg3 hat3 hx3 hE3)
      have hl3 : (List.replicate k true ++ [true]).length = k + 1 := by simp
      have hr3 : List.replicate k true ++ [true] = List.replicate (k + 1) true := by rw [← List.replicate_succ']
      obtain ⟨ho3, hx3, hX3⟩ := H3.out
      rw [hl3, hr3] at ho3
      have hS : ExtS [w.heap.size] w3 (w3.setCell ⟨w.heap.size, 1, none⟩ (.slice q3 (k + 1) c3)) := ExtS.setCell (ExtS.refl _ w3) (p := ⟨w.heap.size, 1, none⟩) (.inl (by simp)) _
      have hX4 : (w3.setCell ⟨w.heap.size, 1, none⟩ (.slice q3 (k + 1) c3)).heap[w.heap.size]? = some (.cells #[.slice none 0 0, .slice q3 (k + 1) c3] 54 (0, 0)) := by rw [heap_set hX3]; rfl
      have hO4 : OwnB (w3.setCell ⟨w.heap.size, 1, none⟩ (.slice q3 (k + 1) c3)) w.heap.size (.slice q3 (k + 1) c3) (List.replicate (k + 1) true) := ho3.later hS fun g hg e => ownB_ne ho3 hX3 (by decide) (by rw [List.mem_singleton.1 e] at hg; exact hg)
      have hE4 : Ext w (w3.setCell ⟨w.heap.size, 1, none⟩ (.slice q3 (k + 1) c3)) := ext_map hx3 (Nat.le_refl _) hS
      go_roundg (n - (k + 1))
      case measure => omega
      case rel => exact ⟨k + 1, .slice q3 (k + 1) c3, by go_num, by omega, Nat.le_refl _, ⟨hE4, hX4, hO4⟩⟩
    · obtain rfl : k = n := by omega
      go_wp2_with fail
      go_ret
      refine ⟨w.heap.size, w.heap.size :: blks vU, rfl, ⟨.slice none 0 0, vU, HW.out.2.1, OwnR.nil _ _, HW.out.2.2.base (Nat.zero_le _), by simp, fun x hx => (by cases hx), fun x hx => by simp [hx], fun x hx => ?_⟩, HW.out.1, fun x hx => ?_⟩
      · rcases List.mem_cons.1 hx with rfl | hx
        · exact heap_lt HW.out.2.1
        · exact (HW.out.2.2.lt x hx).2
      · rcases List.mem_cons.1 hx with rfl | hx
        · exact Nat.le_refl _
        · exact (HW.out.2.2.lt x hx).1

theorem rowP_ways (A : List Rt) : ∀ k, (A.map pxR).take (k + 1) = (A.map pxR).take k ++ (match A[k]? with | some r => [pxR r] | none => []) := fun k => by
  rw [List.take_add_one, List.getElem?_map]
  cases A[k]? <;> rfl

set_option maxHeartbeats 2000000 in
theorem owned_ways (xb : Nat) (L : List Rt) (ty : TypeId) (rest : List Value) (v : Value) (t : Int) (q : Option Addr) (m d : Nat) (U : List Bool) (w : World) (h : RibIn ty rest w xb v L) (hg : Rb.Good L) (hU : Ups w q m U) :
    Calls Tryz.prog 73 #[.pointer (some ⟨xb, 0, none⟩), .int .i64 t, .slice q m d] w fun e w' => e = .returned (.int .i64 (ownA (actL L t U) : Nat)) ∧ Ext w w' := by
  have ca := refActive_in xb L ty rest v t q m d U w h (by have := hg.len; omega) hU
  have hpf := act_pf hg t U
  generalize actL L t U = A at *
  have HA : Hid (Pf A) := hpf
  have hla := hpf.len
  clear h hU hg hpf
  go_enter Tryz.func73, Tryz.ntmps73
  go_wp2_with (go_at_call 58; refine ca.mono ?_; rintro e w1 ⟨v1, rfl, ho1, hx1⟩; obtain ⟨p1, c1, rfl, -, -, hR1⟩ := ho1.slice; have H1 : Hid (Ext w w1 ∧ Rd w1 p1 A.length c1 A) := ⟨hx1, hR1⟩; clear ho1 hx1 hR1)
  clear ca
  go_loopg [7, 9] A.length (fun kx s7 s9 wr => ∃ k : Nat, s9 = .int .i64 k ∧ k ≤ A.length ∧ A.length - k ≤ kx ∧ Hid (Ext w1 wr ∧ OwnP wr w1.heap.size s7 ((A.map pxR).take k)))
  case atStart => exact ⟨0, rfl, Nat.zero_le _, Nat.le_refl _, (⟨Ext.refl _, Tri.OwnP.nil _ _⟩ : Ext w1 w1 ∧ OwnP w1 w1.heap.size (.slice none 0 0) ((A.map pxR).take 0))⟩
  case round =>
    obtain ⟨k, rfl, hkA, hkx, HW⟩ := hrel
    by_cases hlt : k < A.length
    · have hki : (k : Int) < (A.length : Int) := by omega
      obtain ⟨r, hrk⟩ : ∃ r, A[k]? = some r := ⟨_, List.getElem?_eq_getElem hlt⟩
      obtain ⟨b, off, hpb, hb, g0, g1, g2, g3, g4, g5⟩ := (H1.out.2.ext HW.out.1).cell hrk
      subst hpb
      have hnx : (A.map pxR).take (k + 1) = (A.map pxR).take k ++ [(r.a, r.l)] := by rw [rowP_ways, hrk]; rfl
      have HNX : Hid _ := hnx
      have hA1 : Ext wr (wr.alloc (.cells #[.int .u32 r.a, .int .i64 r.l] 42)) := (Ext.refl wr).alloc _
      have HO1 : Hid (OwnP (wr.alloc (.cells #[.int .u32 r.a, .int .i64 r.l] 42)) w1.heap.size u7 ((A.map pxR).take k)) := Tri.owns_later HW.out.2 hA1
      have htl : Hid (((A.map pxR).take k).length ≤ 10000000) := (by simp; omega : ((A.map pxR).take k).length ≤ 10000000)
      clear hrk hnx
      go_wp2_with (at_builtin; refine append_px rfl (.tmp 20) (.tmp 26) rfl w1.heap.size u7 ((A.map pxR).take k) rfl HO1.out wr.heap.size 1 r.a r.l rfl (heap_new wr _) htl.out (Nat.le_trans HW.out.1.size hA1.size) ?_; intro v3 w3 ho3 hg3; have H3 : Hid (OwnP w3 w1.heap.size v3 ((A.map pxR).take k ++ [(r.a, r.l)]) ∧ Ext w1 w3) := ⟨ho3, Tri.grown_ext (HW.out.1.trans hA1) HO1.out hg3⟩; clear ho3 hg3)
      go_roundg (A.length - (k + 1))
      case measure => omega
      case rel => exact ⟨k + 1, by go_num, by omega, Nat.le_refl _, (by rw [HNX.out]; exact ⟨H3.out.2, H3.out.1⟩ : Ext w1 w3 ∧ OwnP w3 w1.heap.size v3 ((A.map pxR).take (k + 1)))⟩
    · obtain rfl : k = A.length := by omega
      have hfull : (A.map pxR).take A.length = A.map pxR := List.take_of_length_le (by simp)
      have hO := HW.out.2
      rw [hfull] at hO
      have cO := owned_any w1.heap.size u7 (A.map pxR) wr hO (fun p hp => by obtain ⟨x, hx, rfl⟩ := List.mem_map.1 hp; exact HA.out.vp x hx) (by simp; omega)
      have HX : Hid (Ext w wr) := H1.out.1.trans HW.out.1
      clear hO hfull
      go_wp2_with (go_at_call 102; refine cO.mono ?_; rintro e w4 ⟨rfl, hx4⟩)
      go_ret
      exact ⟨rfl, HX.out.trans hx4⟩
end Go.Proofs.YtkfhkhgiojpfoaaGreat.Fb

namespace Go.Proofs.YtkfhkhgiojpfoaaGreat.Fb

set_option maxRecDepth 100000

open Go.RowKit Go.Proofs.YtkfhkhgiojpfoaaGreat Go.Proofs.YtkfhkhgiojpfoaaGreat.Rb

set_option linter.unusedVariables false

set_option linter.unusedSimpArgs false

set_option maxHeartbeats 2000000 in
theorem full_any (xb : Nat) (L : List Rt) (ty : TypeId) (rest : List Value) (v : Value) (q : Option Addr) (m d : Nat) (U : List Bool) (w : World) (h : RibIn ty rest w xb v L) (hg : Rb.Good L) (hU : Ups w q m U) :
    Calls Tryz.prog 52 #[.pointer (some ⟨xb, 0, none⟩), .slice q m d] w fun e w' => e = .returned (.bool (fullB L U)) ∧ Ext w w' := by
  have co := fun (t : Int) w' (hx : Ext w w') => owned_ways xb L ty rest v t q m d U w' (h.ext hx) hg (hU.ext hx)
  clear h hg hU
  go_enter Tryz.func52, Tryz.ntmps52
  go_wp2_with fail
  go_loopg [5] 4 (fun kx s5 wr => ∃ k : Nat, s5 = .int .i64 k ∧ k ≤ 4 ∧ 4 - k ≤ kx ∧ Hid (Ext w wr ∧ ∀ j : Nat, j < k → ownA (actL L (j : Int) U) ≤ 16))
  case atStart => exact ⟨0, rfl, by omega, by omega, (⟨Ext.refl w, fun j hj => by omega⟩ : Ext w w ∧ ∀ j : Nat, j < 0 → ownA (actL L (j : Int) U) ≤ 16)⟩
  case round =>
    obtain ⟨k, rfl, hk4, hkx, HW⟩ := hrel
    by_cases hlt : k < 4
    · have hki : (k : Int) < 4 := by omega
      by_cases hroom : ownA (actL L (k : Int) U) ≤ 16
      · have hri : (ownA (actL L (k : Int) U) : Int) ≤ 16 := by omega
        have HRM : Hid (ownA (actL L (k : Int) U) ≤ 16) := hroom
        clear hroom
        go_wp2_with (go_at_call 73; refine (co (k : Int) wr HW.out.1).mono ?_; rintro e w1 ⟨rfl, hx1⟩)
        go_roundg (4 - (k + 1))
        case measure => omega
        case rel => exact ⟨k + 1, by go_num, by omega, Nat.le_refl _, (⟨HW.out.1.trans hx1, fun j hj => by
            rcases Nat.lt_or_ge j k with h1 | h1
            · exact HW.out.2 j h1
            · obtain rfl : j = k := by omega
              exact HRM.out⟩ : Ext w w1 ∧ ∀ j : Nat, j < k + 1 → ownA (actL L (j : Int) U) ≤ 16)⟩
      · have hri : ¬ ((ownA (actL L (k : Int) U) : Int) ≤ 16) := by omega
        have HF : Hid (fullB L U = true) := fullB_true hlt (by omega)
        clear hroom
        go_wp2_with (go_at_call 73; refine (co (k : Int) wr HW.out.1).mono ?_; rintro e w1 ⟨rfl, hx1⟩)
        go_ret
        exact ⟨by rw [HF.out]; rfl, HW.out.1.trans hx1⟩
    · obtain rfl : k = 4 := by omega
      have HF : Hid (fullB L U = false) := fullB_false fun k hk => HW.out.2 k hk
      go_wp2_with fail
      go_ret
      exact ⟨by rw [HF.out]; rfl, HW.out.1⟩
end Go.Proofs.YtkfhkhgiojpfoaaGreat.Fb

namespace Go.Proofs.YtkfhkhgiojpfoaaGreat.Fb

set_option maxRecDepth 100000

open Go.RowKit Go.Proofs.YtkfhkhgiojpfoaaGreat Go.Proofs.YtkfhkhgiojpfoaaGreat.Rb

set_option linter.unusedVariables false

set_option linter.unusedSimpArgs false

theorem dset_ways {w w' : World} {xb : Nat} {L' : List Rt} {U : List Bool} {F : List Nat} {vR vU v' : Value} (h1 : w.heap[xb]? = some (.cells #[vR, vU] 54 (0, 0))) (h3 : OwnB w 0 vU U) (h4 : xb ∈ F) (h6 : ∀ x ∈ blks vU, x ∈ F) (h7 : ∀ x ∈ F, x < w.heap.size) (hx : Ext w w') (ho : OwnR w' 0 v' L') (hb : ∀ x ∈ blks v', x ∈ F ∨ w.heap.size ≤ x) : DocAns w xb F L' U (w'.setCell ⟨xb, 0, none⟩ v') := by
  have h1' := hx.heap h1
  have hS : ExtS [xb] w' (w'.setCell ⟨xb, 0, none⟩ v') := ExtS.setCell (ExtS.refl _ w') (p := ⟨xb, 0, none⟩) (.inl (by simp)) _
  refine ⟨F ++ blks v', ⟨v', vU, heap_set h1' v', ho.later hS fun x hx e => own_ne ho h1' (by decide) (by rw [List.mem_singleton.1 e] at hx; exact hx), (h3.ext hx).later hS fun x hx e => ownB_ne h3 h1 (by decide) (by rw [List.mem_singleton.1 e] at hx; exact hx), List.mem_append_left _ h4, fun x hx => List.mem_append_right _ hx, fun x hx => List.mem_append_left _ (h6 x hx), fun x hx' => ?_⟩, (hx.toS F).trans (hS.mono fun b hb => by rw [List.mem_singleton.1 hb]; exact h4), fun x hx' => ?_⟩
  · have := hS.size
    rcases List.mem_append.1 hx' with h | h
    · have := h7 x h; have := hx.size; omega
    · have := (ho.lt x h).2; omega
  · rcases List.mem_append.1 hx' with h | h
    · exact .inl h
    · exact hb x h

theorem dset_up {w w' : World} {xb : Nat} {L : List Rt} {U' : List Bool} {F : List Nat} {vR vU v' : Value} (h1 : w.heap[xb]? = some (.cells #[vR, vU] 54 (0, 0))) (h2 : OwnR w 0 vR L) (h4 : xb ∈ F) (h5 : ∀ x ∈ blks vR, x ∈ F) (h7 : ∀ x ∈ F, x < w.heap.size) (hx : Ext w w') (ho : OwnB w' w.heap.size v' U') : DocAns w xb F L U' (w'.setCell ⟨xb, 1, none⟩ v') := by
  have h1' := hx.heap h1
  have hS : ExtS [xb] w' (w'.setCell ⟨xb, 1, none⟩ v') := ExtS.setCell (ExtS.refl _ w') (p := ⟨xb, 1, none⟩) (.inl (by simp)) _
  refine ⟨F ++ blks v', ⟨vR, v', heap_set h1' v', (h2.ext hx).later hS fun x hx e => own_ne h2 h1 (by decide) (by rw [List.mem_singleton.1 e] at hx; exact hx), (ho.base (Nat.zero_le _)).later hS fun x hx e => ownB_ne ho h1' (by decide) (by rw [List.mem_singleton.1 e] at hx; exact hx), List.mem_append_left _ h4, fun x hx => List.mem_append_left _ (h5 x hx), fun x hx => List.mem_append_right _ hx, fun x hx' => ?_⟩, (hx.toS F).trans (hS.mono fun b hb => by rw [List.mem_singleton.1 hb]; exact h4), fun x hx' => ?_⟩
  · have := hS.size
    rcases List.mem_append.1 hx' with h | h
    · have := h7 x h; have := hx.size; omega
    · have := (ho.lt x h).2; omega
  · rcases List.mem_append.1 hx' with h | h
    · exact .inl h
    · exact .inr (ho.lt x h).1

theorem rib_new {w : World} {v : Value} {L : List Rt} (h : OwnR w 0 v L) : RibIn 51 [] (w.alloc (.cells #[v] 51)) w.heap.size v L := ⟨heap_new w _, h.ext ((Ext.refl w).alloc _)⟩

set_option maxHeartbeats 4000000 in
theorem dadd_any (xb : Nat) (L : List Rt) (U : List Bool) (F : List Nat) (r : Rt) (w : World) (h : DocAt w xb L U F) (hg : Rb.Good L) (hr : RtOk r) (h8 : U.length ≤ 8) :
    Calls Tryz.prog 23 #[.pointer (some ⟨xb, 0, none⟩), (.agg #[.int .i64 r.t, .int .u32 r.a, .int .i64 r.l, .int .i64 r.i, .int .u32 r.g, .int .i64 r.m])] w fun e w' => e = .returned (.int .i64 (addF L U r).1) ∧ DocAns w xb F (addF L U r).2 U w' := by
  have HD : Hid (DocAt w xb L U F) := h
  obtain ⟨vR, vU, h1, h2, h3, h4, h5, h6, h7⟩ := h
  obtain ⟨q, c, rfl, -, -⟩ := h3.slice
  obtain ⟨pR, cR, rfl, -, -, -⟩ := h2.slice
  have hA : Ext w (w.alloc (.cells #[.int .i64 r.t, .int .u32 r.a, .int .i64 r.l, .int .i64 r.i, .int .u32 r.g, .int .i64 r.m] 48)) := (Ext.refl w).alloc _
  have HQ : Hid _ := box_rtE (heap_new w (.cells #[.int .i64 r.t, .int .u32 r.a, .int .i64 r.l, .int .i64 r.i, .int .u32 r.g, .int .i64 r.m] 48))
  have HX : Hid (w.heap[xb]? = some (.cells #[.slice pR L.length cR, .slice q U.length c] 54 (0, 0)) ∧ OwnR w 0 (.slice pR L.length cR) L ∧ OwnB w 0 (.slice q U.length c) U ∧ xb ∈ F ∧ (∀ x ∈ blks (.slice pR L.length cR), x ∈ F) ∧ (∀ x ∈ blks (.slice q U.length c), x ∈ F) ∧ ∀ x ∈ F, x < w.heap.size) := ⟨h1, h2, h3, h4, h5, h6, h7⟩
  have HG : Hid (Rb.Good L ∧ RtOk r) := ⟨hg, hr⟩
  have HU8 : Hid (U.length ≤ 8) := h8
  have hgl := hg.len
  clear h1 h2 h3 h4 h5 h6 h7 hg hr h8
  obtain ⟨b0, b1, b2, b3, b4, b5⟩ := HQ.out
  cases hb : hasB U r.i with
  | false =>
    have ha : addF L U r = (1, L) := by unfold addF; rw [if_pos hb]
    rw [ha]
    have hb' := hb
    unfold hasB at hb'
    rw [Bool.and_eq_false_iff] at hb'
    clear ha hb
    by_cases hneg : r.i < 0
    · have hd : decide (r.i < 0) = true := decide_eq_true hneg
      go_enter Tryz.func23, Tryz.ntmps23
      go_wp2_with fail
      refine wp_region_eager [(0, false), (1, false), (2, false), (3, false), (4, false), (5, false), (6, false), (7, false), (8, false), (9, false), (10, false), (11, false), (12, false)] (by kernel_rfl) (by kernel_rfl) rfl (by kernel_rfl) (fun _ _ _ _ _ h => h) ?_
      have hxd : Ext (w.alloc (.cells #[.int .i64 r.t, .int .u32 r.a, .int .i64 r.l, .int .i64 r.i, .int .u32 r.g, .int .i64 r.m] 48)) (w.alloc (.cells #[.int .i64 r.t, .int .u32 r.a, .int .i64 r.l, .int .i64 r.i, .int .u32 r.g, .int .i64 r.m] 48)).drew := (Ext.refl _).drew
      have z3 : ∀ w', Ext (w.alloc (.cells #[.int .i64 r.t, .int .u32 r.a, .int .i64 r.l, .int .i64 r.i, .int .u32 r.g, .int .i64 r.m] 48)).drew w' → w'.cell? ⟨w.heap.size, 3, none⟩ = some (.int .i64 r.i) := fun w' h => b3 _ (hxd.trans h)
      generalize (w.alloc (.cells #[.int .i64 r.t, .int .u32 r.a, .int .i64 r.l, .int .i64 r.i, .int .u32 r.g, .int .i64 r.m] 48)).drew = W at *
      iterate 4 (refine wpE_read (v := ?_) rfl (by rfl) ?_ ?_; rotate_left; (focus (intro w' hx; go_simp; first | done | with_reducible rfl)); simp only [Act.put, List.setIfInBounds_toArray, List.set_cons_zero, List.set_cons_succ])
      iterate 8 (rw [wpE_skip_eq _ rfl (by rfl)]; simp only [Act.put, List.setIfInBounds_toArray, List.set_cons_zero, List.set_cons_succ])
      iterate 1 (refine wpE_read (v := ?_) rfl (by rfl) ?_ ?_; rotate_left; (focus (intro w' hx; go_simp; first | done | with_reducible rfl)); simp only [Act.put, List.setIfInBounds_toArray, List.set_cons_zero, List.set_cons_succ])
      refine wpE_done ?_
      go_wp2_with fail
      go_ret
      exact ⟨rfl, DocAns.same HD.out (hA.trans hxd)⟩
    · have hge : (U.length : Int) ≤ r.i := by
        rcases hb' with h | h
        · have := of_decide_eq_false h; omega
        · have := of_decide_eq_false h; omega
      have hd : decide (r.i < 0) = false := decide_eq_false hneg
      have hd2 : decide ((U.length : Int) ≤ r.i) = true := decide_eq_true hge
      clear hb'
      go_enter Tryz.func23, Tryz.ntmps23
      go_wp2_with fail
      refine wp_region_eager [(0, false), (1, false), (2, false), (3, false), (4, false), (5, false), (6, false), (7, false), (8, false), (9, false), (10, false), (11, false), (12, false)] (by kernel_rfl) (by kernel_rfl) rfl (by kernel_rfl) (fun _ _ _ _ _ h => h) ?_
      have hxd : Ext (w.alloc (.cells #[.int .i64 r.t, .int .u32 r.a, .int .i64 r.l, .int .i64 r.i, .int .u32 r.g, .int .i64 r.m] 48)) (w.alloc (.cells #[.int .i64 r.t, .int .u32 r.a, .int .i64 r.l, .int .i64 r.i, .int .u32 r.g, .int .i64 r.m] 48)).drew := (Ext.refl _).drew
      have z3 : ∀ w', Ext (w.alloc (.cells #[.int .i64 r.t, .int .u32 r.a, .int .i64 r.l, .int .i64 r.i, .int .u32 r.g, .int .i64 r.m] 48)).drew w' → w'.cell? ⟨w.heap.size, 3, none⟩ = some (.int .i64 r.i) := fun w' h => b3 _ (hxd.trans h)
      have e1 : ∀ w', Ext (w.alloc (.cells #[.int .i64 r.t, .int .u32 r.a, .int .i64 r.l, .int .i64 r.i, .int .u32 r.g, .int .i64 r.m] 48)).drew w' → w'.cell? ⟨xb, 1, none⟩ = some (.slice q U.length c) := fun w' h => by rw [heap_cell ((hA.trans (hxd.trans h)).heap HX.out.1)]; rfl
      generalize (w.alloc (.cells #[.int .i64 r.t, .int .u32 r.a, .int .i64 r.l, .int .i64 r.i, .int .u32 r.g, .int .i64 r.m] 48)).drew = W at *
      iterate 13 (refine wpE_read (v := ?_) rfl (by rfl) ?_ ?_; rotate_left; (focus (intro w' hx; go_simp; first | done | with_reducible rfl)); simp only [Act.put, List.setIfInBounds_toArray, List.set_cons_zero, List.set_cons_succ])
      refine wpE_done ?_
      go_wp2_with fail
      go_ret
      exact ⟨rfl, DocAns.same HD.out (hA.trans hxd)⟩
  | true =>
    have hb' := hb
    unfold hasB at hb'
    simp only [Bool.and_eq_true, decide_eq_true_eq] at hb'
    have hd : decide (r.i < 0) = false := decide_eq_false (by omega)
    have hd2 : decide ((U.length : Int) ≤ r.i) = false := decide_eq_false (by omega)
    have HB : Hid (hasB U r.i = true) := hb
    clear hb hb'
    go_enter Tryz.func23, Tryz.ntmps23
    go_wp2_with fail
    refine wp_region_eager [(0, false), (1, false), (2, false), (3, false), (4, false), (5, false), (6, false), (7, false), (8, false), (9, false), (10, false), (11, false), (12, false)] (by kernel_rfl) (by kernel_rfl) rfl (by kernel_rfl) (fun _ _ _ _ _ h => h) ?_
    have hxd : Ext (w.alloc (.cells #[.int .i64 r.t, .int .u32 r.a, .int .i64 r.l, .int .i64 r.i, .int .u32 r.g, .int .i64 r.m] 48)) (w.alloc (.cells #[.int .i64 r.t, .int .u32 r.a, .int .i64 r.l, .int .i64 r.i, .int .u32 r.g, .int .i64 r.m] 48)).drew := (Ext.refl _).drew
    have z3 : ∀ w', Ext (w.alloc (.cells #[.int .i64 r.t, .int .u32 r.a, .int .i64 r.l, .int .i64 r.i, .int .u32 r.g, .int .i64 r.m] 48)).drew w' → w'.cell? ⟨w.heap.size, 3, none⟩ = some (.int .i64 r.i) := fun w' h => b3 _ (hxd.trans h)
    have e1 : ∀ w', Ext (w.alloc (.cells #[.int .i64 r.t, .int .u32 r.a, .int .i64 r.l, .int .i64 r.i, .int .u32 r.g, .int .i64 r.m] 48)).drew w' → w'.cell? ⟨xb, 1, none⟩ = some (.slice q U.length c) := fun w' h => by rw [heap_cell ((hA.trans (hxd.trans h)).heap HX.out.1)]; rfl
    generalize (w.alloc (.cells #[.int .i64 r.t, .int .u32 r.a, .int .i64 r.l, .int .i64 r.i, .int .u32 r.g, .int .i64 r.m] 48)).drew = W at *
    iterate 13 (refine wpE_read (v := ?_) rfl (by rfl) ?_ ?_; rotate_left; (focus (intro w' hx; go_simp; first | done | with_reducible rfl)); simp only [Act.put, List.setIfInBounds_toArray, List.set_cons_zero, List.set_cons_succ])
    refine wpE_done ?_
    clear z3 e1 hd hd2
    have hwW : Ext w W := hA.trans hxd
    have HW : Hid (Ext w W) := hwW
    have e0 : W.cell? ⟨xb, 0, none⟩ = some (.slice pR L.length cR) := by rw [heap_cell (hwW.heap HX.out.1)]; rfl
    have hA2 : Ext W (W.alloc (.cells #[.slice pR L.length cR] 51)) := (Ext.refl W).alloc _
    have HA2 : Hid _ := hA2
    have hx2 : Ext (w.alloc (.cells #[.int .i64 r.t, .int .u32 r.a, .int .i64 r.l, .int .i64 r.i, .int .u32 r.g, .int .i64 r.m] 48)) (W.alloc (.cells #[.slice pR L.length cR] 51)) := hxd.trans hA2
    have y0 := b0 _ hx2
    have y1 := b1 _ hx2
    have y2 := b2 _ hx2
    have y3 := b3 _ hx2
    have y4 := b4 _ hx2
    have y5 := b5 _ hx2
    have cA := refAdd_in W.heap.size L 51 [] (.slice pR L.length cR) r (W.alloc (.cells #[.slice pR L.length cR] 51)) (by decide) (rib_new (HX.out.2.1.ext hwW)) hgl HG.out.2
    clear hxd hx2 hA2 hwW b0 b1 b2 b3 b4 b5
    by_cases he : addE L r = 0
    · have hs : Hid (addE L r = 0) := he
      rw [he] at cA
      clear he
      go_wp2_with (go_at_call 51; refine cA.mono ?_; rintro e w4 ⟨rfl, v', ⟨k1, k2⟩, k3, k4⟩; obtain ⟨p4, c4, hv4, -, -, -⟩ := k2.slice; subst hv4; have hx4 : Ext W w4 := ext_map ((Ext.refl W).alloc _) (Nat.le_refl _) k3; have H4 : Hid (Ext W w4 ∧ w4.heap[W.heap.size]? = some (.cells #[.slice p4 (addS L r).length c4] 51 (0, 0)) ∧ OwnR w4 0 (.slice p4 (addS L r).length c4) (addS L r)) := ⟨hx4, k1, k2⟩; have K4 : Hid _ := k4; have z1 : w4.cell? ⟨xb, 1, none⟩ = some (.slice q U.length c) := (by rw [heap_cell ((HW.out.trans hx4).heap HX.out.1)]; rfl); clear k1 k2 k3 k4 hx4)
      clear y0 y1 y2 y3 y4 y5 cA
      have hU4 : Ups w4 q U.length U := ((HX.out.2.2.1.ext (HW.out.trans H4.out.1)).ups (by have := HU8.out; omega))
      have cf := full_any W.heap.size (addS L r) 51 [] (.slice p4 (addS L r).length c4) q U.length c U w4 ⟨H4.out.2.1, H4.out.2.2⟩ (HG.out.1.add HG.out.2) hU4
      cases hf : fullB (addS L r) U with
      | true =>
        rw [hf] at cf
        have HF : Hid (fullB (addS L r) U = true) := hf
        clear hf hU4
        go_wp2_with (go_at_call 52; refine cf.mono ?_; rintro e w5 ⟨rfl, hx5⟩)
        go_ret
        have ha : addF L U r = (6, L) := by unfold addF; rw [if_neg (by rw [HB.out]; simp), if_pos hs.out, if_pos HF.out]
        rw [ha]
        exact ⟨rfl, DocAns.same HD.out (HW.out.trans (H4.out.1.trans hx5))⟩
      | false =>
        rw [hf] at cf
        have HF : Hid (fullB (addS L r) U = false) := hf
        clear hf hU4
        go_wp2_with (go_at_call 52; refine cf.mono ?_; rintro e w5 ⟨rfl, hx5⟩; have hX5 : w5.heap[xb]? = some (.cells #[.slice pR L.length cR, .slice q U.length c] 54 (0, 0)) := (HW.out.trans (H4.out.1.trans hx5)).heap HX.out.1; have q0 : w5.cell? ⟨xb, 0, none⟩ = some (.slice pR L.length cR) := (by rw [heap_cell hX5]; rfl); have f0 : w5.frozen? ⟨xb, 0, none⟩ = false := heap_frozen hX5; have q1 : w5.cell? ⟨W.heap.size, 0, none⟩ = some (.slice p4 (addS L r).length c4) := (by rw [heap_cell (hx5.heap H4.out.2.1)]; rfl); have HX5 : Hid (Ext w4 w5) := hx5; clear hX5 hx5)
        go_ret
        have ha : addF L U r = (0, addS L r) := by unfold addF; rw [if_neg (by rw [HB.out]; simp), if_pos hs.out, if_neg (by rw [HF.out]; simp)]
        rw [ha]
        refine ⟨rfl, dset_ways HX.out.1 HX.out.2.2.1 HX.out.2.2.2.1 HX.out.2.2.2.2.2.1 HX.out.2.2.2.2.2.2 (HW.out.trans (H4.out.1.trans HX5.out)) (H4.out.2.2.ext HX5.out) fun x hx => ?_⟩
        rcases K4.out with h | h
        · rw [h] at hx; exact .inl (HX.out.2.2.2.2.1 x hx)
        · have := h x hx
          have := HW.out.size
          have hsz : (W.alloc (.cells #[.slice pR L.length cR] 51)).heap.size = W.heap.size + 1 := by simp
          exact .inr (by omega)
    · have ha : addF L U r = (addE L r, L) := by unfold addF; rw [if_neg (by rw [HB.out]; simp), if_neg he]
      have HA : Hid (addF L U r = (addE L r, L)) := ha
      have hne : ¬ (addE L r = 0) := he
      clear ha he
      generalize addE L r = er at *
      go_wp2_with (go_at_call 51; refine cA.mono ?_; rintro e w4 ⟨rfl, v', ⟨k1, k2⟩, k3, k4⟩; have hx4 : Ext W w4 := ext_map ((Ext.refl W).alloc _) (Nat.le_refl _) k3; have H4 : Hid (Ext W w4) := hx4; clear k1 k2 k3 k4 hx4)
      go_ret
      rw [HA.out]
      exact ⟨rfl, DocAns.same HD.out (HW.out.trans H4.out)⟩

set_option maxHeartbeats 4000000 in
theorem dsetUp_any (xb : Nat) (L : List Rt) (U : List Bool) (F : List Nat) (i : Int) (b : Bool) (w : World) (h : DocAt w xb L U F) (hg : Rb.Good L) (h8 : U.length ≤ 8) :
    Calls Tryz.prog 25 #[.pointer (some ⟨xb, 0, none⟩), .int .i64 i, .bool b] w fun e w' => e = .returned (.int .i64 (setF L U i b).1) ∧ DocAns w xb F L (setF L U i b).2 w' := by
  have HD : Hid (DocAt w xb L U F) := h
  obtain ⟨vR, vU, h1, h2, h3, h4, h5, h6, h7⟩ := h
  obtain ⟨q, c, rfl, -, hS⟩ := h3.slice
  have HX : Hid (w.heap[xb]? = some (.cells #[vR, .slice q U.length c] 54 (0, 0)) ∧ OwnR w 0 vR L ∧ OwnB w 0 (.slice q U.length c) U ∧ xb ∈ F ∧ (∀ x ∈ blks vR, x ∈ F) ∧ (∀ x ∈ blks (.slice q U.length c), x ∈ F) ∧ ∀ x ∈ F, x < w.heap.size) := ⟨h1, h2, h3, h4, h5, h6, h7⟩
  have e1 : w.cell? ⟨xb, 1, none⟩ = some (.slice q U.length c) := by rw [heap_cell h1]; rfl
  have HG : Hid (Rb.Good L) := hg
  have HU8 : Hid (U.length ≤ 8) := h8
  have HSR : Hid (Tri.Src w 1 q U.length c (U.map Value.bool)) := hS
  clear h1 h2 h3 h4 h5 h6 h7 hg h8 hS
  cases hb : hasB U i with
  | false =>
    have ha : setF L U i b = (1, U) := by unfold setF; rw [if_pos hb]
    rw [ha]
    have hb' := hb
    unfold hasB at hb'
    rw [Bool.and_eq_false_iff] at hb'
    clear ha hb
    by_cases hneg : i < 0
    · clear hb'
      go_enter Tryz.func25, Tryz.ntmps25
      go_wp2_with fail
      go_ret
      exact ⟨rfl, DocAns.same HD.out (Ext.refl w)⟩
    · have hge : (U.length : Int) ≤ i := by
        rcases hb' with h | h
        · have := of_decide_eq_false h; omega
        · have := of_decide_eq_false h; omega
      clear hb'
      go_enter Tryz.func25, Tryz.ntmps25
      go_wp2_with fail
      go_ret
      exact ⟨rfl, DocAns.same HD.out (Ext.refl w)⟩
  | true =>
    have hb' := hb
    unfold hasB at hb'
    simp only [Bool.and_eq_true, decide_eq_true_eq] at hb'
    obtain ⟨j, rfl⟩ : ∃ j : Nat, i = (j : Int) := ⟨i.toNat, by omega⟩
    have hj : j < U.length := by omega
    have hji : (j : Int) < (U.length : Int) := hb'.2
    have hjn : ¬ ((j : Int) < 0) := by omega
    obtain ⟨u, huj⟩ : ∃ u, U[j]? = some u := ⟨_, List.getElem?_eq_getElem hj⟩
    have HU : Hid (U[j]? = some u) := huj
    have HB : Hid (hasB U (j : Int) = true) := hb
    have HJ : Hid (j < U.length) := hj
    have hA : Ext w (w.alloc (.cells #[] 4)) := (Ext.refl w).alloc _
    have HB0 : Hid _ := heap_new w (.cells #[] 4)
    have z1 : (w.alloc (.cells #[] 4)).cell? ⟨xb, 1, none⟩ = some (.slice q U.length c) := by rw [heap_cell (hA.heap HX.out.1)]; rfl
    have HR1 : Hid (Tri.Src (w.alloc (.cells #[] 4)) 1 q U.length c (U.map Value.bool)) := HSR.out.ext (by omega) hA
    obtain ⟨ib, hi, hz, hsz, hby⟩ := info_bool
    have HI : Hid (Tryz.prog.info? 4 = some ib ∧ ib.zero = some (.bool false) ∧ ib.size = 1 ∧ ib.bytes = 1) := ⟨hi, hz, hsz, hby⟩
    clear hb hb' hj huj hi hz hsz hby
    go_enter Tryz.func25, Tryz.ntmps25
    go_wp2_with (at_builtin; refine wpList_want rfl (fun K hK => Tri.wp_app_lit (.tmp 19) (.tmp 23) _ _ ib _ 1 1 rfl Tryz.underlying52 HI.out.1 HI.out.2.1 HI.out.2.2.1 HI.out.2.2.2 rfl (by omega) (by omega) w.heap.size rfl HB0.out w.heap.size (Nat.le_refl _) q U.length c (U.map Value.bool) rfl HR1.out (by have := HU8.out; omega) ?_); intro v2 w2 ho2 hne2 hx2; refine hK _ _ ?_; clear hK K; have hO2 : OwnB w2 w.heap.size v2 U := ho2; obtain ⟨g, c2, cur, rfl, hgB, hg, hcu⟩ := hO2.block (by have := HJ.out; omega); have s0 : w2.cell? ⟨g, j, none⟩ = some (.bool u) := (by rw [heap_cell hg]; exact hcu j u HU.out); have f0 : w2.frozen? ⟨g, j, none⟩ = false := heap_frozen hg; have HO2 : Hid (OwnB w2 w.heap.size (.slice (some ⟨g, 0, none⟩) U.length c2) U) := hO2; have hx02 : Ext w w2 := hA.trans hx2; have HX2 : Hid (Ext w w2 ∧ w.heap.size ≤ g) := ⟨hx02, hgB⟩; clear ho2 hne2 hx2 hO2 hg hgB hcu hx02)
    have hx3 : Ext w (w2.setCell ⟨g, j, none⟩ (.bool b)) := ext_map HX2.out.1 HX2.out.2 (ExtS.setCell (ExtS.refl [g] w2) (p := ⟨g, j, none⟩) (.inl (by simp)) _)
    have HX3 : Hid _ := hx3
    have hl3 : (U.set j b).length = U.length := List.length_set ..
    have hO3 : OwnB (w2.setCell ⟨g, j, none⟩ (.bool b)) w.heap.size (.slice (some ⟨g, 0, none⟩) U.length c2) (U.set j b) := HO2.out.put b (i := j)
    have HO3 : Hid (OwnB (w2.setCell ⟨g, j, none⟩ (.bool b)) w.heap.size (.slice (some ⟨g, 0, none⟩) U.length c2) (U.set j b)) := hO3
    have hU3 : Ups (w2.setCell ⟨g, j, none⟩ (.bool b)) (some ⟨g, 0, none⟩) U.length (U.set j b) := hO3.ups (by rw [hl3]; have := HU8.out; omega)
    have cf := full_any xb L 54 [.slice q U.length c] vR (some ⟨g, 0, none⟩) U.length c2 (U.set j b) (w2.setCell ⟨g, j, none⟩ (.bool b)) ⟨hx3.heap HX.out.1, HX.out.2.1.ext hx3⟩ HG.out hU3
    clear s0 f0 z1 e1 hA hO3 hU3 hx3
    generalize (w2.setCell ⟨g, j, none⟩ (.bool b)) = w3 at *
    cases hf : fullB L (U.set j b) with
    | true =>
      rw [hf] at cf
      have HF : Hid (fullB L (U.set j b) = true) := hf
      clear hf
      go_wp2_with (go_at_call 52; refine cf.mono ?_; rintro e w5 ⟨rfl, hx5⟩)
      go_ret
      have ha : setF L U (j : Int) b = (6, U) := by unfold setF; rw [if_neg (by rw [HB.out]; simp), if_pos (by rw [Int.toNat_natCast]; exact HF.out)]
      rw [ha]
      exact ⟨rfl, DocAns.same HD.out (Ext.trans HX3.out hx5)⟩
    | false =>
      rw [hf] at cf
      have HF : Hid (fullB L (U.set j b) = false) := hf
      clear hf
      go_wp2_with (go_at_call 52; refine cf.mono ?_; rintro e w5 ⟨rfl, hx5⟩; have hX5 : w5.heap[xb]? = some (.cells #[vR, .slice q U.length c] 54 (0, 0)) := (Ext.trans HX3.out hx5).heap HX.out.1; have q0 : w5.cell? ⟨xb, 1, none⟩ = some (.slice q U.length c) := (by rw [heap_cell hX5]; rfl); have f0 : w5.frozen? ⟨xb, 1, none⟩ = false := heap_frozen hX5; have HX5 : Hid (Ext w3 w5) := hx5; clear hX5 hx5)
      go_ret
      have ha : setF L U (j : Int) b = (0, U.set j b) := by unfold setF; rw [if_neg (by rw [HB.out]; simp), if_neg (by rw [Int.toNat_natCast, HF.out]; simp), Int.toNat_natCast]
      rw [ha]
      exact ⟨rfl, dset_up HX.out.1 HX.out.2.1 HX.out.2.2.2.1 HX.out.2.2.2.2.1 HX.out.2.2.2.2.2.2 (Ext.trans HX3.out HX5.out) (HO3.out.ext HX5.out)⟩
end Go.Proofs.YtkfhkhgiojpfoaaGreat.Fb

namespace Go.Proofs.YtkfhkhgiojpfoaaGreat.Fb

set_option maxRecDepth 100000

open Go.RowKit Go.Proofs.YtkfhkhgiojpfoaaGreat Go.Proofs.YtkfhkhgiojpfoaaGreat.Rb

open Go.Proofs.YtkfhkhgiojpfoaaGreat.Tri (PX Vp cov has_cov)

set_option linter.unusedVariables false

set_option linter.unusedSimpArgs false

/-! Plainly: the longest one, as the document looks for it. -/

def longB (acc : Option Rt) (r : Rt) : Bool := match acc with
  | none => true
  | some b => decide (b.l < r.l)

def stepD (a : Int) (acc : Option Rt) (r : Rt) : Option Rt := if (hasV r.a r.l a && longB acc r) = true then some r else acc

def lookD (A : List Rt) (a : Int) : Option Rt := A.foldl (stepD a) none

theorem lookD_take {A : List Rt} {a : Int} {k : Nat} {x : Rt} (h : A[k]? = some x) : lookD (A.take (k + 1)) a = stepD a (lookD (A.take k) a) x := by
  rw [List.take_add_one, h]
  unfold lookD
  rw [List.foldl_append]
  rfl

theorem way_step {A : List Rt} {a : Int} {o : Option Rt} {x : Rt} (h : IsWay A a o) : IsWay (A ++ [x]) a (stepD a o x) := by
  have hc : ∀ s : Rt, cov (pxR s) (a, 32) = hasV s.a s.l a := fun s => has_cov (pxR s) a
  unfold stepD
  split
  · rename_i ht
    rw [Bool.and_eq_true] at ht
    refine ⟨by simp, by rw [hc]; exact ht.1, fun s hs hcs => ?_⟩
    rcases List.mem_append.1 hs with hs | hs
    · cases o with
      | none => have := h s hs; rw [hcs] at this; cases this
      | some b =>
        have h1 := h.2.2 s hs hcs
        have h2 : b.l < x.l := by simpa [longB] using ht.2
        omega
    · rw [List.mem_singleton.1 hs]; exact Int.le_refl _
  · rename_i ht
    cases o with
    | none =>
      intro s hs
      rcases List.mem_append.1 hs with hs | hs
      · exact h s hs
      · rw [List.mem_singleton.1 hs, hc]
        cases hh : hasV x.a x.l a with
        | false => rfl
        | true => rw [hh] at ht; exact absurd rfl ht
    | some b =>
      refine ⟨List.mem_append_left _ h.1, h.2.1, fun s hs hcs => ?_⟩
      rcases List.mem_append.1 hs with hs | hs
      · exact h.2.2 s hs hcs
      · rw [List.mem_singleton.1 hs] at hcs ⊢
        rw [hc] at hcs
        rw [hcs] at ht
        have h2 : ¬ b.l < x.l := by simpa [longB] using ht
        omega

theorem lookD_way (A : List Rt) (a : Int) : ∀ k, k ≤ A.length → IsWay (A.take k) a (lookD (A.take k) a)
  | 0, _ => fun s hs => by cases hs
  | k + 1, h => by
    obtain ⟨x, hx⟩ : ∃ x, A[k]? = some x := ⟨_, List.getElem?_eq_getElem (by omega)⟩
    rw [lookD_take hx, List.take_add_one, hx]
    exact way_step (lookD_way A a k (by omega))

theorem lookD_is {A : List Rt} (h : Pf A) {a : Int} (a0 : 0 ≤ a) (a1 : a ≤ 4294967295) : lookD A a = lookO A a := by
  have h1 := lookD_way A a A.length (Nat.le_refl _)
  rw [List.take_of_length_le (Nat.le_refl _)] at h1
  exact way_unique h a0 a1 h1 (look_way h a0 a1)

set_option maxHeartbeats 8000000 in
theorem dlook_any (xb : Nat) (t a : Int) (L : List Rt) (U : List Bool) (F : List Nat) (w : World) (h : DocAt w xb L U F) (hg : Rb.Good L) (h8 : U.length ≤ 8) (a0 : 0 ≤ a) (a1 : a ≤ 4294967295) :
    Calls Tryz.prog 31 #[.pointer (some ⟨xb, 0, none⟩), .int .i64 t, .int .u32 a] w (BestAns w (wayO L U t a)) := by
  obtain ⟨vR, vU, h1, h2, h3, h4, h5, h6, h7⟩ := h
  obtain ⟨q, c, rfl, -, -⟩ := h3.slice
  have hU := h3.ups (by omega)
  have HX : Hid _ := h1
  have ca := fun w' (hx : Ext w w') => refActive_in xb L 54 [.slice q U.length c] vR t q U.length c U w' (⟨hx.heap h1, h2.ext hx⟩ : RibIn 54 [.slice q U.length c] w' xb vR L) (by have := hg.len; omega) (hU.ext hx)
  have hpf := act_pf hg t U
  have hway : wayO L U t a = lookD (actL L t U) a := (lookD_is hpf a0 a1).symm
  rw [hway]
  have HA : Hid (Pf (actL L t U)) := hpf
  have hla := hpf.len
  clear h2 h3 h4 h5 h6 h7 hU h1 hg hpf hway
  generalize actL L t U = A at *
  have hAl : Ext w (w.alloc (.cells #[.int .i64 0, .int .u32 0, .int .i64 0, .int .i64 0, .int .u32 0, .int .i64 0] 48)) := (Ext.refl w).alloc _
  have HB : Hid ((w.alloc (.cells #[.int .i64 0, .int .u32 0, .int .i64 0, .int .i64 0, .int .u32 0, .int .i64 0] 48)).heap[w.heap.size]? = some (.cells #[.int .i64 0, .int .u32 0, .int .i64 0, .int .i64 0, .int .u32 0, .int .i64 0] 48 (0, 0))) := heap_new w _
  go_enter Tryz.func31, Tryz.ntmps31
  go_wp2_with fail
  refine wp_region_eager [(0, false), (1, false), (2, false), (3, false), (4, false), (5, false), (6, false), (7, false), (8, true), (9, false)] (by kernel_rfl) (by kernel_rfl) rfl (by kernel_rfl) (fun _ _ _ _ _ h => h) ?_
  have hxd : Ext w (w.alloc (.cells #[.int .i64 0, .int .u32 0, .int .i64 0, .int .i64 0, .int .u32 0, .int .i64 0] 48)).drew := hAl.drew
  have HBd : Hid ((w.alloc (.cells #[.int .i64 0, .int .u32 0, .int .i64 0, .int .i64 0, .int .u32 0, .int .i64 0] 48)).drew.heap[w.heap.size]? = some (.cells #[.int .i64 0, .int .u32 0, .int .i64 0, .int .i64 0, .int .u32 0, .int .i64 0] 48 (0, 0))) := HB.out
  have e1 : ∀ w', Ext (w.alloc (.cells #[.int .i64 0, .int .u32 0, .int .i64 0, .int .i64 0, .int .u32 0, .int .i64 0] 48)).drew w' → w'.cell? ⟨xb, 1, none⟩ = some (.slice q U.length c) := fun w' h => by rw [heap_cell ((hxd.trans h).heap HX.out)]; rfl
  generalize (w.alloc (.cells #[.int .i64 0, .int .u32 0, .int .i64 0, .int .i64 0, .int .u32 0, .int .i64 0] 48)).drew = W at *
  iterate 8 (refine wpE_read (v := ?_) rfl (by rfl) ?_ ?_; rotate_left; (focus (intro w' hx; go_simp; first | done | with_reducible rfl)); simp only [Act.put, List.setIfInBounds_toArray, List.set_cons_zero, List.set_cons_succ])
  (refine wpE_call rfl (by rfl) (fun K hK => ?_); go_simp; first | (go_at_call 58; refine (ca W hxd).mono ?_; rintro e w1 ⟨v1, rfl, ho1, hx1⟩; obtain ⟨p1, c1, rfl, -, -, hR1⟩ := ho1.slice; refine hK _ _ hx1 ?_; clear hK K))
  iterate 1 (refine wpE_read (v := ?_) rfl (by rfl) ?_ ?_; rotate_left; (focus (intro w' hx; go_simp; first | done | with_reducible rfl)); simp only [Act.put, List.setIfInBounds_toArray, List.set_cons_zero, List.set_cons_succ])
  refine wpE_done ?_
  have H1 : Hid (Ext w w1 ∧ Rd w1 p1 A.length c1 A ∧ w1.heap[w.heap.size]? = some (.cells #[.int .i64 0, .int .u32 0, .int .i64 0, .int .i64 0, .int .u32 0, .int .i64 0] 48 (0, 0))) := ⟨hxd.trans hx1, hR1, hx1.heap HBd.out⟩
  clear ca e1 hxd HBd HB hAl hx1 hR1 ho1
  go_wp2_with fail
  go_loopg [9, 10] A.length (fun kx s9 s10 wr => ∃ (k : Nat) (o : Option Rt) (z : Int), s10 = .int .i64 k ∧ s9 = .int .i64 z ∧ k ≤ A.length ∧ A.length - k ≤ kx ∧ Ext w1 wr ∧ Hid (o = lookD (A.take k) a) ∧ Hid (Idx A o z))
  case atStart => exact ⟨0, none, -1, rfl, rfl, Nat.zero_le _, by omega, Ext.refl _, (rfl : none = lookD (A.take 0) a), (.inl ⟨rfl, rfl⟩ : Idx A none (-1))⟩
  case round =>
    obtain ⟨k, o, z, rfl, rfl, hkn, hkx, hx, HO, HZ⟩ := hrel
    by_cases hlt : k < A.length
    · obtain ⟨x, hxk⟩ : ∃ x, A[k]? = some x := ⟨_, List.getElem?_eq_getElem hlt⟩
      have hst := lookD_take (a := a) hxk
      rw [← HO.out] at hst
      obtain ⟨b, off, rfl, hb, g0, g1, g2, g3, g4, g5⟩ := (H1.out.2.1.ext hx).cell hxk
      have HXK : Hid _ := hxk
      have HT : Hid _ := hst
      have hki : (k : Int) < (A.length : Int) := by omega
      obtain ⟨xa0, xa1⟩ := px_bd (HA.out.vp x (List.mem_of_getElem? hxk))
      have kh := fun w' => refHas_any x.a x.l a w' xa0 xa1 a0 a1
      have hd : Ext wr wr.drew := (Ext.refl wr).drew
      have x1 : ∀ w', Ext wr.drew w' → w'.cell? ⟨b, off + k * 6 + 1, none⟩ = some (.int .u32 x.a) := fun w' h => by rw [(hd.trans h).below.cell (p := ⟨b, off + k * 6 + 1, none⟩) hb]; exact g1
      have x2 : ∀ w', Ext wr.drew w' → w'.cell? ⟨b, off + k * 6 + 2, none⟩ = some (.int .i64 x.l) := fun w' h => by rw [(hd.trans h).below.cell (p := ⟨b, off + k * 6 + 2, none⟩) hb]; exact g2
      clear hxk hst g0 g1 g2 g3 g4 g5
      cases hh : hasV x.a x.l a with
      | false =>
        rw [hh] at kh
        have ho : stepD a o x = o := by unfold stepD; rw [hh]; simp
        have HOO : Hid _ := ho
        clear hh ho
        go_wp2_with fail
        refine wp_region_eager [(0, false), (1, false), (2, false), (3, false), (4, false), (5, false), (6, true), (7, false), (8, false), (9, false), (10, false), (11, false), (12, false), (13, false), (14, false), (15, false), (16, false), (17, false), (18, false), (19, false), (20, false), (21, false), (22, false), (23, false), (24, false), (25, false)] (by kernel_rfl) (by kernel_rfl) rfl (by kernel_rfl) (fun _ _ _ _ _ h => h) ?_
        have hxd : Ext w1 wr.drew := hx.drew
        generalize wr.drew = W2 at *
        iterate 6 (refine wpE_read (v := ?_) rfl (by rfl) ?_ ?_; rotate_left; (focus (intro w' hx; go_simp; first | done | with_reducible rfl)); simp only [Act.put, List.setIfInBounds_toArray, List.set_cons_zero, List.set_cons_succ])
        (refine wpE_call rfl (by rfl) (fun K hK => ?_); go_simp; first | (go_at_call 33; refine (kh _).mono ?_; rintro e w3 ⟨rfl, hx3⟩; refine hK _ _ hx3 ?_; clear hK K))
        iterate 1 (refine wpE_read (v := ?_) rfl (by rfl) ?_ ?_; rotate_left; (focus (intro w' hx; go_simp; first | done | with_reducible rfl)); simp only [Act.put, List.setIfInBounds_toArray, List.set_cons_zero, List.set_cons_succ])
        iterate 17 (rw [wpE_skip_eq _ rfl (by rfl)]; simp only [Act.put, List.setIfInBounds_toArray, List.set_cons_zero, List.set_cons_succ])
        iterate 1 (refine wpE_read (v := ?_) rfl (by rfl) ?_ ?_; rotate_left; (focus (intro w' hx; go_simp; first | done | with_reducible rfl)); simp only [Act.put, List.setIfInBounds_toArray, List.set_cons_zero, List.set_cons_succ])
        refine wpE_done ?_
        go_wp2_with fail
        go_roundg (A.length - (k + 1))
        case measure => omega
        case rel => exact ⟨k + 1, o, z, by go_num, rfl, by omega, Nat.le_refl _, hxd.trans hx3, (by rw [HT.out, HOO.out] : o = lookD (A.take (k + 1)) a), HZ⟩
      | true =>
        rw [hh] at kh
        rcases HZ.out with ⟨ho0, hz⟩ | ⟨j, y, hz, hj, hy, ho0⟩
        · have ho : stepD a o x = some x := by unfold stepD; rw [hh, ho0]; rfl
          have HOO : Hid _ := ho
          subst hz
          clear hh ho ho0
          go_wp2_with fail
          refine wp_region_eager [(0, false), (1, false), (2, false), (3, false), (4, false), (5, false), (6, true), (7, false), (8, false), (9, false), (10, false), (11, false), (12, false), (13, false), (14, false), (15, false), (16, false), (17, false), (18, false), (19, false), (20, false), (21, false), (22, false), (23, false), (24, false), (25, false)] (by kernel_rfl) (by kernel_rfl) rfl (by kernel_rfl) (fun _ _ _ _ _ h => h) ?_
          have hxd : Ext w1 wr.drew := hx.drew
          generalize wr.drew = W2 at *
          iterate 6 (refine wpE_read (v := ?_) rfl (by rfl) ?_ ?_; rotate_left; (focus (intro w' hx; go_simp; first | done | with_reducible rfl)); simp only [Act.put, List.setIfInBounds_toArray, List.set_cons_zero, List.set_cons_succ])
          (refine wpE_call rfl (by rfl) (fun K hK => ?_); go_simp; first | (go_at_call 33; refine (kh _).mono ?_; rintro e w3 ⟨rfl, hx3⟩; refine hK _ _ hx3 ?_; clear hK K))
          iterate 4 (refine wpE_read (v := ?_) rfl (by rfl) ?_ ?_; rotate_left; (focus (intro w' hx; go_simp; first | done | with_reducible rfl)); simp only [Act.put, List.setIfInBounds_toArray, List.set_cons_zero, List.set_cons_succ])
          iterate 13 (rw [wpE_skip_eq _ rfl (by rfl)]; simp only [Act.put, List.setIfInBounds_toArray, List.set_cons_zero, List.set_cons_succ])
          iterate 2 (refine wpE_read (v := ?_) rfl (by rfl) ?_ ?_; rotate_left; (focus (intro w' hx; go_simp; first | done | with_reducible rfl)); simp only [Act.put, List.setIfInBounds_toArray, List.set_cons_zero, List.set_cons_succ])
          refine wpE_done ?_
          go_wp2_with fail
          go_roundg (A.length - (k + 1))
          case measure => omega
          case rel => exact ⟨k + 1, some x, (k : Int), by go_num, rfl, by omega, Nat.le_refl _, hxd.trans hx3, (by rw [HT.out, HOO.out] : some x = lookD (A.take (k + 1)) a), (.inr ⟨k, x, rfl, hlt, HXK.out, rfl⟩ : Idx A (some x) (k : Int))⟩
        · subst hz
          obtain ⟨b', off', hp', hb', y0, y1, y2, y3, y4, y5⟩ := (H1.out.2.1.ext hx).cell hy
          cases hp'
          have hjn : decide ((j : Int) < 0) = false := decide_eq_false (by omega)
          have hji : (j : Int) < (A.length : Int) := by omega
          have hj0 : ¬ ((j : Int) < 0) := by omega
          have z2 : ∀ w', Ext wr.drew w' → w'.cell? ⟨b, off + j * 6 + 2, none⟩ = some (.int .i64 y.l) := fun w' h => by rw [(hd.trans h).below.cell (p := ⟨b, off + j * 6 + 2, none⟩) hb]; exact y2
          clear y0 y1 y2 y3 y4 y5 hb'
          by_cases hl : y.l < x.l
          · have hdl : decide (y.l < x.l) = true := decide_eq_true hl
            have ho : stepD a o x = some x := by unfold stepD longB; rw [hh, ho0]; simp [hl]
            have HOO : Hid _ := ho
            clear hh ho ho0
            go_wp2_with fail
            refine wp_region_eager [(0, false), (1, false), (2, false), (3, false), (4, false), (5, false), (6, true), (7, false), (8, false), (9, false), (10, false), (11, false), (12, false), (13, false), (14, false), (15, false), (16, false), (17, false), (18, false), (19, false), (20, false), (21, false), (22, false), (23, false), (24, false), (25, false)] (by kernel_rfl) (by kernel_rfl) rfl (by kernel_rfl) (fun _ _ _ _ _ h => h) ?_
            have hxd : Ext w1 wr.drew := hx.drew
            generalize wr.drew = W2 at *
            iterate 6 (refine wpE_read (v := ?_) rfl (by rfl) ?_ ?_; rotate_left; (focus (intro w' hx; go_simp; first | done | with_reducible rfl)); simp only [Act.put, List.setIfInBounds_toArray, List.set_cons_zero, List.set_cons_succ])
            (refine wpE_call rfl (by rfl) (fun K hK => ?_); go_simp; first | (go_at_call 33; refine (kh _).mono ?_; rintro e w3 ⟨rfl, hx3⟩; refine hK _ _ hx3 ?_; clear hK K))
            replace x2 := fun w' h => x2 w' (hx3.trans h); replace z2 := fun w' h => z2 w' (hx3.trans h)
            iterate 19 (refine wpE_read (v := ?_) rfl (by rfl) ?_ ?_; rotate_left; (focus (intro w' hx; go_simp; first | done | with_reducible rfl)); simp only [Act.put, List.setIfInBounds_toArray, List.set_cons_zero, List.set_cons_succ])
            refine wpE_done ?_
            go_wp2_with fail
            go_roundg (A.length - (k + 1))
            case measure => omega
            case rel => exact ⟨k + 1, some x, (k : Int), by go_num, rfl, by omega, Nat.le_refl _, hxd.trans hx3, (by rw [HT.out, HOO.out] : some x = lookD (A.take (k + 1)) a), (.inr ⟨k, x, rfl, hlt, HXK.out, rfl⟩ : Idx A (some x) (k : Int))⟩
          · have hdl : decide (y.l < x.l) = false := decide_eq_false hl
            have ho : stepD a o x = o := by unfold stepD longB; rw [hh, ho0]; simp [hl]
            have HOO : Hid _ := ho
            clear hh ho ho0
            go_wp2_with fail
            refine wp_region_eager [(0, false), (1, false), (2, false), (3, false), (4, false), (5, false), (6, true), (7, false), (8, false), (9, false), (10, false), (11, false), (12, false), (13, false), (14, false), (15, false), (16, false), (17, false), (18, false), (19, false), (20, false), (21, false), (22, false), (23, false), (24, false), (25, false)] (by kernel_rfl) (by kernel_rfl) rfl (by kernel_rfl) (fun _ _ _ _ _ h => h) ?_
            have hxd : Ext w1 wr.drew := hx.drew
            generalize wr.drew = W2 at *
            iterate 6 (refine wpE_read (v := ?_) rfl (by rfl) ?_ ?_; rotate_left; (focus (intro w' hx; go_simp; first | done | with_reducible rfl)); simp only [Act.put, List.setIfInBounds_toArray, List.set_cons_zero, List.set_cons_succ])
            (refine wpE_call rfl (by rfl) (fun K hK => ?_); go_simp; first | (go_at_call 33; refine (kh _).mono ?_; rintro e w3 ⟨rfl, hx3⟩; refine hK _ _ hx3 ?_; clear hK K))
            replace x2 := fun w' h => x2 w' (hx3.trans h); replace z2 := fun w' h => z2 w' (hx3.trans h)
            iterate 19 (refine wpE_read (v := ?_) rfl (by rfl) ?_ ?_; rotate_left; (focus (intro w' hx; go_simp; first | done | with_reducible rfl)); simp only [Act.put, List.setIfInBounds_toArray, List.set_cons_zero, List.set_cons_succ])
            refine wpE_done ?_
            go_wp2_with fail
            go_roundg (A.length - (k + 1))
            case measure => omega
            case rel => exact ⟨k + 1, o, (j : Int), by go_num, rfl, by omega, Nat.le_refl _, hxd.trans hx3, (by rw [HT.out, HOO.out] : o = lookD (A.take (k + 1)) a), HZ⟩
    · obtain rfl : k = A.length := by omega
      have hoo : o = lookD A a := by have := HO.out; rw [List.take_of_length_le (Nat.le_refl _)] at this; exact this
      rcases HZ.out with ⟨ho0, hz⟩ | ⟨j, y, hz, hj, hy, ho0⟩
      · subst hz
        have HOO : Hid (lookD A a = none) := by rw [← hoo]; exact ho0
        clear hoo ho0
        go_wp2_with (refine wpl_store (by rfl) 48 _ _ rfl rfl 6 w.heap.size #[.int .i64 zeroR.t, .int .u32 zeroR.a, .int .i64 zeroR.l, .int .i64 zeroR.i, .int .u32 zeroR.g, .int .i64 zeroR.m] _ _ rfl rfl (hx.heap H1.out.2.2) rt_size rfl rfl (by simp [Value.oneCell']) ?_; intro w5 hx5 k5)
        refine bodyPost_ret (results_two Tryz.results31 _ rfl k5 Tryz.underlying48 rfl rt_size) rfl ⟨?_, ExtX.ext (H1.out.1.trans hx) hx5 (Nat.le_refl _)⟩
        rw [HOO.out]
        rfl
      · subst hz
        have HOO : Hid (lookD A a = some y) := by rw [← hoo]; exact ho0
        obtain ⟨b, off, rfl, hb, g0, g1, g2, g3, g4, g5⟩ := (H1.out.2.1.ext hx).cell hy
        have hji : (j : Int) < (A.length : Int) := by omega
        have hj0 : ¬ ((j : Int) < 0) := by omega
        clear hoo ho0
        go_wp2_with (refine wpl_store (by rfl) 48 _ _ rfl rfl 6 w.heap.size #[.int .i64 y.t, .int .u32 y.a, .int .i64 y.l, .int .i64 y.i, .int .u32 y.g, .int .i64 y.m] _ _ rfl rfl (hx.heap H1.out.2.2) rt_size rfl rfl (by simp [Value.oneCell']) ?_; intro w5 hx5 k5)
        refine bodyPost_ret (results_two Tryz.results31 _ rfl k5 Tryz.underlying48 rfl rt_size) rfl ⟨?_, ExtX.ext (H1.out.1.trans hx) hx5 (Nat.le_refl _)⟩
        rw [HOO.out]
        rfl
end Go.Proofs.YtkfhkhgiojpfoaaGreat.Fb
