/- The document's Parse of a rule. -/
import Derived.Test.YtbmmgjmmooakpaaGreatDoorRv5
import Derived.Test.YtbmmgjmmooakpaaGreatDoorRuC
import Derived.Test.YtbmmgjmmooakpaaGreatDoorRuD
import Derived.Test.YtbmmgjmmooakpaaGreatDoorRu5
import Derived.Deep.CutBlock
namespace Go.Proofs.YtbmmgjmmooakpaaGreatDoor.Ru
open Go.RowKit
set_option linter.unusedVariables false
set_option maxRecDepth 100000

theorem disA (t : ByteArray) (q : Nat) (L : WL) (b : Bool) (w : World) (h : RAt w q L b) :
    Calls Tryz.prog 26 #[.pointer (some ⟨q, 0, none⟩), .string t] w (DAns encB okT (sWord t L) q b w) := by
  refine (dis_any t q L b w h).mono ?_
  rintro e w' ⟨rfl, h1, h2⟩
  exact ⟨isW t L, b, aftW t L, rfl, trivial, Stp.some, h1, h2⟩

/-- Where a rule stands behind one step of the document's. -/
def StpAt {α : Type} (o : Option (α × WL)) (b : Bool) (q g : Nat) (W : World) (ok : α → Prop) (X : α → Array Value) (wx : World) : Prop :=
  ∃ v b2 L2, Stp o b v b2 L2 ∧ ok v ∧ RAt wx q L2 b2 ∧ Two q g W wx ∧ wx.heap[g]? = some (.cells (X v) 32 (0, 0))

theorem isW_headW {t : ByteArray} (ht : t ≠ txt []) (L : WL) : isW t L = decide (headW L = t) := by
  unfold isW
  cases L with
  | nil => simp [headW_nil, ht.symm]
  | cons x M => simp [headW]

theorem headW_none {L : WL} (h : L.isEmpty = true) : headW L = txt [] := by
  cases L with
  | nil => rfl
  | cons => cases h

theorem bad_empty {b em d : Bool} (h : em = true → d = true) : ((b || em) || d) = (b || d) := by
  cases em
  · rw [Bool.or_false]
  · rw [h rfl]; cases b <;> rfl

theorem act_stp {L : WL} : (headW L = tPass → Stp (sAct L) false true false L.tail) ∧ (headW L = tBlock → Stp (sAct L) false false false L.tail) ∧ (headW L ≠ tPass → headW L ≠ tBlock → Stp (sAct L) false false true L.tail) := by
  have h1 := isW_headW (t := tPass) (by decide) L
  have h2 := isW_headW (t := tBlock) (by decide) L
  unfold sAct
  refine ⟨fun h => ?_, fun h => ?_, fun h h' => ?_⟩
  · rw [h1, decide_eq_true h]; exact Stp.some
  · rw [h1, h2, h]; exact Stp.some
  · rw [h1, h2, decide_eq_false h, decide_eq_false h']; exact .inr (.inl ⟨rfl, rfl, rfl⟩)

theorem must_stp {t : ByteArray} {L : WL} {b : Bool} : Stp (sMust t L) b () (b || !isW t L) (aftW t L) := by
  refine Stp.ask (fun h => ?_) (fun h => ?_)
  · unfold sMust aftW; rw [if_pos h, if_pos h]
  · unfold sMust; rw [if_neg (by rw [h]; decide)]

theorem owns_sl {w : World} {base : Nat} {e : TypeId} {v : Value} {n : Nat} {xs : List Value} (h : w.ownsRow base e 1 v n xs) : ∃ a m c, v = .slice a m c := by
  rcases h.2 with ⟨h, _⟩ | ⟨g, c, _, h, _⟩
  · exact ⟨_, _, _, h⟩
  · exact ⟨_, _, _, h⟩

theorem Two.trans {p g : Nat} {A B C : World} (h : Two p g A B) (k : Two p g B C) : Two p g A C :=
  ⟨k.os.trans h.os, k.tape.trans h.tape, k.output.trans h.output, Nat.le_trans h.size k.size, fun i hi hp hg => (k.block i (Nat.lt_of_lt_of_le hi h.size) hp hg).trans (h.block i hi hp hg)⟩

theorem two_cell {p g : Nat} {A B : World} (h : Two p g A B) {x k : Nat} {v : Value} (hp : x ≠ p) (hg : x ≠ g) (hc : A.cell? ⟨x, k, none⟩ = some v) : B.cell? ⟨x, k, none⟩ = some v := by
  rw [← hc]
  unfold World.cell?
  rw [h.block x (block_heap hc) hp hg]

theorem onD_no {L : WL} {b : Bool} (h : isW tOn L = false) : Stp (sOnD L) b (txt []) b (aftW tOn L) := by
  have h' : ¬ isW tOn L = true := by rw [h]; decide
  unfold sOnD aftW; rw [if_neg h', if_neg h']; exact Stp.some

theorem onD_yes {L : WL} {b : Bool} (h : isW tOn L = true) : Stp (sOnD L) b (headW (aftW tOn L)) ((b || (aftW tOn L).isEmpty) || decide (headW (aftW tOn L) = txt [])) (aftW tOn L).tail := by
  have e : sOnD L = (sHead (aftW tOn L)).bind fun x => if x.1 = txt [] then none else some x := by unfold sOnD aftW; rw [if_pos h, if_pos h]
  rw [e]
  cases aftW tOn L with
  | nil =>
    cases b
    · exact .inr (.inl ⟨rfl, rfl, rfl⟩)
    · exact .inl ⟨rfl, rfl⟩
  | cons x M =>
    show Stp (if x = txt [] then none else some (x, M)) b x ((b || false) || decide (x = txt [])) M
    by_cases hx : x = txt []
    · rw [if_pos hx, decide_eq_true hx]
      cases b
      · exact .inr (.inl ⟨rfl, rfl, rfl⟩)
      · exact .inl ⟨rfl, rfl⟩
    · rw [if_neg hx, decide_eq_false hx, Bool.or_false, Bool.or_false]
      exact Stp.some

theorem proto_no {L : WL} {b : Bool} (h : isW tProto L = false) : Stp (sProto L) b 0 b (aftW tProto L) := by
  have h' : ¬ isW tProto L = true := by rw [h]; decide
  unfold sProto aftW; rw [if_neg h', if_neg h']; exact Stp.some

theorem proto_yes {L L' : WL} {b b' : Bool} {v : Int} (h : isW tProto L = true) (st : Stp ((sHead (aftW tProto L)).bind fun x => (protoOf x.1).map fun v => (v, x.2)) b v b' L') : Stp (sProto L) b v b' L' := by
  unfold aftW at st; rw [if_pos h] at st; unfold sProto; rw [if_pos h]; exact st

theorem must_yes {t : ByteArray} {L : WL} {b : Bool} (h : isW t L = true) : Stp (sMust t L) b () b (aftW t L) := by
  have := must_stp (t := t) (L := L) (b := b); rwa [h, Bool.not_true, Bool.or_false] at this

theorem must_no {t : ByteArray} {L : WL} {b : Bool} (h : isW t L = false) : Stp (sMust t L) b () true (aftW t L) := by
  have := must_stp (t := t) (L := L) (b := b); rwa [h, Bool.not_false, Bool.or_true] at this

theorem flags_no {L : WL} {b : Bool} (h : isW tFlags L = false) : Stp (sFlags L) b (0, 0) b (aftW tFlags L) := by
  have h' : ¬ isW tFlags L = true := by rw [h]; decide
  unfold sFlags aftW; rw [if_neg h', if_neg h']; exact Stp.some

theorem flags_yes {L : WL} {b b' : Bool} {v : Int × Int} (h : isW tFlags L = true) (hv : (flagsOf (headW (aftW tFlags L))).isSome = true → flagsOf (headW (aftW tFlags L)) = some v) (hb : b' = (b || !(flagsOf (headW (aftW tFlags L))).isSome)) : Stp (sFlags L) b v b' (aftW tFlags L).tail := by
  unfold sFlags; rw [if_pos h]
  unfold aftW at *; rw [if_pos h] at *
  exact head_stp' flags_nil rfl hv hb

theorem flagsOf_parts {x A B : ByteArray} (h : splitL 47 x.data.toList = [A.data.toList, B.data.toList]) : flagsOf x = (lettersOf A.data.toList).bind fun s => (lettersOf B.data.toList).bind fun m => if m = 0 then none else some ((s : Int), (m : Int)) := by
  unfold flagsOf; rw [h]

theorem flagsOf_few {x : ByteArray} (h : (splitL 47 x.data.toList).length ≠ 2) : flagsOf x = none := by
  unfold flagsOf
  match splitL 47 x.data.toList, h with
  | [], _ => rfl
  | [_], _ => rfl
  | [_, _], h => exact absurd rfl h
  | _ :: _ :: _ :: _, _ => rfl

theorem bad_flags {b em g1 g2 z s : Bool} (hs : (g1 && (g2 && !z)) = s) (h : em = true → s = false) : ((((b || em) || !g1) || !g2) || z) = (b || !s) := by
  subst hs
  cases b <;> cases em <;> cases g1 <;> cases g2 <;> cases z <;> first | rfl | exact absurd (h rfl) (by decide)

theorem number_no {t : ByteArray} {low high wo : Int} {L : WL} {b : Bool} (h : isW t L = false) : Stp (sNumber t low high wo L) b wo b (aftW t L) := by
  have h' : ¬ isW t L = true := by rw [h]; decide
  unfold sNumber aftW; rw [if_neg h', if_neg h']; exact Stp.some

theorem number_yes {t : ByteArray} {low high wo v : Int} {L : WL} {b b' : Bool} (h : isW t L = true) (hv : numIn (headW (aftW t L)) low high = true → v = valT (headW (aftW t L))) (hb : b' = (b || !numIn (headW (aftW t L)) low high)) : Stp (sNumber t low high wo L) b v b' (aftW t L).tail := by
  unfold sNumber; rw [if_pos h]
  unfold aftW at *; rw [if_pos h] at *
  rw [hb]; exact num_stp rfl hv

theorem type_yes {L : WL} {b : Bool} {v : Int} (h : isW tType L = true) (hv : numB (headW (aftW tType L)).data.toList 255 = true → v = valT (headW (aftW tType L))) :
    Stp (sNumber tType 0 255 (-1) L) b v ((b || (aftW tType L).isEmpty) || !numB (headW (aftW tType L)).data.toList 255) (aftW tType L).tail := by
  have e : numIn (headW (aftW tType L)) 0 255 = numB (headW (aftW tType L)).data.toList 255 := by
    unfold numIn; rw [decide_eq_true (by omega), Bool.and_true]; rfl
  refine number_yes h (fun g => hv (by rw [← e]; exact g)) ?_
  rw [e]
  refine bad_empty fun h0 => ?_
  rw [headW_none h0, list_txt, numB_empty]; rfl

theorem table_yes {L : WL} {b : Bool} {v : Int} (h : isW tTable L = true) (hv : numB (headW (aftW tTable L)).data.toList 3 = true → v = valT (headW (aftW tTable L))) :
    Stp (sNumber tTable 1 3 0 L) b v (((b || (aftW tTable L).isEmpty) || !numB (headW (aftW tTable L)).data.toList 3) || (v == 0)) (aftW tTable L).tail := by
  have e : numIn (headW (aftW tTable L)) 1 3 = true → numB (headW (aftW tTable L)).data.toList 3 = true := by
    unfold numIn; intro h; simp only [Bool.and_eq_true] at h; exact h.1
  refine number_yes h (fun g => hv (e g)) ?_
  have h0 := headW_none (L := aftW tTable L)
  generalize headW (aftW tTable L) = x at *
  generalize (aftW tTable L).isEmpty = em at *
  cases hn : numB x.data.toList 3 with
  | false =>
    have : numIn x 1 3 = false := by rw [Bool.eq_false_iff]; intro g; rw [e g] at hn; cases hn
    rw [this]; simp
  | true =>
    have hem : em = false := by
      cases em
      · rfl
      · rw [h0 rfl, list_txt, numB_empty] at hn; cases hn
    have hx := hv hn
    have : numIn x 1 3 = !(v == 0) := by
      rw [hx]; unfold numIn valT
      rw [show (3 : Int).toNat = 3 from rfl, hn, Bool.true_and, Bool.eq_iff_iff]
      simp; omega
    rw [this, hem]; simp

theorem pin_no {t : ByteArray} {L : WL} {b : Bool} (h : isW t L = false) : Stp (sPinD t L) b pin0 b (aftW t L) := by
  have h' : ¬ isW t L = true := by rw [h]; decide
  unfold sPinD aftW; rw [if_neg h', if_neg h']; exact Stp.some

theorem pinD_yes {t : ByteArray} {L L' : WL} {b b' : Bool} {v : PinV} (h : isW t L = true) (st : Stp (dPin (aftW t L)) b v b' L') : Stp (sPinD t L) b v b' L' := by
  unfold aftW at st; rw [if_pos h] at st; unfold sPinD; rw [if_pos h]; exact st

set_option maxHeartbeats 40000000 in
theorem dparse_any (s : ByteArray) (w : World) (hz : s.size ≤ 1000000) :
    Calls Tryz.prog 10 #[.string s] w fun e w' => e = parseRE s ∧ Ext w w' := by
  obtain ⟨W0, hW0⟩ : ∃ W0, w.alloc (.cells #[.bool false, .bool false, .bool false, .string ⟨#[]⟩, .int .i64 0, .bool false, .string ⟨#[]⟩, .int .u32 0, .int .i64 0, .int .i64 0, .int .i64 0, .bool false, .string ⟨#[]⟩, .int .u32 0, .int .i64 0, .int .i64 0, .int .i64 0, .int .i64 0, .int .i64 0, .int .i64 0, .bool false, .bool false, .string ⟨#[]⟩, .int .u32 0, .bool false, .string ⟨#[]⟩, .int .u32 0, .int .i64 0] 32) = W0 := ⟨_, rfl⟩
  have hx0 : Ext w W0 := hW0 ▸ (Ext.refl w).alloc _
  have h0 : W0.heap[w.heap.size]? = some (.cells #[.bool false, .bool false, .bool false, .string ⟨#[]⟩, .int .i64 0, .bool false, .string ⟨#[]⟩, .int .u32 0, .int .i64 0, .int .i64 0, .int .i64 0, .bool false, .string ⟨#[]⟩, .int .u32 0, .int .i64 0, .int .i64 0, .int .i64 0, .int .i64 0, .int .i64 0, .int .i64 0, .bool false, .bool false, .string ⟨#[]⟩, .int .u32 0, .bool false, .string ⟨#[]⟩, .int .u32 0, .int .i64 0] 32 (0, 0)) := hW0 ▸ heap_new w _
  have hl0 : w.heap.size < W0.heap.size := heap_lt h0
  have c1 := fun w => rwords_any s w hz
  have HZ : Hid (s.size ≤ 1000000) := hz
  have hbad := parseD_bad (s := s)
  have hmore := fun r L => parseD_more (s := s) (r := r) (L := L)
  have hall := fun r => parseD_all (s := s) (r := r)
  have hnone := parseRE_none (s := s)
  have hsome := fun r => parseRE_some (s := s) (r := r)
  obtain ⟨L0, hL0⟩ : ∃ L0, wordsB s = L0 := ⟨_, rfl⟩
  have HL0 : Hid _ := hL0
  generalize parseRE s = E at *
  generalize parseR s = R at *
  rw [hL0] at hbad hmore hall
  have HB : Hid (sRuleD L0 = none → R = none) := hbad
  have HM : Hid (∀ r L, sRuleD L0 = some (r, L) → L ≠ [] → R = none) := hmore
  have HC : Hid (∀ r, sRuleD L0 = some (r, []) → R = if isR r = true then some r else none) := hall
  have HN : Hid _ := hnone
  have HE : Hid (∀ r, R = some r → E = .returned (.tuple #[(.agg #[.bool r.pass, .bool r.ret, .bool r.quick, .string r.on, .int .i64 r.proto, .bool r.src.any, .string r.src.table, .int .u32 r.src.a, .int .i64 r.src.n, .int .i64 r.src.low, .int .i64 r.src.high, .bool r.dst.any, .string r.dst.table, .int .u32 r.dst.a, .int .i64 r.dst.n, .int .i64 r.dst.low, .int .i64 r.dst.high, .int .i64 r.set, .int .i64 r.mask, .int .i64 r.type, .bool r.keep, .bool r.rt.on, .string r.rt.iface, .int .u32 r.rt.gate, .bool r.rp.on, .string r.rp.iface, .int .u32 r.rp.gate, .int .i64 r.table]), .int .i64 0])) := hsome
  clear hbad hmore hall hnone hsome hL0 hz
  go_enter Tryz.func10, Tryz.ntmps10
  go_upto_region 2 with (go_at_call 21; refine (c1 _).mono ?_; rintro e w1 ⟨v, rfl, hown, hx1⟩; obtain ⟨va, vn, vc, rfl⟩ := owns_sl hown; clear c1)
  have hR0 := owns_reader hown HZ.out
  rw [HL0.out] at hR0
  have hx2 : Ext w (w1.alloc (.cells #[.slice va vn vc, .bool false] 56)) := (hx0.trans hx1).alloc _
  have hRr := (hx1.alloc (.cells #[.slice va vn vc, .bool false] 56)).heap h0
  have hqg : w1.heap.size < (w1.alloc (.cells #[.slice va vn vc, .bool false] 56)).heap.size := by simp
  have hW0q : W0.heap.size ≤ w1.heap.size := hx1.size
  generalize w1.alloc (.cells #[.slice va vn vc, .bool false] 56) = WA at *
  generalize w1.heap.size = q at *
  clear hown hx1 h0
  go_upto_region 3 with (refine wpl_store (by rfl) 32 _ _ rfl rfl 28 WA.heap.size #[.bool false, .bool false, .bool false, .string ⟨#[]⟩, .int .i64 0, .bool false, .string ⟨#[]⟩, .int .u32 0, .int .i64 0, .int .i64 0, .int .i64 0, .bool false, .string ⟨#[]⟩, .int .u32 0, .int .i64 0, .int .i64 0, .int .i64 0, .int .i64 0, .int .i64 0, .int .i64 (-1), .bool false, .bool false, .string ⟨#[]⟩, .int .u32 0, .bool false, .string ⟨#[]⟩, .int .u32 0, .int .i64 0] _ _ rfl rfl (heap_new WA _) rule_size rfl rfl (by simp [Value.oneCell']) ?_; intro W hy hG0)
  have hxz := (Ext.refl WA).alloc (.cells #[.bool false, .bool false, .bool false, .string ⟨#[]⟩, .int .i64 0, .bool false, .string ⟨#[]⟩, .int .u32 0, .int .i64 0, .int .i64 0, .int .i64 0, .bool false, .string ⟨#[]⟩, .int .u32 0, .int .i64 0, .int .i64 0, .int .i64 0, .int .i64 0, .int .i64 0, .int .i64 0, .bool false, .bool false, .string ⟨#[]⟩, .int .u32 0, .bool false, .string ⟨#[]⟩, .int .u32 0, .int .i64 0] 32)
  have hR : RAt W q L0 false := (hR0.later hxz).laterX hy hqg
  have hRb : W.heap[w.heap.size]? = some (.cells #[.bool false, .bool false, .bool false, .string ⟨#[]⟩, .int .i64 0, .bool false, .string ⟨#[]⟩, .int .u32 0, .int .i64 0, .int .i64 0, .int .i64 0, .bool false, .string ⟨#[]⟩, .int .u32 0, .int .i64 0, .int .i64 0, .int .i64 0, .int .i64 0, .int .i64 0, .int .i64 0, .bool false, .bool false, .string ⟨#[]⟩, .int .u32 0, .bool false, .string ⟨#[]⟩, .int .u32 0, .int .i64 0] 32 (0, 0)) := extX_heap hy (by omega) (hxz.heap hRr)
  have hxa : Ext w W := ExtX.ext (hx2.trans hxz) hy (by omega)
  have hwq : w.heap.size < q := by omega
  have hGs : WA.heap.size < W.heap.size := heap_lt hG0
  generalize WA.heap.size = g at *
  clear hxz hR0 hRr hx2 hy hW0q hx0 hl0
  have hpg : g ≠ q := Ne.symm (Nat.ne_of_lt hqg)
  have hpg' : q < g := hqg
  have HR : Hid (∀ w', Two q g W w' → w'.heap[w.heap.size]? = some (.cells #[.bool false, .bool false, .bool false, .string ⟨#[]⟩, .int .i64 0, .bool false, .string ⟨#[]⟩, .int .u32 0, .int .i64 0, .int .i64 0, .int .i64 0, .bool false, .string ⟨#[]⟩, .int .u32 0, .int .i64 0, .int .i64 0, .int .i64 0, .int .i64 0, .int .i64 0, .int .i64 0, .bool false, .bool false, .string ⟨#[]⟩, .int .u32 0, .bool false, .string ⟨#[]⟩, .int .u32 0, .int .i64 0] 32 (0, 0))) := fun w' hx => (hx.block _ (heap_lt hRb) (by omega) (by omega)).trans hRb
  have HX : Hid (∀ w' w5, Two q g W w' → ExtX w.heap.size w' w5 → Ext w w5) := fun w' w5 h1 h2 => ⟨h2.os.trans (h1.os.trans hxa.os), h2.tape.trans (h1.tape.trans hxa.tape), h2.output.trans (h1.output.trans hxa.output), Nat.le_trans hxa.size (Nat.le_trans h1.size h2.size), fun k hk => (h2.block k (Nat.lt_of_lt_of_le hk (Nat.le_trans hxa.size h1.size)) (by omega)).trans ((h1.block k (Nat.lt_of_lt_of_le hk hxa.size) (by omega) (by omega)).trans (hxa.block k hk))⟩
  have hT := Two.refl q g W
  have KG : Hid (W.heap[g]? = some (.cells #[.bool false, .bool false, .bool false, .string ⟨#[]⟩, .int .i64 0, .bool false, .string ⟨#[]⟩, .int .u32 0, .int .i64 0, .int .i64 0, .int .i64 0, .bool false, .string ⟨#[]⟩, .int .u32 0, .int .i64 0, .int .i64 0, .int .i64 0, .int .i64 0, .int .i64 0, .int .i64 (-1), .bool false, .bool false, .string ⟨#[]⟩, .int .u32 0, .bool false, .string ⟨#[]⟩, .int .u32 0, .int .i64 0] 32 (0, 0))) := hG0
  clear hxa hRb hG0 hGs hqg hwq
  -- WALK
  go_upto_block 0 with (go_at_call 25; refine (dnext_any q L0 false _ hR).mono ?_; rintro e v11 ⟨rfl, hRw, hy⟩; clear hR; have hR := hRw; clear hRw; have KG : Hid (v11.heap[g]? = some (.cells #[.bool false, .bool false, .bool false, .string ⟨#[]⟩, .int .i64 0, .bool false, .string ⟨#[]⟩, .int .u32 0, .int .i64 0, .int .i64 0, .int .i64 0, .bool false, .string ⟨#[]⟩, .int .u32 0, .int .i64 0, .int .i64 0, .int .i64 0, .int .i64 0, .int .i64 0, .int .i64 (-1), .bool false, .bool false, .string ⟨#[]⟩, .int .u32 0, .bool false, .string ⟨#[]⟩, .int .u32 0, .int .i64 0] 32 (0, 0))) := extX_heap hy hpg KG.out; replace hT := hT.one hy; clear hy)
  go_cut [] from 6 (fun wx => StpAt (sAct L0) false q g W okT (fun P0 => #[.bool P0, .bool false, .bool false, .string ⟨#[]⟩, .int .i64 0, .bool false, .string ⟨#[]⟩, .int .u32 0, .int .i64 0, .int .i64 0, .int .i64 0, .bool false, .string ⟨#[]⟩, .int .u32 0, .int .i64 0, .int .i64 0, .int .i64 0, .int .i64 0, .int .i64 0, .int .i64 (-1), .bool false, .bool false, .string ⟨#[]⟩, .int .u32 0, .bool false, .string ⟨#[]⟩, .int .u32 0, .int .i64 0]) wx)
  case first => as_aux_lemma =>
    have HS := act_stp (L := L0)
    have HM : Hid (L0.isEmpty = true → headW L0 = txt []) := headW_none
    generalize headW L0 = x at *
    generalize L0.isEmpty = em at *
    generalize L0.tail = M at *
    have HA : Hid ((x = tPass → Stp (sAct L0) false true false M) ∧ (x = tBlock → Stp (sAct L0) false false false M) ∧ (x ≠ tPass → x ≠ tBlock → Stp (sAct L0) false false true M)) := HS
    have e1 : (x.toList == [112, 97, 115, 115]) = decide (x = tPass) := by have := eqT x tPass; rwa [show tPass.toList = [112, 97, 115, 115] by rw [ByteArray.toList_eq]] at this
    have e2 : (x.toList == [98, 108, 111, 99, 107]) = decide (x = tBlock) := by have := eqT x tBlock; rwa [show tBlock.toList = [98, 108, 111, 99, 107] by rw [ByteArray.toList_eq]] at this
    clear HS
    by_cases hp : x = tPass
    · have hem : em = false := by
        cases em
        · rfl
        · have := HM.out rfl
          rw [hp] at this; exact absurd this (by decide)
      have HP : Hid _ := hp
      rw [decide_eq_true hp] at e1
      rw [decide_eq_false (by rw [hp]; decide)] at e2
      subst hem
      clear hp
      go_wp2_with (refine wpl_put (by rfl) 4 _ _ rfl rfl g 0 [.bool true] _ _ rfl rfl KG.out bool_size (Nat.le_of_ble_eq_true rfl) (by simp [Value.oneCell']) ?_; intro v12 hy ky; have KG : Hid (v12.heap[g]? = some (.cells #[.bool true, .bool false, .bool false, .string ⟨#[]⟩, .int .i64 0, .bool false, .string ⟨#[]⟩, .int .u32 0, .int .i64 0, .int .i64 0, .int .i64 0, .bool false, .string ⟨#[]⟩, .int .u32 0, .int .i64 0, .int .i64 0, .int .i64 0, .int .i64 0, .int .i64 0, .int .i64 (-1), .bool false, .bool false, .string ⟨#[]⟩, .int .u32 0, .bool false, .string ⟨#[]⟩, .int .u32 0, .int .i64 0] 32 (0, 0))) := ky; clear ky; replace hT := hT.two hy; replace hR := hR.laterX hy hpg'; clear hy)
      go_meet
      case rel => exact ⟨true, false, M, HA.out.1 HP.out, trivial, hR, hT, KG.out⟩
    rw [decide_eq_false hp] at e1
    by_cases hb : x = tBlock
    · have hem : em = false := by
        cases em
        · rfl
        · have := HM.out rfl
          rw [hb] at this; exact absurd this (by decide)
      have HP : Hid _ := hb
      rw [decide_eq_true hb] at e2
      subst hem
      clear hp hb
      go_wp2
      go_meet
      case rel => exact ⟨false, false, M, HA.out.2.1 HP.out, trivial, hR, hT, KG.out⟩
    · have HP : Hid (Stp (sAct L0) false false true M) := HA.out.2.2 hp hb
      rw [decide_eq_false hb] at e2
      obtain ⟨d1, f1⟩ := hR.cells
      generalize (false || em) = S at *
      clear hp hb HA HM
      go_wp2
      go_meet
      case rel => exact ⟨false, true, M, HP.out, trivial, RAt.bad hR true, hT.one (putX _ _ _ _), extX_heap (putX _ _ _ _) hpg KG.out⟩
  obtain ⟨pass, b2, L2, stc, okc, hRc, hTc, kgc⟩ := hcut
  have ST2 : Hid (Stp (sAct L0) false pass b2 L2) := stc
  clear stc okc hT hR KG
  have hT := hTc
  have hR := hRc
  have KG : Hid (wc.heap[g]? = some (.cells #[.bool pass, .bool false, .bool false, .string ⟨#[]⟩, .int .i64 0, .bool false, .string ⟨#[]⟩, .int .u32 0, .int .i64 0, .int .i64 0, .int .i64 0, .bool false, .string ⟨#[]⟩, .int .u32 0, .int .i64 0, .int .i64 0, .int .i64 0, .int .i64 0, .int .i64 0, .int .i64 (-1), .bool false, .bool false, .string ⟨#[]⟩, .int .u32 0, .bool false, .string ⟨#[]⟩, .int .u32 0, .int .i64 0] 32 (0, 0))) := kgc
  clear hTc hRc kgc
  have tok1 : Hid True := trivial
  have tok2 : Hid True := trivial
  go_upto_if 29 with (first
    | (go_at_call 26; clear tok1; refine (disA tReturn q L2 b2 _ hR).mono ?_; rintro e v13 ⟨ret, b3, L3, rfl, okw, stw, hRw, hy⟩; simp only [encB]; have ST3 : Hid (Stp (sWord tReturn L2) b2 ret b3 L3) := stw; clear okw stw hR; have hR := hRw; clear hRw; have KG : Hid (v13.heap[g]? = some (.cells #[.bool pass, .bool false, .bool false, .string ⟨#[]⟩, .int .i64 0, .bool false, .string ⟨#[]⟩, .int .u32 0, .int .i64 0, .int .i64 0, .int .i64 0, .bool false, .string ⟨#[]⟩, .int .u32 0, .int .i64 0, .int .i64 0, .int .i64 0, .int .i64 0, .int .i64 0, .int .i64 (-1), .bool false, .bool false, .string ⟨#[]⟩, .int .u32 0, .bool false, .string ⟨#[]⟩, .int .u32 0, .int .i64 0] 32 (0, 0))) := extX_heap hy hpg KG.out; replace hT := hT.one hy; clear hy)
    | (refine wpl_put (by rfl) 4 _ _ rfl rfl g 1 [.bool ret] _ _ rfl rfl KG.out bool_size (Nat.le_of_ble_eq_true rfl) (by simp [Value.oneCell']) ?_; intro v14 hy ky; have KG : Hid (v14.heap[g]? = some (.cells #[.bool pass, .bool ret, .bool false, .string ⟨#[]⟩, .int .i64 0, .bool false, .string ⟨#[]⟩, .int .u32 0, .int .i64 0, .int .i64 0, .int .i64 0, .bool false, .string ⟨#[]⟩, .int .u32 0, .int .i64 0, .int .i64 0, .int .i64 0, .int .i64 0, .int .i64 0, .int .i64 (-1), .bool false, .bool false, .string ⟨#[]⟩, .int .u32 0, .bool false, .string ⟨#[]⟩, .int .u32 0, .int .i64 0] 32 (0, 0))) := ky; clear ky; replace hT := hT.two hy; replace hR := hR.laterX hy hpg'; clear hy)
    | (go_at_call 26; clear tok2; refine (disA tQuick q L3 b3 _ hR).mono ?_; rintro e v15 ⟨quick, b4, L4, rfl, okw, stw, hRw, hy⟩; simp only [encB]; have ST4 : Hid (Stp (sWord tQuick L3) b3 quick b4 L4) := stw; clear okw stw hR; have hR := hRw; clear hRw; have KG : Hid (v15.heap[g]? = some (.cells #[.bool pass, .bool ret, .bool false, .string ⟨#[]⟩, .int .i64 0, .bool false, .string ⟨#[]⟩, .int .u32 0, .int .i64 0, .int .i64 0, .int .i64 0, .bool false, .string ⟨#[]⟩, .int .u32 0, .int .i64 0, .int .i64 0, .int .i64 0, .int .i64 0, .int .i64 0, .int .i64 (-1), .bool false, .bool false, .string ⟨#[]⟩, .int .u32 0, .bool false, .string ⟨#[]⟩, .int .u32 0, .int .i64 0] 32 (0, 0))) := extX_heap hy hpg KG.out; replace hT := hT.one hy; clear hy)
    | (refine wpl_put (by rfl) 4 _ _ rfl rfl g 2 [.bool quick] _ _ rfl rfl KG.out bool_size (Nat.le_of_ble_eq_true rfl) (by simp [Value.oneCell']) ?_; intro v16 hy ky; have KG : Hid (v16.heap[g]? = some (.cells #[.bool pass, .bool ret, .bool quick, .string ⟨#[]⟩, .int .i64 0, .bool false, .string ⟨#[]⟩, .int .u32 0, .int .i64 0, .int .i64 0, .int .i64 0, .bool false, .string ⟨#[]⟩, .int .u32 0, .int .i64 0, .int .i64 0, .int .i64 0, .int .i64 0, .int .i64 0, .int .i64 (-1), .bool false, .bool false, .string ⟨#[]⟩, .int .u32 0, .bool false, .string ⟨#[]⟩, .int .u32 0, .int .i64 0] 32 (0, 0))) := ky; clear ky; replace hT := hT.two hy; replace hR := hR.laterX hy hpg'; clear hy)
    | (go_at_call 26; refine (dis_any tOn q L4 b4 _ hR).mono ?_; rintro e v17 ⟨rfl, hRw, hy⟩; clear hR; have hR := hRw; clear hRw; obtain ⟨O, hO⟩ : ∃ O, isW tOn L4 = O := ⟨_, rfl⟩; rw [hO]; have HO : Hid (isW tOn L4 = O) := hO; clear hO; have KG : Hid (v17.heap[g]? = some (.cells #[.bool pass, .bool ret, .bool quick, .string ⟨#[]⟩, .int .i64 0, .bool false, .string ⟨#[]⟩, .int .u32 0, .int .i64 0, .int .i64 0, .int .i64 0, .bool false, .string ⟨#[]⟩, .int .u32 0, .int .i64 0, .int .i64 0, .int .i64 0, .int .i64 0, .int .i64 0, .int .i64 (-1), .bool false, .bool false, .string ⟨#[]⟩, .int .u32 0, .bool false, .string ⟨#[]⟩, .int .u32 0, .int .i64 0] 32 (0, 0))) := extX_heap hy hpg KG.out; replace hT := hT.one hy; clear hy))
  go_cut [] from 6 (fun wx => StpAt (sOnD L4) b4 q g W (fun v => v.size ≤ 1000000) (fun on => #[.bool pass, .bool ret, .bool quick, .string on, .int .i64 0, .bool false, .string ⟨#[]⟩, .int .u32 0, .int .i64 0, .int .i64 0, .int .i64 0, .bool false, .string ⟨#[]⟩, .int .u32 0, .int .i64 0, .int .i64 0, .int .i64 0, .int .i64 0, .int .i64 0, .int .i64 (-1), .bool false, .bool false, .string ⟨#[]⟩, .int .u32 0, .bool false, .string ⟨#[]⟩, .int .u32 0, .int .i64 0]) wx)
  case first => as_aux_lemma =>
    cases O
    · go_wp2
      go_meet
      case rel => exact ⟨txt [], b4, _, onD_no HO.out, by show (txt []).size ≤ 1000000; rw [txt_size]; simp, hR, hT, KG.out⟩
    · have HST : Hid (Stp (sOnD L4) b4 (headW (aftW tOn L4)) ((b4 || (aftW tOn L4).isEmpty) || decide (headW (aftW tOn L4) = txt [])) (aftW tOn L4).tail) := onD_yes (b := b4) HO.out
      have HX : Hid _ := rheadW_size hR
      have hm := headW_none (L := aftW tOn L4)
      go_upto_region 12 with (first
        | (go_at_call 25; refine (dnext_any q (aftW tOn L4) b4 _ hR).mono ?_; rintro e v18 ⟨rfl, hRw, hy⟩; clear hR; have hR := hRw; clear hRw; have KG : Hid (v18.heap[g]? = some (.cells #[.bool pass, .bool ret, .bool quick, .string ⟨#[]⟩, .int .i64 0, .bool false, .string ⟨#[]⟩, .int .u32 0, .int .i64 0, .int .i64 0, .int .i64 0, .bool false, .string ⟨#[]⟩, .int .u32 0, .int .i64 0, .int .i64 0, .int .i64 0, .int .i64 0, .int .i64 0, .int .i64 (-1), .bool false, .bool false, .string ⟨#[]⟩, .int .u32 0, .bool false, .string ⟨#[]⟩, .int .u32 0, .int .i64 0] 32 (0, 0))) := extX_heap hy hpg KG.out; replace hT := hT.one hy; clear hy)
        | (refine wpl_put (by rfl) 9 _ _ rfl rfl g 3 [.string (headW (aftW tOn L4))] _ _ rfl rfl KG.out text_size (Nat.le_of_ble_eq_true rfl) (by simp [Value.oneCell']) ?_; intro v19 hy ky; have KG : Hid (v19.heap[g]? = some (.cells #[.bool pass, .bool ret, .bool quick, .string (headW (aftW tOn L4)), .int .i64 0, .bool false, .string ⟨#[]⟩, .int .u32 0, .int .i64 0, .int .i64 0, .int .i64 0, .bool false, .string ⟨#[]⟩, .int .u32 0, .int .i64 0, .int .i64 0, .int .i64 0, .int .i64 0, .int .i64 0, .int .i64 (-1), .bool false, .bool false, .string ⟨#[]⟩, .int .u32 0, .bool false, .string ⟨#[]⟩, .int .u32 0, .int .i64 0] 32 (0, 0))) := ky; clear ky; replace hT := hT.two hy; replace hR := hR.laterX hy hpg'; clear hy))
      have kx : v19.cell? ⟨g, 3, none⟩ = some (.string (headW (aftW tOn L4))) := heap_cell KG.out
      have eqe := empT (headW (aftW tOn L4))
      obtain ⟨d1, f1⟩ := hR.cells
      generalize headW (aftW tOn L4) = x at *
      generalize (aftW tOn L4).isEmpty = em at *
      generalize (aftW tOn L4).tail = M at *
      generalize decide (x = txt []) = z at *
      obtain ⟨S, hS⟩ : ∃ S, (b4 || em) = S := ⟨_, rfl⟩
      rw [hS] at hR d1
      have HS : Hid ((b4 || em) = S) := hS
      have HR1 : Hid (RAt _ q M S) := hR
      clear hS hR hm
      cases S
      · go_wp2
        go_meet
        case rel => exact ⟨x, _, M, (by have := HST.out; rw [HS.out, Bool.false_or] at this; exact this), HX.out, RAt.bad HR1.out _, hT.one (putX _ _ _ _), extX_heap (putX _ _ _ _) hpg KG.out⟩
      · go_wp2
        go_meet
        case rel => exact ⟨x, _, M, (by have := HST.out; rw [HS.out, Bool.true_or] at this; exact this), HX.out, RAt.bad HR1.out _, hT.one (putX _ _ _ _), extX_heap (putX _ _ _ _) hpg KG.out⟩
  obtain ⟨on, b5, L5, stc, okc, hRc, hTc, kgc⟩ := hcut
  have ST5 : Hid (Stp (sOnD L4) b4 on b5 L5) := stc
  have OK5 : Hid (on.size ≤ 1000000) := okc
  clear stc okc hT hR KG HO
  have hT := hTc
  have hR := hRc
  have KG : Hid (wc.heap[g]? = some (.cells #[.bool pass, .bool ret, .bool quick, .string on, .int .i64 0, .bool false, .string ⟨#[]⟩, .int .u32 0, .int .i64 0, .int .i64 0, .int .i64 0, .bool false, .string ⟨#[]⟩, .int .u32 0, .int .i64 0, .int .i64 0, .int .i64 0, .int .i64 0, .int .i64 0, .int .i64 (-1), .bool false, .bool false, .string ⟨#[]⟩, .int .u32 0, .bool false, .string ⟨#[]⟩, .int .u32 0, .int .i64 0] 32 (0, 0))) := kgc
  clear hTc hRc kgc
  go_upto_if 46 with (go_at_call 26; refine (dis_any tProto q L5 b5 _ hR).mono ?_; rintro e v20 ⟨rfl, hRw, hy⟩; clear hR; have hR := hRw; clear hRw; obtain ⟨O, hO⟩ : ∃ O, isW tProto L5 = O := ⟨_, rfl⟩; rw [hO]; have HO : Hid (isW tProto L5 = O) := hO; clear hO; have KG : Hid (v20.heap[g]? = some (.cells #[.bool pass, .bool ret, .bool quick, .string on, .int .i64 0, .bool false, .string ⟨#[]⟩, .int .u32 0, .int .i64 0, .int .i64 0, .int .i64 0, .bool false, .string ⟨#[]⟩, .int .u32 0, .int .i64 0, .int .i64 0, .int .i64 0, .int .i64 0, .int .i64 0, .int .i64 (-1), .bool false, .bool false, .string ⟨#[]⟩, .int .u32 0, .bool false, .string ⟨#[]⟩, .int .u32 0, .int .i64 0] 32 (0, 0))) := extX_heap hy hpg KG.out; replace hT := hT.one hy; clear hy)
  go_cut [] from 6 (fun wx => StpAt (sProto L5) b5 q g W okT (fun proto => #[.bool pass, .bool ret, .bool quick, .string on, .int .i64 proto, .bool false, .string ⟨#[]⟩, .int .u32 0, .int .i64 0, .int .i64 0, .int .i64 0, .bool false, .string ⟨#[]⟩, .int .u32 0, .int .i64 0, .int .i64 0, .int .i64 0, .int .i64 0, .int .i64 0, .int .i64 (-1), .bool false, .bool false, .string ⟨#[]⟩, .int .u32 0, .bool false, .string ⟨#[]⟩, .int .u32 0, .int .i64 0]) wx)
  case first => as_aux_lemma =>
    cases O
    · go_wp2
      go_meet
      case rel => exact ⟨0, b5, _, proto_no HO.out, trivial, hR, hT, KG.out⟩
    · go_wp2_with (first
        | (go_at_call 27; refine (dproto_any q (aftW tProto L5) b5 _ hR).mono ?_; rintro e v21 ⟨pr, bp, Lp, rfl, _, stp, hRw, hy⟩; simp only [encI]; have STP : Hid (Stp (sProto L5) b5 pr bp Lp) := proto_yes HO.out stp; clear stp hR; have hR := hRw; clear hRw; have KG : Hid (v21.heap[g]? = some (.cells #[.bool pass, .bool ret, .bool quick, .string on, .int .i64 0, .bool false, .string ⟨#[]⟩, .int .u32 0, .int .i64 0, .int .i64 0, .int .i64 0, .bool false, .string ⟨#[]⟩, .int .u32 0, .int .i64 0, .int .i64 0, .int .i64 0, .int .i64 0, .int .i64 0, .int .i64 (-1), .bool false, .bool false, .string ⟨#[]⟩, .int .u32 0, .bool false, .string ⟨#[]⟩, .int .u32 0, .int .i64 0] 32 (0, 0))) := extX_heap hy hpg KG.out; replace hT := hT.one hy; clear hy)
        | (refine wpl_put (by rfl) 3 _ _ rfl rfl g 4 [.int .i64 pr] _ _ rfl rfl KG.out int_size (Nat.le_of_ble_eq_true rfl) (by simp [Value.oneCell']) ?_; intro v22 hy ky; have KG : Hid (v22.heap[g]? = some (.cells #[.bool pass, .bool ret, .bool quick, .string on, .int .i64 pr, .bool false, .string ⟨#[]⟩, .int .u32 0, .int .i64 0, .int .i64 0, .int .i64 0, .bool false, .string ⟨#[]⟩, .int .u32 0, .int .i64 0, .int .i64 0, .int .i64 0, .int .i64 0, .int .i64 0, .int .i64 (-1), .bool false, .bool false, .string ⟨#[]⟩, .int .u32 0, .bool false, .string ⟨#[]⟩, .int .u32 0, .int .i64 0] 32 (0, 0))) := ky; clear ky; replace hT := hT.two hy; replace hR := hR.laterX hy hpg'; clear hy))
      go_meet
      case rel => exact ⟨pr, _, _, STP.out, trivial, hR, hT, KG.out⟩
  obtain ⟨proto, b6, L6, stc, okc, hRc, hTc, kgc⟩ := hcut
  have ST6 : Hid (Stp (sProto L5) b5 proto b6 L6) := stc
  clear stc okc hT hR KG HO
  have hT := hTc
  have hR := hRc
  have KG : Hid (wc.heap[g]? = some (.cells #[.bool pass, .bool ret, .bool quick, .string on, .int .i64 proto, .bool false, .string ⟨#[]⟩, .int .u32 0, .int .i64 0, .int .i64 0, .int .i64 0, .bool false, .string ⟨#[]⟩, .int .u32 0, .int .i64 0, .int .i64 0, .int .i64 0, .int .i64 0, .int .i64 0, .int .i64 (-1), .bool false, .bool false, .string ⟨#[]⟩, .int .u32 0, .bool false, .string ⟨#[]⟩, .int .u32 0, .int .i64 0] 32 (0, 0))) := kgc
  clear hTc hRc kgc
  go_upto_region 15 with fail
  go_cut [] from 6 (fun wx => StpAt (sMust tFrom L6) b6 q g W okT (fun (_ : Unit) => #[.bool pass, .bool ret, .bool quick, .string on, .int .i64 proto, .bool false, .string ⟨#[]⟩, .int .u32 0, .int .i64 0, .int .i64 0, .int .i64 0, .bool false, .string ⟨#[]⟩, .int .u32 0, .int .i64 0, .int .i64 0, .int .i64 0, .int .i64 0, .int .i64 0, .int .i64 (-1), .bool false, .bool false, .string ⟨#[]⟩, .int .u32 0, .bool false, .string ⟨#[]⟩, .int .u32 0, .int .i64 0]) wx)
  case first => as_aux_lemma =>
    obtain ⟨O, hO⟩ : ∃ O, isW tFrom L6 = O := ⟨_, rfl⟩
    have c1 := dis_any tFrom q L6 b6 _ hR
    rw [hO] at c1
    have HO : Hid _ := hO
    clear hO hR
    cases O
    · go_wp2_with (go_at_call 26; refine c1.mono ?_; rintro e v23 ⟨rfl, hRw, hy⟩; clear c1; obtain ⟨d1, f1⟩ := hRw.cells; have HR1 : Hid (RAt v23 q _ _) := hRw; clear hRw; have KG : Hid (v23.heap[g]? = some (.cells #[.bool pass, .bool ret, .bool quick, .string on, .int .i64 proto, .bool false, .string ⟨#[]⟩, .int .u32 0, .int .i64 0, .int .i64 0, .int .i64 0, .bool false, .string ⟨#[]⟩, .int .u32 0, .int .i64 0, .int .i64 0, .int .i64 0, .int .i64 0, .int .i64 0, .int .i64 (-1), .bool false, .bool false, .string ⟨#[]⟩, .int .u32 0, .bool false, .string ⟨#[]⟩, .int .u32 0, .int .i64 0] 32 (0, 0))) := extX_heap hy hpg KG.out; replace hT := hT.one hy; clear hy)
      go_meet
      case rel => exact ⟨(), _, _, must_no HO.out, trivial, RAt.bad HR1.out _, hT.one (putX _ _ _ _), extX_heap (putX _ _ _ _) hpg KG.out⟩
    · go_wp2_with (go_at_call 26; refine c1.mono ?_; rintro e v24 ⟨rfl, hRw, hy⟩; clear c1; obtain ⟨d1, f1⟩ := hRw.cells; have HR1 : Hid (RAt v24 q _ _) := hRw; clear hRw; have KG : Hid (v24.heap[g]? = some (.cells #[.bool pass, .bool ret, .bool quick, .string on, .int .i64 proto, .bool false, .string ⟨#[]⟩, .int .u32 0, .int .i64 0, .int .i64 0, .int .i64 0, .bool false, .string ⟨#[]⟩, .int .u32 0, .int .i64 0, .int .i64 0, .int .i64 0, .int .i64 0, .int .i64 0, .int .i64 (-1), .bool false, .bool false, .string ⟨#[]⟩, .int .u32 0, .bool false, .string ⟨#[]⟩, .int .u32 0, .int .i64 0] 32 (0, 0))) := extX_heap hy hpg KG.out; replace hT := hT.one hy; clear hy)
      go_meet
      case rel => exact ⟨(), _, _, must_yes HO.out, trivial, RAt.bad HR1.out _, hT.one (putX _ _ _ _), extX_heap (putX _ _ _ _) hpg KG.out⟩
  obtain ⟨⟨⟩, b7, L7, stc, okc, hRc, hTc, kgc⟩ := hcut
  have ST7 : Hid (Stp (sMust tFrom L6) b6 () b7 L7) := stc
  clear stc okc hT hR KG
  have hT := hTc
  have hR := hRc
  have KG : Hid (wc.heap[g]? = some (.cells #[.bool pass, .bool ret, .bool quick, .string on, .int .i64 proto, .bool false, .string ⟨#[]⟩, .int .u32 0, .int .i64 0, .int .i64 0, .int .i64 0, .bool false, .string ⟨#[]⟩, .int .u32 0, .int .i64 0, .int .i64 0, .int .i64 0, .int .i64 0, .int .i64 0, .int .i64 (-1), .bool false, .bool false, .string ⟨#[]⟩, .int .u32 0, .bool false, .string ⟨#[]⟩, .int .u32 0, .int .i64 0] 32 (0, 0))) := kgc
  clear hTc hRc kgc
  go_upto_region 17 with (first
    | (go_at_call 28; refine (dend_any q L7 b7 _ hR).mono ?_; rintro e v25 ⟨⟨sany, stab, sa, sn, slo, shi⟩, b8, L8, rfl, okw, stw, hRw, hy⟩; dsimp only [encS]; have OK8 : Hid (SideOk ⟨sany, stab, sa, sn, slo, shi⟩) := okw; have ST8 : Hid (Stp (sEndP L7) b7 ⟨sany, stab, sa, sn, slo, shi⟩ b8 L8) := stw; clear okw stw hR; have hR := hRw; clear hRw; have KG : Hid (v25.heap[g]? = some (.cells #[.bool pass, .bool ret, .bool quick, .string on, .int .i64 proto, .bool false, .string ⟨#[]⟩, .int .u32 0, .int .i64 0, .int .i64 0, .int .i64 0, .bool false, .string ⟨#[]⟩, .int .u32 0, .int .i64 0, .int .i64 0, .int .i64 0, .int .i64 0, .int .i64 0, .int .i64 (-1), .bool false, .bool false, .string ⟨#[]⟩, .int .u32 0, .bool false, .string ⟨#[]⟩, .int .u32 0, .int .i64 0] 32 (0, 0))) := extX_heap hy hpg KG.out; replace hT := hT.one hy; clear hy)
    | (refine wpl_put (by rfl) 28 _ _ rfl rfl g 5 [.bool sany, .string stab, .int .u32 sa, .int .i64 sn, .int .i64 slo, .int .i64 shi] _ _ rfl rfl KG.out side_size (Nat.le_of_ble_eq_true rfl) (by simp [Value.oneCell']) ?_; intro v26 hy ky; have KG : Hid (v26.heap[g]? = some (.cells #[.bool pass, .bool ret, .bool quick, .string on, .int .i64 proto, .bool sany, .string stab, .int .u32 sa, .int .i64 sn, .int .i64 slo, .int .i64 shi, .bool false, .string ⟨#[]⟩, .int .u32 0, .int .i64 0, .int .i64 0, .int .i64 0, .int .i64 0, .int .i64 0, .int .i64 (-1), .bool false, .bool false, .string ⟨#[]⟩, .int .u32 0, .bool false, .string ⟨#[]⟩, .int .u32 0, .int .i64 0] 32 (0, 0))) := ky; clear ky; replace hT := hT.two hy; replace hR := hR.laterX hy hpg'; clear hy))
  skip
  go_cut [] from 6 (fun wx => StpAt (sMust tTo L8) b8 q g W okT (fun (_ : Unit) => #[.bool pass, .bool ret, .bool quick, .string on, .int .i64 proto, .bool sany, .string stab, .int .u32 sa, .int .i64 sn, .int .i64 slo, .int .i64 shi, .bool false, .string ⟨#[]⟩, .int .u32 0, .int .i64 0, .int .i64 0, .int .i64 0, .int .i64 0, .int .i64 0, .int .i64 (-1), .bool false, .bool false, .string ⟨#[]⟩, .int .u32 0, .bool false, .string ⟨#[]⟩, .int .u32 0, .int .i64 0]) wx)
  case first => as_aux_lemma =>
    obtain ⟨O, hO⟩ : ∃ O, isW tTo L8 = O := ⟨_, rfl⟩
    have c1 := dis_any tTo q L8 b8 _ hR
    rw [hO] at c1
    have HO : Hid _ := hO
    clear hO hR
    cases O
    · go_wp2_with (go_at_call 26; refine c1.mono ?_; rintro e v27 ⟨rfl, hRw, hy⟩; clear c1; obtain ⟨d1, f1⟩ := hRw.cells; have HR1 : Hid (RAt v27 q _ _) := hRw; clear hRw; have KG : Hid (v27.heap[g]? = some (.cells #[.bool pass, .bool ret, .bool quick, .string on, .int .i64 proto, .bool sany, .string stab, .int .u32 sa, .int .i64 sn, .int .i64 slo, .int .i64 shi, .bool false, .string ⟨#[]⟩, .int .u32 0, .int .i64 0, .int .i64 0, .int .i64 0, .int .i64 0, .int .i64 0, .int .i64 (-1), .bool false, .bool false, .string ⟨#[]⟩, .int .u32 0, .bool false, .string ⟨#[]⟩, .int .u32 0, .int .i64 0] 32 (0, 0))) := extX_heap hy hpg KG.out; replace hT := hT.one hy; clear hy)
      go_meet
      case rel => exact ⟨(), _, _, must_no HO.out, trivial, RAt.bad HR1.out _, hT.one (putX _ _ _ _), extX_heap (putX _ _ _ _) hpg KG.out⟩
    · go_wp2_with (go_at_call 26; refine c1.mono ?_; rintro e v28 ⟨rfl, hRw, hy⟩; clear c1; obtain ⟨d1, f1⟩ := hRw.cells; have HR1 : Hid (RAt v28 q _ _) := hRw; clear hRw; have KG : Hid (v28.heap[g]? = some (.cells #[.bool pass, .bool ret, .bool quick, .string on, .int .i64 proto, .bool sany, .string stab, .int .u32 sa, .int .i64 sn, .int .i64 slo, .int .i64 shi, .bool false, .string ⟨#[]⟩, .int .u32 0, .int .i64 0, .int .i64 0, .int .i64 0, .int .i64 0, .int .i64 0, .int .i64 (-1), .bool false, .bool false, .string ⟨#[]⟩, .int .u32 0, .bool false, .string ⟨#[]⟩, .int .u32 0, .int .i64 0] 32 (0, 0))) := extX_heap hy hpg KG.out; replace hT := hT.one hy; clear hy)
      go_meet
      case rel => exact ⟨(), _, _, must_yes HO.out, trivial, RAt.bad HR1.out _, hT.one (putX _ _ _ _), extX_heap (putX _ _ _ _) hpg KG.out⟩
  obtain ⟨⟨⟩, b9, L9, stc, okc, hRc, hTc, kgc⟩ := hcut
  have ST9 : Hid (Stp (sMust tTo L8) b8 () b9 L9) := stc
  clear stc okc hT hR KG
  have hT := hTc
  have hR := hRc
  have KG : Hid (wc.heap[g]? = some (.cells #[.bool pass, .bool ret, .bool quick, .string on, .int .i64 proto, .bool sany, .string stab, .int .u32 sa, .int .i64 sn, .int .i64 slo, .int .i64 shi, .bool false, .string ⟨#[]⟩, .int .u32 0, .int .i64 0, .int .i64 0, .int .i64 0, .int .i64 0, .int .i64 0, .int .i64 (-1), .bool false, .bool false, .string ⟨#[]⟩, .int .u32 0, .bool false, .string ⟨#[]⟩, .int .u32 0, .int .i64 0] 32 (0, 0))) := kgc
  clear hTc hRc kgc
  go_upto_if 81 with (first
    | (go_at_call 28; refine (dend_any q L9 b9 _ hR).mono ?_; rintro e v29 ⟨⟨dany, dtab, da, dn, dlo, dhi⟩, b10, L10, rfl, okw, stw, hRw, hy⟩; dsimp only [encS]; have OK10 : Hid (SideOk ⟨dany, dtab, da, dn, dlo, dhi⟩) := okw; have ST10 : Hid (Stp (sEndP L9) b9 ⟨dany, dtab, da, dn, dlo, dhi⟩ b10 L10) := stw; clear okw stw hR; have hR := hRw; clear hRw; have KG : Hid (v29.heap[g]? = some (.cells #[.bool pass, .bool ret, .bool quick, .string on, .int .i64 proto, .bool sany, .string stab, .int .u32 sa, .int .i64 sn, .int .i64 slo, .int .i64 shi, .bool false, .string ⟨#[]⟩, .int .u32 0, .int .i64 0, .int .i64 0, .int .i64 0, .int .i64 0, .int .i64 0, .int .i64 (-1), .bool false, .bool false, .string ⟨#[]⟩, .int .u32 0, .bool false, .string ⟨#[]⟩, .int .u32 0, .int .i64 0] 32 (0, 0))) := extX_heap hy hpg KG.out; replace hT := hT.one hy; clear hy)
    | (refine wpl_put (by rfl) 28 _ _ rfl rfl g 11 [.bool dany, .string dtab, .int .u32 da, .int .i64 dn, .int .i64 dlo, .int .i64 dhi] _ _ rfl rfl KG.out side_size (Nat.le_of_ble_eq_true rfl) (by simp [Value.oneCell']) ?_; intro v30 hy ky; have KG : Hid (v30.heap[g]? = some (.cells #[.bool pass, .bool ret, .bool quick, .string on, .int .i64 proto, .bool sany, .string stab, .int .u32 sa, .int .i64 sn, .int .i64 slo, .int .i64 shi, .bool dany, .string dtab, .int .u32 da, .int .i64 dn, .int .i64 dlo, .int .i64 dhi, .int .i64 0, .int .i64 0, .int .i64 (-1), .bool false, .bool false, .string ⟨#[]⟩, .int .u32 0, .bool false, .string ⟨#[]⟩, .int .u32 0, .int .i64 0] 32 (0, 0))) := ky; clear ky; replace hT := hT.two hy; replace hR := hR.laterX hy hpg'; clear hy)
    | (go_at_call 26; refine (dis_any tFlags q L10 b10 _ hR).mono ?_; rintro e v31 ⟨rfl, hRw, hy⟩; clear hR; have hR := hRw; clear hRw; obtain ⟨O, hO⟩ : ∃ O, isW tFlags L10 = O := ⟨_, rfl⟩; rw [hO]; have HO : Hid (isW tFlags L10 = O) := hO; clear hO; have KG : Hid (v31.heap[g]? = some (.cells #[.bool pass, .bool ret, .bool quick, .string on, .int .i64 proto, .bool sany, .string stab, .int .u32 sa, .int .i64 sn, .int .i64 slo, .int .i64 shi, .bool dany, .string dtab, .int .u32 da, .int .i64 dn, .int .i64 dlo, .int .i64 dhi, .int .i64 0, .int .i64 0, .int .i64 (-1), .bool false, .bool false, .string ⟨#[]⟩, .int .u32 0, .bool false, .string ⟨#[]⟩, .int .u32 0, .int .i64 0] 32 (0, 0))) := extX_heap hy hpg KG.out; replace hT := hT.one hy; clear hy))
  go_cut [] from 6 (fun wx => StpAt (sFlags L10) b10 q g W okF (fun (v : Int × Int) => #[.bool pass, .bool ret, .bool quick, .string on, .int .i64 proto, .bool sany, .string stab, .int .u32 sa, .int .i64 sn, .int .i64 slo, .int .i64 shi, .bool dany, .string dtab, .int .u32 da, .int .i64 dn, .int .i64 dlo, .int .i64 dhi, .int .i64 v.1, .int .i64 v.2, .int .i64 (-1), .bool false, .bool false, .string ⟨#[]⟩, .int .u32 0, .bool false, .string ⟨#[]⟩, .int .u32 0, .int .i64 0]) wx)
  case first => as_aux_lemma =>
    cases O
    · go_wp2
      go_meet
      case rel => exact ⟨(0, 0), b10, _, flags_no HO.out, ⟨⟨by decide, by decide⟩, by decide, by decide⟩, hR, hT, KG.out⟩
    · have HST : Hid (∀ (v : Int × Int) (b' : Bool), ((flagsOf (headW (aftW tFlags L10))).isSome = true → flagsOf (headW (aftW tFlags L10)) = some v) → b' = (b10 || !(flagsOf (headW (aftW tFlags L10))).isSome) → Stp (sFlags L10) b10 v b' (aftW tFlags L10).tail) := fun v b' => flags_yes (b := b10) (b' := b') (v := v) HO.out
      have hz := rheadW_size hR
      have hm := headW_none (L := aftW tFlags L10)
      have c5 := fun w => split_new (headW (aftW tFlags L10)) 47 w hz
      have hpt := fun w g (ht : Texts w g (splitL 47 (headW (aftW tFlags L10)).data.toList).length (splitL 47 (headW (aftW tFlags L10)).data.toList)) k hk => part_text (k := k) hz rfl ht hk
      have HF : Hid (∀ A B : ByteArray, splitL 47 (headW (aftW tFlags L10)).data.toList = [A.data.toList, B.data.toList] → flagsOf (headW (aftW tFlags L10)) = (lettersOf A.data.toList).bind fun s => (lettersOf B.data.toList).bind fun m => if m = 0 then none else some ((s : Int), (m : Int))) := fun A B => flagsOf_parts
      have HN : Hid ((splitL 47 (headW (aftW tFlags L10)).data.toList).length ≠ 2 → flagsOf (headW (aftW tFlags L10)) = none) := flagsOf_few
      have HM : Hid ((aftW tFlags L10).isEmpty = true → (flagsOf (headW (aftW tFlags L10))).isSome = false) := fun h => by rw [hm h, flags_nil]; rfl
      obtain ⟨P, hP⟩ : ∃ P, splitL 47 (headW (aftW tFlags L10)).data.toList = P := ⟨_, rfl⟩
      rw [hP] at c5 hpt HF HN
      clear hP hz hm
      generalize flagsOf (headW (aftW tFlags L10)) = R at *
      by_cases hl : P.length = 2
      · rw [hl] at c5 hpt
        have HL : Hid (P.length = 2) := hl
        clear hl HN
        go_upto_region 22 with (first
          | (go_at_call 25; refine (dnext_any q (aftW tFlags L10) b10 _ hR).mono ?_; rintro e v33 ⟨rfl, hRw, hy⟩; clear hR; have hR := hRw; clear hRw; have KG : Hid (v33.heap[g]? = some (.cells #[.bool pass, .bool ret, .bool quick, .string on, .int .i64 proto, .bool sany, .string stab, .int .u32 sa, .int .i64 sn, .int .i64 slo, .int .i64 shi, .bool dany, .string dtab, .int .u32 da, .int .i64 dn, .int .i64 dlo, .int .i64 dhi, .int .i64 0, .int .i64 0, .int .i64 (-1), .bool false, .bool false, .string ⟨#[]⟩, .int .u32 0, .bool false, .string ⟨#[]⟩, .int .u32 0, .int .i64 0] 32 (0, 0))) := extX_heap hy hpg KG.out; replace hT := hT.one hy; clear hy)
          | (go_at_call 29; refine (c5 _).mono ?_; rintro e v34 ⟨g2, cap, rfl, hg2, ht, hx3⟩; clear c5; have hgs : g < g2 := Nat.lt_of_lt_of_le (heap_lt KG.out) hg2; have hgq : g2 ≠ q := (by omega); have hgw : g2 ≠ g := (by omega); have hTX : Hid (Texts v34 g2 _ P) := ht; replace hR := hR.later hx3; have KG : Hid (v34.heap[g]? = some (.cells #[.bool pass, .bool ret, .bool quick, .string on, .int .i64 proto, .bool sany, .string stab, .int .u32 sa, .int .i64 sn, .int .i64 slo, .int .i64 shi, .bool dany, .string dtab, .int .u32 da, .int .i64 dn, .int .i64 dlo, .int .i64 dhi, .int .i64 0, .int .i64 0, .int .i64 (-1), .bool false, .bool false, .string ⟨#[]⟩, .int .u32 0, .bool false, .string ⟨#[]⟩, .int .u32 0, .int .i64 0] 32 (0, 0))) := Ext.heap hx3 KG.out; replace hT := hT.one (hx3.but q); clear hx3 ht hg2))
        obtain ⟨A, hA, hpA, hsA⟩ := hpt _ _ hTX.out 0 (by omega)
        obtain ⟨B, hB, hpB, hsB⟩ := hpt _ _ hTX.out 1 (by omega)
        have HFL : Hid _ := HF.out A B (list_two HL.out hpA hpB)
        clear hpt HF HL hpA hpB hTX
        generalize (aftW tFlags L10).isEmpty = em at *
        generalize (aftW tFlags L10).tail = M at *
        generalize headW (aftW tFlags L10) = x at *
        obtain ⟨S, hS⟩ : ∃ S, (b10 || em) = S := ⟨_, rfl⟩
        rw [hS] at hR
        have HS : Hid _ := hS
        clear hS hsA hsB
        have hxd : Ext v34 v34.drew := (Ext.refl _).drew
        replace hR := hR.later hxd
        have KG : Hid (v34.drew.heap[g]? = some (.cells #[.bool pass, .bool ret, .bool quick, .string on, .int .i64 proto, .bool sany, .string stab, .int .u32 sa, .int .i64 sn, .int .i64 slo, .int .i64 shi, .bool dany, .string dtab, .int .u32 da, .int .i64 dn, .int .i64 dlo, .int .i64 dhi, .int .i64 0, .int .i64 0, .int .i64 (-1), .bool false, .bool false, .string ⟨#[]⟩, .int .u32 0, .bool false, .string ⟨#[]⟩, .int .u32 0, .int .i64 0] 32 (0, 0))) := Ext.heap hxd KG.out
        replace hT := hT.one (hxd.but q)
        replace hA := (hxd.cell (block_lt hA)).trans hA
        replace hB := (hxd.cell (block_lt hB)).trans hB
        refine wp_region_eagerR (Two q g) (Two.refl q g) (fun _ _ _ h k => Two.trans h k) [(0, false), (1, false), (2, false), (3, false), (5, false), (6, false), (7, false), (8, false), (4, true), (10, false), (9, true), (11, true), (12, false), (13, true)] (by kernel_rfl) (by kernel_rfl) rfl (by kernel_rfl) (fun _ _ _ _ _ h => h) ?_
        generalize v34.drew = WD at *
        have hX : Two q g WD WD := Two.refl q g WD
        have yA : ∀ w', Two q g WD w' → w'.cell? ⟨g2, 0, none⟩ = some (.string A) := fun w' h => two_cell h hgq hgw hA
        have yB : ∀ w', Two q g WD w' → w'.cell? ⟨g2, 1, none⟩ = some (.string B) := fun w' h => two_cell h hgq hgw hB
        clear hA hB hxd
        iterate 8 (refine wpE_read (v := ?_) rfl (by rfl) ?_ ?_; rotate_left; (focus (intro w' hx; go_simp; first | done | with_reducible rfl)); simp only [Act.put, List.setIfInBounds_toArray, List.set_cons_zero, List.set_cons_succ])
        (refine wpE_call rfl (by rfl) (fun K hK => ?_); go_simp)
        go_at_call 30
        refine (dflags_any A q M S _ hR).mono ?_
        rintro e va ⟨n1, g1, rfl, hb1, hg1, hv1, hRa, hy⟩
        have KG : Hid (va.heap[g]? = some (.cells #[.bool pass, .bool ret, .bool quick, .string on, .int .i64 proto, .bool sany, .string stab, .int .u32 sa, .int .i64 sn, .int .i64 slo, .int .i64 shi, .bool dany, .string dtab, .int .u32 da, .int .i64 dn, .int .i64 dlo, .int .i64 dhi, .int .i64 0, .int .i64 0, .int .i64 (-1), .bool false, .bool false, .string ⟨#[]⟩, .int .u32 0, .bool false, .string ⟨#[]⟩, .int .u32 0, .int .i64 0] 32 (0, 0))) := extX_heap hy hpg KG.out
        replace hT := hT.one hy
        have hX1 : Two q g WD va := hX.one hy
        have H1 : Hid (n1 < 64 ∧ g1 = (lettersOf A.data.toList).isSome ∧ (g1 = true → lettersOf A.data.toList = some n1)) := ⟨hb1, hg1, hv1⟩
        refine hK _ _ (Two.refl q g WD |>.one hy) ?_
        clear hK K hb1 hg1 hv1 hy hR hX
        try simp only [Act.put, List.setIfInBounds_toArray, List.set_cons_zero, List.set_cons_succ]
        (refine wpE_read (v := ?_) rfl (by rfl) ?_ ?_; rotate_left; (focus (intro w' hx; go_simp; first | done | with_reducible rfl)); simp only [Act.put, List.setIfInBounds_toArray, List.set_cons_zero, List.set_cons_succ])
        (refine wpE_call rfl (by rfl) (fun K hK => ?_); go_simp)
        go_at_call 30
        refine (dflags_any B q M (S || !g1) _ hRa).mono ?_
        rintro e vb ⟨n2, g2', rfl, hb2, hg2, hv2, hRb, hy⟩
        have KG : Hid (vb.heap[g]? = some (.cells #[.bool pass, .bool ret, .bool quick, .string on, .int .i64 proto, .bool sany, .string stab, .int .u32 sa, .int .i64 sn, .int .i64 slo, .int .i64 shi, .bool dany, .string dtab, .int .u32 da, .int .i64 dn, .int .i64 dlo, .int .i64 dhi, .int .i64 0, .int .i64 0, .int .i64 (-1), .bool false, .bool false, .string ⟨#[]⟩, .int .u32 0, .bool false, .string ⟨#[]⟩, .int .u32 0, .int .i64 0] 32 (0, 0))) := extX_heap hy hpg KG.out
        replace hT := hT.one hy
        have H2 : Hid (n2 < 64 ∧ g2' = (lettersOf B.data.toList).isSome ∧ (g2' = true → lettersOf B.data.toList = some n2)) := ⟨hb2, hg2, hv2⟩
        refine hK _ _ (Two.refl q g va |>.one hy) ?_
        clear hK K hb2 hg2 hv2 hy hRa hX1
        try simp only [Act.put, List.setIfInBounds_toArray, List.set_cons_zero, List.set_cons_succ]
        refine wpE_call rfl (by rfl) (fun K hK => ?_)
        refine wp_put 3 _ _ rfl rfl g 17 [.int .i64 (n1 : Int)] _ _ rfl rfl KG.out int_size (Nat.le_of_ble_eq_true rfl) (by simp [Value.oneCell']) ?_
        intro vc hy ky
        have KG : Hid (vc.heap[g]? = some (.cells #[.bool pass, .bool ret, .bool quick, .string on, .int .i64 proto, .bool sany, .string stab, .int .u32 sa, .int .i64 sn, .int .i64 slo, .int .i64 shi, .bool dany, .string dtab, .int .u32 da, .int .i64 dn, .int .i64 dlo, .int .i64 dhi, .int .i64 (n1 : Int), .int .i64 0, .int .i64 (-1), .bool false, .bool false, .string ⟨#[]⟩, .int .u32 0, .bool false, .string ⟨#[]⟩, .int .u32 0, .int .i64 0] 32 (0, 0))) := ky
        clear ky
        refine hK _ _ ((Two.refl q g _).two hy) ?_
        replace hT := hT.two hy
        replace hRb := hRb.laterX hy hpg'
        clear hK K hy
        try simp only [Act.put, List.setIfInBounds_toArray, List.set_cons_zero, List.set_cons_succ]
        (refine wpE_read (v := ?_) rfl (by rfl) ?_ ?_; rotate_left; (focus (intro w' hx; go_simp; first | done | with_reducible rfl)); simp only [Act.put, List.setIfInBounds_toArray, List.set_cons_zero, List.set_cons_succ])
        refine wpE_call rfl (by rfl) (fun K hK => ?_)
        refine wp_put 3 _ _ rfl rfl g 18 [.int .i64 (n2 : Int)] _ _ rfl rfl KG.out int_size (Nat.le_of_ble_eq_true rfl) (by simp [Value.oneCell']) ?_
        intro vd hy ky
        have KG : Hid (vd.heap[g]? = some (.cells #[.bool pass, .bool ret, .bool quick, .string on, .int .i64 proto, .bool sany, .string stab, .int .u32 sa, .int .i64 sn, .int .i64 slo, .int .i64 shi, .bool dany, .string dtab, .int .u32 da, .int .i64 dn, .int .i64 dlo, .int .i64 dhi, .int .i64 (n1 : Int), .int .i64 (n2 : Int), .int .i64 (-1), .bool false, .bool false, .string ⟨#[]⟩, .int .u32 0, .bool false, .string ⟨#[]⟩, .int .u32 0, .int .i64 0] 32 (0, 0))) := ky
        clear ky
        refine hK _ _ ((Two.refl q g _).two hy) ?_
        replace hT := hT.two hy
        replace hRb := hRb.laterX hy hpg'
        clear hK K hy
        try simp only [Act.put, List.setIfInBounds_toArray, List.set_cons_zero, List.set_cons_succ]
        refine wpE_done ?_
        have km : vd.cell? ⟨g, 18, none⟩ = some (.int .i64 (n2 : Int)) := heap_cell KG.out
        have HB4 : Hid (okF ((n1 : Int), (n2 : Int))) := ⟨⟨by have := H1.out.1; dsimp only; omega, by have := H1.out.1; dsimp only; omega⟩, by have := H2.out.1; dsimp only; omega, by have := H2.out.1; dsimp only; omega⟩
        have hq := flags_ok H1.out.2.1 H2.out.2.1 H1.out.2.2 H2.out.2.2
        rw [← HFL.out] at hq
        obtain ⟨z, hz⟩ : ∃ z, ((n2 : Int) == 0) = z := ⟨_, rfl⟩
        rw [hz] at hq
        obtain ⟨S2, hS2⟩ : ∃ S2, ((S || !g1) || !g2') = S2 := ⟨_, rfl⟩
        rw [hS2] at hRb
        have HEND : Hid (Stp (sFlags L10) b10 ((n1 : Int), (n2 : Int)) (S2 || z) M) := by
          refine HST.out _ _ (fun h => hq.2 (hq.1.trans h)) ?_
          rw [← hS2, ← HS.out]
          exact bad_flags hq.1 HM.out
        obtain ⟨d1, f1⟩ := hRb.cells
        have HR1 : Hid (RAt vd q M S2) := hRb
        clear hS2 hRb hq HST HFL HM H1 H2 HS
        cases S2
        · go_wp2
          go_meet
          case rel => exact ⟨((n1 : Int), (n2 : Int)), _, M, (by have := HEND.out; rw [Bool.false_or] at this; exact this), HB4.out, RAt.bad HR1.out _, hT.one (putX _ _ _ _), extX_heap (putX _ _ _ _) hpg KG.out⟩
        · go_wp2
          go_meet
          case rel => exact ⟨((n1 : Int), (n2 : Int)), _, M, (by have := HEND.out; rw [Bool.true_or] at this; exact this), HB4.out, RAt.bad HR1.out _, hT.one (putX _ _ _ _), extX_heap (putX _ _ _ _) hpg KG.out⟩
      · have HR0 : Hid (R = none) := HN.out hl
        obtain ⟨m, hm⟩ : ∃ m, P.length = m := ⟨_, rfl⟩
        rw [hm] at c5 hl
        have hne : ((m : Int) == 2) = false := by rw [beq_eq_false_iff_ne]; omega
        clear HF HN hpt hm hl HM
        go_upto_region 23 with (first
          | (go_at_call 25; refine (dnext_any q (aftW tFlags L10) b10 _ hR).mono ?_; rintro e v36 ⟨rfl, hRw, hy⟩; clear hR; have hR := hRw; clear hRw; have KG : Hid (v36.heap[g]? = some (.cells #[.bool pass, .bool ret, .bool quick, .string on, .int .i64 proto, .bool sany, .string stab, .int .u32 sa, .int .i64 sn, .int .i64 slo, .int .i64 shi, .bool dany, .string dtab, .int .u32 da, .int .i64 dn, .int .i64 dlo, .int .i64 dhi, .int .i64 0, .int .i64 0, .int .i64 (-1), .bool false, .bool false, .string ⟨#[]⟩, .int .u32 0, .bool false, .string ⟨#[]⟩, .int .u32 0, .int .i64 0] 32 (0, 0))) := extX_heap hy hpg KG.out; replace hT := hT.one hy; clear hy)
          | (go_at_call 29; refine (c5 _).mono ?_; rintro e v35 ⟨g2, cap, rfl, hg2, ht, hx3⟩; clear c5; replace hR := hR.later hx3; have KG : Hid (v35.heap[g]? = some (.cells #[.bool pass, .bool ret, .bool quick, .string on, .int .i64 proto, .bool sany, .string stab, .int .u32 sa, .int .i64 sn, .int .i64 slo, .int .i64 shi, .bool dany, .string dtab, .int .u32 da, .int .i64 dn, .int .i64 dlo, .int .i64 dhi, .int .i64 0, .int .i64 0, .int .i64 (-1), .bool false, .bool false, .string ⟨#[]⟩, .int .u32 0, .bool false, .string ⟨#[]⟩, .int .u32 0, .int .i64 0] 32 (0, 0))) := Ext.heap hx3 KG.out; replace hT := hT.one (hx3.but q); clear hx3 ht hg2))
        have km : v35.cell? ⟨g, 18, none⟩ = some (.int .i64 0) := heap_cell KG.out
        have HEND : Hid (Stp (sFlags L10) b10 (0, 0) true (aftW tFlags L10).tail) := HST.out _ _ (fun h => by rw [HR0.out] at h; cases h) (by rw [HR0.out]; simp)
        generalize (aftW tFlags L10).isEmpty = em at *
        generalize (aftW tFlags L10).tail = M at *
        generalize headW (aftW tFlags L10) = x at *
        obtain ⟨S, hS⟩ : ∃ S, (b10 || em) = S := ⟨_, rfl⟩
        rw [hS] at hR
        clear hS
        obtain ⟨d1, f1⟩ := hR.cells
        have HR1 : Hid (RAt _ q M S) := hR
        clear hR HST HR0
        cases S
        · go_wp2
          go_meet
          case rel => exact ⟨(0, 0), _, M, HEND.out, ⟨⟨by decide, by decide⟩, by decide, by decide⟩, RAt.bad HR1.out _, hT.one (putX _ _ _ _), extX_heap (putX _ _ _ _) hpg KG.out⟩
        · go_wp2
          go_meet
          case rel => exact ⟨(0, 0), _, M, HEND.out, ⟨⟨by decide, by decide⟩, by decide, by decide⟩, RAt.bad HR1.out _, hT.one (putX _ _ _ _), extX_heap (putX _ _ _ _) hpg KG.out⟩
  obtain ⟨⟨set, mask⟩, b11, L11, stc, okc, hRc, hTc, kgc⟩ := hcut
  dsimp only at kgc
  have ST11 : Hid (Stp (sFlags L10) b10 (set, mask) b11 L11) := stc
  have OK11 : Hid (okF (set, mask)) := okc
  clear stc okc hT hR KG HO
  have hT := hTc
  have hR := hRc
  have KG : Hid (wc.heap[g]? = some (.cells #[.bool pass, .bool ret, .bool quick, .string on, .int .i64 proto, .bool sany, .string stab, .int .u32 sa, .int .i64 sn, .int .i64 slo, .int .i64 shi, .bool dany, .string dtab, .int .u32 da, .int .i64 dn, .int .i64 dlo, .int .i64 dhi, .int .i64 set, .int .i64 mask, .int .i64 (-1), .bool false, .bool false, .string ⟨#[]⟩, .int .u32 0, .bool false, .string ⟨#[]⟩, .int .u32 0, .int .i64 0] 32 (0, 0))) := kgc
  clear hTc hRc kgc
  go_upto_if 113 with (go_at_call 26; refine (dis_any tType q L11 b11 _ hR).mono ?_; rintro e v37 ⟨rfl, hRw, hy⟩; clear hR; have hR := hRw; clear hRw; obtain ⟨O, hO⟩ : ∃ O, isW tType L11 = O := ⟨_, rfl⟩; rw [hO]; have HO : Hid (isW tType L11 = O) := hO; clear hO; have KG : Hid (v37.heap[g]? = some (.cells #[.bool pass, .bool ret, .bool quick, .string on, .int .i64 proto, .bool sany, .string stab, .int .u32 sa, .int .i64 sn, .int .i64 slo, .int .i64 shi, .bool dany, .string dtab, .int .u32 da, .int .i64 dn, .int .i64 dlo, .int .i64 dhi, .int .i64 set, .int .i64 mask, .int .i64 (-1), .bool false, .bool false, .string ⟨#[]⟩, .int .u32 0, .bool false, .string ⟨#[]⟩, .int .u32 0, .int .i64 0] 32 (0, 0))) := extX_heap hy hpg KG.out; replace hT := hT.one hy; clear hy)
  go_cut [] from 6 (fun wx => StpAt (sNumber tType 0 255 (-1) L11) b11 q g W okT (fun type => #[.bool pass, .bool ret, .bool quick, .string on, .int .i64 proto, .bool sany, .string stab, .int .u32 sa, .int .i64 sn, .int .i64 slo, .int .i64 shi, .bool dany, .string dtab, .int .u32 da, .int .i64 dn, .int .i64 dlo, .int .i64 dhi, .int .i64 set, .int .i64 mask, .int .i64 type, .bool false, .bool false, .string ⟨#[]⟩, .int .u32 0, .bool false, .string ⟨#[]⟩, .int .u32 0, .int .i64 0]) wx)
  case first => as_aux_lemma =>
    cases O
    · go_wp2
      go_meet
      case rel => exact ⟨(-1), b11, _, number_no HO.out, trivial, hR, hT, KG.out⟩
    · have HZ : Hid _ := rheadW_size hR
      go_wp2_with (first
        | (go_at_call 25; refine (dnext_any q (aftW tType L11) b11 _ hR).mono ?_; rintro e v38 ⟨rfl, hRw, hy⟩; clear hR; have hR := hRw; clear hRw; have KG : Hid (v38.heap[g]? = some (.cells #[.bool pass, .bool ret, .bool quick, .string on, .int .i64 proto, .bool sany, .string stab, .int .u32 sa, .int .i64 sn, .int .i64 slo, .int .i64 shi, .bool dany, .string dtab, .int .u32 da, .int .i64 dn, .int .i64 dlo, .int .i64 dhi, .int .i64 set, .int .i64 mask, .int .i64 (-1), .bool false, .bool false, .string ⟨#[]⟩, .int .u32 0, .bool false, .string ⟨#[]⟩, .int .u32 0, .int .i64 0] 32 (0, 0))) := extX_heap hy hpg KG.out; replace hT := hT.one hy; clear hy)
        | (go_at_call 31; refine (dnum_any (headW (aftW tType L11)) 255 q (aftW tType L11).tail (b11 || (aftW tType L11).isEmpty) _ HZ.out (by decide) hR).mono ?_; rintro e v39 ⟨vn, rfl, hv, hRw, hy⟩; have HV : Hid (numB (headW (aftW tType L11)).data.toList 255 = true → vn = valT (headW (aftW tType L11))) := hv; clear hv hR; have hR := hRw; clear hRw; have KG : Hid (v39.heap[g]? = some (.cells #[.bool pass, .bool ret, .bool quick, .string on, .int .i64 proto, .bool sany, .string stab, .int .u32 sa, .int .i64 sn, .int .i64 slo, .int .i64 shi, .bool dany, .string dtab, .int .u32 da, .int .i64 dn, .int .i64 dlo, .int .i64 dhi, .int .i64 set, .int .i64 mask, .int .i64 (-1), .bool false, .bool false, .string ⟨#[]⟩, .int .u32 0, .bool false, .string ⟨#[]⟩, .int .u32 0, .int .i64 0] 32 (0, 0))) := extX_heap hy hpg KG.out; replace hT := hT.one hy; clear hy)
        | (refine wpl_put (by rfl) 3 _ _ rfl rfl g 19 [.int .i64 vn] _ _ rfl rfl KG.out int_size (Nat.le_of_ble_eq_true rfl) (by simp [Value.oneCell']) ?_; intro v40 hy ky; have KG : Hid (v40.heap[g]? = some (.cells #[.bool pass, .bool ret, .bool quick, .string on, .int .i64 proto, .bool sany, .string stab, .int .u32 sa, .int .i64 sn, .int .i64 slo, .int .i64 shi, .bool dany, .string dtab, .int .u32 da, .int .i64 dn, .int .i64 dlo, .int .i64 dhi, .int .i64 set, .int .i64 mask, .int .i64 vn, .bool false, .bool false, .string ⟨#[]⟩, .int .u32 0, .bool false, .string ⟨#[]⟩, .int .u32 0, .int .i64 0] 32 (0, 0))) := ky; clear ky; replace hT := hT.two hy; replace hR := hR.laterX hy hpg'; clear hy))
      go_meet
      case rel => exact ⟨vn, _, _, type_yes HO.out HV.out, trivial, hR, hT, KG.out⟩
  obtain ⟨type, b12, L12, stc, okc, hRc, hTc, kgc⟩ := hcut
  have ST12 : Hid (Stp (sNumber tType 0 255 (-1) L11) b11 type b12 L12) := stc
  clear stc okc hT hR KG HO
  have hT := hTc
  have hR := hRc
  have KG : Hid (wc.heap[g]? = some (.cells #[.bool pass, .bool ret, .bool quick, .string on, .int .i64 proto, .bool sany, .string stab, .int .u32 sa, .int .i64 sn, .int .i64 slo, .int .i64 shi, .bool dany, .string dtab, .int .u32 da, .int .i64 dn, .int .i64 dlo, .int .i64 dhi, .int .i64 set, .int .i64 mask, .int .i64 type, .bool false, .bool false, .string ⟨#[]⟩, .int .u32 0, .bool false, .string ⟨#[]⟩, .int .u32 0, .int .i64 0] 32 (0, 0))) := kgc
  clear hTc hRc kgc
  have tok1 : Hid True := trivial
  go_upto_if 123 with (first
    | (go_at_call 26; clear tok1; refine (disA tKeep q L12 b12 _ hR).mono ?_; rintro e v41 ⟨keep, b13, L13, rfl, okw, stw, hRw, hy⟩; simp only [encB]; have ST13 : Hid (Stp (sWord tKeep L12) b12 keep b13 L13) := stw; clear okw stw hR; have hR := hRw; clear hRw; have KG : Hid (v41.heap[g]? = some (.cells #[.bool pass, .bool ret, .bool quick, .string on, .int .i64 proto, .bool sany, .string stab, .int .u32 sa, .int .i64 sn, .int .i64 slo, .int .i64 shi, .bool dany, .string dtab, .int .u32 da, .int .i64 dn, .int .i64 dlo, .int .i64 dhi, .int .i64 set, .int .i64 mask, .int .i64 type, .bool false, .bool false, .string ⟨#[]⟩, .int .u32 0, .bool false, .string ⟨#[]⟩, .int .u32 0, .int .i64 0] 32 (0, 0))) := extX_heap hy hpg KG.out; replace hT := hT.one hy; clear hy)
    | (refine wpl_put (by rfl) 4 _ _ rfl rfl g 20 [.bool keep] _ _ rfl rfl KG.out bool_size (Nat.le_of_ble_eq_true rfl) (by simp [Value.oneCell']) ?_; intro v42 hy ky; have KG : Hid (v42.heap[g]? = some (.cells #[.bool pass, .bool ret, .bool quick, .string on, .int .i64 proto, .bool sany, .string stab, .int .u32 sa, .int .i64 sn, .int .i64 slo, .int .i64 shi, .bool dany, .string dtab, .int .u32 da, .int .i64 dn, .int .i64 dlo, .int .i64 dhi, .int .i64 set, .int .i64 mask, .int .i64 type, .bool keep, .bool false, .string ⟨#[]⟩, .int .u32 0, .bool false, .string ⟨#[]⟩, .int .u32 0, .int .i64 0] 32 (0, 0))) := ky; clear ky; replace hT := hT.two hy; replace hR := hR.laterX hy hpg'; clear hy)
    | (go_at_call 26; refine (dis_any tRouteTo q L13 b13 _ hR).mono ?_; rintro e v43 ⟨rfl, hRw, hy⟩; clear hR; have hR := hRw; clear hRw; obtain ⟨O, hO⟩ : ∃ O, isW tRouteTo L13 = O := ⟨_, rfl⟩; rw [hO]; have HO : Hid (isW tRouteTo L13 = O) := hO; clear hO; have KG : Hid (v43.heap[g]? = some (.cells #[.bool pass, .bool ret, .bool quick, .string on, .int .i64 proto, .bool sany, .string stab, .int .u32 sa, .int .i64 sn, .int .i64 slo, .int .i64 shi, .bool dany, .string dtab, .int .u32 da, .int .i64 dn, .int .i64 dlo, .int .i64 dhi, .int .i64 set, .int .i64 mask, .int .i64 type, .bool keep, .bool false, .string ⟨#[]⟩, .int .u32 0, .bool false, .string ⟨#[]⟩, .int .u32 0, .int .i64 0] 32 (0, 0))) := extX_heap hy hpg KG.out; replace hT := hT.one hy; clear hy))
  go_cut [] from 6 (fun wx => StpAt (sPinD tRouteTo L13) b13 q g W PinOk (fun (v : PinV) => #[.bool pass, .bool ret, .bool quick, .string on, .int .i64 proto, .bool sany, .string stab, .int .u32 sa, .int .i64 sn, .int .i64 slo, .int .i64 shi, .bool dany, .string dtab, .int .u32 da, .int .i64 dn, .int .i64 dlo, .int .i64 dhi, .int .i64 set, .int .i64 mask, .int .i64 type, .bool keep, .bool v.on, .string v.iface, .int .u32 v.gate, .bool false, .string ⟨#[]⟩, .int .u32 0, .int .i64 0]) wx)
  case first => as_aux_lemma =>
    cases O
    · go_wp2
      go_meet
      case rel => exact ⟨pin0, b13, _, pin_no HO.out, ⟨by show (txt []).size ≤ _; rw [txt_size]; simp, by decide, by decide⟩, hR, hT, KG.out⟩
    · go_wp2_with (first
        | (go_at_call 32; refine (dpin_any q (aftW tRouteTo L13) b13 _ hR).mono ?_; rintro e v44 ⟨⟨po, pi, pg⟩, bp, Lp, rfl, okp, stp, hRw, hy⟩; dsimp only [encN]; have STP : Hid (Stp (sPinD tRouteTo L13) b13 ⟨po, pi, pg⟩ bp Lp) := pinD_yes HO.out stp; have OKP : Hid (PinOk ⟨po, pi, pg⟩) := okp; clear stp okp hR; have hR := hRw; clear hRw; have KG : Hid (v44.heap[g]? = some (.cells #[.bool pass, .bool ret, .bool quick, .string on, .int .i64 proto, .bool sany, .string stab, .int .u32 sa, .int .i64 sn, .int .i64 slo, .int .i64 shi, .bool dany, .string dtab, .int .u32 da, .int .i64 dn, .int .i64 dlo, .int .i64 dhi, .int .i64 set, .int .i64 mask, .int .i64 type, .bool keep, .bool false, .string ⟨#[]⟩, .int .u32 0, .bool false, .string ⟨#[]⟩, .int .u32 0, .int .i64 0] 32 (0, 0))) := extX_heap hy hpg KG.out; replace hT := hT.one hy; clear hy)
        | (refine wpl_put (by rfl) 30 _ _ rfl rfl g 21 [.bool po, .string pi, .int .u32 pg] _ _ rfl rfl KG.out pin_size (Nat.le_of_ble_eq_true rfl) (by simp [Value.oneCell']) ?_; intro v45 hy ky; have KG : Hid (v45.heap[g]? = some (.cells #[.bool pass, .bool ret, .bool quick, .string on, .int .i64 proto, .bool sany, .string stab, .int .u32 sa, .int .i64 sn, .int .i64 slo, .int .i64 shi, .bool dany, .string dtab, .int .u32 da, .int .i64 dn, .int .i64 dlo, .int .i64 dhi, .int .i64 set, .int .i64 mask, .int .i64 type, .bool keep, .bool po, .string pi, .int .u32 pg, .bool false, .string ⟨#[]⟩, .int .u32 0, .int .i64 0] 32 (0, 0))) := ky; clear ky; replace hT := hT.two hy; replace hR := hR.laterX hy hpg'; clear hy))
      go_meet
      case rel => exact ⟨⟨po, pi, pg⟩, _, _, STP.out, OKP.out, hR, hT, KG.out⟩
  obtain ⟨⟨ton, tif, tg⟩, b14, L14, stc, okc, hRc, hTc, kgc⟩ := hcut
  dsimp only at kgc
  have ST14 : Hid (Stp (sPinD tRouteTo L13) b13 ⟨ton, tif, tg⟩ b14 L14) := stc
  have OK14 : Hid (PinOk ⟨ton, tif, tg⟩) := okc
  clear stc okc hT hR KG HO
  have hT := hTc
  have hR := hRc
  have KG : Hid (wc.heap[g]? = some (.cells #[.bool pass, .bool ret, .bool quick, .string on, .int .i64 proto, .bool sany, .string stab, .int .u32 sa, .int .i64 sn, .int .i64 slo, .int .i64 shi, .bool dany, .string dtab, .int .u32 da, .int .i64 dn, .int .i64 dlo, .int .i64 dhi, .int .i64 set, .int .i64 mask, .int .i64 type, .bool keep, .bool ton, .string tif, .int .u32 tg, .bool false, .string ⟨#[]⟩, .int .u32 0, .int .i64 0] 32 (0, 0))) := kgc
  clear hTc hRc kgc
  go_upto_if 128 with (go_at_call 26; refine (dis_any tReplyTo q L14 b14 _ hR).mono ?_; rintro e v46 ⟨rfl, hRw, hy⟩; clear hR; have hR := hRw; clear hRw; obtain ⟨O, hO⟩ : ∃ O, isW tReplyTo L14 = O := ⟨_, rfl⟩; rw [hO]; have HO : Hid (isW tReplyTo L14 = O) := hO; clear hO; have KG : Hid (v46.heap[g]? = some (.cells #[.bool pass, .bool ret, .bool quick, .string on, .int .i64 proto, .bool sany, .string stab, .int .u32 sa, .int .i64 sn, .int .i64 slo, .int .i64 shi, .bool dany, .string dtab, .int .u32 da, .int .i64 dn, .int .i64 dlo, .int .i64 dhi, .int .i64 set, .int .i64 mask, .int .i64 type, .bool keep, .bool ton, .string tif, .int .u32 tg, .bool false, .string ⟨#[]⟩, .int .u32 0, .int .i64 0] 32 (0, 0))) := extX_heap hy hpg KG.out; replace hT := hT.one hy; clear hy)
  go_cut [] from 6 (fun wx => StpAt (sPinD tReplyTo L14) b14 q g W PinOk (fun (v : PinV) => #[.bool pass, .bool ret, .bool quick, .string on, .int .i64 proto, .bool sany, .string stab, .int .u32 sa, .int .i64 sn, .int .i64 slo, .int .i64 shi, .bool dany, .string dtab, .int .u32 da, .int .i64 dn, .int .i64 dlo, .int .i64 dhi, .int .i64 set, .int .i64 mask, .int .i64 type, .bool keep, .bool ton, .string tif, .int .u32 tg, .bool v.on, .string v.iface, .int .u32 v.gate, .int .i64 0]) wx)
  case first => as_aux_lemma =>
    cases O
    · go_wp2
      go_meet
      case rel => exact ⟨pin0, b14, _, pin_no HO.out, ⟨by show (txt []).size ≤ _; rw [txt_size]; simp, by decide, by decide⟩, hR, hT, KG.out⟩
    · go_wp2_with (first
        | (go_at_call 32; refine (dpin_any q (aftW tReplyTo L14) b14 _ hR).mono ?_; rintro e v47 ⟨⟨po, pi, pg⟩, bp, Lp, rfl, okp, stp, hRw, hy⟩; dsimp only [encN]; have STP : Hid (Stp (sPinD tReplyTo L14) b14 ⟨po, pi, pg⟩ bp Lp) := pinD_yes HO.out stp; have OKP : Hid (PinOk ⟨po, pi, pg⟩) := okp; clear stp okp hR; have hR := hRw; clear hRw; have KG : Hid (v47.heap[g]? = some (.cells #[.bool pass, .bool ret, .bool quick, .string on, .int .i64 proto, .bool sany, .string stab, .int .u32 sa, .int .i64 sn, .int .i64 slo, .int .i64 shi, .bool dany, .string dtab, .int .u32 da, .int .i64 dn, .int .i64 dlo, .int .i64 dhi, .int .i64 set, .int .i64 mask, .int .i64 type, .bool keep, .bool ton, .string tif, .int .u32 tg, .bool false, .string ⟨#[]⟩, .int .u32 0, .int .i64 0] 32 (0, 0))) := extX_heap hy hpg KG.out; replace hT := hT.one hy; clear hy)
        | (refine wpl_put (by rfl) 30 _ _ rfl rfl g 24 [.bool po, .string pi, .int .u32 pg] _ _ rfl rfl KG.out pin_size (Nat.le_of_ble_eq_true rfl) (by simp [Value.oneCell']) ?_; intro v48 hy ky; have KG : Hid (v48.heap[g]? = some (.cells #[.bool pass, .bool ret, .bool quick, .string on, .int .i64 proto, .bool sany, .string stab, .int .u32 sa, .int .i64 sn, .int .i64 slo, .int .i64 shi, .bool dany, .string dtab, .int .u32 da, .int .i64 dn, .int .i64 dlo, .int .i64 dhi, .int .i64 set, .int .i64 mask, .int .i64 type, .bool keep, .bool ton, .string tif, .int .u32 tg, .bool po, .string pi, .int .u32 pg, .int .i64 0] 32 (0, 0))) := ky; clear ky; replace hT := hT.two hy; replace hR := hR.laterX hy hpg'; clear hy))
      go_meet
      case rel => exact ⟨⟨po, pi, pg⟩, _, _, STP.out, OKP.out, hR, hT, KG.out⟩
  obtain ⟨⟨pon, pif, pg⟩, b15, L15, stc, okc, hRc, hTc, kgc⟩ := hcut
  dsimp only at kgc
  have ST15 : Hid (Stp (sPinD tReplyTo L14) b14 ⟨pon, pif, pg⟩ b15 L15) := stc
  have OK15 : Hid (PinOk ⟨pon, pif, pg⟩) := okc
  clear stc okc hT hR KG HO
  have hT := hTc
  have hR := hRc
  have KG : Hid (wc.heap[g]? = some (.cells #[.bool pass, .bool ret, .bool quick, .string on, .int .i64 proto, .bool sany, .string stab, .int .u32 sa, .int .i64 sn, .int .i64 slo, .int .i64 shi, .bool dany, .string dtab, .int .u32 da, .int .i64 dn, .int .i64 dlo, .int .i64 dhi, .int .i64 set, .int .i64 mask, .int .i64 type, .bool keep, .bool ton, .string tif, .int .u32 tg, .bool pon, .string pif, .int .u32 pg, .int .i64 0] 32 (0, 0))) := kgc
  clear hTc hRc kgc
  go_upto_if 133 with (go_at_call 26; refine (dis_any tTable q L15 b15 _ hR).mono ?_; rintro e v49 ⟨rfl, hRw, hy⟩; clear hR; have hR := hRw; clear hRw; obtain ⟨O, hO⟩ : ∃ O, isW tTable L15 = O := ⟨_, rfl⟩; rw [hO]; have HO : Hid (isW tTable L15 = O) := hO; clear hO; have KG : Hid (v49.heap[g]? = some (.cells #[.bool pass, .bool ret, .bool quick, .string on, .int .i64 proto, .bool sany, .string stab, .int .u32 sa, .int .i64 sn, .int .i64 slo, .int .i64 shi, .bool dany, .string dtab, .int .u32 da, .int .i64 dn, .int .i64 dlo, .int .i64 dhi, .int .i64 set, .int .i64 mask, .int .i64 type, .bool keep, .bool ton, .string tif, .int .u32 tg, .bool pon, .string pif, .int .u32 pg, .int .i64 0] 32 (0, 0))) := extX_heap hy hpg KG.out; replace hT := hT.one hy; clear hy)
  go_cut [] from 6 (fun wx => StpAt (sNumber tTable 1 3 0 L15) b15 q g W okT (fun table => #[.bool pass, .bool ret, .bool quick, .string on, .int .i64 proto, .bool sany, .string stab, .int .u32 sa, .int .i64 sn, .int .i64 slo, .int .i64 shi, .bool dany, .string dtab, .int .u32 da, .int .i64 dn, .int .i64 dlo, .int .i64 dhi, .int .i64 set, .int .i64 mask, .int .i64 type, .bool keep, .bool ton, .string tif, .int .u32 tg, .bool pon, .string pif, .int .u32 pg, .int .i64 table]) wx)
  case first => as_aux_lemma =>
    cases O
    · go_wp2
      go_meet
      case rel => exact ⟨0, b15, _, number_no HO.out, trivial, hR, hT, KG.out⟩
    · have HZ : Hid _ := rheadW_size hR
      go_upto_region 33 with (first
        | (go_at_call 25; refine (dnext_any q (aftW tTable L15) b15 _ hR).mono ?_; rintro e v50 ⟨rfl, hRw, hy⟩; clear hR; have hR := hRw; clear hRw; have KG : Hid (v50.heap[g]? = some (.cells #[.bool pass, .bool ret, .bool quick, .string on, .int .i64 proto, .bool sany, .string stab, .int .u32 sa, .int .i64 sn, .int .i64 slo, .int .i64 shi, .bool dany, .string dtab, .int .u32 da, .int .i64 dn, .int .i64 dlo, .int .i64 dhi, .int .i64 set, .int .i64 mask, .int .i64 type, .bool keep, .bool ton, .string tif, .int .u32 tg, .bool pon, .string pif, .int .u32 pg, .int .i64 0] 32 (0, 0))) := extX_heap hy hpg KG.out; replace hT := hT.one hy; clear hy)
        | (go_at_call 31; refine (dnum_any (headW (aftW tTable L15)) 3 q (aftW tTable L15).tail (b15 || (aftW tTable L15).isEmpty) _ HZ.out (by decide) hR).mono ?_; rintro e v51 ⟨vn, rfl, hv, hRw, hy⟩; have HV : Hid (numB (headW (aftW tTable L15)).data.toList 3 = true → vn = valT (headW (aftW tTable L15))) := hv; clear hv hR; have hR := hRw; clear hRw; have KG : Hid (v51.heap[g]? = some (.cells #[.bool pass, .bool ret, .bool quick, .string on, .int .i64 proto, .bool sany, .string stab, .int .u32 sa, .int .i64 sn, .int .i64 slo, .int .i64 shi, .bool dany, .string dtab, .int .u32 da, .int .i64 dn, .int .i64 dlo, .int .i64 dhi, .int .i64 set, .int .i64 mask, .int .i64 type, .bool keep, .bool ton, .string tif, .int .u32 tg, .bool pon, .string pif, .int .u32 pg, .int .i64 0] 32 (0, 0))) := extX_heap hy hpg KG.out; replace hT := hT.one hy; clear hy)
        | (refine wpl_put (by rfl) 3 _ _ rfl rfl g 27 [.int .i64 vn] _ _ rfl rfl KG.out int_size (Nat.le_of_ble_eq_true rfl) (by simp [Value.oneCell']) ?_; intro v52 hy ky; have KG : Hid (v52.heap[g]? = some (.cells #[.bool pass, .bool ret, .bool quick, .string on, .int .i64 proto, .bool sany, .string stab, .int .u32 sa, .int .i64 sn, .int .i64 slo, .int .i64 shi, .bool dany, .string dtab, .int .u32 da, .int .i64 dn, .int .i64 dlo, .int .i64 dhi, .int .i64 set, .int .i64 mask, .int .i64 type, .bool keep, .bool ton, .string tif, .int .u32 tg, .bool pon, .string pif, .int .u32 pg, .int .i64 vn] 32 (0, 0))) := ky; clear ky; replace hT := hT.two hy; replace hR := hR.laterX hy hpg'; clear hy))
      have kt : v52.cell? ⟨g, 27, none⟩ = some (.int .i64 vn) := heap_cell KG.out
      have HEND : Hid (Stp (sNumber tTable 1 3 0 L15) b15 vn (((b15 || (aftW tTable L15).isEmpty) || !numB (headW (aftW tTable L15)).data.toList 3) || (vn == 0)) (aftW tTable L15).tail) := table_yes (b := b15) HO.out HV.out
      generalize (aftW tTable L15).tail = M at *
      obtain ⟨S, hS⟩ : ∃ S, ((b15 || (aftW tTable L15).isEmpty) || !numB (headW (aftW tTable L15)).data.toList 3) = S := ⟨_, rfl⟩
      rw [hS] at hR HEND
      obtain ⟨d1, f1⟩ := hR.cells
      have HR1 : Hid (RAt _ q M S) := hR
      clear hS hR HV HZ
      generalize (aftW tTable L15).isEmpty = em at *
      generalize headW (aftW tTable L15) = x at *
      cases S
      · go_wp2
        go_meet
        case rel => exact ⟨vn, _, M, (by have := HEND.out; rw [Bool.false_or] at this; exact this), trivial, RAt.bad HR1.out _, hT.one (putX _ _ _ _), extX_heap (putX _ _ _ _) hpg KG.out⟩
      · go_wp2
        go_meet
        case rel => exact ⟨vn, _, M, (by have := HEND.out; rw [Bool.true_or] at this; exact this), trivial, RAt.bad HR1.out _, hT.one (putX _ _ _ _), extX_heap (putX _ _ _ _) hpg KG.out⟩
  obtain ⟨table, b16, L16, stc, okc, hRc, hTc, kgc⟩ := hcut
  have ST16 : Hid (Stp (sNumber tTable 1 3 0 L15) b15 table b16 L16) := stc
  clear stc okc hT hR KG HO
  have hT := hTc
  have hR := hRc
  have KG : Hid (wc.heap[g]? = some (.cells #[.bool pass, .bool ret, .bool quick, .string on, .int .i64 proto, .bool sany, .string stab, .int .u32 sa, .int .i64 sn, .int .i64 slo, .int .i64 shi, .bool dany, .string dtab, .int .u32 da, .int .i64 dn, .int .i64 dlo, .int .i64 dhi, .int .i64 set, .int .i64 mask, .int .i64 type, .bool keep, .bool ton, .string tif, .int .u32 tg, .bool pon, .string pif, .int .u32 pg, .int .i64 table] 32 (0, 0))) := kgc
  clear hTc hRc kgc
  have HST : Hid (Stp (sRuleD L0) false ⟨pass, ret, quick, on, proto, ⟨sany, stab, sa, sn, slo, shi⟩, ⟨dany, dtab, da, dn, dlo, dhi⟩, set, mask, type, keep, ⟨ton, tif, tg⟩, ⟨pon, pif, pg⟩, table⟩ b16 L16) := Stp.bind ST2.out (Stp.bind ST3.out (Stp.bind ST4.out (Stp.bind ST5.out (Stp.bind ST6.out (Stp.bind ST7.out (Stp.bind ST8.out (Stp.bind ST9.out (Stp.bind ST10.out (Stp.bind ST11.out (Stp.bind ST12.out (Stp.bind ST13.out (Stp.bind ST14.out (Stp.bind ST15.out (Stp.bind ST16.out Stp.some))))))))))))))
  have HOK : Hid (RuleOk ⟨pass, ret, quick, on, proto, ⟨sany, stab, sa, sn, slo, shi⟩, ⟨dany, dtab, da, dn, dlo, dhi⟩, set, mask, type, keep, ⟨ton, tif, tg⟩, ⟨pon, pif, pg⟩, table⟩) := ⟨Nat.le_trans OK5.out (by decide), by have := OK11.out.1.1; dsimp only at *; omega, by have := OK11.out.1.2; dsimp only at *; omega, OK8.out, OK10.out, OK14.out, OK15.out⟩
  have KR : Hid _ := HR.out _ hT
  have HXX : Hid _ := fun w5 h => HX.out _ w5 hT h
  obtain ⟨a, m, c, hh, hm, _⟩ := hR
  obtain ⟨d0, d1, f0, f1⟩ := cells_two' hh
  clear ST2 ST3 ST4 ST5 ST6 ST7 ST8 ST9 ST10 ST11 ST12 ST13 ST14 ST15 ST16 OK5 OK8 OK10 OK11 OK14 OK15 hh HR HX
  cases b16 with
  | true =>
    obtain rfl := HN.out (HB.out (Stp.bad HST.out))
    clear hm
    go_wp2_with (refine wpl_store (by rfl) 32 _ _ rfl rfl 28 w.heap.size #[.bool rule0.pass, .bool rule0.ret, .bool rule0.quick, .string rule0.on, .int .i64 rule0.proto, .bool rule0.src.any, .string rule0.src.table, .int .u32 rule0.src.a, .int .i64 rule0.src.n, .int .i64 rule0.src.low, .int .i64 rule0.src.high, .bool rule0.dst.any, .string rule0.dst.table, .int .u32 rule0.dst.a, .int .i64 rule0.dst.n, .int .i64 rule0.dst.low, .int .i64 rule0.dst.high, .int .i64 rule0.set, .int .i64 rule0.mask, .int .i64 rule0.type, .bool rule0.keep, .bool rule0.rt.on, .string rule0.rt.iface, .int .u32 rule0.rt.gate, .bool rule0.rp.on, .string rule0.rp.iface, .int .u32 rule0.rp.gate, .int .i64 rule0.table] _ _ rfl rfl KR.out rule_size rfl rfl (by simp [Value.oneCell']) ?_; intro w5 hx5 k5)
    exact bodyPost_ret (results_two Tryz.results10 _ rfl k5 Tryz.underlying32 rfl rule_size) rfl ⟨rfl, HXX.out _ hx5⟩
  | false =>
    have hgood := (Stp.good HST.out).2
    cases L16 with
    | cons x M =>
      obtain rfl := HN.out (HM.out _ _ hgood (by simp))
      have hm0 : (0 : Int) < (m : Int) := by rw [hm]; simp
      clear hm
      go_wp2_with (refine wpl_store (by rfl) 32 _ _ rfl rfl 28 w.heap.size #[.bool rule0.pass, .bool rule0.ret, .bool rule0.quick, .string rule0.on, .int .i64 rule0.proto, .bool rule0.src.any, .string rule0.src.table, .int .u32 rule0.src.a, .int .i64 rule0.src.n, .int .i64 rule0.src.low, .int .i64 rule0.src.high, .bool rule0.dst.any, .string rule0.dst.table, .int .u32 rule0.dst.a, .int .i64 rule0.dst.n, .int .i64 rule0.dst.low, .int .i64 rule0.dst.high, .int .i64 rule0.set, .int .i64 rule0.mask, .int .i64 rule0.type, .bool rule0.keep, .bool rule0.rt.on, .string rule0.rt.iface, .int .u32 rule0.rt.gate, .bool rule0.rp.on, .string rule0.rp.iface, .int .u32 rule0.rp.gate, .int .i64 rule0.table] _ _ rfl rfl KR.out rule_size rfl rfl (by simp [Value.oneCell']) ?_; intro w5 hx5 k5)
      exact bodyPost_ret (results_two Tryz.results10 _ rfl k5 Tryz.underlying32 rfl rule_size) rfl ⟨rfl, HXX.out _ hx5⟩
    | nil =>
      obtain rfl : m = 0 := hm
      have hRR := HC.out _ hgood
      have c3 := fun w => refIsRule_any ⟨pass, ret, quick, on, proto, ⟨sany, stab, sa, sn, slo, shi⟩, ⟨dany, dtab, da, dn, dlo, dhi⟩, set, mask, type, keep, ⟨ton, tif, tg⟩, ⟨pon, pif, pg⟩, table⟩ w HOK.out
      cases hg : isR ⟨pass, ret, quick, on, proto, ⟨sany, stab, sa, sn, slo, shi⟩, ⟨dany, dtab, da, dn, dlo, dhi⟩, set, mask, type, keep, ⟨ton, tif, tg⟩, ⟨pon, pif, pg⟩, table⟩ with
      | false =>
        rw [hg] at hRR c3
        obtain rfl := HN.out hRR
        clear hg hRR hgood
        go_wp2_with (first
          | (refine wpl_load (by rfl) 32 _ rfl g _ _ _ rfl KG.out Tryz.underlying32 rfl rule_size ?_)
          | (go_at_call 19; refine (c3 _).mono ?_; rintro e w4 ⟨rfl, hx6⟩; replace KR := hx6.heap KR.out; have KR2 : Hid _ := KR)
          | (refine wpl_store (by rfl) 32 _ _ rfl rfl 28 w.heap.size #[.bool rule0.pass, .bool rule0.ret, .bool rule0.quick, .string rule0.on, .int .i64 rule0.proto, .bool rule0.src.any, .string rule0.src.table, .int .u32 rule0.src.a, .int .i64 rule0.src.n, .int .i64 rule0.src.low, .int .i64 rule0.src.high, .bool rule0.dst.any, .string rule0.dst.table, .int .u32 rule0.dst.a, .int .i64 rule0.dst.n, .int .i64 rule0.dst.low, .int .i64 rule0.dst.high, .int .i64 rule0.set, .int .i64 rule0.mask, .int .i64 rule0.type, .bool rule0.keep, .bool rule0.rt.on, .string rule0.rt.iface, .int .u32 rule0.rt.gate, .bool rule0.rp.on, .string rule0.rp.iface, .int .u32 rule0.rp.gate, .int .i64 rule0.table] _ _ rfl rfl KR2.out rule_size rfl rfl (by simp [Value.oneCell']) ?_; intro w5 hx5 k5))
        exact bodyPost_ret (results_two Tryz.results10 _ rfl k5 Tryz.underlying32 rfl rule_size) rfl ⟨rfl, HXX.out _ ((hx6.but _).trans hx5)⟩
      | true =>
        rw [hg] at hRR c3
        obtain rfl := HE.out _ hRR
        clear hg hRR hgood
        go_wp2_with (first
          | (refine wpl_load (by rfl) 32 _ rfl g _ _ _ rfl KG.out Tryz.underlying32 rfl rule_size ?_)
          | (go_at_call 19; refine (c3 _).mono ?_; rintro e w4 ⟨rfl, hx6⟩; replace KR := hx6.heap KR.out; have KR2 : Hid _ := KR; have K4 : Hid _ := hx6.heap KG.out)
          | (refine wpl_load (by rfl) 32 _ rfl g _ _ _ rfl K4.out Tryz.underlying32 rfl rule_size ?_)
          | (refine wpl_store (by rfl) 32 _ _ rfl rfl 28 w.heap.size #[.bool pass, .bool ret, .bool quick, .string on, .int .i64 proto, .bool sany, .string stab, .int .u32 sa, .int .i64 sn, .int .i64 slo, .int .i64 shi, .bool dany, .string dtab, .int .u32 da, .int .i64 dn, .int .i64 dlo, .int .i64 dhi, .int .i64 set, .int .i64 mask, .int .i64 type, .bool keep, .bool ton, .string tif, .int .u32 tg, .bool pon, .string pif, .int .u32 pg, .int .i64 table] _ _ rfl rfl KR2.out rule_size rfl rfl (by simp [Value.oneCell']) ?_; intro w5 hx5 k5))
        exact bodyPost_ret (results_two Tryz.results10 _ rfl k5 Tryz.underlying32 rfl rule_size) rfl ⟨rfl, HXX.out _ ((hx6.but _).trans hx5)⟩
end Go.Proofs.YtbmmgjmmooakpaaGreatDoor.Ru
