/- RvE, RvF: in one text. -/
import Derived.Test.YtbmmgjmmooakpaaGreatDoorRuP6
import Derived.Test.YtbmmgjmmooakpaaGreatDoorRu5
import Derived.Test.YtbmmgjmmooakpaaGreatDoorRefP
import Derived.Deep.Cut
import Derived.Deep.CutBlock
namespace Go.Proofs.YtbmmgjmmooakpaaGreatDoor.Ru
open Go.RowKit
set_option linter.unusedVariables false
set_option maxRecDepth 100000

/-- A text, and words behind it. -/
def catW (S : ByteArray) (L : WL) : ByteArray := txt (S.data.toList ++ Lib.joinTail [32] (L.map (·.data.toList)))

theorem catW_list (S : ByteArray) (L : WL) : (catW S L).data.toList = S.data.toList ++ Lib.joinTail [32] (L.map (·.data.toList)) := list_txt _

theorem catW_nil (S : ByteArray) : catW S [] = S := by
  apply list_inj; rw [catW_list]; simp [Lib.joinTail]

theorem catW_append (S : ByteArray) (A B : WL) : catW S (A ++ B) = catW (catW S A) B := by
  apply list_inj; rw [catW_list, catW_list, catW_list]; simp [Lib.joinTail, List.append_assoc]

theorem printR_cat (r : RuleV) : printR r = catW (actT r) (tl12 r) := by
  unfold printR ruleW catW
  rw [List.map_cons, Lib.join_cons]

theorem catW_size (S : ByteArray) (L : WL) (n : Nat) (h : ∀ x ∈ L, x.size ≤ n) : (catW S L).size ≤ S.size + L.length * (n + 1) := by
  unfold catW
  rw [txt_size, List.length_append, text_len]
  induction L with
  | nil => simp [Lib.joinTail]
  | cons x L ih =>
    have h1 := h x (by simp)
    have h2 := ih (fun y hy => h y (by simp [hy]))
    simp only [Lib.joinTail, List.map_cons, List.flatten_cons, List.length_append, List.length_cons, List.length_nil, text_len] at h2 ⊢
    rw [Nat.add_mul]
    omega

/-- A text that is another, and words behind it. -/
theorem cat_is {X S : ByteArray} {L : WL} (h : X.data.toList = S.data.toList ++ Lib.joinTail [32] (L.map (·.data.toList))) : X = catW S L := by
  apply list_inj; rw [h, catW_list]

def endD (s : SideV) : ByteArray := catW (endT s) (optW (!allB s) [tPort, portsT s])

theorem endD_size {s : SideV} (h1 : endB s = true) (h2 : portsB s = true) : (endD s).size ≤ 200 := by
  have z1 := (end_word h1).2.2
  have h := catW_size (endT s) (optW (!allB s) [tPort, portsT s]) 40 (fun x hx => by
    have := (mem_opt hx).1
    simp only [List.mem_cons, List.not_mem_nil, or_false] at this
    rcases this with rfl | rfl
    · decide
    · exact (ports_word h2).2.2)
  have h3 := opt_len (!allB s) [tPort, portsT s]
  simp only [List.length_cons, List.length_nil] at h3
  unfold endD
  have h4 : (optW (!allB s) [tPort, portsT s]).length * (40 + 1) ≤ 2 * (40 + 1) := Nat.mul_le_mul_right _ h3
  omega

set_option maxHeartbeats 1000000 in
theorem refEnd_any (s : SideV) (w : World) (h1 : endB s = true) (h2 : portsB s = true) (hs : SideOk s) :
    Calls Tryz.prog 42 #[(.agg #[.bool s.any, .string s.table, .int .u32 s.a, .int .i64 s.n, .int .i64 s.low, .int .i64 s.high])] w fun e w' => e = .returned (.string (endD s)) ∧ Ext w w' := by
  have zT := (end_word h1).2.2
  have hp : 0 ≤ s.low ∧ s.low ≤ 65535 ∧ 0 ≤ s.high ∧ s.high ≤ 65535 := by
    unfold portsB inB at h2; simp only [Bool.and_eq_true, decide_eq_true_eq] at h2; omega
  have c1 := fun w => refPrintPrefix_any s.a s.n w hs.a0 hs.a1
  have c2 := fun w => refAll_any s w
  have c3 := fun w => dec_any s.low w hp.1 (by omega)
  have c4 := fun w => dec_any s.high w hp.2.2.1 (by omega)
  have z3 := decB_size5 s.low (by omega)
  have z4 := decB_size5 s.high (by omega)
  have zt := table_small h1
  have he := empT s.table
  have hT : endT s = if s.any then tAny else if s.table = txt [] then printPB s.a s.n else tLt ++ s.table ++ tGt := rfl
  have hD : ∀ al, allB s = al → endD s = catW (endT s) (optW (!al) [tPort, if s.low = s.high then decB s.low else decB s.low ++ ⟨#[58]⟩ ++ decB s.high]) := by
    rintro _ rfl; rfl
  have HD : Hid _ := hD
  have HT : Hid _ := hT
  generalize endD s = D at *
  generalize endT s = T at *
  generalize allB s = al at *
  obtain ⟨any, tab, a, n, lo, hi⟩ := s
  dsimp only at *
  generalize decB lo = dl at *
  generalize decB hi = dh at *
  obtain ⟨W, hW⟩ : ∃ W, w.alloc (.cells #[.bool any, .string tab, .int .u32 a, .int .i64 n, .int .i64 lo, .int .i64 hi] 28) = W := ⟨_, rfl⟩
  have hx0 : Ext w W := hW ▸ (Ext.refl w).alloc _
  have b0 : ∀ w', Ext W w' → w'.cell? ⟨w.heap.size, 0, none⟩ = some (.bool any) := hW ▸ boxK w #[.bool any, .string tab, .int .u32 a, .int .i64 n, .int .i64 lo, .int .i64 hi] 28 0
  have b1 : ∀ w', Ext W w' → w'.cell? ⟨w.heap.size, 1, none⟩ = some (.string tab) := hW ▸ boxK w #[.bool any, .string tab, .int .u32 a, .int .i64 n, .int .i64 lo, .int .i64 hi] 28 1
  have b2 : ∀ w', Ext W w' → w'.cell? ⟨w.heap.size, 2, none⟩ = some (.int .u32 a) := hW ▸ boxK w #[.bool any, .string tab, .int .u32 a, .int .i64 n, .int .i64 lo, .int .i64 hi] 28 2
  have b3 : ∀ w', Ext W w' → w'.cell? ⟨w.heap.size, 3, none⟩ = some (.int .i64 n) := hW ▸ boxK w #[.bool any, .string tab, .int .u32 a, .int .i64 n, .int .i64 lo, .int .i64 hi] 28 3
  have b4 : ∀ w', Ext W w' → w'.cell? ⟨w.heap.size, 4, none⟩ = some (.int .i64 lo) := hW ▸ boxK w #[.bool any, .string tab, .int .u32 a, .int .i64 n, .int .i64 lo, .int .i64 hi] 28 4
  have b5 : ∀ w', Ext W w' → w'.cell? ⟨w.heap.size, 5, none⟩ = some (.int .i64 hi) := hW ▸ boxK w #[.bool any, .string tab, .int .u32 a, .int .i64 n, .int .i64 lo, .int .i64 hi] 28 5
  have hv := Ext.refl W
  clear h1 h2 hs hp hD hT
  go_enter Tryz.func42, Tryz.ntmps42
  go_upto_block 0 with fail
  go_cut [3] from 4 (fun v wx => v = .string T ∧ Ext W wx)
  case first =>
    clear c2 c3 c4 HD
    cases any with
    | true =>
      go_wp2
      go_meet
      case rel => exact ⟨by rw [HT.out]; rfl, hv⟩
    | false =>
      by_cases ht : tab = txt []
      · rw [decide_eq_true ht] at he
        have hem : tab.toList.isEmpty = true := by rw [← he]; cases tab.toList <;> rfl
        have HE : Hid (T = printPB a n) := by show T = _; rw [HT.out, if_neg (by decide), if_pos ht]
        clear ht he HT
        rw [← HE.out] at c1
        go_wp2_with (go_at_call 73; refine (c1 _).mono ?_; rintro e w1 ⟨rfl, hx1⟩)
        go_meet
        case rel => exact ⟨rfl, hv.trans hx1⟩
      · rw [decide_eq_false ht] at he
        have hem : tab.toList.isEmpty = false := by rw [← he]; cases tab.toList <;> rfl
        have HE : Hid (T = tLt ++ tab ++ tGt) := by show T = _; rw [HT.out, if_neg (by decide), if_neg ht]
        clear ht he HT
        go_wp2
        go_meet
        case rel => exact ⟨by rw [HE.out], hv⟩
  obtain ⟨rfl, hvc⟩ := hcut
  clear HT c1 hv he
  have hv := hvc
  clear hvc
  cases al with
  | true =>
    have HE : Hid (D = T) := (HD.out true rfl).trans (catW_nil T)
    clear HD c3 c4
    go_wp2_with (go_at_call 74; refine (c2 _).mono ?_; rintro e w1 ⟨rfl, hx1⟩; replace hv := hv.trans hx1; clear hx1)
    have HE2 := HE.out
    subst HE2
    go_ret
    exact ⟨rfl, hx0.trans hv⟩
  | false =>
    by_cases hl : lo = hi
    · have HE : Hid (D = T ++ ⟨#[32, 112, 111, 114, 116, 32]⟩ ++ dl) := by
        show D = _
        rw [HD.out false rfl, if_pos hl]
        symm
        exact cat_is (by simp [ByteArray.data_append, optW, Lib.joinTail])
      subst hl
      clear HD c4
      go_wp2_with (first
        | (go_at_call 74; refine (c2 _).mono ?_; rintro e w1 ⟨rfl, hx1⟩; replace hv := hv.trans hx1; clear hx1)
        | (go_at_call 22; refine (c3 _).mono ?_; rintro e w1 ⟨rfl, hx1⟩; replace hv := hv.trans hx1; clear hx1))
      have HE2 := HE.out
      subst HE2
      go_ret
      exact ⟨rfl, hx0.trans hv⟩
    · have HE : Hid (D = T ++ ⟨#[32, 112, 111, 114, 116, 32]⟩ ++ dl ++ ⟨#[58]⟩ ++ dh) := by
        show D = _
        rw [HD.out false rfl, if_neg hl]
        symm
        exact cat_is (by simp [ByteArray.data_append, optW, Lib.joinTail])
      have hne : (hi != lo) = true := by unfold bne; rw [beq_eq_false_iff_ne.2 (fun e => hl e.symm)]; rfl
      have tok : Hid True := trivial
      clear HD hl
      go_wp2_with (first
        | (go_at_call 74; refine (c2 _).mono ?_; rintro e w1 ⟨rfl, hx1⟩; replace hv := hv.trans hx1; clear hx1)
        | (go_at_call 22; clear tok; refine (c3 _).mono ?_; rintro e w1 ⟨rfl, hx1⟩; replace hv := hv.trans hx1; clear hx1)
        | (go_at_call 22; refine (c4 _).mono ?_; rintro e w1 ⟨rfl, hx1⟩; replace hv := hv.trans hx1; clear hx1))
      have HE2 := HE.out
      subst HE2
      go_ret
      exact ⟨rfl, hx0.trans hv⟩
end Go.Proofs.YtbmmgjmmooakpaaGreatDoor.Ru

namespace Go.Proofs.YtbmmgjmmooakpaaGreatDoor.Ru
open Go.RowKit
set_option linter.unusedVariables false
set_option maxRecDepth 100000

theorem add_texts2 (a b : ByteArray) (h : a.size + b.size ≤ 9223372036854775807) (w : World) : (Op.stringOp .add a b).run Tryz.prog w = .ok (.string (a ++ b)) w := run_string_add_sum w a b h

/-- A rule as a text, or nothing. -/
def printE (r : RuleV) : ByteArray := if isR r = true then printR r else txt []

theorem cat_size {S S' : ByteArray} {c : Bool} {l : WL} (h : catW S (optW c l) = S') (hl : c = true → ∀ x ∈ l, x.size ≤ 40) {n : Nat} (hn : S.size ≤ n) : S'.size ≤ n + l.length * 41 := by
  rw [← h]
  have h1 := catW_size S (optW c l) 40 (fun x hx => hl (mem_opt hx).2 x (mem_opt hx).1)
  have h2 : (optW c l).length * (40 + 1) ≤ l.length * 41 := Nat.mul_le_mul_right _ (opt_len c l)
  omega

theorem cat_side {S S' : ByteArray} {t : ByteArray} {s : SideV} (h : catW S (sideW t s) = S') : S' = S ++ (⟨#[32]⟩ ++ t ++ ⟨#[32]⟩) ++ endD s := by
  symm
  rw [← h]
  refine cat_is ?_
  unfold endD sideW
  simp [ByteArray.data_append, catW_list, Lib.joinTail]

set_option maxHeartbeats 40000000 in
theorem refPrintGood_any (r : RuleV) (w : World) (hr : RuleOk r) (hI : isR r = true) : Calls Tryz.prog 17 #[(.agg #[.bool r.pass, .bool r.ret, .bool r.quick, .string r.on, .int .i64 r.proto, .bool r.src.any, .string r.src.table, .int .u32 r.src.a, .int .i64 r.src.n, .int .i64 r.src.low, .int .i64 r.src.high, .bool r.dst.any, .string r.dst.table, .int .u32 r.dst.a, .int .i64 r.dst.n, .int .i64 r.dst.low, .int .i64 r.dst.high, .int .i64 r.set, .int .i64 r.mask, .int .i64 r.type, .bool r.keep, .bool r.rt.on, .string r.rt.iface, .int .u32 r.rt.gate, .bool r.rp.on, .string r.rp.iface, .int .u32 r.rp.gate, .int .i64 r.table])] w fun e w' => e = .returned (.string (printR r)) ∧ Ext w w' := by
  have c0 := fun w => refIsRule_any r w hr
  rw [hI] at c0
  have hg := good_of hI hr
  have hall := printR_cat r
  have word2 : ∀ (a b : ByteArray), a.size ≤ 40 → b.size ≤ 40 → ∀ x ∈ [a, b], x.size ≤ 40 := fun a b ha hb x hx => by simp only [List.mem_cons, List.not_mem_nil, or_false] at hx; rcases hx with rfl | rfl <;> assumption
  have word1 : ∀ (a : ByteArray), a.size ≤ 40 → ∀ x ∈ [a], x.size ≤ 40 := fun a ha x hx => by simp only [List.mem_cons, List.not_mem_nil, or_false] at hx; subst hx; assumption
  have word3 : ∀ (a b c : ByteArray), a.size ≤ 40 → b.size ≤ 40 → c.size ≤ 40 → ∀ x ∈ [a, b, c], x.size ≤ 40 := fun a b c ha hb hc x hx => by simp only [List.mem_cons, List.not_mem_nil, or_false] at hx; rcases hx with rfl | rfl | rfl <;> assumption
  obtain ⟨S0, hS0⟩ : ∃ S, actT r = S := ⟨_, rfl⟩
  have z0 : S0.size ≤ 5 := by rw [← hS0]; unfold actT; split <;> decide
  obtain ⟨S1, hS1⟩ : ∃ S, catW S0 (optW (r.ret) [tReturn]) = S := ⟨_, rfl⟩
  have z1 : S1.size ≤ 46 := cat_size hS1 (fun _ => word1 _ (by decide)) z0
  obtain ⟨S2, hS2⟩ : ∃ S, catW S1 (optW (r.quick) [tQuick]) = S := ⟨_, rfl⟩
  have z2 : S2.size ≤ 87 := cat_size hS2 (fun _ => word1 _ (by decide)) z1
  obtain ⟨S3, hS3⟩ : ∃ S, catW S2 (optW (!decide (r.on = txt [])) [tOn, r.on]) = S := ⟨_, rfl⟩
  have z3 : S3.size ≤ 169 := cat_size hS3 (fun hc => word2 _ _ (by decide) (by have := hg.on; rw [Bool.not_eq_true'] at hc; rw [hc, Bool.false_or] at this; exact (name_word this).2.2)) z2
  obtain ⟨S4, hS4⟩ : ∃ S, catW S3 (optW (!(r.proto == 0)) [tProto, protoT r.proto]) = S := ⟨_, rfl⟩
  have z4 : S4.size ≤ 251 := cat_size hS4 (fun _ => word2 _ _ (by decide) (proto_word hg.p0 hg.p1).2.2) z3
  obtain ⟨S5, hS5⟩ : ∃ S, catW (catW S4 (sideW tFrom r.src)) (sideW tTo r.dst) = S := ⟨_, rfl⟩
  have e5 : S5 = S4 ++ ⟨#[32, 102, 114, 111, 109, 32]⟩ ++ endD r.src ++ ⟨#[32, 116, 111, 32]⟩ ++ endD r.dst := by rw [cat_side hS5, cat_side rfl]; apply list_inj; simp [ByteArray.data_append]
  have z5 : S5.size ≤ 671 := by rw [e5]; simp only [ByteArray.size_append]; have := endD_size hg.src hg.srcP; have := endD_size hg.dst hg.dstP; have : (⟨#[32, 102, 114, 111, 109, 32]⟩ : ByteArray).size = 6 := rfl; have : (⟨#[32, 116, 111, 32]⟩ : ByteArray).size = 4 := rfl; omega
  obtain ⟨S6, hS6⟩ : ∃ S, catW S5 (optW (!(r.mask == 0)) [tFlags, flagsT r.set r.mask]) = S := ⟨_, rfl⟩
  have z6 : S6.size ≤ 753 := cat_size hS6 (fun _ => word2 _ _ (by decide) (flags_word ⟨hg.s0, hg.s1⟩ ⟨hg.m0, hg.m1⟩).2.2) z5
  obtain ⟨S7, hS7⟩ : ∃ S, catW S6 (optW (!(r.type == -1)) [tType, decB r.type]) = S := ⟨_, rfl⟩
  have z7 : S7.size ≤ 835 := cat_size hS7 (fun _ => word2 _ _ (by decide) (dec_word (by have := hg.t1; omega)).2.2) z6
  obtain ⟨S8, hS8⟩ : ∃ S, catW S7 (optW (r.keep) [tKeep]) = S := ⟨_, rfl⟩
  have z8 : S8.size ≤ 876 := cat_size hS8 (fun _ => word1 _ (by decide)) z7
  obtain ⟨S9, hS9⟩ : ∃ S, catW S8 (optW (r.rt.on) [tRouteTo, r.rt.iface, printB r.rt.gate]) = S := ⟨_, rfl⟩
  have z9 : S9.size ≤ 999 := cat_size hS9 (fun hc => word3 _ _ _ (by decide) (by have := hg.rt; unfold pinB at this; rw [if_pos hc] at this; exact (name_word this).2.2) (printB_word _).2.2) z8
  obtain ⟨S10, hS10⟩ : ∃ S, catW S9 (optW (r.rp.on) [tReplyTo, r.rp.iface, printB r.rp.gate]) = S := ⟨_, rfl⟩
  have z10 : S10.size ≤ 1122 := cat_size hS10 (fun hc => word3 _ _ _ (by decide) (by have := hg.rp; unfold pinB at this; rw [if_pos hc] at this; exact (name_word this).2.2) (printB_word _).2.2) z9
  obtain ⟨S11, hS11⟩ : ∃ S, catW S10 (optW (!(r.table == 0)) [tTable, decB r.table]) = S := ⟨_, rfl⟩
  have z11 : S11.size ≤ 1204 := cat_size hS11 (fun _ => word2 _ _ (by decide) (dec_word (by have := hg.b1; omega)).2.2) z10
  have hend : printR r = S11 := by
    rw [hall]
    unfold tl12 tl11 tl10 tl9 tl8 tl7 tl6 tl5 tl4 tl3 tl2 tl1 pinW
    rw [List.append_nil]
    simp only [catW_append]
    rw [hS0, hS1, hS2, hS3, hS4, hS5, hS6, hS7, hS8, hS9, hS10, hS11]
  rw [hend]
  have hp0 := hg.p0
  have hp1 := hg.p1
  have hs0 := hg.s0
  have hs1 := hg.s1
  have hm0 := hg.m0
  have hm1 := hg.m1
  have ht0 := hg.t0
  have ht1 := hg.t1
  have hb0 := hg.b0
  have hb1 := hg.b1
  have cP := fun w => refProto_any r.proto w hp0 (by omega)
  have cS := fun w => refEnd_any r.src w hg.src hg.srcP hr.src
  have cD := fun w => refEnd_any r.dst w hg.dst hg.dstP hr.dst
  have cM := fun w => refLetters_any r.mask.toNat w (by omega)
  have cF := fun w => refLetters_any r.set.toNat w (by omega)
  rw [Int.toNat_of_nonneg hm0] at cM
  rw [Int.toNat_of_nonneg hs0] at cF
  have cT := fun (h : r.type ≠ -1) w => dec_any r.type w (by omega) (by omega)
  have cB := fun w => dec_any r.table w (by omega) (by omega)
  have cR := fun w => refPrint_any r.rt.gate w hr.rt.g0 hr.rt.g1
  have cQ := fun w => refPrint_any r.rp.gate w hr.rp.g0 hr.rp.g1
  have zon : r.on.size ≤ 8 := on_small hg.on
  have zrt : r.rt.iface.size ≤ 8 := iface_small hg.rt
  have zrp : r.rp.iface.size ≤ 8 := iface_small hg.rp
  have zP := (proto_word hp0 hp1).2.2
  have zS := endD_size hg.src hg.srcP
  have zD := endD_size hg.dst hg.dstP
  have zM := (letters_word r.mask.toNat (by omega)).2
  have zF := (letters_word r.set.toNat (by omega)).2
  rw [← txt_size] at zM zF
  have zT := decB_size5 r.type (by omega)
  have zB := decB_size5 r.table (by omega)
  have zR := printB_size r.rt.gate
  have zQ := printB_size r.rp.gate
  have he := empT r.on
  generalize decide (r.on = txt []) = zo at *
  unfold flagsT at *
  generalize txt (lettersP r.mask.toNat) = fM at *
  generalize txt (lettersP r.set.toNat) = fS at *
  generalize endD r.src = eS at *
  generalize endD r.dst = eD at *
  generalize protoT r.proto = pT at *
  generalize decB r.type = dT at *
  generalize decB r.table = dB at *
  generalize printB r.rt.gate = gR at *
  generalize printB r.rp.gate = gQ at *
  have H0 : Hid _ := hS0
  have H1 : Hid _ := hS1
  have H2 : Hid _ := hS2
  have H3 : Hid _ := hS3
  have H4 : Hid _ := hS4
  have H5 : Hid (S5 = _) := e5
  have H6 : Hid _ := hS6
  have H7 : Hid _ := hS7
  have H8 : Hid _ := hS8
  have H9 : Hid _ := hS9
  have H10 : Hid _ := hS10
  have H11 : Hid _ := hS11
  clear hall hend hg hr word1 word2 word3 hI hS0 hS1 hS2 hS3 hS4 hS5 hS6 hS7 hS8 hS9 hS10 hS11 e5
  obtain ⟨pass, ret, quick, on, proto, ⟨sany, stab, sa, sn, slo, shi⟩, ⟨dany, dtab, da, dn, dlo, dhi⟩, set, mask, type, keep, ⟨ton, tif, tg⟩, ⟨pon, pif, pg⟩, table⟩ := r
  dsimp only at *
  obtain ⟨W, hW⟩ : ∃ W, w.alloc (.cells #[.bool pass, .bool ret, .bool quick, .string on, .int .i64 proto, .bool sany, .string stab, .int .u32 sa, .int .i64 sn, .int .i64 slo, .int .i64 shi, .bool dany, .string dtab, .int .u32 da, .int .i64 dn, .int .i64 dlo, .int .i64 dhi, .int .i64 set, .int .i64 mask, .int .i64 type, .bool keep, .bool ton, .string tif, .int .u32 tg, .bool pon, .string pif, .int .u32 pg, .int .i64 table] 32) = W := ⟨_, rfl⟩
  have hx0 : Ext w W := hW ▸ (Ext.refl w).alloc _
  have x0 : ∀ w', Ext W w' → w'.cell? ⟨w.heap.size, 0, none⟩ = some (.bool pass) := hW ▸ boxK w #[.bool pass, .bool ret, .bool quick, .string on, .int .i64 proto, .bool sany, .string stab, .int .u32 sa, .int .i64 sn, .int .i64 slo, .int .i64 shi, .bool dany, .string dtab, .int .u32 da, .int .i64 dn, .int .i64 dlo, .int .i64 dhi, .int .i64 set, .int .i64 mask, .int .i64 type, .bool keep, .bool ton, .string tif, .int .u32 tg, .bool pon, .string pif, .int .u32 pg, .int .i64 table] 32 0
  have x1 : ∀ w', Ext W w' → w'.cell? ⟨w.heap.size, 1, none⟩ = some (.bool ret) := hW ▸ boxK w #[.bool pass, .bool ret, .bool quick, .string on, .int .i64 proto, .bool sany, .string stab, .int .u32 sa, .int .i64 sn, .int .i64 slo, .int .i64 shi, .bool dany, .string dtab, .int .u32 da, .int .i64 dn, .int .i64 dlo, .int .i64 dhi, .int .i64 set, .int .i64 mask, .int .i64 type, .bool keep, .bool ton, .string tif, .int .u32 tg, .bool pon, .string pif, .int .u32 pg, .int .i64 table] 32 1
  have x2 : ∀ w', Ext W w' → w'.cell? ⟨w.heap.size, 2, none⟩ = some (.bool quick) := hW ▸ boxK w #[.bool pass, .bool ret, .bool quick, .string on, .int .i64 proto, .bool sany, .string stab, .int .u32 sa, .int .i64 sn, .int .i64 slo, .int .i64 shi, .bool dany, .string dtab, .int .u32 da, .int .i64 dn, .int .i64 dlo, .int .i64 dhi, .int .i64 set, .int .i64 mask, .int .i64 type, .bool keep, .bool ton, .string tif, .int .u32 tg, .bool pon, .string pif, .int .u32 pg, .int .i64 table] 32 2
  have x3 : ∀ w', Ext W w' → w'.cell? ⟨w.heap.size, 3, none⟩ = some (.string on) := hW ▸ boxK w #[.bool pass, .bool ret, .bool quick, .string on, .int .i64 proto, .bool sany, .string stab, .int .u32 sa, .int .i64 sn, .int .i64 slo, .int .i64 shi, .bool dany, .string dtab, .int .u32 da, .int .i64 dn, .int .i64 dlo, .int .i64 dhi, .int .i64 set, .int .i64 mask, .int .i64 type, .bool keep, .bool ton, .string tif, .int .u32 tg, .bool pon, .string pif, .int .u32 pg, .int .i64 table] 32 3
  have x4 : ∀ w', Ext W w' → w'.cell? ⟨w.heap.size, 4, none⟩ = some (.int .i64 proto) := hW ▸ boxK w #[.bool pass, .bool ret, .bool quick, .string on, .int .i64 proto, .bool sany, .string stab, .int .u32 sa, .int .i64 sn, .int .i64 slo, .int .i64 shi, .bool dany, .string dtab, .int .u32 da, .int .i64 dn, .int .i64 dlo, .int .i64 dhi, .int .i64 set, .int .i64 mask, .int .i64 type, .bool keep, .bool ton, .string tif, .int .u32 tg, .bool pon, .string pif, .int .u32 pg, .int .i64 table] 32 4
  have x5 : ∀ w', Ext W w' → w'.cell? ⟨w.heap.size, 5, none⟩ = some (.bool sany) := hW ▸ boxK w #[.bool pass, .bool ret, .bool quick, .string on, .int .i64 proto, .bool sany, .string stab, .int .u32 sa, .int .i64 sn, .int .i64 slo, .int .i64 shi, .bool dany, .string dtab, .int .u32 da, .int .i64 dn, .int .i64 dlo, .int .i64 dhi, .int .i64 set, .int .i64 mask, .int .i64 type, .bool keep, .bool ton, .string tif, .int .u32 tg, .bool pon, .string pif, .int .u32 pg, .int .i64 table] 32 5
  have x6 : ∀ w', Ext W w' → w'.cell? ⟨w.heap.size, 6, none⟩ = some (.string stab) := hW ▸ boxK w #[.bool pass, .bool ret, .bool quick, .string on, .int .i64 proto, .bool sany, .string stab, .int .u32 sa, .int .i64 sn, .int .i64 slo, .int .i64 shi, .bool dany, .string dtab, .int .u32 da, .int .i64 dn, .int .i64 dlo, .int .i64 dhi, .int .i64 set, .int .i64 mask, .int .i64 type, .bool keep, .bool ton, .string tif, .int .u32 tg, .bool pon, .string pif, .int .u32 pg, .int .i64 table] 32 6
  have x7 : ∀ w', Ext W w' → w'.cell? ⟨w.heap.size, 7, none⟩ = some (.int .u32 sa) := hW ▸ boxK w #[.bool pass, .bool ret, .bool quick, .string on, .int .i64 proto, .bool sany, .string stab, .int .u32 sa, .int .i64 sn, .int .i64 slo, .int .i64 shi, .bool dany, .string dtab, .int .u32 da, .int .i64 dn, .int .i64 dlo, .int .i64 dhi, .int .i64 set, .int .i64 mask, .int .i64 type, .bool keep, .bool ton, .string tif, .int .u32 tg, .bool pon, .string pif, .int .u32 pg, .int .i64 table] 32 7
  have x8 : ∀ w', Ext W w' → w'.cell? ⟨w.heap.size, 8, none⟩ = some (.int .i64 sn) := hW ▸ boxK w #[.bool pass, .bool ret, .bool quick, .string on, .int .i64 proto, .bool sany, .string stab, .int .u32 sa, .int .i64 sn, .int .i64 slo, .int .i64 shi, .bool dany, .string dtab, .int .u32 da, .int .i64 dn, .int .i64 dlo, .int .i64 dhi, .int .i64 set, .int .i64 mask, .int .i64 type, .bool keep, .bool ton, .string tif, .int .u32 tg, .bool pon, .string pif, .int .u32 pg, .int .i64 table] 32 8
  have x9 : ∀ w', Ext W w' → w'.cell? ⟨w.heap.size, 9, none⟩ = some (.int .i64 slo) := hW ▸ boxK w #[.bool pass, .bool ret, .bool quick, .string on, .int .i64 proto, .bool sany, .string stab, .int .u32 sa, .int .i64 sn, .int .i64 slo, .int .i64 shi, .bool dany, .string dtab, .int .u32 da, .int .i64 dn, .int .i64 dlo, .int .i64 dhi, .int .i64 set, .int .i64 mask, .int .i64 type, .bool keep, .bool ton, .string tif, .int .u32 tg, .bool pon, .string pif, .int .u32 pg, .int .i64 table] 32 9
  have x10 : ∀ w', Ext W w' → w'.cell? ⟨w.heap.size, 10, none⟩ = some (.int .i64 shi) := hW ▸ boxK w #[.bool pass, .bool ret, .bool quick, .string on, .int .i64 proto, .bool sany, .string stab, .int .u32 sa, .int .i64 sn, .int .i64 slo, .int .i64 shi, .bool dany, .string dtab, .int .u32 da, .int .i64 dn, .int .i64 dlo, .int .i64 dhi, .int .i64 set, .int .i64 mask, .int .i64 type, .bool keep, .bool ton, .string tif, .int .u32 tg, .bool pon, .string pif, .int .u32 pg, .int .i64 table] 32 10
  have x11 : ∀ w', Ext W w' → w'.cell? ⟨w.heap.size, 11, none⟩ = some (.bool dany) := hW ▸ boxK w #[.bool pass, .bool ret, .bool quick, .string on, .int .i64 proto, .bool sany, .string stab, .int .u32 sa, .int .i64 sn, .int .i64 slo, .int .i64 shi, .bool dany, .string dtab, .int .u32 da, .int .i64 dn, .int .i64 dlo, .int .i64 dhi, .int .i64 set, .int .i64 mask, .int .i64 type, .bool keep, .bool ton, .string tif, .int .u32 tg, .bool pon, .string pif, .int .u32 pg, .int .i64 table] 32 11
  have x12 : ∀ w', Ext W w' → w'.cell? ⟨w.heap.size, 12, none⟩ = some (.string dtab) := hW ▸ boxK w #[.bool pass, .bool ret, .bool quick, .string on, .int .i64 proto, .bool sany, .string stab, .int .u32 sa, .int .i64 sn, .int .i64 slo, .int .i64 shi, .bool dany, .string dtab, .int .u32 da, .int .i64 dn, .int .i64 dlo, .int .i64 dhi, .int .i64 set, .int .i64 mask, .int .i64 type, .bool keep, .bool ton, .string tif, .int .u32 tg, .bool pon, .string pif, .int .u32 pg, .int .i64 table] 32 12
  have x13 : ∀ w', Ext W w' → w'.cell? ⟨w.heap.size, 13, none⟩ = some (.int .u32 da) := hW ▸ boxK w #[.bool pass, .bool ret, .bool quick, .string on, .int .i64 proto, .bool sany, .string stab, .int .u32 sa, .int .i64 sn, .int .i64 slo, .int .i64 shi, .bool dany, .string dtab, .int .u32 da, .int .i64 dn, .int .i64 dlo, .int .i64 dhi, .int .i64 set, .int .i64 mask, .int .i64 type, .bool keep, .bool ton, .string tif, .int .u32 tg, .bool pon, .string pif, .int .u32 pg, .int .i64 table] 32 13
  have x14 : ∀ w', Ext W w' → w'.cell? ⟨w.heap.size, 14, none⟩ = some (.int .i64 dn) := hW ▸ boxK w #[.bool pass, .bool ret, .bool quick, .string on, .int .i64 proto, .bool sany, .string stab, .int .u32 sa, .int .i64 sn, .int .i64 slo, .int .i64 shi, .bool dany, .string dtab, .int .u32 da, .int .i64 dn, .int .i64 dlo, .int .i64 dhi, .int .i64 set, .int .i64 mask, .int .i64 type, .bool keep, .bool ton, .string tif, .int .u32 tg, .bool pon, .string pif, .int .u32 pg, .int .i64 table] 32 14
  have x15 : ∀ w', Ext W w' → w'.cell? ⟨w.heap.size, 15, none⟩ = some (.int .i64 dlo) := hW ▸ boxK w #[.bool pass, .bool ret, .bool quick, .string on, .int .i64 proto, .bool sany, .string stab, .int .u32 sa, .int .i64 sn, .int .i64 slo, .int .i64 shi, .bool dany, .string dtab, .int .u32 da, .int .i64 dn, .int .i64 dlo, .int .i64 dhi, .int .i64 set, .int .i64 mask, .int .i64 type, .bool keep, .bool ton, .string tif, .int .u32 tg, .bool pon, .string pif, .int .u32 pg, .int .i64 table] 32 15
  have x16 : ∀ w', Ext W w' → w'.cell? ⟨w.heap.size, 16, none⟩ = some (.int .i64 dhi) := hW ▸ boxK w #[.bool pass, .bool ret, .bool quick, .string on, .int .i64 proto, .bool sany, .string stab, .int .u32 sa, .int .i64 sn, .int .i64 slo, .int .i64 shi, .bool dany, .string dtab, .int .u32 da, .int .i64 dn, .int .i64 dlo, .int .i64 dhi, .int .i64 set, .int .i64 mask, .int .i64 type, .bool keep, .bool ton, .string tif, .int .u32 tg, .bool pon, .string pif, .int .u32 pg, .int .i64 table] 32 16
  have x17 : ∀ w', Ext W w' → w'.cell? ⟨w.heap.size, 17, none⟩ = some (.int .i64 set) := hW ▸ boxK w #[.bool pass, .bool ret, .bool quick, .string on, .int .i64 proto, .bool sany, .string stab, .int .u32 sa, .int .i64 sn, .int .i64 slo, .int .i64 shi, .bool dany, .string dtab, .int .u32 da, .int .i64 dn, .int .i64 dlo, .int .i64 dhi, .int .i64 set, .int .i64 mask, .int .i64 type, .bool keep, .bool ton, .string tif, .int .u32 tg, .bool pon, .string pif, .int .u32 pg, .int .i64 table] 32 17
  have x18 : ∀ w', Ext W w' → w'.cell? ⟨w.heap.size, 18, none⟩ = some (.int .i64 mask) := hW ▸ boxK w #[.bool pass, .bool ret, .bool quick, .string on, .int .i64 proto, .bool sany, .string stab, .int .u32 sa, .int .i64 sn, .int .i64 slo, .int .i64 shi, .bool dany, .string dtab, .int .u32 da, .int .i64 dn, .int .i64 dlo, .int .i64 dhi, .int .i64 set, .int .i64 mask, .int .i64 type, .bool keep, .bool ton, .string tif, .int .u32 tg, .bool pon, .string pif, .int .u32 pg, .int .i64 table] 32 18
  have x19 : ∀ w', Ext W w' → w'.cell? ⟨w.heap.size, 19, none⟩ = some (.int .i64 type) := hW ▸ boxK w #[.bool pass, .bool ret, .bool quick, .string on, .int .i64 proto, .bool sany, .string stab, .int .u32 sa, .int .i64 sn, .int .i64 slo, .int .i64 shi, .bool dany, .string dtab, .int .u32 da, .int .i64 dn, .int .i64 dlo, .int .i64 dhi, .int .i64 set, .int .i64 mask, .int .i64 type, .bool keep, .bool ton, .string tif, .int .u32 tg, .bool pon, .string pif, .int .u32 pg, .int .i64 table] 32 19
  have x20 : ∀ w', Ext W w' → w'.cell? ⟨w.heap.size, 20, none⟩ = some (.bool keep) := hW ▸ boxK w #[.bool pass, .bool ret, .bool quick, .string on, .int .i64 proto, .bool sany, .string stab, .int .u32 sa, .int .i64 sn, .int .i64 slo, .int .i64 shi, .bool dany, .string dtab, .int .u32 da, .int .i64 dn, .int .i64 dlo, .int .i64 dhi, .int .i64 set, .int .i64 mask, .int .i64 type, .bool keep, .bool ton, .string tif, .int .u32 tg, .bool pon, .string pif, .int .u32 pg, .int .i64 table] 32 20
  have x21 : ∀ w', Ext W w' → w'.cell? ⟨w.heap.size, 21, none⟩ = some (.bool ton) := hW ▸ boxK w #[.bool pass, .bool ret, .bool quick, .string on, .int .i64 proto, .bool sany, .string stab, .int .u32 sa, .int .i64 sn, .int .i64 slo, .int .i64 shi, .bool dany, .string dtab, .int .u32 da, .int .i64 dn, .int .i64 dlo, .int .i64 dhi, .int .i64 set, .int .i64 mask, .int .i64 type, .bool keep, .bool ton, .string tif, .int .u32 tg, .bool pon, .string pif, .int .u32 pg, .int .i64 table] 32 21
  have x22 : ∀ w', Ext W w' → w'.cell? ⟨w.heap.size, 22, none⟩ = some (.string tif) := hW ▸ boxK w #[.bool pass, .bool ret, .bool quick, .string on, .int .i64 proto, .bool sany, .string stab, .int .u32 sa, .int .i64 sn, .int .i64 slo, .int .i64 shi, .bool dany, .string dtab, .int .u32 da, .int .i64 dn, .int .i64 dlo, .int .i64 dhi, .int .i64 set, .int .i64 mask, .int .i64 type, .bool keep, .bool ton, .string tif, .int .u32 tg, .bool pon, .string pif, .int .u32 pg, .int .i64 table] 32 22
  have x23 : ∀ w', Ext W w' → w'.cell? ⟨w.heap.size, 23, none⟩ = some (.int .u32 tg) := hW ▸ boxK w #[.bool pass, .bool ret, .bool quick, .string on, .int .i64 proto, .bool sany, .string stab, .int .u32 sa, .int .i64 sn, .int .i64 slo, .int .i64 shi, .bool dany, .string dtab, .int .u32 da, .int .i64 dn, .int .i64 dlo, .int .i64 dhi, .int .i64 set, .int .i64 mask, .int .i64 type, .bool keep, .bool ton, .string tif, .int .u32 tg, .bool pon, .string pif, .int .u32 pg, .int .i64 table] 32 23
  have x24 : ∀ w', Ext W w' → w'.cell? ⟨w.heap.size, 24, none⟩ = some (.bool pon) := hW ▸ boxK w #[.bool pass, .bool ret, .bool quick, .string on, .int .i64 proto, .bool sany, .string stab, .int .u32 sa, .int .i64 sn, .int .i64 slo, .int .i64 shi, .bool dany, .string dtab, .int .u32 da, .int .i64 dn, .int .i64 dlo, .int .i64 dhi, .int .i64 set, .int .i64 mask, .int .i64 type, .bool keep, .bool ton, .string tif, .int .u32 tg, .bool pon, .string pif, .int .u32 pg, .int .i64 table] 32 24
  have x25 : ∀ w', Ext W w' → w'.cell? ⟨w.heap.size, 25, none⟩ = some (.string pif) := hW ▸ boxK w #[.bool pass, .bool ret, .bool quick, .string on, .int .i64 proto, .bool sany, .string stab, .int .u32 sa, .int .i64 sn, .int .i64 slo, .int .i64 shi, .bool dany, .string dtab, .int .u32 da, .int .i64 dn, .int .i64 dlo, .int .i64 dhi, .int .i64 set, .int .i64 mask, .int .i64 type, .bool keep, .bool ton, .string tif, .int .u32 tg, .bool pon, .string pif, .int .u32 pg, .int .i64 table] 32 25
  have x26 : ∀ w', Ext W w' → w'.cell? ⟨w.heap.size, 26, none⟩ = some (.int .u32 pg) := hW ▸ boxK w #[.bool pass, .bool ret, .bool quick, .string on, .int .i64 proto, .bool sany, .string stab, .int .u32 sa, .int .i64 sn, .int .i64 slo, .int .i64 shi, .bool dany, .string dtab, .int .u32 da, .int .i64 dn, .int .i64 dlo, .int .i64 dhi, .int .i64 set, .int .i64 mask, .int .i64 type, .bool keep, .bool ton, .string tif, .int .u32 tg, .bool pon, .string pif, .int .u32 pg, .int .i64 table] 32 26
  have x27 : ∀ w', Ext W w' → w'.cell? ⟨w.heap.size, 27, none⟩ = some (.int .i64 table) := hW ▸ boxK w #[.bool pass, .bool ret, .bool quick, .string on, .int .i64 proto, .bool sany, .string stab, .int .u32 sa, .int .i64 sn, .int .i64 slo, .int .i64 shi, .bool dany, .string dtab, .int .u32 da, .int .i64 dn, .int .i64 dlo, .int .i64 dhi, .int .i64 set, .int .i64 mask, .int .i64 type, .bool keep, .bool ton, .string tif, .int .u32 tg, .bool pon, .string pif, .int .u32 pg, .int .i64 table] 32 27
  have HB : Hid (∀ w', Ext W w' → w'.heap[w.heap.size]? = some (.cells #[.bool pass, .bool ret, .bool quick, .string on, .int .i64 proto, .bool sany, .string stab, .int .u32 sa, .int .i64 sn, .int .i64 slo, .int .i64 shi, .bool dany, .string dtab, .int .u32 da, .int .i64 dn, .int .i64 dlo, .int .i64 dhi, .int .i64 set, .int .i64 mask, .int .i64 type, .bool keep, .bool ton, .string tif, .int .u32 tg, .bool pon, .string pif, .int .u32 pg, .int .i64 table] 32 (0, 0))) := fun w' h => h.heap (hW ▸ heap_new w _)
  have hv := Ext.refl W
  go_enter Tryz.func17, Tryz.ntmps17
  go_upto_if 8 with (first
    | (go_at_call 19; refine (c0 _).mono ?_; rintro e w1 ⟨rfl, hx1⟩; replace hv := hv.trans hx1; clear hx1 c0)
    | (refine wpl_load (by rfl) 32 _ rfl w.heap.size _ _ _ rfl (HB.out _ hv) Tryz.underlying32 rfl rule_size ?_))
  go_cut [3] from 4 (fun v wx => v = .string S0 ∧ Ext W wx)
  case first => as_aux_lemma =>
    cases pass
    · go_wp2
      go_meet
      case rel => exact ⟨congrArg Value.string H0.out, hv⟩
    · go_wp2
      go_meet
      case rel => exact ⟨congrArg Value.string H0.out, hv⟩
  obtain ⟨rfl, hvc⟩ := hcut
  clear hv
  have hv := hvc
  clear hvc
  go_upto_if 10 with fail
  go_cut [3] from 4 (fun v wx => v = .string S1 ∧ Ext W wx)
  case first => as_aux_lemma =>
    cases ret
    · skip
      go_wp2
      go_meet
      case rel => exact ⟨congrArg Value.string ((catW_nil _).symm.trans H1.out), hv⟩
    · skip
      go_wp2
      go_meet
      case rel => exact ⟨congrArg Value.string (by rw [← H1.out]; exact cat_is (by simp [ByteArray.data_append, optW, Lib.joinTail])), hv⟩
  obtain ⟨rfl, hvc⟩ := hcut
  clear hv
  have hv := hvc
  clear hvc
  go_upto_if 14 with fail
  go_cut [3] from 4 (fun v wx => v = .string S2 ∧ Ext W wx)
  case first => as_aux_lemma =>
    cases quick
    · skip
      go_wp2
      go_meet
      case rel => exact ⟨congrArg Value.string ((catW_nil _).symm.trans H2.out), hv⟩
    · skip
      go_wp2
      go_meet
      case rel => exact ⟨congrArg Value.string (by rw [← H2.out]; exact cat_is (by simp [ByteArray.data_append, optW, Lib.joinTail])), hv⟩
  obtain ⟨rfl, hvc⟩ := hcut
  clear hv
  have hv := hvc
  clear hvc
  go_upto_if 19 with fail
  go_cut [3] from 4 (fun v wx => v = .string S3 ∧ Ext W wx)
  case first => as_aux_lemma =>
    cases zo
    · have HE : Hid (S2 ++ ⟨#[32, 111, 110, 32]⟩ ++ on = S3) := by show _ = _; rw [← H3.out]; exact cat_is (by simp [ByteArray.data_append, optW, Lib.joinTail])
      go_wp2
      go_meet
      case rel => exact ⟨congrArg Value.string HE.out, hv⟩
    · go_wp2
      go_meet
      case rel => exact ⟨congrArg Value.string ((catW_nil _).symm.trans H3.out), hv⟩
  obtain ⟨rfl, hvc⟩ := hcut
  clear hv
  have hv := hvc
  clear hvc
  go_upto_if 27 with fail
  go_cut [3] from 4 (fun v wx => v = .string S4 ∧ Ext W wx)
  case first => as_aux_lemma =>
    by_cases hq : proto = 0
    · subst hq
      go_wp2
      go_meet
      case rel => exact ⟨congrArg Value.string ((catW_nil _).symm.trans H4.out), hv⟩
    · have hne : (proto != 0) = true := by simpa using hq
      have HE : Hid (S3 ++ ⟨#[32, 112, 114, 111, 116, 111, 32]⟩ ++ pT = S4) := by show _ = _; rw [← H4.out, show (proto == 0) = false by simpa using hq]; exact cat_is (by simp [ByteArray.data_append, optW, Lib.joinTail])
      have cc := cP
      clear cP cS cD cM cF cT cB cR cQ
      go_wp2_with (go_at_call 41; refine (cc _).mono ?_; rintro e w1 ⟨rfl, hx1⟩; replace hv := hv.trans hx1; clear hx1)
      go_meet
      case rel => exact ⟨congrArg Value.string HE.out, hv⟩
  obtain ⟨rfl, hvc⟩ := hcut
  clear hv
  have hv := hvc
  clear hvc
  go_upto_region 14 with fail
  go_cut [3] from 4 (fun v wx => v = .string S5 ∧ Ext W wx)
  case first => as_aux_lemma =>
    clear cP cM cF cT cB cR cQ
    have l1 : (⟨#[32, 102, 114, 111, 109, 32]⟩ : ByteArray).size = 6 := rfl
    have l2 : (⟨#[32, 116, 111, 32]⟩ : ByteArray).size = 4 := rfl
    obtain ⟨X1, g1⟩ : ∃ X, S4 ++ ⟨#[32, 102, 114, 111, 109, 32]⟩ = X := ⟨_, rfl⟩
    obtain ⟨X2, g2⟩ : ∃ X, X1 ++ eS = X := ⟨_, rfl⟩
    obtain ⟨X3, g3⟩ : ∃ X, X2 ++ ⟨#[32, 116, 111, 32]⟩ = X := ⟨_, rfl⟩
    have y1 : X1.size = S4.size + 6 := by rw [← g1, ByteArray.size_append, l1]
    have y2 : X2.size = X1.size + eS.size := by rw [← g2, ByteArray.size_append]
    have y3 : X3.size = X2.size + 4 := by rw [← g3, ByteArray.size_append, l2]
    have s1 := fun w => add_texts S4 ⟨#[32, 102, 114, 111, 109, 32]⟩ (by omega) (by omega) w
    have s2 := fun w => add_texts X1 eS (by omega) (by omega) w
    have s3 := fun w => add_texts X2 ⟨#[32, 116, 111, 32]⟩ (by omega) (by omega) w
    have s4 := fun w => add_texts X3 eD (by omega) (by omega) w
    rw [g1] at s1; rw [g2] at s2; rw [g3] at s3
    have HE : Hid (X3 ++ eD = S5) := by show _ = _; rw [H5.out, ← g3, ← g2, ← g1]
    clear g1 g2 g3 y1 y2 y3
    refine wp_region_eager [(0, false), (1, false), (2, false), (3, false), (7, false), (8, false), (4, true), (5, false), (6, false), (9, true), (10, false), (11, false)] (by kernel_rfl) (by kernel_rfl) rfl (by kernel_rfl) (fun _ _ _ _ _ h => h) ?_
    replace hv := hv.drew
    generalize wc.drew = WD at *
    replace x5 := fun w' h => x5 w' (hv.trans h)
    replace x6 := fun w' h => x6 w' (hv.trans h)
    replace x7 := fun w' h => x7 w' (hv.trans h)
    replace x8 := fun w' h => x8 w' (hv.trans h)
    replace x9 := fun w' h => x9 w' (hv.trans h)
    replace x10 := fun w' h => x10 w' (hv.trans h)
    replace x11 := fun w' h => x11 w' (hv.trans h)
    replace x12 := fun w' h => x12 w' (hv.trans h)
    replace x13 := fun w' h => x13 w' (hv.trans h)
    replace x14 := fun w' h => x14 w' (hv.trans h)
    replace x15 := fun w' h => x15 w' (hv.trans h)
    replace x16 := fun w' h => x16 w' (hv.trans h)
    have hx0 := Ext.refl WD
    have tok : Hid True := trivial
    repeat (first
      | (refine wpE_read (v := ?_) rfl (by rfl) ?_ ?_; rotate_left; (focus (intro w' hx; go_simp; first | done | with_reducible rfl)); simp only [Act.put, List.setIfInBounds_toArray, List.set_cons_zero, List.set_cons_succ])
      | (refine wpE_call rfl (by rfl) (fun K hK => ?_); go_simp; first
          | (go_at_call 42; clear tok; refine (cS _).mono ?_; rintro e w1 ⟨rfl, hx1⟩; refine hK _ _ hx1 ?_; clear hK K; replace x5 := fun w' h => x5 w' (hx1.trans h); replace x6 := fun w' h => x6 w' (hx1.trans h); replace x7 := fun w' h => x7 w' (hx1.trans h); replace x8 := fun w' h => x8 w' (hx1.trans h); replace x9 := fun w' h => x9 w' (hx1.trans h); replace x10 := fun w' h => x10 w' (hx1.trans h); replace x11 := fun w' h => x11 w' (hx1.trans h); replace x12 := fun w' h => x12 w' (hx1.trans h); replace x13 := fun w' h => x13 w' (hx1.trans h); replace x14 := fun w' h => x14 w' (hx1.trans h); replace x15 := fun w' h => x15 w' (hx1.trans h); replace x16 := fun w' h => x16 w' (hx1.trans h); replace hx0 := hx0.trans hx1; clear hx1)
          | (go_at_call 42; refine (cD _).mono ?_; rintro e w1 ⟨rfl, hx1⟩; refine hK _ _ hx1 ?_; clear hK K; replace x5 := fun w' h => x5 w' (hx1.trans h); replace x6 := fun w' h => x6 w' (hx1.trans h); replace x7 := fun w' h => x7 w' (hx1.trans h); replace x8 := fun w' h => x8 w' (hx1.trans h); replace x9 := fun w' h => x9 w' (hx1.trans h); replace x10 := fun w' h => x10 w' (hx1.trans h); replace x11 := fun w' h => x11 w' (hx1.trans h); replace x12 := fun w' h => x12 w' (hx1.trans h); replace x13 := fun w' h => x13 w' (hx1.trans h); replace x14 := fun w' h => x14 w' (hx1.trans h); replace x15 := fun w' h => x15 w' (hx1.trans h); replace x16 := fun w' h => x16 w' (hx1.trans h); replace hx0 := hx0.trans hx1; clear hx1)))
    refine wpE_done ?_
    go_wp2
    go_meet
    case rel => exact ⟨congrArg Value.string HE.out, hv.trans hx0⟩
  obtain ⟨rfl, hvc⟩ := hcut
  clear hv
  have hv := hvc
  clear hvc
  go_upto_if 47 with fail
  go_cut [3] from 4 (fun v wx => v = .string S6 ∧ Ext W wx)
  case first => as_aux_lemma =>
    by_cases hq : mask = 0
    · subst hq
      go_wp2
      go_meet
      case rel => exact ⟨congrArg Value.string ((catW_nil _).symm.trans H6.out), hv⟩
    · have hne : (mask != 0) = true := by simpa using hq
      have heq : (mask == 0) = false := by simpa using hq
      clear cP cS cD cT cB cR cQ
      have l1 : (⟨#[32, 102, 108, 97, 103, 115, 32]⟩ : ByteArray).size = 7 := rfl
      have l2 : (⟨#[47]⟩ : ByteArray).size = 1 := rfl
      obtain ⟨X1, g1⟩ : ∃ X, S5 ++ ⟨#[32, 102, 108, 97, 103, 115, 32]⟩ = X := ⟨_, rfl⟩
      obtain ⟨X2, g2⟩ : ∃ X, X1 ++ fS = X := ⟨_, rfl⟩
      obtain ⟨X3, g3⟩ : ∃ X, X2 ++ ⟨#[47]⟩ = X := ⟨_, rfl⟩
      have y1 : X1.size = S5.size + 7 := by rw [← g1, ByteArray.size_append, l1]
      have y2 : X2.size = X1.size + fS.size := by rw [← g2, ByteArray.size_append]
      have y3 : X3.size = X2.size + 1 := by rw [← g3, ByteArray.size_append, l2]
      have s1 := fun w => add_texts2 S5 ⟨#[32, 102, 108, 97, 103, 115, 32]⟩ (by omega) w
      have s2 := fun w => add_texts2 X1 fS (by omega) w
      have s3 := fun w => add_texts2 X2 ⟨#[47]⟩ (by omega) w
      have s4 := fun w => add_texts2 X3 fM (by omega) w
      rw [g1] at s1; rw [g2] at s2; rw [g3] at s3
      have HE : Hid (X3 ++ fM = S6) := by show _ = _; rw [← H6.out, heq, ← g3, ← g2, ← g1]; exact cat_is (by simp [ByteArray.data_append, optW, Lib.joinTail])
      clear g1 g2 g3 y1 y2 y3 heq
      go_upto_region 16 with fail
      refine wp_region_eager [(0, false), (1, false), (2, false), (3, false), (7, false), (8, false), (4, true), (5, false), (6, false), (9, true), (10, false), (11, false)] (by kernel_rfl) (by kernel_rfl) rfl (by kernel_rfl) (fun _ _ _ _ _ h => h) ?_
      replace hv := hv.drew
      generalize wc.drew = WD at *
      replace x17 := fun w' h => x17 w' (hv.trans h)
      replace x18 := fun w' h => x18 w' (hv.trans h)
      have hx0 := Ext.refl WD
      have tok : Hid True := trivial
      repeat (first
        | (refine wpE_read (v := ?_) rfl (by rfl) ?_ ?_; rotate_left; (focus (intro w' hx; go_simp; first | done | with_reducible rfl)); simp only [Act.put, List.setIfInBounds_toArray, List.set_cons_zero, List.set_cons_succ])
        | (refine wpE_call rfl (by rfl) (fun K hK => ?_); go_simp; first
            | (go_at_call 43; clear tok; refine (cF _).mono ?_; rintro e w1 ⟨rfl, rfl⟩; refine hK _ _ (Ext.refl _) ?_; clear hK K)
            | (go_at_call 43; refine (cM _).mono ?_; rintro e w1 ⟨rfl, rfl⟩; refine hK _ _ (Ext.refl _) ?_; clear hK K)))
      refine wpE_done ?_
      go_wp2
      go_meet
      case rel => exact ⟨congrArg Value.string HE.out, hv.trans hx0⟩
  obtain ⟨rfl, hvc⟩ := hcut
  clear hv
  have hv := hvc
  clear hvc
  go_upto_if 61 with fail
  go_cut [3] from 4 (fun v wx => v = .string S7 ∧ Ext W wx)
  case first => as_aux_lemma =>
    by_cases hq : type = -1
    · subst hq
      go_wp2
      go_meet
      case rel => exact ⟨congrArg Value.string ((catW_nil _).symm.trans H7.out), hv⟩
    · have hne : (type != -1) = true := by simpa using hq
      have HE : Hid (S6 ++ ⟨#[32, 116, 121, 112, 101, 32]⟩ ++ dT = S7) := by show _ = _; rw [← H7.out, show (type == -1) = false by simpa using hq]; exact cat_is (by simp [ByteArray.data_append, optW, Lib.joinTail])
      have cc := cT hq
      clear cP cS cD cM cF cT cB cR cQ
      go_wp2_with (go_at_call 22; refine (cc _).mono ?_; rintro e w1 ⟨rfl, hx1⟩; replace hv := hv.trans hx1; clear hx1)
      go_meet
      case rel => exact ⟨congrArg Value.string HE.out, hv⟩
  obtain ⟨rfl, hvc⟩ := hcut
  clear hv
  have hv := hvc
  clear hvc
  go_upto_if 69 with fail
  go_cut [3] from 4 (fun v wx => v = .string S8 ∧ Ext W wx)
  case first => as_aux_lemma =>
    cases keep
    · skip
      go_wp2
      go_meet
      case rel => exact ⟨congrArg Value.string ((catW_nil _).symm.trans H8.out), hv⟩
    · skip
      go_wp2
      go_meet
      case rel => exact ⟨congrArg Value.string (by rw [← H8.out]; exact cat_is (by simp [ByteArray.data_append, optW, Lib.joinTail])), hv⟩
  obtain ⟨rfl, hvc⟩ := hcut
  clear hv
  have hv := hvc
  clear hvc
  go_upto_if 74 with fail
  go_cut [3] from 4 (fun v wx => v = .string S9 ∧ Ext W wx)
  case first => as_aux_lemma =>
    cases ton
    · skip
      go_wp2
      go_meet
      case rel => exact ⟨congrArg Value.string ((catW_nil _).symm.trans H9.out), hv⟩
    · clear cP cS cD cM cF cT cB cQ
      have l1 : (⟨#[32, 114, 111, 117, 116, 101, 45, 116, 111, 32]⟩ : ByteArray).size = 10 := rfl
      have l2 : (⟨#[32]⟩ : ByteArray).size = 1 := rfl
      obtain ⟨X1, g1⟩ : ∃ X, S8 ++ ⟨#[32, 114, 111, 117, 116, 101, 45, 116, 111, 32]⟩ = X := ⟨_, rfl⟩
      obtain ⟨X2, g2⟩ : ∃ X, X1 ++ tif = X := ⟨_, rfl⟩
      obtain ⟨X3, g3⟩ : ∃ X, X2 ++ ⟨#[32]⟩ = X := ⟨_, rfl⟩
      have y1 : X1.size = S8.size + 10 := by rw [← g1, ByteArray.size_append, l1]
      have y2 : X2.size = X1.size + tif.size := by rw [← g2, ByteArray.size_append]
      have y3 : X3.size = X2.size + 1 := by rw [← g3, ByteArray.size_append, l2]
      have s1 := fun w => add_texts2 S8 ⟨#[32, 114, 111, 117, 116, 101, 45, 116, 111, 32]⟩ (by omega) w
      have s2 := fun w => add_texts2 X1 tif (by omega) w
      have s3 := fun w => add_texts2 X2 ⟨#[32]⟩ (by omega) w
      have s4 := fun w => add_texts2 X3 gR (by omega) w
      rw [g1] at s1; rw [g2] at s2; rw [g3] at s3
      have HE : Hid (X3 ++ gR = S9) := by show _ = _; rw [← H9.out, ← g3, ← g2, ← g1]; exact cat_is (by simp [ByteArray.data_append, optW, Lib.joinTail])
      clear g1 g2 g3 y1 y2 y3
      go_upto_region 22 with fail
      refine wp_region_eager [(0, false), (1, false), (2, false), (3, false), (4, false), (5, false), (6, false), (7, false), (8, false), (9, false), (10, true), (11, false), (12, false)] (by kernel_rfl) (by kernel_rfl) rfl (by kernel_rfl) (fun _ _ _ _ _ h => h) ?_
      replace hv := hv.drew
      generalize wc.drew = WD at *
      replace x22 := fun w' h => x22 w' (hv.trans h)
      replace x23 := fun w' h => x23 w' (hv.trans h)
      have hx0 := Ext.refl WD
      repeat (first
        | (refine wpE_read (v := ?_) rfl (by rfl) ?_ ?_; rotate_left; (focus (intro w' hx; go_simp; first | done | with_reducible rfl)); simp only [Act.put, List.setIfInBounds_toArray, List.set_cons_zero, List.set_cons_succ])
        | (refine wpE_call rfl (by rfl) (fun K hK => ?_); go_simp; first
            | (go_at_call 44; refine (cR _).mono ?_; rintro e w1 ⟨rfl, hx1⟩; refine hK _ _ hx1 ?_; clear hK K; replace x22 := fun w' h => x22 w' (hx1.trans h); replace x23 := fun w' h => x23 w' (hx1.trans h); replace hx0 := hx0.trans hx1; clear hx1)))
      refine wpE_done ?_
      go_wp2
      go_meet
      case rel => exact ⟨congrArg Value.string HE.out, hv.trans hx0⟩
  obtain ⟨rfl, hvc⟩ := hcut
  clear hv
  have hv := hvc
  clear hvc
  go_upto_if 89 with fail
  go_cut [3] from 4 (fun v wx => v = .string S10 ∧ Ext W wx)
  case first => as_aux_lemma =>
    cases pon
    · skip
      go_wp2
      go_meet
      case rel => exact ⟨congrArg Value.string ((catW_nil _).symm.trans H10.out), hv⟩
    · clear cP cS cD cM cF cT cB cR
      have l1 : (⟨#[32, 114, 101, 112, 108, 121, 45, 116, 111, 32]⟩ : ByteArray).size = 10 := rfl
      have l2 : (⟨#[32]⟩ : ByteArray).size = 1 := rfl
      obtain ⟨X1, g1⟩ : ∃ X, S9 ++ ⟨#[32, 114, 101, 112, 108, 121, 45, 116, 111, 32]⟩ = X := ⟨_, rfl⟩
      obtain ⟨X2, g2⟩ : ∃ X, X1 ++ pif = X := ⟨_, rfl⟩
      obtain ⟨X3, g3⟩ : ∃ X, X2 ++ ⟨#[32]⟩ = X := ⟨_, rfl⟩
      have y1 : X1.size = S9.size + 10 := by rw [← g1, ByteArray.size_append, l1]
      have y2 : X2.size = X1.size + pif.size := by rw [← g2, ByteArray.size_append]
      have y3 : X3.size = X2.size + 1 := by rw [← g3, ByteArray.size_append, l2]
      have s1 := fun w => add_texts2 S9 ⟨#[32, 114, 101, 112, 108, 121, 45, 116, 111, 32]⟩ (by omega) w
      have s2 := fun w => add_texts2 X1 pif (by omega) w
      have s3 := fun w => add_texts2 X2 ⟨#[32]⟩ (by omega) w
      have s4 := fun w => add_texts2 X3 gQ (by omega) w
      rw [g1] at s1; rw [g2] at s2; rw [g3] at s3
      have HE : Hid (X3 ++ gQ = S10) := by show _ = _; rw [← H10.out, ← g3, ← g2, ← g1]; exact cat_is (by simp [ByteArray.data_append, optW, Lib.joinTail])
      clear g1 g2 g3 y1 y2 y3
      go_upto_region 24 with fail
      refine wp_region_eager [(0, false), (1, false), (2, false), (3, false), (4, false), (5, false), (6, false), (7, false), (8, false), (9, false), (10, true), (11, false), (12, false)] (by kernel_rfl) (by kernel_rfl) rfl (by kernel_rfl) (fun _ _ _ _ _ h => h) ?_
      replace hv := hv.drew
      generalize wc.drew = WD at *
      replace x25 := fun w' h => x25 w' (hv.trans h)
      replace x26 := fun w' h => x26 w' (hv.trans h)
      have hx0 := Ext.refl WD
      repeat (first
        | (refine wpE_read (v := ?_) rfl (by rfl) ?_ ?_; rotate_left; (focus (intro w' hx; go_simp; first | done | with_reducible rfl)); simp only [Act.put, List.setIfInBounds_toArray, List.set_cons_zero, List.set_cons_succ])
        | (refine wpE_call rfl (by rfl) (fun K hK => ?_); go_simp; first
            | (go_at_call 44; refine (cQ _).mono ?_; rintro e w1 ⟨rfl, hx1⟩; refine hK _ _ hx1 ?_; clear hK K; replace x25 := fun w' h => x25 w' (hx1.trans h); replace x26 := fun w' h => x26 w' (hx1.trans h); replace hx0 := hx0.trans hx1; clear hx1)))
      refine wpE_done ?_
      go_wp2
      go_meet
      case rel => exact ⟨congrArg Value.string HE.out, hv.trans hx0⟩
  obtain ⟨rfl, hvc⟩ := hcut
  clear hv
  have hv := hvc
  clear hvc
  go_upto_if 104 with fail
  go_cut [3] from 4 (fun v wx => v = .string S11 ∧ Ext W wx)
  case first => as_aux_lemma =>
    by_cases hq : table = 0
    · subst hq
      go_wp2
      go_meet
      case rel => exact ⟨congrArg Value.string ((catW_nil _).symm.trans H11.out), hv⟩
    · have hne : (table != 0) = true := by simpa using hq
      have HE : Hid (S10 ++ ⟨#[32, 116, 97, 98, 108, 101, 32]⟩ ++ dB = S11) := by show _ = _; rw [← H11.out, show (table == 0) = false by simpa using hq]; exact cat_is (by simp [ByteArray.data_append, optW, Lib.joinTail])
      have cc := cB
      clear cP cS cD cM cF cT cB cR cQ
      go_wp2_with (go_at_call 22; refine (cc _).mono ?_; rintro e w1 ⟨rfl, hx1⟩; replace hv := hv.trans hx1; clear hx1)
      go_meet
      case rel => exact ⟨congrArg Value.string HE.out, hv⟩
  obtain ⟨rfl, hvc⟩ := hcut
  clear hv
  have hv := hvc
  clear hvc
  go_wp2
  go_ret
  exact ⟨rfl, hx0.trans hv⟩

theorem refPrintRule_any (r : RuleV) (w : World) (hr : RuleOk r) : Calls Tryz.prog 17 #[(.agg #[.bool r.pass, .bool r.ret, .bool r.quick, .string r.on, .int .i64 r.proto, .bool r.src.any, .string r.src.table, .int .u32 r.src.a, .int .i64 r.src.n, .int .i64 r.src.low, .int .i64 r.src.high, .bool r.dst.any, .string r.dst.table, .int .u32 r.dst.a, .int .i64 r.dst.n, .int .i64 r.dst.low, .int .i64 r.dst.high, .int .i64 r.set, .int .i64 r.mask, .int .i64 r.type, .bool r.keep, .bool r.rt.on, .string r.rt.iface, .int .u32 r.rt.gate, .bool r.rp.on, .string r.rp.iface, .int .u32 r.rp.gate, .int .i64 r.table])] w fun e w' => e = .returned (.string (printE r)) ∧ Ext w w' := by
  unfold printE
  cases hI : isR r with
  | true => rw [if_pos rfl]; exact refPrintGood_any r w hr hI
  | false =>
    have c0 := fun w => refIsRule_any r w hr
    rw [hI] at c0
    rw [if_neg (by decide)]
    clear hI hr
    obtain ⟨pass, ret, quick, on, proto, ⟨sany, stab, sa, sn, slo, shi⟩, ⟨dany, dtab, da, dn, dlo, dhi⟩, set, mask, type, keep, ⟨ton, tif, tg⟩, ⟨pon, pif, pg⟩, table⟩ := r
    dsimp only at *
    obtain ⟨W, hW⟩ : ∃ W, w.alloc (.cells #[.bool pass, .bool ret, .bool quick, .string on, .int .i64 proto, .bool sany, .string stab, .int .u32 sa, .int .i64 sn, .int .i64 slo, .int .i64 shi, .bool dany, .string dtab, .int .u32 da, .int .i64 dn, .int .i64 dlo, .int .i64 dhi, .int .i64 set, .int .i64 mask, .int .i64 type, .bool keep, .bool ton, .string tif, .int .u32 tg, .bool pon, .string pif, .int .u32 pg, .int .i64 table] 32) = W := ⟨_, rfl⟩
    have hx0 : Ext w W := hW ▸ (Ext.refl w).alloc _
    have HB : Hid (W.heap[w.heap.size]? = some (.cells #[.bool pass, .bool ret, .bool quick, .string on, .int .i64 proto, .bool sany, .string stab, .int .u32 sa, .int .i64 sn, .int .i64 slo, .int .i64 shi, .bool dany, .string dtab, .int .u32 da, .int .i64 dn, .int .i64 dlo, .int .i64 dhi, .int .i64 set, .int .i64 mask, .int .i64 type, .bool keep, .bool ton, .string tif, .int .u32 tg, .bool pon, .string pif, .int .u32 pg, .int .i64 table] 32 (0, 0))) := hW ▸ heap_new w _
    go_enter Tryz.func17, Tryz.ntmps17
    go_wp2_with (first
      | (go_at_call 19; refine (c0 _).mono ?_; rintro e w1 ⟨rfl, hx1⟩)
      | (refine wpl_load (by rfl) 32 _ rfl w.heap.size _ _ _ rfl HB.out Tryz.underlying32 rfl rule_size ?_))
    go_ret
    exact ⟨rfl, hx0.trans hx1⟩
end Go.Proofs.YtbmmgjmmooakpaaGreatDoor.Ru
