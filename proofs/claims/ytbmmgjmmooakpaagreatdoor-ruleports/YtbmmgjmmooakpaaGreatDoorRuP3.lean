/- Plain: whether a rule may be, as the document asks it. -/
import Derived.Test.YtbmmgjmmooakpaaGreatDoorRuP2
namespace Go.Proofs.YtbmmgjmmooakpaaGreatDoor.Ru
open Go.RowKit
set_option linter.unusedVariables false

theorem action_doc (r : RuleV) : actionB r = (!(r.pass && r.ret) && !(!r.pass && (r.keep || (r.rt.on || (r.rp.on || !(r.table == 0)))))) := by
  unfold actionB
  generalize (r.table == 0) = t
  cases r.pass <;> cases r.ret <;> cases r.keep <;> cases r.rt.on <;> cases r.rp.on <;> cases t <;> rfl

theorem in_doc (n low high : Int) : inB n low high = !(decide (n < low) || decide (high < n)) := by
  unfold inB
  rw [Bool.eq_iff_iff]
  simp

theorem flags_doc (r : RuleV) (hr : RuleOk r) : flagsB r =
    (!(decide (r.mask < 0) || (decide (63 < r.mask) || (decide (r.set < 0) || !(andNot r.set r.mask == 0)))) && !(!(r.proto == 6) && (!(r.mask == 0) || !(r.set == 0)))) := by
  have hs := fun m0 m1 h => (andNot_small r.set r.mask hr.s0 hr.s1 m0 m1 h).1
  have h0 : r.mask = 0 → r.set = 0 → andNot r.set r.mask = 0 := fun h1 h2 => by rw [h1, h2]; decide
  unfold flagsB inB
  generalize andNot r.set r.mask = z at *
  generalize r.set = s at *
  generalize r.mask = m at *
  rw [Bool.eq_iff_iff]
  by_cases g6 : r.proto = 6
  · rw [if_pos g6, g6]
    simp
    omega
  · rw [if_neg g6, show (r.proto == 6) = false from by simpa using g6]
    simp
    omega

theorem type_doc (r : RuleV) : typeB r = (!(decide (r.type < -1) || decide (255 < r.type)) && !(!(r.proto == 1) && !(r.type == -1))) := by
  unfold typeB inB
  generalize r.type = t
  generalize (r.proto == 1) = p
  rw [Bool.eq_iff_iff]
  cases p
  · simp; omega
  · simp; omega

theorem table_doc (r : RuleV) : inB r.table 0 3 = (decide (0 ≤ r.table) && decide (r.table < 4)) := by
  unfold inB
  rw [Bool.eq_iff_iff]
  simp; omega

/-- The document's way to ask. -/
theorem isR_doc (r : RuleV) (hr : RuleOk r) : isR r =
    (!(r.pass && r.ret) && (!(!r.pass && (r.keep || (r.rt.on || (r.rp.on || !(r.table == 0))))) && (!(!decide (r.on = txt []) && !nameB r.on) && (!(decide (r.proto < 0) || decide (255 < r.proto)) &&
      (!(!(endB r.src && (portsB r.src && (allB r.src || (r.proto == 6 || r.proto == 17)))) || !(endB r.dst && (portsB r.dst && (allB r.dst || (r.proto == 6 || r.proto == 17))))) &&
      (!(decide (r.mask < 0) || (decide (63 < r.mask) || (decide (r.set < 0) || !(andNot r.set r.mask == 0)))) && (!(!(r.proto == 6) && (!(r.mask == 0) || !(r.set == 0))) &&
      (!(decide (r.type < -1) || decide (255 < r.type)) && (!(!(r.proto == 1) && !(r.type == -1)) && (pinB r.rt && (pinB r.rp && (decide (0 ≤ r.table) && decide (r.table < 4))))))))))))) := by
  unfold isR sideB
  rw [action_doc, in_doc r.proto, flags_doc r hr, type_doc, table_doc]
  simp only [Bool.not_or, Bool.not_and, Bool.not_not, Bool.and_assoc]
end Go.Proofs.YtbmmgjmmooakpaaGreatDoor.Ru
