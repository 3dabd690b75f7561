/- What a law of chapter 15 looks at: rules, tables, a packet that come in. -/
import Derived.Test.YtdkmakjjcfkfaaaMaD
import Derived.Test.YtdkmakjjcfkfaaaFrame
namespace Go.Proofs.Ytdkmakjjcfkfaaa.Ma
open Go.RowKit Go.Proofs.Ytdkmakjjcfkfaaa Go.Proofs.Ytdkmakjjcfkfaaa.Ru
set_option linter.unusedVariables false
set_option linter.unusedSimpArgs false
set_option maxRecDepth 100000

theorem RuIn.toOk {r : RuleV} (h : RuIn r) : RuOk r := h.toRuOk

/-- What the law's first look says: too much, or not. -/
theorem names_any {T : List NmV} : NameOk T → True := fun _ => trivial

end Go.Proofs.Ytdkmakjjcfkfaaa.Ma
