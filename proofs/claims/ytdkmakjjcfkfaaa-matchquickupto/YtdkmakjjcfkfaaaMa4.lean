/- Package match: One's region of 76 operations, by stages. (Made by tools/made/one15.py.) -/
import Derived.Test.YtdkmakjjcfkfaaaMa3
import Derived.Test.YtdkmakjjcfkfaaaHold
namespace Go.Proofs.Ytdkmakjjcfkfaaa.Ma
open Go.RowKit Go.Proofs.Ytdkmakjjcfkfaaa Go.Proofs.Ytdkmakjjcfkfaaa.Ru
set_option linter.unusedVariables false
set_option linter.unusedSimpArgs false
set_option maxRecDepth 100000

/-- The operations of One's region. -/
noncomputable def ops10 : List Oper := match Try.f10.body with
  | some (.seq _ (.seq (.region _ ops _) _)) => ops.toList
  | _ => []

def sch10 : List (Nat × Bool) := [(0, false), (1, false), (2, false), (3, false), (4, false), (5, false), (6, false), (7, false), (8, false), (9, false), (10, false), (11, false), (12, false), (13, false), (14, false), (15, false), (16, false), (17, false), (18, false), (19, false), (20, false), (21, false), (22, false), (23, false), (24, false), (25, false), (26, false), (27, false), (28, false), (29, false), (30, false), (31, false), (32, false), (33, false), (34, false), (35, false), (36, false), (37, false), (38, false), (39, false), (40, false), (41, false), (42, false), (43, false), (44, false), (45, false), (46, false), (47, false), (48, false), (49, false), (50, false), (51, false), (52, false), (53, false), (54, false), (55, false), (56, false), (57, false), (58, false), (59, true), (60, true), (61, false), (62, false), (63, false), (64, false), (65, false), (66, false), (67, false), (68, false), (69, false), (70, false), (71, false), (72, true), (73, true), (74, false), (75, false)]

theorem eager10 : eagerB ops10.toArray sch10 (Array.replicate ops10.toArray.size false) = true := by kernel_rfl

theorem region10 {Q : Exit → Act → World → Prop} {a : Act} {w : World} (hQ : ∀ c a d v w, Q (.panic c) (Act.put a (some d) v) w → Q (.panic c) a w) (h : WpH Ext Try.prog ops10.toArray Q (Q .normal) sch10 a w.drew) :
    (Code.region 1 ops10.toArray true).wp Try.prog Q a w :=
  wp_region_eager sch10 (by kernel_rfl) (by kernel_rfl) (by kernel_rfl) eager10 hQ h.out
end Go.Proofs.Ytdkmakjjcfkfaaa.Ma
