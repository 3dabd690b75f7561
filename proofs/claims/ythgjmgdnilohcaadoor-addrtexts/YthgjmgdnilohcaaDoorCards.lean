/-
  DERIVED. GIVEN WITH THE SEED: THE CARDS: each row of YthgjmgdnilohcaaDoorRows.lean that lists a variable, with what it lists TIED to the program's text (the seventh form; the later family's looks); each row that meets fmt, with fmt's text TOLD by the authors' own Lean function (tested against real Go, not proved from fmt's source: count such statements apart). THE CARD IS WHAT COUNTS. Prove the row's statement (the work); the ties are given (YthgjmgdnilohcaaDoorTie.lean); close each card by the builder's one call (the guide's Derived/Test/ToyasCard.lean, 'card_holds'). Laid BY PROGRAM, IN A SANDBOX (cutbox-door.mjs). By AI agents, Wed Nov 11 2026. No macro, syntax, notation, axiom, sorry.
-/
import Derived.Test.YthgjmgdnilohcaaDoorRows
import GoSem.ClaimSeven
namespace Go.Proofs.YthgjmgdnilohcaaDoor
namespace Rows

/-- THE TIED CARD OF 'castellanlaw3.AddrTexts'. -/
def addrTextsCard : Claim7 := { stood := { row := addrTextsRow, standIns := [], harness := (true, "86bb7facd74a13a22fcdd7115560533c063991d0d9c219c4481f550c70c9b7c6"), looks := false }, kinds := [], alts := [], laidByText := true, laidKinds := [.data, .data, .data], laidTests := true, laidLooks := .later }
def AddrTextsCardSaid : Prop := Claim7.holds Tryd.pinned (.plain (OpenSpec.ofChange addrTextsSpec)) addrTextsCard

/-- THE TIED CARD OF 'castellanlaw3.AddrLooks'. -/
def addrLooksCard : Claim7 := { stood := { row := addrLooksRow, standIns := [], harness := (true, "86bb7facd74a13a22fcdd7115560533c063991d0d9c219c4481f550c70c9b7c6"), looks := false }, kinds := [], alts := [], laidByText := true, laidKinds := [.data, .data, .data], laidTests := true, laidLooks := .later }
def AddrLooksCardSaid : Prop := Claim7.holds Tryd.pinned (.plain (OpenSpec.ofChange addrLooksSpec)) addrLooksCard

/-- THE TIED CARD OF 'castellanlaw3.AddrBack'. -/
def addrBackCard : Claim7 := { stood := { row := addrBackRow, standIns := [], harness := (true, "86bb7facd74a13a22fcdd7115560533c063991d0d9c219c4481f550c70c9b7c6"), looks := false }, kinds := [], alts := [], laidByText := true, laidKinds := [.data, .data, .data], laidTests := true, laidLooks := .later }
def AddrBackCardSaid : Prop := Claim7.holds Tryd.pinned (.plain (OpenSpec.ofChange addrBackSpec)) addrBackCard

/-- THE TIED CARD OF 'castellanlaw3.AddrHas'. -/
def addrHasCard : Claim7 := { stood := { row := addrHasRow, standIns := [], harness := (true, "86bb7facd74a13a22fcdd7115560533c063991d0d9c219c4481f550c70c9b7c6"), looks := false }, kinds := [], alts := [], laidByText := true, laidKinds := [.data, .data, .data], laidTests := true, laidLooks := .later }
def AddrHasCardSaid : Prop := Claim7.holds Tryd.pinned (.plain (OpenSpec.ofChange addrHasSpec)) addrHasCard

/-- THE TIED CARD OF 'castellanlaw3.AddrNorms'. -/
def addrNormsCard : Claim7 := { stood := { row := addrNormsRow, standIns := [], harness := (true, "86bb7facd74a13a22fcdd7115560533c063991d0d9c219c4481f550c70c9b7c6"), looks := false }, kinds := [], alts := [], laidByText := true, laidKinds := [.data, .data, .data], laidTests := true, laidLooks := .later }
def AddrNormsCardSaid : Prop := Claim7.holds Tryd.pinned (.plain (OpenSpec.ofChange addrNormsSpec)) addrNormsCard

/-- THE TIED CARD OF 'castellanlaw3.AddrPairs'. -/
def addrPairsCard : Claim7 := { stood := { row := addrPairsRow, standIns := [], harness := (true, "86bb7facd74a13a22fcdd7115560533c063991d0d9c219c4481f550c70c9b7c6"), looks := false }, kinds := [], alts := [], laidByText := true, laidKinds := [.data, .data, .data], laidTests := true, laidLooks := .later }
def AddrPairsCardSaid : Prop := Claim7.holds Tryd.pinned (.plain (OpenSpec.ofChange addrPairsSpec)) addrPairsCard

/-- THE SECOND FORM's CARD OF 'castellanlaw3.AddrTexts'. -/
def addrTextsUptoCard : Claim7 := { stood := { row := addrTextsUptoRow, standIns := [], harness := (true, "86bb7facd74a13a22fcdd7115560533c063991d0d9c219c4481f550c70c9b7c6"), looks := false }, kinds := [], alts := [], laidByText := true, laidKinds := [.data, .data, .data], laidTests := true, laidLooks := .later }
def AddrTextsUptoCardSaid : Prop := Claim7.holds Tryd.pinned (.plain (OpenSpec.upto addrTextsSpec)) addrTextsUptoCard

/-- THE SECOND FORM's CARD OF 'castellanlaw3.AddrLooks'. -/
def addrLooksUptoCard : Claim7 := { stood := { row := addrLooksUptoRow, standIns := [], harness := (true, "86bb7facd74a13a22fcdd7115560533c063991d0d9c219c4481f550c70c9b7c6"), looks := false }, kinds := [], alts := [], laidByText := true, laidKinds := [.data, .data, .data], laidTests := true, laidLooks := .later }
def AddrLooksUptoCardSaid : Prop := Claim7.holds Tryd.pinned (.plain (OpenSpec.upto addrLooksSpec)) addrLooksUptoCard

/-- THE SECOND FORM's CARD OF 'castellanlaw3.AddrBack'. -/
def addrBackUptoCard : Claim7 := { stood := { row := addrBackUptoRow, standIns := [], harness := (true, "86bb7facd74a13a22fcdd7115560533c063991d0d9c219c4481f550c70c9b7c6"), looks := false }, kinds := [], alts := [], laidByText := true, laidKinds := [.data, .data, .data], laidTests := true, laidLooks := .later }
def AddrBackUptoCardSaid : Prop := Claim7.holds Tryd.pinned (.plain (OpenSpec.upto addrBackSpec)) addrBackUptoCard

/-- THE SECOND FORM's CARD OF 'castellanlaw3.AddrHas'. -/
def addrHasUptoCard : Claim7 := { stood := { row := addrHasUptoRow, standIns := [], harness := (true, "86bb7facd74a13a22fcdd7115560533c063991d0d9c219c4481f550c70c9b7c6"), looks := false }, kinds := [], alts := [], laidByText := true, laidKinds := [.data, .data, .data], laidTests := true, laidLooks := .later }
def AddrHasUptoCardSaid : Prop := Claim7.holds Tryd.pinned (.plain (OpenSpec.upto addrHasSpec)) addrHasUptoCard

/-- THE SECOND FORM's CARD OF 'castellanlaw3.AddrNorms'. -/
def addrNormsUptoCard : Claim7 := { stood := { row := addrNormsUptoRow, standIns := [], harness := (true, "86bb7facd74a13a22fcdd7115560533c063991d0d9c219c4481f550c70c9b7c6"), looks := false }, kinds := [], alts := [], laidByText := true, laidKinds := [.data, .data, .data], laidTests := true, laidLooks := .later }
def AddrNormsUptoCardSaid : Prop := Claim7.holds Tryd.pinned (.plain (OpenSpec.upto addrNormsSpec)) addrNormsUptoCard

/-- THE SECOND FORM's CARD OF 'castellanlaw3.AddrPairs'. -/
def addrPairsUptoCard : Claim7 := { stood := { row := addrPairsUptoRow, standIns := [], harness := (true, "86bb7facd74a13a22fcdd7115560533c063991d0d9c219c4481f550c70c9b7c6"), looks := false }, kinds := [], alts := [], laidByText := true, laidKinds := [.data, .data, .data], laidTests := true, laidLooks := .later }
def AddrPairsUptoCardSaid : Prop := Claim7.holds Tryd.pinned (.plain (OpenSpec.upto addrPairsSpec)) addrPairsUptoCard
end Rows
end Go.Proofs.YthgjmgdnilohcaaDoor
