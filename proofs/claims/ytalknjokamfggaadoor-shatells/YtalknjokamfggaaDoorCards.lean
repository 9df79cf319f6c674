/-
  DERIVED. GIVEN WITH THE SEED: THE CARDS: each row of YtalknjokamfggaaDoorRows.lean that lists a variable, with what it lists TIED to the program's text (the seventh form; the later family's looks); each row that meets fmt, with fmt's text TOLD by the authors' own Lean function (tested against real Go, not proved from fmt's source: count such statements apart). THE CARD IS WHAT COUNTS. Prove the row's statement (the work); the ties are given (YtalknjokamfggaaDoorTie.lean); close each card by the builder's one call (the guide's Derived/Test/ToyasCard.lean, 'card_holds'). Laid BY PROGRAM, IN A SANDBOX (cutbox-door.mjs). By AI agents, Wed Nov 11 2026. No macro, syntax, notation, axiom, sorry.
-/
import Derived.Test.YtalknjokamfggaaDoorRows
import GoSem.ClaimSeven
namespace Go.Proofs.YtalknjokamfggaaDoor
namespace Rows

/-- THE TIED CARD OF 'roundhouselaw01.ShaTells'. -/
def shaTellsCard : Claim7 := { stood := { row := shaTellsRow, standIns := [], harness := (true, "d3046f4169df6fd6d561a69d357ca9c18f16641e9cab2744f82fccfa3cedd768"), looks := false }, kinds := [], alts := [], laidByText := true, laidKinds := [.data, .data], laidTests := true, laidLooks := .later }
def ShaTellsCardSaid : Prop := Claim7.holds Tryd.pinned (.plain (OpenSpec.ofChange shaTellsSpec)) shaTellsCard

/-- THE TIED CARD OF 'roundhouselaw01.ShaTags'. -/
def shaTagsCard : Claim7 := { stood := { row := shaTagsRow, standIns := [], harness := (true, "d3046f4169df6fd6d561a69d357ca9c18f16641e9cab2744f82fccfa3cedd768"), looks := false }, kinds := [], alts := [], laidByText := true, laidKinds := [.data, .data], laidTests := true, laidLooks := .later }
def ShaTagsCardSaid : Prop := Claim7.holds Tryd.pinned (.plain (OpenSpec.ofChange shaTagsSpec)) shaTagsCard

/-- THE TIED CARD OF 'roundhouselaw01.ShaSame'. -/
def shaSameCard : Claim7 := { stood := { row := shaSameRow, standIns := [], harness := (true, "d3046f4169df6fd6d561a69d357ca9c18f16641e9cab2744f82fccfa3cedd768"), looks := false }, kinds := [], alts := [], laidByText := true, laidKinds := [.data, .data], laidTests := true, laidLooks := .later }
def ShaSameCardSaid : Prop := Claim7.holds Tryd.pinned (.plain (OpenSpec.ofChange shaSameSpec)) shaSameCard

/-- THE TIED CARD OF 'roundhouselaw01.ShaSizes'. -/
def shaSizesCard : Claim7 := { stood := { row := shaSizesRow, standIns := [], harness := (true, "d3046f4169df6fd6d561a69d357ca9c18f16641e9cab2744f82fccfa3cedd768"), looks := false }, kinds := [], alts := [], laidByText := true, laidKinds := [.data, .data], laidTests := true, laidLooks := .later }
def ShaSizesCardSaid : Prop := Claim7.holds Tryd.pinned (.plain (OpenSpec.ofChange shaSizesSpec)) shaSizesCard

/-- THE TIED CARD OF 'roundhouselaw01.ShaBits'. -/
def shaBitsCard : Claim7 := { stood := { row := shaBitsRow, standIns := [], harness := (true, "d3046f4169df6fd6d561a69d357ca9c18f16641e9cab2744f82fccfa3cedd768"), looks := false }, kinds := [], alts := [], laidByText := true, laidKinds := [.data, .data], laidTests := true, laidLooks := .later }
def ShaBitsCardSaid : Prop := Claim7.holds Tryd.pinned (.plain (OpenSpec.ofChange shaBitsSpec)) shaBitsCard

/-- THE SECOND FORM's CARD OF 'roundhouselaw01.ShaTells'. -/
def shaTellsUptoCard : Claim7 := { stood := { row := shaTellsUptoRow, standIns := [], harness := (true, "d3046f4169df6fd6d561a69d357ca9c18f16641e9cab2744f82fccfa3cedd768"), looks := false }, kinds := [], alts := [], laidByText := true, laidKinds := [.data, .data], laidTests := true, laidLooks := .later }
def ShaTellsUptoCardSaid : Prop := Claim7.holds Tryd.pinned (.plain (OpenSpec.upto shaTellsSpec)) shaTellsUptoCard

/-- THE SECOND FORM's CARD OF 'roundhouselaw01.ShaTags'. -/
def shaTagsUptoCard : Claim7 := { stood := { row := shaTagsUptoRow, standIns := [], harness := (true, "d3046f4169df6fd6d561a69d357ca9c18f16641e9cab2744f82fccfa3cedd768"), looks := false }, kinds := [], alts := [], laidByText := true, laidKinds := [.data, .data], laidTests := true, laidLooks := .later }
def ShaTagsUptoCardSaid : Prop := Claim7.holds Tryd.pinned (.plain (OpenSpec.upto shaTagsSpec)) shaTagsUptoCard

/-- THE SECOND FORM's CARD OF 'roundhouselaw01.ShaSame'. -/
def shaSameUptoCard : Claim7 := { stood := { row := shaSameUptoRow, standIns := [], harness := (true, "d3046f4169df6fd6d561a69d357ca9c18f16641e9cab2744f82fccfa3cedd768"), looks := false }, kinds := [], alts := [], laidByText := true, laidKinds := [.data, .data], laidTests := true, laidLooks := .later }
def ShaSameUptoCardSaid : Prop := Claim7.holds Tryd.pinned (.plain (OpenSpec.upto shaSameSpec)) shaSameUptoCard

/-- THE SECOND FORM's CARD OF 'roundhouselaw01.ShaSizes'. -/
def shaSizesUptoCard : Claim7 := { stood := { row := shaSizesUptoRow, standIns := [], harness := (true, "d3046f4169df6fd6d561a69d357ca9c18f16641e9cab2744f82fccfa3cedd768"), looks := false }, kinds := [], alts := [], laidByText := true, laidKinds := [.data, .data], laidTests := true, laidLooks := .later }
def ShaSizesUptoCardSaid : Prop := Claim7.holds Tryd.pinned (.plain (OpenSpec.upto shaSizesSpec)) shaSizesUptoCard

/-- THE SECOND FORM's CARD OF 'roundhouselaw01.ShaBits'. -/
def shaBitsUptoCard : Claim7 := { stood := { row := shaBitsUptoRow, standIns := [], harness := (true, "d3046f4169df6fd6d561a69d357ca9c18f16641e9cab2744f82fccfa3cedd768"), looks := false }, kinds := [], alts := [], laidByText := true, laidKinds := [.data, .data], laidTests := true, laidLooks := .later }
def ShaBitsUptoCardSaid : Prop := Claim7.holds Tryd.pinned (.plain (OpenSpec.upto shaBitsSpec)) shaBitsUptoCard
end Rows
end Go.Proofs.YtalknjokamfggaaDoor
