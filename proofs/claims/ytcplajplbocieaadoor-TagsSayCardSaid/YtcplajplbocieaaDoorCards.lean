/-
  DERIVED. GIVEN WITH THE SEED: THE CARDS: each row of YtcplajplbocieaaDoorRows.lean that lists a variable, with what it lists TIED to the program's text (the seventh form; the later family's looks); each row that meets fmt, with fmt's text TOLD by the authors' own Lean function (tested against real Go, not proved from fmt's source: count such statements apart). THE CARD IS WHAT COUNTS. Prove the row's statement (the work); the ties are given (YtcplajplbocieaaDoorTie.lean); close each card by the builder's one call (the guide's Derived/Test/ToyasCard.lean, 'card_holds'). Laid BY PROGRAM, IN A SANDBOX (cutbox-door.mjs). By AI agents, Wed Nov 11 2026. No macro, syntax, notation, axiom, sorry.
-/
import Derived.Test.YtcplajplbocieaaDoorRows
import GoSem.ClaimSeven
namespace Go.Proofs.YtcplajplbocieaaDoor
namespace Rows

/-- THE TIED CARD OF 'gristmilllaw14.TagsSay'. -/
def tagsSayCard : Claim7 := { stood := { row := tagsSayRow, standIns := [], harness := (true, "9bc24bdf8beeb7a32edd26e70c69d420f7bff45cb7144d3fff4f024490532cda"), looks := false }, kinds := [], alts := [], laidByText := true, laidKinds := [.data, .data, .data], laidTests := true, laidLooks := .later }
def TagsSayCardSaid : Prop := Claim7.holds Tryd.pinned (.plain (OpenSpec.ofChange tagsSaySpec)) tagsSayCard

/-- THE TIED CARD OF 'gristmilllaw14.TagsOrder'. -/
def tagsOrderCard : Claim7 := { stood := { row := tagsOrderRow, standIns := [], harness := (true, "9bc24bdf8beeb7a32edd26e70c69d420f7bff45cb7144d3fff4f024490532cda"), looks := false }, kinds := [], alts := [], laidByText := true, laidKinds := [.data, .data, .data], laidTests := true, laidLooks := .later }
def TagsOrderCardSaid : Prop := Claim7.holds Tryd.pinned (.plain (OpenSpec.ofChange tagsOrderSpec)) tagsOrderCard

/-- THE TIED CARD OF 'gristmilllaw14.TagsUnite'. -/
def tagsUniteCard : Claim7 := { stood := { row := tagsUniteRow, standIns := [], harness := (true, "9bc24bdf8beeb7a32edd26e70c69d420f7bff45cb7144d3fff4f024490532cda"), looks := false }, kinds := [], alts := [], laidByText := true, laidKinds := [.data, .data, .data], laidTests := true, laidLooks := .later }
def TagsUniteCardSaid : Prop := Claim7.holds Tryd.pinned (.plain (OpenSpec.ofChange tagsUniteSpec)) tagsUniteCard

/-- THE TIED CARD OF 'gristmilllaw14.TagsKinds'. -/
def tagsKindsCard : Claim7 := { stood := { row := tagsKindsRow, standIns := [], harness := (true, "9bc24bdf8beeb7a32edd26e70c69d420f7bff45cb7144d3fff4f024490532cda"), looks := false }, kinds := [], alts := [], laidByText := true, laidKinds := [.data, .data, .data], laidTests := true, laidLooks := .later }
def TagsKindsCardSaid : Prop := Claim7.holds Tryd.pinned (.plain (OpenSpec.ofChange tagsKindsSpec)) tagsKindsCard

/-- THE SECOND FORM's CARD OF 'gristmilllaw14.TagsSay'. -/
def tagsSayUptoCard : Claim7 := { stood := { row := tagsSayUptoRow, standIns := [], harness := (true, "9bc24bdf8beeb7a32edd26e70c69d420f7bff45cb7144d3fff4f024490532cda"), looks := false }, kinds := [], alts := [], laidByText := true, laidKinds := [.data, .data, .data], laidTests := true, laidLooks := .later }
def TagsSayUptoCardSaid : Prop := Claim7.holds Tryd.pinned (.plain (OpenSpec.upto tagsSaySpec)) tagsSayUptoCard

/-- THE SECOND FORM's CARD OF 'gristmilllaw14.TagsOrder'. -/
def tagsOrderUptoCard : Claim7 := { stood := { row := tagsOrderUptoRow, standIns := [], harness := (true, "9bc24bdf8beeb7a32edd26e70c69d420f7bff45cb7144d3fff4f024490532cda"), looks := false }, kinds := [], alts := [], laidByText := true, laidKinds := [.data, .data, .data], laidTests := true, laidLooks := .later }
def TagsOrderUptoCardSaid : Prop := Claim7.holds Tryd.pinned (.plain (OpenSpec.upto tagsOrderSpec)) tagsOrderUptoCard

/-- THE SECOND FORM's CARD OF 'gristmilllaw14.TagsUnite'. -/
def tagsUniteUptoCard : Claim7 := { stood := { row := tagsUniteUptoRow, standIns := [], harness := (true, "9bc24bdf8beeb7a32edd26e70c69d420f7bff45cb7144d3fff4f024490532cda"), looks := false }, kinds := [], alts := [], laidByText := true, laidKinds := [.data, .data, .data], laidTests := true, laidLooks := .later }
def TagsUniteUptoCardSaid : Prop := Claim7.holds Tryd.pinned (.plain (OpenSpec.upto tagsUniteSpec)) tagsUniteUptoCard

/-- THE SECOND FORM's CARD OF 'gristmilllaw14.TagsKinds'. -/
def tagsKindsUptoCard : Claim7 := { stood := { row := tagsKindsUptoRow, standIns := [], harness := (true, "9bc24bdf8beeb7a32edd26e70c69d420f7bff45cb7144d3fff4f024490532cda"), looks := false }, kinds := [], alts := [], laidByText := true, laidKinds := [.data, .data, .data], laidTests := true, laidLooks := .later }
def TagsKindsUptoCardSaid : Prop := Claim7.holds Tryd.pinned (.plain (OpenSpec.upto tagsKindsSpec)) tagsKindsUptoCard
end Rows
end Go.Proofs.YtcplajplbocieaaDoor
