/-
  DERIVED. GIVEN WITH THE SEED: THE CARDS: each row of YtddaoloabfkheaaGreatDoorRows.lean that lists a variable, with what it lists TIED to the program's text (the seventh form; the later family's looks); each row that meets fmt, with fmt's text TOLD by the authors' own Lean function (tested against real Go, not proved from fmt's source: count such statements apart). THE CARD IS WHAT COUNTS. Prove the row's statement (the work); the ties are given (YtddaoloabfkheaaGreatDoorTie.lean); close each card by the builder's one call (the guide's Derived/Test/ToyasCard.lean, 'card_holds'). Laid BY PROGRAM, IN A SANDBOX (cutbox-door.mjs). By AI agents, Wed Nov 11 2026. No macro, syntax, notation, axiom, sorry.
-/
import Derived.Test.YtddaoloabfkheaaGreatDoorRows
import GoSem.ClaimSeven
namespace Go.Proofs.YtddaoloabfkheaaGreatDoor
namespace Rows

/-- THE TIED CARD OF 'copselaw19.CacheAges'. -/
def cacheAgesCard : Claim7 := { stood := { row := cacheAgesRow, standIns := [], harness := (true, "da92fdecc0963017b2c066bfb5961c7866fd185168e7f0b0bb4acca21fd46283"), looks := true }, kinds := [], alts := [], laidByText := true, laidKinds := [.data, .handle, .pinned], laidTests := true, laidLooks := .later }
def CacheAgesCardSaid : Prop := Claim7.holds Tryz.pinned (.plain (OpenSpec.ofChange cacheAgesSpec)) cacheAgesCard

/-- THE TIED CARD OF 'copselaw19.CacheTrusts'. -/
def cacheTrustsCard : Claim7 := { stood := { row := cacheTrustsRow, standIns := [], harness := (true, "da92fdecc0963017b2c066bfb5961c7866fd185168e7f0b0bb4acca21fd46283"), looks := true }, kinds := [], alts := [], laidByText := true, laidKinds := [.data, .handle, .pinned], laidTests := true, laidLooks := .later }
def CacheTrustsCardSaid : Prop := Claim7.holds Tryz.pinned (.plain (OpenSpec.ofChange cacheTrustsSpec)) cacheTrustsCard

/-- THE TIED CARD OF 'copselaw19.CacheFresh'. -/
def cacheFreshCard : Claim7 := { stood := { row := cacheFreshRow, standIns := [], harness := (true, "da92fdecc0963017b2c066bfb5961c7866fd185168e7f0b0bb4acca21fd46283"), looks := true }, kinds := [], alts := [], laidByText := true, laidKinds := [.data, .handle, .pinned], laidTests := true, laidLooks := .later }
def CacheFreshCardSaid : Prop := Claim7.holds Tryz.pinned (.plain (OpenSpec.ofChange cacheFreshSpec)) cacheFreshCard

/-- THE TIED CARD OF 'copselaw19.CacheLoads'. -/
def cacheLoadsCard : Claim7 := { stood := { row := cacheLoadsRow, standIns := [], harness := (true, "da92fdecc0963017b2c066bfb5961c7866fd185168e7f0b0bb4acca21fd46283"), looks := true }, kinds := [], alts := [], laidByText := true, laidKinds := [.data, .handle, .pinned], laidTests := true, laidLooks := .later }
def CacheLoadsCardSaid : Prop := Claim7.holds Tryz.pinned (.plain (OpenSpec.ofChange cacheLoadsSpec)) cacheLoadsCard

/-- THE TIED CARD OF 'copselaw19.CacheAll'. -/
def cacheAllCard : Claim7 := { stood := { row := cacheAllRow, standIns := [], harness := (true, "da92fdecc0963017b2c066bfb5961c7866fd185168e7f0b0bb4acca21fd46283"), looks := true }, kinds := [], alts := [], laidByText := true, laidKinds := [.data, .handle, .pinned], laidTests := true, laidLooks := .later }
def CacheAllCardSaid : Prop := Claim7.holds Tryz.pinned (.plain (OpenSpec.ofChange cacheAllSpec)) cacheAllCard

/-- THE SECOND FORM's CARD OF 'copselaw19.CacheAges'. -/
def cacheAgesUptoCard : Claim7 := { stood := { row := cacheAgesUptoRow, standIns := [], harness := (true, "da92fdecc0963017b2c066bfb5961c7866fd185168e7f0b0bb4acca21fd46283"), looks := true }, kinds := [], alts := [], laidByText := true, laidKinds := [.data, .handle, .pinned], laidTests := true, laidLooks := .later }
def CacheAgesUptoCardSaid : Prop := Claim7.holds Tryz.pinned (.plain (OpenSpec.upto cacheAgesSpec)) cacheAgesUptoCard

/-- THE SECOND FORM's CARD OF 'copselaw19.CacheTrusts'. -/
def cacheTrustsUptoCard : Claim7 := { stood := { row := cacheTrustsUptoRow, standIns := [], harness := (true, "da92fdecc0963017b2c066bfb5961c7866fd185168e7f0b0bb4acca21fd46283"), looks := true }, kinds := [], alts := [], laidByText := true, laidKinds := [.data, .handle, .pinned], laidTests := true, laidLooks := .later }
def CacheTrustsUptoCardSaid : Prop := Claim7.holds Tryz.pinned (.plain (OpenSpec.upto cacheTrustsSpec)) cacheTrustsUptoCard

/-- THE SECOND FORM's CARD OF 'copselaw19.CacheFresh'. -/
def cacheFreshUptoCard : Claim7 := { stood := { row := cacheFreshUptoRow, standIns := [], harness := (true, "da92fdecc0963017b2c066bfb5961c7866fd185168e7f0b0bb4acca21fd46283"), looks := true }, kinds := [], alts := [], laidByText := true, laidKinds := [.data, .handle, .pinned], laidTests := true, laidLooks := .later }
def CacheFreshUptoCardSaid : Prop := Claim7.holds Tryz.pinned (.plain (OpenSpec.upto cacheFreshSpec)) cacheFreshUptoCard

/-- THE SECOND FORM's CARD OF 'copselaw19.CacheLoads'. -/
def cacheLoadsUptoCard : Claim7 := { stood := { row := cacheLoadsUptoRow, standIns := [], harness := (true, "da92fdecc0963017b2c066bfb5961c7866fd185168e7f0b0bb4acca21fd46283"), looks := true }, kinds := [], alts := [], laidByText := true, laidKinds := [.data, .handle, .pinned], laidTests := true, laidLooks := .later }
def CacheLoadsUptoCardSaid : Prop := Claim7.holds Tryz.pinned (.plain (OpenSpec.upto cacheLoadsSpec)) cacheLoadsUptoCard

/-- THE SECOND FORM's CARD OF 'copselaw19.CacheAll'. -/
def cacheAllUptoCard : Claim7 := { stood := { row := cacheAllUptoRow, standIns := [], harness := (true, "da92fdecc0963017b2c066bfb5961c7866fd185168e7f0b0bb4acca21fd46283"), looks := true }, kinds := [], alts := [], laidByText := true, laidKinds := [.data, .handle, .pinned], laidTests := true, laidLooks := .later }
def CacheAllUptoCardSaid : Prop := Claim7.holds Tryz.pinned (.plain (OpenSpec.upto cacheAllSpec)) cacheAllUptoCard
end Rows
end Go.Proofs.YtddaoloabfkheaaGreatDoor
