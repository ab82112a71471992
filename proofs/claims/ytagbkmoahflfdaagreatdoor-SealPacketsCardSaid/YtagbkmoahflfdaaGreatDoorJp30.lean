import Derived.Test.YtagbkmoahflfdaaGreatDoorJp12
import Derived.Deep.RegionHeld3
set_option maxRecDepth 20000
namespace Go.Proofs.YtagbkmoahflfdaaGreatDoor.Kd
open Go.RowKit Go.Proofs.YtagbkmoahflfdaaGreatDoor.Dg
open Go.Proofs.YtagbkmoahflfdaaGreatDoor.Vm (fx fx_length vfixed)
set_option linter.unusedVariables false
set_option linter.unusedSimpArgs false
end Go.Proofs.YtagbkmoahflfdaaGreatDoor.Kd
