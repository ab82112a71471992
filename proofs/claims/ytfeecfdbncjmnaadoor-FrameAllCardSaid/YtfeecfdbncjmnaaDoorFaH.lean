/- Layer 6: all and SameAll, of what is alike. By tools/gen-frame-47.py. -/
import Derived.Test.YtfeecfdbncjmnaaDoorFzJ
import Derived.Test.YtfeecfdbncjmnaaDoorFzB
namespace Go.Proofs.YtfeecfdbncjmnaaDoor.Fm
set_option maxRecDepth 20000
open Go.RowKit Vm
set_option linter.unusedVariables false

theorem all_v {T : TypeId} (v : Value) (G : List Frm) (Ls : List (List Ran)) (w0 w : World) (h : AllI T w0 v G Ls w) (hs : ∀ i, (Ls.getD i []).length ≤ 1000) (hn : G.length ≤ 1000) :
    Calls Tryd.prog 13 #[v] w fun e w' => ∃ v' G', e = .returned v' ∧ AllI 34 w v' G' Ls w' ∧ G'.map bl = G.map bl :=
  all_any v G Ls w h.row h.len h.rd (fun i _ => hs i) hn
theorem sall_v {T1 T2 : TypeId} (v1 v2 : Value) (G H : List Frm) (Ls : List (List Ran)) (a1 a2 w : World) (h1 : AllI T1 a1 v1 G Ls w) (h2 : AllI T2 a2 v2 H Ls w) (hm : G.map bl = H.map bl) (hs : ∀ i, (Ls.getD i []).length ≤ 1000) (hn : G.length ≤ 1000) :
    Calls Tryd.prog 12 #[v1, v2] w fun e w' => e = .returned (.bool true) ∧ Below w.heap.size w w' :=
  sameall_any v1 v2 G H Ls w h1.row h2.row hm hn h1.rd h2.rd (fun i _ => hs i)
end Go.Proofs.YtfeecfdbncjmnaaDoor.Fm
