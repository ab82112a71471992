/- The walks of layer 4: the document's v, window, short. By tools/gen-header-ref2.py. -/
import Derived.Test.YtabikljimndliaaDoorHdS
namespace Go.Proofs.YtabikljimndliaaDoor.Hd
open Go.RowKit Vm
set_option linter.unusedVariables false
set_option linter.unusedSimpArgs false

set_option maxHeartbeats 1000000 in
theorem v_ref (n : Int) (w : World) (h0 : 0 ≤ n) :
    Calls Tryd.prog 24 #[.int .u64 n] w fun e w' => e = .returned (.string ⟨(ps n.toNat).toArray⟩) ∧ Below w.heap.size w w' := by
  go_enter Tryd.func24, Tryd.ntmps24
  go_wp2_with fail
  refine (rput _ _ h0).mono ?_
  rintro e w1 ⟨rfl, hb⟩
  go_wp2
  go_ret
  exact ⟨rfl, hb⟩
set_option maxHeartbeats 1000000 in
theorem window_1 (w : World) :
    Calls Tryd.prog 33 #[.int .i64 1] w fun e w' => e = .returned (.int .u64 256) ∧ w = w' := by
  go_enter Tryd.func33, Tryd.ntmps33
  go_wp2
  refine wp_loop_rounds 2 ?_
  iterate 2 (rw [rounds_succ]; go_wp2)
  go_ret
  exact ⟨rfl, rfl⟩
set_option maxHeartbeats 1000000 in
theorem window_2 (w : World) :
    Calls Tryd.prog 33 #[.int .i64 2] w fun e w' => e = .returned (.int .u64 65536) ∧ w = w' := by
  go_enter Tryd.func33, Tryd.ntmps33
  go_wp2
  refine wp_loop_rounds 3 ?_
  iterate 3 (rw [rounds_succ]; go_wp2)
  go_ret
  exact ⟨rfl, rfl⟩
set_option maxHeartbeats 1000000 in
theorem window_3 (w : World) :
    Calls Tryd.prog 33 #[.int .i64 3] w fun e w' => e = .returned (.int .u64 16777216) ∧ w = w' := by
  go_enter Tryd.func33, Tryd.ntmps33
  go_wp2
  refine wp_loop_rounds 4 ?_
  iterate 4 (rw [rounds_succ]; go_wp2)
  go_ret
  exact ⟨rfl, rfl⟩
set_option maxHeartbeats 1000000 in
theorem window_4 (w : World) :
    Calls Tryd.prog 33 #[.int .i64 4] w fun e w' => e = .returned (.int .u64 4294967296) ∧ w = w' := by
  go_enter Tryd.func33, Tryd.ntmps33
  go_wp2
  refine wp_loop_rounds 5 ?_
  iterate 5 (rw [rounds_succ]; go_wp2)
  go_ret
  exact ⟨rfl, rfl⟩
set_option maxHeartbeats 1000000 in
theorem short_ref (l : List UInt8) (w : World) (hl : l.length ≤ 20) :
    Calls Tryd.prog 23 #[.string ⟨l.toArray⟩] w fun e w' => e = .returned (.string ⟨(by1 l.length :: l).toArray⟩) ∧ Below w.heap.size w w' := by
  have CV := Lib.hid (fun w : World => conv1 l.length (w.alloc (.cells #[.int .u8 l.length] 5)) w.heap.size (made1 l.length w))
  go_enter Tryd.func23, Tryd.ntmps23
  go_wp2_with fail
  rw [CV.out]
  go_wp2
  go_ret
  exact ⟨by rw [show by1 l.length :: l = [by1 l.length] ++ l from rfl, ← app_two]; rfl, (Below.refl _ _).alloc (Nat.le_refl _) _⟩
end Go.Proofs.YtabikljimndliaaDoor.Hd
