/- The walk of the law VarintOnes. -/
import Derived.Test.YtppjjpibojilcaaDoorVmLaid
import Derived.OpenShut
namespace Go.Proofs.YtppjjpibojilcaaDoor.Vm
open Go.RowKit
set_option linter.unusedVariables false

set_option maxHeartbeats 1000000 in
theorem ones_long (n : Int) (s : ByteArray) (w : World) (ht : Tab w) (hl : 100 < s.size) (hs : s.size ≤ 9223372036854775807) :
    Calls Tryd.prog 3 #[.int .u64 n, .string s] w fun e w' => e = .returned (.bool true) ∧ Below w.heap.size w w' := by
  have HT := Lib.hid ht
  clear ht
  go_enter Tryd.func3, Tryd.ntmps3
  go_wp2_with fail
  refine (shown_any _ HT.out).mono ?_
  rintro e w1 ⟨rfl, hb1⟩
  go_wp2
  go_ret
  exact ⟨rfl, hb1⟩

set_option maxHeartbeats 1000000 in
theorem ones_any (n : Int) (s : ByteArray) (w : World) (ht : Tab w) (h0 : 0 ≤ n) (hl : s.size ≤ 100) :
    Calls Tryd.prog 3 #[.int .u64 n, .string s] w fun e w' => e = .returned (.bool true) ∧ Below w.heap.size w w' := by
  have hlt := ht.lt
  have HT := Lib.hid ht
  clear ht
  go_enter Tryd.func3, Tryd.ntmps3
  go_wp2_with fail
  refine (shown_any _ HT.out).mono ?_
  rintro e w1 ⟨rfl, hb1⟩
  have HT1 := Lib.hid (HT.out.below hb1 hlt)
  have hz1 := hb1.size
  go_wp2_with fail
  refine (vput _ _ HT1.out h0).mono ?_
  rintro e w2 ⟨rfl, hb2⟩
  have HT2 := Lib.hid (HT1.out.below hb2 (by omega))
  have hz2 := hb2.size
  go_wp2_with fail
  refine (rput _ _ h0).mono ?_
  rintro e w3 ⟨rfl, hb3⟩
  have HT3 := Lib.hid (HT2.out.below hb3 (by omega))
  have hz3 := hb3.size
  go_wp2_with fail
  refine (vget _ _ HT3.out (by omega)).mono ?_
  rintro e w4 ⟨rfl, m4, rfl⟩
  have HT4 := Lib.hid (HT3.out.drewN m4)
  go_wp2_with fail
  refine (rget _ _ (by omega)).mono ?_
  rintro e w5 ⟨rfl, m5, rfl⟩
  have HT5 := Lib.hid (HT3.out.drewN (m4 + m5))
  go_wp2_with fail
  refine (vsize _ _ HT5.out h0).mono ?_
  rintro e w6 ⟨rfl, rfl⟩
  go_wp2_with fail
  refine (rsize _ _ h0).mono ?_
  rintro e w7 ⟨rfl, rfl⟩
  go_wp2
  go_ret
  refine ⟨rfl, below_drewN ?_ _⟩
  exact hb1.trans ((hb2.mono (by omega)).trans (hb3.mono (by omega)))

theorem ones (n : Int) (s : ByteArray) (w : World) (ht : Tab w) (w0 : (Lit.int .u64 n).wf = true) (w1 : s.size ≤ maxLen) :
    Calls Tryd.prog 3 #[.int .u64 n, .string s] w fun e w' => e = .returned (.bool true) ∧ Below w.heap.size w w' := by
  have hn : 0 ≤ n := (bounds_u64 w0).1
  unfold maxLen at w1
  by_cases h : 100 < s.size
  · exact ones_long n s w ht h w1
  · exact ones_any n s w ht hn (by omega)
end Go.Proofs.YtppjjpibojilcaaDoor.Vm
