/- The walk of the law HeaderMasks. -/
import Derived.Test.YtabikljimndliaaDoorHdJ
import Derived.Test.YtabikljimndliaaDoorHrJ
namespace Go.Proofs.YtabikljimndliaaDoor.Hd
open Go.RowKit Vm
set_option linter.unusedVariables false
set_option linter.unusedSimpArgs false

set_option maxHeartbeats 2000000 in
theorem masks_out (l m : List UInt8) (w : World) (ht : Tab w) (h : (1200 : Int) < ((l.length : Nat) : Int)) :
    Calls Tryd.prog 4 #[.string ⟨l.toArray⟩, .string ⟨m.toArray⟩] w fun e w' => e = .returned (.bool true) ∧ Below w.heap.size w w' := by
  have HT := Lib.hid ht
  clear ht
  go_enter Tryd.func4, Tryd.ntmps4
  go_wp2_with fail
  refine (shown_any _ HT.out).mono ?_
  rintro e w1 ⟨rfl, hb⟩
  go_wp2
  go_ret
  exact ⟨rfl, hb⟩
set_option maxHeartbeats 2000000 in
theorem masks_out2 (l m : List UInt8) (w : World) (ht : Tab w) (h : ¬ (1200 : Int) < ((l.length : Nat) : Int)) (h2 : (20 : Int) < ((m.length : Nat) : Int)) :
    Calls Tryd.prog 4 #[.string ⟨l.toArray⟩, .string ⟨m.toArray⟩] w fun e w' => e = .returned (.bool true) ∧ Below w.heap.size w w' := by
  have HT := Lib.hid ht
  clear ht
  go_enter Tryd.func4, Tryd.ntmps4
  go_wp2_with fail
  refine (shown_any _ HT.out).mono ?_
  rintro e w1 ⟨rfl, hb⟩
  go_wp2
  go_ret
  exact ⟨rfl, hb⟩
set_option maxHeartbeats 4000000 in
theorem masks_in (l m : List UInt8) (w : World) (ht : Tab w) (h : ¬ (1200 : Int) < ((l.length : Nat) : Int)) (h2 : ¬ (20 : Int) < ((m.length : Nat) : Int)) :
    Calls Tryd.prog 4 #[.string ⟨l.toArray⟩, .string ⟨m.toArray⟩] w fun e w' => e = .returned (.bool true) ∧ Below w.heap.size w w' := by
  have hl : l.length ≤ 140737488351232 := by omega
  have C1 := Lib.hid (fun w (ht : Tab w) => Mask_any l m w ht hl)
  have C2 := Lib.hid (fun w => Mask_ref l m w hl)
  have C3 := Lib.hid (fun w (ht : Tab w) => Unmask_any l m w ht hl)
  have C4 := Lib.hid (fun w => Unmask_ref l m w hl)
  generalize mskL l m = a at C1 C2
  generalize mskE l m = b at C1 C2
  generalize umL l m = c at C3 C4
  generalize umE l m = d at C3 C4
  have hlt := ht.lt
  have HT := Lib.hid ht
  clear ht
  go_enter Tryd.func4, Tryd.ntmps4
  go_wp2_with fail
  refine (shown_any _ HT.out).mono ?_
  rintro e w1 ⟨rfl, hb⟩
  have HT1 := Lib.hid (HT.out.below hb hlt)
  go_wp2_with fail
  refine (C1.out _ HT1.out).mono ?_
  rintro e w2 ⟨rfl, hb2⟩
  replace hb := hb.trans (hb2.mono hb.size)
  clear hb2
  go_wp2_with fail
  refine (C2.out _).mono ?_
  rintro e w3 ⟨rfl, hb2⟩
  replace hb := hb.trans (hb2.mono hb.size)
  clear hb2
  replace HT1 := Lib.hid (HT.out.below hb hlt)
  go_wp2_with fail
  refine (C3.out _ HT1.out).mono ?_
  rintro e w4 ⟨rfl, hb2⟩
  replace hb := hb.trans (hb2.mono hb.size)
  clear hb2
  go_wp2_with fail
  refine (C4.out _).mono ?_
  rintro e w5 ⟨rfl, hb2⟩
  replace hb := hb.trans (hb2.mono hb.size)
  clear hb2
  go_wp2
  go_ret
  exact ⟨rfl, hb⟩
theorem law_masks (l m : List UInt8) (w : World) (ht : Tab w) (w1 : (⟨l.toArray⟩ : ByteArray).size ≤ maxLen) (w2 : (⟨m.toArray⟩ : ByteArray).size ≤ maxLen) :
    Calls Tryd.prog 4 #[.string ⟨l.toArray⟩, .string ⟨m.toArray⟩] w fun e w' => e = .returned (.bool true) ∧ Below w.heap.size w w' := by
  by_cases h : (1200 : Int) < ((l.length : Nat) : Int)
  · exact masks_out l m w ht h
  · by_cases h2 : (20 : Int) < ((m.length : Nat) : Int)
    · exact masks_out2 l m w ht h h2
    · exact masks_in l m w ht h h2
end Go.Proofs.YtabikljimndliaaDoor.Hd
