/- The law SealBlocks, walked -/
import Derived.Test.YtagbkmoahflfdaaGreatDoorJa33
import Derived.Test.YtagbkmoahflfdaaGreatDoorJa39
namespace Go.Proofs.YtagbkmoahflfdaaGreatDoor.Se
set_option maxRecDepth 20000
open Go.RowKit Vm Dg Kd
set_option linter.unusedVariables false
set_option linter.unusedSimpArgs false

set_option maxHeartbeats 2000000 in
theorem blocks_k (key nonce s : ByteArray) (c : Int) (w : World) (ht : Tab w) (h : 60 < (key.size : Int)) :
    Calls Tryz.prog 3 #[.string key, .string nonce, .int .u32 c, .string s] w fun e w' => e = .returned (.bool true) ∧ Below w.heap.size w w' := by
  have h1 : (key.size : Int) > 60 := h
  have CS := Lib.hid (shown_any w ht)
  clear h ht
  go_enter Tryz.func3, Tryz.ntmps3
  go_wp2_with fail
  with_reducible refine CS.out.mono ?_
  rintro e1 w1 ⟨rfl, hb⟩
  have HB1 := Lib.hid hb
  clear hb
  go_wp2_with fail
  go_ret
  exact ⟨rfl, HB1.out⟩
set_option maxHeartbeats 2000000 in
theorem blocks_n (key nonce s : ByteArray) (c : Int) (w : World) (ht : Tab w) (h : (key.size : Int) ≤ 60 ∧ 40 < (nonce.size : Int)) :
    Calls Tryz.prog 3 #[.string key, .string nonce, .int .u32 c, .string s] w fun e w' => e = .returned (.bool true) ∧ Below w.heap.size w w' := by
  have h1 : ¬ (key.size : Int) > 60 := by omega
  have h2 : (nonce.size : Int) > 40 := h.2
  have CS := Lib.hid (shown_any w ht)
  clear h ht
  go_enter Tryz.func3, Tryz.ntmps3
  go_wp2_with fail
  with_reducible refine CS.out.mono ?_
  rintro e1 w1 ⟨rfl, hb⟩
  have HB1 := Lib.hid hb
  clear hb
  go_wp2_with fail
  go_ret
  exact ⟨rfl, HB1.out⟩
set_option maxHeartbeats 2000000 in
theorem blocks_s (key nonce s : ByteArray) (c : Int) (w : World) (ht : Tab w) (h : (key.size : Int) ≤ 60 ∧ (nonce.size : Int) ≤ 40 ∧ 400 < (s.size : Int)) :
    Calls Tryz.prog 3 #[.string key, .string nonce, .int .u32 c, .string s] w fun e w' => e = .returned (.bool true) ∧ Below w.heap.size w w' := by
  have h1 : ¬ (key.size : Int) > 60 := by omega
  have h2 : ¬ (nonce.size : Int) > 40 := by omega
  have h3 : (s.size : Int) > 400 := h.2.2
  have CS := Lib.hid (shown_any w ht)
  clear h ht
  go_enter Tryz.func3, Tryz.ntmps3
  go_wp2_with fail
  with_reducible refine CS.out.mono ?_
  rintro e1 w1 ⟨rfl, hb⟩
  have HB1 := Lib.hid hb
  clear hb
  go_wp2_with fail
  go_ret
  exact ⟨rfl, HB1.out⟩
set_option maxHeartbeats 4000000 in
theorem blocks_walk (key nonce s T B : ByteArray) (c : Int) (w : World) (ht : Tab w) (h1 : (key.size : Int) ≤ 60) (h2 : (nonce.size : Int) ≤ 40) (h3 : (s.size : Int) ≤ 400)
    (C1 : Hid (∀ W : World, Calls Tryz.prog 10 #[.string key, .string nonce, .int .u32 c, .string s] W fun e w' => e = .returned (.string T) ∧ Below W.heap.size W w'))
    (C2 : Hid (∀ W : World, Calls Tryz.prog 11 #[.string key, .string nonce, .int .u32 c] W fun e w' => e = .returned (.string B) ∧ Below W.heap.size W w'))
    (C3 : Hid (∀ W : World, Calls Tryz.prog 12 #[.string key, .string nonce, .int .u32 c] W fun e w' => e = .returned (.string B) ∧ Below W.heap.size W w'))
    (C4 : Hid (∀ W : World, Calls Tryz.prog 13 #[.string key, .string nonce, .int .u32 c, .string s] W fun e w' => e = .returned (.string T) ∧ Below W.heap.size W w'))
    (C5 : Hid (∀ W : World, Calls Tryz.prog 10 #[.string key, .string nonce, .int .u32 c, .string T] W fun e w' => e = .returned (.string s) ∧ Below W.heap.size W w')) :
    Calls Tryz.prog 3 #[.string key, .string nonce, .int .u32 c, .string s] w fun e w' => e = .returned (.bool true) ∧ Below w.heap.size w w' := by
  have g1 : ¬ (key.size : Int) > 60 := by omega
  have g2 : ¬ (nonce.size : Int) > 40 := by omega
  have g3 : ¬ (s.size : Int) > 400 := by omega
  have CS := Lib.hid (shown_any w ht)
  clear ht
  go_enter Tryz.func3, Tryz.ntmps3
  go_wp2_with fail
  with_reducible refine CS.out.mono ?_
  rintro e1 w1 ⟨rfl, hb⟩
  have HB1 := Lib.hid hb
  clear hb
  go_wp2_with fail
  with_reducible refine (C1.out _).mono ?_
  rintro e2 w2 ⟨rfl, hb⟩
  have HB2 := Lib.hid (HB1.out.trans (hb.mono HB1.out.size))
  clear hb
  go_wp2_with fail
  with_reducible refine (C2.out _).mono ?_
  rintro e3 w3 ⟨rfl, hb⟩
  have HB3 := Lib.hid (HB2.out.trans (hb.mono HB2.out.size))
  clear hb
  go_wp2_with fail
  with_reducible refine (C3.out _).mono ?_
  rintro e4 w4 ⟨rfl, hb⟩
  have HB4 := Lib.hid (HB3.out.trans (hb.mono HB3.out.size))
  clear hb
  go_wp2_with fail
  with_reducible refine (C4.out _).mono ?_
  rintro e5 w5 ⟨rfl, hb⟩
  have HB5 := Lib.hid (HB4.out.trans (hb.mono HB4.out.size))
  clear hb
  go_wp2_with fail
  with_reducible refine (C5.out _).mono ?_
  rintro e6 w6 ⟨rfl, hb⟩
  have HB6 := Lib.hid (HB5.out.trans (hb.mono HB5.out.size))
  clear hb
  go_wp2_with fail
  go_ret
  exact ⟨rfl, HB6.out⟩
theorem law_blocks (key nonce : ByteArray) (c : Int) (s : ByteArray) (w : World) (ht : Tab w) (w0 : key.size ≤ maxLen) (w1 : nonce.size ≤ maxLen) (w2 : (Lit.int .u32 c).wf = true) (w3 : s.size ≤ maxLen) :
    Calls Tryz.prog 3 #[.string key, .string nonce, .int .u32 c, .string s] w fun e w' => e = .returned (.bool true) ∧ Below w.heap.size w w' := by
  simp only [Lit.wf, Bool.and_eq_true, decide_eq_true_eq] at w2
  have hc0 : 0 ≤ c := w2.1
  have hc1 : c ≤ 4294967295 := w2.2
  by_cases h1 : 60 < key.size
  · exact blocks_k key nonce s c w ht (by omega)
  by_cases h2 : 40 < nonce.size
  · exact blocks_n key nonce s c w ht (by omega)
  by_cases h3 : 400 < s.size
  · exact blocks_s key nonce s c w ht (by omega)
  obtain ⟨cn, rfl⟩ : ∃ m : Nat, c = (m : Int) := ⟨c.toNat, by omega⟩
  have hcn : cn < 4294967296 := by omega
  have hsl : s.data.toList.length = s.size := by simp
  have es : (⟨s.data.toList.toArray⟩ : ByteArray) = s := rfl
  have ST := fun (l : List UInt8) (hl : l.length ≤ 100000) (W : World) => stream_any key nonce cn ⟨l.toArray⟩ W (by omega) (by omega) hcn (by rw [ba_size]; exact hl)
  have DT := fun (l : List UInt8) (hl : l.length ≤ 100000) (W : World) => dstream_any key nonce cn ⟨l.toArray⟩ W (by omega) (by omega) hcn (by rw [ba_size]; exact hl)
  refine blocks_walk key nonce s ⟨(stream key.data.toList nonce.data.toList cn s.data.toList).toArray⟩ ⟨(blk key.data.toList nonce.data.toList cn).toArray⟩ cn w ht (by omega) (by omega) (by omega) ?_ ?_ ?_ ?_ ?_
  · exact Lib.hid (fun W => ST s.data.toList (by omega) W)
  · exact Lib.hid (fun W => block_call key nonce cn W (by omega) (by omega) hcn)
  · exact Lib.hid (fun W => dblock_any key nonce cn W (by omega) (by omega) hcn)
  · exact Lib.hid (fun W => DT s.data.toList (by omega) W)
  · refine Lib.hid (fun W => ?_)
    have h := ST (stream key.data.toList nonce.data.toList cn s.data.toList) (by rw [stream_length]; omega) W
    have e : (⟨(stream key.data.toList nonce.data.toList cn s.data.toList).toArray⟩ : ByteArray).data.toList = stream key.data.toList nonce.data.toList cn s.data.toList := rfl
    rw [e, stream_back key.data.toList nonce.data.toList (s.data.toList.length / 64 + 1) cn s.data.toList (by omega), es] at h
    exact h
end Go.Proofs.YtagbkmoahflfdaaGreatDoor.Se
