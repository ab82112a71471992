/- The law SealOpens, walked -/
import Derived.Test.YtagbkmoahflfdaaGreatDoorJa33
import Derived.Test.YtagbkmoahflfdaaGreatDoorJa43
namespace Go.Proofs.YtagbkmoahflfdaaGreatDoor.Se
set_option maxRecDepth 20000
open Go.RowKit Vm Dg Kd
set_option linter.unusedVariables false
set_option linter.unusedSimpArgs false

set_option maxHeartbeats 2000000 in
theorem opens_k (sec head s sample : ByteArray) (num : Int) (w : World) (ht : Tab w) (h : 60 < (sec.size : Int)) :
    Calls Tryz.prog 4 #[.string sec, .int .u64 num, .string head, .string s, .string sample] w fun e w' => e = .returned (.bool true) ∧ Below w.heap.size w w' := by
  have h1 : (sec.size : Int) > 60 := h
  have CS := Lib.hid (shown_any w ht)
  clear h ht
  go_enter Tryz.func4, Tryz.ntmps4
  go_wp2_with fail
  with_reducible refine CS.out.mono ?_
  rintro e1 w1 ⟨rfl, hb⟩
  have HB1 := Lib.hid hb
  clear hb
  go_wp2_with fail
  go_ret
  exact ⟨rfl, HB1.out⟩
set_option maxHeartbeats 2000000 in
theorem opens_n (sec head s sample : ByteArray) (num : Int) (w : World) (ht : Tab w) (h : (sec.size : Int) ≤ 60 ∧ 60 < (head.size : Int)) :
    Calls Tryz.prog 4 #[.string sec, .int .u64 num, .string head, .string s, .string sample] w fun e w' => e = .returned (.bool true) ∧ Below w.heap.size w w' := by
  have h1 : ¬ (sec.size : Int) > 60 := by omega
  have h2 : (head.size : Int) > 60 := h.2
  have CS := Lib.hid (shown_any w ht)
  clear h ht
  go_enter Tryz.func4, Tryz.ntmps4
  go_wp2_with fail
  with_reducible refine CS.out.mono ?_
  rintro e1 w1 ⟨rfl, hb⟩
  have HB1 := Lib.hid hb
  clear hb
  go_wp2_with fail
  go_ret
  exact ⟨rfl, HB1.out⟩
set_option maxHeartbeats 2000000 in
theorem opens_s (sec head s sample : ByteArray) (num : Int) (w : World) (ht : Tab w) (h : (sec.size : Int) ≤ 60 ∧ (head.size : Int) ≤ 60 ∧ 300 < (s.size : Int)) :
    Calls Tryz.prog 4 #[.string sec, .int .u64 num, .string head, .string s, .string sample] w fun e w' => e = .returned (.bool true) ∧ Below w.heap.size w w' := by
  have h1 : ¬ (sec.size : Int) > 60 := by omega
  have h2 : ¬ (head.size : Int) > 60 := by omega
  have h3 : (s.size : Int) > 300 := h.2.2
  have CS := Lib.hid (shown_any w ht)
  clear h ht
  go_enter Tryz.func4, Tryz.ntmps4
  go_wp2_with fail
  with_reducible refine CS.out.mono ?_
  rintro e1 w1 ⟨rfl, hb⟩
  have HB1 := Lib.hid hb
  clear hb
  go_wp2_with fail
  go_ret
  exact ⟨rfl, HB1.out⟩
set_option maxHeartbeats 2000000 in
theorem opens_m (sec head s sample : ByteArray) (num : Int) (w : World) (ht : Tab w) (h : (sec.size : Int) ≤ 60 ∧ (head.size : Int) ≤ 60 ∧ (s.size : Int) ≤ 300 ∧ 40 < (sample.size : Int)) :
    Calls Tryz.prog 4 #[.string sec, .int .u64 num, .string head, .string s, .string sample] w fun e w' => e = .returned (.bool true) ∧ Below w.heap.size w w' := by
  have h1 : ¬ (sec.size : Int) > 60 := by omega
  have h2 : ¬ (head.size : Int) > 60 := by omega
  have h3 : ¬ (s.size : Int) > 300 := by omega
  have h4 : (sample.size : Int) > 40 := h.2.2.2
  have CS := Lib.hid (shown_any w ht)
  clear h ht
  go_enter Tryz.func4, Tryz.ntmps4
  go_wp2_with fail
  with_reducible refine CS.out.mono ?_
  rintro e1 w1 ⟨rfl, hb⟩
  have HB1 := Lib.hid hb
  clear hb
  go_wp2_with fail
  go_ret
  exact ⟨rfl, HB1.out⟩
set_option maxHeartbeats 8000000 in
theorem opens_walk (x0 x1 x2 sec head s sample AA P MK : ByteArray) (num er em : Int) (w : World) (ht : Tab w) (h1 : (sec.size : Int) ≤ 60) (h2 : (head.size : Int) ≤ 60) (h3 : (s.size : Int) ≤ 300) (h4 : (sample.size : Int) ≤ 40)
    (C1 : Hid (∀ W : World, Calls Tryz.prog 14 #[.string sec] W fun e w' => e = .returned (.agg #[.string x0, .string x1, .string x2]) ∧ Below W.heap.size W w'))
    (C2 : Hid (∀ W : World, Calls Tryz.prog 15 #[.string sec] W fun e w' => e = .returned (.agg #[.string x0, .string x1, .string x2]) ∧ Below W.heap.size W w'))
    (C3 : Hid (∀ W : World, Calls Tryz.prog 16 #[.agg #[.string x0, .string x1, .string x2], .int .u64 num, .string head, .string s] W fun e w' => e = .returned (.string AA) ∧ Below W.heap.size W w'))
    (C4 : Hid (∀ W : World, Calls Tryz.prog 17 #[.agg #[.string x0, .string x1, .string x2], .int .u64 num, .string head, .string s] W fun e w' => e = .returned (.tuple #[.string P, .int .i64 er]) ∧ Below W.heap.size W w'))
    (C5 : Hid (∀ W : World, Calls Tryz.prog 18 #[.agg #[.string x0, .string x1, .string x2], .int .u64 num, .string head, .string s] W fun e w' => e = .returned (.tuple #[.string P, .int .i64 er]) ∧ Below W.heap.size W w'))
    (C6 : Hid (∀ W : World, Calls Tryz.prog 19 #[.agg #[.string x0, .string x1, .string x2], .string sample] W fun e w' => e = .returned (.tuple #[.string MK, .int .i64 em]) ∧ Below W.heap.size W w'))
    (C7 : Hid (∀ W : World, Calls Tryz.prog 20 #[.agg #[.string x0, .string x1, .string x2], .string sample] W fun e w' => e = .returned (.tuple #[.string MK, .int .i64 em]) ∧ Below W.heap.size W w'))
    (C8 : Hid (∀ W : World, Calls Tryz.prog 17 #[.agg #[.string x0, .string x1, .string x2], .int .u64 num, .string head, .string AA] W fun e w' => e = .returned (.tuple #[.string s, .int .i64 0]) ∧ Below W.heap.size W w'))
    (C9 : Hid (∀ W : World, Calls Tryz.prog 21 #[.agg #[.string x0, .string x1, .string x2], .int .u64 num, .string head, .string s] W fun e w' => e = .returned (.string AA) ∧ Below W.heap.size W w')) :
    Calls Tryz.prog 4 #[.string sec, .int .u64 num, .string head, .string s, .string sample] w fun e w' => e = .returned (.bool true) ∧ Below w.heap.size w w' := by
  have g1 : ¬ (sec.size : Int) > 60 := by omega
  have g2 : ¬ (head.size : Int) > 60 := by omega
  have g3 : ¬ (s.size : Int) > 300 := by omega
  have g4 : ¬ (sample.size : Int) > 40 := by omega
  have CS := Lib.hid (shown_any w ht)
  clear ht
  go_enter Tryz.func4, Tryz.ntmps4
  go_wp2_with fail
  with_reducible refine CS.out.mono ?_
  rintro e1 w1 ⟨rfl, hb⟩
  have HB1 := Lib.hid hb
  clear hb
  go_wp2_with fail
  with_reducible refine (C1.out _).mono ?_
  rintro e2 w2 ⟨rfl, hb⟩
  have HB2 := Lib.hid (HB1.out.trans (hb.mono HB1.out.size))
  clear hb
  have HPA := Lib.hid (heap_alloc_new w2 (.cells #[.string x0, .string x1, .string x2] 29))
  have HBA := Lib.hid (HB2.out.alloc HB2.out.size (.cells #[.string x0, .string x1, .string x2] 29))
  go_upto_region 4 with (fail)
  generalize w2.alloc (.cells #[.string x0, .string x1, .string x2] 29) = W2 at *
  generalize w2.heap.size = bp at *
  go_wp2_with fail
  with_reducible refine (C2.out _).mono ?_
  rintro e3 w3 ⟨rfl, hb⟩
  have HPB : Hid (w3.heap[bp]? = some (.cells #[.string x0, .string x1, .string x2] 29 (0, 0))) := Lib.hid ((hb.block bp (Array.getElem?_eq_some_iff.1 HPA.out).1).trans HPA.out)
  have HBB := Lib.hid (HBA.out.trans (hb.mono HBA.out.size))
  clear hb
  have HQ4 := Lib.hid (heap_alloc_new w3 (.cells #[.string x0, .string x1, .string x2] 31))
  have HB4 := Lib.hid (HBB.out.alloc HBB.out.size (.cells #[.string x0, .string x1, .string x2] 31))
  have HP4 := Lib.hid ((Below.heap_alloc w3 (.cells #[.string x0, .string x1, .string x2] 31) bp (Array.getElem?_eq_some_iff.1 HPB.out).1).trans HPB.out)
  go_upto_region 5 with (fail)
  generalize w3.alloc (.cells #[.string x0, .string x1, .string x2] 31) = w4 at *
  generalize w3.heap.size = bq at *
  clear HPA HBA HPB HBB HB1 HB2
  have p0 : w4.cell? ⟨bp, 0, none⟩ = some (.string x0) := Lib.cell_of_heap HP4.out 0
  have p1 : w4.cell? ⟨bp, 1, none⟩ = some (.string x1) := Lib.cell_of_heap HP4.out 1
  have p2 : w4.cell? ⟨bp, 2, none⟩ = some (.string x2) := Lib.cell_of_heap HP4.out 2
  have q0 : w4.cell? ⟨bq, 0, none⟩ = some (.string x0) := Lib.cell_of_heap HQ4.out 0
  have q1 : w4.cell? ⟨bq, 1, none⟩ = some (.string x1) := Lib.cell_of_heap HQ4.out 1
  have q2 : w4.cell? ⟨bq, 2, none⟩ = some (.string x2) := Lib.cell_of_heap HQ4.out 2
  go_wp2_with fail
  with_reducible refine (C3.out _).mono ?_
  rintro e5 w5 ⟨rfl, hb⟩
  have HB5 := Lib.hid (HB4.out.trans (hb.mono HB4.out.size))
  have HP5 : Hid (w5.heap[bp]? = some (.cells #[.string x0, .string x1, .string x2] 29 (0, 0))) := Lib.hid ((hb.block bp (Array.getElem?_eq_some_iff.1 HP4.out).1).trans HP4.out)
  have HQ5 : Hid (w5.heap[bq]? = some (.cells #[.string x0, .string x1, .string x2] 31 (0, 0))) := Lib.hid ((hb.block bq (Array.getElem?_eq_some_iff.1 HQ4.out).1).trans HQ4.out)
  clear hb
  clear p0 p1 p2 q0 q1 q2
  have p0 : w5.cell? ⟨bp, 0, none⟩ = some (.string x0) := Lib.cell_of_heap HP5.out 0
  have p1 : w5.cell? ⟨bp, 1, none⟩ = some (.string x1) := Lib.cell_of_heap HP5.out 1
  have p2 : w5.cell? ⟨bp, 2, none⟩ = some (.string x2) := Lib.cell_of_heap HP5.out 2
  have q0 : w5.cell? ⟨bq, 0, none⟩ = some (.string x0) := Lib.cell_of_heap HQ5.out 0
  have q1 : w5.cell? ⟨bq, 1, none⟩ = some (.string x1) := Lib.cell_of_heap HQ5.out 1
  have q2 : w5.cell? ⟨bq, 2, none⟩ = some (.string x2) := Lib.cell_of_heap HQ5.out 2
  go_wp2_with fail
  with_reducible refine (C4.out _).mono ?_
  rintro e6 w6 ⟨rfl, hb⟩
  have HB6 := Lib.hid (HB5.out.trans (hb.mono HB5.out.size))
  have HP6 : Hid (w6.heap[bp]? = some (.cells #[.string x0, .string x1, .string x2] 29 (0, 0))) := Lib.hid ((hb.block bp (Array.getElem?_eq_some_iff.1 HP5.out).1).trans HP5.out)
  have HQ6 : Hid (w6.heap[bq]? = some (.cells #[.string x0, .string x1, .string x2] 31 (0, 0))) := Lib.hid ((hb.block bq (Array.getElem?_eq_some_iff.1 HQ5.out).1).trans HQ5.out)
  clear hb
  clear p0 p1 p2 q0 q1 q2
  have p0 : w6.cell? ⟨bp, 0, none⟩ = some (.string x0) := Lib.cell_of_heap HP6.out 0
  have p1 : w6.cell? ⟨bp, 1, none⟩ = some (.string x1) := Lib.cell_of_heap HP6.out 1
  have p2 : w6.cell? ⟨bp, 2, none⟩ = some (.string x2) := Lib.cell_of_heap HP6.out 2
  have q0 : w6.cell? ⟨bq, 0, none⟩ = some (.string x0) := Lib.cell_of_heap HQ6.out 0
  have q1 : w6.cell? ⟨bq, 1, none⟩ = some (.string x1) := Lib.cell_of_heap HQ6.out 1
  have q2 : w6.cell? ⟨bq, 2, none⟩ = some (.string x2) := Lib.cell_of_heap HQ6.out 2
  go_wp2_with fail
  with_reducible refine (C5.out _).mono ?_
  rintro e7 w7 ⟨rfl, hb⟩
  have HB7 := Lib.hid (HB6.out.trans (hb.mono HB6.out.size))
  have HP7 : Hid (w7.heap[bp]? = some (.cells #[.string x0, .string x1, .string x2] 29 (0, 0))) := Lib.hid ((hb.block bp (Array.getElem?_eq_some_iff.1 HP6.out).1).trans HP6.out)
  have HQ7 : Hid (w7.heap[bq]? = some (.cells #[.string x0, .string x1, .string x2] 31 (0, 0))) := Lib.hid ((hb.block bq (Array.getElem?_eq_some_iff.1 HQ6.out).1).trans HQ6.out)
  clear hb
  clear p0 p1 p2 q0 q1 q2
  have p0 : w7.cell? ⟨bp, 0, none⟩ = some (.string x0) := Lib.cell_of_heap HP7.out 0
  have p1 : w7.cell? ⟨bp, 1, none⟩ = some (.string x1) := Lib.cell_of_heap HP7.out 1
  have p2 : w7.cell? ⟨bp, 2, none⟩ = some (.string x2) := Lib.cell_of_heap HP7.out 2
  have q0 : w7.cell? ⟨bq, 0, none⟩ = some (.string x0) := Lib.cell_of_heap HQ7.out 0
  have q1 : w7.cell? ⟨bq, 1, none⟩ = some (.string x1) := Lib.cell_of_heap HQ7.out 1
  have q2 : w7.cell? ⟨bq, 2, none⟩ = some (.string x2) := Lib.cell_of_heap HQ7.out 2
  go_wp2_with fail
  with_reducible refine (C6.out _).mono ?_
  rintro e8 w8 ⟨rfl, hb⟩
  have HB8 := Lib.hid (HB7.out.trans (hb.mono HB7.out.size))
  have HP8 : Hid (w8.heap[bp]? = some (.cells #[.string x0, .string x1, .string x2] 29 (0, 0))) := Lib.hid ((hb.block bp (Array.getElem?_eq_some_iff.1 HP7.out).1).trans HP7.out)
  have HQ8 : Hid (w8.heap[bq]? = some (.cells #[.string x0, .string x1, .string x2] 31 (0, 0))) := Lib.hid ((hb.block bq (Array.getElem?_eq_some_iff.1 HQ7.out).1).trans HQ7.out)
  clear hb
  clear p0 p1 p2 q0 q1 q2
  have p0 : w8.cell? ⟨bp, 0, none⟩ = some (.string x0) := Lib.cell_of_heap HP8.out 0
  have p1 : w8.cell? ⟨bp, 1, none⟩ = some (.string x1) := Lib.cell_of_heap HP8.out 1
  have p2 : w8.cell? ⟨bp, 2, none⟩ = some (.string x2) := Lib.cell_of_heap HP8.out 2
  have q0 : w8.cell? ⟨bq, 0, none⟩ = some (.string x0) := Lib.cell_of_heap HQ8.out 0
  have q1 : w8.cell? ⟨bq, 1, none⟩ = some (.string x1) := Lib.cell_of_heap HQ8.out 1
  have q2 : w8.cell? ⟨bq, 2, none⟩ = some (.string x2) := Lib.cell_of_heap HQ8.out 2
  go_wp2_with fail
  with_reducible refine (C7.out _).mono ?_
  rintro e9 w9 ⟨rfl, hb⟩
  have HB9 := Lib.hid (HB8.out.trans (hb.mono HB8.out.size))
  have HP9 : Hid (w9.heap[bp]? = some (.cells #[.string x0, .string x1, .string x2] 29 (0, 0))) := Lib.hid ((hb.block bp (Array.getElem?_eq_some_iff.1 HP8.out).1).trans HP8.out)
  have HQ9 : Hid (w9.heap[bq]? = some (.cells #[.string x0, .string x1, .string x2] 31 (0, 0))) := Lib.hid ((hb.block bq (Array.getElem?_eq_some_iff.1 HQ8.out).1).trans HQ8.out)
  clear hb
  clear p0 p1 p2 q0 q1 q2
  have p0 : w9.cell? ⟨bp, 0, none⟩ = some (.string x0) := Lib.cell_of_heap HP9.out 0
  have p1 : w9.cell? ⟨bp, 1, none⟩ = some (.string x1) := Lib.cell_of_heap HP9.out 1
  have p2 : w9.cell? ⟨bp, 2, none⟩ = some (.string x2) := Lib.cell_of_heap HP9.out 2
  have q0 : w9.cell? ⟨bq, 0, none⟩ = some (.string x0) := Lib.cell_of_heap HQ9.out 0
  have q1 : w9.cell? ⟨bq, 1, none⟩ = some (.string x1) := Lib.cell_of_heap HQ9.out 1
  have q2 : w9.cell? ⟨bq, 2, none⟩ = some (.string x2) := Lib.cell_of_heap HQ9.out 2
  go_wp2_with fail
  with_reducible refine (C8.out _).mono ?_
  rintro e10 w10 ⟨rfl, hb⟩
  have HB10 := Lib.hid (HB9.out.trans (hb.mono HB9.out.size))
  have HP10 : Hid (w10.heap[bp]? = some (.cells #[.string x0, .string x1, .string x2] 29 (0, 0))) := Lib.hid ((hb.block bp (Array.getElem?_eq_some_iff.1 HP9.out).1).trans HP9.out)
  have HQ10 : Hid (w10.heap[bq]? = some (.cells #[.string x0, .string x1, .string x2] 31 (0, 0))) := Lib.hid ((hb.block bq (Array.getElem?_eq_some_iff.1 HQ9.out).1).trans HQ9.out)
  clear hb
  clear p0 p1 p2 q0 q1 q2
  have p0 : w10.cell? ⟨bp, 0, none⟩ = some (.string x0) := Lib.cell_of_heap HP10.out 0
  have p1 : w10.cell? ⟨bp, 1, none⟩ = some (.string x1) := Lib.cell_of_heap HP10.out 1
  have p2 : w10.cell? ⟨bp, 2, none⟩ = some (.string x2) := Lib.cell_of_heap HP10.out 2
  have q0 : w10.cell? ⟨bq, 0, none⟩ = some (.string x0) := Lib.cell_of_heap HQ10.out 0
  have q1 : w10.cell? ⟨bq, 1, none⟩ = some (.string x1) := Lib.cell_of_heap HQ10.out 1
  have q2 : w10.cell? ⟨bq, 2, none⟩ = some (.string x2) := Lib.cell_of_heap HQ10.out 2
  go_wp2_with fail
  with_reducible refine (C9.out _).mono ?_
  rintro e11 w11 ⟨rfl, hb⟩
  have HB11 := Lib.hid (HB10.out.trans (hb.mono HB10.out.size))
  clear hb
  clear p0 p1 p2 q0 q1 q2
  go_wp2_with fail
  go_ret
  exact ⟨rfl, HB11.out⟩
theorem onV_form (o : Option (List UInt8)) : ∃ (P : ByteArray) (er : Int), onV o = .tuple #[.string P, .int .i64 er] := by
  cases o with
  | some p => exact ⟨_, _, rfl⟩
  | none => exact ⟨_, _, rfl⟩
theorem mkV_form (M sm : List UInt8) : ∃ (P : ByteArray) (er : Int), mkV M sm = .tuple #[.string P, .int .i64 er] := by
  unfold mkV
  split <;> exact ⟨_, _, rfl⟩
theorem law_opens (sec : ByteArray) (num : Int) (head s sample : ByteArray) (w : World) (ht : Tab w) (w0 : sec.size ≤ maxLen) (w1 : (Lit.int .u64 num).wf = true) (w2 : head.size ≤ maxLen) (w3 : s.size ≤ maxLen) (w4 : sample.size ≤ maxLen) :
    Calls Tryz.prog 4 #[.string sec, .int .u64 num, .string head, .string s, .string sample] w fun e w' => e = .returned (.bool true) ∧ Below w.heap.size w w' := by
  simp only [Lit.wf, Bool.and_eq_true, decide_eq_true_eq] at w1
  have hn0 : 0 ≤ num := w1.1
  have hn1 : num ≤ 18446744073709551615 := w1.2
  by_cases h1 : 60 < sec.size
  · exact opens_k sec head s sample num w ht (by omega)
  by_cases h2 : 60 < head.size
  · exact opens_n sec head s sample num w ht (by omega)
  by_cases h3 : 300 < s.size
  · exact opens_s sec head s sample num w ht (by omega)
  by_cases h4 : 40 < sample.size
  · exact opens_m sec head s sample num w ht (by omega)
  obtain ⟨n, rfl⟩ : ∃ m : Nat, num = (m : Int) := ⟨num.toNat, by omega⟩
  obtain ⟨S, hS⟩ : ∃ l : List UInt8, sec = ⟨l.toArray⟩ := ⟨sec.data.toList, rfl⟩
  obtain ⟨H, hH⟩ : ∃ l : List UInt8, head = ⟨l.toArray⟩ := ⟨head.data.toList, rfl⟩
  obtain ⟨L, hL⟩ : ∃ l : List UInt8, s = ⟨l.toArray⟩ := ⟨s.data.toList, rfl⟩
  obtain ⟨M, hM⟩ : ∃ l : List UInt8, sample = ⟨l.toArray⟩ := ⟨sample.data.toList, rfl⟩
  subst hS hH hL hM
  rw [ba_size] at h1 h2 h3 h4
  have hk := ofK_k S
  have hv := ofK_v S
  have hm := ofK_m S
  have hA := sealL_len (ofK S).k (ofK S).v n H L
  obtain ⟨P, er, hP⟩ := onV_form (openL (ofK S).k (ofK S).v n H L)
  obtain ⟨MK, em, hMK⟩ := mkV_form (ofK S).m M
  have e8 : onV (openL (ofK S).k (ofK S).v n H (sealL (ofK S).k (ofK S).v n H L)) = .tuple #[.string ⟨L.toArray⟩, .int .i64 0] := by rw [open_seal]; rfl
  refine opens_walk ⟨(ofK S).k.toArray⟩ ⟨(ofK S).v.toArray⟩ ⟨(ofK S).m.toArray⟩ _ _ _ _ ⟨(sealL (ofK S).k (ofK S).v n H L).toArray⟩ P MK n er em w ht (by rw [ba_size]; omega) (by rw [ba_size]; omega) (by rw [ba_size]; omega) (by rw [ba_size]; omega) ?_ ?_ ?_ ?_ ?_ ?_ ?_ ?_ ?_
  · exact Lib.hid (fun W => of_any S W (by omega))
  · exact Lib.hid (fun W => ofs_ref S W (by omega))
  · exact Lib.hid (fun W => seal_any _ _ _ n H L W (by omega) (by omega) (by omega) (by omega) (by omega))
  · exact Lib.hid (fun W => by have h := open_any (ofK S).k (ofK S).v (ofK S).m n H L W (by omega) (by omega) (by omega) (by omega) (by omega); rw [hP] at h; exact h)
  · exact Lib.hid (fun W => by have h := dopen_any (ofK S).k (ofK S).v (ofK S).m n H L W (by omega) (by omega) (by omega) (by omega) (by omega); rw [hP] at h; exact h)
  · exact Lib.hid (fun W => by have h := Mask_any (ofK S).k (ofK S).v (ofK S).m M W (by omega) (by omega); rw [hMK] at h; exact h)
  · exact Lib.hid (fun W => by have h := dMask_any (ofK S).k (ofK S).v (ofK S).m M W (by omega) (by omega); rw [hMK] at h; exact h)
  · exact Lib.hid (fun W => by have h := open_any (ofK S).k (ofK S).v (ofK S).m n H (sealL (ofK S).k (ofK S).v n H L) W (by omega) (by omega) (by omega) (by omega) (by omega); rw [e8] at h; exact h)
  · exact Lib.hid (fun W => dseal_any _ _ _ n H L W (by omega) (by omega) (by omega) (by omega) (by omega))
end Go.Proofs.YtagbkmoahflfdaaGreatDoor.Se
