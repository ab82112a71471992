/- The law SealLengths, walked -/
import Derived.Test.YtagbkmoahflfdaaGreatDoorJa33
namespace Go.Proofs.YtagbkmoahflfdaaGreatDoor.Se
set_option maxRecDepth 20000
open Go.RowKit Vm Dg Kd
set_option linter.unusedVariables false
set_option linter.unusedSimpArgs false

set_option maxHeartbeats 2000000 in
theorem lengths_k (sec head plain : ByteArray) (num : Nat) (w : World) (ht : Tab w) (h : 60 < (sec.size : Int)) :
    Calls Tryz.prog 7 #[.string sec, .int .u64 num, .string head, .string plain] w fun e w' => e = .returned (.bool true) ∧ Below w.heap.size w w' := by
  have h1 : (sec.size : Int) > 60 := h
  have CS := Lib.hid (shown_any w ht)
  clear h ht
  go_enter Tryz.func7, Tryz.ntmps7
  go_wp2_with fail
  with_reducible refine CS.out.mono ?_
  rintro e1 w1 ⟨rfl, hb⟩
  have HB1 := Lib.hid hb
  clear hb
  go_wp2_with fail
  go_ret
  exact ⟨rfl, HB1.out⟩
set_option maxHeartbeats 2000000 in
theorem lengths_n (sec head plain : ByteArray) (num : Nat) (w : World) (ht : Tab w) (h : (sec.size : Int) ≤ 60 ∧ 60 < (head.size : Int)) :
    Calls Tryz.prog 7 #[.string sec, .int .u64 num, .string head, .string plain] w fun e w' => e = .returned (.bool true) ∧ Below w.heap.size w w' := by
  have h1 : ¬ (sec.size : Int) > 60 := by omega
  have h2 : (head.size : Int) > 60 := h.2
  have CS := Lib.hid (shown_any w ht)
  clear h ht
  go_enter Tryz.func7, Tryz.ntmps7
  go_wp2_with fail
  with_reducible refine CS.out.mono ?_
  rintro e1 w1 ⟨rfl, hb⟩
  have HB1 := Lib.hid hb
  clear hb
  go_wp2_with fail
  go_ret
  exact ⟨rfl, HB1.out⟩
set_option maxHeartbeats 2000000 in
theorem lengths_s (sec head plain : ByteArray) (num : Nat) (w : World) (ht : Tab w) (h : (sec.size : Int) ≤ 60 ∧ (head.size : Int) ≤ 60 ∧ 300 < (plain.size : Int)) :
    Calls Tryz.prog 7 #[.string sec, .int .u64 num, .string head, .string plain] w fun e w' => e = .returned (.bool true) ∧ Below w.heap.size w w' := by
  have h1 : ¬ (sec.size : Int) > 60 := by omega
  have h2 : ¬ (head.size : Int) > 60 := by omega
  have h3 : (plain.size : Int) > 300 := h.2.2
  have CS := Lib.hid (shown_any w ht)
  clear h ht
  go_enter Tryz.func7, Tryz.ntmps7
  go_wp2_with fail
  with_reducible refine CS.out.mono ?_
  rintro e1 w1 ⟨rfl, hb⟩
  have HB1 := Lib.hid hb
  clear hb
  go_wp2_with fail
  go_ret
  exact ⟨rfl, HB1.out⟩
theorem first_byte (l : List UInt8) (f : UInt8) (t : List UInt8) (e : l = f :: t) (h0 : 0 < (⟨l.toArray⟩ : ByteArray).size) : (⟨l.toArray⟩ : ByteArray)[0].toNat = f.toNat := by
  subst e
  rfl
theorem cid_of (l : List UInt8) (f : UInt8) (cid t : List UInt8) (e : l = f :: (cid ++ t)) (hc : cid.length = 8) : (⟨l.toArray⟩ : ByteArray).extract 1 9 = ⟨cid.toArray⟩ := by
  subst e
  rw [ba_mid]
  congr 1
  congr 1
  show (cid ++ t).take 8 = cid
  rw [List.take_append_of_le_length (by omega), List.take_of_length_le (by omega)]
set_option maxHeartbeats 4000000 in
theorem lengths_num (x0 x1 x2 x3 x4 x5 x6 x7 x8 x9 sec head plain A : ByteArray) (xo xp : Bool) (num : Nat) (w : World) (ht : Tab w) (h1 : (sec.size : Int) ≤ 60) (h2 : (head.size : Int) ≤ 60) (h3 : (plain.size : Int) ≤ 300) (hA : A.size = plain.size + 16)
    (CN : Hid (∀ W : World, Calls Tryz.prog 22 #[.string sec] W fun e w' => e = .returned (.agg #[.string x0, .string x1, .string x2, .string x3, .string x4, .string x5, .string x6, .string x7, .string x8, .string x9, .bool xo, .bool xp]) ∧ Below W.heap.size W w'))
    (CSL : Hid (∀ W : World, Calls Tryz.prog 16 #[.agg #[.string x4, .string x5, .string x6], .int .u64 num, .string head, .string plain] W fun e w' => e = .returned (.string A) ∧ Below W.heap.size W w'))
    (CP : Hid (∀ W : World, Tab W → Calls Tryz.prog 27 #[.agg #[.string x0, .string x1, .string x2, .string x3, .string x4, .string x5, .string x6, .string x7, .string x8, .string x9, .bool xo, .bool xp], .int .u64 num, .int .u64 0, .bool false, .string ⟨#[97, 98, 99, 100, 101, 102, 103, 104]⟩, .string plain] W fun e w' => e = .returned (.tuple #[.string ⟨#[]⟩, .int .i64 1]) ∧ Below W.heap.size W w'))
    (hno : (num : Int) > 4611686018427387903) :
    Calls Tryz.prog 7 #[.string sec, .int .u64 num, .string head, .string plain] w fun e w' => e = .returned (.bool true) ∧ Below w.heap.size w w' := by
  have g1 : ¬ (sec.size : Int) > 60 := by omega
  have g2 : ¬ (head.size : Int) > 60 := by omega
  have g3 : ¬ (plain.size : Int) > 300 := by omega
  have hA2 : (A.size : Int) = (plain.size : Int) + 16 := by omega
  have CS := Lib.hid (shown_any w ht)
  have HT := Lib.hid ht
  clear ht
  go_enter Tryz.func7, Tryz.ntmps7
  go_wp2_with fail
  with_reducible refine CS.out.mono ?_
  rintro e1 w1 ⟨rfl, hb⟩
  have HB1 := Lib.hid hb
  clear hb
  go_wp2_with fail
  with_reducible refine (CN.out _).mono ?_
  rintro e2 w2 ⟨rfl, hb⟩
  have HB2 := Lib.hid (HB1.out.trans (hb.mono HB1.out.size))
  clear hb
  have HX3 : Hid (SX (w2.alloc (.cells #[.string x0, .string x1, .string x2, .string x3, .string x4, .string x5, .string x6, .string x7, .string x8, .string x9, .bool xo, .bool xp] 43)) w2.heap.size x0 x1 x2 x3 x4 x5 x6 x7 x8 x9 xo xp) := Lib.hid (heap_alloc_new w2 _)
  have HB3 := Lib.hid (HB2.out.alloc HB2.out.size (.cells #[.string x0, .string x1, .string x2, .string x3, .string x4, .string x5, .string x6, .string x7, .string x8, .string x9, .bool xo, .bool xp] 43))
  go_upto_region 4 with (fail)
  generalize w2.alloc (.cells #[.string x0, .string x1, .string x2, .string x3, .string x4, .string x5, .string x6, .string x7, .string x8, .string x9, .bool xo, .bool xp] 43) = W3 at *
  generalize w2.heap.size = b1 at *
  obtain ⟨q0, q1, q2, q3, q4, q5, q6, q7, q8, q9, q10, q11⟩ := cells12 HX3.out
  go_wp2_with fail
  with_reducible refine (CSL.out _).mono ?_
  rintro e4 w4 ⟨rfl, hb⟩
  have HX4 := Lib.hid (HX3.out.keep hb HX3.out.lt)
  have HB4 := Lib.hid (HB3.out.trans (hb.mono HB3.out.size))
  clear hb
  have HT4 := HT.out.below HB4.out HT.out.lt
  obtain ⟨u0, u1, u2, u3, u4, u5, u6, u7, u8, u9, u10, u11⟩ := cells12 HX4.out
  go_wp2_with fail
  with_reducible refine (CP.out _ HT4).mono ?_
  rintro e5 w5 ⟨rfl, hb⟩
  have HB5 := Lib.hid (HB4.out.trans (hb.mono HB4.out.size))
  clear hb
  go_wp2_with fail
  go_ret
  exact ⟨rfl, HB5.out⟩
set_option maxHeartbeats 4000000 in
theorem lengths_few (x0 x1 x2 x3 x4 x5 x6 x7 x8 x9 sec head plain A : ByteArray) (xo xp : Bool) (num : Nat) (w : World) (ht : Tab w) (h1 : (sec.size : Int) ≤ 60) (h2 : (head.size : Int) ≤ 60) (h3 : (plain.size : Int) ≤ 300) (hA : A.size = plain.size + 16)
    (CN : Hid (∀ W : World, Calls Tryz.prog 22 #[.string sec] W fun e w' => e = .returned (.agg #[.string x0, .string x1, .string x2, .string x3, .string x4, .string x5, .string x6, .string x7, .string x8, .string x9, .bool xo, .bool xp]) ∧ Below W.heap.size W w'))
    (CSL : Hid (∀ W : World, Calls Tryz.prog 16 #[.agg #[.string x4, .string x5, .string x6], .int .u64 num, .string head, .string plain] W fun e w' => e = .returned (.string A) ∧ Below W.heap.size W w'))
    (CP : Hid (∀ W : World, Tab W → Calls Tryz.prog 27 #[.agg #[.string x0, .string x1, .string x2, .string x3, .string x4, .string x5, .string x6, .string x7, .string x8, .string x9, .bool xo, .bool xp], .int .u64 num, .int .u64 0, .bool false, .string ⟨#[97, 98, 99, 100, 101, 102, 103, 104]⟩, .string plain] W fun e w' => e = .returned (.tuple #[.string ⟨#[]⟩, .int .i64 1]) ∧ Below W.heap.size W w'))
    (hno : (num : Int) ≤ 4611686018427387903) (hp : (plain.size : Int) < 4) :
    Calls Tryz.prog 7 #[.string sec, .int .u64 num, .string head, .string plain] w fun e w' => e = .returned (.bool true) ∧ Below w.heap.size w w' := by
  have g1 : ¬ (sec.size : Int) > 60 := by omega
  have g2 : ¬ (head.size : Int) > 60 := by omega
  have g3 : ¬ (plain.size : Int) > 300 := by omega
  have hA2 : (A.size : Int) = (plain.size : Int) + 16 := by omega
  have CS := Lib.hid (shown_any w ht)
  have HT := Lib.hid ht
  clear ht
  have g4 : ¬ (num : Int) > 4611686018427387903 := by omega
  go_enter Tryz.func7, Tryz.ntmps7
  go_wp2_with fail
  with_reducible refine CS.out.mono ?_
  rintro e1 w1 ⟨rfl, hb⟩
  have HB1 := Lib.hid hb
  clear hb
  go_wp2_with fail
  with_reducible refine (CN.out _).mono ?_
  rintro e2 w2 ⟨rfl, hb⟩
  have HB2 := Lib.hid (HB1.out.trans (hb.mono HB1.out.size))
  clear hb
  have HX3 : Hid (SX (w2.alloc (.cells #[.string x0, .string x1, .string x2, .string x3, .string x4, .string x5, .string x6, .string x7, .string x8, .string x9, .bool xo, .bool xp] 43)) w2.heap.size x0 x1 x2 x3 x4 x5 x6 x7 x8 x9 xo xp) := Lib.hid (heap_alloc_new w2 _)
  have HB3 := Lib.hid (HB2.out.alloc HB2.out.size (.cells #[.string x0, .string x1, .string x2, .string x3, .string x4, .string x5, .string x6, .string x7, .string x8, .string x9, .bool xo, .bool xp] 43))
  go_upto_region 4 with (fail)
  generalize w2.alloc (.cells #[.string x0, .string x1, .string x2, .string x3, .string x4, .string x5, .string x6, .string x7, .string x8, .string x9, .bool xo, .bool xp] 43) = W3 at *
  generalize w2.heap.size = b1 at *
  obtain ⟨q0, q1, q2, q3, q4, q5, q6, q7, q8, q9, q10, q11⟩ := cells12 HX3.out
  go_wp2_with fail
  with_reducible refine (CSL.out _).mono ?_
  rintro e4 w4 ⟨rfl, hb⟩
  have HX4 := Lib.hid (HX3.out.keep hb HX3.out.lt)
  have HB4 := Lib.hid (HB3.out.trans (hb.mono HB3.out.size))
  clear hb
  have HT4 := HT.out.below HB4.out HT.out.lt
  obtain ⟨u0, u1, u2, u3, u4, u5, u6, u7, u8, u9, u10, u11⟩ := cells12 HX4.out
  go_wp2_with fail
  with_reducible refine (CP.out _ HT4).mono ?_
  rintro e5 w5 ⟨rfl, hb⟩
  have HB5 := Lib.hid (HB4.out.trans (hb.mono HB4.out.size))
  clear hb
  go_wp2_with fail
  go_ret
  exact ⟨rfl, HB5.out⟩
set_option maxHeartbeats 4000000 in
theorem lengths_ok (x0 x1 x2 x3 x4 x5 x6 x7 x8 x9 sec head plain A P : ByteArray) (xo xp : Bool) (num wd f : Nat) (w : World) (ht : Tab w) (h1 : (sec.size : Int) ≤ 60) (h2 : (head.size : Int) ≤ 60) (h3 : (plain.size : Int) ≤ 300) (hA : A.size = plain.size + 16)
    (CN : Hid (∀ W : World, Calls Tryz.prog 22 #[.string sec] W fun e w' => e = .returned (.agg #[.string x0, .string x1, .string x2, .string x3, .string x4, .string x5, .string x6, .string x7, .string x8, .string x9, .bool xo, .bool xp]) ∧ Below W.heap.size W w'))
    (CSL : Hid (∀ W : World, Calls Tryz.prog 16 #[.agg #[.string x4, .string x5, .string x6], .int .u64 num, .string head, .string plain] W fun e w' => e = .returned (.string A) ∧ Below W.heap.size W w'))
    (CP : Hid (∀ W : World, Tab W → Calls Tryz.prog 27 #[.agg #[.string x0, .string x1, .string x2, .string x3, .string x4, .string x5, .string x6, .string x7, .string x8, .string x9, .bool xo, .bool xp], .int .u64 num, .int .u64 0, .bool false, .string ⟨#[97, 98, 99, 100, 101, 102, 103, 104]⟩, .string plain] W fun e w' => e = .returned (.tuple #[.string P, .int .i64 0]) ∧ Below W.heap.size W w'))
    (hno : (num : Int) ≤ 4611686018427387903) (hp : 4 ≤ (plain.size : Int)) (hw1 : 1 ≤ wd) (hw4 : wd ≤ 4) (hP : P.size = 9 + wd + plain.size + 16) (h0 : 0 < P.size) (hf : P[0].toNat = f) (hf2 : f / 32 = 2) (hcid : P.extract 1 9 = ⟨#[97, 98, 99, 100, 101, 102, 103, 104]⟩) :
    Calls Tryz.prog 7 #[.string sec, .int .u64 num, .string head, .string plain] w fun e w' => e = .returned (.bool true) ∧ Below w.heap.size w w' := by
  have g1 : ¬ (sec.size : Int) > 60 := by omega
  have g2 : ¬ (head.size : Int) > 60 := by omega
  have g3 : ¬ (plain.size : Int) > 300 := by omega
  have hA2 : (A.size : Int) = (plain.size : Int) + 16 := by omega
  have CS := Lib.hid (shown_any w ht)
  have HT := Lib.hid ht
  clear ht
  have g4 : ¬ (num : Int) > 4611686018427387903 := by omega
  have g5 : ¬ (plain.size : Int) < 4 := by omega
  have e1 : (P.size : Int) - 9 - (plain.size : Int) - 16 = (wd : Int) := by omega
  have e2 : ((9 : Int) + (wd : Int) + (plain.size : Int) + 16) - 9 - (plain.size : Int) - 16 = (wd : Int) := by omega
  have e3 : (wd : Int) ≥ 1 := by omega
  have e4 : (wd : Int) ≤ 4 := by omega
  have e5 : (f : Int) / 32 = 2 := by omega
  have e6 : (f : Int).tdiv 32 = 2 := by rw [Int.tdiv_eq_ediv_of_nonneg (by omega)]; exact e5
  have e7 : (0 : Int) < (P.size : Int) := by omega
  have e8 : (9 : Int) ≤ (P.size : Int) := by omega
  have e9 : (P.size : Int) ≤ 1000 := by omega
  clear hP
  go_enter Tryz.func7, Tryz.ntmps7
  go_wp2_with fail
  with_reducible refine CS.out.mono ?_
  rintro e1 w1 ⟨rfl, hb⟩
  have HB1 := Lib.hid hb
  clear hb
  go_wp2_with fail
  with_reducible refine (CN.out _).mono ?_
  rintro e2 w2 ⟨rfl, hb⟩
  have HB2 := Lib.hid (HB1.out.trans (hb.mono HB1.out.size))
  clear hb
  have HX3 : Hid (SX (w2.alloc (.cells #[.string x0, .string x1, .string x2, .string x3, .string x4, .string x5, .string x6, .string x7, .string x8, .string x9, .bool xo, .bool xp] 43)) w2.heap.size x0 x1 x2 x3 x4 x5 x6 x7 x8 x9 xo xp) := Lib.hid (heap_alloc_new w2 _)
  have HB3 := Lib.hid (HB2.out.alloc HB2.out.size (.cells #[.string x0, .string x1, .string x2, .string x3, .string x4, .string x5, .string x6, .string x7, .string x8, .string x9, .bool xo, .bool xp] 43))
  go_upto_region 4 with (fail)
  generalize w2.alloc (.cells #[.string x0, .string x1, .string x2, .string x3, .string x4, .string x5, .string x6, .string x7, .string x8, .string x9, .bool xo, .bool xp] 43) = W3 at *
  generalize w2.heap.size = b1 at *
  obtain ⟨q0, q1, q2, q3, q4, q5, q6, q7, q8, q9, q10, q11⟩ := cells12 HX3.out
  go_wp2_with fail
  with_reducible refine (CSL.out _).mono ?_
  rintro e4 w4 ⟨rfl, hb⟩
  have HX4 := Lib.hid (HX3.out.keep hb HX3.out.lt)
  have HB4 := Lib.hid (HB3.out.trans (hb.mono HB3.out.size))
  clear hb
  have HT4 := HT.out.below HB4.out HT.out.lt
  obtain ⟨u0, u1, u2, u3, u4, u5, u6, u7, u8, u9, u10, u11⟩ := cells12 HX4.out
  go_wp2_with fail
  with_reducible refine (CP.out _ HT4).mono ?_
  rintro e5 w5 ⟨rfl, hb⟩
  have HB5 := Lib.hid (HB4.out.trans (hb.mono HB4.out.size))
  clear hb
  go_wp2_with fail
  go_ret
  exact ⟨rfl, HB5.out⟩
theorem law_lengths (sec : ByteArray) (num : Int) (head plain : ByteArray) (w : World) (ht : Tab w) (w0 : sec.size ≤ maxLen) (w1 : (Lit.int .u64 num).wf = true) (w2 : head.size ≤ maxLen) (w3 : plain.size ≤ maxLen) :
    Calls Tryz.prog 7 #[.string sec, .int .u64 num, .string head, .string plain] w fun e w' => e = .returned (.bool true) ∧ Below w.heap.size w w' := by
  simp only [Lit.wf, Bool.and_eq_true, decide_eq_true_eq] at w1
  have hn0 : 0 ≤ num := w1.1
  have hn1 : num ≤ 18446744073709551615 := w1.2
  obtain ⟨n, rfl⟩ : ∃ m : Nat, num = (m : Int) := ⟨num.toNat, by omega⟩
  by_cases h1 : 60 < sec.size
  · exact lengths_k sec head plain n w ht (by omega)
  by_cases h2 : 60 < head.size
  · exact lengths_n sec head plain n w ht (by omega)
  by_cases h3 : 300 < plain.size
  · exact lengths_s sec head plain n w ht (by omega)
  obtain ⟨S, hS⟩ : ∃ l : List UInt8, sec = ⟨l.toArray⟩ := ⟨sec.data.toList, rfl⟩
  obtain ⟨H, hH⟩ : ∃ l : List UInt8, head = ⟨l.toArray⟩ := ⟨head.data.toList, rfl⟩
  obtain ⟨L, hL⟩ : ∃ l : List UInt8, plain = ⟨l.toArray⟩ := ⟨plain.data.toList, rfl⟩
  subst hS hH hL
  rw [ba_size] at h1 h2 h3
  have hk := ofK_k S
  have hv := ofK_v S
  have hm := ofK_m S
  have CN : Hid (∀ W : World, Calls Tryz.prog 22 #[.string ⟨S.toArray⟩] W fun e w' => e = .returned (.agg (newS S).arr) ∧ Below W.heap.size W w') := Lib.hid (fun W => new_any S W (by omega))
  have CSL := Lib.hid (fun W => seal_any (ofK S).k (ofK S).v (ofK S).m n H L W (by omega) (by omega) (by omega) (by omega) (by omega))
  have hA := sealL_len (ofK S).k (ofK S).v n H L
  by_cases hno : (n : Int) > 4611686018427387903
  · exact lengths_num _ _ _ _ _ _ _ _ _ _ _ _ _ ⟨(sealL (ofK S).k (ofK S).v n H L).toArray⟩ false false n w ht (by rw [ba_size]; omega) (by rw [ba_size]; omega) (by rw [ba_size]; omega) (by rw [ba_size, ba_size]; exact hA) CN CSL (Lib.hid fun W hW => protect_no _ _ _ _ _ _ _ _ _ _ _ _ n 0 false _ _ W (.inl hno)) hno
  by_cases hp : L.length < 4
  · exact lengths_few _ _ _ _ _ _ _ _ _ _ _ _ _ ⟨(sealL (ofK S).k (ofK S).v n H L).toArray⟩ false false n w ht (by rw [ba_size]; omega) (by rw [ba_size]; omega) (by rw [ba_size]; omega) (by rw [ba_size, ba_size]; exact hA) CN CSL (Lib.hid fun W hW => protect_no _ _ _ _ _ _ _ _ _ _ _ _ n 0 false _ _ W (.inr ⟨by omega, .inr ⟨rfl, by rw [ba_size]; exact hp⟩⟩)) (by omega) (by rw [ba_size]; omega)
  obtain ⟨r1, r4, -⟩ := wd_range n 0 false
  have hpl := pr_len false (ofK S) [97, 98, 99, 100, 101, 102, 103, 104] L n (wdN n 0 false) rfl r1 r4 (by omega)
  obtain ⟨-, -, f, nn, e, l, f32, -⟩ := pr_facts false (ofK S) [97, 98, 99, 100, 101, 102, 103, 104] L n (wdN n 0 false) rfl r1 r4 (by omega)
  have hP0 : 0 < (⟨(prL false (ofK S) [97, 98, 99, 100, 101, 102, 103, 104] L n (wdN n 0 false)).toArray⟩ : ByteArray).size := by rw [ba_size]; omega
  exact lengths_ok _ _ _ _ _ _ _ _ _ _ _ _ _ ⟨(sealL (ofK S).k (ofK S).v n H L).toArray⟩ ⟨(prL false (ofK S) [97, 98, 99, 100, 101, 102, 103, 104] L n (wdN n 0 false)).toArray⟩ false false n (wdN n 0 false) f.toNat w ht (by rw [ba_size]; omega) (by rw [ba_size]; omega) (by rw [ba_size]; omega) (by rw [ba_size, ba_size]; exact hA) CN CSL
    (Lib.hid fun W hW => protect_any (newS S) n 0 false [97, 98, 99, 100, 101, 102, 103, 104] L W hW (by show (ofK S).k.length ≤ 1000; omega) (by show (ofK S).v.length ≤ 1000; omega) (by show (ofK S).m.length ≤ 1000; omega) (by omega) rfl (by omega) (by omega))
    (by omega) (by rw [ba_size]; omega) r1 r4 (by rw [ba_size, ba_size]; exact hpl) hP0 (first_byte _ f _ e hP0) f32 (cid_of _ f _ _ e rfl)
end Go.Proofs.YtagbkmoahflfdaaGreatDoor.Se
