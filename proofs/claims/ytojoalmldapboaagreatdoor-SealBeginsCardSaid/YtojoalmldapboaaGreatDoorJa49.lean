/- The laws of layer 9: New, Turn in one word; what they show · The law SealBegins, walked -/
import Derived.Test.YtojoalmldapboaaGreatDoorJa48
namespace Go.Proofs.YtojoalmldapboaaGreatDoor.Se
set_option maxRecDepth 20000
open Go.RowKit Vm Dg Kd
set_option linter.unusedVariables false
set_option linter.unusedSimpArgs false

theorem nxt_len (k : List UInt8) : (nxt k).length = 32 := lab_len _ _ _ _ _
theorem ofK_k (k : List UInt8) : (ofK k).k.length = 32 := lab_len _ _ _ _ _
theorem ofK_v (k : List UInt8) : (ofK k).v.length = 12 := lab_len _ _ _ _ _
theorem ofK_m (k : List UInt8) : (ofK k).m.length = 32 := lab_len _ _ _ _ _
theorem new_any (k : List UInt8) (w : World) (hk : k.length ≤ 1000) : Calls Tryz.prog 22 #[.string ⟨k.toArray⟩] w fun e w' => e = .returned (.agg (newS k).arr) ∧ Below w.heap.size w w' :=
  new_walk ⟨k.toArray⟩ ⟨(kKey k).toArray⟩ ⟨(kIv k).toArray⟩ ⟨(kMask k).toArray⟩ ⟨(nxt k).toArray⟩ ⟨(kKey (nxt k)).toArray⟩ ⟨(kIv (nxt k)).toArray⟩ ⟨(kMask (nxt k)).toArray⟩ w (Lib.hid fun W => of_any k W (by omega)) (Lib.hid fun W => next_any k W (by omega)) (Lib.hid fun W => of_any (nxt k) W (by rw [nxt_len]; decide))
set_option maxHeartbeats 8000000 in
theorem shown_walk (x0 x1 x2 x3 x4 x5 x6 x7 x8 x9 P B B4 : ByteArray) (xo xp : Bool) (w : World) (ht : Tab w) (hP : (P.size : Int) = 31) (hB : B.size = 64) (hB4 : B.extract 0 4 = B4)
    (CN : Hid (∀ W : World, Calls Tryz.prog 22 #[.string ⟨#[115, 101, 99, 114, 101, 116]⟩] W fun e w' => e = .returned (.agg #[.string x0, .string x1, .string x2, .string x3, .string x4, .string x5, .string x6, .string x7, .string x8, .string x9, .bool xo, .bool xp]) ∧ Below W.heap.size W w'))
    (CP : Hid (∀ W : World, Tab W → Calls Tryz.prog 27 #[.agg #[.string x0, .string x1, .string x2, .string x3, .string x4, .string x5, .string x6, .string x7, .string x8, .string x9, .bool xo, .bool xp], .int .u64 5, .int .u64 0, .bool false, .string ⟨#[49, 50, 51, 52, 53, 54, 55, 56]⟩, .string ⟨#[104, 101, 108, 108, 111]⟩] W fun e w' => e = .returned (.tuple #[.string P, .int .i64 0]) ∧ Below W.heap.size W w'))
    (CU : Hid (∀ W : World, Tab W → Calls Tryz.prog 29 #[.agg #[.string x0, .string x1, .string x2, .string x3, .string x4, .string x5, .string x6, .string x7, .string x8, .string x9, .bool xo, .bool xp], .int .u64 0, .bool false, .string P] W fun e w' => e = .returned (.tuple #[.agg #[.string x0, .string x1, .string x2, .string x3, .string x4, .string x5, .string x6, .string x7, .string x8, .string x9, .bool xo, .bool xp], .int .u64 5, .string ⟨#[104, 101, 108, 108, 111]⟩, .int .i64 0]) ∧ Below W.heap.size W w'))
    (CB : Hid (∀ W : World, Calls Tryz.prog 11 #[.string ⟨#[]⟩, .string ⟨#[]⟩, .int .u32 0] W fun e w' => e = .returned (.string B) ∧ Below W.heap.size W w'))
    (CH : Hid (∀ W : World, Calls Tryz.prog 31 #[.string B4] W fun e w' => e = .returned (.string ⟨#[55, 54, 98, 56, 101, 48, 97, 100]⟩) ∧ Below W.heap.size W w')) :
    Calls Tryz.prog 9 #[] w fun e w' => e = .returned (.bool true) ∧ Below w.heap.size w w' := by
  have HT := Lib.hid ht
  clear ht
  go_enter Tryz.func9, Tryz.ntmps9
  go_wp2_with fail
  with_reducible refine (CN.out _).mono ?_
  rintro e1 w1 ⟨rfl, hb⟩
  have HB1 := Lib.hid hb
  clear hb
  have hs1 := HB1.out.size
  have HX1 : Hid (SX (w1.alloc (.cells #[.string x0, .string x1, .string x2, .string x3, .string x4, .string x5, .string x6, .string x7, .string x8, .string x9, .bool xo, .bool xp] 43)) w1.heap.size x0 x1 x2 x3 x4 x5 x6 x7 x8 x9 xo xp) := Lib.hid (heap_alloc_new w1 _)
  have HB2 := Lib.hid (HB1.out.alloc hs1 (.cells #[.string x0, .string x1, .string x2, .string x3, .string x4, .string x5, .string x6, .string x7, .string x8, .string x9, .bool xo, .bool xp] 43))
  have HT2 := HT.out.below HB2.out HT.out.lt
  go_upto_region 2 with (fail)
  generalize w1.alloc (.cells #[.string x0, .string x1, .string x2, .string x3, .string x4, .string x5, .string x6, .string x7, .string x8, .string x9, .bool xo, .bool xp] 43) = W2 at *
  generalize w1.heap.size = b1 at *
  obtain ⟨q0, q1, q2, q3, q4, q5, q6, q7, q8, q9, q10, q11⟩ := cells12 HX1.out
  go_wp2_with fail
  with_reducible refine (CP.out _ HT2).mono ?_
  rintro e3 w3 ⟨rfl, hb⟩
  have HX3 := Lib.hid (HX1.out.keep hb HX1.out.lt)
  have HB3 := Lib.hid (HB2.out.trans (hb.mono HB2.out.size))
  have HT3 := HT2.below hb HT2.lt
  obtain ⟨u0, u1, u2, u3, u4, u5, u6, u7, u8, u9, u10, u11⟩ := cells12 HX3.out
  clear hb
  go_wp2_with fail
  with_reducible refine (CU.out _ HT3).mono ?_
  rintro e4 w4 ⟨rfl, hb⟩
  have HB4 := Lib.hid (HB3.out.trans (hb.mono HB3.out.size))
  clear hb
  go_wp2_with fail
  with_reducible refine (CB.out _).mono ?_
  rintro e5 w5 ⟨rfl, hb⟩
  have HB5 := Lib.hid ((HB4.out.alloc HB4.out.size _).trans (hb.mono (by have := HB4.out.size; simp; omega)))
  clear hb
  go_wp2_with fail
  with_reducible refine (CH.out _).mono ?_
  rintro e6 w6 ⟨rfl, hb⟩
  have HB6 := Lib.hid (HB5.out.trans (hb.mono HB5.out.size))
  clear hb
  go_wp2_with fail
  go_ret
  exact ⟨rfl, HB6.out⟩
theorem shown_any (w : World) (ht : Tab w) : Calls Tryz.prog 9 #[] w fun e w' => e = .returned (.bool true) ∧ Below w.heap.size w w' := by
  have hk := ofK_k [115, 101, 99, 114, 101, 116]
  have hv := ofK_v [115, 101, 99, 114, 101, 116]
  have hm := ofK_m [115, 101, 99, 114, 101, 116]
  have hwd : wdN 5 0 false = 1 := by decide
  have hex : Pn.ex 0 false (cuN 5 1) (Pn.wn (Pn.cl 1)) = 5 := by decide
  have hpl := pr_len false (ofK [115, 101, 99, 114, 101, 116]) [49, 50, 51, 52, 53, 54, 55, 56] [104, 101, 108, 108, 111] 5 1 rfl (by decide) (by decide) (by decide)
  have hbt := ba_take (blk [] [] 0) 4
  rw [blk_known] at hbt
  refine shown_walk ⟨(nxt [115, 101, 99, 114, 101, 116]).toArray⟩ ⟨#[]⟩ ⟨#[]⟩ ⟨#[]⟩ ⟨(kKey [115, 101, 99, 114, 101, 116]).toArray⟩ ⟨(kIv [115, 101, 99, 114, 101, 116]).toArray⟩ ⟨(kMask [115, 101, 99, 114, 101, 116]).toArray⟩ ⟨(kKey (nxt [115, 101, 99, 114, 101, 116])).toArray⟩ ⟨(kIv (nxt [115, 101, 99, 114, 101, 116])).toArray⟩ ⟨(kMask [115, 101, 99, 114, 101, 116]).toArray⟩ ⟨(prL false (ofK [115, 101, 99, 114, 101, 116]) [49, 50, 51, 52, 53, 54, 55, 56] [104, 101, 108, 108, 111] 5 1).toArray⟩ ⟨(blk [] [] 0).toArray⟩ ⟨#[118, 184, 224, 173]⟩ false false w ht (by rw [ba_size, hpl]; rfl) (by rw [ba_size, blk_len]) hbt ?_ ?_ ?_ ?_ ?_
  · exact Lib.hid (fun W => new_any [115, 101, 99, 114, 101, 116] W (by decide))
  · exact Lib.hid (fun W hW => by
      have h := protect_any (newS [115, 101, 99, 114, 101, 116]) 5 0 false [49, 50, 51, 52, 53, 54, 55, 56] [104, 101, 108, 108, 111] W hW (by show (ofK [115, 101, 99, 114, 101, 116]).k.length ≤ 1000; omega) (by show (ofK [115, 101, 99, 114, 101, 116]).v.length ≤ 1000; omega) (by show (ofK [115, 101, 99, 114, 101, 116]).m.length ≤ 1000; omega) (by decide) rfl (by decide) (by decide)
      rw [hwd] at h
      exact h)
  · exact Lib.hid (fun W hW => unprotect_same (newS [115, 101, 99, 114, 101, 116]) 5 1 0 false [49, 50, 51, 52, 53, 54, 55, 56] [104, 101, 108, 108, 111] W hW (by show (ofK [115, 101, 99, 114, 101, 116]).k.length ≤ 1000; omega) (by show (ofK [115, 101, 99, 114, 101, 116]).v.length ≤ 1000; omega) (by show (ofK [115, 101, 99, 114, 101, 116]).m.length ≤ 1000; omega) (by decide) (by decide) rfl (by decide) (by decide) (by decide) (by decide) hex)
  · exact Lib.hid (fun W => block_call ⟨#[]⟩ ⟨#[]⟩ 0 W (by decide) (by decide) (by decide))
  · exact Lib.hid (fun W => hex_any ⟨#[118, 184, 224, 173]⟩ W (by decide))
end Go.Proofs.YtojoalmldapboaaGreatDoor.Se
namespace Go.Proofs.YtojoalmldapboaaGreatDoor.Se
set_option maxRecDepth 20000
open Go.RowKit Vm Dg Kd
set_option linter.unusedVariables false
set_option linter.unusedSimpArgs false

set_option maxHeartbeats 2000000 in
theorem begins_k (key nonce s : ByteArray) (c n : Int) (w : World) (ht : Tab w) (h : 60 < (key.size : Int)) :
    Calls Tryz.prog 8 #[.string key, .string nonce, .int .u32 c, .string s, .int .u8 n] w fun e w' => e = .returned (.bool true) ∧ Below w.heap.size w w' := by
  have h1 : (key.size : Int) > 60 := h
  have CS := Lib.hid (shown_any w ht)
  clear h ht
  go_enter Tryz.func8, Tryz.ntmps8
  go_wp2_with fail
  with_reducible refine CS.out.mono ?_
  rintro e1 w1 ⟨rfl, hb⟩
  have HB1 := Lib.hid hb
  clear hb
  go_wp2_with fail
  go_ret
  exact ⟨rfl, HB1.out⟩
set_option maxHeartbeats 2000000 in
theorem begins_n (key nonce s : ByteArray) (c n : Int) (w : World) (ht : Tab w) (h : (key.size : Int) ≤ 60 ∧ 40 < (nonce.size : Int)) :
    Calls Tryz.prog 8 #[.string key, .string nonce, .int .u32 c, .string s, .int .u8 n] w fun e w' => e = .returned (.bool true) ∧ Below w.heap.size w w' := by
  have h1 : ¬ (key.size : Int) > 60 := by omega
  have h2 : (nonce.size : Int) > 40 := h.2
  have CS := Lib.hid (shown_any w ht)
  clear h ht
  go_enter Tryz.func8, Tryz.ntmps8
  go_wp2_with fail
  with_reducible refine CS.out.mono ?_
  rintro e1 w1 ⟨rfl, hb⟩
  have HB1 := Lib.hid hb
  clear hb
  go_wp2_with fail
  go_ret
  exact ⟨rfl, HB1.out⟩
set_option maxHeartbeats 2000000 in
theorem begins_s (key nonce s : ByteArray) (c n : Int) (w : World) (ht : Tab w) (h : (key.size : Int) ≤ 60 ∧ (nonce.size : Int) ≤ 40 ∧ 300 < (s.size : Int)) :
    Calls Tryz.prog 8 #[.string key, .string nonce, .int .u32 c, .string s, .int .u8 n] w fun e w' => e = .returned (.bool true) ∧ Below w.heap.size w w' := by
  have h1 : ¬ (key.size : Int) > 60 := by omega
  have h2 : ¬ (nonce.size : Int) > 40 := by omega
  have h3 : (s.size : Int) > 300 := h.2.2
  have CS := Lib.hid (shown_any w ht)
  clear h ht
  go_enter Tryz.func8, Tryz.ntmps8
  go_wp2_with fail
  with_reducible refine CS.out.mono ?_
  rintro e1 w1 ⟨rfl, hb⟩
  have HB1 := Lib.hid hb
  clear hb
  go_wp2_with fail
  go_ret
  exact ⟨rfl, HB1.out⟩
set_option maxHeartbeats 4000000 in
theorem begins_walk (key nonce s T SK B : ByteArray) (c n : Int) (k : Nat) (w : World) (ht : Tab w) (h1 : (key.size : Int) ≤ 60) (h2 : (nonce.size : Int) ≤ 40) (h3 : (s.size : Int) ≤ 300) (hn0 : 0 ≤ n) (hn1 : n ≤ 255) (hk : n.tmod ((s.size : Int) + 1) = (k : Int)) (hks : k ≤ s.size)
    (hT : T.size = s.size) (eSK : s.extract 0 k = SK) (eB : T.extract 0 k = B)
    (C1 : Hid (∀ W : World, Calls Tryz.prog 10 #[.string key, .string nonce, .int .u32 c, .string s] W fun e w' => e = .returned (.string T) ∧ Below W.heap.size W w'))
    (C2 : Hid (∀ W : World, Calls Tryz.prog 10 #[.string key, .string nonce, .int .u32 c, .string SK] W fun e w' => e = .returned (.string B) ∧ Below W.heap.size W w'))
    (CD : Hid (65 ≤ (s.size : Int) → ∃ (TD SD : ByteArray) (d : Int), T.extract 64 s.size = TD ∧ s.extract 64 s.size = SD ∧ IntKind.u32.wrap (c + 1) = d ∧ ∀ W : World, Calls Tryz.prog 10 #[.string key, .string nonce, .int .u32 d, .string SD] W fun e w' => e = .returned (.string TD) ∧ Below W.heap.size W w')) :
    Calls Tryz.prog 8 #[.string key, .string nonce, .int .u32 c, .string s, .int .u8 n] w fun e w' => e = .returned (.bool true) ∧ Below w.heap.size w w' := by
  have g1 : ¬ (key.size : Int) > 60 := by omega
  have g2 : ¬ (nonce.size : Int) > 40 := by omega
  have g3 : ¬ (s.size : Int) > 300 := by omega
  have g4 : (k : Int) ≤ (s.size : Int) := by omega
  have g5 : (k : Int) ≤ (T.size : Int) := by omega
  have CS := Lib.hid (shown_any w ht)
  clear ht
  by_cases h65 : (s.size : Int) < 65
  · go_enter Tryz.func8, Tryz.ntmps8
    go_wp2_with fail
    with_reducible refine CS.out.mono ?_
    rintro e1 w1 ⟨rfl, hb⟩
    have HB1 := Lib.hid hb
    clear hb
    go_wp2_with fail
    with_reducible refine (C1.out _).mono ?_
    rintro e2 w2 ⟨rfl, hb⟩
    have HB2 := Lib.hid (HB1.out.trans (hb.mono HB1.out.size))
    clear hb
    go_wp2_with fail
    with_reducible refine (C2.out _).mono ?_
    rintro e3 w3 ⟨rfl, hb⟩
    have HB3 := Lib.hid (HB2.out.trans (hb.mono HB2.out.size))
    clear hb
    go_wp2_with fail
    go_ret
    exact ⟨rfl, HB3.out⟩
  obtain ⟨TD, SD, d, eTD, eSD, ed, C3'⟩ := CD.out (by omega)
  have C3 := Lib.hid C3'
  have g6 : (64 : Int) ≤ (s.size : Int) := by omega
  have eTD2 : T.extract 64 T.size = TD := by rw [hT]; exact eTD
  clear C3' CD
  go_enter Tryz.func8, Tryz.ntmps8
  go_wp2_with fail
  with_reducible refine CS.out.mono ?_
  rintro e1 w1 ⟨rfl, hb⟩
  have HB1 := Lib.hid hb
  clear hb
  go_wp2_with fail
  with_reducible refine (C1.out _).mono ?_
  rintro e2 w2 ⟨rfl, hb⟩
  have HB2 := Lib.hid (HB1.out.trans (hb.mono HB1.out.size))
  clear hb
  go_wp2_with fail
  with_reducible refine (C2.out _).mono ?_
  rintro e3 w3 ⟨rfl, hb⟩
  have HB3 := Lib.hid (HB2.out.trans (hb.mono HB2.out.size))
  clear hb
  go_wp2_with fail
  refine wp_region_noPanic ?_
  refine wp_region_held_drew (S := fun W : World => Below w.heap.size w W) (by kernel_rfl) ?_ (fun hHeld => ?_)
  · exact HB3.out.drew
  refine wpAnyH_take (i := 0) (v := ?_) rfl (by kernel_rfl) (by kernel_rfl) (by kernel_rfl) (fun _ _ _ h => h) (Or.inl ⟨by rfl, ?_⟩) (by assumption) ?_
  rotate_left
  · (intro w hSw; have hsb := hSw; go_simp; (try with_reducible rfl))
  try simp only [Act.put, List.getElem_toArray, List.getElem_cons_zero, List.getElem_cons_succ, List.setIfInBounds_toArray, List.set_cons_zero, List.set_cons_succ]
  refine wpAnyH_take (i := 1) (v := ?_) rfl (by kernel_rfl) (by kernel_rfl) (by kernel_rfl) (fun _ _ _ h => h) (Or.inl ⟨by rfl, ?_⟩) (by assumption) ?_
  rotate_left
  · (intro w hSw; have hsb := hSw; go_simp; (try with_reducible rfl))
  try simp only [Act.put, List.getElem_toArray, List.getElem_cons_zero, List.getElem_cons_succ, List.setIfInBounds_toArray, List.set_cons_zero, List.set_cons_succ]
  refine wpAnyH_take (i := 2) (v := ?_) rfl (by kernel_rfl) (by kernel_rfl) (by kernel_rfl) (fun _ _ _ h => h) (Or.inl ⟨by rfl, ?_⟩) (by assumption) ?_
  rotate_left
  · (intro w hSw; have hsb := hSw; go_simp; (try with_reducible rfl))
  try simp only [Act.put, List.getElem_toArray, List.getElem_cons_zero, List.getElem_cons_succ, List.setIfInBounds_toArray, List.set_cons_zero, List.set_cons_succ]
  refine wpAnyH_take (i := 3) (v := ?_) rfl (by kernel_rfl) (by kernel_rfl) (by kernel_rfl) (fun _ _ _ h => h) (Or.inl ⟨by rfl, ?_⟩) (by assumption) ?_
  rotate_left
  · (intro w hSw; have hsb := hSw; go_simp; (try with_reducible rfl))
  try simp only [Act.put, List.getElem_toArray, List.getElem_cons_zero, List.getElem_cons_succ, List.setIfInBounds_toArray, List.set_cons_zero, List.set_cons_succ]
  refine wpAnyH_take (i := 4) (v := ?_) rfl (by kernel_rfl) (by kernel_rfl) (by kernel_rfl) (fun _ _ _ h => h) (Or.inl ⟨by rfl, ?_⟩) (by assumption) ?_
  rotate_left
  · (intro w hSw; have hsb := hSw; go_simp; (try with_reducible rfl))
  try simp only [Act.put, List.getElem_toArray, List.getElem_cons_zero, List.getElem_cons_succ, List.setIfInBounds_toArray, List.set_cons_zero, List.set_cons_succ]
  refine wpAnyH_take (i := 5) (v := ?_) rfl (by kernel_rfl) (by kernel_rfl) (by kernel_rfl) (fun _ _ _ h => h) (Or.inl ⟨by rfl, ?_⟩) (by assumption) ?_
  rotate_left
  · (intro w hSw; have hsb := hSw; go_simp; (try with_reducible rfl))
  try simp only [Act.put, List.getElem_toArray, List.getElem_cons_zero, List.getElem_cons_succ, List.setIfInBounds_toArray, List.set_cons_zero, List.set_cons_succ]
  refine wpAnyH_take (i := 6) (v := ?_) rfl (by kernel_rfl) (by kernel_rfl) (by kernel_rfl) (fun _ _ _ h => h) (Or.inl ⟨by rfl, ?_⟩) (by assumption) ?_
  rotate_left
  · (intro w hSw; have hsb := hSw; go_simp; (try with_reducible rfl))
  try simp only [Act.put, List.getElem_toArray, List.getElem_cons_zero, List.getElem_cons_succ, List.setIfInBounds_toArray, List.set_cons_zero, List.set_cons_succ]
  refine wpAnyH_take (i := 7) (v := ?_) rfl (by kernel_rfl) (by kernel_rfl) (by kernel_rfl) (fun _ _ _ h => h) (Or.inl ⟨by rfl, ?_⟩) (by assumption) ?_
  rotate_left
  · (intro w hSw; have hsb := hSw; go_simp; (try with_reducible rfl))
  try simp only [Act.put, List.getElem_toArray, List.getElem_cons_zero, List.getElem_cons_succ, List.setIfInBounds_toArray, List.set_cons_zero, List.set_cons_succ]
  refine wpAnyH_ready (rs := [8]) (by kernel_rfl) (by simp) ?_
  refine AllReadyH.cons rfl (fun K hK => ?_) AllReadyH.nil
  rw [if_pos (by rfl)]
  go_simp
  with_reducible refine (C3.out _).mono ?_
  rintro e4 w4 ⟨rfl, hb⟩
  have HB4 := Lib.hid (HB3.out.drew.trans (hb.mono HB3.out.drew.size))
  clear hb
  refine hK.out _ _ ?_ (fun hHeld => ?_)
  · exact HB4.out
  clear hK K
  try simp only [Act.put, List.getElem_toArray, List.getElem_cons_zero, List.getElem_cons_succ, List.setIfInBounds_toArray, List.set_cons_zero, List.set_cons_succ]
  refine wpAnyH_take (i := 9) (v := ?_) rfl (by kernel_rfl) (by kernel_rfl) (by kernel_rfl) (fun _ _ _ h => h) (Or.inl ⟨by rfl, ?_⟩) (by assumption) ?_
  rotate_left
  · (intro w hSw; have hsb := hSw; go_simp; (try with_reducible rfl))
  try simp only [Act.put, List.getElem_toArray, List.getElem_cons_zero, List.getElem_cons_succ, List.setIfInBounds_toArray, List.set_cons_zero, List.set_cons_succ]
  refine wpAnyH_take (i := 10) (v := ?_) rfl (by kernel_rfl) (by kernel_rfl) (by kernel_rfl) (fun _ _ _ h => h) (Or.inl ⟨by rfl, ?_⟩) (by assumption) ?_
  rotate_left
  · (intro w hSw; have hsb := hSw; go_simp; (try with_reducible rfl))
  try simp only [Act.put, List.getElem_toArray, List.getElem_cons_zero, List.getElem_cons_succ, List.setIfInBounds_toArray, List.set_cons_zero, List.set_cons_succ]
  refine wpAnyH_done (by kernel_rfl) (NoPanic.normal ?_) _
  go_wp2_with fail
  go_ret
  exact ⟨rfl, hHeld⟩
theorem law_begins (key nonce : ByteArray) (c : Int) (s : ByteArray) (n : Int) (w : World) (ht : Tab w) (w0 : key.size ≤ maxLen) (w1 : nonce.size ≤ maxLen) (w2 : (Lit.int .u32 c).wf = true) (w3 : s.size ≤ maxLen) (w4 : (Lit.int .u8 n).wf = true) :
    Calls Tryz.prog 8 #[.string key, .string nonce, .int .u32 c, .string s, .int .u8 n] w fun e w' => e = .returned (.bool true) ∧ Below w.heap.size w w' := by
  simp only [Lit.wf, Bool.and_eq_true, decide_eq_true_eq] at w2 w4
  have hc0 : 0 ≤ c := w2.1
  have hc1 : c ≤ 4294967295 := w2.2
  have hn0 : 0 ≤ n := w4.1
  have hn1 : n ≤ 255 := w4.2
  by_cases h1 : 60 < key.size
  · exact begins_k key nonce s c n w ht (by omega)
  by_cases h2 : 40 < nonce.size
  · exact begins_n key nonce s c n w ht (by omega)
  by_cases h3 : 300 < s.size
  · exact begins_s key nonce s c n w ht (by omega)
  obtain ⟨cn, rfl⟩ : ∃ m : Nat, c = (m : Int) := ⟨c.toNat, by omega⟩
  have hsl : s.data.toList.length = s.size := by simp
  have hm0 := Int.emod_nonneg n (show (s.size : Int) + 1 ≠ 0 by omega)
  have hm1 := Int.emod_lt_of_pos n (show (0 : Int) < (s.size : Int) + 1 by omega)
  obtain ⟨k, hk⟩ : ∃ k : Nat, n % ((s.size : Int) + 1) = (k : Int) := ⟨(n % ((s.size : Int) + 1)).toNat, by omega⟩
  have hkk : n.tmod ((s.size : Int) + 1) = (k : Int) := by rw [Int.tmod_eq_emod_of_nonneg hn0]; exact hk
  have hks : k ≤ s.size := by omega
  have ST := fun (d : Nat) (hd : d < 4294967296) (l : List UInt8) (hl : l.length ≤ 100000) (W : World) => stream_any key nonce d ⟨l.toArray⟩ W (by omega) (by omega) hd (by rw [ba_size]; exact hl)
  have es : (⟨s.data.toList.toArray⟩ : ByteArray) = s := rfl
  have e1 := ba_take s.data.toList k
  rw [es] at e1
  have e2 := ba_take (stream key.data.toList nonce.data.toList cn s.data.toList) k
  have htk := stream_take key.data.toList nonce.data.toList (s.data.toList.length / 64 + 1) k cn s.data.toList (by omega)
  rw [htk] at e2
  have hsz := ba_size (stream key.data.toList nonce.data.toList cn s.data.toList)
  rw [stream_length] at hsz
  refine begins_walk key nonce s ⟨(stream key.data.toList nonce.data.toList cn s.data.toList).toArray⟩ _ _ cn n k w ht (by omega) (by omega) (by omega) hn0 hn1 hkk hks (by rw [hsz]; exact hsl) e1 e2 ?_ ?_ ?_
  · exact Lib.hid (fun W => ST cn (by omega) s.data.toList (by omega) W)
  · exact Lib.hid (fun W => ST cn (by omega) (s.data.toList.take k) (by rw [List.length_take]; omega) W)
  · refine Lib.hid (fun h65 => ⟨⟨((stream key.data.toList nonce.data.toList cn s.data.toList).drop 64).toArray⟩, ⟨(s.data.toList.drop 64).toArray⟩, (((cn + 1) % 4294967296 : Nat) : Int), ba_drop _ 64 s.size (by rw [stream_length]; omega), ?_, ?_, fun W => ?_⟩)
    · have e3 := ba_drop s.data.toList 64 s.size hsl.symm
      rw [es] at e3
      exact e3
    · rw [IntKind.wrap_u32]; omega
    · rw [stream_drop]
      exact ST ((cn + 1) % 4294967296) (Nat.mod_lt _ (by decide)) (s.data.toList.drop 64) (by rw [List.length_drop]; omega) W
end Go.Proofs.YtojoalmldapboaaGreatDoor.Se
