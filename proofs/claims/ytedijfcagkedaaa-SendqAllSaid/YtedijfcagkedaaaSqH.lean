/- Layer 15: a state in a law's block; what is shown. By tools/gen-sendq-7.py. -/
import Derived.Test.YtedijfcagkedaaaSqG
namespace Go.Proofs.Ytedijfcagkedaaa.Rg
set_option maxRecDepth 20000
open Go.RowKit Go.Shelf
set_option linter.unusedVariables false
set_option linter.unusedSimpArgs false

/-- A law's state, in a block of its own. -/
structure LS (w W : World) (g : Nat) (u v : Value) (s : SS) : Prop where
  q : Qb 29 W g u v s
  bl : Below w.heap.size w W
  hg : w.heap.size ≤ g
theorem LS.go {w W W' : World} {g : Nat} {u v : Value} {s : SS} (h : LS w W g u v s) (hb : Below W.heap.size W W') : LS w W' g u v s := ⟨h.q.go hb, nextG h.bl hb, h.hg⟩
theorem LS.dr {w W : World} {g : Nat} {u v : Value} {s : SS} (h : LS w W g u v s) : LS w W.drew g u v s := h.go (Below.refl _ _).drew
theorem LS.al {w W : World} {g : Nat} {u v : Value} {s : SS} (h : LS w W g u v s) (o : Obj) : LS w (W.alloc o) g u v s := h.go ((Below.refl _ _).alloc (Nat.le_refl _) o)
theorem LS.lt {w W : World} {g : Nat} {u v : Value} {s : SS} (h : LS w W g u v s) : g < W.heap.size := h.q.lt
theorem LS.set {w W W1 : World} {g : Nat} {u v u' v' : Value} {s s' : SS} (h : LS w W g u v s) (hb : Below W.heap.size W W1) (ra : Rd W1 u' s'.ak) (rt : Rd W1 v' s'.td) (ka : ∀ k, Blk u' k → W.heap.size ≤ k) (kt : ∀ k, Blk v' k → W.heap.size ≤ k) :
    LS w ((((((((W1.setCell ⟨g, 0, none⟩ (.int .u64 s'.ba)).setCell ⟨g, 1, none⟩ (.int .u64 s'.tp)).setCell ⟨g, 2, none⟩ (.string s'.d)).setCell ⟨g, 3, none⟩ u').setCell ⟨g, 4, none⟩ v').setCell ⟨g, 5, none⟩ (.bool s'.fin)).setCell ⟨g, 6, none⟩ (.bool s'.ft)).setCell ⟨g, 7, none⟩ (.bool s'.fa)) g u' v' s' := by
  have hl := h.q.lt
  have na : ¬ Blk u' g := fun hk => by have := ka _ hk; omega
  have nt : ¬ Blk v' g := fun hk => by have := kt _ hk; omega
  exact ⟨⟨eight_put (h.q.go hb).hb _ _ _ _ _ _ _ _, rd_eight ra na _ _ _ _ _ _ _ _, rd_eight rt nt _ _ _ _ _ _ _ _, na, nt⟩, below_eight (nextG h.bl hb) h.hg _ _ _ _ _ _ _ _, h.hg⟩
theorem LS.sfin {w W : World} {g : Nat} {u v : Value} {s : SS} (h : LS w W g u v s) : LS w W g u v s := h
theorem ls_made (w W : World) (u v : Value) (s : SS) (hb : Below w.heap.size w W) (ha : Rd W u s.ak) (ht : Rd W v s.td) : LS w (W.alloc (.cells #[.int .u64 s.ba, .int .u64 s.tp, .string s.d, u, v, .bool s.fin, .bool s.ft, .bool s.fa] 29)) W.heap.size u v s :=
  ⟨qb_made _ W u v s ha ht, hb.alloc hb.size _, hb.size⟩
theorem rd00 (w : World) : Rd w (.slice none 0 0) [] := ⟨none, 0, rfl, Nat.le_refl _, fun h => absurd rfl h⟩

def abc : ByteArray := ⟨#[97, 98, 99]⟩
def sh1 : SS := ⟨0, 0, abc, [], [(0, 2)], false, false, false⟩
def sh2 : SS := ⟨0, 0, abc, [], [(0, 2)], true, true, false⟩
def sh3 : SS := ⟨0, 3, abc, [], [], true, false, false⟩
def sh4 : SS := ⟨0, 3, abc, [(1, 1)], [], true, false, false⟩
def sh5 : SS := ⟨0, 3, abc, [(1, 1)], [(0, 0), (2, 2)], true, true, false⟩
theorem sh_1 : wrS s00 abc 9 = sh1 ∧ wrN s00 abc 9 = 3 := ⟨by kernel_rfl, by kernel_rfl⟩
theorem sh_2 : finS sh1 = sh2 := by kernel_rfl
theorem sh_n2 : nxt sh2 2 9 = ⟨0, ⟨#[97, 98]⟩, false, true⟩ := by kernel_rfl
theorem sh_3 : sentS sh2 0 3 true = sh3 := by kernel_rfl
theorem sh_n3 : nxt sh3 9 9 = ⟨0, ⟨#[]⟩, false, false⟩ := by kernel_rfl
theorem sh_4 : ackS sh3 1 1 false = sh4 := by kernel_rfl
theorem sh_5 : lostS sh4 0 3 true = sh5 := by kernel_rfl
theorem sh_n5 : nxt sh5 9 9 = ⟨0, ⟨#[97]⟩, false, true⟩ := by kernel_rfl
theorem sh_e5 : en sh5 = 3 := by kernel_rfl
theorem sh_d5 : doneB sh5 = false := by kernel_rfl
theorem ok_1 : SsOk sh1 := by rw [← sh_1.1]; exact wr_ok ss00 (by decide)
theorem ok_2 : SsOk sh2 := by rw [← sh_2]; exact fin_ok ok_1
theorem ok_3 : SsOk sh3 := by rw [← sh_3]; exact sent_ok ok_2 _ _ _
theorem ok_4 : SsOk sh4 := by rw [← sh_4]; exact ack_ok ok_3 _ _ _
theorem ok_5 : SsOk sh5 := by rw [← sh_5]; exact lost_ok ok_4 _ _ _
theorem shw1 (W : World) : Calls Try.prog 12 #[.agg #[.int .u64 0, .int .u64 0, .string ⟨#[]⟩, .slice none 0 0, .slice none 0 0, .bool false, .bool false, .bool false], .string ⟨#[97, 98, 99]⟩, .int .i64 9] W (fun e w' => ∃ p1 m1 e1 p2 m2 e2, e = .returned (.tuple #[.agg #[.int .u64 0, .int .u64 0, .string abc, .slice p1 m1 e1, .slice p2 m2 e2, .bool false, .bool false, .bool false], .int .i64 3]) ∧ Rd w' (.slice p1 m1 e1) [] ∧ Rd w' (.slice p2 m2 e2) [(0, 2)] ∧ (∀ k, Blk (.slice p1 m1 e1) k → W.heap.size ≤ k) ∧ (∀ k, Blk (.slice p2 m2 e2) k → W.heap.size ≤ k) ∧ Below W.heap.size W w') := by
  have h := write_any s00 none 0 0 none 0 0 abc 9 W ss00 (by decide) (by decide) (by decide) (by decide) (rd00 W) (rd00 W)
  rw [sh_1.1, sh_1.2] at h
  exact h
theorem shf1 (a1 : Option Addr) (n1 c1 : Nat) (a2 : Option Addr) (n2 c2 : Nat) (W : World) (k1 : Rd W (.slice a1 n1 c1) []) (k2 : Rd W (.slice a2 n2 c2) [(0, 2)]) : Calls Try.prog 14 #[.agg #[.int .u64 0, .int .u64 0, .string abc, .slice a1 n1 c1, .slice a2 n2 c2, .bool false, .bool false, .bool false]] W (fun e w' => ∃ p1 m1 e1 p2 m2 e2, e = .returned (.agg #[.int .u64 0, .int .u64 0, .string abc, .slice p1 m1 e1, .slice p2 m2 e2, .bool true, .bool true, .bool false]) ∧ Rd w' (.slice p1 m1 e1) [] ∧ Rd w' (.slice p2 m2 e2) [(0, 2)] ∧ (∀ k, Blk (.slice p1 m1 e1) k → W.heap.size ≤ k) ∧ (∀ k, Blk (.slice p2 m2 e2) k → W.heap.size ≤ k) ∧ Below W.heap.size W w') := by
  have h := finish_any sh1 a1 n1 c1 a2 n2 c2  W  (by have := rd_len k1; simp at this; omega) (by have := rd_len k2; simp at this; omega) k1 k2 
  rw [sh_2] at h
  exact h
theorem shs2 (a1 : Option Addr) (n1 c1 : Nat) (a2 : Option Addr) (n2 c2 : Nat) (W : World) (k1 : Rd W (.slice a1 n1 c1) []) (k2 : Rd W (.slice a2 n2 c2) [(0, 2)]) : Calls Try.prog 16 #[.agg #[.int .u64 0, .int .u64 0, .string abc, .slice a1 n1 c1, .slice a2 n2 c2, .bool true, .bool true, .bool false], .int .u64 0, .int .i64 3, .bool true] W (fun e w' => ∃ p1 m1 e1 p2 m2 e2, e = .returned (.agg #[.int .u64 0, .int .u64 3, .string abc, .slice p1 m1 e1, .slice p2 m2 e2, .bool true, .bool false, .bool false]) ∧ Rd w' (.slice p1 m1 e1) [] ∧ Rd w' (.slice p2 m2 e2) [] ∧ (∀ k, Blk (.slice p1 m1 e1) k → W.heap.size ≤ k) ∧ (∀ k, Blk (.slice p2 m2 e2) k → W.heap.size ≤ k) ∧ Below W.heap.size W w') := by
  have h := sent_any sh2 a1 n1 c1 a2 n2 c2 0 3 true W ok_2 (by have := rd_len k1; simp at this; omega) (by have := rd_len k2; simp at this; omega) k1 k2 (by decide) (by decide)
  rw [sh_3] at h
  exact h
theorem sha3 (a1 : Option Addr) (n1 c1 : Nat) (a2 : Option Addr) (n2 c2 : Nat) (W : World) (k1 : Rd W (.slice a1 n1 c1) []) (k2 : Rd W (.slice a2 n2 c2) []) : Calls Try.prog 20 #[.agg #[.int .u64 0, .int .u64 3, .string abc, .slice a1 n1 c1, .slice a2 n2 c2, .bool true, .bool false, .bool false], .int .u64 1, .int .i64 1, .bool false] W (fun e w' => ∃ p1 m1 e1 p2 m2 e2, e = .returned (.agg #[.int .u64 0, .int .u64 3, .string abc, .slice p1 m1 e1, .slice p2 m2 e2, .bool true, .bool false, .bool false]) ∧ Rd w' (.slice p1 m1 e1) [(1, 1)] ∧ Rd w' (.slice p2 m2 e2) [] ∧ (∀ k, Blk (.slice p1 m1 e1) k → W.heap.size ≤ k) ∧ (∀ k, Blk (.slice p2 m2 e2) k → W.heap.size ≤ k) ∧ Below W.heap.size W w') := by
  have h := acked_any sh3 a1 n1 c1 a2 n2 c2 1 1 false W ok_3 (by have := rd_len k1; simp at this; omega) (by have := rd_len k2; simp at this; omega) k1 k2 (by decide) (by decide) (by decide)
  rw [sh_4] at h
  exact h
theorem shl4 (a1 : Option Addr) (n1 c1 : Nat) (a2 : Option Addr) (n2 c2 : Nat) (W : World) (k1 : Rd W (.slice a1 n1 c1) [(1, 1)]) (k2 : Rd W (.slice a2 n2 c2) []) : Calls Try.prog 18 #[.agg #[.int .u64 0, .int .u64 3, .string abc, .slice a1 n1 c1, .slice a2 n2 c2, .bool true, .bool false, .bool false], .int .u64 0, .int .i64 3, .bool true] W (fun e w' => ∃ p1 m1 e1 p2 m2 e2, e = .returned (.agg #[.int .u64 0, .int .u64 3, .string abc, .slice p1 m1 e1, .slice p2 m2 e2, .bool true, .bool true, .bool false]) ∧ Rd w' (.slice p1 m1 e1) [(1, 1)] ∧ Rd w' (.slice p2 m2 e2) [(0, 0), (2, 2)] ∧ (∀ k, Blk (.slice p1 m1 e1) k → W.heap.size ≤ k) ∧ (∀ k, Blk (.slice p2 m2 e2) k → W.heap.size ≤ k) ∧ Below W.heap.size W w') := by
  have h := lost_any sh4 a1 n1 c1 a2 n2 c2 0 3 true W ok_4 (by have := rd_len k1; simp at this; omega) (by have := rd_len k2; simp at this; omega) k1 k2 (by decide) (by decide)
  rw [sh_5] at h
  exact h
theorem shn2 (a1 : Option Addr) (n1 c1 : Nat) (a2 : Option Addr) (n2 c2 : Nat) (W : World) (k1 : Rd W (.slice a1 n1 c1) []) (k2 : Rd W (.slice a2 n2 c2) [(0, 2)]) : Calls Try.prog 10 #[.agg #[.int .u64 0, .int .u64 0, .string abc, .slice a1 n1 c1, .slice a2 n2 c2, .bool true, .bool true, .bool false], .int .i64 2, .int .u64 9] W fun e w' => e = .returned (.tuple #[.int .u64 0, .string ⟨#[97, 98]⟩, .bool false, .bool true]) ∧ Below W.heap.size W w' :=
  next_any sh2 a1 n1 c1 a2 n2 c2 2 9 W ok_2 k1 k2 (by decide) (by decide) _ sh_n2
theorem shn3 (a1 : Option Addr) (n1 c1 : Nat) (a2 : Option Addr) (n2 c2 : Nat) (W : World) (k1 : Rd W (.slice a1 n1 c1) []) (k2 : Rd W (.slice a2 n2 c2) []) : Calls Try.prog 10 #[.agg #[.int .u64 0, .int .u64 3, .string abc, .slice a1 n1 c1, .slice a2 n2 c2, .bool true, .bool false, .bool false], .int .i64 9, .int .u64 9] W fun e w' => e = .returned (.tuple #[.int .u64 0, .string ⟨#[]⟩, .bool false, .bool false]) ∧ Below W.heap.size W w' :=
  next_any sh3 a1 n1 c1 a2 n2 c2 9 9 W ok_3 k1 k2 (by decide) (by decide) _ sh_n3
theorem shn5 (a1 : Option Addr) (n1 c1 : Nat) (a2 : Option Addr) (n2 c2 : Nat) (W : World) (k1 : Rd W (.slice a1 n1 c1) [(1, 1)]) (k2 : Rd W (.slice a2 n2 c2) [(0, 0), (2, 2)]) : Calls Try.prog 10 #[.agg #[.int .u64 0, .int .u64 3, .string abc, .slice a1 n1 c1, .slice a2 n2 c2, .bool true, .bool true, .bool false], .int .i64 9, .int .u64 9] W fun e w' => e = .returned (.tuple #[.int .u64 0, .string ⟨#[97]⟩, .bool false, .bool true]) ∧ Below W.heap.size W w' :=
  next_any sh5 a1 n1 c1 a2 n2 c2 9 9 W ok_5 k1 k2 (by decide) (by decide) _ sh_n5
theorem she5 (u v : Value) (W : World) : Calls Try.prog 26 #[.agg #[.int .u64 0, .int .u64 3, .string abc, u, v, .bool true, .bool true, .bool false]] W fun e w' => e = .returned (.int .u64 3) ∧ Below W.heap.size W w' := by
  have h := endq_End sh5 u v W (by decide) (by decide)
  rw [sh_e5] at h
  exact h
theorem shd5 (u v : Value) (W : World) : Calls Try.prog 24 #[.agg #[.int .u64 0, .int .u64 3, .string abc, u, v, .bool true, .bool true, .bool false]] W fun e w' => e = .returned (.bool false) ∧ Below W.heap.size W w' := by
  have h := done_any sh5 u v W
  rw [sh_d5] at h
  exact h
set_option maxHeartbeats 8000000 in
theorem shown15_any (w : World) : Calls Try.prog 9 #[] w fun e w' => e = .returned (.bool true) ∧ Below w.heap.size w w' := by
  have HA := Lib.hid shw1
  have Hshf1 := Lib.hid @shf1
  have Hshs2 := Lib.hid @shs2
  have Hsha3 := Lib.hid @sha3
  have Hshl4 := Lib.hid @shl4
  have Hshn2 := Lib.hid @shn2
  have Hshn3 := Lib.hid @shn3
  have Hshn5 := Lib.hid @shn5
  have Hshe5 := Lib.hid @she5
  have Hshd5 := Lib.hid @shd5
  generalize habc : abc = abc' at *
  go_enter Try.func9, Try.ntmps9
  go_wp2_with fail
  with_reducible refine (HA.out _).mono ?_
  rintro e w1 ⟨a1, n1, d1, a2, n2, d2, rfl, hra, hrt, hka, hkt, hb⟩
  have HL1 := Lib.hid (ls_made w w1 (.slice a1 n1 d1) (.slice a2 n2 d2) ⟨0, 0, abc', [], [(0, 2)], false, false, false⟩ hb hra hrt)
  simp only at HL1
  clear hra hrt hka hkt hb
  go_wp2_with fail
  with_reducible refine (Hshf1.out _ _ _ _ _ _ _ HL1.out.q.ra HL1.out.q.rt).mono ?_
  rintro e wv2 ⟨a2x, n2x, d2x, a2y, n2y, d2y, rfl, hra, hrt, hka, hkt, hb⟩
  have HC2 := Lib.hid (HL1.out.q.go hb)
  have HL2 := Lib.hid (HL1.out.set (s' := ⟨0, 0, abc', [], [(0, 2)], true, true, false⟩) hb hra hrt hka hkt)
  simp only at HL2
  clear hra hrt hka hkt hb
  have y0 := HC2.out.c0
  have y1 := HC2.out.c1
  have y2 := HC2.out.c2
  have y3 := HC2.out.c3
  have y4 := HC2.out.c4
  have y5 := HC2.out.c5
  have y6 := HC2.out.c6
  have y7 := HC2.out.c7
  simp only at y0 y1 y2 y5 y6 y7
  have yf := HC2.out.fz
  go_wp2_with fail
  generalize (((((((wv2.setCell _ _).setCell _ _).setCell _ _).setCell _ _).setCell _ _).setCell _ _).setCell _ _).setCell _ _ = W2 at *
  clear y0 y1 y2 y3 y4 y5 y6 y7 yf
  with_reducible refine (Hshn2.out _ _ _ _ _ _ _ HL2.out.q.ra HL2.out.q.rt).mono ?_
  rintro e wn3 ⟨rfl, hb⟩
  have HL3 := Lib.hid (HL2.out.go hb)
  clear hb
  have y0 := HL3.out.q.c0
  have y1 := HL3.out.q.c1
  have y2 := HL3.out.q.c2
  have y3 := HL3.out.q.c3
  have y4 := HL3.out.q.c4
  have y5 := HL3.out.q.c5
  have y6 := HL3.out.q.c6
  have y7 := HL3.out.q.c7
  simp only at y0 y1 y2 y5 y6 y7
  have yf := HL3.out.q.fz
  go_wp2_with fail
  clear y0 y1 y2 y3 y4 y5 y6 y7 yf
  with_reducible refine (Hshs2.out _ _ _ _ _ _ _ HL3.out.q.ra HL3.out.q.rt).mono ?_
  rintro e wv4 ⟨a4x, n4x, d4x, a4y, n4y, d4y, rfl, hra, hrt, hka, hkt, hb⟩
  have HC4 := Lib.hid (HL3.out.q.go hb)
  have HL4 := Lib.hid (HL3.out.set (s' := ⟨0, 3, abc', [], [], true, false, false⟩) hb hra hrt hka hkt)
  simp only at HL4
  clear hra hrt hka hkt hb
  have y0 := HC4.out.c0
  have y1 := HC4.out.c1
  have y2 := HC4.out.c2
  have y3 := HC4.out.c3
  have y4 := HC4.out.c4
  have y5 := HC4.out.c5
  have y6 := HC4.out.c6
  have y7 := HC4.out.c7
  simp only at y0 y1 y2 y5 y6 y7
  have yf := HC4.out.fz
  go_wp2_with fail
  generalize (((((((wv4.setCell _ _).setCell _ _).setCell _ _).setCell _ _).setCell _ _).setCell _ _).setCell _ _).setCell _ _ = W4 at *
  clear y0 y1 y2 y3 y4 y5 y6 y7 yf
  with_reducible refine (Hshn3.out _ _ _ _ _ _ _ HL4.out.q.ra HL4.out.q.rt).mono ?_
  rintro e wn5 ⟨rfl, hb⟩
  have HL5 := Lib.hid (HL4.out.go hb)
  clear hb
  have y0 := HL5.out.q.c0
  have y1 := HL5.out.q.c1
  have y2 := HL5.out.q.c2
  have y3 := HL5.out.q.c3
  have y4 := HL5.out.q.c4
  have y5 := HL5.out.q.c5
  have y6 := HL5.out.q.c6
  have y7 := HL5.out.q.c7
  simp only at y0 y1 y2 y5 y6 y7
  have yf := HL5.out.q.fz
  go_wp2_with fail
  clear y0 y1 y2 y3 y4 y5 y6 y7 yf
  with_reducible refine (Hsha3.out _ _ _ _ _ _ _ HL5.out.q.ra HL5.out.q.rt).mono ?_
  rintro e wa ⟨ax, nx, dx, ay, ny, dy, rfl, hra, hrt, hka, hkt, hb⟩
  have HL6 := Lib.hid (HL5.out.go hb)
  have HRA := Lib.hid hra
  have HRT := Lib.hid hrt
  clear hra hrt hka hkt hb
  go_wp2_with fail
  with_reducible refine (Hshl4.out _ _ _ _ _ _ _ HRA.out HRT.out).mono ?_
  rintro e wv7 ⟨a7x, n7x, d7x, a7y, n7y, d7y, rfl, hra, hrt, hka, hkt, hb⟩
  have HC7 := Lib.hid (HL6.out.q.go hb)
  have HL7 := Lib.hid (HL6.out.set (s' := ⟨0, 3, abc', [(1, 1)], [(0, 0), (2, 2)], true, true, false⟩) hb hra hrt hka hkt)
  simp only at HL7
  clear hra hrt hka hkt hb
  have y0 := HC7.out.c0
  have y1 := HC7.out.c1
  have y2 := HC7.out.c2
  have y3 := HC7.out.c3
  have y4 := HC7.out.c4
  have y5 := HC7.out.c5
  have y6 := HC7.out.c6
  have y7 := HC7.out.c7
  simp only at y0 y1 y2 y5 y6 y7
  have yf := HC7.out.fz
  go_wp2_with fail
  generalize (((((((wv7.setCell _ _).setCell _ _).setCell _ _).setCell _ _).setCell _ _).setCell _ _).setCell _ _).setCell _ _ = W7 at *
  clear y0 y1 y2 y3 y4 y5 y6 y7 yf
  with_reducible refine (Hshn5.out _ _ _ _ _ _ _ HL7.out.q.ra HL7.out.q.rt).mono ?_
  rintro e wn8 ⟨rfl, hb⟩
  have HL8 := Lib.hid (HL7.out.go hb)
  clear hb
  have y0 := HL8.out.q.c0
  have y1 := HL8.out.q.c1
  have y2 := HL8.out.q.c2
  have y3 := HL8.out.q.c3
  have y4 := HL8.out.q.c4
  have y5 := HL8.out.q.c5
  have y6 := HL8.out.q.c6
  have y7 := HL8.out.q.c7
  simp only at y0 y1 y2 y5 y6 y7
  have yf := HL8.out.q.fz
  go_wp2_with fail
  clear y0 y1 y2 y3 y4 y5 y6 y7 yf
  with_reducible refine (Hshe5.out _ _ _).mono ?_
  rintro e w9 ⟨rfl, hb⟩
  have HL9 := Lib.hid (HL8.out.go hb)
  clear hb
  have y0 := HL9.out.q.c0
  have y1 := HL9.out.q.c1
  have y2 := HL9.out.q.c2
  have y3 := HL9.out.q.c3
  have y4 := HL9.out.q.c4
  have y5 := HL9.out.q.c5
  have y6 := HL9.out.q.c6
  have y7 := HL9.out.q.c7
  simp only at y0 y1 y2 y5 y6 y7
  have yf := HL9.out.q.fz
  have hn9 := rd_len HL9.out.q.rt
  simp only [List.length_cons, List.length_nil] at hn9
  go_wp2_with fail
  with_reducible refine (Hshd5.out _ _ _).mono ?_
  rintro e w10 ⟨rfl, hb⟩
  have HL10 := Lib.hid (HL9.out.go hb)
  clear hb
  go_wp2_with fail
  go_ret
  exact ⟨rfl, HL10.out.bl⟩
end Go.Proofs.Ytedijfcagkedaaa.Rg
