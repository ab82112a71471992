/- Layer 15: a queue; what is laid behind it, and left behind. By tools/gen-sendq-4.py. -/
import Derived.Test.YtedijfcagkedaaaSqD
import Derived.Test.YtedijfcagkedaaaSqL
namespace Go.Proofs.Ytedijfcagkedaaa.Rg
set_option maxRecDepth 20000
open Go.RowKit Go.Shelf
set_option linter.unusedVariables false
set_option linter.unusedSimpArgs false

theorem below_only {O : Nat → Prop} {A B : World} {n : Nat} (h : Only O A B) (hn : n ≤ A.heap.size) (ho : ∀ k, O k → n ≤ k) : Below n A B :=
  ⟨h.os, h.tape, h.output, h.size, fun k hk => h.block k (by omega) (fun hO => by have := ho k hO; omega)⟩
theorem only_at (b k : Nat) (w : World) (u : Value) : Only (· = b) w (w.setCell ⟨b, k, none⟩ u) := Only.setCell (O := (· = b)) (p := ⟨b, k, none⟩) rfl w u
theorem only_below {b : Nat} {A B : World} (h : Below A.heap.size A B) : Only (· = b) A B := Only.of_all h _
/-- A queue in its block, which alone was turned. -/
structure QQ (w : World) (b : Nat) (W : World) (u v : Value) (s : SS) : Prop where
  q : Qb 73 W b u v s
  on : Only (· = b) w W
theorem QQ.go {w W W' : World} {b : Nat} {u v : Value} {s : SS} (h : QQ w b W u v s) (hb : Below W.heap.size W W') : QQ w b W' u v s := ⟨h.q.go hb, h.on.trans (only_below hb)⟩
theorem QQ.dr {w W : World} {b : Nat} {u v : Value} {s : SS} (h : QQ w b W u v s) : QQ w b W.drew u v s := h.go (Below.refl _ _).drew
theorem QQ.lt {w W : World} {b : Nat} {u v : Value} {s : SS} (h : QQ w b W u v s) : b < W.heap.size := h.q.lt
theorem QQ.sz {w W : World} {b : Nat} {u v : Value} {s : SS} (h : QQ w b W u v s) : w.heap.size ≤ W.heap.size := h.on.size
theorem QQ.s0 {w W : World} {b : Nat} {u v : Value} {s : SS} (h : QQ w b W u v s) (x : Int) : QQ w b (W.setCell ⟨b, 0, none⟩ (.int .u64 x)) u v { s with ba := x } := ⟨h.q.s0 x, h.on.trans (only_at b 0 W _)⟩
theorem QQ.s1 {w W : World} {b : Nat} {u v : Value} {s : SS} (h : QQ w b W u v s) (x : Int) : QQ w b (W.setCell ⟨b, 1, none⟩ (.int .u64 x)) u v { s with tp := x } := ⟨h.q.s1 x, h.on.trans (only_at b 1 W _)⟩
theorem QQ.s2 {w W : World} {b : Nat} {u v : Value} {s : SS} (h : QQ w b W u v s) (x : ByteArray) : QQ w b (W.setCell ⟨b, 2, none⟩ (.string x)) u v { s with d := x } := ⟨h.q.s2 x, h.on.trans (only_at b 2 W _)⟩
theorem QQ.s5 {w W : World} {b : Nat} {u v : Value} {s : SS} (h : QQ w b W u v s) (x : Bool) : QQ w b (W.setCell ⟨b, 5, none⟩ (.bool x)) u v { s with fin := x } := ⟨h.q.s5 x, h.on.trans (only_at b 5 W _)⟩
theorem QQ.s6 {w W : World} {b : Nat} {u v : Value} {s : SS} (h : QQ w b W u v s) (x : Bool) : QQ w b (W.setCell ⟨b, 6, none⟩ (.bool x)) u v { s with ft := x } := ⟨h.q.s6 x, h.on.trans (only_at b 6 W _)⟩
theorem QQ.s7 {w W : World} {b : Nat} {u v : Value} {s : SS} (h : QQ w b W u v s) (x : Bool) : QQ w b (W.setCell ⟨b, 7, none⟩ (.bool x)) u v { s with fa := x } := ⟨h.q.s7 x, h.on.trans (only_at b 7 W _)⟩
theorem QQ.s3 {w W : World} {b : Nat} {u v : Value} {s : SS} (h : QQ w b W u v s) {x : Value} {l : List Ran} (hr : Rd W x l) (ho : ¬ Blk x b) : QQ w b (W.setCell ⟨b, 3, none⟩ x) x v { s with ak := l } := ⟨h.q.s3 hr ho, h.on.trans (only_at b 3 W _)⟩
theorem QQ.s4 {w W : World} {b : Nat} {u v : Value} {s : SS} (h : QQ w b W u v s) {x : Value} {l : List Ran} (hr : Rd W x l) (ho : ¬ Blk x b) : QQ w b (W.setCell ⟨b, 4, none⟩ x) u x { s with td := l } := ⟨h.q.s4 hr ho, h.on.trans (only_at b 4 W _)⟩
set_option maxHeartbeats 4000000 in
theorem ofq_any (s : SS) (a1 : Option Addr) (n1 c1 : Nat) (a2 : Option Addr) (n2 c2 : Nat) (w : World) (hl1 : n1 ≤ 1000) (hl2 : n2 ≤ 1000) (ha : Rd w (.slice a1 n1 c1) s.ak) (ht : Rd w (.slice a2 n2 c2) s.td) :
    Calls Try.prog 31 #[.agg #[.int .u64 s.ba, .int .u64 s.tp, .string s.d, .slice a1 n1 c1, .slice a2 n2 c2, .bool s.fin, .bool s.ft, .bool s.fa]] w fun e w' => ∃ b1 d1 b2 d2 B, e = .returned (.pointer (some ⟨B, 0, none⟩)) ∧ w.heap.size ≤ B ∧ Qb 73 w' B (.slice b1 s.ak.length d1) (.slice b2 s.td.length d2) s ∧
      (∀ k, Blk (.slice b1 s.ak.length d1) k → w.heap.size ≤ k) ∧ (∀ k, Blk (.slice b2 s.td.length d2) k → w.heap.size ≤ k) ∧ Below w.heap.size w w' := by
  have hm1 := rd_len ha
  have hm2 := rd_len ht
  have CA := Lib.hid (fun W (h : Rd W (.slice a1 n1 c1) s.ak) => clone_sets a1 n1 c1 s.ak W hl1 h)
  have CT := Lib.hid (fun W (h : Rd W (.slice a2 n2 c2) s.td) => clone_sets a2 n2 c2 s.td W hl2 h)
  have HS0 := Lib.hid (qr_made w (.slice a1 n1 c1) (.slice a2 n2 c2) s ha ht)
  unfold Sets at CA CT
  rw [← hm1] at CA ⊢
  rw [← hm2] at CT ⊢
  clear ha ht hl1 hl2 hm1 hm2
  obtain ⟨ba, tp, d, ak, td, fin, ft, fa⟩ := s
  simp only at CA CT HS0 ⊢
  go_enter Try.func31, Try.ntmps31
  go_wp2_with fail
  refine wp_region_noPanic ?_
  refine wp_region_E (fun W : World => QR w W (.slice a1 n1 c1) (.slice a2 n2 c2) ⟨ba, tp, d, ak, td, fin, ft, fa⟩) (fun j => Nat.ble 6 j) (by kernel_rfl) ?_ (fun hHeld => ?_)
  · exact HS0.out.dr
  refine wpAnyE_take (i := 0) (v := ?_) rfl (by kernel_rfl) (by kernel_rfl) (by kernel_rfl) (fun _ _ _ h => h) (Or.inl ⟨by rfl, ?_⟩) ?_
  rotate_left
  · (intro w hSw; go_simp; (try with_reducible rfl))
  try simp only [Act.put, List.getElem_toArray, List.getElem_cons_zero, List.getElem_cons_succ, List.setIfInBounds_toArray, List.set_cons_zero, List.set_cons_succ]
  refine wpAnyE_load (i := 1) (v := ?_) rfl (by kernel_rfl) (by kernel_rfl) (by kernel_rfl) (by kernel_rfl) (fun _ _ _ h => h) (Or.inl ⟨by rfl, ?_⟩) (by assumption) ?_
  rotate_left
  · (intro w hSw; (have k0 := hSw.q.c0; have k1 := hSw.q.c1; have k2 := hSw.q.c2; have k3 := hSw.q.c3; have k4 := hSw.q.c4; have k5 := hSw.q.c5; have k6 := hSw.q.c6; have k7 := hSw.q.c7; simp only at k0 k1 k2 k5 k6 k7); go_simp; (try with_reducible rfl))
  try simp only [Act.put, List.getElem_toArray, List.getElem_cons_zero, List.getElem_cons_succ, List.setIfInBounds_toArray, List.set_cons_zero, List.set_cons_succ]
  refine wpAnyE_take (i := 3) (v := ?_) rfl (by kernel_rfl) (by kernel_rfl) (by kernel_rfl) (fun _ _ _ h => h) (Or.inl ⟨by rfl, ?_⟩) ?_
  rotate_left
  · (intro w hSw; go_simp; (try with_reducible rfl))
  try simp only [Act.put, List.getElem_toArray, List.getElem_cons_zero, List.getElem_cons_succ, List.setIfInBounds_toArray, List.set_cons_zero, List.set_cons_succ]
  refine wpAnyE_load (i := 4) (v := ?_) rfl (by kernel_rfl) (by kernel_rfl) (by kernel_rfl) (by kernel_rfl) (fun _ _ _ h => h) (Or.inl ⟨by rfl, ?_⟩) (by assumption) ?_
  rotate_left
  · (intro w hSw; (have k0 := hSw.q.c0; have k1 := hSw.q.c1; have k2 := hSw.q.c2; have k3 := hSw.q.c3; have k4 := hSw.q.c4; have k5 := hSw.q.c5; have k6 := hSw.q.c6; have k7 := hSw.q.c7; simp only at k0 k1 k2 k5 k6 k7); go_simp; (try with_reducible rfl))
  try simp only [Act.put, List.getElem_toArray, List.getElem_cons_zero, List.getElem_cons_succ, List.setIfInBounds_toArray, List.set_cons_zero, List.set_cons_succ]
  refine wpAnyE_call (i := 2) (by kernel_rfl) rfl (by rfl) (fun K hK => ?_)
  go_simp
  refine (CA.out _ HS0.out.dr.q.ra).mono ?_
  rintro e w1 ⟨b1, d1, rfl, hr, hk, hb⟩
  have HU := Lib.hid hr
  have KU := Lib.hid hk
  have HS1 := Lib.hid (HS0.out.dr.go hb)
  clear hr hk hb
  refine hK.out _ _ ?_ (fun hHeld => ?_)
  · exact HS1.out
  clear hK K
  try simp only [Act.put, List.getElem_toArray, List.getElem_cons_zero, List.getElem_cons_succ, List.setIfInBounds_toArray, List.set_cons_zero, List.set_cons_succ]
  refine wpAnyE_take (i := 6) (v := ?_) rfl (by kernel_rfl) (by kernel_rfl) (by kernel_rfl) (fun _ _ _ h => h) (Or.inl ⟨by rfl, ?_⟩) ?_
  rotate_left
  · (intro w hSw; go_simp; (try with_reducible rfl))
  try simp only [Act.put, List.getElem_toArray, List.getElem_cons_zero, List.getElem_cons_succ, List.setIfInBounds_toArray, List.set_cons_zero, List.set_cons_succ]
  refine wpAnyE_call (i := 5) (by kernel_rfl) rfl (by rfl) (fun K hK => ?_)
  go_simp
  refine (CT.out _ HS1.out.q.rt).mono ?_
  rintro e w2 ⟨b2, d2, rfl, hr, hk, hb⟩
  have HV := Lib.hid hr
  have KV := Lib.hid hk
  have HS2 := Lib.hid (HS1.out.go hb)
  replace HU := Lib.hid (HU.out.go hb)
  have HZ1 := Lib.hid HS1.out.q.lt
  clear hr hk hb
  have z0 := HS2.out.q.c0
  have z1 := HS2.out.q.c1
  have z2 := HS2.out.q.c2
  have z3 := HS2.out.q.c3
  have z4 := HS2.out.q.c4
  have z5 := HS2.out.q.c5
  have z6 := HS2.out.q.c6
  have z7 := HS2.out.q.c7
  simp only at z0 z1 z2 z5 z6 z7
  have zf := HS2.out.q.fz
  refine hK.out _ _ ?_ (fun hHeld => ?_)
  · exact HS2.out
  clear hK K
  try simp only [Act.put, List.getElem_toArray, List.getElem_cons_zero, List.getElem_cons_succ, List.setIfInBounds_toArray, List.set_cons_zero, List.set_cons_succ]
  refine wpAnyE_store (i := 7) (by kernel_rfl) rfl (by rfl) (by rfl) (fun K hK => ?_)
  go_simp
  refine hK.out _ _ ?_
  clear hK K
  try simp only [Act.put, List.getElem_toArray, List.getElem_cons_zero, List.getElem_cons_succ, List.setIfInBounds_toArray, List.set_cons_zero, List.set_cons_succ]
  refine wpAnyE_take (i := 8) (v := ?_) rfl (by kernel_rfl) (by kernel_rfl) (by kernel_rfl) (fun _ _ _ h => h) (Or.inl ⟨by rfl, ?_⟩) ?_
  rotate_left
  · (intro w hSw; go_simp; (try with_reducible rfl))
  try simp only [Act.put, List.getElem_toArray, List.getElem_cons_zero, List.getElem_cons_succ, List.setIfInBounds_toArray, List.set_cons_zero, List.set_cons_succ]
  refine wpAnyE_store (i := 9) (by kernel_rfl) rfl (by rfl) (by rfl) (fun K hK => ?_)
  go_simp
  refine hK.out _ _ ?_
  clear hK K
  try simp only [Act.put, List.getElem_toArray, List.getElem_cons_zero, List.getElem_cons_succ, List.setIfInBounds_toArray, List.set_cons_zero, List.set_cons_succ]
  refine wpAnyE_done (by kernel_rfl) (NoPanic.normal ?_) _
  have N1 : ¬ Blk (.slice b1 n1 d1) w.heap.size := fun h => by have := KU.out _ h; simp at this; omega
  have N2 : ¬ Blk (.slice b2 n2 d2) w.heap.size := fun h => by have := KV.out _ h; have := HZ1.out; omega
  have HF1 := HS2.out.q.s3 HU.out N1
  have HF2 := HF1.s4 (rd_set HV.out N2 _) N2
  have HF3 := Lib.hid (qb_made 73 _ _ _ _ HF2.ra HF2.rt)
  have HB := Lib.hid (Below.setCell (Below.setCell HS2.out.bl (p := ⟨w.heap.size, 3, none⟩) (Nat.le_refl _) (.slice b1 n1 d1)) (p := ⟨w.heap.size, 4, none⟩) (Nat.le_refl _) (.slice b2 n2 d2))
  have KU2 : Hid (∀ k, Blk (.slice b1 n1 d1) k → w.heap.size ≤ k) := Lib.hid (fun k hk => by have := KU.out k hk; simp at this; omega)
  have KV2 : Hid (∀ k, Blk (.slice b2 n2 d2) k → w.heap.size ≤ k) := Lib.hid (fun k hk => by have := KV.out k hk; have := HZ1.out; omega)
  clear N1 N2 HF1 HF2
  go_wp2_with fail
  go_ret
  exact ⟨b1, d1, b2, d2, _, rfl, by (try simp); have := HS2.out.bl.size; omega, (by have h := HF3.out; simp only [World.size_setCell] at h; exact h), KU2.out, KV2.out, HB.out.alloc (by simp; have := HS2.out.bl.size; omega) _⟩
set_option maxHeartbeats 4000000 in
theorem lay_any (b : Nat) (s : SS) (a1 : Option Addr) (n1 c1 : Nat) (a2 : Option Addr) (n2 c2 : Nat) (D : ByteArray) (w : World) (hs : SsOk s) (hd : en s + (D.size : Int) ≤ 1000000) (hl2 : n2 ≤ 200) (h : Qb 73 w b (.slice a1 n1 c1) (.slice a2 n2 c2) s) :
    Calls Try.prog 33 #[.pointer (some ⟨b, 0, none⟩), .string D] w fun e w' => e = .returned (.tuple #[]) ∧ ∃ b2 d2, QQ w b w' (.slice a1 n1 c1) (.slice b2 (layS s D).td.length d2) (layS s D) ∧ (∀ k, Blk (.slice b2 (layS s D).td.length d2) k → w.heap.size ≤ k) := by
  have hge := en_ge s
  have h0 := hs.b0
  have h1 := hs.b1
  have hen1 := en_lay s D
  have hgd := spn_good (a := en s) (b := en s + (D.size : Int)) (by omega) (by omega)
  have CE := Lib.hid (fun W => endq_any s (.slice a1 n1 c1) (.slice a2 n2 c2) W h0 h1)
  have HQ0 : Hid (QQ w b w (.slice a1 n1 c1) (.slice a2 n2 c2) s) := Lib.hid ⟨h, Only.refl _ _⟩
  have HTD : Hid (SsOk s) := Lib.hid hs
  obtain ⟨P1, P2, hP⟩ : ∃ P1 P2, spn (en s) (en s + (D.size : Int)) = (P1, P2) := ⟨_, _, rfl⟩
  obtain ⟨E, hE⟩ : ∃ x, en s = x := ⟨_, rfl⟩
  have hpl : plS ⟨s.ba, s.tp, s.d ++ D, s.ak, s.td, s.fin, s.ft, s.fa⟩ E (D.size : Int) = (P1, P2) := by
    rw [← hP, ← hE]
    unfold plS
    show spn (max (en s) s.ba) (min _ (en (layS s D))) = _
    rw [hen1, show max (en s) s.ba = en s by omega, show min (en s + max (D.size : Int) 0) (en s + (D.size : Int)) = en s + (D.size : Int) by omega]
  have CP := Lib.hid (fun W (k1 : Rd W (.slice a1 n1 c1) s.ak) (k2 : Rd W (.slice a2 n2 c2) s.td) => places_any ⟨s.ba, s.tp, s.d ++ D, s.ak, s.td, s.fin, s.ft, s.fa⟩ (.slice a1 n1 c1) (.slice a2 n2 c2) E (D.size : Int) P1 P2 W h0 (by show en (layS s D) ≤ _; omega) k1 k2 (by omega) (by omega) hpl)
  have CA := Lib.hid (fun W (k : Rd W (.slice a2 n2 c2) s.td) => add_sets a2 n2 c2 s.td P1 P2 W hl2 hs.ct (by rw [hP] at hgd; exact hgd.1) (by rw [hP] at hgd; exact hgd.2) k)
  unfold Sets at CA
  unfold layS
  rw [hP]
  rw [hE] at CE
  have hds : ¬ 9223372036854775807 < s.d.size + D.size := by unfold en at h1; unfold en at hd; omega
  clear hs hd hl2 hge h0 h1 hen1 hgd hpl hP hE h
  obtain ⟨ba, tp, d, ak, td, fin, ft, fa⟩ := s
  obtain ⟨R, hR⟩ : ∃ l, unL td (P1, P2) = l := ⟨_, rfl⟩
  simp only at CE HQ0 CP CA hds HTD ⊢
  rw [hR] at CA ⊢
  obtain ⟨rn, hrn⟩ : ∃ n, R.length = n := ⟨_, rfl⟩
  rw [hrn] at CA ⊢
  clear hR hrn
  have y0 := HQ0.out.q.c0
  have y1 := HQ0.out.q.c1
  have y2 := HQ0.out.q.c2
  have y3 := HQ0.out.q.c3
  have y4 := HQ0.out.q.c4
  have y5 := HQ0.out.q.c5
  have y6 := HQ0.out.q.c6
  have y7 := HQ0.out.q.c7
  simp only at y0 y1 y2 y5 y6 y7
  have yf := HQ0.out.q.fz
  go_enter Try.func33, Try.ntmps33
  go_wp2_with fail
  refine (CE.out _).mono ?_
  rintro e w1 ⟨rfl, hb⟩
  have HQ1 := Lib.hid (HQ0.out.go hb)
  clear hb y0 y1 y2 y3 y4 y5 y6 y7 yf
  have y0 := HQ1.out.q.c0
  have y1 := HQ1.out.q.c1
  have y2 := HQ1.out.q.c2
  have y3 := HQ1.out.q.c3
  have y4 := HQ1.out.q.c4
  have y5 := HQ1.out.q.c5
  have y6 := HQ1.out.q.c6
  have y7 := HQ1.out.q.c7
  simp only at y0 y1 y2 y5 y6 y7
  have yf := HQ1.out.q.fz
  have HQ2 := Lib.hid (HQ1.out.s2 (d ++ D))
  simp only at HQ2
  go_wp2_with fail
  clear y0 y1 y2 y3 y4 y5 y6 y7 yf
  generalize w1.setCell _ _ = W2 at *
  refine wp_region_noPanic ?_
  refine wp_region_E (fun W : World => QQ w b W (.slice a1 n1 c1) (.slice a2 n2 c2) ⟨ba, tp, d ++ D, ak, td, fin, ft, fa⟩) (fun j => Nat.ble 15 j) (by kernel_rfl) ?_ (fun hHeld => ?_)
  · exact HQ2.out.dr
  refine wpAnyE_take (i := 0) (v := ?_) rfl (by kernel_rfl) (by kernel_rfl) (by kernel_rfl) (fun _ _ _ h => h) (Or.inl ⟨by rfl, ?_⟩) ?_
  rotate_left
  · (intro w hSw; go_simp; (try with_reducible rfl))
  try simp only [Act.put, List.getElem_toArray, List.getElem_cons_zero, List.getElem_cons_succ, List.setIfInBounds_toArray, List.set_cons_zero, List.set_cons_succ]
  refine wpAnyE_take (i := 1) (v := ?_) rfl (by kernel_rfl) (by kernel_rfl) (by kernel_rfl) (fun _ _ _ h => h) (Or.inl ⟨by rfl, ?_⟩) ?_
  rotate_left
  · (intro w hSw; go_simp; (try with_reducible rfl))
  try simp only [Act.put, List.getElem_toArray, List.getElem_cons_zero, List.getElem_cons_succ, List.setIfInBounds_toArray, List.set_cons_zero, List.set_cons_succ]
  refine wpAnyE_take (i := 2) (v := ?_) rfl (by kernel_rfl) (by kernel_rfl) (by kernel_rfl) (fun _ _ _ h => h) (Or.inl ⟨by rfl, ?_⟩) ?_
  rotate_left
  · (intro w hSw; go_simp; (try with_reducible rfl))
  try simp only [Act.put, List.getElem_toArray, List.getElem_cons_zero, List.getElem_cons_succ, List.setIfInBounds_toArray, List.set_cons_zero, List.set_cons_succ]
  refine wpAnyE_take (i := 3) (v := ?_) rfl (by kernel_rfl) (by kernel_rfl) (by kernel_rfl) (fun _ _ _ h => h) (Or.inl ⟨by rfl, ?_⟩) ?_
  rotate_left
  · (intro w hSw; go_simp; (try with_reducible rfl))
  try simp only [Act.put, List.getElem_toArray, List.getElem_cons_zero, List.getElem_cons_succ, List.setIfInBounds_toArray, List.set_cons_zero, List.set_cons_succ]
  refine wpAnyE_take (i := 4) (v := ?_) rfl (by kernel_rfl) (by kernel_rfl) (by kernel_rfl) (fun _ _ _ h => h) (Or.inl ⟨by rfl, ?_⟩) ?_
  rotate_left
  · (intro w hSw; go_simp; (try with_reducible rfl))
  try simp only [Act.put, List.getElem_toArray, List.getElem_cons_zero, List.getElem_cons_succ, List.setIfInBounds_toArray, List.set_cons_zero, List.set_cons_succ]
  refine wpAnyE_load (i := 5) (v := ?_) rfl (by kernel_rfl) (by kernel_rfl) (by kernel_rfl) (by kernel_rfl) (fun _ _ _ h => h) (Or.inl ⟨by rfl, ?_⟩) (by assumption) ?_
  rotate_left
  · (intro w hSw; (have k0 := hSw.q.c0; have k1 := hSw.q.c1; have k2 := hSw.q.c2; have k3 := hSw.q.c3; have k4 := hSw.q.c4; have k5 := hSw.q.c5; have k6 := hSw.q.c6; have k7 := hSw.q.c7; simp only at k0 k1 k2 k5 k6 k7); go_simp; (try with_reducible rfl))
  try simp only [Act.put, List.getElem_toArray, List.getElem_cons_zero, List.getElem_cons_succ, List.setIfInBounds_toArray, List.set_cons_zero, List.set_cons_succ]
  refine wpAnyE_take (i := 6) (v := ?_) rfl (by kernel_rfl) (by kernel_rfl) (by kernel_rfl) (fun _ _ _ h => h) (Or.inl ⟨by rfl, ?_⟩) ?_
  rotate_left
  · (intro w hSw; go_simp; (try with_reducible rfl))
  try simp only [Act.put, List.getElem_toArray, List.getElem_cons_zero, List.getElem_cons_succ, List.setIfInBounds_toArray, List.set_cons_zero, List.set_cons_succ]
  refine wpAnyE_take (i := 7) (v := ?_) rfl (by kernel_rfl) (by kernel_rfl) (by kernel_rfl) (fun _ _ _ h => h) (Or.inl ⟨by rfl, ?_⟩) ?_
  rotate_left
  · (intro w hSw; go_simp; (try with_reducible rfl))
  try simp only [Act.put, List.getElem_toArray, List.getElem_cons_zero, List.getElem_cons_succ, List.setIfInBounds_toArray, List.set_cons_zero, List.set_cons_succ]
  refine wpAnyE_take (i := 8) (v := ?_) rfl (by kernel_rfl) (by kernel_rfl) (by kernel_rfl) (fun _ _ _ h => h) (Or.inl ⟨by rfl, ?_⟩) ?_
  rotate_left
  · (intro w hSw; go_simp; (try with_reducible rfl))
  try simp only [Act.put, List.getElem_toArray, List.getElem_cons_zero, List.getElem_cons_succ, List.setIfInBounds_toArray, List.set_cons_zero, List.set_cons_succ]
  refine wpAnyE_load (i := 9) (v := ?_) rfl (by kernel_rfl) (by kernel_rfl) (by kernel_rfl) (by kernel_rfl) (fun _ _ _ h => h) (Or.inl ⟨by rfl, ?_⟩) (by assumption) ?_
  rotate_left
  · (intro w hSw; (have k0 := hSw.q.c0; have k1 := hSw.q.c1; have k2 := hSw.q.c2; have k3 := hSw.q.c3; have k4 := hSw.q.c4; have k5 := hSw.q.c5; have k6 := hSw.q.c6; have k7 := hSw.q.c7; simp only at k0 k1 k2 k5 k6 k7); go_simp; (try with_reducible rfl))
  try simp only [Act.put, List.getElem_toArray, List.getElem_cons_zero, List.getElem_cons_succ, List.setIfInBounds_toArray, List.set_cons_zero, List.set_cons_succ]
  refine wpAnyE_take (i := 10) (v := ?_) rfl (by kernel_rfl) (by kernel_rfl) (by kernel_rfl) (fun _ _ _ h => h) (Or.inl ⟨by rfl, ?_⟩) ?_
  rotate_left
  · (intro w hSw; go_simp; (try with_reducible rfl))
  try simp only [Act.put, List.getElem_toArray, List.getElem_cons_zero, List.getElem_cons_succ, List.setIfInBounds_toArray, List.set_cons_zero, List.set_cons_succ]
  refine wpAnyE_take (i := 11) (v := ?_) rfl (by kernel_rfl) (by kernel_rfl) (by kernel_rfl) (fun _ _ _ h => h) (Or.inl ⟨by rfl, ?_⟩) ?_
  rotate_left
  · (intro w hSw; go_simp; (try with_reducible rfl))
  try simp only [Act.put, List.getElem_toArray, List.getElem_cons_zero, List.getElem_cons_succ, List.setIfInBounds_toArray, List.set_cons_zero, List.set_cons_succ]
  refine wpAnyE_take (i := 12) (v := ?_) rfl (by kernel_rfl) (by kernel_rfl) (by kernel_rfl) (fun _ _ _ h => h) (Or.inl ⟨by rfl, ?_⟩) ?_
  rotate_left
  · (intro w hSw; go_simp; (try with_reducible rfl))
  try simp only [Act.put, List.getElem_toArray, List.getElem_cons_zero, List.getElem_cons_succ, List.setIfInBounds_toArray, List.set_cons_zero, List.set_cons_succ]
  refine wpAnyE_call (i := 13) (by kernel_rfl) rfl (by rfl) (fun K hK => ?_)
  go_simp
  refine (CP.out _ HQ2.out.dr.q.ra HQ2.out.dr.q.rt).mono ?_
  rintro e w2 ⟨rfl, hb⟩
  have HQ3 := Lib.hid (HQ2.out.dr.go hb)
  clear hb
  refine hK.out _ _ ?_ (fun hHeld => ?_)
  · exact HQ3.out
  clear hK K
  try simp only [Act.put, List.getElem_toArray, List.getElem_cons_zero, List.getElem_cons_succ, List.setIfInBounds_toArray, List.set_cons_zero, List.set_cons_succ]
  refine wpAnyE_call (i := 14) (by kernel_rfl) rfl (by rfl) (fun K hK => ?_)
  go_simp
  refine (CA.out _ HQ3.out.q.rt).mono ?_
  rintro e w3 ⟨b2, d2, rfl, hr, hk, hb⟩
  have HV := Lib.hid hr
  have KV := Lib.hid hk
  have HQ4 := Lib.hid (HQ3.out.go hb)
  clear hr hk hb
  have z0 := HQ4.out.q.c0
  have z1 := HQ4.out.q.c1
  have z2 := HQ4.out.q.c2
  have z3 := HQ4.out.q.c3
  have z4 := HQ4.out.q.c4
  have z5 := HQ4.out.q.c5
  have z6 := HQ4.out.q.c6
  have z7 := HQ4.out.q.c7
  simp only at z0 z1 z2 z5 z6 z7
  have zf := HQ4.out.q.fz
  refine hK.out _ _ ?_ (fun hHeld => ?_)
  · exact HQ4.out
  clear hK K
  try simp only [Act.put, List.getElem_toArray, List.getElem_cons_zero, List.getElem_cons_succ, List.setIfInBounds_toArray, List.set_cons_zero, List.set_cons_succ]
  refine wpAnyE_take (i := 15) (v := ?_) rfl (by kernel_rfl) (by kernel_rfl) (by kernel_rfl) (fun _ _ _ h => h) (Or.inl ⟨by rfl, ?_⟩) ?_
  rotate_left
  · (intro w hSw; go_simp; (try with_reducible rfl))
  try simp only [Act.put, List.getElem_toArray, List.getElem_cons_zero, List.getElem_cons_succ, List.setIfInBounds_toArray, List.set_cons_zero, List.set_cons_succ]
  refine wpAnyE_take (i := 16) (v := ?_) rfl (by kernel_rfl) (by kernel_rfl) (by kernel_rfl) (fun _ _ _ h => h) (Or.inl ⟨by rfl, ?_⟩) ?_
  rotate_left
  · (intro w hSw; go_simp; (try with_reducible rfl))
  try simp only [Act.put, List.getElem_toArray, List.getElem_cons_zero, List.getElem_cons_succ, List.setIfInBounds_toArray, List.set_cons_zero, List.set_cons_succ]
  refine wpAnyE_take (i := 17) (v := ?_) rfl (by kernel_rfl) (by kernel_rfl) (by kernel_rfl) (fun _ _ _ h => h) (Or.inl ⟨by rfl, ?_⟩) ?_
  rotate_left
  · (intro w hSw; go_simp; (try with_reducible rfl))
  try simp only [Act.put, List.getElem_toArray, List.getElem_cons_zero, List.getElem_cons_succ, List.setIfInBounds_toArray, List.set_cons_zero, List.set_cons_succ]
  refine wpAnyE_store (i := 18) (by kernel_rfl) rfl (by rfl) (by rfl) (fun K hK => ?_)
  go_simp
  refine hK.out _ _ ?_
  clear hK K
  try simp only [Act.put, List.getElem_toArray, List.getElem_cons_zero, List.getElem_cons_succ, List.setIfInBounds_toArray, List.set_cons_zero, List.set_cons_succ]
  refine wpAnyE_done (by kernel_rfl) (NoPanic.normal ?_) _
  have N2 : ¬ Blk (.slice b2 rn d2) b := fun hk => by have := KV.out _ hk; have := HQ3.out.lt; omega
  have HF := Lib.hid (HQ4.out.s4 HV.out N2)
  have KV2 : Hid (∀ k, Blk (.slice b2 rn d2) k → w.heap.size ≤ k) := Lib.hid (fun k hk => by have := KV.out k hk; have := HQ3.out.sz; omega)
  clear N2
  go_wp2_with fail
  go_end0
  exact ⟨rfl, b2, d2, HF.out, KV2.out⟩
set_option maxHeartbeats 4000000 in
theorem goOn_any (b : Nat) (s : SS) (a1 : Option Addr) (n1 c1 : Nat) (a2 : Option Addr) (n2 c2 : Nat) (w : World) (hs : Mid s) (hl1 : n1 ≤ 100) (h : Qb 73 w b (.slice a1 n1 c1) (.slice a2 n2 c2) s) :
    Calls Try.prog 45 #[.pointer (some ⟨b, 0, none⟩)] w fun e w' => e = .returned (.tuple #[]) ∧ ∃ b1 d1, QQ w b w' (.slice b1 (goS s).ak.length d1) (.slice a2 n2 c2) (goS s) ∧ (∀ k, Blk (.slice b1 (goS s).ak.length d1) k → w.heap.size ≤ k) := by
  have hm1 := rd_len h.ra
  obtain ⟨a0, ah, _, _⟩ := ans_spec hs
  have h0 := hs.b0
  have h1 := hs.b1
  unfold en at h1
  have CN := Lib.hid (fun W (k1 : Rd W (.slice a1 n1 c1) s.ak) (k2 : Rd W (.slice a2 n2 c2) s.td) => answered_any s a1 n1 c1 (.slice a2 n2 c2) W hs (by omega) k1 k2)
  unfold goS
  obtain ⟨N, hN⟩ : ∃ x, ansI s = x := ⟨_, rfl⟩
  rw [hN] at CN a0 ah ⊢
  obtain ⟨G, hG⟩ : ∃ x, s.ba + N = x := ⟨_, rfl⟩
  have CB := Lib.hid (fun W => behind_any s.ba N G W h0 (by omega) (by rw [show max N 0 = N by omega]; exact hG))
  obtain ⟨P1, P2, hP⟩ : ∃ P1 P2, spn 0 G = (P1, P2) := ⟨_, _, rfl⟩
  have hgd := spn_good (a := 0) (b := G) (by omega) (by omega)
  have CS := Lib.hid (fun W => span_any 0 G W (by omega) (by omega))
  rw [hP] at CS hgd
  have CC := Lib.hid (fun W (k : Rd W (.slice a1 n1 c1) s.ak) => cut_sets a1 n1 c1 s.ak P1 P2 W hl1 hs.ca hgd.1 hgd.2 k)
  unfold Sets at CC
  rw [hG, hP]
  have HQ0 : Hid (QQ w b w (.slice a1 n1 c1) (.slice a2 n2 c2) s) := Lib.hid ⟨h, Only.refl _ _⟩
  have s1 : 0 ≤ N := a0
  have s2 : N ≤ (s.d.size : Int) := ah
  clear hs hl1 h hm1 a0 ah h0 h1 hN hG hP hgd
  obtain ⟨ba, tp, d, ak, td, fin, ft, fa⟩ := s
  obtain ⟨R, hR⟩ : ∃ l, cuL ak (P1, P2) = l := ⟨_, rfl⟩
  simp only at CN CB CS CC HQ0 s2 ⊢
  rw [hR] at CC ⊢
  obtain ⟨rn, hrn⟩ : ∃ n, R.length = n := ⟨_, rfl⟩
  rw [hrn] at CC ⊢
  obtain ⟨DD, hDD⟩ : ∃ x, d.extract N.toNat d.size = x := ⟨_, rfl⟩
  rw [hDD]
  replace hDD := Lib.hid hDD
  clear hR hrn
  have y0 := HQ0.out.q.c0
  have y1 := HQ0.out.q.c1
  have y2 := HQ0.out.q.c2
  have y3 := HQ0.out.q.c3
  have y4 := HQ0.out.q.c4
  have y5 := HQ0.out.q.c5
  have y6 := HQ0.out.q.c6
  have y7 := HQ0.out.q.c7
  simp only at y0 y1 y2 y5 y6 y7
  have yf := HQ0.out.q.fz
  go_enter Try.func45, Try.ntmps45
  go_wp2_with fail
  refine (CN.out _ HQ0.out.q.ra HQ0.out.q.rt).mono ?_
  rintro e w1 ⟨rfl, hb⟩
  have HQ1 := Lib.hid (HQ0.out.go hb)
  clear hb y0 y1 y2 y3 y4 y5 y6 y7 yf
  go_wp2_with fail
  refine wp_region_noPanic ?_
  refine wp_region_E (fun W : World => QQ w b W (.slice a1 n1 c1) (.slice a2 n2 c2) ⟨ba, tp, d, ak, td, fin, ft, fa⟩) (fun j => Nat.ble 16 j) (by kernel_rfl) ?_ (fun hHeld => ?_)
  · exact HQ1.out.dr
  refine wpAnyE_take (i := 0) (v := ?_) rfl (by kernel_rfl) (by kernel_rfl) (by kernel_rfl) (fun _ _ _ h => h) (Or.inl ⟨by rfl, ?_⟩) ?_
  rotate_left
  · (intro w hSw; go_simp; (try with_reducible rfl))
  try simp only [Act.put, List.getElem_toArray, List.getElem_cons_zero, List.getElem_cons_succ, List.setIfInBounds_toArray, List.set_cons_zero, List.set_cons_succ]
  refine wpAnyE_take (i := 1) (v := ?_) rfl (by kernel_rfl) (by kernel_rfl) (by kernel_rfl) (fun _ _ _ h => h) (Or.inl ⟨by rfl, ?_⟩) ?_
  rotate_left
  · (intro w hSw; go_simp; (try with_reducible rfl))
  try simp only [Act.put, List.getElem_toArray, List.getElem_cons_zero, List.getElem_cons_succ, List.setIfInBounds_toArray, List.set_cons_zero, List.set_cons_succ]
  refine wpAnyE_take (i := 2) (v := ?_) rfl (by kernel_rfl) (by kernel_rfl) (by kernel_rfl) (fun _ _ _ h => h) (Or.inl ⟨by rfl, ?_⟩) ?_
  rotate_left
  · (intro w hSw; go_simp; (try with_reducible rfl))
  try simp only [Act.put, List.getElem_toArray, List.getElem_cons_zero, List.getElem_cons_succ, List.setIfInBounds_toArray, List.set_cons_zero, List.set_cons_succ]
  refine wpAnyE_take (i := 3) (v := ?_) rfl (by kernel_rfl) (by kernel_rfl) (by kernel_rfl) (fun _ _ _ h => h) (Or.inl ⟨by rfl, ?_⟩) ?_
  rotate_left
  · (intro w hSw; go_simp; (try with_reducible rfl))
  try simp only [Act.put, List.getElem_toArray, List.getElem_cons_zero, List.getElem_cons_succ, List.setIfInBounds_toArray, List.set_cons_zero, List.set_cons_succ]
  refine wpAnyE_take (i := 4) (v := ?_) rfl (by kernel_rfl) (by kernel_rfl) (by kernel_rfl) (fun _ _ _ h => h) (Or.inl ⟨by rfl, ?_⟩) ?_
  rotate_left
  · (intro w hSw; go_simp; (try with_reducible rfl))
  try simp only [Act.put, List.getElem_toArray, List.getElem_cons_zero, List.getElem_cons_succ, List.setIfInBounds_toArray, List.set_cons_zero, List.set_cons_succ]
  refine wpAnyE_take (i := 5) (v := ?_) rfl (by kernel_rfl) (by kernel_rfl) (by kernel_rfl) (fun _ _ _ h => h) (Or.inl ⟨by rfl, ?_⟩) ?_
  rotate_left
  · (intro w hSw; go_simp; (try with_reducible rfl))
  try simp only [Act.put, List.getElem_toArray, List.getElem_cons_zero, List.getElem_cons_succ, List.setIfInBounds_toArray, List.set_cons_zero, List.set_cons_succ]
  refine wpAnyE_load (i := 6) (v := ?_) rfl (by kernel_rfl) (by kernel_rfl) (by kernel_rfl) (by kernel_rfl) (fun _ _ _ h => h) (Or.inl ⟨by rfl, ?_⟩) (by assumption) ?_
  rotate_left
  · (intro w hSw; (have k0 := hSw.q.c0; have k1 := hSw.q.c1; have k2 := hSw.q.c2; have k3 := hSw.q.c3; have k4 := hSw.q.c4; have k5 := hSw.q.c5; have k6 := hSw.q.c6; have k7 := hSw.q.c7; simp only at k0 k1 k2 k5 k6 k7); go_simp; (try with_reducible rfl))
  try simp only [Act.put, List.getElem_toArray, List.getElem_cons_zero, List.getElem_cons_succ, List.setIfInBounds_toArray, List.set_cons_zero, List.set_cons_succ]
  refine wpAnyE_take (i := 7) (v := ?_) rfl (by kernel_rfl) (by kernel_rfl) (by kernel_rfl) (fun _ _ _ h => h) (Or.inl ⟨by rfl, ?_⟩) ?_
  rotate_left
  · (intro w hSw; go_simp; (try with_reducible rfl))
  try simp only [Act.put, List.getElem_toArray, List.getElem_cons_zero, List.getElem_cons_succ, List.setIfInBounds_toArray, List.set_cons_zero, List.set_cons_succ]
  refine wpAnyE_take (i := 9) (v := ?_) rfl (by kernel_rfl) (by kernel_rfl) (by kernel_rfl) (fun _ _ _ h => h) (Or.inl ⟨by rfl, ?_⟩) ?_
  rotate_left
  · (intro w hSw; go_simp; (try with_reducible rfl))
  try simp only [Act.put, List.getElem_toArray, List.getElem_cons_zero, List.getElem_cons_succ, List.setIfInBounds_toArray, List.set_cons_zero, List.set_cons_succ]
  refine wpAnyE_take (i := 10) (v := ?_) rfl (by kernel_rfl) (by kernel_rfl) (by kernel_rfl) (fun _ _ _ h => h) (Or.inl ⟨by rfl, ?_⟩) ?_
  rotate_left
  · (intro w hSw; go_simp; (try with_reducible rfl))
  try simp only [Act.put, List.getElem_toArray, List.getElem_cons_zero, List.getElem_cons_succ, List.setIfInBounds_toArray, List.set_cons_zero, List.set_cons_succ]
  refine wpAnyE_take (i := 11) (v := ?_) rfl (by kernel_rfl) (by kernel_rfl) (by kernel_rfl) (fun _ _ _ h => h) (Or.inl ⟨by rfl, ?_⟩) ?_
  rotate_left
  · (intro w hSw; go_simp; (try with_reducible rfl))
  try simp only [Act.put, List.getElem_toArray, List.getElem_cons_zero, List.getElem_cons_succ, List.setIfInBounds_toArray, List.set_cons_zero, List.set_cons_succ]
  refine wpAnyE_take (i := 12) (v := ?_) rfl (by kernel_rfl) (by kernel_rfl) (by kernel_rfl) (fun _ _ _ h => h) (Or.inl ⟨by rfl, ?_⟩) ?_
  rotate_left
  · (intro w hSw; go_simp; (try with_reducible rfl))
  try simp only [Act.put, List.getElem_toArray, List.getElem_cons_zero, List.getElem_cons_succ, List.setIfInBounds_toArray, List.set_cons_zero, List.set_cons_succ]
  refine wpAnyE_load (i := 13) (v := ?_) rfl (by kernel_rfl) (by kernel_rfl) (by kernel_rfl) (by kernel_rfl) (fun _ _ _ h => h) (Or.inl ⟨by rfl, ?_⟩) (by assumption) ?_
  rotate_left
  · (intro w hSw; (have k0 := hSw.q.c0; have k1 := hSw.q.c1; have k2 := hSw.q.c2; have k3 := hSw.q.c3; have k4 := hSw.q.c4; have k5 := hSw.q.c5; have k6 := hSw.q.c6; have k7 := hSw.q.c7; simp only at k0 k1 k2 k5 k6 k7); go_simp; (try with_reducible rfl))
  try simp only [Act.put, List.getElem_toArray, List.getElem_cons_zero, List.getElem_cons_succ, List.setIfInBounds_toArray, List.set_cons_zero, List.set_cons_succ]
  refine wpAnyE_take (i := 14) (v := ?_) rfl (by kernel_rfl) (by kernel_rfl) (by kernel_rfl) (fun _ _ _ h => h) (Or.inl ⟨by rfl, ?_⟩) ?_
  rotate_left
  · (intro w hSw; go_simp; (try with_reducible rfl))
  try simp only [Act.put, List.getElem_toArray, List.getElem_cons_zero, List.getElem_cons_succ, List.setIfInBounds_toArray, List.set_cons_zero, List.set_cons_succ]
  refine wpAnyE_take (i := 15) (v := ?_) rfl (by kernel_rfl) (by kernel_rfl) (by kernel_rfl) (fun _ _ _ h => h) (Or.inl ⟨by rfl, ?_⟩) ?_
  rotate_left
  · (intro w hSw; go_simp; (try with_reducible rfl))
  try simp only [Act.put, List.getElem_toArray, List.getElem_cons_zero, List.getElem_cons_succ, List.setIfInBounds_toArray, List.set_cons_zero, List.set_cons_succ]
  refine wpAnyE_call (i := 8) (by kernel_rfl) rfl (by rfl) (fun K hK => ?_)
  go_simp
  refine (CB.out _).mono ?_
  rintro e w2 ⟨rfl, rfl⟩
  have z0 := HQ1.out.q.c0
  have z1 := HQ1.out.q.c1
  have z2 := HQ1.out.q.c2
  have z3 := HQ1.out.q.c3
  have z4 := HQ1.out.q.c4
  have z5 := HQ1.out.q.c5
  have z6 := HQ1.out.q.c6
  have z7 := HQ1.out.q.c7
  simp only at z0 z1 z2 z5 z6 z7
  have zf := HQ1.out.q.fz
  refine hK.out _ _ ?_ (fun hHeld => ?_)
  · exact HQ1.out.dr
  clear hK K
  try simp only [Act.put, List.getElem_toArray, List.getElem_cons_zero, List.getElem_cons_succ, List.setIfInBounds_toArray, List.set_cons_zero, List.set_cons_succ]
  refine wpAnyE_take (i := 16) (v := ?_) rfl (by kernel_rfl) (by kernel_rfl) (by kernel_rfl) (fun _ _ _ h => h) (Or.inl ⟨by rfl, ?_⟩) ?_
  rotate_left
  · (intro w hSw; go_simp; (try with_reducible rfl))
  try simp only [Act.put, List.getElem_toArray, List.getElem_cons_zero, List.getElem_cons_succ, List.setIfInBounds_toArray, List.set_cons_zero, List.set_cons_succ]
  refine wpAnyE_take (i := 17) (v := ?_) rfl (by kernel_rfl) (by kernel_rfl) (by kernel_rfl) (fun _ _ _ h => h) (Or.inl ⟨by rfl, ?_⟩) ?_
  rotate_left
  · (intro w hSw; go_simp; (try with_reducible rfl))
  try simp only [Act.put, List.getElem_toArray, List.getElem_cons_zero, List.getElem_cons_succ, List.setIfInBounds_toArray, List.set_cons_zero, List.set_cons_succ]
  refine wpAnyE_take (i := 18) (v := ?_) rfl (by kernel_rfl) (by kernel_rfl) (by kernel_rfl) (fun _ _ _ h => h) (Or.inl ⟨by rfl, ?_⟩) ?_
  rotate_left
  · (intro w hSw; go_simp; (try with_reducible rfl))
  try simp only [Act.put, List.getElem_toArray, List.getElem_cons_zero, List.getElem_cons_succ, List.setIfInBounds_toArray, List.set_cons_zero, List.set_cons_succ]
  refine wpAnyE_store (i := 19) (by kernel_rfl) rfl (by rfl) (by rfl) (fun K hK => ?_)
  go_simp
  refine hK.out _ _ ?_
  clear hK K
  try simp only [Act.put, List.getElem_toArray, List.getElem_cons_zero, List.getElem_cons_succ, List.setIfInBounds_toArray, List.set_cons_zero, List.set_cons_succ]
  refine wpAnyE_take (i := 20) (v := ?_) rfl (by kernel_rfl) (by kernel_rfl) (by kernel_rfl) (fun _ _ _ h => h) (Or.inl ⟨by rfl, ?_⟩) ?_
  rotate_left
  · (intro w hSw; go_simp; (try with_reducible rfl))
  try simp only [Act.put, List.getElem_toArray, List.getElem_cons_zero, List.getElem_cons_succ, List.setIfInBounds_toArray, List.set_cons_zero, List.set_cons_succ]
  refine wpAnyE_take (i := 21) (v := ?_) rfl (by kernel_rfl) (by kernel_rfl) (by kernel_rfl) (fun _ _ _ h => h) (Or.inl ⟨by rfl, ?_⟩) ?_
  rotate_left
  · (intro w hSw; go_simp; (try with_reducible rfl))
  try simp only [Act.put, List.getElem_toArray, List.getElem_cons_zero, List.getElem_cons_succ, List.setIfInBounds_toArray, List.set_cons_zero, List.set_cons_succ]
  refine wpAnyE_take (i := 22) (v := ?_) rfl (by kernel_rfl) (by kernel_rfl) (by kernel_rfl) (fun _ _ _ h => h) (Or.inl ⟨by rfl, ?_⟩) ?_
  rotate_left
  · (intro w hSw; go_simp; (try with_reducible rfl))
  try simp only [Act.put, List.getElem_toArray, List.getElem_cons_zero, List.getElem_cons_succ, List.setIfInBounds_toArray, List.set_cons_zero, List.set_cons_succ]
  refine wpAnyE_store (i := 23) (by kernel_rfl) rfl (by rfl) (by rfl) (fun K hK => ?_)
  go_simp
  refine hK.out _ _ ?_
  clear hK K
  try simp only [Act.put, List.getElem_toArray, List.getElem_cons_zero, List.getElem_cons_succ, List.setIfInBounds_toArray, List.set_cons_zero, List.set_cons_succ]
  refine wpAnyE_done (by kernel_rfl) (NoPanic.normal ?_) _
  rw [hDD.out]
  have HQ3 := Lib.hid ((HQ1.out.s0 G).s2 DD).dr
  simp only at HQ3
  clear z0 z1 z2 z3 z4 z5 z6 z7 zf
  generalize ((w1.setCell _ _).setCell _ _).drew = W3 at *
  go_wp2_with fail
  refine wp_region_noPanic ?_
  refine wp_region_E (fun W : World => QQ w b W (.slice a1 n1 c1) (.slice a2 n2 c2) ⟨G, tp, DD, ak, td, fin, ft, fa⟩) (fun j => Nat.ble 13 j) (by kernel_rfl) ?_ (fun hHeld => ?_)
  · exact HQ3.out.dr
  refine wpAnyE_take (i := 0) (v := ?_) rfl (by kernel_rfl) (by kernel_rfl) (by kernel_rfl) (fun _ _ _ h => h) (Or.inl ⟨by rfl, ?_⟩) ?_
  rotate_left
  · (intro w hSw; go_simp; (try with_reducible rfl))
  try simp only [Act.put, List.getElem_toArray, List.getElem_cons_zero, List.getElem_cons_succ, List.setIfInBounds_toArray, List.set_cons_zero, List.set_cons_succ]
  refine wpAnyE_take (i := 1) (v := ?_) rfl (by kernel_rfl) (by kernel_rfl) (by kernel_rfl) (fun _ _ _ h => h) (Or.inl ⟨by rfl, ?_⟩) ?_
  rotate_left
  · (intro w hSw; go_simp; (try with_reducible rfl))
  try simp only [Act.put, List.getElem_toArray, List.getElem_cons_zero, List.getElem_cons_succ, List.setIfInBounds_toArray, List.set_cons_zero, List.set_cons_succ]
  refine wpAnyE_take (i := 2) (v := ?_) rfl (by kernel_rfl) (by kernel_rfl) (by kernel_rfl) (fun _ _ _ h => h) (Or.inl ⟨by rfl, ?_⟩) ?_
  rotate_left
  · (intro w hSw; go_simp; (try with_reducible rfl))
  try simp only [Act.put, List.getElem_toArray, List.getElem_cons_zero, List.getElem_cons_succ, List.setIfInBounds_toArray, List.set_cons_zero, List.set_cons_succ]
  refine wpAnyE_take (i := 3) (v := ?_) rfl (by kernel_rfl) (by kernel_rfl) (by kernel_rfl) (fun _ _ _ h => h) (Or.inl ⟨by rfl, ?_⟩) ?_
  rotate_left
  · (intro w hSw; go_simp; (try with_reducible rfl))
  try simp only [Act.put, List.getElem_toArray, List.getElem_cons_zero, List.getElem_cons_succ, List.setIfInBounds_toArray, List.set_cons_zero, List.set_cons_succ]
  refine wpAnyE_take (i := 4) (v := ?_) rfl (by kernel_rfl) (by kernel_rfl) (by kernel_rfl) (fun _ _ _ h => h) (Or.inl ⟨by rfl, ?_⟩) ?_
  rotate_left
  · (intro w hSw; go_simp; (try with_reducible rfl))
  try simp only [Act.put, List.getElem_toArray, List.getElem_cons_zero, List.getElem_cons_succ, List.setIfInBounds_toArray, List.set_cons_zero, List.set_cons_succ]
  refine wpAnyE_load (i := 5) (v := ?_) rfl (by kernel_rfl) (by kernel_rfl) (by kernel_rfl) (by kernel_rfl) (fun _ _ _ h => h) (Or.inl ⟨by rfl, ?_⟩) (by assumption) ?_
  rotate_left
  · (intro w hSw; (have k0 := hSw.q.c0; have k1 := hSw.q.c1; have k2 := hSw.q.c2; have k3 := hSw.q.c3; have k4 := hSw.q.c4; have k5 := hSw.q.c5; have k6 := hSw.q.c6; have k7 := hSw.q.c7; simp only at k0 k1 k2 k5 k6 k7); go_simp; (try with_reducible rfl))
  try simp only [Act.put, List.getElem_toArray, List.getElem_cons_zero, List.getElem_cons_succ, List.setIfInBounds_toArray, List.set_cons_zero, List.set_cons_succ]
  refine wpAnyE_take (i := 6) (v := ?_) rfl (by kernel_rfl) (by kernel_rfl) (by kernel_rfl) (fun _ _ _ h => h) (Or.inl ⟨by rfl, ?_⟩) ?_
  rotate_left
  · (intro w hSw; go_simp; (try with_reducible rfl))
  try simp only [Act.put, List.getElem_toArray, List.getElem_cons_zero, List.getElem_cons_succ, List.setIfInBounds_toArray, List.set_cons_zero, List.set_cons_succ]
  refine wpAnyE_take (i := 7) (v := ?_) rfl (by kernel_rfl) (by kernel_rfl) (by kernel_rfl) (fun _ _ _ h => h) (Or.inl ⟨by rfl, ?_⟩) ?_
  rotate_left
  · (intro w hSw; go_simp; (try with_reducible rfl))
  try simp only [Act.put, List.getElem_toArray, List.getElem_cons_zero, List.getElem_cons_succ, List.setIfInBounds_toArray, List.set_cons_zero, List.set_cons_succ]
  refine wpAnyE_take (i := 8) (v := ?_) rfl (by kernel_rfl) (by kernel_rfl) (by kernel_rfl) (fun _ _ _ h => h) (Or.inl ⟨by rfl, ?_⟩) ?_
  rotate_left
  · (intro w hSw; go_simp; (try with_reducible rfl))
  try simp only [Act.put, List.getElem_toArray, List.getElem_cons_zero, List.getElem_cons_succ, List.setIfInBounds_toArray, List.set_cons_zero, List.set_cons_succ]
  refine wpAnyE_take (i := 9) (v := ?_) rfl (by kernel_rfl) (by kernel_rfl) (by kernel_rfl) (fun _ _ _ h => h) (Or.inl ⟨by rfl, ?_⟩) ?_
  rotate_left
  · (intro w hSw; go_simp; (try with_reducible rfl))
  try simp only [Act.put, List.getElem_toArray, List.getElem_cons_zero, List.getElem_cons_succ, List.setIfInBounds_toArray, List.set_cons_zero, List.set_cons_succ]
  refine wpAnyE_load (i := 10) (v := ?_) rfl (by kernel_rfl) (by kernel_rfl) (by kernel_rfl) (by kernel_rfl) (fun _ _ _ h => h) (Or.inl ⟨by rfl, ?_⟩) (by assumption) ?_
  rotate_left
  · (intro w hSw; (have k0 := hSw.q.c0; have k1 := hSw.q.c1; have k2 := hSw.q.c2; have k3 := hSw.q.c3; have k4 := hSw.q.c4; have k5 := hSw.q.c5; have k6 := hSw.q.c6; have k7 := hSw.q.c7; simp only at k0 k1 k2 k5 k6 k7); go_simp; (try with_reducible rfl))
  try simp only [Act.put, List.getElem_toArray, List.getElem_cons_zero, List.getElem_cons_succ, List.setIfInBounds_toArray, List.set_cons_zero, List.set_cons_succ]
  refine wpAnyE_call (i := 11) (by kernel_rfl) rfl (by rfl) (fun K hK => ?_)
  go_simp
  refine (CS.out _).mono ?_
  rintro e w3 ⟨rfl, hb⟩
  have HQ4 := Lib.hid (HQ3.out.dr.go hb)
  clear hb
  refine hK.out _ _ ?_ (fun hHeld => ?_)
  · exact HQ4.out
  clear hK K
  try simp only [Act.put, List.getElem_toArray, List.getElem_cons_zero, List.getElem_cons_succ, List.setIfInBounds_toArray, List.set_cons_zero, List.set_cons_succ]
  refine wpAnyE_call (i := 12) (by kernel_rfl) rfl (by rfl) (fun K hK => ?_)
  go_simp
  refine (CC.out _ HQ4.out.q.ra).mono ?_
  rintro e w4 ⟨b1, d1, rfl, hr, hk, hb⟩
  have HU := Lib.hid hr
  have KU := Lib.hid hk
  have HQ5 := Lib.hid (HQ4.out.go hb)
  clear hr hk hb
  have z0 := HQ5.out.q.c0
  have z1 := HQ5.out.q.c1
  have z2 := HQ5.out.q.c2
  have z3 := HQ5.out.q.c3
  have z4 := HQ5.out.q.c4
  have z5 := HQ5.out.q.c5
  have z6 := HQ5.out.q.c6
  have z7 := HQ5.out.q.c7
  simp only at z0 z1 z2 z5 z6 z7
  have zf := HQ5.out.q.fz
  refine hK.out _ _ ?_ (fun hHeld => ?_)
  · exact HQ5.out
  clear hK K
  try simp only [Act.put, List.getElem_toArray, List.getElem_cons_zero, List.getElem_cons_succ, List.setIfInBounds_toArray, List.set_cons_zero, List.set_cons_succ]
  refine wpAnyE_take (i := 13) (v := ?_) rfl (by kernel_rfl) (by kernel_rfl) (by kernel_rfl) (fun _ _ _ h => h) (Or.inl ⟨by rfl, ?_⟩) ?_
  rotate_left
  · (intro w hSw; go_simp; (try with_reducible rfl))
  try simp only [Act.put, List.getElem_toArray, List.getElem_cons_zero, List.getElem_cons_succ, List.setIfInBounds_toArray, List.set_cons_zero, List.set_cons_succ]
  refine wpAnyE_take (i := 14) (v := ?_) rfl (by kernel_rfl) (by kernel_rfl) (by kernel_rfl) (fun _ _ _ h => h) (Or.inl ⟨by rfl, ?_⟩) ?_
  rotate_left
  · (intro w hSw; go_simp; (try with_reducible rfl))
  try simp only [Act.put, List.getElem_toArray, List.getElem_cons_zero, List.getElem_cons_succ, List.setIfInBounds_toArray, List.set_cons_zero, List.set_cons_succ]
  refine wpAnyE_take (i := 15) (v := ?_) rfl (by kernel_rfl) (by kernel_rfl) (by kernel_rfl) (fun _ _ _ h => h) (Or.inl ⟨by rfl, ?_⟩) ?_
  rotate_left
  · (intro w hSw; go_simp; (try with_reducible rfl))
  try simp only [Act.put, List.getElem_toArray, List.getElem_cons_zero, List.getElem_cons_succ, List.setIfInBounds_toArray, List.set_cons_zero, List.set_cons_succ]
  refine wpAnyE_store (i := 16) (by kernel_rfl) rfl (by rfl) (by rfl) (fun K hK => ?_)
  go_simp
  refine hK.out _ _ ?_
  clear hK K
  try simp only [Act.put, List.getElem_toArray, List.getElem_cons_zero, List.getElem_cons_succ, List.setIfInBounds_toArray, List.set_cons_zero, List.set_cons_succ]
  refine wpAnyE_done (by kernel_rfl) (NoPanic.normal ?_) _
  have N1 : ¬ Blk (.slice b1 rn d1) b := fun hk => by have := KU.out _ hk; have := HQ4.out.lt; omega
  have HF := Lib.hid (HQ5.out.s3 HU.out N1)
  have KU2 : Hid (∀ k, Blk (.slice b1 rn d1) k → w.heap.size ≤ k) := Lib.hid (fun k hk => by have := KU.out k hk; have := HQ4.out.sz; omega)
  clear N1
  go_wp2_with fail
  go_end0
  exact ⟨rfl, b1, d1, HF.out, KU2.out⟩
end Go.Proofs.Ytedijfcagkedaaa.Rg
