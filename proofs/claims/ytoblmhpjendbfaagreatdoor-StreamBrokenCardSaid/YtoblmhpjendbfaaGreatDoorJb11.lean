/- Layer 14: the walk of Put -/
import Derived.Test.YtoblmhpjendbfaaGreatDoorJb10
namespace Go.Proofs.YtoblmhpjendbfaaGreatDoor.Rg.Gt
set_option maxRecDepth 20000
open Go.RowKit Go.Shelf
set_option linter.unusedVariables false
set_option linter.unusedSimpArgs false

theorem Gb.put {W : World} {g : Nat} {Y : TypeId} {s : GS} {v : Value} (h : Gb W g Y s v) (s' : GS) (v' : Value) : Gb ((((W.setCell ⟨g, 0, none⟩ (.int .u64 s'.rd)).setCell ⟨g, 1, none⟩ v').setCell ⟨g, 2, none⟩ (.int .u64 s'.fin)).setCell ⟨g, 3, none⟩ (.bool s'.kn)) g Y s' v' :=
  Gb.s3 (Gb.s2 (Gb.s1 (Gb.s0 h s'.rd) s'.l v') s'.fin) s'.kn
theorem below_put4 {n : Nat} {w0 W : World} (h : Below n w0 W) {g : Nat} (hg : n ≤ g) (x y z u : Value) : Below n w0 ((((W.setCell ⟨g, 0, none⟩ x).setCell ⟨g, 1, none⟩ y).setCell ⟨g, 2, none⟩ z).setCell ⟨g, 3, none⟩ u) :=
  Below.setCell (Below.setCell (Below.setCell (Below.setCell h (p := ⟨g, 0, none⟩) hg _) (p := ⟨g, 1, none⟩) hg _) (p := ⟨g, 2, none⟩) hg _) (p := ⟨g, 3, none⟩) hg _
theorem RowG.set {w : World} {v : Value} {T : ByteArray} {l : List Ran} (h : RowG w v T l) {b k : Nat} (hb : ¬ Blk v b) (u : Value) : RowG (w.setCell ⟨b, k, none⟩ u) v T l :=
  h.keep (by simp) (fun q hq => Below.heap_setCell w ⟨b, k, none⟩ u q (fun e => hb (by have e : q = b := e; subst e; exact hq)))
theorem RowG.put4 {w : World} {v : Value} {T : ByteArray} {l : List Ran} (h : RowG w v T l) {g : Nat} (hb : ¬ Blk v g) (x y z u : Value) : RowG ((((w.setCell ⟨g, 0, none⟩ x).setCell ⟨g, 1, none⟩ y).setCell ⟨g, 2, none⟩ z).setCell ⟨g, 3, none⟩ u) v T l :=
  (((h.set hb x).set hb y).set hb z).set hb u
theorem results_put (tmps : Array Value) (g : Nat) (r f : Int) (v : Value) (k : Bool) (e : Int) (w : World) (hp : tmps.getD 8 undef = .pointer (some ⟨g, 0, none⟩)) (hu : tmps.getD 9 undef = .int .i64 e) (hc : w.heap[g]? = some (.cells #[.int .u64 r, v, .int .u64 f, .bool k] 33 (0, 0))) :
    (results Tryz.f50 tmps).run Tryz.prog w = .ok (.tuple #[.agg #[.int .u64 r, v, .int .u64 f, .bool k], .int .i64 e]) w := by
  have c0 : w.cell? ⟨g, 0, none⟩ = some (.int .u64 r) := Lib.cell_of_heap hc 0
  have c1 : w.cell? ⟨g, 1, none⟩ = some v := Lib.cell_of_heap hc 1
  have c2 : w.cell? ⟨g, 2, none⟩ = some (.int .u64 f) := Lib.cell_of_heap hc 2
  have c3 : w.cell? ⟨g, 3, none⟩ = some (.bool k) := Lib.cell_of_heap hc 3
  rw [results_cell_tmp Tryz.results50]
  simp only [hp, hu]
  go_simp
/-- Within Put: the cursor and its row, the answer's block, the part. -/
structure PutS (w : World) (B Z Q : Nat) (s : GS) (u : Value) (T : ByteArray) (off : Int) (d : ByteArray) (W : World) : Prop where
  hs : Gb W B 160 s u
  hz : Gb W Z 33 ⟨0, [], 0, false⟩ (.slice none 0 0)
  hp : Bk2 W Q 137 (.int .u64 off) (.string d)
  hr : RowG W u T s.l
  hb : Below w.heap.size w W
theorem PutS.go {w W W' : World} {B Z Q : Nat} {s : GS} {u : Value} {T : ByteArray} {off : Int} {d : ByteArray} (h : PutS w B Z Q s u T off d W) (k : Below W.heap.size W W') : PutS w B Z Q s u T off d W' :=
  ⟨h.hs.go k, h.hz.go k, h.hp.go k, h.hr.go k, nextG h.hb k⟩
/-- Behind a call that turned the cursor. -/
theorem PutS.turn {w W W' : World} {B Z Q : Nat} {s s' : GS} {u u' : Value} {T : ByteArray} {off : Int} {d : ByteArray} (h : PutS w B Z Q s u T off d W) (k : Only (· = B) W W') (hs : Gb W' B 160 s' u') (hr : RowG W' u' T s'.l) (h1 : Z ≠ B) (h2 : Q ≠ B) (h3 : w.heap.size ≤ B) : PutS w B Z Q s' u' T off d W' :=
  ⟨hs, k.heap h.hz h1, k.heap h.hp h2, hr, h.hb.trans (k.below h.hb.size (fun q hq => by subst hq; exact h3))⟩
theorem rfS_no {T : ByteArray} {s : GS} {f : Bool} {E : Int} (h : GsOk T s) (h1 : E ≤ (T.size : Int)) (h2 : f = true → E = (T.size : Int)) : rfS s f E = 0 := by
  have h3 := (hiS_le h).2
  unfold rfS
  rw [if_neg]
  rintro (⟨a, b⟩ | ⟨a, b⟩)
  · have := h.kn a; omega
  · have := h2 a; omega
set_option maxHeartbeats 4000000 in
theorem put_ok (T : ByteArray) (s : GS) (a : Option Addr) (n c : Nat) (off : Int) (d : ByteArray) (f : Bool) (E : Int) (w : World) (hok : GsOk T s) (hT : (T.size : Int) ≤ 4611686018427387903) (hL : s.l.length ≤ 250) (hn : s.l.length = n) (hr : RowG w (.slice a n c) T s.l)
    (h0 : 0 ≤ off) (hE : off + (d.size : Int) = E) (hEk : E ≤ (T.size : Int)) (hEf : f = true → E = (T.size : Int))
    (hD : ∀ r : Ran, off ≤ r.1 → r.1 ≤ r.2 → r.2 < off + (d.size : Int) → (∀ k, inn r k → s.rd ≤ k ∧ ¬ mem s.l k) → d.extract (r.1 - off).toNat (r.2 - off + 1).toNat = bt T r) :
    Calls Tryz.prog 50 #[.agg #[.int .u64 s.rd, .slice a n c, .int .u64 s.fin, .bool s.kn], .int .u64 off, .string d, .bool f] w fun e w' =>
      ∃ a' c' l', e = .returned (.tuple #[.agg #[.int .u64 s.rd, .slice a' l'.length c', .int .u64 (if f then E else s.fin), .bool (s.kn || f)], .int .i64 0]) ∧ GsOk T ⟨s.rd, l', if f then E else s.fin, s.kn || f⟩ ∧
        (∀ k, mem l' k ↔ mem s.l k ∨ ((off ≤ k ∧ k < E) ∧ s.rd ≤ k)) ∧ RowG w' (.slice a' l'.length c') T l' ∧ (∀ q, Blk (.slice a' l'.length c') q → w.heap.size ≤ q) ∧ Below w.heap.size w w' := by
  obtain ⟨rd, l, fin, kn⟩ := s
  simp only at hn hr hD ⊢
  simp only at hL
  have HLN0 : Hid (n ≤ 250) := Lib.hid (by omega)
  have HB0 : Hid (Below w.heap.size w ((w.alloc (.cells #[.int .u64 rd, .slice a n c, .int .u64 fin, .bool kn] 33)).alloc (.cells #[.int .u64 0, .slice none 0 0, .int .u64 0, .bool false] 33))) := Lib.hid (((Below.refl _ w).alloc (Nat.le_refl _) _).alloc (by simp) _)
  have HZ0 : Hid (Gb ((w.alloc (.cells #[.int .u64 rd, .slice a n c, .int .u64 fin, .bool kn] 33)).alloc (.cells #[.int .u64 0, .slice none 0 0, .int .u64 0, .bool false] 33)) (w.heap.size + 1) 33 ⟨0, [], 0, false⟩ (.slice none 0 0)) := Lib.hid (by
    have h := gb_made (w.alloc (.cells #[.int .u64 rd, .slice a n c, .int .u64 fin, .bool kn] 33)) 33 ⟨0, [], 0, false⟩ (.slice none 0 0)
    rwa [World.size_alloc] at h)
  have HR0 := Lib.hid (hr.go HB0.out)
  have CO := Lib.hid (fun W h => ofG_any T ⟨rd, l, fin, kn⟩ a n c W hn (by omega) h)
  simp only at CO
  have CR := Lib.hid (fun (a1 : Option Addr) (c1 : Nat) W h => refuses_any T ⟨rd, l, fin, kn⟩ a1 n c1 off d f E W hok hT (by simp only; omega) h h0 (by omega) (by omega) hE (by omega))
  rw [rfS_no hok hEk hEf] at CR
  have CL := Lib.hid (fun (a1 : Option Addr) (c1 : Nat) W h => lacking_any T ⟨rd, l, fin, kn⟩ a1 n c1 off d W hok hT (by simp only; omega) hn h h0 (by omega) (by omega) hD)
  have CE := Lib.hid (fun W => end_any off d W h0 (by omega) (by omega))
  rw [hE] at CE CL
  simp only at CR CL
  have CY := Lib.hid (fun (a1 : Option Addr) (c1 b : Nat) (pa : Option Addr) (pn pc : Nat) (G : List Ran) W hlg hg hrow hG hp hcg hig hdis => lay_any T ⟨rd, l, fin, kn⟩ a1 n c1 b pa pn pc G W hT hL hlg hg hn hrow hG hp hok.can hcg hok.inns hig hdis)
  simp only at CY
  have HOK := Lib.hid hok
  have hE0 : 0 ≤ E := by omega
  have HH := Lib.hid (And.intro h0 (And.intro hEk (And.intro hEf hE0)))
  clear hr hok hT hL h0 hE hEk hEf hD hE0
  go_enter Tryz.func50, Tryz.ntmps50
  go_wp2_with fail
  refine (CO.out _ HR0.out).mono ?_
  rintro e w1 ⟨u, B, rfl, hB, hG, hO, hU, hb⟩
  obtain ⟨a1, c1, rfl⟩ := hO.form
  try simp only at hG
  try simp only at hO
  try simp only at hU
  rw [hn] at hG hO hU
  have HBB : Hid (w.heap.size + 1 < B ∧ B < w1.heap.size) := Lib.hid ⟨by simp at hB; omega, hG.lt⟩
  have HS1 : Hid (PutS w B (w.heap.size + 1) w1.heap.size ⟨rd, l, fin, kn⟩ (.slice a1 n c1) T off d (w1.alloc (.cells #[.int .u64 off, .string d] 137)).drew) := Lib.hid (by
    have hA := ((Below.refl w1.heap.size w1).alloc (Nat.le_refl _) (.cells #[.int .u64 off, .string d] 137)).drew
    exact ⟨hG.go hA, (HZ0.out.go hb).go hA, (bk2_made _ _ _ _).go (Below.refl _ _).drew, hO.row.go hA, nextG (nextG HB0.out hb) hA⟩)
  have HNW : Hid (∀ k, Blk (.slice a1 n c1) k → w.heap.size + 1 < k) := Lib.hid (fun k hk => by have := (hO.blk hk).2; simp at this; omega)
  clear hB hG hO hU hb HB0 HZ0 HR0 CO
  go_wp2_with fail
  refine wp_region_noPanic ?_
  refine wp_region_held_drew (S := fun W : World => PutS w B (w.heap.size + 1) w1.heap.size ⟨rd, l, fin, kn⟩ (.slice a1 n c1) T off d W) (by kernel_rfl) ?_ (fun hHeld => ?_)
  · exact HS1.out
  refine wpAnyH_take (i := 0) (v := ?_) rfl (by kernel_rfl) (by kernel_rfl) (by kernel_rfl) (fun _ _ _ h => h) (Or.inl ⟨by rfl, ?_⟩) (by assumption) ?_
  rotate_left
  · (intro w hSw; (have c0 := hSw.hs.c0; have c1 := hSw.hs.c1; have c2 := hSw.hs.c2; have c3 := hSw.hs.c3; have e0 := hSw.hp.c0; have e1 := hSw.hp.c1; simp only at c0 c2 c3); go_simp; (try with_reducible rfl))
  try simp only [Act.put, List.getElem_toArray, List.getElem_cons_zero, List.getElem_cons_succ, List.setIfInBounds_toArray, List.set_cons_zero, List.set_cons_succ]
  refine wpAnyH_take (i := 1) (v := ?_) rfl (by kernel_rfl) (by kernel_rfl) (by kernel_rfl) (fun _ _ _ h => h) (Or.inl ⟨by rfl, ?_⟩) (by assumption) ?_
  rotate_left
  · (intro w hSw; (have c0 := hSw.hs.c0; have c1 := hSw.hs.c1; have c2 := hSw.hs.c2; have c3 := hSw.hs.c3; have e0 := hSw.hp.c0; have e1 := hSw.hp.c1; simp only at c0 c2 c3); go_simp; (try with_reducible rfl))
  try simp only [Act.put, List.getElem_toArray, List.getElem_cons_zero, List.getElem_cons_succ, List.setIfInBounds_toArray, List.set_cons_zero, List.set_cons_succ]
  refine wpAnyH_take (i := 2) (v := ?_) rfl (by kernel_rfl) (by kernel_rfl) (by kernel_rfl) (fun _ _ _ h => h) (Or.inl ⟨by rfl, ?_⟩) (by assumption) ?_
  rotate_left
  · (intro w hSw; (have c0 := hSw.hs.c0; have c1 := hSw.hs.c1; have c2 := hSw.hs.c2; have c3 := hSw.hs.c3; have e0 := hSw.hp.c0; have e1 := hSw.hp.c1; simp only at c0 c2 c3); go_simp; (try with_reducible rfl))
  try simp only [Act.put, List.getElem_toArray, List.getElem_cons_zero, List.getElem_cons_succ, List.setIfInBounds_toArray, List.set_cons_zero, List.set_cons_succ]
  refine wpAnyH_take (i := 3) (v := ?_) rfl (by kernel_rfl) (by kernel_rfl) (by kernel_rfl) (fun _ _ _ h => h) (Or.inl ⟨by rfl, ?_⟩) (by assumption) ?_
  rotate_left
  · (intro w hSw; (have c0 := hSw.hs.c0; have c1 := hSw.hs.c1; have c2 := hSw.hs.c2; have c3 := hSw.hs.c3; have e0 := hSw.hp.c0; have e1 := hSw.hp.c1; simp only at c0 c2 c3); go_simp; (try with_reducible rfl))
  try simp only [Act.put, List.getElem_toArray, List.getElem_cons_zero, List.getElem_cons_succ, List.setIfInBounds_toArray, List.set_cons_zero, List.set_cons_succ]
  refine wpAnyH_take (i := 4) (v := ?_) rfl (by kernel_rfl) (by kernel_rfl) (by kernel_rfl) (fun _ _ _ h => h) (Or.inl ⟨by rfl, ?_⟩) (by assumption) ?_
  rotate_left
  · (intro w hSw; (have c0 := hSw.hs.c0; have c1 := hSw.hs.c1; have c2 := hSw.hs.c2; have c3 := hSw.hs.c3; have e0 := hSw.hp.c0; have e1 := hSw.hp.c1; simp only at c0 c2 c3); go_simp; (try with_reducible rfl))
  try simp only [Act.put, List.getElem_toArray, List.getElem_cons_zero, List.getElem_cons_succ, List.setIfInBounds_toArray, List.set_cons_zero, List.set_cons_succ]
  refine wpAnyH_take (i := 5) (v := ?_) rfl (by kernel_rfl) (by kernel_rfl) (by kernel_rfl) (fun _ _ _ h => h) (Or.inl ⟨by rfl, ?_⟩) (by assumption) ?_
  rotate_left
  · (intro w hSw; (have c0 := hSw.hs.c0; have c1 := hSw.hs.c1; have c2 := hSw.hs.c2; have c3 := hSw.hs.c3; have e0 := hSw.hp.c0; have e1 := hSw.hp.c1; simp only at c0 c2 c3); go_simp; (try with_reducible rfl))
  try simp only [Act.put, List.getElem_toArray, List.getElem_cons_zero, List.getElem_cons_succ, List.setIfInBounds_toArray, List.set_cons_zero, List.set_cons_succ]
  refine wpAnyH_ready (rs := [6]) (by kernel_rfl) (by simp) ?_
  refine AllReadyH.cons rfl (fun K hK => ?_) AllReadyH.nil
  rw [if_pos (by rfl)]
  go_simp
  refine (CR.out a1 c1 _ HS1.out.hr).mono ?_
  rintro e w4 ⟨rfl, hb⟩
  have HS4 := Lib.hid (HS1.out.go hb)
  clear hb
  refine hK.out _ _ ?_ (fun hHeld => ?_)
  · exact HS4.out
  clear hK K
  try simp only [Act.put, List.getElem_toArray, List.getElem_cons_zero, List.getElem_cons_succ, List.setIfInBounds_toArray, List.set_cons_zero, List.set_cons_succ]
  refine wpAnyH_take (i := 7) (v := ?_) rfl (by kernel_rfl) (by kernel_rfl) (by kernel_rfl) (fun _ _ _ h => h) (Or.inl ⟨by rfl, ?_⟩) (by assumption) ?_
  rotate_left
  · (intro w hSw; (have c0 := hSw.hs.c0; have c1 := hSw.hs.c1; have c2 := hSw.hs.c2; have c3 := hSw.hs.c3; have e0 := hSw.hp.c0; have e1 := hSw.hp.c1; simp only at c0 c2 c3); go_simp; (try with_reducible rfl))
  try simp only [Act.put, List.getElem_toArray, List.getElem_cons_zero, List.getElem_cons_succ, List.setIfInBounds_toArray, List.set_cons_zero, List.set_cons_succ]
  refine wpAnyH_done (by kernel_rfl) (NoPanic.normal ?_) _
  have HS5 := Lib.hid (HS4.out.go (Below.refl _ _).drew)
  clear HS1 CR
  go_wp2_with fail
  refine wp_region_noPanic ?_
  refine wp_region_held_drew (S := fun W : World => Bk2 W w1.heap.size 137 (.int .u64 off) (.string d)) (by kernel_rfl) ?_ (fun hHeld => ?_)
  · exact HS5.out.hp
  refine wpAnyH_take (i := 0) (v := ?_) rfl (by kernel_rfl) (by kernel_rfl) (by kernel_rfl) (fun _ _ _ h => h) (Or.inl ⟨by rfl, ?_⟩) (by assumption) ?_
  rotate_left
  · (intro w hSw; (have e0 := hSw.c0; have e1 := hSw.c1); go_simp; (try with_reducible rfl))
  try simp only [Act.put, List.getElem_toArray, List.getElem_cons_zero, List.getElem_cons_succ, List.setIfInBounds_toArray, List.set_cons_zero, List.set_cons_succ]
  refine wpAnyH_take (i := 1) (v := ?_) rfl (by kernel_rfl) (by kernel_rfl) (by kernel_rfl) (fun _ _ _ h => h) (Or.inl ⟨by rfl, ?_⟩) (by assumption) ?_
  rotate_left
  · (intro w hSw; (have e0 := hSw.c0; have e1 := hSw.c1); go_simp; (try with_reducible rfl))
  try simp only [Act.put, List.getElem_toArray, List.getElem_cons_zero, List.getElem_cons_succ, List.setIfInBounds_toArray, List.set_cons_zero, List.set_cons_succ]
  refine wpAnyH_take (i := 2) (v := ?_) rfl (by kernel_rfl) (by kernel_rfl) (by kernel_rfl) (fun _ _ _ h => h) (Or.inl ⟨by rfl, ?_⟩) (by assumption) ?_
  rotate_left
  · (intro w hSw; (have e0 := hSw.c0; have e1 := hSw.c1); go_simp; (try with_reducible rfl))
  try simp only [Act.put, List.getElem_toArray, List.getElem_cons_zero, List.getElem_cons_succ, List.setIfInBounds_toArray, List.set_cons_zero, List.set_cons_succ]
  refine wpAnyH_take (i := 3) (v := ?_) rfl (by kernel_rfl) (by kernel_rfl) (by kernel_rfl) (fun _ _ _ h => h) (Or.inl ⟨by rfl, ?_⟩) (by assumption) ?_
  rotate_left
  · (intro w hSw; (have e0 := hSw.c0; have e1 := hSw.c1); go_simp; (try with_reducible rfl))
  try simp only [Act.put, List.getElem_toArray, List.getElem_cons_zero, List.getElem_cons_succ, List.setIfInBounds_toArray, List.set_cons_zero, List.set_cons_succ]
  refine wpAnyH_take (i := 5) (v := ?_) rfl (by kernel_rfl) (by kernel_rfl) (by kernel_rfl) (fun _ _ _ h => h) (Or.inl ⟨by rfl, ?_⟩) (by assumption) ?_
  rotate_left
  · (intro w hSw; (have e0 := hSw.c0; have e1 := hSw.c1); go_simp; (try with_reducible rfl))
  try simp only [Act.put, List.getElem_toArray, List.getElem_cons_zero, List.getElem_cons_succ, List.setIfInBounds_toArray, List.set_cons_zero, List.set_cons_succ]
  refine wpAnyH_ready (rs := [4]) (by kernel_rfl) (by simp) ?_
  refine AllReadyH.cons rfl (fun K hK => ?_) AllReadyH.nil
  rw [if_pos (by rfl)]
  have x0 := HS5.out.hs.c0
  have x1 := HS5.out.hs.c1
  have x2 := HS5.out.hs.c2
  have x3 := HS5.out.hs.c3
  simp only at x0 x2 x3
  go_simp
  refine hK.out _ _ ?_ (fun hHeld => ?_)
  · exact HS5.out.hp
  clear hK K
  try simp only [Act.put, List.getElem_toArray, List.getElem_cons_zero, List.getElem_cons_succ, List.setIfInBounds_toArray, List.set_cons_zero, List.set_cons_succ]
  refine wpAnyH_ready (rs := [6]) (by kernel_rfl) (by simp) ?_
  refine AllReadyH.cons rfl (fun K hK => ?_) AllReadyH.nil
  rw [if_pos (by rfl)]
  go_simp
  with_reducible refine (CL.out a1 c1 _ HS5.out.hr).mono ?_
  rintro e w6 ⟨v6, G, rfl, q1, q2, q3, q4, hb⟩
  have HLG6 : Hid (G.length ≤ 252) := Lib.hid (by have := HLN0.out; omega)
  obtain ⟨a6, c6, rfl⟩ := q4.form
  obtain ⟨gn, hgn⟩ : ∃ m, G.length = m := ⟨_, rfl⟩
  rw [hgn] at q4 ⊢
  have HS6 := Lib.hid (HS5.out.go hb)
  have HG6 := Lib.hid q4
  have HC6 := Lib.hid q1
  have HM6 := Lib.hid q2
  have HN6 := Lib.hid hgn
  have HI6 : Hid (∀ x ∈ G, Inn T x) := Lib.hid (fun x hx => by
    have h1 := q1.good x hx
    have h2 := (q2 x.2).1 ⟨x, hx, h1.2.1, Int.le_refl _⟩
    have := HH.out.2.1
    exact ⟨h1.1, h1.2.1, by omega⟩)
  clear hb q1 q2 q3 q4 hgn
  refine hK.out _ _ ?_ (fun hHeld => ?_)
  · exact HS6.out.hp
  clear hK K
  try simp only [Act.put, List.getElem_toArray, List.getElem_cons_zero, List.getElem_cons_succ, List.setIfInBounds_toArray, List.set_cons_zero, List.set_cons_succ]
  refine wpAnyH_ready (rs := [7]) (by kernel_rfl) (by simp) ?_
  refine AllReadyH.cons rfl (fun K hK => ?_) AllReadyH.nil
  rw [if_pos (by rfl)]
  go_simp
  with_reducible refine (CY.out a1 c1 B a6 gn c6 G _ (by have := HLG6.out; have := HN6.out; omega) HS6.out.hs HS6.out.hr HN6.out HG6.out HC6.out HI6.out (fun k h => ((HM6.out k).1 h).2.2)).mono ?_
  rintro e w7 ⟨rfl, u7, l7, q1, q2, q3, q4, q5⟩
  obtain ⟨a7, c7, rfl⟩ := q4.form
  have HS7 : Hid (PutS w B (w.heap.size + 1) w1.heap.size ⟨rd, l7, fin, kn⟩ (.slice a7 l7.length c7) T off d w7) := Lib.hid (HS6.out.turn q5 q3 q4.row (by have := HBB.out; omega) (by have := HBB.out; omega) (by have := HBB.out; omega))
  have HC7 := Lib.hid q1
  have HM7 : Hid (∀ k, mem l7 k ↔ mem l k ∨ ((off ≤ k ∧ k < E) ∧ rd ≤ k)) := Lib.hid (fun k => by
    rw [q2, HM6.out]
    constructor
    · rintro (h | h)
      · exact .inl h
      · exact .inr ⟨h.1, h.2.1⟩
    · rintro (h | h)
      · exact .inl h
      · by_cases hm : mem l k
        · exact .inl hm
        · exact .inr ⟨h.1, h.2, hm⟩)
  have HFR : Hid (∀ q, Blk (.slice a7 l7.length c7) q → w.heap.size ≤ q) := Lib.hid (fun q h => by have h1 := (q4.blk h).2; have h2 := HS6.out.hb.size; omega)
  have HNB : Hid (¬ Blk (.slice a7 l7.length c7) B) := Lib.hid (fun h => by have h1 := (q4.blk h).2; have h2 := HS6.out.hs.lt; omega)
  have HBK : Hid (¬ Blk (.slice a7 l7.length c7) (w.heap.size + 1)) := Lib.hid (fun h => by have h1 := (q4.blk h).2; have h2 := HS6.out.hz.lt; omega)
  clear q1 q2 q3 q4 q5
  refine hK.out _ _ ?_ (fun hHeld => ?_)
  · exact HS7.out.hp
  clear hK K
  try simp only [Act.put, List.getElem_toArray, List.getElem_cons_zero, List.getElem_cons_succ, List.setIfInBounds_toArray, List.set_cons_zero, List.set_cons_succ]
  refine wpAnyH_done (by kernel_rfl) (NoPanic.normal ?_) _
  obtain ⟨ln, hln⟩ : ∃ m, l7.length = m := ⟨_, rfl⟩
  rw [hln] at HS7 HBK HNB HFR
  have HLN := Lib.hid hln
  have HOKN : Hid (GsOk T ⟨rd, l7, if f then E else fin, kn || f⟩) := Lib.hid (by
    have h := HOK.out
    have h1 := HH.out
    refine ⟨HC7.out, h.r0, h.r1, fun x hx => ?_, ?_, ?_, fun hk => ?_⟩
    · have h2 := HC7.out.good x hx
      have i1 := (HM7.out x.1).1 ⟨x, hx, Int.le_refl _, h2.2.1⟩
      have i2 := (HM7.out x.2).1 ⟨x, hx, h2.2.1, Int.le_refl _⟩
      refine ⟨?_, ?_⟩
      · rcases i1 with ⟨y, hy, j1, j2⟩ | ⟨j1, j2⟩
        · have := h.inn y hy; simp only at this ⊢; omega
        · exact j2
      · rcases i2 with ⟨y, hy, j1, j2⟩ | ⟨⟨j1, j2⟩, j3⟩
        · have := h.inn y hy; omega
        · omega
    · have := h.f0; simp only at this ⊢; split <;> omega
    · have := h.f1; simp only at this ⊢; split <;> omega
    · simp only at hk ⊢
      cases f with
      | true => exact h1.2.2.1 rfl
      | false => exact h.kn (by simpa using hk))
  have y0 := HS7.out.hs.c0
  have y1 := HS7.out.hs.c1
  have y2 := HS7.out.hs.c2
  have y3 := HS7.out.hs.c3
  have p0 := HS7.out.hp.c0
  have p1 := HS7.out.hp.c1
  simp only at y0 y2 y3
  have z0 := HS7.out.hz.c0
  have z1 := HS7.out.hz.c1
  have z2 := HS7.out.hz.c2
  have z3 := HS7.out.hz.c3
  simp only at z0 z2 z3
  have zf := HS7.out.hz.fz
  have hZB : B ≠ w.heap.size + 1 := by have := HBB.out; omega
  clear hln HS4 HS5 HS6 HG6 HC6 HM6 HN6 HI6 CL CY
  cases f with
  | false =>
    have HF := Lib.hid (HS7.out.hz.put ⟨rd, l7, fin, kn⟩ (.slice a7 ln c7))
    have HRF := Lib.hid (HS7.out.hr.put4 HBK.out (.int .u64 rd) (.slice a7 ln c7) (.int .u64 fin) (.bool kn))
    have HBF := Lib.hid (below_put4 HS7.out.hb (Nat.le_succ _) (.int .u64 rd) (.slice a7 ln c7) (.int .u64 fin) (.bool kn))
    go_wp2_with fail
    refine bodyPost_ret (results_put _ (w.heap.size + 1) rd fin (.slice a7 ln c7) kn 0 _ rfl rfl HF.out) rfl ?_
    have hO := HOKN.out
    rw [Bool.or_false] at hO
    exact ⟨a7, c7, l7, by rw [HLN.out], by simpa using hO, HM7.out, by rw [HLN.out]; exact HRF.out, by rw [HLN.out]; exact HFR.out, HBF.out⟩
  | true =>
    go_wp2_with fail
    with_reducible refine (CE.out _).mono ?_
    rintro e w8 ⟨rfl, hb⟩
    have HS8 := Lib.hid (HS7.out.go hb)
    have CF := Lib.hid (finish_any ⟨rd, l7, fin, kn⟩ a7 ln c7 B E w8 HS8.out.hs)
    clear y0 y1 y2 y3 z0 z1 z2 z3 p0 p1 zf hb
    go_wp2_with fail
    with_reducible refine CF.out.mono ?_
    rintro e w9 ⟨rfl, q1, q2⟩
    have HS9 : Hid (PutS w B (w.heap.size + 1) w1.heap.size ⟨rd, l7, E, true⟩ (.slice a7 ln c7) T off d w9) := Lib.hid (HS8.out.turn q2 q1 (HS8.out.hr.keep q2.size (fun q hq => q2.block q (HS8.out.hr.blk hq) (fun e => by
      subst e
      exact HNB.out hq))) (by have := HBB.out; omega) (by have := HBB.out; omega) (by have := HBB.out; omega))
    have y0 := HS9.out.hs.c0
    have y1 := HS9.out.hs.c1
    have y2 := HS9.out.hs.c2
    have y3 := HS9.out.hs.c3
    have p0 := HS9.out.hp.c0
    have p1 := HS9.out.hp.c1
    simp only at y0 y2 y3
    have z0 := HS9.out.hz.c0
    have z1 := HS9.out.hz.c1
    have z2 := HS9.out.hz.c2
    have z3 := HS9.out.hz.c3
    simp only at z0 z2 z3
    have zf := HS9.out.hz.fz
    have HF := Lib.hid (HS9.out.hz.put ⟨rd, l7, E, true⟩ (.slice a7 ln c7))
    have HRF := Lib.hid (HS9.out.hr.put4 HBK.out (.int .u64 rd) (.slice a7 ln c7) (.int .u64 E) (.bool true))
    have HBF := Lib.hid (below_put4 HS9.out.hb (Nat.le_succ _) (.int .u64 rd) (.slice a7 ln c7) (.int .u64 E) (.bool true))
    clear q1 q2 CF
    go_wp2_with fail
    refine bodyPost_ret (results_put _ (w.heap.size + 1) rd E (.slice a7 ln c7) true 0 _ rfl rfl HF.out) rfl ?_
    have hO := HOKN.out
    rw [Bool.or_true] at hO
    exact ⟨a7, c7, l7, by rw [HLN.out], by simpa using hO, HM7.out, by rw [HLN.out]; exact HRF.out, by rw [HLN.out]; exact HFR.out, HBF.out⟩
set_option maxHeartbeats 4000000 in
theorem put_err (T : ByteArray) (s : GS) (a : Option Addr) (n c : Nat) (off : Int) (d : ByteArray) (f : Bool) (E : Int) (w : World) (hok : GsOk T s) (hT : (T.size : Int) ≤ 4611686018427387903) (hL : s.l.length ≤ 250) (hn : s.l.length = n) (hr : RowG w (.slice a n c) T s.l)
    (h0 : 0 ≤ off) (h1 : off ≤ 4611686018427387903) (h2 : (d.size : Int) ≤ 4611686018427387903) (hE : off + (d.size : Int) = E) (hEm : E ≤ 4611686018427387903) (hR : rfS s f E = 140) :
    Calls Tryz.prog 50 #[.agg #[.int .u64 s.rd, .slice a n c, .int .u64 s.fin, .bool s.kn], .int .u64 off, .string d, .bool f] w fun e w' =>
      ∃ a' c', e = .returned (.tuple #[.agg #[.int .u64 s.rd, .slice a' n c', .int .u64 s.fin, .bool s.kn], .int .i64 140]) ∧ RowG w' (.slice a' n c') T s.l ∧ (∀ q, Blk (.slice a' n c') q → w.heap.size ≤ q) ∧ Below w.heap.size w w' := by
  obtain ⟨rd, l, fin, kn⟩ := s
  simp only at hn hr hL ⊢
  have HB0 : Hid (Below w.heap.size w ((w.alloc (.cells #[.int .u64 rd, .slice a n c, .int .u64 fin, .bool kn] 33)).alloc (.cells #[.int .u64 0, .slice none 0 0, .int .u64 0, .bool false] 33))) := Lib.hid (((Below.refl _ w).alloc (Nat.le_refl _) _).alloc (by simp) _)
  have HZ0 : Hid (Gb ((w.alloc (.cells #[.int .u64 rd, .slice a n c, .int .u64 fin, .bool kn] 33)).alloc (.cells #[.int .u64 0, .slice none 0 0, .int .u64 0, .bool false] 33)) (w.heap.size + 1) 33 ⟨0, [], 0, false⟩ (.slice none 0 0)) := Lib.hid (by
    have h := gb_made (w.alloc (.cells #[.int .u64 rd, .slice a n c, .int .u64 fin, .bool kn] 33)) 33 ⟨0, [], 0, false⟩ (.slice none 0 0)
    rwa [World.size_alloc] at h)
  have HR0 := Lib.hid (hr.go HB0.out)
  have CO := Lib.hid (fun W h => ofG_any T ⟨rd, l, fin, kn⟩ a n c W hn (by omega) h)
  simp only at CO
  have CR := Lib.hid (fun (a1 : Option Addr) (c1 : Nat) W h => refuses_any T ⟨rd, l, fin, kn⟩ a1 n c1 off d f E W hok hT (by simp only; omega) h h0 h1 h2 hE hEm)
  rw [hR] at CR
  simp only at CR
  clear hr hT h0 h1 h2 hE hok hR hEm
  go_enter Tryz.func50, Tryz.ntmps50
  go_wp2_with fail
  refine (CO.out _ HR0.out).mono ?_
  rintro e w1 ⟨u, B, rfl, hB, hG, hO, hU, hb⟩
  obtain ⟨a1, c1, rfl⟩ := hO.form
  try simp only at hG
  try simp only at hO
  try simp only at hU
  rw [hn] at hG hO hU
  have HBB : Hid (w.heap.size + 1 < B ∧ B < w1.heap.size) := Lib.hid ⟨by simp at hB; omega, hG.lt⟩
  have HS1 : Hid (PutS w B (w.heap.size + 1) w1.heap.size ⟨rd, l, fin, kn⟩ (.slice a1 n c1) T off d (w1.alloc (.cells #[.int .u64 off, .string d] 137)).drew) := Lib.hid (by
    have hA := ((Below.refl w1.heap.size w1).alloc (Nat.le_refl _) (.cells #[.int .u64 off, .string d] 137)).drew
    exact ⟨hG.go hA, (HZ0.out.go hb).go hA, (bk2_made _ _ _ _).go (Below.refl _ _).drew, hO.row.go hA, nextG (nextG HB0.out hb) hA⟩)
  have HNW : Hid (∀ k, Blk (.slice a1 n c1) k → w.heap.size + 1 < k) := Lib.hid (fun k hk => by have := (hO.blk hk).2; simp at this; omega)
  clear hB hG hO hU hb HB0 HZ0 HR0 CO
  go_wp2_with fail
  refine wp_region_noPanic ?_
  refine wp_region_held_drew (S := fun W : World => PutS w B (w.heap.size + 1) w1.heap.size ⟨rd, l, fin, kn⟩ (.slice a1 n c1) T off d W) (by kernel_rfl) ?_ (fun hHeld => ?_)
  · exact HS1.out
  refine wpAnyH_take (i := 0) (v := ?_) rfl (by kernel_rfl) (by kernel_rfl) (by kernel_rfl) (fun _ _ _ h => h) (Or.inl ⟨by rfl, ?_⟩) (by assumption) ?_
  rotate_left
  · (intro w hSw; (have c0 := hSw.hs.c0; have c1 := hSw.hs.c1; have c2 := hSw.hs.c2; have c3 := hSw.hs.c3; have e0 := hSw.hp.c0; have e1 := hSw.hp.c1; simp only at c0 c2 c3); go_simp; (try with_reducible rfl))
  try simp only [Act.put, List.getElem_toArray, List.getElem_cons_zero, List.getElem_cons_succ, List.setIfInBounds_toArray, List.set_cons_zero, List.set_cons_succ]
  refine wpAnyH_take (i := 1) (v := ?_) rfl (by kernel_rfl) (by kernel_rfl) (by kernel_rfl) (fun _ _ _ h => h) (Or.inl ⟨by rfl, ?_⟩) (by assumption) ?_
  rotate_left
  · (intro w hSw; (have c0 := hSw.hs.c0; have c1 := hSw.hs.c1; have c2 := hSw.hs.c2; have c3 := hSw.hs.c3; have e0 := hSw.hp.c0; have e1 := hSw.hp.c1; simp only at c0 c2 c3); go_simp; (try with_reducible rfl))
  try simp only [Act.put, List.getElem_toArray, List.getElem_cons_zero, List.getElem_cons_succ, List.setIfInBounds_toArray, List.set_cons_zero, List.set_cons_succ]
  refine wpAnyH_take (i := 2) (v := ?_) rfl (by kernel_rfl) (by kernel_rfl) (by kernel_rfl) (fun _ _ _ h => h) (Or.inl ⟨by rfl, ?_⟩) (by assumption) ?_
  rotate_left
  · (intro w hSw; (have c0 := hSw.hs.c0; have c1 := hSw.hs.c1; have c2 := hSw.hs.c2; have c3 := hSw.hs.c3; have e0 := hSw.hp.c0; have e1 := hSw.hp.c1; simp only at c0 c2 c3); go_simp; (try with_reducible rfl))
  try simp only [Act.put, List.getElem_toArray, List.getElem_cons_zero, List.getElem_cons_succ, List.setIfInBounds_toArray, List.set_cons_zero, List.set_cons_succ]
  refine wpAnyH_take (i := 3) (v := ?_) rfl (by kernel_rfl) (by kernel_rfl) (by kernel_rfl) (fun _ _ _ h => h) (Or.inl ⟨by rfl, ?_⟩) (by assumption) ?_
  rotate_left
  · (intro w hSw; (have c0 := hSw.hs.c0; have c1 := hSw.hs.c1; have c2 := hSw.hs.c2; have c3 := hSw.hs.c3; have e0 := hSw.hp.c0; have e1 := hSw.hp.c1; simp only at c0 c2 c3); go_simp; (try with_reducible rfl))
  try simp only [Act.put, List.getElem_toArray, List.getElem_cons_zero, List.getElem_cons_succ, List.setIfInBounds_toArray, List.set_cons_zero, List.set_cons_succ]
  refine wpAnyH_take (i := 4) (v := ?_) rfl (by kernel_rfl) (by kernel_rfl) (by kernel_rfl) (fun _ _ _ h => h) (Or.inl ⟨by rfl, ?_⟩) (by assumption) ?_
  rotate_left
  · (intro w hSw; (have c0 := hSw.hs.c0; have c1 := hSw.hs.c1; have c2 := hSw.hs.c2; have c3 := hSw.hs.c3; have e0 := hSw.hp.c0; have e1 := hSw.hp.c1; simp only at c0 c2 c3); go_simp; (try with_reducible rfl))
  try simp only [Act.put, List.getElem_toArray, List.getElem_cons_zero, List.getElem_cons_succ, List.setIfInBounds_toArray, List.set_cons_zero, List.set_cons_succ]
  refine wpAnyH_take (i := 5) (v := ?_) rfl (by kernel_rfl) (by kernel_rfl) (by kernel_rfl) (fun _ _ _ h => h) (Or.inl ⟨by rfl, ?_⟩) (by assumption) ?_
  rotate_left
  · (intro w hSw; (have c0 := hSw.hs.c0; have c1 := hSw.hs.c1; have c2 := hSw.hs.c2; have c3 := hSw.hs.c3; have e0 := hSw.hp.c0; have e1 := hSw.hp.c1; simp only at c0 c2 c3); go_simp; (try with_reducible rfl))
  try simp only [Act.put, List.getElem_toArray, List.getElem_cons_zero, List.getElem_cons_succ, List.setIfInBounds_toArray, List.set_cons_zero, List.set_cons_succ]
  refine wpAnyH_ready (rs := [6]) (by kernel_rfl) (by simp) ?_
  refine AllReadyH.cons rfl (fun K hK => ?_) AllReadyH.nil
  rw [if_pos (by rfl)]
  go_simp
  refine (CR.out a1 c1 _ HS1.out.hr).mono ?_
  rintro e w4 ⟨rfl, hb⟩
  have HS4 := Lib.hid (HS1.out.go hb)
  clear hb
  refine hK.out _ _ ?_ (fun hHeld => ?_)
  · exact HS4.out
  clear hK K
  try simp only [Act.put, List.getElem_toArray, List.getElem_cons_zero, List.getElem_cons_succ, List.setIfInBounds_toArray, List.set_cons_zero, List.set_cons_succ]
  refine wpAnyH_take (i := 7) (v := ?_) rfl (by kernel_rfl) (by kernel_rfl) (by kernel_rfl) (fun _ _ _ h => h) (Or.inl ⟨by rfl, ?_⟩) (by assumption) ?_
  rotate_left
  · (intro w hSw; (have c0 := hSw.hs.c0; have c1 := hSw.hs.c1; have c2 := hSw.hs.c2; have c3 := hSw.hs.c3; have e0 := hSw.hp.c0; have e1 := hSw.hp.c1; simp only at c0 c2 c3); go_simp; (try with_reducible rfl))
  try simp only [Act.put, List.getElem_toArray, List.getElem_cons_zero, List.getElem_cons_succ, List.setIfInBounds_toArray, List.set_cons_zero, List.set_cons_succ]
  refine wpAnyH_done (by kernel_rfl) (NoPanic.normal ?_) _
  have y0 := HS4.out.hs.c0
  have y1 := HS4.out.hs.c1
  have y2 := HS4.out.hs.c2
  have y3 := HS4.out.hs.c3
  have p0 := HS4.out.hp.c0
  have p1 := HS4.out.hp.c1
  simp only at y0 y2 y3
  have z0 := HS4.out.hz.c0
  have z1 := HS4.out.hz.c1
  have z2 := HS4.out.hz.c2
  have z3 := HS4.out.hz.c3
  simp only at z0 z2 z3
  have zf := HS4.out.hz.fz
  have hZB : B ≠ w.heap.size + 1 := by have := HBB.out; omega
  have HBK : Hid (¬ Blk (.slice a1 n c1) (w.heap.size + 1)) := Lib.hid (fun h => by have := HNW.out _ h; omega)
  have HF := Lib.hid (HS4.out.hz.put ⟨rd, l, fin, kn⟩ (.slice a1 n c1))
  have HRF := Lib.hid (HS4.out.hr.put4 HBK.out (.int .u64 rd) (.slice a1 n c1) (.int .u64 fin) (.bool kn))
  have HBF := Lib.hid (below_put4 HS4.out.hb (Nat.le_succ _) (.int .u64 rd) (.slice a1 n c1) (.int .u64 fin) (.bool kn))
  clear HS1 CR
  go_wp2_with fail
  refine bodyPost_ret (results_put _ (w.heap.size + 1) rd fin (.slice a1 n c1) kn 140 _ rfl rfl HF.out) rfl ?_
  exact ⟨a1, c1, rfl, HRF.out, fun q hq => by have := HNW.out q hq; omega, HBF.out⟩
end Go.Proofs.YtoblmhpjendbfaaGreatDoor.Rg.Gt
