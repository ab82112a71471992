/- Layer 15: the walks of Lost, Acked, Write. By tools/gen-sendq-6.py. -/
import Derived.Test.YtedijfcagkedaaaSqF
namespace Go.Proofs.Ytedijfcagkedaaa.Rg
set_option maxRecDepth 20000
open Go.RowKit Go.Shelf
set_option linter.unusedVariables false
set_option linter.unusedSimpArgs false

theorem unP_len : ∀ (s : List Ran) (r : Ran), (unP s r true).length ≤ s.length ∧ (unP s r false).length ≤ s.length + 1
  | [], r => by simp [unP]
  | x :: s, r => by
    obtain ⟨h1, h2⟩ := unP_len s r
    obtain ⟨h3, h4⟩ := unP_len s (min r.1 x.1, max r.2 x.2)
    rw [unP, unP]
    split
    · simp; omega
    · split
      · simp; omega
      · simp; omega
theorem unL_len (l : List Ran) (r : Ran) : (unL l r).length ≤ l.length + 1 := by
  unfold unL
  split
  · exact (unP_len l r).2
  · omega
theorem FR.al {w W : World} {B : Nat} {u v : Value} {s : SS} (h : FR w W B u v s) (o : Obj) : FR w (W.alloc o) B u v s := h.go ((Below.refl _ _).alloc (Nat.le_refl _) o)
theorem twoS (W : World) (x y : Value) (Y : TypeId) : (W.alloc (.cells #[x, y] Y)).cell? ⟨W.heap.size, 0, none⟩ = some x ∧ (W.alloc (.cells #[x, y] Y)).cell? ⟨W.heap.size, 1, none⟩ = some y := by
  have h := heap_alloc_new W (.cells #[x, y] Y)
  exact ⟨Lib.cell_of_heap h 0, Lib.cell_of_heap h 1⟩
/-- Two sets, one behind the other, of the call's own. -/
theorem concat_is (bb : Nat) (a1 : Option Addr) (n1 c1 : Nat) (l1 : List Ran) (a2 : Option Addr) (n2 c2 : Nat) (l2 : List Ran) (w : World) (hbb : bb < w.heap.size)
    (h1 : w.cell? ⟨bb, 0, none⟩ = some (.slice a1 n1 c1)) (h2 : w.cell? ⟨bb, 1, none⟩ = some (.slice a2 n2 c2)) (hr1 : Rd w (.slice a1 n1 c1) l1) (hr2 : Rd w (.slice a2 n2 c2) l2) (hl1 : n1 ≤ 300) (hl2 : n2 ≤ 300) :
    Calls Try.prog 41 #[.slice (some ⟨bb, 0, none⟩) 2 2] w fun e w' => ∃ a c, e = .returned (.slice a (l1 ++ l2).length c) ∧ Rd w' (.slice a (l1 ++ l2).length c) (l1 ++ l2) ∧ Below w.heap.size w w' := by
  obtain rfl := rd_len hr1
  obtain rfl := rd_len hr2
  refine (concat_any bb a1 c1 l1 a2 c2 l2 w hbb h1 h2 hr1 hr2 hl1 hl2).mono ?_
  rintro e w' ⟨v, rfl, hr, hb⟩
  obtain ⟨a', c', rfl, _⟩ := id hr
  exact ⟨a', c', rfl, hr, hb⟩
theorem lack_len' (s : List Ran) (r : Ran) : (lack s r).length ≤ s.length + 1 := lack_len s r
set_option maxHeartbeats 8000000 in
theorem lost_any (s : SS) (a1 : Option Addr) (n1 c1 : Nat) (a2 : Option Addr) (n2 c2 : Nat) (off n : Int) (f : Bool) (w : World) (hs : SsOk s) (hl1 : n1 ≤ 100) (hl2 : n2 ≤ 100) (ha : Rd w (.slice a1 n1 c1) s.ak) (ht : Rd w (.slice a2 n2 c2) s.td) (h2 : 0 ≤ off) (h3 : off + max n 0 < 18446744073709551616) :
    Calls Try.prog 18 #[.agg #[.int .u64 s.ba, .int .u64 s.tp, .string s.d, .slice a1 n1 c1, .slice a2 n2 c2, .bool s.fin, .bool s.ft, .bool s.fa], .int .u64 off, .int .i64 n, .bool f] w (Gv w (lostS s off n f)) := by
  have hm1 := rd_len ha
  have hm2 := rd_len ht
  have CO := Lib.hid (fun W (k1 : Rd W (.slice a1 n1 c1) s.ak) (k2 : Rd W (.slice a2 n2 c2) s.td) => ofq_any s a1 n1 c1 a2 n2 c2 W (by omega) (by omega) k1 k2)
  rw [← hm1, ← hm2] at CO
  have HB0 : Hid (Below w.heap.size w ((w.alloc (.cells #[.int .u64 s.ba, .int .u64 s.tp, .string s.d, .slice a1 n1 c1, .slice a2 n2 c2, .bool s.fin, .bool s.ft, .bool s.fa] 29)).alloc (.cells #[.int .u64 0, .int .u64 0, .string ⟨#[]⟩, .slice none 0 0, .slice none 0 0, .bool false, .bool false, .bool false] 29))) := Lib.hid (((Below.refl _ w).alloc (Nat.le_refl _) _).alloc (by simp) _)
  have HZ : Hid (Z8 ((w.alloc (.cells #[.int .u64 s.ba, .int .u64 s.tp, .string s.d, .slice a1 n1 c1, .slice a2 n2 c2, .bool s.fin, .bool s.ft, .bool s.fa] 29)).alloc (.cells #[.int .u64 0, .int .u64 0, .string ⟨#[]⟩, .slice none 0 0, .slice none 0 0, .bool false, .bool false, .bool false] 29)) (w.heap.size + 1)) := Lib.hid (by
    have h := heap_alloc_new (w.alloc (.cells #[.int .u64 s.ba, .int .u64 s.tp, .string s.d, .slice a1 n1 c1, .slice a2 n2 c2, .bool s.fin, .bool s.ft, .bool s.fa] 29)) (.cells #[.int .u64 0, .int .u64 0, .string ⟨#[]⟩, .slice none 0 0, .slice none 0 0, .bool false, .bool false, .bool false] 29)
    rw [World.size_alloc] at h
    exact h)
  have HA0 := Lib.hid (ha.go HB0.out)
  have HT0 := Lib.hid (ht.go HB0.out)
  have CM := Lib.hid (fun (b1 : Option Addr) (d1 : Nat) (b2 : Option Addr) (d2 : Nat) W (k1 : Rd W (.slice b1 n1 d1) s.ak) (k2 : Rd W (.slice b2 n2 d2) s.td) => missing_any s b1 n1 d1 (.slice b2 n2 d2) off n W hs.mid (by omega) k1 k2 h2 h3)
  have hcm := (lack_can hs.ca (plS s off n) (pl_good hs off n).1 (pl_good hs off n).2).1
  have hlm := lack_len' s.ak (plS s off n)
  unfold lostS
  generalize lack s.ak (plS s off n) = M at *
  have CN := Lib.hid (fun (bb : Nat) (a1 : Option Addr) (c1 : Nat) (a2 : Option Addr) (c2 : Nat) W hbb g1 g2 (k1 : Rd W (.slice a1 n2 c1) s.td) (k2 : Rd W (.slice a2 M.length c2) M) => concat_is bb a1 n2 c1 s.td a2 M.length c2 M W hbb g1 g2 k1 k2 (by omega) (by omega))
  have CF := Lib.hid (fun (a : Option Addr) (c : Nat) W (k : Rd W (.slice a (s.td ++ M).length c) (s.td ++ M)) => of_sets a _ c s.td M W rfl (by rw [List.length_append]; omega) hs.ct hcm k)
  unfold Sets at CF
  obtain ⟨FT, hFT⟩ : ∃ x, (if f = true ∧ s.fin = true ∧ s.fa = false then true else s.ft) = x := ⟨_, rfl⟩
  rw [hFT]
  clear hl1 hl2 ha ht hm1 hm2 hs h2 h3 hcm hlm
  obtain ⟨ba, tp, d, ak, td, fin, ft, fa⟩ := s
  obtain ⟨R, hR⟩ : ∃ l, unA td M = l := ⟨_, rfl⟩
  simp only at CO HB0 HZ HA0 HT0 CM CN CF hFT ⊢
  rw [hR] at CF ⊢
  obtain ⟨rn, hrn⟩ : ∃ n, R.length = n := ⟨_, rfl⟩
  rw [hrn] at CF
  obtain ⟨mn, hmn⟩ : ∃ n, M.length = n := ⟨_, rfl⟩
  rw [hmn] at CM CN
  obtain ⟨sn, hsn⟩ : ∃ n, (td ++ M).length = n := ⟨_, rfl⟩
  rw [hsn] at CN CF
  replace hFT := Lib.hid hFT
  clear hR hrn hmn hsn
  go_enter Try.func18, Try.ntmps18
  go_wp2_with fail
  refine (CO.out _ HA0.out HT0.out).mono ?_
  rintro e w1 ⟨b1, d1, b2, d2, B, rfl, hB, hq, k1, k2, hb⟩
  have HF1 : Hid (FR w w1 B (.slice b1 n1 d1) (.slice b2 n2 d2) ⟨ba, tp, d, ak, td, fin, ft, fa⟩) := Lib.hid ⟨hq, HZ.out.go hb, nextG HB0.out hb, by simp at hB; omega, fun k hk => by have := k1 k hk; simp at this; omega, fun k hk => by have := k2 k hk; simp at this; omega⟩
  clear hB hq k1 k2 hb HB0 HZ HA0 HT0 CO
  go_wp2_with fail
  refine wp_region_noPanic ?_
  refine wp_region_E (fun W : World => FR w W B (.slice b1 n1 d1) (.slice b2 n2 d2) ⟨ba, tp, d, ak, td, fin, ft, fa⟩) (fun j => Nat.ble 16 j) (by kernel_rfl) ?_ (fun hHeld => ?_)
  · exact HF1.out.dr
  refine wpAnyE_take (i := 0) (v := ?_) rfl (by kernel_rfl) (by kernel_rfl) (by kernel_rfl) (fun _ _ _ h => h) (Or.inl ⟨by rfl, ?_⟩) ?_
  rotate_left
  · (intro w hSw; go_simp; (try with_reducible rfl))
  try simp only [Act.put, List.getElem_toArray, List.getElem_cons_zero, List.getElem_cons_succ, List.setIfInBounds_toArray, List.set_cons_zero, List.set_cons_succ]
  refine wpAnyE_take (i := 1) (v := ?_) rfl (by kernel_rfl) (by kernel_rfl) (by kernel_rfl) (fun _ _ _ h => h) (Or.inl ⟨by rfl, ?_⟩) ?_
  rotate_left
  · (intro w hSw; go_simp; (try with_reducible rfl))
  try simp only [Act.put, List.getElem_toArray, List.getElem_cons_zero, List.getElem_cons_succ, List.setIfInBounds_toArray, List.set_cons_zero, List.set_cons_succ]
  refine wpAnyE_take (i := 2) (v := ?_) rfl (by kernel_rfl) (by kernel_rfl) (by kernel_rfl) (fun _ _ _ h => h) (Or.inl ⟨by rfl, ?_⟩) ?_
  rotate_left
  · (intro w hSw; go_simp; (try with_reducible rfl))
  try simp only [Act.put, List.getElem_toArray, List.getElem_cons_zero, List.getElem_cons_succ, List.setIfInBounds_toArray, List.set_cons_zero, List.set_cons_succ]
  refine wpAnyE_take (i := 3) (v := ?_) rfl (by kernel_rfl) (by kernel_rfl) (by kernel_rfl) (fun _ _ _ h => h) (Or.inl ⟨by rfl, ?_⟩) ?_
  rotate_left
  · (intro w hSw; go_simp; (try with_reducible rfl))
  try simp only [Act.put, List.getElem_toArray, List.getElem_cons_zero, List.getElem_cons_succ, List.setIfInBounds_toArray, List.set_cons_zero, List.set_cons_succ]
  refine wpAnyE_take (i := 4) (v := ?_) rfl (by kernel_rfl) (by kernel_rfl) (by kernel_rfl) (fun _ _ _ h => h) (Or.inl ⟨by rfl, ?_⟩) ?_
  rotate_left
  · (intro w hSw; go_simp; (try with_reducible rfl))
  try simp only [Act.put, List.getElem_toArray, List.getElem_cons_zero, List.getElem_cons_succ, List.setIfInBounds_toArray, List.set_cons_zero, List.set_cons_succ]
  refine wpAnyE_load (i := 5) (v := ?_) rfl (by kernel_rfl) (by kernel_rfl) (by kernel_rfl) (by kernel_rfl) (fun _ _ _ h => h) (Or.inl ⟨by rfl, ?_⟩) (by assumption) ?_
  rotate_left
  · (intro w hSw; (have k0 := hSw.q.c0; have k1 := hSw.q.c1; have k2 := hSw.q.c2; have k3 := hSw.q.c3; have k4 := hSw.q.c4; have k5 := hSw.q.c5; have k6 := hSw.q.c6; have k7 := hSw.q.c7; simp only at k0 k1 k2 k5 k6 k7); go_simp; (try with_reducible rfl))
  try simp only [Act.put, List.getElem_toArray, List.getElem_cons_zero, List.getElem_cons_succ, List.setIfInBounds_toArray, List.set_cons_zero, List.set_cons_succ]
  refine wpAnyE_take (i := 6) (v := ?_) rfl (by kernel_rfl) (by kernel_rfl) (by kernel_rfl) (fun _ _ _ h => h) (Or.inl ⟨by rfl, ?_⟩) ?_
  rotate_left
  · (intro w hSw; go_simp; (try with_reducible rfl))
  try simp only [Act.put, List.getElem_toArray, List.getElem_cons_zero, List.getElem_cons_succ, List.setIfInBounds_toArray, List.set_cons_zero, List.set_cons_succ]
  refine wpAnyE_take (i := 7) (v := ?_) rfl (by kernel_rfl) (by kernel_rfl) (by kernel_rfl) (fun _ _ _ h => h) (Or.inl ⟨by rfl, ?_⟩) ?_
  rotate_left
  · (intro w hSw; go_simp; (try with_reducible rfl))
  try simp only [Act.put, List.getElem_toArray, List.getElem_cons_zero, List.getElem_cons_succ, List.setIfInBounds_toArray, List.set_cons_zero, List.set_cons_succ]
  refine wpAnyE_take (i := 8) (v := ?_) rfl (by kernel_rfl) (by kernel_rfl) (by kernel_rfl) (fun _ _ _ h => h) (Or.inl ⟨by rfl, ?_⟩) ?_
  rotate_left
  · (intro w hSw; go_simp; (try with_reducible rfl))
  try simp only [Act.put, List.getElem_toArray, List.getElem_cons_zero, List.getElem_cons_succ, List.setIfInBounds_toArray, List.set_cons_zero, List.set_cons_succ]
  refine wpAnyE_load (i := 9) (v := ?_) rfl (by kernel_rfl) (by kernel_rfl) (by kernel_rfl) (by kernel_rfl) (fun _ _ _ h => h) (Or.inl ⟨by rfl, ?_⟩) (by assumption) ?_
  rotate_left
  · (intro w hSw; (have k0 := hSw.q.c0; have k1 := hSw.q.c1; have k2 := hSw.q.c2; have k3 := hSw.q.c3; have k4 := hSw.q.c4; have k5 := hSw.q.c5; have k6 := hSw.q.c6; have k7 := hSw.q.c7; simp only at k0 k1 k2 k5 k6 k7); go_simp; (try with_reducible rfl))
  try simp only [Act.put, List.getElem_toArray, List.getElem_cons_zero, List.getElem_cons_succ, List.setIfInBounds_toArray, List.set_cons_zero, List.set_cons_succ]
  refine wpAnyE_take (i := 10) (v := ?_) rfl (by kernel_rfl) (by kernel_rfl) (by kernel_rfl) (fun _ _ _ h => h) (Or.inl ⟨by rfl, ?_⟩) ?_
  rotate_left
  · (intro w hSw; go_simp; (try with_reducible rfl))
  try simp only [Act.put, List.getElem_toArray, List.getElem_cons_zero, List.getElem_cons_succ, List.setIfInBounds_toArray, List.set_cons_zero, List.set_cons_succ]
  refine wpAnyE_take (i := 11) (v := ?_) rfl (by kernel_rfl) (by kernel_rfl) (by kernel_rfl) (fun _ _ _ h => h) (Or.inl ⟨by rfl, ?_⟩) ?_
  rotate_left
  · (intro w hSw; go_simp; (try with_reducible rfl))
  try simp only [Act.put, List.getElem_toArray, List.getElem_cons_zero, List.getElem_cons_succ, List.setIfInBounds_toArray, List.set_cons_zero, List.set_cons_succ]
  refine wpAnyE_call (i := 12) (by kernel_rfl) rfl (by rfl) (fun K hK => ?_)
  go_simp
  refine (CM.out _ _ _ _ _ HF1.out.dr.q.ra HF1.out.dr.q.rt).mono ?_
  rintro e w2 ⟨b3, d3, rfl, hr, hb⟩
  have HR2 := Lib.hid hr
  have HF2 := Lib.hid (HF1.out.dr.go hb)
  clear hr hb
  refine hK.out _ _ ?_ (fun hHeld => ?_)
  · exact HF2.out
  clear hK K
  try simp only [Act.put, List.getElem_toArray, List.getElem_cons_zero, List.getElem_cons_succ, List.setIfInBounds_toArray, List.set_cons_zero, List.set_cons_succ]
  refine wpAnyE_call (i := 13) (by kernel_rfl) rfl (by rfl) (fun K hK => ?_)
  go_simp
  have HF3 := Lib.hid (HF2.out.al (.cells #[.slice b2 n2 d2, .slice b3 mn d3] 27))
  have HX3 := Lib.hid (twoS w2 (.slice b2 n2 d2) (.slice b3 mn d3) 27)
  have HR3 := Lib.hid (HR2.out.go ((Below.refl _ _).alloc (Nat.le_refl _) (.cells #[.slice b2 n2 d2, .slice b3 mn d3] 27)))
  refine hK.out _ _ ?_ (fun hHeld => ?_)
  · exact HF3.out
  clear hK K
  try simp only [Act.put, List.getElem_toArray, List.getElem_cons_zero, List.getElem_cons_succ, List.setIfInBounds_toArray, List.set_cons_zero, List.set_cons_succ]
  refine wpAnyE_call (i := 14) (by kernel_rfl) rfl (by rfl) (fun K hK => ?_)
  go_simp
  refine (CN.out _ _ _ _ _ _ (by simp) HX3.out.1 HX3.out.2 HF3.out.q.rt HR3.out).mono ?_
  rintro e w4 ⟨b4, d4, rfl, hr, hb⟩
  have HR4 := Lib.hid hr
  have HF4 := Lib.hid (HF3.out.go hb)
  clear hr hb
  refine hK.out _ _ ?_ (fun hHeld => ?_)
  · exact HF4.out
  clear hK K
  try simp only [Act.put, List.getElem_toArray, List.getElem_cons_zero, List.getElem_cons_succ, List.setIfInBounds_toArray, List.set_cons_zero, List.set_cons_succ]
  refine wpAnyE_call (i := 15) (by kernel_rfl) rfl (by rfl) (fun K hK => ?_)
  go_simp
  refine (CF.out _ _ _ HR4.out).mono ?_
  rintro e w5 ⟨b5, d5, rfl, hr, hk, hb⟩
  have HV := Lib.hid hr
  have KV := Lib.hid hk
  have HF5 := Lib.hid (HF4.out.go hb)
  clear hr hk hb
  have z0 := HF5.out.q.c0
  have z1 := HF5.out.q.c1
  have z2 := HF5.out.q.c2
  have z3 := HF5.out.q.c3
  have z4 := HF5.out.q.c4
  have z5 := HF5.out.q.c5
  have z6 := HF5.out.q.c6
  have z7 := HF5.out.q.c7
  simp only at z0 z1 z2 z5 z6 z7
  have zf := HF5.out.q.fz
  refine hK.out _ _ ?_ (fun hHeld => ?_)
  · exact HF5.out
  clear hK K
  try simp only [Act.put, List.getElem_toArray, List.getElem_cons_zero, List.getElem_cons_succ, List.setIfInBounds_toArray, List.set_cons_zero, List.set_cons_succ]
  refine wpAnyE_take (i := 16) (v := ?_) rfl (by kernel_rfl) (by kernel_rfl) (by kernel_rfl) (fun _ _ _ h => h) (Or.inl ⟨by rfl, ?_⟩) ?_
  rotate_left
  · (intro w hSw; go_simp; (try with_reducible rfl))
  try simp only [Act.put, List.getElem_toArray, List.getElem_cons_zero, List.getElem_cons_succ, List.setIfInBounds_toArray, List.set_cons_zero, List.set_cons_succ]
  refine wpAnyE_take (i := 17) (v := ?_) rfl (by kernel_rfl) (by kernel_rfl) (by kernel_rfl) (fun _ _ _ h => h) (Or.inl ⟨by rfl, ?_⟩) ?_
  rotate_left
  · (intro w hSw; go_simp; (try with_reducible rfl))
  try simp only [Act.put, List.getElem_toArray, List.getElem_cons_zero, List.getElem_cons_succ, List.setIfInBounds_toArray, List.set_cons_zero, List.set_cons_succ]
  refine wpAnyE_take (i := 18) (v := ?_) rfl (by kernel_rfl) (by kernel_rfl) (by kernel_rfl) (fun _ _ _ h => h) (Or.inl ⟨by rfl, ?_⟩) ?_
  rotate_left
  · (intro w hSw; go_simp; (try with_reducible rfl))
  try simp only [Act.put, List.getElem_toArray, List.getElem_cons_zero, List.getElem_cons_succ, List.setIfInBounds_toArray, List.set_cons_zero, List.set_cons_succ]
  refine wpAnyE_store (i := 19) (by kernel_rfl) rfl (by rfl) (by rfl) (fun K hK => ?_)
  go_simp
  refine hK.out _ _ ?_
  clear hK K
  try simp only [Act.put, List.getElem_toArray, List.getElem_cons_zero, List.getElem_cons_succ, List.setIfInBounds_toArray, List.set_cons_zero, List.set_cons_succ]
  refine wpAnyE_done (by kernel_rfl) (NoPanic.normal ?_) _
  have N2 : ¬ Blk (.slice b5 rn d5) B := fun hk => by have := KV.out _ hk; have := HF4.out.q.lt; omega
  have HF6 := Lib.hid (HF5.out.s4 HV.out (fun k hk => by have := KV.out k hk; have := HF4.out.hB; have := HF4.out.q.lt; omega) N2)
  simp only at HF6
  clear N2 z0 z1 z2 z3 z4 z5 z6 z7 zf
  generalize w5.setCell _ _ = W5 at *
  replace hFT := hFT.out
  cases f with
  | false =>
    rw [if_neg (by simp)] at hFT
    subst hFT
    have y0 := HF6.out.q.c0
    have y1 := HF6.out.q.c1
    have y2 := HF6.out.q.c2
    have y3 := HF6.out.q.c3
    have y4 := HF6.out.q.c4
    have y5 := HF6.out.q.c5
    have y6 := HF6.out.q.c6
    have y7 := HF6.out.q.c7
    simp only at y0 y1 y2 y5 y6 y7
    have yf := HF6.out.q.fz
    have q0 : W5.cell? ⟨w.heap.size + 1, 0, none⟩ = _ := Lib.cell_of_heap HF6.out.z 0
    have q1 : W5.cell? ⟨w.heap.size + 1, 1, none⟩ = _ := Lib.cell_of_heap HF6.out.z 1
    have q2 : W5.cell? ⟨w.heap.size + 1, 2, none⟩ = _ := Lib.cell_of_heap HF6.out.z 2
    have q3 : W5.cell? ⟨w.heap.size + 1, 3, none⟩ = _ := Lib.cell_of_heap HF6.out.z 3
    have q4 : W5.cell? ⟨w.heap.size + 1, 4, none⟩ = _ := Lib.cell_of_heap HF6.out.z 4
    have q5 : W5.cell? ⟨w.heap.size + 1, 5, none⟩ = _ := Lib.cell_of_heap HF6.out.z 5
    have q6 : W5.cell? ⟨w.heap.size + 1, 6, none⟩ = _ := Lib.cell_of_heap HF6.out.z 6
    have q7 : W5.cell? ⟨w.heap.size + 1, 7, none⟩ = _ := Lib.cell_of_heap HF6.out.z 7
    have qf : ∀ k, W5.frozen? ⟨w.heap.size + 1, k, none⟩ = false := fun k => Lib.frozen_of_heap HF6.out.z k
    have hne : ¬ B = w.heap.size + 1 := by have := HF6.out.hB; omega
    have hne' : ¬ w.heap.size + 1 = B := by omega
    have HL := Lib.hid HF6.out.laid
    go_wp2_with fail
    exact bodyPost_ret (results_st Try.results18 _ (w.heap.size + 1) (ba) (tp) d (.slice b1 n1 d1) (.slice b5 rn d5) fin ft fa _ rfl HL.out.1) rfl ⟨_, _, _, _, _, _, rfl, HL.out.2.1, HL.out.2.2.1, fun k hk => by have := HF6.out.fu k hk; omega, fun k hk => by have := HF6.out.fv k hk; omega, HL.out.2.2.2⟩
  | true =>
    cases fin with
    | false =>
      rw [if_neg (by simp)] at hFT
      subst hFT
      have y0 := HF6.out.q.c0
      have y1 := HF6.out.q.c1
      have y2 := HF6.out.q.c2
      have y3 := HF6.out.q.c3
      have y4 := HF6.out.q.c4
      have y5 := HF6.out.q.c5
      have y6 := HF6.out.q.c6
      have y7 := HF6.out.q.c7
      simp only at y0 y1 y2 y5 y6 y7
      have yf := HF6.out.q.fz
      have q0 : W5.cell? ⟨w.heap.size + 1, 0, none⟩ = _ := Lib.cell_of_heap HF6.out.z 0
      have q1 : W5.cell? ⟨w.heap.size + 1, 1, none⟩ = _ := Lib.cell_of_heap HF6.out.z 1
      have q2 : W5.cell? ⟨w.heap.size + 1, 2, none⟩ = _ := Lib.cell_of_heap HF6.out.z 2
      have q3 : W5.cell? ⟨w.heap.size + 1, 3, none⟩ = _ := Lib.cell_of_heap HF6.out.z 3
      have q4 : W5.cell? ⟨w.heap.size + 1, 4, none⟩ = _ := Lib.cell_of_heap HF6.out.z 4
      have q5 : W5.cell? ⟨w.heap.size + 1, 5, none⟩ = _ := Lib.cell_of_heap HF6.out.z 5
      have q6 : W5.cell? ⟨w.heap.size + 1, 6, none⟩ = _ := Lib.cell_of_heap HF6.out.z 6
      have q7 : W5.cell? ⟨w.heap.size + 1, 7, none⟩ = _ := Lib.cell_of_heap HF6.out.z 7
      have qf : ∀ k, W5.frozen? ⟨w.heap.size + 1, k, none⟩ = false := fun k => Lib.frozen_of_heap HF6.out.z k
      have hne : ¬ B = w.heap.size + 1 := by have := HF6.out.hB; omega
      have hne' : ¬ w.heap.size + 1 = B := by omega
      have HL := Lib.hid HF6.out.laid
      go_wp2_with fail
      exact bodyPost_ret (results_st Try.results18 _ (w.heap.size + 1) (ba) (tp) d (.slice b1 n1 d1) (.slice b5 rn d5) false ft fa _ rfl HL.out.1) rfl ⟨_, _, _, _, _, _, rfl, HL.out.2.1, HL.out.2.2.1, fun k hk => by have := HF6.out.fu k hk; omega, fun k hk => by have := HF6.out.fv k hk; omega, HL.out.2.2.2⟩
    | true =>
      cases fa with
      | true =>
        rw [if_neg (by simp)] at hFT
        subst hFT
        have y0 := HF6.out.q.c0
        have y1 := HF6.out.q.c1
        have y2 := HF6.out.q.c2
        have y3 := HF6.out.q.c3
        have y4 := HF6.out.q.c4
        have y5 := HF6.out.q.c5
        have y6 := HF6.out.q.c6
        have y7 := HF6.out.q.c7
        simp only at y0 y1 y2 y5 y6 y7
        have yf := HF6.out.q.fz
        have q0 : W5.cell? ⟨w.heap.size + 1, 0, none⟩ = _ := Lib.cell_of_heap HF6.out.z 0
        have q1 : W5.cell? ⟨w.heap.size + 1, 1, none⟩ = _ := Lib.cell_of_heap HF6.out.z 1
        have q2 : W5.cell? ⟨w.heap.size + 1, 2, none⟩ = _ := Lib.cell_of_heap HF6.out.z 2
        have q3 : W5.cell? ⟨w.heap.size + 1, 3, none⟩ = _ := Lib.cell_of_heap HF6.out.z 3
        have q4 : W5.cell? ⟨w.heap.size + 1, 4, none⟩ = _ := Lib.cell_of_heap HF6.out.z 4
        have q5 : W5.cell? ⟨w.heap.size + 1, 5, none⟩ = _ := Lib.cell_of_heap HF6.out.z 5
        have q6 : W5.cell? ⟨w.heap.size + 1, 6, none⟩ = _ := Lib.cell_of_heap HF6.out.z 6
        have q7 : W5.cell? ⟨w.heap.size + 1, 7, none⟩ = _ := Lib.cell_of_heap HF6.out.z 7
        have qf : ∀ k, W5.frozen? ⟨w.heap.size + 1, k, none⟩ = false := fun k => Lib.frozen_of_heap HF6.out.z k
        have hne : ¬ B = w.heap.size + 1 := by have := HF6.out.hB; omega
        have hne' : ¬ w.heap.size + 1 = B := by omega
        have HL := Lib.hid HF6.out.laid
        go_wp2_with fail
        exact bodyPost_ret (results_st Try.results18 _ (w.heap.size + 1) (ba) (tp) d (.slice b1 n1 d1) (.slice b5 rn d5) true ft true _ rfl HL.out.1) rfl ⟨_, _, _, _, _, _, rfl, HL.out.2.1, HL.out.2.2.1, fun k hk => by have := HF6.out.fu k hk; omega, fun k hk => by have := HF6.out.fv k hk; omega, HL.out.2.2.2⟩
      | false =>
        rw [if_pos (by simp)] at hFT
        subst hFT
        have y0 := HF6.out.q.c0
        have y1 := HF6.out.q.c1
        have y2 := HF6.out.q.c2
        have y3 := HF6.out.q.c3
        have y4 := HF6.out.q.c4
        have y5 := HF6.out.q.c5
        have y6 := HF6.out.q.c6
        have y7 := HF6.out.q.c7
        simp only at y0 y1 y2 y5 y6 y7
        have yf := HF6.out.q.fz
        have HF7 := Lib.hid (HF6.out.s6 true)
        simp only at HF7
        have q0 : W5.cell? ⟨w.heap.size + 1, 0, none⟩ = _ := Lib.cell_of_heap HF6.out.z 0
        have q1 : W5.cell? ⟨w.heap.size + 1, 1, none⟩ = _ := Lib.cell_of_heap HF6.out.z 1
        have q2 : W5.cell? ⟨w.heap.size + 1, 2, none⟩ = _ := Lib.cell_of_heap HF6.out.z 2
        have q3 : W5.cell? ⟨w.heap.size + 1, 3, none⟩ = _ := Lib.cell_of_heap HF6.out.z 3
        have q4 : W5.cell? ⟨w.heap.size + 1, 4, none⟩ = _ := Lib.cell_of_heap HF6.out.z 4
        have q5 : W5.cell? ⟨w.heap.size + 1, 5, none⟩ = _ := Lib.cell_of_heap HF6.out.z 5
        have q6 : W5.cell? ⟨w.heap.size + 1, 6, none⟩ = _ := Lib.cell_of_heap HF6.out.z 6
        have q7 : W5.cell? ⟨w.heap.size + 1, 7, none⟩ = _ := Lib.cell_of_heap HF6.out.z 7
        have qf : ∀ k, W5.frozen? ⟨w.heap.size + 1, k, none⟩ = false := fun k => Lib.frozen_of_heap HF6.out.z k
        have hne : ¬ B = w.heap.size + 1 := by have := HF6.out.hB; omega
        have hne' : ¬ w.heap.size + 1 = B := by omega
        have HL := Lib.hid HF7.out.laid
        go_wp2_with fail
        exact bodyPost_ret (results_st Try.results18 _ (w.heap.size + 1) (ba) (tp) d (.slice b1 n1 d1) (.slice b5 rn d5) true true false _ rfl HL.out.1) rfl ⟨_, _, _, _, _, _, rfl, HL.out.2.1, HL.out.2.2.1, fun k hk => by have := HF7.out.fu k hk; omega, fun k hk => by have := HF7.out.fv k hk; omega, HL.out.2.2.2⟩
set_option maxHeartbeats 8000000 in
theorem acked_any (s : SS) (a1 : Option Addr) (n1 c1 : Nat) (a2 : Option Addr) (n2 c2 : Nat) (off n : Int) (f : Bool) (w : World) (hs : SsOk s) (hl1 : n1 ≤ 100) (hl2 : n2 ≤ 100) (ha : Rd w (.slice a1 n1 c1) s.ak) (ht : Rd w (.slice a2 n2 c2) s.td) (h2 : 0 ≤ off) (h3 : off + max n 0 < 18446744073709551616) (hlu : (unL s.ak (plS s off n)).length ≤ 100) :
    Calls Try.prog 20 #[.agg #[.int .u64 s.ba, .int .u64 s.tp, .string s.d, .slice a1 n1 c1, .slice a2 n2 c2, .bool s.fin, .bool s.ft, .bool s.fa], .int .u64 off, .int .i64 n, .bool f] w (Gv w (ackS s off n f)) := by
  have hm1 := rd_len ha
  have hm2 := rd_len ht
  have CO := Lib.hid (fun W (k1 : Rd W (.slice a1 n1 c1) s.ak) (k2 : Rd W (.slice a2 n2 c2) s.td) => ofq_any s a1 n1 c1 a2 n2 c2 W (by omega) (by omega) k1 k2)
  rw [← hm1, ← hm2] at CO
  have HB0 : Hid (Below w.heap.size w ((w.alloc (.cells #[.int .u64 s.ba, .int .u64 s.tp, .string s.d, .slice a1 n1 c1, .slice a2 n2 c2, .bool s.fin, .bool s.ft, .bool s.fa] 29)).alloc (.cells #[.int .u64 0, .int .u64 0, .string ⟨#[]⟩, .slice none 0 0, .slice none 0 0, .bool false, .bool false, .bool false] 29))) := Lib.hid (((Below.refl _ w).alloc (Nat.le_refl _) _).alloc (by simp) _)
  have HZ : Hid (Z8 ((w.alloc (.cells #[.int .u64 s.ba, .int .u64 s.tp, .string s.d, .slice a1 n1 c1, .slice a2 n2 c2, .bool s.fin, .bool s.ft, .bool s.fa] 29)).alloc (.cells #[.int .u64 0, .int .u64 0, .string ⟨#[]⟩, .slice none 0 0, .slice none 0 0, .bool false, .bool false, .bool false] 29)) (w.heap.size + 1)) := Lib.hid (by
    have h := heap_alloc_new (w.alloc (.cells #[.int .u64 s.ba, .int .u64 s.tp, .string s.d, .slice a1 n1 c1, .slice a2 n2 c2, .bool s.fin, .bool s.ft, .bool s.fa] 29)) (.cells #[.int .u64 0, .int .u64 0, .string ⟨#[]⟩, .slice none 0 0, .slice none 0 0, .bool false, .bool false, .bool false] 29)
    rw [World.size_alloc] at h
    exact h)
  have HA0 := Lib.hid (ha.go HB0.out)
  have HT0 := Lib.hid (ht.go HB0.out)
  obtain ⟨P1, P2, hP⟩ : ∃ P1 P2, plS s off n = (P1, P2) := ⟨_, _, rfl⟩
  have hgd := pl_good hs off n
  rw [hP] at hgd
  have CP := Lib.hid (fun (b1 : Option Addr) (d1 : Nat) (b2 : Option Addr) (d2 : Nat) W (k1 : Rd W (.slice b1 n1 d1) s.ak) (k2 : Rd W (.slice b2 n2 d2) s.td) => places_any s (.slice b1 n1 d1) (.slice b2 n2 d2) off n P1 P2 W hs.b0 hs.b1 k1 k2 h2 h3 hP)
  have CC := Lib.hid (fun (b2 : Option Addr) (d2 : Nat) W (k : Rd W (.slice b2 n2 d2) s.td) => cut_sets b2 n2 d2 s.td P1 P2 W hl2 hs.ct hgd.1 hgd.2 k)
  unfold Sets at CC
  rw [hP] at hlu
  have CA := Lib.hid (fun (b1 : Option Addr) (d1 : Nat) W (k : Rd W (.slice b1 n1 d1) s.ak) => add_sets b1 n1 d1 s.ak P1 P2 W (by omega) hs.ca hgd.1 hgd.2 k)
  unfold Sets at CA
  have hmid : Mid ⟨s.ba, s.tp, s.d, unL s.ak (P1, P2), cuL s.td (P1, P2), s.fin, s.ft, s.fa⟩ := by have h := came_mid hs off n; unfold came at h; rw [hP] at h; exact h
  have CG := Lib.hid (fun (B : Nat) (b1 : Option Addr) (d1 : Nat) (b2 : Option Addr) (m2 d2 : Nat) W (h : Qb 73 W B (.slice b1 (unL s.ak (P1, P2)).length d1) (.slice b2 m2 d2) ⟨s.ba, s.tp, s.d, unL s.ak (P1, P2), cuL s.td (P1, P2), s.fin, s.ft, s.fa⟩) => goOn_any B ⟨s.ba, s.tp, s.d, unL s.ak (P1, P2), cuL s.td (P1, P2), s.fin, s.ft, s.fa⟩ b1 _ d1 b2 m2 d2 W hmid (by omega) h)
  unfold ackS came
  rw [hP]
  clear hl1 hl2 ha ht hm1 hm2 hs h2 h3 hgd hP hmid hlu
  obtain ⟨G, hG⟩ : ∃ g, goS ⟨s.ba, s.tp, s.d, unL s.ak (P1, P2), cuL s.td (P1, P2), s.fin, s.ft, s.fa⟩ = g := ⟨_, rfl⟩
  rw [hG] at CG
  rw [show goS { s with ak := unL s.ak (P1, P2), td := cuL s.td (P1, P2) } = G from hG]
  clear hG
  obtain ⟨gb, gt, gd, ga, gtd, gf, gft, gfa⟩ := G
  obtain ⟨ba, tp, d, ak, td, fin, ft, fa⟩ := s
  obtain ⟨C, hC⟩ : ∃ l, cuL td (P1, P2) = l := ⟨_, rfl⟩
  obtain ⟨A, hA⟩ : ∃ l, unL ak (P1, P2) = l := ⟨_, rfl⟩
  simp only at CO HB0 HZ HA0 HT0 CP CC CA CG ⊢
  rw [hC] at CC CG
  rw [hA] at CA CG
  obtain ⟨cn, hcn⟩ : ∃ n, C.length = n := ⟨_, rfl⟩
  rw [hcn] at CC
  obtain ⟨an, han⟩ : ∃ n, A.length = n := ⟨_, rfl⟩
  rw [han] at CA CG
  obtain ⟨gn, hgn⟩ : ∃ n, ga.length = n := ⟨_, rfl⟩
  rw [hgn] at CG
  unfold endS
  simp only
  obtain ⟨FT, hFT⟩ : ∃ x, (if f = true ∧ gf = true then false else gft) = x := ⟨_, rfl⟩
  obtain ⟨FA, hFA⟩ : ∃ x, (if f = true ∧ gf = true then true else gfa) = x := ⟨_, rfl⟩
  rw [hFT, hFA]
  replace hFT := Lib.hid hFT
  replace hFA := Lib.hid hFA
  clear hC hA hcn han hgn
  go_enter Try.func20, Try.ntmps20
  go_wp2_with fail
  refine (CO.out _ HA0.out HT0.out).mono ?_
  rintro e w1 ⟨b1, d1, b2, d2, B, rfl, hB, hq, k1, k2, hb⟩
  have HF1 : Hid (FR w w1 B (.slice b1 n1 d1) (.slice b2 n2 d2) ⟨ba, tp, d, ak, td, fin, ft, fa⟩) := Lib.hid ⟨hq, HZ.out.go hb, nextG HB0.out hb, by simp at hB; omega, fun k hk => by have := k1 k hk; simp at this; omega, fun k hk => by have := k2 k hk; simp at this; omega⟩
  clear hB hq k1 k2 hb HB0 HZ HA0 HT0 CO
  have y0 := HF1.out.q.c0
  have y1 := HF1.out.q.c1
  have y2 := HF1.out.q.c2
  have y3 := HF1.out.q.c3
  have y4 := HF1.out.q.c4
  have y5 := HF1.out.q.c5
  have y6 := HF1.out.q.c6
  have y7 := HF1.out.q.c7
  simp only at y0 y1 y2 y5 y6 y7
  have yf := HF1.out.q.fz
  go_wp2_with fail
  refine (CP.out _ _ _ _ _ HF1.out.q.ra HF1.out.q.rt).mono ?_
  rintro e w2 ⟨rfl, hb⟩
  have HF2 := Lib.hid (HF1.out.go hb)
  clear hb y0 y1 y2 y3 y4 y5 y6 y7 yf
  have HF3 := Lib.hid (And.intro (HF2.out.al (.cells #[.int .u64 P1, .int .u64 P2] 68)).dr ((bk2_made w2 68 (.int .u64 P1) (.int .u64 P2)).go (Below.refl _ _).drew))
  go_wp2_with fail
  refine wp_region_noPanic ?_
  refine wp_region_E (fun W : World => FR w W B (.slice b1 n1 d1) (.slice b2 n2 d2) ⟨ba, tp, d, ak, td, fin, ft, fa⟩ ∧ Bk2 W w2.heap.size 68 (.int .u64 P1) (.int .u64 P2)) (fun j => Nat.ble 16 j) (by kernel_rfl) ?_ (fun hHeld => ?_)
  · exact HF3.out
  refine wpAnyE_take (i := 0) (v := ?_) rfl (by kernel_rfl) (by kernel_rfl) (by kernel_rfl) (fun _ _ _ h => h) (Or.inl ⟨by rfl, ?_⟩) ?_
  rotate_left
  · (intro w hSw; go_simp; (try with_reducible rfl))
  try simp only [Act.put, List.getElem_toArray, List.getElem_cons_zero, List.getElem_cons_succ, List.setIfInBounds_toArray, List.set_cons_zero, List.set_cons_succ]
  refine wpAnyE_take (i := 1) (v := ?_) rfl (by kernel_rfl) (by kernel_rfl) (by kernel_rfl) (fun _ _ _ h => h) (Or.inl ⟨by rfl, ?_⟩) ?_
  rotate_left
  · (intro w hSw; go_simp; (try with_reducible rfl))
  try simp only [Act.put, List.getElem_toArray, List.getElem_cons_zero, List.getElem_cons_succ, List.setIfInBounds_toArray, List.set_cons_zero, List.set_cons_succ]
  refine wpAnyE_take (i := 2) (v := ?_) rfl (by kernel_rfl) (by kernel_rfl) (by kernel_rfl) (fun _ _ _ h => h) (Or.inl ⟨by rfl, ?_⟩) ?_
  rotate_left
  · (intro w hSw; go_simp; (try with_reducible rfl))
  try simp only [Act.put, List.getElem_toArray, List.getElem_cons_zero, List.getElem_cons_succ, List.setIfInBounds_toArray, List.set_cons_zero, List.set_cons_succ]
  refine wpAnyE_take (i := 3) (v := ?_) rfl (by kernel_rfl) (by kernel_rfl) (by kernel_rfl) (fun _ _ _ h => h) (Or.inl ⟨by rfl, ?_⟩) ?_
  rotate_left
  · (intro w hSw; go_simp; (try with_reducible rfl))
  try simp only [Act.put, List.getElem_toArray, List.getElem_cons_zero, List.getElem_cons_succ, List.setIfInBounds_toArray, List.set_cons_zero, List.set_cons_succ]
  refine wpAnyE_take (i := 4) (v := ?_) rfl (by kernel_rfl) (by kernel_rfl) (by kernel_rfl) (fun _ _ _ h => h) (Or.inl ⟨by rfl, ?_⟩) ?_
  rotate_left
  · (intro w hSw; go_simp; (try with_reducible rfl))
  try simp only [Act.put, List.getElem_toArray, List.getElem_cons_zero, List.getElem_cons_succ, List.setIfInBounds_toArray, List.set_cons_zero, List.set_cons_succ]
  refine wpAnyE_take (i := 5) (v := ?_) rfl (by kernel_rfl) (by kernel_rfl) (by kernel_rfl) (fun _ _ _ h => h) (Or.inl ⟨by rfl, ?_⟩) ?_
  rotate_left
  · (intro w hSw; go_simp; (try with_reducible rfl))
  try simp only [Act.put, List.getElem_toArray, List.getElem_cons_zero, List.getElem_cons_succ, List.setIfInBounds_toArray, List.set_cons_zero, List.set_cons_succ]
  refine wpAnyE_load (i := 6) (v := ?_) rfl (by kernel_rfl) (by kernel_rfl) (by kernel_rfl) (by kernel_rfl) (fun _ _ _ h => h) (Or.inl ⟨by rfl, ?_⟩) (by assumption) ?_
  rotate_left
  · (intro w hSw; (have k0 := hSw.1.q.c0; have k1 := hSw.1.q.c1; have k2 := hSw.1.q.c2; have k3 := hSw.1.q.c3; have k4 := hSw.1.q.c4; have k5 := hSw.1.q.c5; have k6 := hSw.1.q.c6; have k7 := hSw.1.q.c7; simp only at k0 k1 k2 k5 k6 k7; have e0 := hSw.2.c0; have e1 := hSw.2.c1); go_simp; (try with_reducible rfl))
  try simp only [Act.put, List.getElem_toArray, List.getElem_cons_zero, List.getElem_cons_succ, List.setIfInBounds_toArray, List.set_cons_zero, List.set_cons_succ]
  refine wpAnyE_load (i := 7) (v := ?_) rfl (by kernel_rfl) (by kernel_rfl) (by kernel_rfl) (by kernel_rfl) (fun _ _ _ h => h) (Or.inl ⟨by rfl, ?_⟩) (by assumption) ?_
  rotate_left
  · (intro w hSw; (have k0 := hSw.1.q.c0; have k1 := hSw.1.q.c1; have k2 := hSw.1.q.c2; have k3 := hSw.1.q.c3; have k4 := hSw.1.q.c4; have k5 := hSw.1.q.c5; have k6 := hSw.1.q.c6; have k7 := hSw.1.q.c7; simp only at k0 k1 k2 k5 k6 k7; have e0 := hSw.2.c0; have e1 := hSw.2.c1); go_simp; (try with_reducible rfl))
  try simp only [Act.put, List.getElem_toArray, List.getElem_cons_zero, List.getElem_cons_succ, List.setIfInBounds_toArray, List.set_cons_zero, List.set_cons_succ]
  refine wpAnyE_take (i := 9) (v := ?_) rfl (by kernel_rfl) (by kernel_rfl) (by kernel_rfl) (fun _ _ _ h => h) (Or.inl ⟨by rfl, ?_⟩) ?_
  rotate_left
  · (intro w hSw; go_simp; (try with_reducible rfl))
  try simp only [Act.put, List.getElem_toArray, List.getElem_cons_zero, List.getElem_cons_succ, List.setIfInBounds_toArray, List.set_cons_zero, List.set_cons_succ]
  refine wpAnyE_take (i := 10) (v := ?_) rfl (by kernel_rfl) (by kernel_rfl) (by kernel_rfl) (fun _ _ _ h => h) (Or.inl ⟨by rfl, ?_⟩) ?_
  rotate_left
  · (intro w hSw; go_simp; (try with_reducible rfl))
  try simp only [Act.put, List.getElem_toArray, List.getElem_cons_zero, List.getElem_cons_succ, List.setIfInBounds_toArray, List.set_cons_zero, List.set_cons_succ]
  refine wpAnyE_take (i := 11) (v := ?_) rfl (by kernel_rfl) (by kernel_rfl) (by kernel_rfl) (fun _ _ _ h => h) (Or.inl ⟨by rfl, ?_⟩) ?_
  rotate_left
  · (intro w hSw; go_simp; (try with_reducible rfl))
  try simp only [Act.put, List.getElem_toArray, List.getElem_cons_zero, List.getElem_cons_succ, List.setIfInBounds_toArray, List.set_cons_zero, List.set_cons_succ]
  refine wpAnyE_take (i := 12) (v := ?_) rfl (by kernel_rfl) (by kernel_rfl) (by kernel_rfl) (fun _ _ _ h => h) (Or.inl ⟨by rfl, ?_⟩) ?_
  rotate_left
  · (intro w hSw; go_simp; (try with_reducible rfl))
  try simp only [Act.put, List.getElem_toArray, List.getElem_cons_zero, List.getElem_cons_succ, List.setIfInBounds_toArray, List.set_cons_zero, List.set_cons_succ]
  refine wpAnyE_load (i := 13) (v := ?_) rfl (by kernel_rfl) (by kernel_rfl) (by kernel_rfl) (by kernel_rfl) (fun _ _ _ h => h) (Or.inl ⟨by rfl, ?_⟩) (by assumption) ?_
  rotate_left
  · (intro w hSw; (have k0 := hSw.1.q.c0; have k1 := hSw.1.q.c1; have k2 := hSw.1.q.c2; have k3 := hSw.1.q.c3; have k4 := hSw.1.q.c4; have k5 := hSw.1.q.c5; have k6 := hSw.1.q.c6; have k7 := hSw.1.q.c7; simp only at k0 k1 k2 k5 k6 k7; have e0 := hSw.2.c0; have e1 := hSw.2.c1); go_simp; (try with_reducible rfl))
  try simp only [Act.put, List.getElem_toArray, List.getElem_cons_zero, List.getElem_cons_succ, List.setIfInBounds_toArray, List.set_cons_zero, List.set_cons_succ]
  refine wpAnyE_load (i := 14) (v := ?_) rfl (by kernel_rfl) (by kernel_rfl) (by kernel_rfl) (by kernel_rfl) (fun _ _ _ h => h) (Or.inl ⟨by rfl, ?_⟩) (by assumption) ?_
  rotate_left
  · (intro w hSw; (have k0 := hSw.1.q.c0; have k1 := hSw.1.q.c1; have k2 := hSw.1.q.c2; have k3 := hSw.1.q.c3; have k4 := hSw.1.q.c4; have k5 := hSw.1.q.c5; have k6 := hSw.1.q.c6; have k7 := hSw.1.q.c7; simp only at k0 k1 k2 k5 k6 k7; have e0 := hSw.2.c0; have e1 := hSw.2.c1); go_simp; (try with_reducible rfl))
  try simp only [Act.put, List.getElem_toArray, List.getElem_cons_zero, List.getElem_cons_succ, List.setIfInBounds_toArray, List.set_cons_zero, List.set_cons_succ]
  refine wpAnyE_call (i := 8) (by kernel_rfl) rfl (by rfl) (fun K hK => ?_)
  go_simp
  refine (CA.out _ _ _ HF3.out.1.q.ra).mono ?_
  rintro e w4 ⟨b3, d3, rfl, hr, hk, hb⟩
  have HU := Lib.hid hr
  have KU := Lib.hid hk
  have HF4 := Lib.hid (And.intro (HF3.out.1.go hb) (HF3.out.2.go hb))
  clear hr hk hb
  refine hK.out _ _ ?_ (fun hHeld => ?_)
  · exact HF4.out
  clear hK K
  try simp only [Act.put, List.getElem_toArray, List.getElem_cons_zero, List.getElem_cons_succ, List.setIfInBounds_toArray, List.set_cons_zero, List.set_cons_succ]
  refine wpAnyE_call (i := 15) (by kernel_rfl) rfl (by rfl) (fun K hK => ?_)
  go_simp
  refine (CC.out _ _ _ HF4.out.1.q.rt).mono ?_
  rintro e w5 ⟨b4, d4, rfl, hr, hk, hb⟩
  have HV := Lib.hid hr
  have KV := Lib.hid hk
  have HF5 := Lib.hid (And.intro (HF4.out.1.go hb) (HF4.out.2.go hb))
  replace HU := Lib.hid (HU.out.go hb)
  clear hr hk hb
  have z0 := HF5.out.1.q.c0
  have z1 := HF5.out.1.q.c1
  have z2 := HF5.out.1.q.c2
  have z3 := HF5.out.1.q.c3
  have z4 := HF5.out.1.q.c4
  have z5 := HF5.out.1.q.c5
  have z6 := HF5.out.1.q.c6
  have z7 := HF5.out.1.q.c7
  simp only at z0 z1 z2 z5 z6 z7
  have zf := HF5.out.1.q.fz
  refine hK.out _ _ ?_ (fun hHeld => ?_)
  · exact HF5.out
  clear hK K
  try simp only [Act.put, List.getElem_toArray, List.getElem_cons_zero, List.getElem_cons_succ, List.setIfInBounds_toArray, List.set_cons_zero, List.set_cons_succ]
  refine wpAnyE_take (i := 16) (v := ?_) rfl (by kernel_rfl) (by kernel_rfl) (by kernel_rfl) (fun _ _ _ h => h) (Or.inl ⟨by rfl, ?_⟩) ?_
  rotate_left
  · (intro w hSw; go_simp; (try with_reducible rfl))
  try simp only [Act.put, List.getElem_toArray, List.getElem_cons_zero, List.getElem_cons_succ, List.setIfInBounds_toArray, List.set_cons_zero, List.set_cons_succ]
  refine wpAnyE_take (i := 17) (v := ?_) rfl (by kernel_rfl) (by kernel_rfl) (by kernel_rfl) (fun _ _ _ h => h) (Or.inl ⟨by rfl, ?_⟩) ?_
  rotate_left
  · (intro w hSw; go_simp; (try with_reducible rfl))
  try simp only [Act.put, List.getElem_toArray, List.getElem_cons_zero, List.getElem_cons_succ, List.setIfInBounds_toArray, List.set_cons_zero, List.set_cons_succ]
  refine wpAnyE_take (i := 18) (v := ?_) rfl (by kernel_rfl) (by kernel_rfl) (by kernel_rfl) (fun _ _ _ h => h) (Or.inl ⟨by rfl, ?_⟩) ?_
  rotate_left
  · (intro w hSw; go_simp; (try with_reducible rfl))
  try simp only [Act.put, List.getElem_toArray, List.getElem_cons_zero, List.getElem_cons_succ, List.setIfInBounds_toArray, List.set_cons_zero, List.set_cons_succ]
  refine wpAnyE_store (i := 19) (by kernel_rfl) rfl (by rfl) (by rfl) (fun K hK => ?_)
  go_simp
  refine hK.out _ _ ?_
  clear hK K
  try simp only [Act.put, List.getElem_toArray, List.getElem_cons_zero, List.getElem_cons_succ, List.setIfInBounds_toArray, List.set_cons_zero, List.set_cons_succ]
  refine wpAnyE_take (i := 20) (v := ?_) rfl (by kernel_rfl) (by kernel_rfl) (by kernel_rfl) (fun _ _ _ h => h) (Or.inl ⟨by rfl, ?_⟩) ?_
  rotate_left
  · (intro w hSw; go_simp; (try with_reducible rfl))
  try simp only [Act.put, List.getElem_toArray, List.getElem_cons_zero, List.getElem_cons_succ, List.setIfInBounds_toArray, List.set_cons_zero, List.set_cons_succ]
  refine wpAnyE_take (i := 21) (v := ?_) rfl (by kernel_rfl) (by kernel_rfl) (by kernel_rfl) (fun _ _ _ h => h) (Or.inl ⟨by rfl, ?_⟩) ?_
  rotate_left
  · (intro w hSw; go_simp; (try with_reducible rfl))
  try simp only [Act.put, List.getElem_toArray, List.getElem_cons_zero, List.getElem_cons_succ, List.setIfInBounds_toArray, List.set_cons_zero, List.set_cons_succ]
  refine wpAnyE_take (i := 22) (v := ?_) rfl (by kernel_rfl) (by kernel_rfl) (by kernel_rfl) (fun _ _ _ h => h) (Or.inl ⟨by rfl, ?_⟩) ?_
  rotate_left
  · (intro w hSw; go_simp; (try with_reducible rfl))
  try simp only [Act.put, List.getElem_toArray, List.getElem_cons_zero, List.getElem_cons_succ, List.setIfInBounds_toArray, List.set_cons_zero, List.set_cons_succ]
  refine wpAnyE_store (i := 23) (by kernel_rfl) rfl (by rfl) (by rfl) (fun K hK => ?_)
  go_simp
  refine hK.out _ _ ?_
  clear hK K
  try simp only [Act.put, List.getElem_toArray, List.getElem_cons_zero, List.getElem_cons_succ, List.setIfInBounds_toArray, List.set_cons_zero, List.set_cons_succ]
  refine wpAnyE_done (by kernel_rfl) (NoPanic.normal ?_) _
  have N1 : ¬ Blk (.slice b3 an d3) B := fun hk => by have := KU.out _ hk; have := HF3.out.1.q.lt; omega
  have N2 : ¬ Blk (.slice b4 cn d4) B := fun hk => by have := KV.out _ hk; have := HF4.out.1.q.lt; omega
  have HF6 := Lib.hid ((HF5.out.1.s3 HU.out (fun k hk => by have := KU.out k hk; have := HF3.out.1.hB; have := HF3.out.1.q.lt; omega) N1).s4 (rd_set HV.out N2 _) (fun k hk => by have := KV.out k hk; have := HF4.out.1.hB; have := HF4.out.1.q.lt; omega) N2)
  simp only at HF6
  clear N1 N2 z0 z1 z2 z3 z4 z5 z6 z7 zf
  generalize (w5.setCell _ _).setCell _ _ = W6 at *
  go_wp2_with fail
  refine (CG.out _ _ _ _ _ _ _ HF6.out.q).mono ?_
  rintro e w7 ⟨rfl, b5, d5, hq, hk⟩
  have HF7 := Lib.hid (HF6.out.only hq (fun k hk' => by have := hk k hk'; have := HF6.out.hB; have := HF6.out.q.lt; omega) HF6.out.fv)
  clear hq hk
  replace hFT := hFT.out
  replace hFA := hFA.out
  cases f with
  | false =>
    rw [if_neg (by simp)] at hFT hFA
    subst hFT hFA
    have y0 := HF7.out.q.c0
    have y1 := HF7.out.q.c1
    have y2 := HF7.out.q.c2
    have y3 := HF7.out.q.c3
    have y4 := HF7.out.q.c4
    have y5 := HF7.out.q.c5
    have y6 := HF7.out.q.c6
    have y7 := HF7.out.q.c7
    simp only at y0 y1 y2 y5 y6 y7
    have yf := HF7.out.q.fz
    have q0 : w7.cell? ⟨w.heap.size + 1, 0, none⟩ = _ := Lib.cell_of_heap HF7.out.z 0
    have q1 : w7.cell? ⟨w.heap.size + 1, 1, none⟩ = _ := Lib.cell_of_heap HF7.out.z 1
    have q2 : w7.cell? ⟨w.heap.size + 1, 2, none⟩ = _ := Lib.cell_of_heap HF7.out.z 2
    have q3 : w7.cell? ⟨w.heap.size + 1, 3, none⟩ = _ := Lib.cell_of_heap HF7.out.z 3
    have q4 : w7.cell? ⟨w.heap.size + 1, 4, none⟩ = _ := Lib.cell_of_heap HF7.out.z 4
    have q5 : w7.cell? ⟨w.heap.size + 1, 5, none⟩ = _ := Lib.cell_of_heap HF7.out.z 5
    have q6 : w7.cell? ⟨w.heap.size + 1, 6, none⟩ = _ := Lib.cell_of_heap HF7.out.z 6
    have q7 : w7.cell? ⟨w.heap.size + 1, 7, none⟩ = _ := Lib.cell_of_heap HF7.out.z 7
    have qf : ∀ k, w7.frozen? ⟨w.heap.size + 1, k, none⟩ = false := fun k => Lib.frozen_of_heap HF7.out.z k
    have hne : ¬ B = w.heap.size + 1 := by have := HF7.out.hB; omega
    have hne' : ¬ w.heap.size + 1 = B := by omega
    have HL := Lib.hid HF7.out.laid
    go_wp2_with fail
    exact bodyPost_ret (results_st Try.results20 _ (w.heap.size + 1) (gb) (gt) gd (.slice b5 gn d5) (.slice b4 cn d4) gf gft gfa _ rfl HL.out.1) rfl ⟨_, _, _, _, _, _, rfl, HL.out.2.1, HL.out.2.2.1, fun k hk => by have := HF7.out.fu k hk; omega, fun k hk => by have := HF7.out.fv k hk; omega, HL.out.2.2.2⟩
  | true =>
    cases gf with
    | false =>
      rw [if_neg (by simp)] at hFT hFA
      subst hFT hFA
      have y0 := HF7.out.q.c0
      have y1 := HF7.out.q.c1
      have y2 := HF7.out.q.c2
      have y3 := HF7.out.q.c3
      have y4 := HF7.out.q.c4
      have y5 := HF7.out.q.c5
      have y6 := HF7.out.q.c6
      have y7 := HF7.out.q.c7
      simp only at y0 y1 y2 y5 y6 y7
      have yf := HF7.out.q.fz
      have q0 : w7.cell? ⟨w.heap.size + 1, 0, none⟩ = _ := Lib.cell_of_heap HF7.out.z 0
      have q1 : w7.cell? ⟨w.heap.size + 1, 1, none⟩ = _ := Lib.cell_of_heap HF7.out.z 1
      have q2 : w7.cell? ⟨w.heap.size + 1, 2, none⟩ = _ := Lib.cell_of_heap HF7.out.z 2
      have q3 : w7.cell? ⟨w.heap.size + 1, 3, none⟩ = _ := Lib.cell_of_heap HF7.out.z 3
      have q4 : w7.cell? ⟨w.heap.size + 1, 4, none⟩ = _ := Lib.cell_of_heap HF7.out.z 4
      have q5 : w7.cell? ⟨w.heap.size + 1, 5, none⟩ = _ := Lib.cell_of_heap HF7.out.z 5
      have q6 : w7.cell? ⟨w.heap.size + 1, 6, none⟩ = _ := Lib.cell_of_heap HF7.out.z 6
      have q7 : w7.cell? ⟨w.heap.size + 1, 7, none⟩ = _ := Lib.cell_of_heap HF7.out.z 7
      have qf : ∀ k, w7.frozen? ⟨w.heap.size + 1, k, none⟩ = false := fun k => Lib.frozen_of_heap HF7.out.z k
      have hne : ¬ B = w.heap.size + 1 := by have := HF7.out.hB; omega
      have hne' : ¬ w.heap.size + 1 = B := by omega
      have HL := Lib.hid HF7.out.laid
      go_wp2_with fail
      exact bodyPost_ret (results_st Try.results20 _ (w.heap.size + 1) (gb) (gt) gd (.slice b5 gn d5) (.slice b4 cn d4) false gft gfa _ rfl HL.out.1) rfl ⟨_, _, _, _, _, _, rfl, HL.out.2.1, HL.out.2.2.1, fun k hk => by have := HF7.out.fu k hk; omega, fun k hk => by have := HF7.out.fv k hk; omega, HL.out.2.2.2⟩
    | true =>
      rw [if_pos (by simp)] at hFT hFA
      subst hFT hFA
      have y0 := HF7.out.q.c0
      have y1 := HF7.out.q.c1
      have y2 := HF7.out.q.c2
      have y3 := HF7.out.q.c3
      have y4 := HF7.out.q.c4
      have y5 := HF7.out.q.c5
      have y6 := HF7.out.q.c6
      have y7 := HF7.out.q.c7
      simp only at y0 y1 y2 y5 y6 y7
      have yf := HF7.out.q.fz
      have HF8 := Lib.hid ((HF7.out.s7 true).s6 false)
      simp only at HF8
      have q0 : w7.cell? ⟨w.heap.size + 1, 0, none⟩ = _ := Lib.cell_of_heap HF7.out.z 0
      have q1 : w7.cell? ⟨w.heap.size + 1, 1, none⟩ = _ := Lib.cell_of_heap HF7.out.z 1
      have q2 : w7.cell? ⟨w.heap.size + 1, 2, none⟩ = _ := Lib.cell_of_heap HF7.out.z 2
      have q3 : w7.cell? ⟨w.heap.size + 1, 3, none⟩ = _ := Lib.cell_of_heap HF7.out.z 3
      have q4 : w7.cell? ⟨w.heap.size + 1, 4, none⟩ = _ := Lib.cell_of_heap HF7.out.z 4
      have q5 : w7.cell? ⟨w.heap.size + 1, 5, none⟩ = _ := Lib.cell_of_heap HF7.out.z 5
      have q6 : w7.cell? ⟨w.heap.size + 1, 6, none⟩ = _ := Lib.cell_of_heap HF7.out.z 6
      have q7 : w7.cell? ⟨w.heap.size + 1, 7, none⟩ = _ := Lib.cell_of_heap HF7.out.z 7
      have qf : ∀ k, w7.frozen? ⟨w.heap.size + 1, k, none⟩ = false := fun k => Lib.frozen_of_heap HF7.out.z k
      have hne : ¬ B = w.heap.size + 1 := by have := HF7.out.hB; omega
      have hne' : ¬ w.heap.size + 1 = B := by omega
      have HL := Lib.hid HF8.out.laid
      go_wp2_with fail
      exact bodyPost_ret (results_st Try.results20 _ (w.heap.size + 1) (gb) (gt) gd (.slice b5 gn d5) (.slice b4 cn d4) true false true _ rfl HL.out.1) rfl ⟨_, _, _, _, _, _, rfl, HL.out.2.1, HL.out.2.2.1, fun k hk => by have := HF8.out.fu k hk; omega, fun k hk => by have := HF8.out.fv k hk; omega, HL.out.2.2.2⟩
/-- What Write gives. -/
def GvN (w : World) (s : SS) (N : Int) (e : Ending) (w' : World) : Prop := ∃ a1 n1 d1 a2 n2 d2, e = .returned (.tuple #[.agg #[.int .u64 s.ba, .int .u64 s.tp, .string s.d, .slice a1 n1 d1, .slice a2 n2 d2, .bool s.fin, .bool s.ft, .bool s.fa], .int .i64 N]) ∧
  Rd w' (.slice a1 n1 d1) s.ak ∧ Rd w' (.slice a2 n2 d2) s.td ∧ (∀ k, Blk (.slice a1 n1 d1) k → w.heap.size ≤ k) ∧ (∀ k, Blk (.slice a2 n2 d2) k → w.heap.size ≤ k) ∧ Below w.heap.size w w'
theorem results_wr (tmps : Array Value) (g : Nat) (x0 x1 : Int) (x2 : ByteArray) (u v : Value) (x5 x6 x7 : Bool) (N : Int) (w : World) (hp : tmps.getD 6 undef = .pointer (some ⟨g, 0, none⟩)) (hu : tmps.getD 7 undef = .int .i64 N) (hc : w.heap[g]? = some (.cells #[.int .u64 x0, .int .u64 x1, .string x2, u, v, .bool x5, .bool x6, .bool x7] 29 (0, 0))) :
    (results Try.f12 tmps).run Try.prog w = .ok (.tuple #[.agg #[.int .u64 x0, .int .u64 x1, .string x2, u, v, .bool x5, .bool x6, .bool x7], .int .i64 N]) w := by
  have c0 : w.cell? ⟨g, 0, none⟩ = some (.int .u64 x0) := Lib.cell_of_heap hc 0
  have c1 : w.cell? ⟨g, 1, none⟩ = some (.int .u64 x1) := Lib.cell_of_heap hc 1
  have c2 : w.cell? ⟨g, 2, none⟩ = some (.string x2) := Lib.cell_of_heap hc 2
  have c3 : w.cell? ⟨g, 3, none⟩ = some (u) := Lib.cell_of_heap hc 3
  have c4 : w.cell? ⟨g, 4, none⟩ = some (v) := Lib.cell_of_heap hc 4
  have c5 : w.cell? ⟨g, 5, none⟩ = some (.bool x5) := Lib.cell_of_heap hc 5
  have c6 : w.cell? ⟨g, 6, none⟩ = some (.bool x6) := Lib.cell_of_heap hc 6
  have c7 : w.cell? ⟨g, 7, none⟩ = some (.bool x7) := Lib.cell_of_heap hc 7
  rw [results_cell_tmp Try.results12]
  simp only [hp, hu]
  go_simp
set_option maxHeartbeats 8000000 in
theorem write_any (s : SS) (a1 : Option Addr) (n1 c1 : Nat) (a2 : Option Addr) (n2 c2 : Nat) (D : ByteArray) (room : Int) (w : World) (hs : SsOk s) (hd : en s + (D.size : Int) ≤ 1000000) (hr : room < 9223372036854775808) (hl1 : n1 ≤ 100) (hl2 : n2 ≤ 100) (ha : Rd w (.slice a1 n1 c1) s.ak) (ht : Rd w (.slice a2 n2 c2) s.td) :
    Calls Try.prog 12 #[.agg #[.int .u64 s.ba, .int .u64 s.tp, .string s.d, .slice a1 n1 c1, .slice a2 n2 c2, .bool s.fin, .bool s.ft, .bool s.fa], .string D, .int .i64 room] w (GvN w (wrS s D room) (wrN s D room)) := by
  have hm1 := rd_len ha
  have hm2 := rd_len ht
  have CO := Lib.hid (fun W (k1 : Rd W (.slice a1 n1 c1) s.ak) (k2 : Rd W (.slice a2 n2 c2) s.td) => ofq_any s a1 n1 c1 a2 n2 c2 W (by omega) (by omega) k1 k2)
  rw [← hm1, ← hm2] at CO
  have HB0 : Hid (Below w.heap.size w ((w.alloc (.cells #[.int .u64 s.ba, .int .u64 s.tp, .string s.d, .slice a1 n1 c1, .slice a2 n2 c2, .bool s.fin, .bool s.ft, .bool s.fa] 29)).alloc (.cells #[.int .u64 0, .int .u64 0, .string ⟨#[]⟩, .slice none 0 0, .slice none 0 0, .bool false, .bool false, .bool false] 29))) := Lib.hid (((Below.refl _ w).alloc (Nat.le_refl _) _).alloc (by simp) _)
  have HZ : Hid (Z8 ((w.alloc (.cells #[.int .u64 s.ba, .int .u64 s.tp, .string s.d, .slice a1 n1 c1, .slice a2 n2 c2, .bool s.fin, .bool s.ft, .bool s.fa] 29)).alloc (.cells #[.int .u64 0, .int .u64 0, .string ⟨#[]⟩, .slice none 0 0, .slice none 0 0, .bool false, .bool false, .bool false] 29)) (w.heap.size + 1)) := Lib.hid (by
    have h := heap_alloc_new (w.alloc (.cells #[.int .u64 s.ba, .int .u64 s.tp, .string s.d, .slice a1 n1 c1, .slice a2 n2 c2, .bool s.fin, .bool s.ft, .bool s.fa] 29)) (.cells #[.int .u64 0, .int .u64 0, .string ⟨#[]⟩, .slice none 0 0, .slice none 0 0, .bool false, .bool false, .bool false] 29)
    rw [World.size_alloc] at h
    exact h)
  have HA0 := Lib.hid (ha.go HB0.out)
  have HT0 := Lib.hid (ht.go HB0.out)
  have hrg := wrN_range (s := s) (D := D) (room := room)
  have CR := Lib.hid (fun (b1 : Option Addr) (d1 : Nat) (b2 : Option Addr) (d2 : Nat) W => free_any s (.slice b1 n1 d1) (.slice b2 n2 d2) room W hs.b0 hs.b1 hr)
  have CL := Lib.hid (fun (B : Nat) (b1 : Option Addr) (d1 : Nat) (b2 : Option Addr) (d2 : Nat) W (h : Qb 73 W B (.slice b1 n1 d1) (.slice b2 n2 d2) s) => lay_any B s b1 n1 d1 b2 n2 d2 (D.extract 0 (wrN s D room).toNat) W hs (by rw [ext_size (by omega)]; omega) (by omega) h)
  rcases wr_cases s D room with ⟨hf, e1, e2⟩ | ⟨hf, e1, e2, e3⟩
  · rw [e1, e2]
    clear hl1 hl2 ha ht hm1 hm2 hs hd hr hrg CR CL e1 e2
    obtain ⟨ba, tp, d, ak, td, fin, ft, fa⟩ := s
    simp only at CO HB0 HZ HA0 HT0 hf ⊢
    subst hf
    go_enter Try.func12, Try.ntmps12
    go_wp2_with fail
    refine (CO.out _ HA0.out HT0.out).mono ?_
    rintro e w1 ⟨b1, d1, b2, d2, B, rfl, hB, hq, k1, k2, hb⟩
    have HF1 : Hid (FR w w1 B (.slice b1 n1 d1) (.slice b2 n2 d2) ⟨ba, tp, d, ak, td, true, ft, fa⟩) := Lib.hid ⟨hq, HZ.out.go hb, nextG HB0.out hb, by simp at hB; omega, fun k hk => by have := k1 k hk; simp at this; omega, fun k hk => by have := k2 k hk; simp at this; omega⟩
    clear hB hq k1 k2 hb HB0 HZ HA0 HT0 CO
    have y0 := HF1.out.q.c0
    have y1 := HF1.out.q.c1
    have y2 := HF1.out.q.c2
    have y3 := HF1.out.q.c3
    have y4 := HF1.out.q.c4
    have y5 := HF1.out.q.c5
    have y6 := HF1.out.q.c6
    have y7 := HF1.out.q.c7
    simp only at y0 y1 y2 y5 y6 y7
    have yf := HF1.out.q.fz
    have q0 : w1.cell? ⟨w.heap.size + 1, 0, none⟩ = _ := Lib.cell_of_heap HF1.out.z 0
    have q1 : w1.cell? ⟨w.heap.size + 1, 1, none⟩ = _ := Lib.cell_of_heap HF1.out.z 1
    have q2 : w1.cell? ⟨w.heap.size + 1, 2, none⟩ = _ := Lib.cell_of_heap HF1.out.z 2
    have q3 : w1.cell? ⟨w.heap.size + 1, 3, none⟩ = _ := Lib.cell_of_heap HF1.out.z 3
    have q4 : w1.cell? ⟨w.heap.size + 1, 4, none⟩ = _ := Lib.cell_of_heap HF1.out.z 4
    have q5 : w1.cell? ⟨w.heap.size + 1, 5, none⟩ = _ := Lib.cell_of_heap HF1.out.z 5
    have q6 : w1.cell? ⟨w.heap.size + 1, 6, none⟩ = _ := Lib.cell_of_heap HF1.out.z 6
    have q7 : w1.cell? ⟨w.heap.size + 1, 7, none⟩ = _ := Lib.cell_of_heap HF1.out.z 7
    have qf : ∀ k, w1.frozen? ⟨w.heap.size + 1, k, none⟩ = false := fun k => Lib.frozen_of_heap HF1.out.z k
    have hne : ¬ B = w.heap.size + 1 := by have := HF1.out.hB; omega
    have hne' : ¬ w.heap.size + 1 = B := by omega
    have HL := Lib.hid HF1.out.laid
    go_wp2_with fail
    exact bodyPost_ret (results_wr _ (w.heap.size + 1) (ba) (tp) d (.slice b1 n1 d1) (.slice b2 n2 d2) true ft fa (0) _ rfl rfl HL.out.1) rfl ⟨_, _, _, _, _, _, rfl, HL.out.2.1, HL.out.2.2.1, fun k hk => by have := HF1.out.fu k hk; omega, fun k hk => by have := HF1.out.fv k hk; omega, HL.out.2.2.2⟩
  · rw [e1]
    obtain ⟨FR', hFR⟩ : ∃ x, frS s room = x := ⟨_, rfl⟩
    rw [hFR] at CR e3
    obtain ⟨N, hN⟩ : ∃ x, wrN s D room = x := ⟨_, rfl⟩
    rw [hN] at CL hrg e3 ⊢
    obtain ⟨DD, hDD⟩ : ∃ x, D.extract 0 N.toNat = x := ⟨_, rfl⟩
    rw [hDD] at CL ⊢
    have hmn := min_run64 (D.size : Int) FR' N e3.symm
    have s1 : 0 ≤ N := hrg.1
    have s2 : N ≤ (D.size : Int) := hrg.2
    obtain ⟨G, hG⟩ : ∃ g, layS s DD = g := ⟨_, rfl⟩
    rw [hG] at CL ⊢
    replace hDD := Lib.hid hDD
    clear hl1 hl2 ha ht hm1 hm2 hs hd hr hrg e1 e2 e3 hFR hN hG
    obtain ⟨gb, gt, gd, ga, gtd, gf, gft, gfa⟩ := G
    obtain ⟨ba, tp, d, ak, td, fin, ft, fa⟩ := s
    simp only at CO HB0 HZ HA0 HT0 CR CL hf ⊢
    subst hf
    obtain ⟨gn, hgn⟩ : ∃ n, gtd.length = n := ⟨_, rfl⟩
    rw [hgn] at CL
    clear hgn
    go_enter Try.func12, Try.ntmps12
    go_wp2_with fail
    refine (CO.out _ HA0.out HT0.out).mono ?_
    rintro e w1 ⟨b1, d1, b2, d2, B, rfl, hB, hq, k1, k2, hb⟩
    have HF1 : Hid (FR w w1 B (.slice b1 n1 d1) (.slice b2 n2 d2) ⟨ba, tp, d, ak, td, false, ft, fa⟩) := Lib.hid ⟨hq, HZ.out.go hb, nextG HB0.out hb, by simp at hB; omega, fun k hk => by have := k1 k hk; simp at this; omega, fun k hk => by have := k2 k hk; simp at this; omega⟩
    clear hB hq k1 k2 hb HB0 HZ HA0 HT0 CO
    have y0 := HF1.out.q.c0
    have y1 := HF1.out.q.c1
    have y2 := HF1.out.q.c2
    have y3 := HF1.out.q.c3
    have y4 := HF1.out.q.c4
    have y5 := HF1.out.q.c5
    have y6 := HF1.out.q.c6
    have y7 := HF1.out.q.c7
    simp only at y0 y1 y2 y5 y6 y7
    have yf := HF1.out.q.fz
    go_wp2_with fail
    refine (CR.out _ _ _ _ _).mono ?_
    rintro e w2 ⟨rfl, hb⟩
    have HF2 := Lib.hid (HF1.out.go hb)
    clear hb y0 y1 y2 y3 y4 y5 y6 y7 yf
    go_wp2_with fail
    rw [hDD.out]
    refine (CL.out _ _ _ _ _ _ HF2.out.q).mono ?_
    rintro e w3 ⟨rfl, b3, d3, hq, hk⟩
    have HF3 := Lib.hid (HF2.out.only hq HF2.out.fu (fun k hk' => by have := hk k hk'; have := HF2.out.hB; have := HF2.out.q.lt; omega))
    clear hq hk
    have y0 := HF3.out.q.c0
    have y1 := HF3.out.q.c1
    have y2 := HF3.out.q.c2
    have y3 := HF3.out.q.c3
    have y4 := HF3.out.q.c4
    have y5 := HF3.out.q.c5
    have y6 := HF3.out.q.c6
    have y7 := HF3.out.q.c7
    simp only at y0 y1 y2 y5 y6 y7
    have yf := HF3.out.q.fz
    have q0 : w3.cell? ⟨w.heap.size + 1, 0, none⟩ = _ := Lib.cell_of_heap HF3.out.z 0
    have q1 : w3.cell? ⟨w.heap.size + 1, 1, none⟩ = _ := Lib.cell_of_heap HF3.out.z 1
    have q2 : w3.cell? ⟨w.heap.size + 1, 2, none⟩ = _ := Lib.cell_of_heap HF3.out.z 2
    have q3 : w3.cell? ⟨w.heap.size + 1, 3, none⟩ = _ := Lib.cell_of_heap HF3.out.z 3
    have q4 : w3.cell? ⟨w.heap.size + 1, 4, none⟩ = _ := Lib.cell_of_heap HF3.out.z 4
    have q5 : w3.cell? ⟨w.heap.size + 1, 5, none⟩ = _ := Lib.cell_of_heap HF3.out.z 5
    have q6 : w3.cell? ⟨w.heap.size + 1, 6, none⟩ = _ := Lib.cell_of_heap HF3.out.z 6
    have q7 : w3.cell? ⟨w.heap.size + 1, 7, none⟩ = _ := Lib.cell_of_heap HF3.out.z 7
    have qf : ∀ k, w3.frozen? ⟨w.heap.size + 1, k, none⟩ = false := fun k => Lib.frozen_of_heap HF3.out.z k
    have hne : ¬ B = w.heap.size + 1 := by have := HF3.out.hB; omega
    have hne' : ¬ w.heap.size + 1 = B := by omega
    have HL := Lib.hid HF3.out.laid
    go_wp2_with fail
    exact bodyPost_ret (results_wr _ (w.heap.size + 1) (gb) (gt) gd (.slice b1 n1 d1) (.slice b3 gn d3) gf gft gfa (N) _ rfl rfl HL.out.1) rfl ⟨_, _, _, _, _, _, rfl, HL.out.2.1, HL.out.2.2.1, fun k hk => by have := HF3.out.fu k hk; omega, fun k hk => by have := HF3.out.fv k hk; omega, HL.out.2.2.2⟩
end Go.Proofs.Ytedijfcagkedaaa.Rg
