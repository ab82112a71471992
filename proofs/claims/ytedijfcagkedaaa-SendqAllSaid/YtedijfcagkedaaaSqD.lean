/- Layer 15: the walks of what is answered, and of what has to be sent. By tools/gen-sendq-3.py. -/
import Derived.Test.YtedijfcagkedaaaSqC
namespace Go.Proofs.Ytedijfcagkedaaa.Rg
set_option maxRecDepth 20000
open Go.RowKit Go.Shelf
set_option linter.unusedVariables false
set_option linter.unusedSimpArgs false

theorem rd_len {w : World} {a : Option Addr} {n c : Nat} {l : List Ran} (h : Rd w (.slice a n c) l) : n = l.length := by
  obtain ⟨_, _, e, _⟩ := h
  cases e; rfl
theorem rd_first {w : World} {b off n c : Nat} {x : Ran} {m : List Ran} (h : Rd w (.slice (some ⟨b, off, none⟩) n c) (x :: m)) : w.cell? ⟨b, off, none⟩ = some (.int .u64 x.1) ∧ w.cell? ⟨b, off + 1, none⟩ = some (.int .u64 x.2) := by
  obtain ⟨a, c', e, _, hrow⟩ := h
  obtain ⟨b', off', e2, hc⟩ := hrow (by simp)
  cases e
  cases e2
  have := hc 0 (by simp)
  simpa using this
theorem rd_some {w : World} {a : Option Addr} {n c : Nat} {x : Ran} {m : List Ran} (h : Rd w (.slice a n c) (x :: m)) : ∃ b off, a = some ⟨b, off, none⟩ ∧ n ≤ c := by
  obtain ⟨a, c', e, hc, hrow⟩ := h
  obtain ⟨b', off', e2, _⟩ := hrow (by simp)
  cases e
  exact ⟨b', off', e2, hc⟩
theorem isEmptyG {D : ByteArray} (h : 0 < D.size) : D.toList.isEmpty = false := by
  rw [ByteArray.toList_eq]
  cases hh : D.data.toList with
  | nil =>
    have h1 : D.size = D.data.toList.length := by rw [Array.length_toList]; rfl
    rw [hh, List.length_nil] at h1
    omega
  | cons => rfl
theorem isEmptyY {D : ByteArray} (h : D.size = 0) : D.toList.isEmpty = true := by
  rw [ByteArray.toList_eq]
  cases hh : D.data.toList with
  | nil => rfl
  | cons =>
    have h1 : D.size = D.data.toList.length := by rw [Array.length_toList]; rfl
    rw [hh, List.length_cons] at h1
    omega
set_option maxHeartbeats 2000000 in
theorem answered_any (s : SS) (a1 : Option Addr) (n1 c1 : Nat) (v : Value) (w : World) (hs : Mid s) (hl : s.ak.length ≤ 1000) (ha : Rd w (.slice a1 n1 c1) s.ak) (ht : Rd w v s.td) :
    Calls Try.prog 64 #[.agg #[.int .u64 s.ba, .int .u64 s.tp, .string s.d, .slice a1 n1 c1, v, .bool s.fin, .bool s.ft, .bool s.fa]] w fun e w' => e = .returned (.int .i64 (ansI s)) ∧ Below w.heap.size w w' := by
  have CM := Lib.hid (fun W (h1 : Rd W (.slice a1 n1 c1) s.ak) (h2 : Rd W v s.td) => missing_any s a1 n1 c1 v s.ba (s.d.size : Int) W hs hl h1 h2 hs.b0 (by have := hs.b1; unfold en at this; omega))
  rw [pl_all] at CM
  have hsp := ans_spec hs
  have h0 := hs.b0
  have h1 := hs.b1
  unfold en at h1
  have hc1 := (lack_can hs.ca (spn s.ba (en s)) (spn_good h0 (by unfold en; omega)).1 (spn_good (a := s.ba) (b := en s) h0 (by unfold en; omega)).2).1
  unfold ansI at hsp ⊢
  generalize lack s.ak (spn s.ba (en s)) = L at *
  have HS0 := Lib.hid (qr_made w (.slice a1 n1 c1) v s ha ht)
  clear hs hl ha ht
  obtain ⟨ba, tp, d, ak, td, fin, ft, fa⟩ := s
  simp only at CM HS0 hsp h0 h1 ⊢
  cases L with
  | nil =>
    clear hc1 hsp h0 h1
    go_enter Try.func64, Try.ntmps64
    go_wp2_with fail
    refine (CM.out _ HS0.out.q.ra HS0.out.q.rt).mono ?_
    rintro e w1 ⟨a2, c2, rfl, hr, hb⟩
    have HS1 := Lib.hid (HS0.out.go hb)
    have c2 := HS1.out.q.c2
    simp only at c2
    clear hb hr
    go_wp2_with fail
    go_ret
    exact ⟨rfl, HS1.out.bl⟩
  | cons x m =>
    have hx := hc1.head
    obtain ⟨x1, x2⟩ := x
    simp only at hx hsp ⊢
    have v1 : IntKind.u64.wrap (x1 - ba) = x1 - ba := IntWalk.u64_in _ (by omega)
    have v2 : IntKind.i64.wrap (x1 - ba) = x1 - ba := IntWalk.i64_in _ (by omega)
    obtain ⟨k, hk⟩ : ∃ k, ((x1, x2) :: m).length = k := ⟨_, rfl⟩
    have hk0 : 0 < k := by rw [← hk]; simp
    rw [hk] at CM
    have d0 : ((k : Int) == 0) = false := by rw [beq_eq_false_iff_ne]; omega
    have k0 : (0 : Int) < k := by omega
    clear hc1 hsp h0 h1 hk
    go_enter Try.func64, Try.ntmps64
    go_wp2_with fail
    refine (CM.out _ HS0.out.q.ra HS0.out.q.rt).mono ?_
    rintro e w1 ⟨a2, c2, rfl, hr, hb⟩
    have HS1 := Lib.hid (HS0.out.go hb)
    obtain ⟨b2, o2, rfl, hkc⟩ := rd_some hr
    obtain ⟨q0, q1⟩ := rd_first hr
    have c0 := HS1.out.q.c0
    simp only at c0 q0
    clear hb hr
    go_wp2_with fail
    go_region
    go_wp2_with fail
    go_ret
    exact ⟨rfl, HS1.out.bl.drew⟩
set_option maxHeartbeats 1000000 in
theorem nextEnd_any (s : SS) (u v : Value) (w : World) (h0 : 0 ≤ s.ba) (h1 : en s ≤ 1000000) (htd : s.td = []) (most credit : Int) :
    Calls Try.prog 29 #[.agg #[.int .u64 s.ba, .int .u64 s.tp, .string s.d, u, v, .bool s.fin, .bool s.ft, .bool s.fa]] w fun e w' => e = .returned (.tuple #[.int .u64 (nxt s most credit).off, .string (nxt s most credit).d, .bool (nxt s most credit).fin, .bool (nxt s most credit).iz]) ∧ Below w.heap.size w w' := by
  have CE := Lib.hid (fun W => endq_any s u v W h0 h1)
  unfold nxt
  rw [htd]
  clear h0 h1 htd
  obtain ⟨ba, tp, d, ak, td, fin, ft, fa⟩ := s
  generalize en ⟨ba, tp, d, ak, td, fin, ft, fa⟩ = E at *
  simp only at CE ⊢
  cases ft with
  | false =>
    go_enter Try.func29, Try.ntmps29
    go_wp2_with fail
    exact bodyPost_ret (v := .tuple #[.int .u64 0, .string ⟨#[]⟩, .bool false, .bool false]) (by simp [results, Try.results29, go_sem]) rfl ⟨rfl, (Below.refl _ _).alloc (Nat.le_refl _) _⟩
  | true =>
    go_enter Try.func29, Try.ntmps29
    go_wp2_with fail
    refine (CE.out _).mono ?_
    rintro e w1 ⟨rfl, hb⟩
    have HB := Lib.hid (nextG ((Below.refl w.heap.size w).alloc (Nat.le_refl _) _) hb)
    clear hb
    go_wp2_with fail
    exact bodyPost_ret (v := .tuple #[.int .u64 E, .string ⟨#[]⟩, .bool true, .bool true]) (by simp [results, Try.results29, go_sem]) rfl ⟨rfl, HB.out⟩
theorem min3_run (x y z r : Int) (h : min (min x y) z = r) (ts : Array TypeId) (t : TypeId) (w : World) : (Builtin.min_ ts t #[.int .u64 x, .int .u64 y, .int .u64 z]).run Try.prog w = .ok (.int .u64 r) w := by
  have e : (if z < (if y < x then y else x) then z else (if y < x then y else x)) = r := by
    rw [← h]
    split <;> split <;> omega
  simp [Builtin.min_, Builtin.min2]
  exact e
set_option maxHeartbeats 4000000 in
theorem nextOf_any (s : SS) (u v : Value) (lo hi most credit : Int) (w : World) (hs : SsOk s) (ha : Rd w u s.ak) (ht : Rd w v s.td) (h2 : 0 ≤ lo) (h3 : hi < 9223372036854775808) (h4 : lo ≤ hi) (h5 : most < 9223372036854775808) (h6 : 0 ≤ credit) (N : NX) (hN : nxo s most credit (lo, hi) = N) :
    Calls Try.prog 30 #[.agg #[.int .u64 s.ba, .int .u64 s.tp, .string s.d, u, v, .bool s.fin, .bool s.ft, .bool s.fa], .agg #[.int .u64 lo, .int .u64 hi], .int .i64 most, .int .u64 credit] w fun e w' => e = .returned (.tuple #[.int .u64 N.off, .string N.d, .bool N.fin, .bool N.iz]) ∧ Below w.heap.size w w' := by
  have h0 := hs.b0
  have h1 := hs.b1
  have h7 := en_ge s
  obtain ⟨M, hM⟩ : ∃ x, max lo s.ba = x := ⟨_, rfl⟩
  obtain ⟨G, hG⟩ : ∃ x, min (M + max most 0) (en s) = x := ⟨_, rfl⟩
  obtain ⟨R, hR⟩ : ∃ x, nxE s most credit (lo, hi) = x := ⟨_, rfl⟩
  have hmr := max_run lo s.ba M hM
  have v1 : IntKind.u64.wrap (hi + 1) = hi + 1 := IntWalk.u64_in _ (by omega)
  have CR := Lib.hid (fun W (k1 : Rd W u s.ak) (k2 : Rd W v s.td) => reached_any s u v M most W h0 h1 k1 k2 (by omega) (by omega))
  rw [hG] at CR
  have hR2 : min (min G (hi + 1)) credit = R := by rw [← hR, ← hG, ← hM]; rfl
  have hm3 := min3_run G (hi + 1) credit R hR2
  have CE := Lib.hid (fun W => endq_any s u v W h0 h1)
  have CT := Lib.hid (fun W => endTodo_any s u v W)
  have hle : R ≤ en s := by omega
  have CB := Lib.hid (fun (hlt : M < R) W => bytes_any s u v M R (s.d.extract (M - s.ba).toNat (R - s.ba).toNat) W h0 h1 (by omega) (by omega) hle rfl)
  have HR0 := Lib.hid (bk2_made (w.alloc (.cells #[.int .u64 s.ba, .int .u64 s.tp, .string s.d, u, v, .bool s.fin, .bool s.ft, .bool s.fa] 29)) 68 (.int .u64 lo) (.int .u64 hi))
  have HS0 := Lib.hid ((qr_made w u v s ha ht).al (.cells #[.int .u64 lo, .int .u64 hi] 68))
  rw [World.size_alloc] at HR0
  have hN2 : N = if M < R then ⟨M, s.d.extract (M - s.ba).toNat (R - s.ba).toNat, s.fin && s.ft && decide (R = en s), true⟩ else nx0 := by rw [← hN]; unfold nxo; rw [hR, hM]
  clear hN h0 h1 h7 hs ha ht h2 h3 h4 h5 h6 hM hG hR hR2 hle
  obtain ⟨ba, tp, d, ak, td, fin, ft, fa⟩ := s
  obtain ⟨E, hE⟩ : ∃ x, en ⟨ba, tp, d, ak, td, fin, ft, fa⟩ = x := ⟨_, rfl⟩
  rw [hE] at hN2 CE
  obtain ⟨D, hD⟩ : ∃ x, d.extract (M - ba).toNat (R - ba).toNat = x := ⟨_, rfl⟩
  simp only at CR CE CT CB HR0 HS0 hN2 hmr ⊢
  rw [hD] at hN2 CB
  clear hE hD
  by_cases hlt : M < R
  · rw [if_pos hlt] at hN2
    replace CB := Lib.hid (CB.out hlt)
    have d1 : decide (R ≤ M) = false := decide_eq_false (by omega)
    cases hB : fin && ft with
    | false =>
      rw [hB] at CT
      rw [hB, Bool.false_and] at hN2
      replace hN2 := Lib.hid hN2
      replace hB := Lib.hid hB
      clear hlt CE
      go_enter Try.func30, Try.ntmps30
      go_wp2_with fail
      refine wp_region_noPanic ?_
      refine wp_region_held_drew (S := fun W : World => QR w W u v ⟨ba, tp, d, ak, td, fin, ft, fa⟩ ∧ Bk2 W (w.heap.size + 1) 68 (.int .u64 lo) (.int .u64 hi)) (by kernel_rfl) ?_ (fun hHeld => ?_)
      · exact ⟨HS0.out.dr, HR0.out.go (Below.refl _ _).drew⟩
      refine wpAnyH_take (i := 0) (v := ?_) rfl (by kernel_rfl) (by kernel_rfl) (by kernel_rfl) (fun _ _ _ h => h) (Or.inl ⟨by rfl, ?_⟩) (by assumption) ?_
      rotate_left
      · (intro w hSw; (have c0 := hSw.1.q.c0; have c1 := hSw.1.q.c1; have c2 := hSw.1.q.c2; have c3 := hSw.1.q.c3; have c4 := hSw.1.q.c4; have c5 := hSw.1.q.c5; have c6 := hSw.1.q.c6; have c7 := hSw.1.q.c7; simp only at c0 c1 c2 c5 c6 c7; have e0 := hSw.2.c0; have e1 := hSw.2.c1); go_simp; (try with_reducible rfl))
      try simp only [Act.put, List.getElem_toArray, List.getElem_cons_zero, List.getElem_cons_succ, List.setIfInBounds_toArray, List.set_cons_zero, List.set_cons_succ]
      refine wpAnyH_take (i := 1) (v := ?_) rfl (by kernel_rfl) (by kernel_rfl) (by kernel_rfl) (fun _ _ _ h => h) (Or.inl ⟨by rfl, ?_⟩) (by assumption) ?_
      rotate_left
      · (intro w hSw; (have c0 := hSw.1.q.c0; have c1 := hSw.1.q.c1; have c2 := hSw.1.q.c2; have c3 := hSw.1.q.c3; have c4 := hSw.1.q.c4; have c5 := hSw.1.q.c5; have c6 := hSw.1.q.c6; have c7 := hSw.1.q.c7; simp only at c0 c1 c2 c5 c6 c7; have e0 := hSw.2.c0; have e1 := hSw.2.c1); go_simp; (try with_reducible rfl))
      try simp only [Act.put, List.getElem_toArray, List.getElem_cons_zero, List.getElem_cons_succ, List.setIfInBounds_toArray, List.set_cons_zero, List.set_cons_succ]
      refine wpAnyH_take (i := 2) (v := ?_) rfl (by kernel_rfl) (by kernel_rfl) (by kernel_rfl) (fun _ _ _ h => h) (Or.inl ⟨by rfl, ?_⟩) (by assumption) ?_
      rotate_left
      · (intro w hSw; (have c0 := hSw.1.q.c0; have c1 := hSw.1.q.c1; have c2 := hSw.1.q.c2; have c3 := hSw.1.q.c3; have c4 := hSw.1.q.c4; have c5 := hSw.1.q.c5; have c6 := hSw.1.q.c6; have c7 := hSw.1.q.c7; simp only at c0 c1 c2 c5 c6 c7; have e0 := hSw.2.c0; have e1 := hSw.2.c1); go_simp; (try with_reducible rfl))
      try simp only [Act.put, List.getElem_toArray, List.getElem_cons_zero, List.getElem_cons_succ, List.setIfInBounds_toArray, List.set_cons_zero, List.set_cons_succ]
      refine wpAnyH_take (i := 4) (v := ?_) rfl (by kernel_rfl) (by kernel_rfl) (by kernel_rfl) (fun _ _ _ h => h) (Or.inl ⟨by rfl, ?_⟩) (by assumption) ?_
      rotate_left
      · (intro w hSw; (have c0 := hSw.1.q.c0; have c1 := hSw.1.q.c1; have c2 := hSw.1.q.c2; have c3 := hSw.1.q.c3; have c4 := hSw.1.q.c4; have c5 := hSw.1.q.c5; have c6 := hSw.1.q.c6; have c7 := hSw.1.q.c7; simp only at c0 c1 c2 c5 c6 c7; have e0 := hSw.2.c0; have e1 := hSw.2.c1); go_simp; (try with_reducible rfl))
      try simp only [Act.put, List.getElem_toArray, List.getElem_cons_zero, List.getElem_cons_succ, List.setIfInBounds_toArray, List.set_cons_zero, List.set_cons_succ]
      refine wpAnyH_take (i := 5) (v := ?_) rfl (by kernel_rfl) (by kernel_rfl) (by kernel_rfl) (fun _ _ _ h => h) (Or.inl ⟨by rfl, ?_⟩) (by assumption) ?_
      rotate_left
      · (intro w hSw; (have c0 := hSw.1.q.c0; have c1 := hSw.1.q.c1; have c2 := hSw.1.q.c2; have c3 := hSw.1.q.c3; have c4 := hSw.1.q.c4; have c5 := hSw.1.q.c5; have c6 := hSw.1.q.c6; have c7 := hSw.1.q.c7; simp only at c0 c1 c2 c5 c6 c7; have e0 := hSw.2.c0; have e1 := hSw.2.c1); go_simp; (try with_reducible rfl))
      try simp only [Act.put, List.getElem_toArray, List.getElem_cons_zero, List.getElem_cons_succ, List.setIfInBounds_toArray, List.set_cons_zero, List.set_cons_succ]
      refine wpAnyH_take (i := 6) (v := ?_) rfl (by kernel_rfl) (by kernel_rfl) (by kernel_rfl) (fun _ _ _ h => h) (Or.inl ⟨by rfl, ?_⟩) (by assumption) ?_
      rotate_left
      · (intro w hSw; (have c0 := hSw.1.q.c0; have c1 := hSw.1.q.c1; have c2 := hSw.1.q.c2; have c3 := hSw.1.q.c3; have c4 := hSw.1.q.c4; have c5 := hSw.1.q.c5; have c6 := hSw.1.q.c6; have c7 := hSw.1.q.c7; simp only at c0 c1 c2 c5 c6 c7; have e0 := hSw.2.c0; have e1 := hSw.2.c1); go_simp; (try with_reducible rfl))
      try simp only [Act.put, List.getElem_toArray, List.getElem_cons_zero, List.getElem_cons_succ, List.setIfInBounds_toArray, List.set_cons_zero, List.set_cons_succ]
      refine wpAnyH_take (i := 7) (v := ?_) rfl (by kernel_rfl) (by kernel_rfl) (by kernel_rfl) (fun _ _ _ h => h) (Or.inl ⟨by rfl, ?_⟩) (by assumption) ?_
      rotate_left
      · (intro w hSw; (have c0 := hSw.1.q.c0; have c1 := hSw.1.q.c1; have c2 := hSw.1.q.c2; have c3 := hSw.1.q.c3; have c4 := hSw.1.q.c4; have c5 := hSw.1.q.c5; have c6 := hSw.1.q.c6; have c7 := hSw.1.q.c7; simp only at c0 c1 c2 c5 c6 c7; have e0 := hSw.2.c0; have e1 := hSw.2.c1); go_simp; (try with_reducible rfl))
      try simp only [Act.put, List.getElem_toArray, List.getElem_cons_zero, List.getElem_cons_succ, List.setIfInBounds_toArray, List.set_cons_zero, List.set_cons_succ]
      refine wpAnyH_ready (rs := [3]) (by kernel_rfl) (by simp) ?_
      refine AllReadyH.cons rfl (fun K hK => ?_) AllReadyH.nil
      rw [if_pos (by rfl)]
      go_simp
      refine (CR.out _ HS0.out.dr.q.ra HS0.out.dr.q.rt).mono ?_
      rintro e w1 ⟨rfl, hb⟩
      have HS1 := Lib.hid (HS0.out.dr.go hb)
      have HR1 := Lib.hid ((HR0.out.go (Below.refl _ _).drew).go hb)
      clear hb
      refine hK.out _ _ ?_ (fun hHeld => ?_)
      · exact ⟨HS1.out, HR1.out⟩
      clear hK K
      try simp only [Act.put, List.getElem_toArray, List.getElem_cons_zero, List.getElem_cons_succ, List.setIfInBounds_toArray, List.set_cons_zero, List.set_cons_succ]
      refine wpAnyH_take (i := 8) (v := ?_) rfl (by kernel_rfl) (by kernel_rfl) (by kernel_rfl) (fun _ _ _ h => h) (Or.inl ⟨by rfl, ?_⟩) (by assumption) ?_
      rotate_left
      · (intro w hSw; (have c0 := hSw.1.q.c0; have c1 := hSw.1.q.c1; have c2 := hSw.1.q.c2; have c3 := hSw.1.q.c3; have c4 := hSw.1.q.c4; have c5 := hSw.1.q.c5; have c6 := hSw.1.q.c6; have c7 := hSw.1.q.c7; simp only at c0 c1 c2 c5 c6 c7; have e0 := hSw.2.c0; have e1 := hSw.2.c1); go_simp; (try with_reducible rfl))
      try simp only [Act.put, List.getElem_toArray, List.getElem_cons_zero, List.getElem_cons_succ, List.setIfInBounds_toArray, List.set_cons_zero, List.set_cons_succ]
      refine wpAnyH_take (i := 9) (v := ?_) rfl (by kernel_rfl) (by kernel_rfl) (by kernel_rfl) (fun _ _ _ h => h) (Or.inl ⟨by rfl, ?_⟩) (by assumption) ?_
      rotate_left
      · (intro w hSw; (have c0 := hSw.1.q.c0; have c1 := hSw.1.q.c1; have c2 := hSw.1.q.c2; have c3 := hSw.1.q.c3; have c4 := hSw.1.q.c4; have c5 := hSw.1.q.c5; have c6 := hSw.1.q.c6; have c7 := hSw.1.q.c7; simp only at c0 c1 c2 c5 c6 c7; have e0 := hSw.2.c0; have e1 := hSw.2.c1); go_simp; (try with_reducible rfl))
      try simp only [Act.put, List.getElem_toArray, List.getElem_cons_zero, List.getElem_cons_succ, List.setIfInBounds_toArray, List.set_cons_zero, List.set_cons_succ]
      refine wpAnyH_done (by kernel_rfl) (NoPanic.normal ?_) _
      clear HR0 HS0
      go_wp2_with fail
      have HS2 := Lib.hid HS1.out.dr
      refine wp_region_noPanic ?_
      refine wp_region_held_drew (S := fun W : World => QR w W u v ⟨ba, tp, d, ak, td, fin, ft, fa⟩) (by kernel_rfl) ?_ (fun hHeld => ?_)
      · exact HS2.out
      refine wpAnyH_take (i := 0) (v := ?_) rfl (by kernel_rfl) (by kernel_rfl) (by kernel_rfl) (fun _ _ _ h => h) (Or.inl ⟨by rfl, ?_⟩) (by assumption) ?_
      rotate_left
      · (intro w hSw; (have c0 := hSw.q.c0; have c1 := hSw.q.c1; have c2 := hSw.q.c2; have c3 := hSw.q.c3; have c4 := hSw.q.c4; have c5 := hSw.q.c5; have c6 := hSw.q.c6; have c7 := hSw.q.c7; simp only at c0 c1 c2 c5 c6 c7); go_simp; (try with_reducible rfl))
      try simp only [Act.put, List.getElem_toArray, List.getElem_cons_zero, List.getElem_cons_succ, List.setIfInBounds_toArray, List.set_cons_zero, List.set_cons_succ]
      refine wpAnyH_take (i := 1) (v := ?_) rfl (by kernel_rfl) (by kernel_rfl) (by kernel_rfl) (fun _ _ _ h => h) (Or.inl ⟨by rfl, ?_⟩) (by assumption) ?_
      rotate_left
      · (intro w hSw; (have c0 := hSw.q.c0; have c1 := hSw.q.c1; have c2 := hSw.q.c2; have c3 := hSw.q.c3; have c4 := hSw.q.c4; have c5 := hSw.q.c5; have c6 := hSw.q.c6; have c7 := hSw.q.c7; simp only at c0 c1 c2 c5 c6 c7); go_simp; (try with_reducible rfl))
      try simp only [Act.put, List.getElem_toArray, List.getElem_cons_zero, List.getElem_cons_succ, List.setIfInBounds_toArray, List.set_cons_zero, List.set_cons_succ]
      refine wpAnyH_take (i := 2) (v := ?_) rfl (by kernel_rfl) (by kernel_rfl) (by kernel_rfl) (fun _ _ _ h => h) (Or.inl ⟨by rfl, ?_⟩) (by assumption) ?_
      rotate_left
      · (intro w hSw; (have c0 := hSw.q.c0; have c1 := hSw.q.c1; have c2 := hSw.q.c2; have c3 := hSw.q.c3; have c4 := hSw.q.c4; have c5 := hSw.q.c5; have c6 := hSw.q.c6; have c7 := hSw.q.c7; simp only at c0 c1 c2 c5 c6 c7); go_simp; (try with_reducible rfl))
      try simp only [Act.put, List.getElem_toArray, List.getElem_cons_zero, List.getElem_cons_succ, List.setIfInBounds_toArray, List.set_cons_zero, List.set_cons_succ]
      refine wpAnyH_take (i := 3) (v := ?_) rfl (by kernel_rfl) (by kernel_rfl) (by kernel_rfl) (fun _ _ _ h => h) (Or.inl ⟨by rfl, ?_⟩) (by assumption) ?_
      rotate_left
      · (intro w hSw; (have c0 := hSw.q.c0; have c1 := hSw.q.c1; have c2 := hSw.q.c2; have c3 := hSw.q.c3; have c4 := hSw.q.c4; have c5 := hSw.q.c5; have c6 := hSw.q.c6; have c7 := hSw.q.c7; simp only at c0 c1 c2 c5 c6 c7); go_simp; (try with_reducible rfl))
      try simp only [Act.put, List.getElem_toArray, List.getElem_cons_zero, List.getElem_cons_succ, List.setIfInBounds_toArray, List.set_cons_zero, List.set_cons_succ]
      refine wpAnyH_take (i := 5) (v := ?_) rfl (by kernel_rfl) (by kernel_rfl) (by kernel_rfl) (fun _ _ _ h => h) (Or.inl ⟨by rfl, ?_⟩) (by assumption) ?_
      rotate_left
      · (intro w hSw; (have c0 := hSw.q.c0; have c1 := hSw.q.c1; have c2 := hSw.q.c2; have c3 := hSw.q.c3; have c4 := hSw.q.c4; have c5 := hSw.q.c5; have c6 := hSw.q.c6; have c7 := hSw.q.c7; simp only at c0 c1 c2 c5 c6 c7); go_simp; (try with_reducible rfl))
      try simp only [Act.put, List.getElem_toArray, List.getElem_cons_zero, List.getElem_cons_succ, List.setIfInBounds_toArray, List.set_cons_zero, List.set_cons_succ]
      refine wpAnyH_ready (rs := [4]) (by kernel_rfl) (by simp) ?_
      refine AllReadyH.cons rfl (fun K hK => ?_) AllReadyH.nil
      rw [if_pos (by rfl)]
      go_simp
      refine (CB.out _).mono ?_
      rintro e wy1 ⟨rfl, hb⟩
      have HY1 := Lib.hid (HS2.out.go hb)
      clear hb
      refine hK.out _ _ ?_ (fun hHeld => ?_)
      · exact HY1.out
      clear hK K
      try simp only [Act.put, List.getElem_toArray, List.getElem_cons_zero, List.getElem_cons_succ, List.setIfInBounds_toArray, List.set_cons_zero, List.set_cons_succ]
      refine wpAnyH_ready (rs := [6]) (by kernel_rfl) (by simp) ?_
      refine AllReadyH.cons rfl (fun K hK => ?_) AllReadyH.nil
      rw [if_pos (by rfl)]
      go_simp
      refine (CT.out _).mono ?_
      rintro e wy2 ⟨rfl, hb⟩
      have HY2 := Lib.hid (HY1.out.go hb)
      clear hb
      refine hK.out _ _ ?_ (fun hHeld => ?_)
      · exact HY2.out
      clear hK K
      try simp only [Act.put, List.getElem_toArray, List.getElem_cons_zero, List.getElem_cons_succ, List.setIfInBounds_toArray, List.set_cons_zero, List.set_cons_succ]
      refine wpAnyH_take (i := 7) (v := ?_) rfl (by kernel_rfl) (by kernel_rfl) (by kernel_rfl) (fun _ _ _ h => h) (Or.inl ⟨by rfl, ?_⟩) (by assumption) ?_
      rotate_left
      · (intro w hSw; (have c0 := hSw.q.c0; have c1 := hSw.q.c1; have c2 := hSw.q.c2; have c3 := hSw.q.c3; have c4 := hSw.q.c4; have c5 := hSw.q.c5; have c6 := hSw.q.c6; have c7 := hSw.q.c7; simp only at c0 c1 c2 c5 c6 c7); go_simp; (try with_reducible rfl))
      try simp only [Act.put, List.getElem_toArray, List.getElem_cons_zero, List.getElem_cons_succ, List.setIfInBounds_toArray, List.set_cons_zero, List.set_cons_succ]
      refine wpAnyH_take (i := 8) (v := undef) rfl (by kernel_rfl) (by kernel_rfl) (by kernel_rfl) (fun _ _ _ h => h) (Or.inr ⟨by rfl, rfl⟩) (by assumption) ?_
      try simp only [Act.put, List.getElem_toArray, List.getElem_cons_zero, List.getElem_cons_succ, List.setIfInBounds_toArray, List.set_cons_zero, List.set_cons_succ]
      refine wpAnyH_take (i := 9) (v := undef) rfl (by kernel_rfl) (by kernel_rfl) (by kernel_rfl) (fun _ _ _ h => h) (Or.inr ⟨by rfl, rfl⟩) (by assumption) ?_
      try simp only [Act.put, List.getElem_toArray, List.getElem_cons_zero, List.getElem_cons_succ, List.setIfInBounds_toArray, List.set_cons_zero, List.set_cons_succ]
      refine wpAnyH_take (i := 10) (v := undef) rfl (by kernel_rfl) (by kernel_rfl) (by kernel_rfl) (fun _ _ _ h => h) (Or.inr ⟨by rfl, rfl⟩) (by assumption) ?_
      try simp only [Act.put, List.getElem_toArray, List.getElem_cons_zero, List.getElem_cons_succ, List.setIfInBounds_toArray, List.set_cons_zero, List.set_cons_succ]
      refine wpAnyH_take (i := 11) (v := undef) rfl (by kernel_rfl) (by kernel_rfl) (by kernel_rfl) (fun _ _ _ h => h) (Or.inr ⟨by rfl, rfl⟩) (by assumption) ?_
      try simp only [Act.put, List.getElem_toArray, List.getElem_cons_zero, List.getElem_cons_succ, List.setIfInBounds_toArray, List.set_cons_zero, List.set_cons_succ]
      refine wpAnyH_take (i := 12) (v := ?_) rfl (by kernel_rfl) (by kernel_rfl) (by kernel_rfl) (fun _ _ _ h => h) (Or.inl ⟨by rfl, ?_⟩) (by assumption) ?_
      rotate_left
      · (intro w hSw; (have c0 := hSw.q.c0; have c1 := hSw.q.c1; have c2 := hSw.q.c2; have c3 := hSw.q.c3; have c4 := hSw.q.c4; have c5 := hSw.q.c5; have c6 := hSw.q.c6; have c7 := hSw.q.c7; simp only at c0 c1 c2 c5 c6 c7); go_simp; (try with_reducible rfl))
      try simp only [Act.put, List.getElem_toArray, List.getElem_cons_zero, List.getElem_cons_succ, List.setIfInBounds_toArray, List.set_cons_zero, List.set_cons_succ]
      refine wpAnyH_take (i := 13) (v := ?_) rfl (by kernel_rfl) (by kernel_rfl) (by kernel_rfl) (fun _ _ _ h => h) (Or.inl ⟨by rfl, ?_⟩) (by assumption) ?_
      rotate_left
      · (intro w hSw; (have c0 := hSw.q.c0; have c1 := hSw.q.c1; have c2 := hSw.q.c2; have c3 := hSw.q.c3; have c4 := hSw.q.c4; have c5 := hSw.q.c5; have c6 := hSw.q.c6; have c7 := hSw.q.c7; simp only at c0 c1 c2 c5 c6 c7); go_simp; (try with_reducible rfl))
      try simp only [Act.put, List.getElem_toArray, List.getElem_cons_zero, List.getElem_cons_succ, List.setIfInBounds_toArray, List.set_cons_zero, List.set_cons_succ]
      refine wpAnyH_take (i := 14) (v := ?_) rfl (by kernel_rfl) (by kernel_rfl) (by kernel_rfl) (fun _ _ _ h => h) (Or.inl ⟨by rfl, ?_⟩) (by assumption) ?_
      rotate_left
      · (intro w hSw; (have c0 := hSw.q.c0; have c1 := hSw.q.c1; have c2 := hSw.q.c2; have c3 := hSw.q.c3; have c4 := hSw.q.c4; have c5 := hSw.q.c5; have c6 := hSw.q.c6; have c7 := hSw.q.c7; simp only at c0 c1 c2 c5 c6 c7); go_simp; (try with_reducible rfl))
      try simp only [Act.put, List.getElem_toArray, List.getElem_cons_zero, List.getElem_cons_succ, List.setIfInBounds_toArray, List.set_cons_zero, List.set_cons_succ]
      refine wpAnyH_take (i := 15) (v := ?_) rfl (by kernel_rfl) (by kernel_rfl) (by kernel_rfl) (fun _ _ _ h => h) (Or.inl ⟨by rfl, ?_⟩) (by assumption) ?_
      rotate_left
      · (intro w hSw; (have c0 := hSw.q.c0; have c1 := hSw.q.c1; have c2 := hSw.q.c2; have c3 := hSw.q.c3; have c4 := hSw.q.c4; have c5 := hSw.q.c5; have c6 := hSw.q.c6; have c7 := hSw.q.c7; simp only at c0 c1 c2 c5 c6 c7); go_simp; (try with_reducible rfl))
      try simp only [Act.put, List.getElem_toArray, List.getElem_cons_zero, List.getElem_cons_succ, List.setIfInBounds_toArray, List.set_cons_zero, List.set_cons_succ]
      refine wpAnyH_take (i := 16) (v := ?_) rfl (by kernel_rfl) (by kernel_rfl) (by kernel_rfl) (fun _ _ _ h => h) (Or.inl ⟨by rfl, ?_⟩) (by assumption) ?_
      rotate_left
      · (intro w hSw; (have c0 := hSw.q.c0; have c1 := hSw.q.c1; have c2 := hSw.q.c2; have c3 := hSw.q.c3; have c4 := hSw.q.c4; have c5 := hSw.q.c5; have c6 := hSw.q.c6; have c7 := hSw.q.c7; simp only at c0 c1 c2 c5 c6 c7); go_simp; (try with_reducible rfl))
      try simp only [Act.put, List.getElem_toArray, List.getElem_cons_zero, List.getElem_cons_succ, List.setIfInBounds_toArray, List.set_cons_zero, List.set_cons_succ]
      refine wpAnyH_done (by kernel_rfl) (NoPanic.normal ?_) _
      go_wp2_with fail
      exact bodyPost_ret (v := .tuple #[.int .u64 M, .string D, .bool false, .bool true]) (by simp [results, Try.results30, go_sem]) rfl ⟨by rw [hN2.out], HY2.out.bl⟩
    | true =>
      rw [hB] at CT
      rw [hB, Bool.true_and] at hN2
      replace hB := Lib.hid hB
      clear hlt
      by_cases hq : R = E
      · have d2 : (R == E) = true := by rw [hq]; exact beq_self_eq_true _
        rw [decide_eq_true hq] at hN2
        replace hN2 := Lib.hid hN2
        replace hq := Lib.hid hq
        go_enter Try.func30, Try.ntmps30
        go_wp2_with fail
        refine wp_region_noPanic ?_
        refine wp_region_held_drew (S := fun W : World => QR w W u v ⟨ba, tp, d, ak, td, fin, ft, fa⟩ ∧ Bk2 W (w.heap.size + 1) 68 (.int .u64 lo) (.int .u64 hi)) (by kernel_rfl) ?_ (fun hHeld => ?_)
        · exact ⟨HS0.out.dr, HR0.out.go (Below.refl _ _).drew⟩
        refine wpAnyH_take (i := 0) (v := ?_) rfl (by kernel_rfl) (by kernel_rfl) (by kernel_rfl) (fun _ _ _ h => h) (Or.inl ⟨by rfl, ?_⟩) (by assumption) ?_
        rotate_left
        · (intro w hSw; (have c0 := hSw.1.q.c0; have c1 := hSw.1.q.c1; have c2 := hSw.1.q.c2; have c3 := hSw.1.q.c3; have c4 := hSw.1.q.c4; have c5 := hSw.1.q.c5; have c6 := hSw.1.q.c6; have c7 := hSw.1.q.c7; simp only at c0 c1 c2 c5 c6 c7; have e0 := hSw.2.c0; have e1 := hSw.2.c1); go_simp; (try with_reducible rfl))
        try simp only [Act.put, List.getElem_toArray, List.getElem_cons_zero, List.getElem_cons_succ, List.setIfInBounds_toArray, List.set_cons_zero, List.set_cons_succ]
        refine wpAnyH_take (i := 1) (v := ?_) rfl (by kernel_rfl) (by kernel_rfl) (by kernel_rfl) (fun _ _ _ h => h) (Or.inl ⟨by rfl, ?_⟩) (by assumption) ?_
        rotate_left
        · (intro w hSw; (have c0 := hSw.1.q.c0; have c1 := hSw.1.q.c1; have c2 := hSw.1.q.c2; have c3 := hSw.1.q.c3; have c4 := hSw.1.q.c4; have c5 := hSw.1.q.c5; have c6 := hSw.1.q.c6; have c7 := hSw.1.q.c7; simp only at c0 c1 c2 c5 c6 c7; have e0 := hSw.2.c0; have e1 := hSw.2.c1); go_simp; (try with_reducible rfl))
        try simp only [Act.put, List.getElem_toArray, List.getElem_cons_zero, List.getElem_cons_succ, List.setIfInBounds_toArray, List.set_cons_zero, List.set_cons_succ]
        refine wpAnyH_take (i := 2) (v := ?_) rfl (by kernel_rfl) (by kernel_rfl) (by kernel_rfl) (fun _ _ _ h => h) (Or.inl ⟨by rfl, ?_⟩) (by assumption) ?_
        rotate_left
        · (intro w hSw; (have c0 := hSw.1.q.c0; have c1 := hSw.1.q.c1; have c2 := hSw.1.q.c2; have c3 := hSw.1.q.c3; have c4 := hSw.1.q.c4; have c5 := hSw.1.q.c5; have c6 := hSw.1.q.c6; have c7 := hSw.1.q.c7; simp only at c0 c1 c2 c5 c6 c7; have e0 := hSw.2.c0; have e1 := hSw.2.c1); go_simp; (try with_reducible rfl))
        try simp only [Act.put, List.getElem_toArray, List.getElem_cons_zero, List.getElem_cons_succ, List.setIfInBounds_toArray, List.set_cons_zero, List.set_cons_succ]
        refine wpAnyH_take (i := 4) (v := ?_) rfl (by kernel_rfl) (by kernel_rfl) (by kernel_rfl) (fun _ _ _ h => h) (Or.inl ⟨by rfl, ?_⟩) (by assumption) ?_
        rotate_left
        · (intro w hSw; (have c0 := hSw.1.q.c0; have c1 := hSw.1.q.c1; have c2 := hSw.1.q.c2; have c3 := hSw.1.q.c3; have c4 := hSw.1.q.c4; have c5 := hSw.1.q.c5; have c6 := hSw.1.q.c6; have c7 := hSw.1.q.c7; simp only at c0 c1 c2 c5 c6 c7; have e0 := hSw.2.c0; have e1 := hSw.2.c1); go_simp; (try with_reducible rfl))
        try simp only [Act.put, List.getElem_toArray, List.getElem_cons_zero, List.getElem_cons_succ, List.setIfInBounds_toArray, List.set_cons_zero, List.set_cons_succ]
        refine wpAnyH_take (i := 5) (v := ?_) rfl (by kernel_rfl) (by kernel_rfl) (by kernel_rfl) (fun _ _ _ h => h) (Or.inl ⟨by rfl, ?_⟩) (by assumption) ?_
        rotate_left
        · (intro w hSw; (have c0 := hSw.1.q.c0; have c1 := hSw.1.q.c1; have c2 := hSw.1.q.c2; have c3 := hSw.1.q.c3; have c4 := hSw.1.q.c4; have c5 := hSw.1.q.c5; have c6 := hSw.1.q.c6; have c7 := hSw.1.q.c7; simp only at c0 c1 c2 c5 c6 c7; have e0 := hSw.2.c0; have e1 := hSw.2.c1); go_simp; (try with_reducible rfl))
        try simp only [Act.put, List.getElem_toArray, List.getElem_cons_zero, List.getElem_cons_succ, List.setIfInBounds_toArray, List.set_cons_zero, List.set_cons_succ]
        refine wpAnyH_take (i := 6) (v := ?_) rfl (by kernel_rfl) (by kernel_rfl) (by kernel_rfl) (fun _ _ _ h => h) (Or.inl ⟨by rfl, ?_⟩) (by assumption) ?_
        rotate_left
        · (intro w hSw; (have c0 := hSw.1.q.c0; have c1 := hSw.1.q.c1; have c2 := hSw.1.q.c2; have c3 := hSw.1.q.c3; have c4 := hSw.1.q.c4; have c5 := hSw.1.q.c5; have c6 := hSw.1.q.c6; have c7 := hSw.1.q.c7; simp only at c0 c1 c2 c5 c6 c7; have e0 := hSw.2.c0; have e1 := hSw.2.c1); go_simp; (try with_reducible rfl))
        try simp only [Act.put, List.getElem_toArray, List.getElem_cons_zero, List.getElem_cons_succ, List.setIfInBounds_toArray, List.set_cons_zero, List.set_cons_succ]
        refine wpAnyH_take (i := 7) (v := ?_) rfl (by kernel_rfl) (by kernel_rfl) (by kernel_rfl) (fun _ _ _ h => h) (Or.inl ⟨by rfl, ?_⟩) (by assumption) ?_
        rotate_left
        · (intro w hSw; (have c0 := hSw.1.q.c0; have c1 := hSw.1.q.c1; have c2 := hSw.1.q.c2; have c3 := hSw.1.q.c3; have c4 := hSw.1.q.c4; have c5 := hSw.1.q.c5; have c6 := hSw.1.q.c6; have c7 := hSw.1.q.c7; simp only at c0 c1 c2 c5 c6 c7; have e0 := hSw.2.c0; have e1 := hSw.2.c1); go_simp; (try with_reducible rfl))
        try simp only [Act.put, List.getElem_toArray, List.getElem_cons_zero, List.getElem_cons_succ, List.setIfInBounds_toArray, List.set_cons_zero, List.set_cons_succ]
        refine wpAnyH_ready (rs := [3]) (by kernel_rfl) (by simp) ?_
        refine AllReadyH.cons rfl (fun K hK => ?_) AllReadyH.nil
        rw [if_pos (by rfl)]
        go_simp
        refine (CR.out _ HS0.out.dr.q.ra HS0.out.dr.q.rt).mono ?_
        rintro e w1 ⟨rfl, hb⟩
        have HS1 := Lib.hid (HS0.out.dr.go hb)
        have HR1 := Lib.hid ((HR0.out.go (Below.refl _ _).drew).go hb)
        clear hb
        refine hK.out _ _ ?_ (fun hHeld => ?_)
        · exact ⟨HS1.out, HR1.out⟩
        clear hK K
        try simp only [Act.put, List.getElem_toArray, List.getElem_cons_zero, List.getElem_cons_succ, List.setIfInBounds_toArray, List.set_cons_zero, List.set_cons_succ]
        refine wpAnyH_take (i := 8) (v := ?_) rfl (by kernel_rfl) (by kernel_rfl) (by kernel_rfl) (fun _ _ _ h => h) (Or.inl ⟨by rfl, ?_⟩) (by assumption) ?_
        rotate_left
        · (intro w hSw; (have c0 := hSw.1.q.c0; have c1 := hSw.1.q.c1; have c2 := hSw.1.q.c2; have c3 := hSw.1.q.c3; have c4 := hSw.1.q.c4; have c5 := hSw.1.q.c5; have c6 := hSw.1.q.c6; have c7 := hSw.1.q.c7; simp only at c0 c1 c2 c5 c6 c7; have e0 := hSw.2.c0; have e1 := hSw.2.c1); go_simp; (try with_reducible rfl))
        try simp only [Act.put, List.getElem_toArray, List.getElem_cons_zero, List.getElem_cons_succ, List.setIfInBounds_toArray, List.set_cons_zero, List.set_cons_succ]
        refine wpAnyH_take (i := 9) (v := ?_) rfl (by kernel_rfl) (by kernel_rfl) (by kernel_rfl) (fun _ _ _ h => h) (Or.inl ⟨by rfl, ?_⟩) (by assumption) ?_
        rotate_left
        · (intro w hSw; (have c0 := hSw.1.q.c0; have c1 := hSw.1.q.c1; have c2 := hSw.1.q.c2; have c3 := hSw.1.q.c3; have c4 := hSw.1.q.c4; have c5 := hSw.1.q.c5; have c6 := hSw.1.q.c6; have c7 := hSw.1.q.c7; simp only at c0 c1 c2 c5 c6 c7; have e0 := hSw.2.c0; have e1 := hSw.2.c1); go_simp; (try with_reducible rfl))
        try simp only [Act.put, List.getElem_toArray, List.getElem_cons_zero, List.getElem_cons_succ, List.setIfInBounds_toArray, List.set_cons_zero, List.set_cons_succ]
        refine wpAnyH_done (by kernel_rfl) (NoPanic.normal ?_) _
        clear HR0 HS0
        go_wp2_with fail
        have HS2 := Lib.hid HS1.out.dr
        refine wp_region_noPanic ?_
        refine wp_region_held_drew (S := fun W : World => QR w W u v ⟨ba, tp, d, ak, td, fin, ft, fa⟩) (by kernel_rfl) ?_ (fun hHeld => ?_)
        · exact HS2.out
        refine wpAnyH_take (i := 0) (v := ?_) rfl (by kernel_rfl) (by kernel_rfl) (by kernel_rfl) (fun _ _ _ h => h) (Or.inl ⟨by rfl, ?_⟩) (by assumption) ?_
        rotate_left
        · (intro w hSw; (have c0 := hSw.q.c0; have c1 := hSw.q.c1; have c2 := hSw.q.c2; have c3 := hSw.q.c3; have c4 := hSw.q.c4; have c5 := hSw.q.c5; have c6 := hSw.q.c6; have c7 := hSw.q.c7; simp only at c0 c1 c2 c5 c6 c7); go_simp; (try with_reducible rfl))
        try simp only [Act.put, List.getElem_toArray, List.getElem_cons_zero, List.getElem_cons_succ, List.setIfInBounds_toArray, List.set_cons_zero, List.set_cons_succ]
        refine wpAnyH_take (i := 1) (v := ?_) rfl (by kernel_rfl) (by kernel_rfl) (by kernel_rfl) (fun _ _ _ h => h) (Or.inl ⟨by rfl, ?_⟩) (by assumption) ?_
        rotate_left
        · (intro w hSw; (have c0 := hSw.q.c0; have c1 := hSw.q.c1; have c2 := hSw.q.c2; have c3 := hSw.q.c3; have c4 := hSw.q.c4; have c5 := hSw.q.c5; have c6 := hSw.q.c6; have c7 := hSw.q.c7; simp only at c0 c1 c2 c5 c6 c7); go_simp; (try with_reducible rfl))
        try simp only [Act.put, List.getElem_toArray, List.getElem_cons_zero, List.getElem_cons_succ, List.setIfInBounds_toArray, List.set_cons_zero, List.set_cons_succ]
        refine wpAnyH_take (i := 2) (v := ?_) rfl (by kernel_rfl) (by kernel_rfl) (by kernel_rfl) (fun _ _ _ h => h) (Or.inl ⟨by rfl, ?_⟩) (by assumption) ?_
        rotate_left
        · (intro w hSw; (have c0 := hSw.q.c0; have c1 := hSw.q.c1; have c2 := hSw.q.c2; have c3 := hSw.q.c3; have c4 := hSw.q.c4; have c5 := hSw.q.c5; have c6 := hSw.q.c6; have c7 := hSw.q.c7; simp only at c0 c1 c2 c5 c6 c7); go_simp; (try with_reducible rfl))
        try simp only [Act.put, List.getElem_toArray, List.getElem_cons_zero, List.getElem_cons_succ, List.setIfInBounds_toArray, List.set_cons_zero, List.set_cons_succ]
        refine wpAnyH_take (i := 3) (v := ?_) rfl (by kernel_rfl) (by kernel_rfl) (by kernel_rfl) (fun _ _ _ h => h) (Or.inl ⟨by rfl, ?_⟩) (by assumption) ?_
        rotate_left
        · (intro w hSw; (have c0 := hSw.q.c0; have c1 := hSw.q.c1; have c2 := hSw.q.c2; have c3 := hSw.q.c3; have c4 := hSw.q.c4; have c5 := hSw.q.c5; have c6 := hSw.q.c6; have c7 := hSw.q.c7; simp only at c0 c1 c2 c5 c6 c7); go_simp; (try with_reducible rfl))
        try simp only [Act.put, List.getElem_toArray, List.getElem_cons_zero, List.getElem_cons_succ, List.setIfInBounds_toArray, List.set_cons_zero, List.set_cons_succ]
        refine wpAnyH_take (i := 5) (v := ?_) rfl (by kernel_rfl) (by kernel_rfl) (by kernel_rfl) (fun _ _ _ h => h) (Or.inl ⟨by rfl, ?_⟩) (by assumption) ?_
        rotate_left
        · (intro w hSw; (have c0 := hSw.q.c0; have c1 := hSw.q.c1; have c2 := hSw.q.c2; have c3 := hSw.q.c3; have c4 := hSw.q.c4; have c5 := hSw.q.c5; have c6 := hSw.q.c6; have c7 := hSw.q.c7; simp only at c0 c1 c2 c5 c6 c7); go_simp; (try with_reducible rfl))
        try simp only [Act.put, List.getElem_toArray, List.getElem_cons_zero, List.getElem_cons_succ, List.setIfInBounds_toArray, List.set_cons_zero, List.set_cons_succ]
        refine wpAnyH_ready (rs := [4]) (by kernel_rfl) (by simp) ?_
        refine AllReadyH.cons rfl (fun K hK => ?_) AllReadyH.nil
        rw [if_pos (by rfl)]
        go_simp
        refine (CB.out _).mono ?_
        rintro e wy1 ⟨rfl, hb⟩
        have HY1 := Lib.hid (HS2.out.go hb)
        clear hb
        refine hK.out _ _ ?_ (fun hHeld => ?_)
        · exact HY1.out
        clear hK K
        try simp only [Act.put, List.getElem_toArray, List.getElem_cons_zero, List.getElem_cons_succ, List.setIfInBounds_toArray, List.set_cons_zero, List.set_cons_succ]
        refine wpAnyH_ready (rs := [6]) (by kernel_rfl) (by simp) ?_
        refine AllReadyH.cons rfl (fun K hK => ?_) AllReadyH.nil
        rw [if_pos (by rfl)]
        go_simp
        refine (CT.out _).mono ?_
        rintro e wy2 ⟨rfl, hb⟩
        have HY2 := Lib.hid (HY1.out.go hb)
        clear hb
        refine hK.out _ _ ?_ (fun hHeld => ?_)
        · exact HY2.out
        clear hK K
        try simp only [Act.put, List.getElem_toArray, List.getElem_cons_zero, List.getElem_cons_succ, List.setIfInBounds_toArray, List.set_cons_zero, List.set_cons_succ]
        refine wpAnyH_take (i := 7) (v := ?_) rfl (by kernel_rfl) (by kernel_rfl) (by kernel_rfl) (fun _ _ _ h => h) (Or.inl ⟨by rfl, ?_⟩) (by assumption) ?_
        rotate_left
        · (intro w hSw; (have c0 := hSw.q.c0; have c1 := hSw.q.c1; have c2 := hSw.q.c2; have c3 := hSw.q.c3; have c4 := hSw.q.c4; have c5 := hSw.q.c5; have c6 := hSw.q.c6; have c7 := hSw.q.c7; simp only at c0 c1 c2 c5 c6 c7); go_simp; (try with_reducible rfl))
        try simp only [Act.put, List.getElem_toArray, List.getElem_cons_zero, List.getElem_cons_succ, List.setIfInBounds_toArray, List.set_cons_zero, List.set_cons_succ]
        refine wpAnyH_take (i := 8) (v := ?_) rfl (by kernel_rfl) (by kernel_rfl) (by kernel_rfl) (fun _ _ _ h => h) (Or.inl ⟨by rfl, ?_⟩) (by assumption) ?_
        rotate_left
        · (intro w hSw; (have c0 := hSw.q.c0; have c1 := hSw.q.c1; have c2 := hSw.q.c2; have c3 := hSw.q.c3; have c4 := hSw.q.c4; have c5 := hSw.q.c5; have c6 := hSw.q.c6; have c7 := hSw.q.c7; simp only at c0 c1 c2 c5 c6 c7); go_simp; (try with_reducible rfl))
        try simp only [Act.put, List.getElem_toArray, List.getElem_cons_zero, List.getElem_cons_succ, List.setIfInBounds_toArray, List.set_cons_zero, List.set_cons_succ]
        refine wpAnyH_take (i := 9) (v := ?_) rfl (by kernel_rfl) (by kernel_rfl) (by kernel_rfl) (fun _ _ _ h => h) (Or.inl ⟨by rfl, ?_⟩) (by assumption) ?_
        rotate_left
        · (intro w hSw; (have c0 := hSw.q.c0; have c1 := hSw.q.c1; have c2 := hSw.q.c2; have c3 := hSw.q.c3; have c4 := hSw.q.c4; have c5 := hSw.q.c5; have c6 := hSw.q.c6; have c7 := hSw.q.c7; simp only at c0 c1 c2 c5 c6 c7); go_simp; (try with_reducible rfl))
        try simp only [Act.put, List.getElem_toArray, List.getElem_cons_zero, List.getElem_cons_succ, List.setIfInBounds_toArray, List.set_cons_zero, List.set_cons_succ]
        refine wpAnyH_ready (rs := [10]) (by kernel_rfl) (by simp) ?_
        refine AllReadyH.cons rfl (fun K hK => ?_) AllReadyH.nil
        rw [if_pos (by rfl)]
        go_simp
        refine (CE.out _).mono ?_
        rintro e wy3 ⟨rfl, hb⟩
        have HY3 := Lib.hid (HY2.out.go hb)
        clear hb
        refine hK.out _ _ ?_ (fun hHeld => ?_)
        · exact HY3.out
        clear hK K
        try simp only [Act.put, List.getElem_toArray, List.getElem_cons_zero, List.getElem_cons_succ, List.setIfInBounds_toArray, List.set_cons_zero, List.set_cons_succ]
        refine wpAnyH_take (i := 11) (v := ?_) rfl (by kernel_rfl) (by kernel_rfl) (by kernel_rfl) (fun _ _ _ h => h) (Or.inl ⟨by rfl, ?_⟩) (by assumption) ?_
        rotate_left
        · (intro w hSw; (have c0 := hSw.q.c0; have c1 := hSw.q.c1; have c2 := hSw.q.c2; have c3 := hSw.q.c3; have c4 := hSw.q.c4; have c5 := hSw.q.c5; have c6 := hSw.q.c6; have c7 := hSw.q.c7; simp only at c0 c1 c2 c5 c6 c7); go_simp; (try with_reducible rfl))
        try simp only [Act.put, List.getElem_toArray, List.getElem_cons_zero, List.getElem_cons_succ, List.setIfInBounds_toArray, List.set_cons_zero, List.set_cons_succ]
        refine wpAnyH_take (i := 12) (v := ?_) rfl (by kernel_rfl) (by kernel_rfl) (by kernel_rfl) (fun _ _ _ h => h) (Or.inl ⟨by rfl, ?_⟩) (by assumption) ?_
        rotate_left
        · (intro w hSw; (have c0 := hSw.q.c0; have c1 := hSw.q.c1; have c2 := hSw.q.c2; have c3 := hSw.q.c3; have c4 := hSw.q.c4; have c5 := hSw.q.c5; have c6 := hSw.q.c6; have c7 := hSw.q.c7; simp only at c0 c1 c2 c5 c6 c7); go_simp; (try with_reducible rfl))
        try simp only [Act.put, List.getElem_toArray, List.getElem_cons_zero, List.getElem_cons_succ, List.setIfInBounds_toArray, List.set_cons_zero, List.set_cons_succ]
        refine wpAnyH_take (i := 13) (v := ?_) rfl (by kernel_rfl) (by kernel_rfl) (by kernel_rfl) (fun _ _ _ h => h) (Or.inl ⟨by rfl, ?_⟩) (by assumption) ?_
        rotate_left
        · (intro w hSw; (have c0 := hSw.q.c0; have c1 := hSw.q.c1; have c2 := hSw.q.c2; have c3 := hSw.q.c3; have c4 := hSw.q.c4; have c5 := hSw.q.c5; have c6 := hSw.q.c6; have c7 := hSw.q.c7; simp only at c0 c1 c2 c5 c6 c7); go_simp; (try with_reducible rfl))
        try simp only [Act.put, List.getElem_toArray, List.getElem_cons_zero, List.getElem_cons_succ, List.setIfInBounds_toArray, List.set_cons_zero, List.set_cons_succ]
        refine wpAnyH_take (i := 14) (v := ?_) rfl (by kernel_rfl) (by kernel_rfl) (by kernel_rfl) (fun _ _ _ h => h) (Or.inl ⟨by rfl, ?_⟩) (by assumption) ?_
        rotate_left
        · (intro w hSw; (have c0 := hSw.q.c0; have c1 := hSw.q.c1; have c2 := hSw.q.c2; have c3 := hSw.q.c3; have c4 := hSw.q.c4; have c5 := hSw.q.c5; have c6 := hSw.q.c6; have c7 := hSw.q.c7; simp only at c0 c1 c2 c5 c6 c7); go_simp; (try with_reducible rfl))
        try simp only [Act.put, List.getElem_toArray, List.getElem_cons_zero, List.getElem_cons_succ, List.setIfInBounds_toArray, List.set_cons_zero, List.set_cons_succ]
        refine wpAnyH_take (i := 15) (v := ?_) rfl (by kernel_rfl) (by kernel_rfl) (by kernel_rfl) (fun _ _ _ h => h) (Or.inl ⟨by rfl, ?_⟩) (by assumption) ?_
        rotate_left
        · (intro w hSw; (have c0 := hSw.q.c0; have c1 := hSw.q.c1; have c2 := hSw.q.c2; have c3 := hSw.q.c3; have c4 := hSw.q.c4; have c5 := hSw.q.c5; have c6 := hSw.q.c6; have c7 := hSw.q.c7; simp only at c0 c1 c2 c5 c6 c7); go_simp; (try with_reducible rfl))
        try simp only [Act.put, List.getElem_toArray, List.getElem_cons_zero, List.getElem_cons_succ, List.setIfInBounds_toArray, List.set_cons_zero, List.set_cons_succ]
        refine wpAnyH_take (i := 16) (v := ?_) rfl (by kernel_rfl) (by kernel_rfl) (by kernel_rfl) (fun _ _ _ h => h) (Or.inl ⟨by rfl, ?_⟩) (by assumption) ?_
        rotate_left
        · (intro w hSw; (have c0 := hSw.q.c0; have c1 := hSw.q.c1; have c2 := hSw.q.c2; have c3 := hSw.q.c3; have c4 := hSw.q.c4; have c5 := hSw.q.c5; have c6 := hSw.q.c6; have c7 := hSw.q.c7; simp only at c0 c1 c2 c5 c6 c7); go_simp; (try with_reducible rfl))
        try simp only [Act.put, List.getElem_toArray, List.getElem_cons_zero, List.getElem_cons_succ, List.setIfInBounds_toArray, List.set_cons_zero, List.set_cons_succ]
        refine wpAnyH_done (by kernel_rfl) (NoPanic.normal ?_) _
        go_wp2_with fail
        exact bodyPost_ret (v := .tuple #[.int .u64 M, .string D, .bool true, .bool true]) (by simp [results, Try.results30, go_sem]) rfl ⟨by rw [hN2.out], HY3.out.bl⟩
      · have d2 : (R == E) = false := beq_eq_false_iff_ne.2 hq
        rw [decide_eq_false hq] at hN2
        replace hN2 := Lib.hid hN2
        replace hq := Lib.hid hq
        go_enter Try.func30, Try.ntmps30
        go_wp2_with fail
        refine wp_region_noPanic ?_
        refine wp_region_held_drew (S := fun W : World => QR w W u v ⟨ba, tp, d, ak, td, fin, ft, fa⟩ ∧ Bk2 W (w.heap.size + 1) 68 (.int .u64 lo) (.int .u64 hi)) (by kernel_rfl) ?_ (fun hHeld => ?_)
        · exact ⟨HS0.out.dr, HR0.out.go (Below.refl _ _).drew⟩
        refine wpAnyH_take (i := 0) (v := ?_) rfl (by kernel_rfl) (by kernel_rfl) (by kernel_rfl) (fun _ _ _ h => h) (Or.inl ⟨by rfl, ?_⟩) (by assumption) ?_
        rotate_left
        · (intro w hSw; (have c0 := hSw.1.q.c0; have c1 := hSw.1.q.c1; have c2 := hSw.1.q.c2; have c3 := hSw.1.q.c3; have c4 := hSw.1.q.c4; have c5 := hSw.1.q.c5; have c6 := hSw.1.q.c6; have c7 := hSw.1.q.c7; simp only at c0 c1 c2 c5 c6 c7; have e0 := hSw.2.c0; have e1 := hSw.2.c1); go_simp; (try with_reducible rfl))
        try simp only [Act.put, List.getElem_toArray, List.getElem_cons_zero, List.getElem_cons_succ, List.setIfInBounds_toArray, List.set_cons_zero, List.set_cons_succ]
        refine wpAnyH_take (i := 1) (v := ?_) rfl (by kernel_rfl) (by kernel_rfl) (by kernel_rfl) (fun _ _ _ h => h) (Or.inl ⟨by rfl, ?_⟩) (by assumption) ?_
        rotate_left
        · (intro w hSw; (have c0 := hSw.1.q.c0; have c1 := hSw.1.q.c1; have c2 := hSw.1.q.c2; have c3 := hSw.1.q.c3; have c4 := hSw.1.q.c4; have c5 := hSw.1.q.c5; have c6 := hSw.1.q.c6; have c7 := hSw.1.q.c7; simp only at c0 c1 c2 c5 c6 c7; have e0 := hSw.2.c0; have e1 := hSw.2.c1); go_simp; (try with_reducible rfl))
        try simp only [Act.put, List.getElem_toArray, List.getElem_cons_zero, List.getElem_cons_succ, List.setIfInBounds_toArray, List.set_cons_zero, List.set_cons_succ]
        refine wpAnyH_take (i := 2) (v := ?_) rfl (by kernel_rfl) (by kernel_rfl) (by kernel_rfl) (fun _ _ _ h => h) (Or.inl ⟨by rfl, ?_⟩) (by assumption) ?_
        rotate_left
        · (intro w hSw; (have c0 := hSw.1.q.c0; have c1 := hSw.1.q.c1; have c2 := hSw.1.q.c2; have c3 := hSw.1.q.c3; have c4 := hSw.1.q.c4; have c5 := hSw.1.q.c5; have c6 := hSw.1.q.c6; have c7 := hSw.1.q.c7; simp only at c0 c1 c2 c5 c6 c7; have e0 := hSw.2.c0; have e1 := hSw.2.c1); go_simp; (try with_reducible rfl))
        try simp only [Act.put, List.getElem_toArray, List.getElem_cons_zero, List.getElem_cons_succ, List.setIfInBounds_toArray, List.set_cons_zero, List.set_cons_succ]
        refine wpAnyH_take (i := 4) (v := ?_) rfl (by kernel_rfl) (by kernel_rfl) (by kernel_rfl) (fun _ _ _ h => h) (Or.inl ⟨by rfl, ?_⟩) (by assumption) ?_
        rotate_left
        · (intro w hSw; (have c0 := hSw.1.q.c0; have c1 := hSw.1.q.c1; have c2 := hSw.1.q.c2; have c3 := hSw.1.q.c3; have c4 := hSw.1.q.c4; have c5 := hSw.1.q.c5; have c6 := hSw.1.q.c6; have c7 := hSw.1.q.c7; simp only at c0 c1 c2 c5 c6 c7; have e0 := hSw.2.c0; have e1 := hSw.2.c1); go_simp; (try with_reducible rfl))
        try simp only [Act.put, List.getElem_toArray, List.getElem_cons_zero, List.getElem_cons_succ, List.setIfInBounds_toArray, List.set_cons_zero, List.set_cons_succ]
        refine wpAnyH_take (i := 5) (v := ?_) rfl (by kernel_rfl) (by kernel_rfl) (by kernel_rfl) (fun _ _ _ h => h) (Or.inl ⟨by rfl, ?_⟩) (by assumption) ?_
        rotate_left
        · (intro w hSw; (have c0 := hSw.1.q.c0; have c1 := hSw.1.q.c1; have c2 := hSw.1.q.c2; have c3 := hSw.1.q.c3; have c4 := hSw.1.q.c4; have c5 := hSw.1.q.c5; have c6 := hSw.1.q.c6; have c7 := hSw.1.q.c7; simp only at c0 c1 c2 c5 c6 c7; have e0 := hSw.2.c0; have e1 := hSw.2.c1); go_simp; (try with_reducible rfl))
        try simp only [Act.put, List.getElem_toArray, List.getElem_cons_zero, List.getElem_cons_succ, List.setIfInBounds_toArray, List.set_cons_zero, List.set_cons_succ]
        refine wpAnyH_take (i := 6) (v := ?_) rfl (by kernel_rfl) (by kernel_rfl) (by kernel_rfl) (fun _ _ _ h => h) (Or.inl ⟨by rfl, ?_⟩) (by assumption) ?_
        rotate_left
        · (intro w hSw; (have c0 := hSw.1.q.c0; have c1 := hSw.1.q.c1; have c2 := hSw.1.q.c2; have c3 := hSw.1.q.c3; have c4 := hSw.1.q.c4; have c5 := hSw.1.q.c5; have c6 := hSw.1.q.c6; have c7 := hSw.1.q.c7; simp only at c0 c1 c2 c5 c6 c7; have e0 := hSw.2.c0; have e1 := hSw.2.c1); go_simp; (try with_reducible rfl))
        try simp only [Act.put, List.getElem_toArray, List.getElem_cons_zero, List.getElem_cons_succ, List.setIfInBounds_toArray, List.set_cons_zero, List.set_cons_succ]
        refine wpAnyH_take (i := 7) (v := ?_) rfl (by kernel_rfl) (by kernel_rfl) (by kernel_rfl) (fun _ _ _ h => h) (Or.inl ⟨by rfl, ?_⟩) (by assumption) ?_
        rotate_left
        · (intro w hSw; (have c0 := hSw.1.q.c0; have c1 := hSw.1.q.c1; have c2 := hSw.1.q.c2; have c3 := hSw.1.q.c3; have c4 := hSw.1.q.c4; have c5 := hSw.1.q.c5; have c6 := hSw.1.q.c6; have c7 := hSw.1.q.c7; simp only at c0 c1 c2 c5 c6 c7; have e0 := hSw.2.c0; have e1 := hSw.2.c1); go_simp; (try with_reducible rfl))
        try simp only [Act.put, List.getElem_toArray, List.getElem_cons_zero, List.getElem_cons_succ, List.setIfInBounds_toArray, List.set_cons_zero, List.set_cons_succ]
        refine wpAnyH_ready (rs := [3]) (by kernel_rfl) (by simp) ?_
        refine AllReadyH.cons rfl (fun K hK => ?_) AllReadyH.nil
        rw [if_pos (by rfl)]
        go_simp
        refine (CR.out _ HS0.out.dr.q.ra HS0.out.dr.q.rt).mono ?_
        rintro e w1 ⟨rfl, hb⟩
        have HS1 := Lib.hid (HS0.out.dr.go hb)
        have HR1 := Lib.hid ((HR0.out.go (Below.refl _ _).drew).go hb)
        clear hb
        refine hK.out _ _ ?_ (fun hHeld => ?_)
        · exact ⟨HS1.out, HR1.out⟩
        clear hK K
        try simp only [Act.put, List.getElem_toArray, List.getElem_cons_zero, List.getElem_cons_succ, List.setIfInBounds_toArray, List.set_cons_zero, List.set_cons_succ]
        refine wpAnyH_take (i := 8) (v := ?_) rfl (by kernel_rfl) (by kernel_rfl) (by kernel_rfl) (fun _ _ _ h => h) (Or.inl ⟨by rfl, ?_⟩) (by assumption) ?_
        rotate_left
        · (intro w hSw; (have c0 := hSw.1.q.c0; have c1 := hSw.1.q.c1; have c2 := hSw.1.q.c2; have c3 := hSw.1.q.c3; have c4 := hSw.1.q.c4; have c5 := hSw.1.q.c5; have c6 := hSw.1.q.c6; have c7 := hSw.1.q.c7; simp only at c0 c1 c2 c5 c6 c7; have e0 := hSw.2.c0; have e1 := hSw.2.c1); go_simp; (try with_reducible rfl))
        try simp only [Act.put, List.getElem_toArray, List.getElem_cons_zero, List.getElem_cons_succ, List.setIfInBounds_toArray, List.set_cons_zero, List.set_cons_succ]
        refine wpAnyH_take (i := 9) (v := ?_) rfl (by kernel_rfl) (by kernel_rfl) (by kernel_rfl) (fun _ _ _ h => h) (Or.inl ⟨by rfl, ?_⟩) (by assumption) ?_
        rotate_left
        · (intro w hSw; (have c0 := hSw.1.q.c0; have c1 := hSw.1.q.c1; have c2 := hSw.1.q.c2; have c3 := hSw.1.q.c3; have c4 := hSw.1.q.c4; have c5 := hSw.1.q.c5; have c6 := hSw.1.q.c6; have c7 := hSw.1.q.c7; simp only at c0 c1 c2 c5 c6 c7; have e0 := hSw.2.c0; have e1 := hSw.2.c1); go_simp; (try with_reducible rfl))
        try simp only [Act.put, List.getElem_toArray, List.getElem_cons_zero, List.getElem_cons_succ, List.setIfInBounds_toArray, List.set_cons_zero, List.set_cons_succ]
        refine wpAnyH_done (by kernel_rfl) (NoPanic.normal ?_) _
        clear HR0 HS0
        go_wp2_with fail
        have HS2 := Lib.hid HS1.out.dr
        refine wp_region_noPanic ?_
        refine wp_region_held_drew (S := fun W : World => QR w W u v ⟨ba, tp, d, ak, td, fin, ft, fa⟩) (by kernel_rfl) ?_ (fun hHeld => ?_)
        · exact HS2.out
        refine wpAnyH_take (i := 0) (v := ?_) rfl (by kernel_rfl) (by kernel_rfl) (by kernel_rfl) (fun _ _ _ h => h) (Or.inl ⟨by rfl, ?_⟩) (by assumption) ?_
        rotate_left
        · (intro w hSw; (have c0 := hSw.q.c0; have c1 := hSw.q.c1; have c2 := hSw.q.c2; have c3 := hSw.q.c3; have c4 := hSw.q.c4; have c5 := hSw.q.c5; have c6 := hSw.q.c6; have c7 := hSw.q.c7; simp only at c0 c1 c2 c5 c6 c7); go_simp; (try with_reducible rfl))
        try simp only [Act.put, List.getElem_toArray, List.getElem_cons_zero, List.getElem_cons_succ, List.setIfInBounds_toArray, List.set_cons_zero, List.set_cons_succ]
        refine wpAnyH_take (i := 1) (v := ?_) rfl (by kernel_rfl) (by kernel_rfl) (by kernel_rfl) (fun _ _ _ h => h) (Or.inl ⟨by rfl, ?_⟩) (by assumption) ?_
        rotate_left
        · (intro w hSw; (have c0 := hSw.q.c0; have c1 := hSw.q.c1; have c2 := hSw.q.c2; have c3 := hSw.q.c3; have c4 := hSw.q.c4; have c5 := hSw.q.c5; have c6 := hSw.q.c6; have c7 := hSw.q.c7; simp only at c0 c1 c2 c5 c6 c7); go_simp; (try with_reducible rfl))
        try simp only [Act.put, List.getElem_toArray, List.getElem_cons_zero, List.getElem_cons_succ, List.setIfInBounds_toArray, List.set_cons_zero, List.set_cons_succ]
        refine wpAnyH_take (i := 2) (v := ?_) rfl (by kernel_rfl) (by kernel_rfl) (by kernel_rfl) (fun _ _ _ h => h) (Or.inl ⟨by rfl, ?_⟩) (by assumption) ?_
        rotate_left
        · (intro w hSw; (have c0 := hSw.q.c0; have c1 := hSw.q.c1; have c2 := hSw.q.c2; have c3 := hSw.q.c3; have c4 := hSw.q.c4; have c5 := hSw.q.c5; have c6 := hSw.q.c6; have c7 := hSw.q.c7; simp only at c0 c1 c2 c5 c6 c7); go_simp; (try with_reducible rfl))
        try simp only [Act.put, List.getElem_toArray, List.getElem_cons_zero, List.getElem_cons_succ, List.setIfInBounds_toArray, List.set_cons_zero, List.set_cons_succ]
        refine wpAnyH_take (i := 3) (v := ?_) rfl (by kernel_rfl) (by kernel_rfl) (by kernel_rfl) (fun _ _ _ h => h) (Or.inl ⟨by rfl, ?_⟩) (by assumption) ?_
        rotate_left
        · (intro w hSw; (have c0 := hSw.q.c0; have c1 := hSw.q.c1; have c2 := hSw.q.c2; have c3 := hSw.q.c3; have c4 := hSw.q.c4; have c5 := hSw.q.c5; have c6 := hSw.q.c6; have c7 := hSw.q.c7; simp only at c0 c1 c2 c5 c6 c7); go_simp; (try with_reducible rfl))
        try simp only [Act.put, List.getElem_toArray, List.getElem_cons_zero, List.getElem_cons_succ, List.setIfInBounds_toArray, List.set_cons_zero, List.set_cons_succ]
        refine wpAnyH_take (i := 5) (v := ?_) rfl (by kernel_rfl) (by kernel_rfl) (by kernel_rfl) (fun _ _ _ h => h) (Or.inl ⟨by rfl, ?_⟩) (by assumption) ?_
        rotate_left
        · (intro w hSw; (have c0 := hSw.q.c0; have c1 := hSw.q.c1; have c2 := hSw.q.c2; have c3 := hSw.q.c3; have c4 := hSw.q.c4; have c5 := hSw.q.c5; have c6 := hSw.q.c6; have c7 := hSw.q.c7; simp only at c0 c1 c2 c5 c6 c7); go_simp; (try with_reducible rfl))
        try simp only [Act.put, List.getElem_toArray, List.getElem_cons_zero, List.getElem_cons_succ, List.setIfInBounds_toArray, List.set_cons_zero, List.set_cons_succ]
        refine wpAnyH_ready (rs := [4]) (by kernel_rfl) (by simp) ?_
        refine AllReadyH.cons rfl (fun K hK => ?_) AllReadyH.nil
        rw [if_pos (by rfl)]
        go_simp
        refine (CB.out _).mono ?_
        rintro e wy1 ⟨rfl, hb⟩
        have HY1 := Lib.hid (HS2.out.go hb)
        clear hb
        refine hK.out _ _ ?_ (fun hHeld => ?_)
        · exact HY1.out
        clear hK K
        try simp only [Act.put, List.getElem_toArray, List.getElem_cons_zero, List.getElem_cons_succ, List.setIfInBounds_toArray, List.set_cons_zero, List.set_cons_succ]
        refine wpAnyH_ready (rs := [6]) (by kernel_rfl) (by simp) ?_
        refine AllReadyH.cons rfl (fun K hK => ?_) AllReadyH.nil
        rw [if_pos (by rfl)]
        go_simp
        refine (CT.out _).mono ?_
        rintro e wy2 ⟨rfl, hb⟩
        have HY2 := Lib.hid (HY1.out.go hb)
        clear hb
        refine hK.out _ _ ?_ (fun hHeld => ?_)
        · exact HY2.out
        clear hK K
        try simp only [Act.put, List.getElem_toArray, List.getElem_cons_zero, List.getElem_cons_succ, List.setIfInBounds_toArray, List.set_cons_zero, List.set_cons_succ]
        refine wpAnyH_take (i := 7) (v := ?_) rfl (by kernel_rfl) (by kernel_rfl) (by kernel_rfl) (fun _ _ _ h => h) (Or.inl ⟨by rfl, ?_⟩) (by assumption) ?_
        rotate_left
        · (intro w hSw; (have c0 := hSw.q.c0; have c1 := hSw.q.c1; have c2 := hSw.q.c2; have c3 := hSw.q.c3; have c4 := hSw.q.c4; have c5 := hSw.q.c5; have c6 := hSw.q.c6; have c7 := hSw.q.c7; simp only at c0 c1 c2 c5 c6 c7); go_simp; (try with_reducible rfl))
        try simp only [Act.put, List.getElem_toArray, List.getElem_cons_zero, List.getElem_cons_succ, List.setIfInBounds_toArray, List.set_cons_zero, List.set_cons_succ]
        refine wpAnyH_take (i := 8) (v := ?_) rfl (by kernel_rfl) (by kernel_rfl) (by kernel_rfl) (fun _ _ _ h => h) (Or.inl ⟨by rfl, ?_⟩) (by assumption) ?_
        rotate_left
        · (intro w hSw; (have c0 := hSw.q.c0; have c1 := hSw.q.c1; have c2 := hSw.q.c2; have c3 := hSw.q.c3; have c4 := hSw.q.c4; have c5 := hSw.q.c5; have c6 := hSw.q.c6; have c7 := hSw.q.c7; simp only at c0 c1 c2 c5 c6 c7); go_simp; (try with_reducible rfl))
        try simp only [Act.put, List.getElem_toArray, List.getElem_cons_zero, List.getElem_cons_succ, List.setIfInBounds_toArray, List.set_cons_zero, List.set_cons_succ]
        refine wpAnyH_take (i := 9) (v := ?_) rfl (by kernel_rfl) (by kernel_rfl) (by kernel_rfl) (fun _ _ _ h => h) (Or.inl ⟨by rfl, ?_⟩) (by assumption) ?_
        rotate_left
        · (intro w hSw; (have c0 := hSw.q.c0; have c1 := hSw.q.c1; have c2 := hSw.q.c2; have c3 := hSw.q.c3; have c4 := hSw.q.c4; have c5 := hSw.q.c5; have c6 := hSw.q.c6; have c7 := hSw.q.c7; simp only at c0 c1 c2 c5 c6 c7); go_simp; (try with_reducible rfl))
        try simp only [Act.put, List.getElem_toArray, List.getElem_cons_zero, List.getElem_cons_succ, List.setIfInBounds_toArray, List.set_cons_zero, List.set_cons_succ]
        refine wpAnyH_ready (rs := [10]) (by kernel_rfl) (by simp) ?_
        refine AllReadyH.cons rfl (fun K hK => ?_) AllReadyH.nil
        rw [if_pos (by rfl)]
        go_simp
        refine (CE.out _).mono ?_
        rintro e wy3 ⟨rfl, hb⟩
        have HY3 := Lib.hid (HY2.out.go hb)
        clear hb
        refine hK.out _ _ ?_ (fun hHeld => ?_)
        · exact HY3.out
        clear hK K
        try simp only [Act.put, List.getElem_toArray, List.getElem_cons_zero, List.getElem_cons_succ, List.setIfInBounds_toArray, List.set_cons_zero, List.set_cons_succ]
        refine wpAnyH_take (i := 11) (v := ?_) rfl (by kernel_rfl) (by kernel_rfl) (by kernel_rfl) (fun _ _ _ h => h) (Or.inl ⟨by rfl, ?_⟩) (by assumption) ?_
        rotate_left
        · (intro w hSw; (have c0 := hSw.q.c0; have c1 := hSw.q.c1; have c2 := hSw.q.c2; have c3 := hSw.q.c3; have c4 := hSw.q.c4; have c5 := hSw.q.c5; have c6 := hSw.q.c6; have c7 := hSw.q.c7; simp only at c0 c1 c2 c5 c6 c7); go_simp; (try with_reducible rfl))
        try simp only [Act.put, List.getElem_toArray, List.getElem_cons_zero, List.getElem_cons_succ, List.setIfInBounds_toArray, List.set_cons_zero, List.set_cons_succ]
        refine wpAnyH_take (i := 12) (v := ?_) rfl (by kernel_rfl) (by kernel_rfl) (by kernel_rfl) (fun _ _ _ h => h) (Or.inl ⟨by rfl, ?_⟩) (by assumption) ?_
        rotate_left
        · (intro w hSw; (have c0 := hSw.q.c0; have c1 := hSw.q.c1; have c2 := hSw.q.c2; have c3 := hSw.q.c3; have c4 := hSw.q.c4; have c5 := hSw.q.c5; have c6 := hSw.q.c6; have c7 := hSw.q.c7; simp only at c0 c1 c2 c5 c6 c7); go_simp; (try with_reducible rfl))
        try simp only [Act.put, List.getElem_toArray, List.getElem_cons_zero, List.getElem_cons_succ, List.setIfInBounds_toArray, List.set_cons_zero, List.set_cons_succ]
        refine wpAnyH_take (i := 13) (v := ?_) rfl (by kernel_rfl) (by kernel_rfl) (by kernel_rfl) (fun _ _ _ h => h) (Or.inl ⟨by rfl, ?_⟩) (by assumption) ?_
        rotate_left
        · (intro w hSw; (have c0 := hSw.q.c0; have c1 := hSw.q.c1; have c2 := hSw.q.c2; have c3 := hSw.q.c3; have c4 := hSw.q.c4; have c5 := hSw.q.c5; have c6 := hSw.q.c6; have c7 := hSw.q.c7; simp only at c0 c1 c2 c5 c6 c7); go_simp; (try with_reducible rfl))
        try simp only [Act.put, List.getElem_toArray, List.getElem_cons_zero, List.getElem_cons_succ, List.setIfInBounds_toArray, List.set_cons_zero, List.set_cons_succ]
        refine wpAnyH_take (i := 14) (v := ?_) rfl (by kernel_rfl) (by kernel_rfl) (by kernel_rfl) (fun _ _ _ h => h) (Or.inl ⟨by rfl, ?_⟩) (by assumption) ?_
        rotate_left
        · (intro w hSw; (have c0 := hSw.q.c0; have c1 := hSw.q.c1; have c2 := hSw.q.c2; have c3 := hSw.q.c3; have c4 := hSw.q.c4; have c5 := hSw.q.c5; have c6 := hSw.q.c6; have c7 := hSw.q.c7; simp only at c0 c1 c2 c5 c6 c7); go_simp; (try with_reducible rfl))
        try simp only [Act.put, List.getElem_toArray, List.getElem_cons_zero, List.getElem_cons_succ, List.setIfInBounds_toArray, List.set_cons_zero, List.set_cons_succ]
        refine wpAnyH_take (i := 15) (v := ?_) rfl (by kernel_rfl) (by kernel_rfl) (by kernel_rfl) (fun _ _ _ h => h) (Or.inl ⟨by rfl, ?_⟩) (by assumption) ?_
        rotate_left
        · (intro w hSw; (have c0 := hSw.q.c0; have c1 := hSw.q.c1; have c2 := hSw.q.c2; have c3 := hSw.q.c3; have c4 := hSw.q.c4; have c5 := hSw.q.c5; have c6 := hSw.q.c6; have c7 := hSw.q.c7; simp only at c0 c1 c2 c5 c6 c7); go_simp; (try with_reducible rfl))
        try simp only [Act.put, List.getElem_toArray, List.getElem_cons_zero, List.getElem_cons_succ, List.setIfInBounds_toArray, List.set_cons_zero, List.set_cons_succ]
        refine wpAnyH_take (i := 16) (v := ?_) rfl (by kernel_rfl) (by kernel_rfl) (by kernel_rfl) (fun _ _ _ h => h) (Or.inl ⟨by rfl, ?_⟩) (by assumption) ?_
        rotate_left
        · (intro w hSw; (have c0 := hSw.q.c0; have c1 := hSw.q.c1; have c2 := hSw.q.c2; have c3 := hSw.q.c3; have c4 := hSw.q.c4; have c5 := hSw.q.c5; have c6 := hSw.q.c6; have c7 := hSw.q.c7; simp only at c0 c1 c2 c5 c6 c7); go_simp; (try with_reducible rfl))
        try simp only [Act.put, List.getElem_toArray, List.getElem_cons_zero, List.getElem_cons_succ, List.setIfInBounds_toArray, List.set_cons_zero, List.set_cons_succ]
        refine wpAnyH_done (by kernel_rfl) (NoPanic.normal ?_) _
        go_wp2_with fail
        exact bodyPost_ret (v := .tuple #[.int .u64 M, .string D, .bool false, .bool true]) (by simp [results, Try.results30, go_sem]) rfl ⟨by rw [hN2.out], HY3.out.bl⟩
  · rw [if_neg hlt] at hN2
    have d1 : decide (R ≤ M) = true := decide_eq_true (by omega)
    replace hN2 := Lib.hid hN2
    clear hlt CB CT CE
    go_enter Try.func30, Try.ntmps30
    go_wp2_with fail
    refine wp_region_noPanic ?_
    refine wp_region_held_drew (S := fun W : World => QR w W u v ⟨ba, tp, d, ak, td, fin, ft, fa⟩ ∧ Bk2 W (w.heap.size + 1) 68 (.int .u64 lo) (.int .u64 hi)) (by kernel_rfl) ?_ (fun hHeld => ?_)
    · exact ⟨HS0.out.dr, HR0.out.go (Below.refl _ _).drew⟩
    refine wpAnyH_take (i := 0) (v := ?_) rfl (by kernel_rfl) (by kernel_rfl) (by kernel_rfl) (fun _ _ _ h => h) (Or.inl ⟨by rfl, ?_⟩) (by assumption) ?_
    rotate_left
    · (intro w hSw; (have c0 := hSw.1.q.c0; have c1 := hSw.1.q.c1; have c2 := hSw.1.q.c2; have c3 := hSw.1.q.c3; have c4 := hSw.1.q.c4; have c5 := hSw.1.q.c5; have c6 := hSw.1.q.c6; have c7 := hSw.1.q.c7; simp only at c0 c1 c2 c5 c6 c7; have e0 := hSw.2.c0; have e1 := hSw.2.c1); go_simp; (try with_reducible rfl))
    try simp only [Act.put, List.getElem_toArray, List.getElem_cons_zero, List.getElem_cons_succ, List.setIfInBounds_toArray, List.set_cons_zero, List.set_cons_succ]
    refine wpAnyH_take (i := 1) (v := ?_) rfl (by kernel_rfl) (by kernel_rfl) (by kernel_rfl) (fun _ _ _ h => h) (Or.inl ⟨by rfl, ?_⟩) (by assumption) ?_
    rotate_left
    · (intro w hSw; (have c0 := hSw.1.q.c0; have c1 := hSw.1.q.c1; have c2 := hSw.1.q.c2; have c3 := hSw.1.q.c3; have c4 := hSw.1.q.c4; have c5 := hSw.1.q.c5; have c6 := hSw.1.q.c6; have c7 := hSw.1.q.c7; simp only at c0 c1 c2 c5 c6 c7; have e0 := hSw.2.c0; have e1 := hSw.2.c1); go_simp; (try with_reducible rfl))
    try simp only [Act.put, List.getElem_toArray, List.getElem_cons_zero, List.getElem_cons_succ, List.setIfInBounds_toArray, List.set_cons_zero, List.set_cons_succ]
    refine wpAnyH_take (i := 2) (v := ?_) rfl (by kernel_rfl) (by kernel_rfl) (by kernel_rfl) (fun _ _ _ h => h) (Or.inl ⟨by rfl, ?_⟩) (by assumption) ?_
    rotate_left
    · (intro w hSw; (have c0 := hSw.1.q.c0; have c1 := hSw.1.q.c1; have c2 := hSw.1.q.c2; have c3 := hSw.1.q.c3; have c4 := hSw.1.q.c4; have c5 := hSw.1.q.c5; have c6 := hSw.1.q.c6; have c7 := hSw.1.q.c7; simp only at c0 c1 c2 c5 c6 c7; have e0 := hSw.2.c0; have e1 := hSw.2.c1); go_simp; (try with_reducible rfl))
    try simp only [Act.put, List.getElem_toArray, List.getElem_cons_zero, List.getElem_cons_succ, List.setIfInBounds_toArray, List.set_cons_zero, List.set_cons_succ]
    refine wpAnyH_take (i := 4) (v := ?_) rfl (by kernel_rfl) (by kernel_rfl) (by kernel_rfl) (fun _ _ _ h => h) (Or.inl ⟨by rfl, ?_⟩) (by assumption) ?_
    rotate_left
    · (intro w hSw; (have c0 := hSw.1.q.c0; have c1 := hSw.1.q.c1; have c2 := hSw.1.q.c2; have c3 := hSw.1.q.c3; have c4 := hSw.1.q.c4; have c5 := hSw.1.q.c5; have c6 := hSw.1.q.c6; have c7 := hSw.1.q.c7; simp only at c0 c1 c2 c5 c6 c7; have e0 := hSw.2.c0; have e1 := hSw.2.c1); go_simp; (try with_reducible rfl))
    try simp only [Act.put, List.getElem_toArray, List.getElem_cons_zero, List.getElem_cons_succ, List.setIfInBounds_toArray, List.set_cons_zero, List.set_cons_succ]
    refine wpAnyH_take (i := 5) (v := ?_) rfl (by kernel_rfl) (by kernel_rfl) (by kernel_rfl) (fun _ _ _ h => h) (Or.inl ⟨by rfl, ?_⟩) (by assumption) ?_
    rotate_left
    · (intro w hSw; (have c0 := hSw.1.q.c0; have c1 := hSw.1.q.c1; have c2 := hSw.1.q.c2; have c3 := hSw.1.q.c3; have c4 := hSw.1.q.c4; have c5 := hSw.1.q.c5; have c6 := hSw.1.q.c6; have c7 := hSw.1.q.c7; simp only at c0 c1 c2 c5 c6 c7; have e0 := hSw.2.c0; have e1 := hSw.2.c1); go_simp; (try with_reducible rfl))
    try simp only [Act.put, List.getElem_toArray, List.getElem_cons_zero, List.getElem_cons_succ, List.setIfInBounds_toArray, List.set_cons_zero, List.set_cons_succ]
    refine wpAnyH_take (i := 6) (v := ?_) rfl (by kernel_rfl) (by kernel_rfl) (by kernel_rfl) (fun _ _ _ h => h) (Or.inl ⟨by rfl, ?_⟩) (by assumption) ?_
    rotate_left
    · (intro w hSw; (have c0 := hSw.1.q.c0; have c1 := hSw.1.q.c1; have c2 := hSw.1.q.c2; have c3 := hSw.1.q.c3; have c4 := hSw.1.q.c4; have c5 := hSw.1.q.c5; have c6 := hSw.1.q.c6; have c7 := hSw.1.q.c7; simp only at c0 c1 c2 c5 c6 c7; have e0 := hSw.2.c0; have e1 := hSw.2.c1); go_simp; (try with_reducible rfl))
    try simp only [Act.put, List.getElem_toArray, List.getElem_cons_zero, List.getElem_cons_succ, List.setIfInBounds_toArray, List.set_cons_zero, List.set_cons_succ]
    refine wpAnyH_take (i := 7) (v := ?_) rfl (by kernel_rfl) (by kernel_rfl) (by kernel_rfl) (fun _ _ _ h => h) (Or.inl ⟨by rfl, ?_⟩) (by assumption) ?_
    rotate_left
    · (intro w hSw; (have c0 := hSw.1.q.c0; have c1 := hSw.1.q.c1; have c2 := hSw.1.q.c2; have c3 := hSw.1.q.c3; have c4 := hSw.1.q.c4; have c5 := hSw.1.q.c5; have c6 := hSw.1.q.c6; have c7 := hSw.1.q.c7; simp only at c0 c1 c2 c5 c6 c7; have e0 := hSw.2.c0; have e1 := hSw.2.c1); go_simp; (try with_reducible rfl))
    try simp only [Act.put, List.getElem_toArray, List.getElem_cons_zero, List.getElem_cons_succ, List.setIfInBounds_toArray, List.set_cons_zero, List.set_cons_succ]
    refine wpAnyH_ready (rs := [3]) (by kernel_rfl) (by simp) ?_
    refine AllReadyH.cons rfl (fun K hK => ?_) AllReadyH.nil
    rw [if_pos (by rfl)]
    go_simp
    refine (CR.out _ HS0.out.dr.q.ra HS0.out.dr.q.rt).mono ?_
    rintro e w1 ⟨rfl, hb⟩
    have HS1 := Lib.hid (HS0.out.dr.go hb)
    have HR1 := Lib.hid ((HR0.out.go (Below.refl _ _).drew).go hb)
    clear hb
    refine hK.out _ _ ?_ (fun hHeld => ?_)
    · exact ⟨HS1.out, HR1.out⟩
    clear hK K
    try simp only [Act.put, List.getElem_toArray, List.getElem_cons_zero, List.getElem_cons_succ, List.setIfInBounds_toArray, List.set_cons_zero, List.set_cons_succ]
    refine wpAnyH_take (i := 8) (v := ?_) rfl (by kernel_rfl) (by kernel_rfl) (by kernel_rfl) (fun _ _ _ h => h) (Or.inl ⟨by rfl, ?_⟩) (by assumption) ?_
    rotate_left
    · (intro w hSw; (have c0 := hSw.1.q.c0; have c1 := hSw.1.q.c1; have c2 := hSw.1.q.c2; have c3 := hSw.1.q.c3; have c4 := hSw.1.q.c4; have c5 := hSw.1.q.c5; have c6 := hSw.1.q.c6; have c7 := hSw.1.q.c7; simp only at c0 c1 c2 c5 c6 c7; have e0 := hSw.2.c0; have e1 := hSw.2.c1); go_simp; (try with_reducible rfl))
    try simp only [Act.put, List.getElem_toArray, List.getElem_cons_zero, List.getElem_cons_succ, List.setIfInBounds_toArray, List.set_cons_zero, List.set_cons_succ]
    refine wpAnyH_take (i := 9) (v := ?_) rfl (by kernel_rfl) (by kernel_rfl) (by kernel_rfl) (fun _ _ _ h => h) (Or.inl ⟨by rfl, ?_⟩) (by assumption) ?_
    rotate_left
    · (intro w hSw; (have c0 := hSw.1.q.c0; have c1 := hSw.1.q.c1; have c2 := hSw.1.q.c2; have c3 := hSw.1.q.c3; have c4 := hSw.1.q.c4; have c5 := hSw.1.q.c5; have c6 := hSw.1.q.c6; have c7 := hSw.1.q.c7; simp only at c0 c1 c2 c5 c6 c7; have e0 := hSw.2.c0; have e1 := hSw.2.c1); go_simp; (try with_reducible rfl))
    try simp only [Act.put, List.getElem_toArray, List.getElem_cons_zero, List.getElem_cons_succ, List.setIfInBounds_toArray, List.set_cons_zero, List.set_cons_succ]
    refine wpAnyH_done (by kernel_rfl) (NoPanic.normal ?_) _
    clear HR0 HS0
    go_wp2_with fail
    exact bodyPost_ret (v := .tuple #[.int .u64 0, .string ⟨#[]⟩, .bool false, .bool false]) (by simp [results, Try.results30, go_sem]) rfl ⟨by rw [hN2.out, nx0], HS1.out.bl⟩
set_option maxHeartbeats 2000000 in
theorem next_any (s : SS) (a1 : Option Addr) (n1 c1 : Nat) (a2 : Option Addr) (n2 c2 : Nat) (most credit : Int) (w : World) (hs : SsOk s) (ha : Rd w (.slice a1 n1 c1) s.ak) (ht : Rd w (.slice a2 n2 c2) s.td) (h5 : most < 9223372036854775808) (h6 : 0 ≤ credit) (N : NX) (hN : nxt s most credit = N) :
    Calls Try.prog 10 #[.agg #[.int .u64 s.ba, .int .u64 s.tp, .string s.d, .slice a1 n1 c1, .slice a2 n2 c2, .bool s.fin, .bool s.ft, .bool s.fa], .int .i64 most, .int .u64 credit] w fun e w' => e = .returned (.tuple #[.int .u64 N.off, .string N.d, .bool N.fin, .bool N.iz]) ∧ Below w.heap.size w w' := by
  have hn2 := rd_len ht
  have HS0 := Lib.hid (qr_made w (.slice a1 n1 c1) (.slice a2 n2 c2) s ha ht)
  rcases htd : s.td with _ | ⟨x, m⟩
  · have CE := Lib.hid (fun W => nextEnd_any s (.slice a1 n1 c1) (.slice a2 n2 c2) W hs.b0 hs.b1 htd most credit)
    rw [hN] at CE
    rw [htd] at hn2
    obtain rfl : n2 = 0 := hn2
    clear hs ha ht h5 h6 hN htd
    obtain ⟨ba, tp, d, ak, td, fin, ft, fa⟩ := s
    simp only at CE HS0 ⊢
    obtain ⟨o1, o2, o3, o4⟩ := N
    simp only at CE ⊢
    go_enter Try.func10, Try.ntmps10
    go_wp2_with fail
    refine (CE.out _).mono ?_
    rintro e w1 ⟨rfl, hb⟩
    have HS1 := Lib.hid (HS0.out.go hb)
    clear hb
    go_wp2_with fail
    exact bodyPost_ret (v := .tuple #[.int .u64 o1, .string o2, .bool o3, .bool o4]) (by simp [results, Try.results10, go_sem]) rfl ⟨rfl, HS1.out.bl⟩
  · have hg := hs.ct.good x (by rw [htd]; simp)
    have hN2 : nxo s most credit x = N := by rw [← hN]; unfold nxt; rw [htd]
    obtain ⟨x1, x2⟩ := x
    have CO := Lib.hid (fun W (k1 : Rd W (.slice a1 n1 c1) s.ak) (k2 : Rd W (.slice a2 n2 c2) s.td) => nextOf_any s (.slice a1 n1 c1) (.slice a2 n2 c2) x1 x2 most credit W hs k1 k2 hg.1 hg.2.2 hg.2.1 h5 h6 N hN2)
    rw [htd] at hn2 ht
    obtain ⟨b2, o2, rfl, hcc⟩ := rd_some ht
    have hk0 : 0 < n2 := by rw [hn2]; simp
    have d0 : ((n2 : Int) == 0) = false := by rw [beq_eq_false_iff_ne]; omega
    have k0 : (0 : Int) < n2 := by omega
    clear hs ha ht h5 h6 hN hN2 hg hn2
    obtain ⟨ba, tp, d, ak, td, fin, ft, fa⟩ := s
    simp only at CO HS0 htd ⊢
    subst htd
    obtain ⟨o1, oo2, o3, o4⟩ := N
    simp only at CO ⊢
    go_enter Try.func10, Try.ntmps10
    go_wp2_with fail
    refine wp_region_noPanic ?_
    refine wp_region_held_drew (S := fun W : World => QR w W (.slice a1 n1 c1) (.slice (some ⟨b2, o2, none⟩) n2 c2) ⟨ba, tp, d, ak, (x1, x2) :: m, fin, ft, fa⟩) (by kernel_rfl) ?_ (fun hHeld => ?_)
    · exact HS0.out.dr
    refine wpAnyH_take (i := 0) (v := ?_) rfl (by kernel_rfl) (by kernel_rfl) (by kernel_rfl) (fun _ _ _ h => h) (Or.inl ⟨by rfl, ?_⟩) (by assumption) ?_
    rotate_left
    · (intro w hSw; (have c0 := hSw.q.c0; have c1 := hSw.q.c1; have c2 := hSw.q.c2; have c3 := hSw.q.c3; have c4 := hSw.q.c4; have c5 := hSw.q.c5; have c6 := hSw.q.c6; have c7 := hSw.q.c7; simp only at c0 c1 c2 c5 c6 c7; have g := rd_first hSw.q.rt; have g0 := g.1; have g1 := g.2; clear g); go_simp; (try with_reducible rfl))
    try simp only [Act.put, List.getElem_toArray, List.getElem_cons_zero, List.getElem_cons_succ, List.setIfInBounds_toArray, List.set_cons_zero, List.set_cons_succ]
    refine wpAnyH_take (i := 1) (v := ?_) rfl (by kernel_rfl) (by kernel_rfl) (by kernel_rfl) (fun _ _ _ h => h) (Or.inl ⟨by rfl, ?_⟩) (by assumption) ?_
    rotate_left
    · (intro w hSw; (have c0 := hSw.q.c0; have c1 := hSw.q.c1; have c2 := hSw.q.c2; have c3 := hSw.q.c3; have c4 := hSw.q.c4; have c5 := hSw.q.c5; have c6 := hSw.q.c6; have c7 := hSw.q.c7; simp only at c0 c1 c2 c5 c6 c7; have g := rd_first hSw.q.rt; have g0 := g.1; have g1 := g.2; clear g); go_simp; (try with_reducible rfl))
    try simp only [Act.put, List.getElem_toArray, List.getElem_cons_zero, List.getElem_cons_succ, List.setIfInBounds_toArray, List.set_cons_zero, List.set_cons_succ]
    refine wpAnyH_take (i := 2) (v := ?_) rfl (by kernel_rfl) (by kernel_rfl) (by kernel_rfl) (fun _ _ _ h => h) (Or.inl ⟨by rfl, ?_⟩) (by assumption) ?_
    rotate_left
    · (intro w hSw; (have c0 := hSw.q.c0; have c1 := hSw.q.c1; have c2 := hSw.q.c2; have c3 := hSw.q.c3; have c4 := hSw.q.c4; have c5 := hSw.q.c5; have c6 := hSw.q.c6; have c7 := hSw.q.c7; simp only at c0 c1 c2 c5 c6 c7; have g := rd_first hSw.q.rt; have g0 := g.1; have g1 := g.2; clear g); go_simp; (try with_reducible rfl))
    try simp only [Act.put, List.getElem_toArray, List.getElem_cons_zero, List.getElem_cons_succ, List.setIfInBounds_toArray, List.set_cons_zero, List.set_cons_succ]
    refine wpAnyH_take (i := 3) (v := ?_) rfl (by kernel_rfl) (by kernel_rfl) (by kernel_rfl) (fun _ _ _ h => h) (Or.inl ⟨by rfl, ?_⟩) (by assumption) ?_
    rotate_left
    · (intro w hSw; (have c0 := hSw.q.c0; have c1 := hSw.q.c1; have c2 := hSw.q.c2; have c3 := hSw.q.c3; have c4 := hSw.q.c4; have c5 := hSw.q.c5; have c6 := hSw.q.c6; have c7 := hSw.q.c7; simp only at c0 c1 c2 c5 c6 c7; have g := rd_first hSw.q.rt; have g0 := g.1; have g1 := g.2; clear g); go_simp; (try with_reducible rfl))
    try simp only [Act.put, List.getElem_toArray, List.getElem_cons_zero, List.getElem_cons_succ, List.setIfInBounds_toArray, List.set_cons_zero, List.set_cons_succ]
    refine wpAnyH_take (i := 4) (v := ?_) rfl (by kernel_rfl) (by kernel_rfl) (by kernel_rfl) (fun _ _ _ h => h) (Or.inl ⟨by rfl, ?_⟩) (by assumption) ?_
    rotate_left
    · (intro w hSw; (have c0 := hSw.q.c0; have c1 := hSw.q.c1; have c2 := hSw.q.c2; have c3 := hSw.q.c3; have c4 := hSw.q.c4; have c5 := hSw.q.c5; have c6 := hSw.q.c6; have c7 := hSw.q.c7; simp only at c0 c1 c2 c5 c6 c7; have g := rd_first hSw.q.rt; have g0 := g.1; have g1 := g.2; clear g); go_simp; (try with_reducible rfl))
    try simp only [Act.put, List.getElem_toArray, List.getElem_cons_zero, List.getElem_cons_succ, List.setIfInBounds_toArray, List.set_cons_zero, List.set_cons_succ]
    refine wpAnyH_take (i := 5) (v := ?_) rfl (by kernel_rfl) (by kernel_rfl) (by kernel_rfl) (fun _ _ _ h => h) (Or.inl ⟨by rfl, ?_⟩) (by assumption) ?_
    rotate_left
    · (intro w hSw; (have c0 := hSw.q.c0; have c1 := hSw.q.c1; have c2 := hSw.q.c2; have c3 := hSw.q.c3; have c4 := hSw.q.c4; have c5 := hSw.q.c5; have c6 := hSw.q.c6; have c7 := hSw.q.c7; simp only at c0 c1 c2 c5 c6 c7; have g := rd_first hSw.q.rt; have g0 := g.1; have g1 := g.2; clear g); go_simp; (try with_reducible rfl))
    try simp only [Act.put, List.getElem_toArray, List.getElem_cons_zero, List.getElem_cons_succ, List.setIfInBounds_toArray, List.set_cons_zero, List.set_cons_succ]
    refine wpAnyH_take (i := 6) (v := ?_) rfl (by kernel_rfl) (by kernel_rfl) (by kernel_rfl) (fun _ _ _ h => h) (Or.inl ⟨by rfl, ?_⟩) (by assumption) ?_
    rotate_left
    · (intro w hSw; (have c0 := hSw.q.c0; have c1 := hSw.q.c1; have c2 := hSw.q.c2; have c3 := hSw.q.c3; have c4 := hSw.q.c4; have c5 := hSw.q.c5; have c6 := hSw.q.c6; have c7 := hSw.q.c7; simp only at c0 c1 c2 c5 c6 c7; have g := rd_first hSw.q.rt; have g0 := g.1; have g1 := g.2; clear g); go_simp; (try with_reducible rfl))
    try simp only [Act.put, List.getElem_toArray, List.getElem_cons_zero, List.getElem_cons_succ, List.setIfInBounds_toArray, List.set_cons_zero, List.set_cons_succ]
    refine wpAnyH_ready (rs := [7]) (by kernel_rfl) (by simp) ?_
    refine AllReadyH.cons rfl (fun K hK => ?_) AllReadyH.nil
    rw [if_pos (by rfl)]
    go_simp
    refine (CO.out _ HS0.out.dr.q.ra HS0.out.dr.q.rt).mono ?_
    rintro e w1 ⟨rfl, hb⟩
    have HS1 := Lib.hid (HS0.out.dr.go hb)
    clear hb
    refine hK.out _ _ ?_ (fun hHeld => ?_)
    · exact HS1.out
    clear hK K
    try simp only [Act.put, List.getElem_toArray, List.getElem_cons_zero, List.getElem_cons_succ, List.setIfInBounds_toArray, List.set_cons_zero, List.set_cons_succ]
    refine wpAnyH_take (i := 8) (v := ?_) rfl (by kernel_rfl) (by kernel_rfl) (by kernel_rfl) (fun _ _ _ h => h) (Or.inl ⟨by rfl, ?_⟩) (by assumption) ?_
    rotate_left
    · (intro w hSw; (have c0 := hSw.q.c0; have c1 := hSw.q.c1; have c2 := hSw.q.c2; have c3 := hSw.q.c3; have c4 := hSw.q.c4; have c5 := hSw.q.c5; have c6 := hSw.q.c6; have c7 := hSw.q.c7; simp only at c0 c1 c2 c5 c6 c7; have g := rd_first hSw.q.rt; have g0 := g.1; have g1 := g.2; clear g); go_simp; (try with_reducible rfl))
    try simp only [Act.put, List.getElem_toArray, List.getElem_cons_zero, List.getElem_cons_succ, List.setIfInBounds_toArray, List.set_cons_zero, List.set_cons_succ]
    refine wpAnyH_take (i := 9) (v := ?_) rfl (by kernel_rfl) (by kernel_rfl) (by kernel_rfl) (fun _ _ _ h => h) (Or.inl ⟨by rfl, ?_⟩) (by assumption) ?_
    rotate_left
    · (intro w hSw; (have c0 := hSw.q.c0; have c1 := hSw.q.c1; have c2 := hSw.q.c2; have c3 := hSw.q.c3; have c4 := hSw.q.c4; have c5 := hSw.q.c5; have c6 := hSw.q.c6; have c7 := hSw.q.c7; simp only at c0 c1 c2 c5 c6 c7; have g := rd_first hSw.q.rt; have g0 := g.1; have g1 := g.2; clear g); go_simp; (try with_reducible rfl))
    try simp only [Act.put, List.getElem_toArray, List.getElem_cons_zero, List.getElem_cons_succ, List.setIfInBounds_toArray, List.set_cons_zero, List.set_cons_succ]
    refine wpAnyH_take (i := 10) (v := ?_) rfl (by kernel_rfl) (by kernel_rfl) (by kernel_rfl) (fun _ _ _ h => h) (Or.inl ⟨by rfl, ?_⟩) (by assumption) ?_
    rotate_left
    · (intro w hSw; (have c0 := hSw.q.c0; have c1 := hSw.q.c1; have c2 := hSw.q.c2; have c3 := hSw.q.c3; have c4 := hSw.q.c4; have c5 := hSw.q.c5; have c6 := hSw.q.c6; have c7 := hSw.q.c7; simp only at c0 c1 c2 c5 c6 c7; have g := rd_first hSw.q.rt; have g0 := g.1; have g1 := g.2; clear g); go_simp; (try with_reducible rfl))
    try simp only [Act.put, List.getElem_toArray, List.getElem_cons_zero, List.getElem_cons_succ, List.setIfInBounds_toArray, List.set_cons_zero, List.set_cons_succ]
    refine wpAnyH_take (i := 11) (v := ?_) rfl (by kernel_rfl) (by kernel_rfl) (by kernel_rfl) (fun _ _ _ h => h) (Or.inl ⟨by rfl, ?_⟩) (by assumption) ?_
    rotate_left
    · (intro w hSw; (have c0 := hSw.q.c0; have c1 := hSw.q.c1; have c2 := hSw.q.c2; have c3 := hSw.q.c3; have c4 := hSw.q.c4; have c5 := hSw.q.c5; have c6 := hSw.q.c6; have c7 := hSw.q.c7; simp only at c0 c1 c2 c5 c6 c7; have g := rd_first hSw.q.rt; have g0 := g.1; have g1 := g.2; clear g); go_simp; (try with_reducible rfl))
    try simp only [Act.put, List.getElem_toArray, List.getElem_cons_zero, List.getElem_cons_succ, List.setIfInBounds_toArray, List.set_cons_zero, List.set_cons_succ]
    refine wpAnyH_take (i := 12) (v := ?_) rfl (by kernel_rfl) (by kernel_rfl) (by kernel_rfl) (fun _ _ _ h => h) (Or.inl ⟨by rfl, ?_⟩) (by assumption) ?_
    rotate_left
    · (intro w hSw; (have c0 := hSw.q.c0; have c1 := hSw.q.c1; have c2 := hSw.q.c2; have c3 := hSw.q.c3; have c4 := hSw.q.c4; have c5 := hSw.q.c5; have c6 := hSw.q.c6; have c7 := hSw.q.c7; simp only at c0 c1 c2 c5 c6 c7; have g := rd_first hSw.q.rt; have g0 := g.1; have g1 := g.2; clear g); go_simp; (try with_reducible rfl))
    try simp only [Act.put, List.getElem_toArray, List.getElem_cons_zero, List.getElem_cons_succ, List.setIfInBounds_toArray, List.set_cons_zero, List.set_cons_succ]
    refine wpAnyH_take (i := 13) (v := ?_) rfl (by kernel_rfl) (by kernel_rfl) (by kernel_rfl) (fun _ _ _ h => h) (Or.inl ⟨by rfl, ?_⟩) (by assumption) ?_
    rotate_left
    · (intro w hSw; (have c0 := hSw.q.c0; have c1 := hSw.q.c1; have c2 := hSw.q.c2; have c3 := hSw.q.c3; have c4 := hSw.q.c4; have c5 := hSw.q.c5; have c6 := hSw.q.c6; have c7 := hSw.q.c7; simp only at c0 c1 c2 c5 c6 c7; have g := rd_first hSw.q.rt; have g0 := g.1; have g1 := g.2; clear g); go_simp; (try with_reducible rfl))
    try simp only [Act.put, List.getElem_toArray, List.getElem_cons_zero, List.getElem_cons_succ, List.setIfInBounds_toArray, List.set_cons_zero, List.set_cons_succ]
    refine wpAnyH_take (i := 14) (v := ?_) rfl (by kernel_rfl) (by kernel_rfl) (by kernel_rfl) (fun _ _ _ h => h) (Or.inl ⟨by rfl, ?_⟩) (by assumption) ?_
    rotate_left
    · (intro w hSw; (have c0 := hSw.q.c0; have c1 := hSw.q.c1; have c2 := hSw.q.c2; have c3 := hSw.q.c3; have c4 := hSw.q.c4; have c5 := hSw.q.c5; have c6 := hSw.q.c6; have c7 := hSw.q.c7; simp only at c0 c1 c2 c5 c6 c7; have g := rd_first hSw.q.rt; have g0 := g.1; have g1 := g.2; clear g); go_simp; (try with_reducible rfl))
    try simp only [Act.put, List.getElem_toArray, List.getElem_cons_zero, List.getElem_cons_succ, List.setIfInBounds_toArray, List.set_cons_zero, List.set_cons_succ]
    refine wpAnyH_take (i := 15) (v := ?_) rfl (by kernel_rfl) (by kernel_rfl) (by kernel_rfl) (fun _ _ _ h => h) (Or.inl ⟨by rfl, ?_⟩) (by assumption) ?_
    rotate_left
    · (intro w hSw; (have c0 := hSw.q.c0; have c1 := hSw.q.c1; have c2 := hSw.q.c2; have c3 := hSw.q.c3; have c4 := hSw.q.c4; have c5 := hSw.q.c5; have c6 := hSw.q.c6; have c7 := hSw.q.c7; simp only at c0 c1 c2 c5 c6 c7; have g := rd_first hSw.q.rt; have g0 := g.1; have g1 := g.2; clear g); go_simp; (try with_reducible rfl))
    try simp only [Act.put, List.getElem_toArray, List.getElem_cons_zero, List.getElem_cons_succ, List.setIfInBounds_toArray, List.set_cons_zero, List.set_cons_succ]
    refine wpAnyH_done (by kernel_rfl) (NoPanic.normal ?_) _
    go_wp2_with fail
    exact bodyPost_ret (v := .tuple #[.int .u64 o1, .string oo2, .bool o3, .bool o4]) (by simp [results, Try.results10, go_sem]) rfl ⟨rfl, HS1.out.bl⟩
set_option maxHeartbeats 1000000 in
theorem done_any (s : SS) (u v : Value) (w : World) :
    Calls Try.prog 24 #[.agg #[.int .u64 s.ba, .int .u64 s.tp, .string s.d, u, v, .bool s.fin, .bool s.ft, .bool s.fa]] w fun e w' => e = .returned (.bool (doneB s)) ∧ Below w.heap.size w w' := by
  unfold doneB
  obtain ⟨ba, tp, d, ak, td, fin, ft, fa⟩ := s
  simp only
  cases fin with
  | false =>
    go_enter Try.func24, Try.ntmps24
    go_wp2
    go_ret
    exact ⟨rfl, (Below.refl _ _).alloc (Nat.le_refl _) _⟩
  | true =>
    cases fa with
    | false =>
      go_enter Try.func24, Try.ntmps24
      go_wp2
      go_ret
      exact ⟨rfl, (Below.refl _ _).alloc (Nat.le_refl _) _⟩
    | true =>
      by_cases hd : d.size = 0
      · have d1 := isEmptyY hd
        rw [decide_eq_true hd]
        replace hd := Lib.hid hd
        go_enter Try.func24, Try.ntmps24
        go_wp2
        go_ret
        exact ⟨rfl, (Below.refl _ _).alloc (Nat.le_refl _) _⟩
      · have d1 := isEmptyG (D := d) (by omega)
        rw [decide_eq_false hd]
        replace hd := Lib.hid hd
        go_enter Try.func24, Try.ntmps24
        go_wp2
        go_ret
        exact ⟨rfl, (Below.refl _ _).alloc (Nat.le_refl _) _⟩
end Go.Proofs.Ytedijfcagkedaaa.Rg
