/- The document's functions of layer 6: the parts of an Ack. By tools/gen-frame-33.py. -/
import Derived.Test.YtpdfdhmhfdogcaaDoorFpC
import Derived.Test.YtpdfdhmhfdogcaaDoorFpB
import Derived.Deep.RegionHeld3
namespace Go.Proofs.YtpdfdhmhfdogcaaDoor.Fm
set_option maxRecDepth 20000
open Go.RowKit Vm
set_option linter.unusedVariables false
set_option linter.unusedSimpArgs false

theorem v_nat (n : Nat) (h : n < 4611686018427387904) (w : World) : Calls Tryd.prog 26 #[.int .u64 (n : Nat)] w fun e w' => e = .returned (.string ⟨(pt n).toArray⟩) ∧ Below w.heap.size w w' := by
  have := rv_ok (n : Nat) w (by omega) (by omega)
  rwa [Int.toNat_natCast] at this
set_option maxHeartbeats 16000000 in
theorem rack (f : Frm) (rs : List (Nat × Nat)) (dl : Nat) (w : World) (hd : f.delay = (dl : Nat)) (hdl : dl < 4611686018427387904) (hrd : Rd w (.slice f.set.a f.set.n f.set.c) (ints rs)) (hl1 : 1 ≤ rs.length) (hl2 : rs.length ≤ 32) (hm : MayP (ints rs)) (hh : (rs.getD (rs.length - 1) (0, 0)).2 < 4611686018427387904) :
    Calls Tryd.prog 27 #[.agg #[.int .u64 f.kind, .int .u64 f.id, .int .u64 f.off, .int .u64 f.max, .int .u64 f.code, .int .u64 f.seq, .int .u64 f.prior, .int .u64 f.delay, .bool f.fin, .string ⟨f.data.toArray⟩, .string ⟨f.cid.toArray⟩, .string ⟨f.token.toArray⟩, .slice f.set.a f.set.n f.set.c]] w fun e w' => e = .returned (.string ⟨(ackP dl rs.reverse).toArray⟩) ∧ Below w.heap.size w w' := by
  obtain ⟨n, hn⟩ : ∃ n, rs.length = n + 1 := ⟨rs.length - 1, by omega⟩
  rw [hn, Nat.add_sub_cancel] at hh
  have HA := Lib.hid (ackW rs n hn hm hh)
  have hlast := last_cut rs n hn
  obtain ⟨sa, sc, he, hcap, hrow⟩ := hrd
  injection he with e1 e2 e3
  rw [ints_len, hn] at e2
  obtain ⟨rb, off, rfl, hc⟩ := hrow (fun h => by have := congrArg List.length h; rw [ints_len, List.length_nil] at this; omega)
  have HC : Hid (∀ i, i < n + 1 → ∀ W, Below w.heap.size w W → W.cell? ⟨rb, off + i * 2, none⟩ = some (.int .u64 ((rs.getD i (0, 0)).1 : Nat)) ∧ W.cell? ⟨rb, off + i * 2 + 1, none⟩ = some (.int .u64 ((rs.getD i (0, 0)).2 : Nat))) := Lib.hid (fun i hi W hb => by
    obtain ⟨c1, c2⟩ := hc i (by rw [ints_len]; omega)
    rw [ints_get] at c1 c2
    have hlt := World.block_lt_of_cell? _ _ c1
    exact ⟨cell_below hb c1 hlt, cell_below hb c2 hlt⟩)
  have E1 := Lib.hid e1
  have E2 := Lib.hid e2
  obtain ⟨lo, hlo⟩ : ∃ x, (rs.getD n (0, 0)).1 = x := ⟨_, rfl⟩
  obtain ⟨hi, hhi⟩ : ∃ x, (rs.getD n (0, 0)).2 = x := ⟨_, rfl⟩
  have hpn := HA.out.num n (by omega)
  have HN1 := Lib.hid (fun W hb => (HC.out n (by omega) W hb).1)
  have HN2 := Lib.hid (fun W hb => (HC.out n (by omega) W hb).2)
  rw [hhi, hlo] at hpn
  rw [hlo] at HN1
  rw [hhi] at HN2
  obtain ⟨d, hdd⟩ : ∃ d, hi - lo = d := ⟨_, rfl⟩
  have hdi : (hi : Int) - (lo : Int) = (d : Int) := by omega
  have CHI := Lib.hid (v_nat hi (by omega))
  have CDL := Lib.hid (v_nat dl hdl)
  have CN := Lib.hid (v_nat n (by omega))
  have CD := Lib.hid (v_nat d (by omega))
  rw [← hd] at CDL
  have hs1 := pt_le8 hi (by omega)
  have hs2 := pt_le8 dl hdl
  have hs3 := pt_le8 n (by omega)
  have hs4 := pt_le8 d (by omega)
  have HT0 : Hid (ackP dl rs.reverse = (pt hi ++ pt dl ++ pt n ++ pt d) ++ ackQ lo (rs.take n).reverse) := Lib.hid (by
    rw [hlast, ackP, hhi, hlo, List.length_reverse, List.length_take, Nat.min_eq_left (by omega)]
    simp [hdd])
  generalize ackP dl rs.reverse = T at *
  obtain ⟨p1, q1⟩ : ∃ s, pt hi = s := ⟨_, rfl⟩
  obtain ⟨p2, q2⟩ : ∃ s, pt dl = s := ⟨_, rfl⟩
  obtain ⟨p3, q3⟩ : ∃ s, pt n = s := ⟨_, rfl⟩
  obtain ⟨p4, q4⟩ : ∃ s, pt d = s := ⟨_, rfl⟩
  rw [q1] at CHI hs1 HT0
  rw [q2] at CDL hs2 HT0
  rw [q3] at CN hs3 HT0
  rw [q4] at CD hs4 HT0
  have f2 : ¬ 9223372036854775807 < p1.length + p2.length := by omega
  have f3 : ¬ 9223372036854775807 < p1.length + p2.length + p3.length := by omega
  have f4 : ¬ 9223372036854775807 < p1.length + p2.length + p3.length + p4.length := by omega
  have HCAT : Hid ((⟨p1.toArray⟩ : ByteArray) ++ ⟨p2.toArray⟩ ++ ⟨p3.toArray⟩ ++ ⟨p4.toArray⟩ = ⟨(p1 ++ p2 ++ p3 ++ p4).toArray⟩) := Lib.hid (by apply ByteArray.ext; simp)
  have HL4 : Hid ((p1 ++ p2 ++ p3 ++ p4).length ≤ 32) := Lib.hid (by simp only [List.length_append]; omega)
  have hwd : IntKind.u64.wrap (d : Int) = (d : Int) := wrap_u _ (by omega) (by omega)
  have hwn : IntKind.u64.wrap (n : Int) = (n : Int) := wrap_u _ (by omega) (by omega)
  have HFR : Hid (FrD w.heap.size f (w.alloc (.cells #[.int .u64 f.kind, .int .u64 f.id, .int .u64 f.off, .int .u64 f.max, .int .u64 f.code, .int .u64 f.seq, .int .u64 f.prior, .int .u64 f.delay, .bool f.fin, .string ⟨f.data.toArray⟩, .string ⟨f.cid.toArray⟩, .string ⟨f.token.toArray⟩, .slice f.set.a f.set.n f.set.c] 36 (0, 0)))) := Lib.hid (World.alloc_heap_new w _)
  have HB0 : Hid (Below w.heap.size w (w.alloc (.cells #[.int .u64 f.kind, .int .u64 f.id, .int .u64 f.off, .int .u64 f.max, .int .u64 f.code, .int .u64 f.seq, .int .u64 f.prior, .int .u64 f.delay, .bool f.fin, .string ⟨f.data.toArray⟩, .string ⟨f.cid.toArray⟩, .string ⟨f.token.toArray⟩, .slice f.set.a f.set.n f.set.c] 36 (0, 0)))) := Lib.hid ((Below.refl w.heap.size w).alloc (Nat.le_refl _) _)
  have HLO := Lib.hid hlo
  have HND := Lib.hid (show n ≤ 31 by omega)
  obtain ⟨m, hmm⟩ : ∃ m, n + 1 = m := ⟨_, rfl⟩
  have hmi : (m : Int) - 1 = (n : Int) := by omega
  have n0 : (0 : Int) ≤ (n : Int) := by omega
  have n1 : (n : Int) < (m : Int) := by omega
  have m0 : (m : Int) ≤ 32 := by omega
  have n3 : IntKind.i64.wrap (n : Int) = (n : Int) := by rw [IntKind.wrap_i64]; omega
  rw [hmm] at E2 HC
  have HMM := Lib.hid hmm
  have HNR := Lib.hid hn
  clear hd hdl hl1 hl2 hm hh hlast e1 e2 e3 hcap hrow hc hlo hhi hpn hdd q1 q2 q3 q4 hn hmm
  go_enter Tryd.func27, Tryd.ntmps27
  go_upto_region 1 with (fail)
  generalize (w.alloc (.cells #[.int .u64 f.kind, .int .u64 f.id, .int .u64 f.off, .int .u64 f.max, .int .u64 f.code, .int .u64 f.seq, .int .u64 f.prior, .int .u64 f.delay, .bool f.fin, .string ⟨f.data.toArray⟩, .string ⟨f.cid.toArray⟩, .string ⟨f.token.toArray⟩, .slice f.set.a f.set.n f.set.c] 36 (0, 0))) = W0 at HFR HB0 ⊢
  have c12 := HFR.out.cell12
  rw [E1.out, E2.out] at c12
  go_upto_region 2 with (fail)
  clear c12
  refine wp_region_noPanic ?_
  refine wp_region_held_drew (S := fun W' : World => FrD w.heap.size f W' ∧ Below w.heap.size w W') (by kernel_rfl) ?_ (fun hHeld => ?_)
  · exact ⟨HFR.out, Below.drew HB0.out⟩
  refine wpAnyH_take (i := 0) (v := ?_) rfl (by kernel_rfl) (by kernel_rfl) (by kernel_rfl) (fun _ _ _ h => h) (Or.inl ⟨by rfl, ?_⟩) (by assumption) ?_
  rotate_left
  · (intro w hSw; (obtain ⟨hSf, hSb⟩ := hSw; have p7 := hSf.cell7; have p12 := hSf.cell12; rw [E1.out, E2.out] at p12; have s1 := HN1.out w hSb; have s2 := HN2.out w hSb; clear hSf hSb); go_simp; (try with_reducible rfl))
  try simp only [Act.put, List.getElem_toArray, List.getElem_cons_zero, List.getElem_cons_succ, List.setIfInBounds_toArray, List.set_cons_zero, List.set_cons_succ]
  refine wpAnyH_take (i := 1) (v := ?_) rfl (by kernel_rfl) (by kernel_rfl) (by kernel_rfl) (fun _ _ _ h => h) (Or.inl ⟨by rfl, ?_⟩) (by assumption) ?_
  rotate_left
  · (intro w hSw; (obtain ⟨hSf, hSb⟩ := hSw; have p7 := hSf.cell7; have p12 := hSf.cell12; rw [E1.out, E2.out] at p12; have s1 := HN1.out w hSb; have s2 := HN2.out w hSb; clear hSf hSb); go_simp; (try with_reducible rfl))
  try simp only [Act.put, List.getElem_toArray, List.getElem_cons_zero, List.getElem_cons_succ, List.setIfInBounds_toArray, List.set_cons_zero, List.set_cons_succ]
  refine wpAnyH_take (i := 2) (v := ?_) rfl (by kernel_rfl) (by kernel_rfl) (by kernel_rfl) (fun _ _ _ h => h) (Or.inl ⟨by rfl, ?_⟩) (by assumption) ?_
  rotate_left
  · (intro w hSw; (obtain ⟨hSf, hSb⟩ := hSw; have p7 := hSf.cell7; have p12 := hSf.cell12; rw [E1.out, E2.out] at p12; have s1 := HN1.out w hSb; have s2 := HN2.out w hSb; clear hSf hSb); go_simp; (try with_reducible rfl))
  try simp only [Act.put, List.getElem_toArray, List.getElem_cons_zero, List.getElem_cons_succ, List.setIfInBounds_toArray, List.set_cons_zero, List.set_cons_succ]
  refine wpAnyH_take (i := 3) (v := ?_) rfl (by kernel_rfl) (by kernel_rfl) (by kernel_rfl) (fun _ _ _ h => h) (Or.inl ⟨by rfl, ?_⟩) (by assumption) ?_
  rotate_left
  · (intro w hSw; (obtain ⟨hSf, hSb⟩ := hSw; have p7 := hSf.cell7; have p12 := hSf.cell12; rw [E1.out, E2.out] at p12; have s1 := HN1.out w hSb; have s2 := HN2.out w hSb; clear hSf hSb); go_simp; (try with_reducible rfl))
  try simp only [Act.put, List.getElem_toArray, List.getElem_cons_zero, List.getElem_cons_succ, List.setIfInBounds_toArray, List.set_cons_zero, List.set_cons_succ]
  refine wpAnyH_take (i := 4) (v := ?_) rfl (by kernel_rfl) (by kernel_rfl) (by kernel_rfl) (fun _ _ _ h => h) (Or.inl ⟨by rfl, ?_⟩) (by assumption) ?_
  rotate_left
  · (intro w hSw; (obtain ⟨hSf, hSb⟩ := hSw; have p7 := hSf.cell7; have p12 := hSf.cell12; rw [E1.out, E2.out] at p12; have s1 := HN1.out w hSb; have s2 := HN2.out w hSb; clear hSf hSb); go_simp; (try with_reducible rfl))
  try simp only [Act.put, List.getElem_toArray, List.getElem_cons_zero, List.getElem_cons_succ, List.setIfInBounds_toArray, List.set_cons_zero, List.set_cons_succ]
  refine wpAnyH_take (i := 5) (v := ?_) rfl (by kernel_rfl) (by kernel_rfl) (by kernel_rfl) (fun _ _ _ h => h) (Or.inl ⟨by rfl, ?_⟩) (by assumption) ?_
  rotate_left
  · (intro w hSw; (obtain ⟨hSf, hSb⟩ := hSw; have p7 := hSf.cell7; have p12 := hSf.cell12; rw [E1.out, E2.out] at p12; have s1 := HN1.out w hSb; have s2 := HN2.out w hSb; clear hSf hSb); go_simp; (try with_reducible rfl))
  try simp only [Act.put, List.getElem_toArray, List.getElem_cons_zero, List.getElem_cons_succ, List.setIfInBounds_toArray, List.set_cons_zero, List.set_cons_succ]
  refine wpAnyH_take (i := 7) (v := ?_) rfl (by kernel_rfl) (by kernel_rfl) (by kernel_rfl) (fun _ _ _ h => h) (Or.inl ⟨by rfl, ?_⟩) (by assumption) ?_
  rotate_left
  · (intro w hSw; (obtain ⟨hSf, hSb⟩ := hSw; have p7 := hSf.cell7; have p12 := hSf.cell12; rw [E1.out, E2.out] at p12; have s1 := HN1.out w hSb; have s2 := HN2.out w hSb; clear hSf hSb); go_simp; (try with_reducible rfl))
  try simp only [Act.put, List.getElem_toArray, List.getElem_cons_zero, List.getElem_cons_succ, List.setIfInBounds_toArray, List.set_cons_zero, List.set_cons_succ]
  refine wpAnyH_take (i := 8) (v := ?_) rfl (by kernel_rfl) (by kernel_rfl) (by kernel_rfl) (fun _ _ _ h => h) (Or.inl ⟨by rfl, ?_⟩) (by assumption) ?_
  rotate_left
  · (intro w hSw; (obtain ⟨hSf, hSb⟩ := hSw; have p7 := hSf.cell7; have p12 := hSf.cell12; rw [E1.out, E2.out] at p12; have s1 := HN1.out w hSb; have s2 := HN2.out w hSb; clear hSf hSb); go_simp; (try with_reducible rfl))
  try simp only [Act.put, List.getElem_toArray, List.getElem_cons_zero, List.getElem_cons_succ, List.setIfInBounds_toArray, List.set_cons_zero, List.set_cons_succ]
  refine wpAnyH_take (i := 11) (v := ?_) rfl (by kernel_rfl) (by kernel_rfl) (by kernel_rfl) (fun _ _ _ h => h) (Or.inl ⟨by rfl, ?_⟩) (by assumption) ?_
  rotate_left
  · (intro w hSw; (obtain ⟨hSf, hSb⟩ := hSw; have p7 := hSf.cell7; have p12 := hSf.cell12; rw [E1.out, E2.out] at p12; have s1 := HN1.out w hSb; have s2 := HN2.out w hSb; clear hSf hSb); go_simp; (try with_reducible rfl))
  try simp only [Act.put, List.getElem_toArray, List.getElem_cons_zero, List.getElem_cons_succ, List.setIfInBounds_toArray, List.set_cons_zero, List.set_cons_succ]
  refine wpAnyH_take (i := 12) (v := ?_) rfl (by kernel_rfl) (by kernel_rfl) (by kernel_rfl) (fun _ _ _ h => h) (Or.inl ⟨by rfl, ?_⟩) (by assumption) ?_
  rotate_left
  · (intro w hSw; (obtain ⟨hSf, hSb⟩ := hSw; have p7 := hSf.cell7; have p12 := hSf.cell12; rw [E1.out, E2.out] at p12; have s1 := HN1.out w hSb; have s2 := HN2.out w hSb; clear hSf hSb); go_simp; (try with_reducible rfl))
  try simp only [Act.put, List.getElem_toArray, List.getElem_cons_zero, List.getElem_cons_succ, List.setIfInBounds_toArray, List.set_cons_zero, List.set_cons_succ]
  refine wpAnyH_take (i := 15) (v := ?_) rfl (by kernel_rfl) (by kernel_rfl) (by kernel_rfl) (fun _ _ _ h => h) (Or.inl ⟨by rfl, ?_⟩) (by assumption) ?_
  rotate_left
  · (intro w hSw; (obtain ⟨hSf, hSb⟩ := hSw; have p7 := hSf.cell7; have p12 := hSf.cell12; rw [E1.out, E2.out] at p12; have s1 := HN1.out w hSb; have s2 := HN2.out w hSb; clear hSf hSb); go_simp; (try with_reducible rfl))
  try simp only [Act.put, List.getElem_toArray, List.getElem_cons_zero, List.getElem_cons_succ, List.setIfInBounds_toArray, List.set_cons_zero, List.set_cons_succ]
  refine wpAnyH_take (i := 16) (v := ?_) rfl (by kernel_rfl) (by kernel_rfl) (by kernel_rfl) (fun _ _ _ h => h) (Or.inl ⟨by rfl, ?_⟩) (by assumption) ?_
  rotate_left
  · (intro w hSw; (obtain ⟨hSf, hSb⟩ := hSw; have p7 := hSf.cell7; have p12 := hSf.cell12; rw [E1.out, E2.out] at p12; have s1 := HN1.out w hSb; have s2 := HN2.out w hSb; clear hSf hSb); go_simp; (try with_reducible rfl))
  try simp only [Act.put, List.getElem_toArray, List.getElem_cons_zero, List.getElem_cons_succ, List.setIfInBounds_toArray, List.set_cons_zero, List.set_cons_succ]
  refine wpAnyH_take (i := 17) (v := ?_) rfl (by kernel_rfl) (by kernel_rfl) (by kernel_rfl) (fun _ _ _ h => h) (Or.inl ⟨by rfl, ?_⟩) (by assumption) ?_
  rotate_left
  · (intro w hSw; (obtain ⟨hSf, hSb⟩ := hSw; have p7 := hSf.cell7; have p12 := hSf.cell12; rw [E1.out, E2.out] at p12; have s1 := HN1.out w hSb; have s2 := HN2.out w hSb; clear hSf hSb); go_simp; (try with_reducible rfl))
  try simp only [Act.put, List.getElem_toArray, List.getElem_cons_zero, List.getElem_cons_succ, List.setIfInBounds_toArray, List.set_cons_zero, List.set_cons_succ]
  refine wpAnyH_take (i := 18) (v := ?_) rfl (by kernel_rfl) (by kernel_rfl) (by kernel_rfl) (fun _ _ _ h => h) (Or.inl ⟨by rfl, ?_⟩) (by assumption) ?_
  rotate_left
  · (intro w hSw; (obtain ⟨hSf, hSb⟩ := hSw; have p7 := hSf.cell7; have p12 := hSf.cell12; rw [E1.out, E2.out] at p12; have s1 := HN1.out w hSb; have s2 := HN2.out w hSb; clear hSf hSb); go_simp; (try with_reducible rfl))
  try simp only [Act.put, List.getElem_toArray, List.getElem_cons_zero, List.getElem_cons_succ, List.setIfInBounds_toArray, List.set_cons_zero, List.set_cons_succ]
  refine wpAnyH_take (i := 19) (v := ?_) rfl (by kernel_rfl) (by kernel_rfl) (by kernel_rfl) (fun _ _ _ h => h) (Or.inl ⟨by rfl, ?_⟩) (by assumption) ?_
  rotate_left
  · (intro w hSw; (obtain ⟨hSf, hSb⟩ := hSw; have p7 := hSf.cell7; have p12 := hSf.cell12; rw [E1.out, E2.out] at p12; have s1 := HN1.out w hSb; have s2 := HN2.out w hSb; clear hSf hSb); go_simp; (try with_reducible rfl))
  try simp only [Act.put, List.getElem_toArray, List.getElem_cons_zero, List.getElem_cons_succ, List.setIfInBounds_toArray, List.set_cons_zero, List.set_cons_succ]
  refine wpAnyH_take (i := 20) (v := ?_) rfl (by kernel_rfl) (by kernel_rfl) (by kernel_rfl) (fun _ _ _ h => h) (Or.inl ⟨by rfl, ?_⟩) (by assumption) ?_
  rotate_left
  · (intro w hSw; (obtain ⟨hSf, hSb⟩ := hSw; have p7 := hSf.cell7; have p12 := hSf.cell12; rw [E1.out, E2.out] at p12; have s1 := HN1.out w hSb; have s2 := HN2.out w hSb; clear hSf hSb); go_simp; (try with_reducible rfl))
  try simp only [Act.put, List.getElem_toArray, List.getElem_cons_zero, List.getElem_cons_succ, List.setIfInBounds_toArray, List.set_cons_zero, List.set_cons_succ]
  refine wpAnyH_take (i := 21) (v := ?_) rfl (by kernel_rfl) (by kernel_rfl) (by kernel_rfl) (fun _ _ _ h => h) (Or.inl ⟨by rfl, ?_⟩) (by assumption) ?_
  rotate_left
  · (intro w hSw; (obtain ⟨hSf, hSb⟩ := hSw; have p7 := hSf.cell7; have p12 := hSf.cell12; rw [E1.out, E2.out] at p12; have s1 := HN1.out w hSb; have s2 := HN2.out w hSb; clear hSf hSb); go_simp; (try with_reducible rfl))
  try simp only [Act.put, List.getElem_toArray, List.getElem_cons_zero, List.getElem_cons_succ, List.setIfInBounds_toArray, List.set_cons_zero, List.set_cons_succ]
  refine wpAnyH_take (i := 22) (v := ?_) rfl (by kernel_rfl) (by kernel_rfl) (by kernel_rfl) (fun _ _ _ h => h) (Or.inl ⟨by rfl, ?_⟩) (by assumption) ?_
  rotate_left
  · (intro w hSw; (obtain ⟨hSf, hSb⟩ := hSw; have p7 := hSf.cell7; have p12 := hSf.cell12; rw [E1.out, E2.out] at p12; have s1 := HN1.out w hSb; have s2 := HN2.out w hSb; clear hSf hSb); go_simp; (try with_reducible rfl))
  try simp only [Act.put, List.getElem_toArray, List.getElem_cons_zero, List.getElem_cons_succ, List.setIfInBounds_toArray, List.set_cons_zero, List.set_cons_succ]
  refine wpAnyH_take (i := 23) (v := ?_) rfl (by kernel_rfl) (by kernel_rfl) (by kernel_rfl) (fun _ _ _ h => h) (Or.inl ⟨by rfl, ?_⟩) (by assumption) ?_
  rotate_left
  · (intro w hSw; (obtain ⟨hSf, hSb⟩ := hSw; have p7 := hSf.cell7; have p12 := hSf.cell12; rw [E1.out, E2.out] at p12; have s1 := HN1.out w hSb; have s2 := HN2.out w hSb; clear hSf hSb); go_simp; (try with_reducible rfl))
  try simp only [Act.put, List.getElem_toArray, List.getElem_cons_zero, List.getElem_cons_succ, List.setIfInBounds_toArray, List.set_cons_zero, List.set_cons_succ]
  refine wpAnyH_take (i := 24) (v := ?_) rfl (by kernel_rfl) (by kernel_rfl) (by kernel_rfl) (fun _ _ _ h => h) (Or.inl ⟨by rfl, ?_⟩) (by assumption) ?_
  rotate_left
  · (intro w hSw; (obtain ⟨hSf, hSb⟩ := hSw; have p7 := hSf.cell7; have p12 := hSf.cell12; rw [E1.out, E2.out] at p12; have s1 := HN1.out w hSb; have s2 := HN2.out w hSb; clear hSf hSb); go_simp; (try with_reducible rfl))
  try simp only [Act.put, List.getElem_toArray, List.getElem_cons_zero, List.getElem_cons_succ, List.setIfInBounds_toArray, List.set_cons_zero, List.set_cons_succ]
  refine wpAnyH_take (i := 25) (v := ?_) rfl (by kernel_rfl) (by kernel_rfl) (by kernel_rfl) (fun _ _ _ h => h) (Or.inl ⟨by rfl, ?_⟩) (by assumption) ?_
  rotate_left
  · (intro w hSw; (obtain ⟨hSf, hSb⟩ := hSw; have p7 := hSf.cell7; have p12 := hSf.cell12; rw [E1.out, E2.out] at p12; have s1 := HN1.out w hSb; have s2 := HN2.out w hSb; clear hSf hSb); go_simp; (try with_reducible rfl))
  try simp only [Act.put, List.getElem_toArray, List.getElem_cons_zero, List.getElem_cons_succ, List.setIfInBounds_toArray, List.set_cons_zero, List.set_cons_succ]
  refine wpAnyH_take (i := 26) (v := ?_) rfl (by kernel_rfl) (by kernel_rfl) (by kernel_rfl) (fun _ _ _ h => h) (Or.inl ⟨by rfl, ?_⟩) (by assumption) ?_
  rotate_left
  · (intro w hSw; (obtain ⟨hSf, hSb⟩ := hSw; have p7 := hSf.cell7; have p12 := hSf.cell12; rw [E1.out, E2.out] at p12; have s1 := HN1.out w hSb; have s2 := HN2.out w hSb; clear hSf hSb); go_simp; (try with_reducible rfl))
  try simp only [Act.put, List.getElem_toArray, List.getElem_cons_zero, List.getElem_cons_succ, List.setIfInBounds_toArray, List.set_cons_zero, List.set_cons_succ]
  refine wpAnyH_take (i := 27) (v := ?_) rfl (by kernel_rfl) (by kernel_rfl) (by kernel_rfl) (fun _ _ _ h => h) (Or.inl ⟨by rfl, ?_⟩) (by assumption) ?_
  rotate_left
  · (intro w hSw; (obtain ⟨hSf, hSb⟩ := hSw; have p7 := hSf.cell7; have p12 := hSf.cell12; rw [E1.out, E2.out] at p12; have s1 := HN1.out w hSb; have s2 := HN2.out w hSb; clear hSf hSb); go_simp; (try with_reducible rfl))
  try simp only [Act.put, List.getElem_toArray, List.getElem_cons_zero, List.getElem_cons_succ, List.setIfInBounds_toArray, List.set_cons_zero, List.set_cons_succ]
  refine wpAnyH_ready (rs := [6]) (by kernel_rfl) (by simp) ?_
  refine AllReadyH.cons rfl (fun K hK => ?_) AllReadyH.nil
  rw [if_pos (by rfl)]
  go_simp
  with_reducible refine (CHI.out _).mono ?_
  rintro e u1 ⟨rfl, hb⟩
  refine hK.out _ _ ?_ (fun hHeld => ?_)
  · exact ⟨hHeld.1.keep hb, hHeld.2.trans (hb.mono hHeld.2.size)⟩
  clear hK K
  try simp only [Act.put, List.getElem_toArray, List.getElem_cons_zero, List.getElem_cons_succ, List.setIfInBounds_toArray, List.set_cons_zero, List.set_cons_succ]
  refine wpAnyH_ready (rs := [9]) (by kernel_rfl) (by simp) ?_
  refine AllReadyH.cons rfl (fun K hK => ?_) AllReadyH.nil
  rw [if_pos (by rfl)]
  go_simp
  with_reducible refine (CDL.out _).mono ?_
  rintro e u2 ⟨rfl, hb⟩
  refine hK.out _ _ ?_ (fun hHeld => ?_)
  · exact ⟨hHeld.1.keep hb, hHeld.2.trans (hb.mono hHeld.2.size)⟩
  clear hK K
  try simp only [Act.put, List.getElem_toArray, List.getElem_cons_zero, List.getElem_cons_succ, List.setIfInBounds_toArray, List.set_cons_zero, List.set_cons_succ]
  refine wpAnyH_take (i := 10) (v := ?_) rfl (by kernel_rfl) (by kernel_rfl) (by kernel_rfl) (fun _ _ _ h => h) (Or.inl ⟨by rfl, ?_⟩) (by assumption) ?_
  rotate_left
  · (intro w hSw; (obtain ⟨hSf, hSb⟩ := hSw; have p7 := hSf.cell7; have p12 := hSf.cell12; rw [E1.out, E2.out] at p12; have s1 := HN1.out w hSb; have s2 := HN2.out w hSb; clear hSf hSb); go_simp; (try with_reducible rfl))
  try simp only [Act.put, List.getElem_toArray, List.getElem_cons_zero, List.getElem_cons_succ, List.setIfInBounds_toArray, List.set_cons_zero, List.set_cons_succ]
  refine wpAnyH_ready (rs := [13]) (by kernel_rfl) (by simp) ?_
  refine AllReadyH.cons rfl (fun K hK => ?_) AllReadyH.nil
  rw [if_pos (by rfl)]
  go_simp
  with_reducible refine (CN.out _).mono ?_
  rintro e u3 ⟨rfl, hb⟩
  refine hK.out _ _ ?_ (fun hHeld => ?_)
  · exact ⟨hHeld.1.keep hb, hHeld.2.trans (hb.mono hHeld.2.size)⟩
  clear hK K
  try simp only [Act.put, List.getElem_toArray, List.getElem_cons_zero, List.getElem_cons_succ, List.setIfInBounds_toArray, List.set_cons_zero, List.set_cons_succ]
  refine wpAnyH_take (i := 14) (v := ?_) rfl (by kernel_rfl) (by kernel_rfl) (by kernel_rfl) (fun _ _ _ h => h) (Or.inl ⟨by rfl, ?_⟩) (by assumption) ?_
  rotate_left
  · (intro w hSw; (obtain ⟨hSf, hSb⟩ := hSw; have p7 := hSf.cell7; have p12 := hSf.cell12; rw [E1.out, E2.out] at p12; have s1 := HN1.out w hSb; have s2 := HN2.out w hSb; clear hSf hSb); go_simp; (try with_reducible rfl))
  try simp only [Act.put, List.getElem_toArray, List.getElem_cons_zero, List.getElem_cons_succ, List.setIfInBounds_toArray, List.set_cons_zero, List.set_cons_succ]
  refine wpAnyH_ready (rs := [28]) (by kernel_rfl) (by simp) ?_
  refine AllReadyH.cons rfl (fun K hK => ?_) AllReadyH.nil
  rw [if_pos (by rfl)]
  go_simp
  with_reducible refine (CD.out _).mono ?_
  rintro e u4 ⟨rfl, hb⟩
  refine hK.out _ _ ?_ (fun hHeld => ?_)
  · exact ⟨hHeld.1.keep hb, hHeld.2.trans (hb.mono hHeld.2.size)⟩
  clear hK K
  try simp only [Act.put, List.getElem_toArray, List.getElem_cons_zero, List.getElem_cons_succ, List.setIfInBounds_toArray, List.set_cons_zero, List.set_cons_succ]
  refine wpAnyH_take (i := 29) (v := ?_) rfl (by kernel_rfl) (by kernel_rfl) (by kernel_rfl) (fun _ _ _ h => h) (Or.inl ⟨by rfl, ?_⟩) (by assumption) ?_
  rotate_left
  · (intro w hSw; (obtain ⟨hSf, hSb⟩ := hSw; have p7 := hSf.cell7; have p12 := hSf.cell12; rw [E1.out, E2.out] at p12; have s1 := HN1.out w hSb; have s2 := HN2.out w hSb; clear hSf hSb); go_simp; (try with_reducible rfl))
  try simp only [Act.put, List.getElem_toArray, List.getElem_cons_zero, List.getElem_cons_succ, List.setIfInBounds_toArray, List.set_cons_zero, List.set_cons_succ]
  refine wpAnyH_take (i := 30) (v := ?_) rfl (by kernel_rfl) (by kernel_rfl) (by kernel_rfl) (fun _ _ _ h => h) (Or.inl ⟨by rfl, ?_⟩) (by assumption) ?_
  rotate_left
  · (intro w hSw; (obtain ⟨hSf, hSb⟩ := hSw; have p7 := hSf.cell7; have p12 := hSf.cell12; rw [E1.out, E2.out] at p12; have s1 := HN1.out w hSb; have s2 := HN2.out w hSb; clear hSf hSb); go_simp; (try with_reducible rfl))
  try simp only [Act.put, List.getElem_toArray, List.getElem_cons_zero, List.getElem_cons_succ, List.setIfInBounds_toArray, List.set_cons_zero, List.set_cons_succ]
  refine wpAnyH_done (by kernel_rfl) (NoPanic.normal ?_) _
  have HF1 := Lib.hid hHeld.1
  have HB1 := Lib.hid hHeld.2
  clear hHeld
  go_wp2_with fail
  go_loopw [4, 5] (fun sv iv wr => ∃ k : Nat, k ≤ n ∧ iv = .int .i64 ((k : Int) - 1) ∧ ∃ M : List UInt8, sv = .string ⟨M.toArray⟩ ∧ M.length + 16 * k ≤ 1032 + 16 * n ∧ T = M ++ ackQ (rs.getD k (0, 0)).1 (rs.take k).reverse ∧ FrD w.heap.size f wr ∧ Below w.heap.size w wr) (fun _ iv _ => (intOf iv + 1).toNat)
  case atStart => exact ⟨n, Nat.le_refl _, rfl, _, by rw [HCAT.out], by have := HL4.out; omega, by rw [HLO.out]; exact HT0.out, HF1.out, HB1.out⟩
  case round =>
    obtain ⟨k, hk, rfl, M, rfl, hM, hT, hfr, hb⟩ := hrel
    have HFr := Lib.hid hfr
    have HMr := Lib.hid hM
    have HTr := Lib.hid hT
    have HBr := Lib.hid hb
    clear hfr hM hT hb HF1 HB1
    match k, hk with
    | 0, _ =>
      have e0 : ((0 : Nat) : Int) - 1 = -1 := rfl
      have HV : Hid (M = T) := Lib.hid (by
        have := HTr.out
        rw [List.take_zero, List.reverse_nil, ackQ, List.append_nil] at this
        exact this.symm)
      rw [e0]
      go_wp2
      go_ret
      exact ⟨by rw [← HV.out]; rfl, HBr.out⟩
    | j + 1, hj =>
      have e0 : ((j + 1 : Nat) : Int) - 1 = (j : Int) := by omega
      have hn8 := HND.out
      have hn9 := HMM.out
      have hn7 := HNR.out
      have hq0 := HA.out.num j (by omega)
      have hq1 := HA.out.num (j + 1) (by omega)
      have hq2 := HA.out.nxt j (by omega)
      have hq3 := HA.out.ack j (by omega) (rs.getD (j + 1) (0, 0)).1
      have HJ1 := Lib.hid (fun W hb => (HC.out j (by omega) W hb).1)
      have HJ2 := Lib.hid (fun W hb => (HC.out j (by omega) W hb).2)
      have HJ3 := Lib.hid (fun W hb => (HC.out (j + 1) (by omega) W hb).1)
      have HT2 := HTr.out
      rw [hq3] at HT2
      have HT3 := Lib.hid HT2
      obtain ⟨a, ha⟩ : ∃ x, (rs.getD j (0, 0)).1 = x := ⟨_, rfl⟩
      obtain ⟨c, hc⟩ : ∃ x, (rs.getD j (0, 0)).2 = x := ⟨_, rfl⟩
      obtain ⟨u, hu⟩ : ∃ x, (rs.getD (j + 1) (0, 0)).1 = x := ⟨_, rfl⟩
      have HAA := Lib.hid ha
      rw [ha, hc] at hq0
      rw [hu] at hq1
      rw [hu, hc] at hq2
      rw [ha] at HJ1
      rw [hc] at HJ2
      rw [hu] at HJ3
      obtain ⟨x, hx⟩ : ∃ x, u - c - 2 = x := ⟨_, rfl⟩
      obtain ⟨y, hy⟩ : ∃ x, c - a = x := ⟨_, rfl⟩
      rw [ha, hc, hu, hx, hy] at HT3
      have CX := Lib.hid (v_nat x (by omega))
      have CY := Lib.hid (v_nat y (by omega))
      have hs5 := pt_le8 x (by omega)
      have hs6 := pt_le8 y (by omega)
      obtain ⟨p5, q5⟩ : ∃ s, pt x = s := ⟨_, rfl⟩
      obtain ⟨p6, q6⟩ : ∃ s, pt y = s := ⟨_, rfl⟩
      rw [q5] at CX hs5 HT3
      rw [q6] at CY hs6 HT3
      have hmr := HMr.out
      have f5 : ¬ 9223372036854775807 < M.length + p5.length := by omega
      have f6 : ¬ 9223372036854775807 < M.length + p5.length + p6.length := by omega
      have HC2 : Hid ((⟨M.toArray⟩ : ByteArray) ++ ⟨p5.toArray⟩ ++ ⟨p6.toArray⟩ = ⟨(M ++ p5 ++ p6).toArray⟩) := Lib.hid (by apply ByteArray.ext; simp)
      have HL6 : Hid ((M ++ p5 ++ p6).length + 16 * j ≤ 1032 + 16 * n) := Lib.hid (by simp only [List.length_append]; omega)
      have HT4 : Hid (T = (M ++ p5 ++ p6) ++ ackQ a (rs.take j).reverse) := Lib.hid (by
        rw [HT3.out]
        simp)
      have hx1 : (u : Int) - (c : Int) = (x : Int) + 2 := by omega
      have hx2 : (x : Int) + 2 - 2 = (x : Int) := by omega
      have hx3 : IntKind.u64.wrap ((x : Int) + 2) = (x : Int) + 2 := wrap_u _ (by omega) (by omega)
      have hx4 : IntKind.u64.wrap (x : Int) = (x : Int) := wrap_u _ (by omega) (by omega)
      have hy1 : (c : Int) - (a : Int) = (y : Int) := by omega
      have hy2 : IntKind.u64.wrap (y : Int) = (y : Int) := wrap_u _ (by omega) (by omega)
      have j0 : (0 : Int) ≤ (j : Int) := by omega
      have j1 : (j : Int) < (m : Int) := by omega
      have j2 : (j : Int) + 1 < (m : Int) := by omega
      have j3 : (j : Int) ≤ 31 := by omega
      have e1 : ((j : Int) + 1).toNat = j + 1 := by omega
      have j4 : (0 : Int) ≤ (j : Int) + 1 := by omega
      have j5 : IntKind.i64.wrap ((j : Int) + 1) = (j : Int) + 1 := by rw [IntKind.wrap_i64]; omega
      have HJ := Lib.hid hj
      clear hq0 hq1 hq2 hq3 HT2 HT3 ha hc hu hx hy q5 q6 hmr hn7 hn8 hn9 hj
      rw [e0]
      clear e0
      go_wp2_with fail
      refine wp_region_noPanic ?_
      refine wp_region_held_drew (S := fun W' : World => FrD w.heap.size f W' ∧ Below w.heap.size w W') (by kernel_rfl) ?_ (fun hHeld => ?_)
      · exact ⟨HFr.out, Below.drew HBr.out⟩
      refine wpAnyH_take (i := 0) (v := ?_) rfl (by kernel_rfl) (by kernel_rfl) (by kernel_rfl) (fun _ _ _ h => h) (Or.inl ⟨by rfl, ?_⟩) (by assumption) ?_
      rotate_left
      · (intro w hSw; (obtain ⟨hSf, hSb⟩ := hSw; have p12 := hSf.cell12; rw [E1.out, E2.out] at p12; have s1 := HJ1.out w hSb; have s2 := HJ2.out w hSb; have s3 := HJ3.out w hSb; clear hSf hSb); go_simp; (try with_reducible rfl))
      try simp only [Act.put, List.getElem_toArray, List.getElem_cons_zero, List.getElem_cons_succ, List.setIfInBounds_toArray, List.set_cons_zero, List.set_cons_succ]
      refine wpAnyH_take (i := 1) (v := ?_) rfl (by kernel_rfl) (by kernel_rfl) (by kernel_rfl) (fun _ _ _ h => h) (Or.inl ⟨by rfl, ?_⟩) (by assumption) ?_
      rotate_left
      · (intro w hSw; (obtain ⟨hSf, hSb⟩ := hSw; have p12 := hSf.cell12; rw [E1.out, E2.out] at p12; have s1 := HJ1.out w hSb; have s2 := HJ2.out w hSb; have s3 := HJ3.out w hSb; clear hSf hSb); go_simp; (try with_reducible rfl))
      try simp only [Act.put, List.getElem_toArray, List.getElem_cons_zero, List.getElem_cons_succ, List.setIfInBounds_toArray, List.set_cons_zero, List.set_cons_succ]
      refine wpAnyH_take (i := 2) (v := ?_) rfl (by kernel_rfl) (by kernel_rfl) (by kernel_rfl) (fun _ _ _ h => h) (Or.inl ⟨by rfl, ?_⟩) (by assumption) ?_
      rotate_left
      · (intro w hSw; (obtain ⟨hSf, hSb⟩ := hSw; have p12 := hSf.cell12; rw [E1.out, E2.out] at p12; have s1 := HJ1.out w hSb; have s2 := HJ2.out w hSb; have s3 := HJ3.out w hSb; clear hSf hSb); go_simp; (try with_reducible rfl))
      try simp only [Act.put, List.getElem_toArray, List.getElem_cons_zero, List.getElem_cons_succ, List.setIfInBounds_toArray, List.set_cons_zero, List.set_cons_succ]
      refine wpAnyH_take (i := 3) (v := ?_) rfl (by kernel_rfl) (by kernel_rfl) (by kernel_rfl) (fun _ _ _ h => h) (Or.inl ⟨by rfl, ?_⟩) (by assumption) ?_
      rotate_left
      · (intro w hSw; (obtain ⟨hSf, hSb⟩ := hSw; have p12 := hSf.cell12; rw [E1.out, E2.out] at p12; have s1 := HJ1.out w hSb; have s2 := HJ2.out w hSb; have s3 := HJ3.out w hSb; clear hSf hSb); go_simp; (try with_reducible rfl))
      try simp only [Act.put, List.getElem_toArray, List.getElem_cons_zero, List.getElem_cons_succ, List.setIfInBounds_toArray, List.set_cons_zero, List.set_cons_succ]
      refine wpAnyH_take (i := 4) (v := ?_) rfl (by kernel_rfl) (by kernel_rfl) (by kernel_rfl) (fun _ _ _ h => h) (Or.inl ⟨by rfl, ?_⟩) (by assumption) ?_
      rotate_left
      · (intro w hSw; (obtain ⟨hSf, hSb⟩ := hSw; have p12 := hSf.cell12; rw [E1.out, E2.out] at p12; have s1 := HJ1.out w hSb; have s2 := HJ2.out w hSb; have s3 := HJ3.out w hSb; clear hSf hSb); go_simp; (try with_reducible rfl))
      try simp only [Act.put, List.getElem_toArray, List.getElem_cons_zero, List.getElem_cons_succ, List.setIfInBounds_toArray, List.set_cons_zero, List.set_cons_succ]
      refine wpAnyH_take (i := 5) (v := ?_) rfl (by kernel_rfl) (by kernel_rfl) (by kernel_rfl) (fun _ _ _ h => h) (Or.inl ⟨by rfl, ?_⟩) (by assumption) ?_
      rotate_left
      · (intro w hSw; (obtain ⟨hSf, hSb⟩ := hSw; have p12 := hSf.cell12; rw [E1.out, E2.out] at p12; have s1 := HJ1.out w hSb; have s2 := HJ2.out w hSb; have s3 := HJ3.out w hSb; clear hSf hSb); go_simp; (try with_reducible rfl))
      try simp only [Act.put, List.getElem_toArray, List.getElem_cons_zero, List.getElem_cons_succ, List.setIfInBounds_toArray, List.set_cons_zero, List.set_cons_succ]
      refine wpAnyH_take (i := 6) (v := ?_) rfl (by kernel_rfl) (by kernel_rfl) (by kernel_rfl) (fun _ _ _ h => h) (Or.inl ⟨by rfl, ?_⟩) (by assumption) ?_
      rotate_left
      · (intro w hSw; (obtain ⟨hSf, hSb⟩ := hSw; have p12 := hSf.cell12; rw [E1.out, E2.out] at p12; have s1 := HJ1.out w hSb; have s2 := HJ2.out w hSb; have s3 := HJ3.out w hSb; clear hSf hSb); go_simp; (try with_reducible rfl))
      try simp only [Act.put, List.getElem_toArray, List.getElem_cons_zero, List.getElem_cons_succ, List.setIfInBounds_toArray, List.set_cons_zero, List.set_cons_succ]
      refine wpAnyH_take (i := 7) (v := ?_) rfl (by kernel_rfl) (by kernel_rfl) (by kernel_rfl) (fun _ _ _ h => h) (Or.inl ⟨by rfl, ?_⟩) (by assumption) ?_
      rotate_left
      · (intro w hSw; (obtain ⟨hSf, hSb⟩ := hSw; have p12 := hSf.cell12; rw [E1.out, E2.out] at p12; have s1 := HJ1.out w hSb; have s2 := HJ2.out w hSb; have s3 := HJ3.out w hSb; clear hSf hSb); go_simp; (try with_reducible rfl))
      try simp only [Act.put, List.getElem_toArray, List.getElem_cons_zero, List.getElem_cons_succ, List.setIfInBounds_toArray, List.set_cons_zero, List.set_cons_succ]
      refine wpAnyH_take (i := 8) (v := ?_) rfl (by kernel_rfl) (by kernel_rfl) (by kernel_rfl) (fun _ _ _ h => h) (Or.inl ⟨by rfl, ?_⟩) (by assumption) ?_
      rotate_left
      · (intro w hSw; (obtain ⟨hSf, hSb⟩ := hSw; have p12 := hSf.cell12; rw [E1.out, E2.out] at p12; have s1 := HJ1.out w hSb; have s2 := HJ2.out w hSb; have s3 := HJ3.out w hSb; clear hSf hSb); go_simp; (try with_reducible rfl))
      try simp only [Act.put, List.getElem_toArray, List.getElem_cons_zero, List.getElem_cons_succ, List.setIfInBounds_toArray, List.set_cons_zero, List.set_cons_succ]
      refine wpAnyH_take (i := 9) (v := ?_) rfl (by kernel_rfl) (by kernel_rfl) (by kernel_rfl) (fun _ _ _ h => h) (Or.inl ⟨by rfl, ?_⟩) (by assumption) ?_
      rotate_left
      · (intro w hSw; (obtain ⟨hSf, hSb⟩ := hSw; have p12 := hSf.cell12; rw [E1.out, E2.out] at p12; have s1 := HJ1.out w hSb; have s2 := HJ2.out w hSb; have s3 := HJ3.out w hSb; clear hSf hSb); go_simp; (try with_reducible rfl))
      try simp only [Act.put, List.getElem_toArray, List.getElem_cons_zero, List.getElem_cons_succ, List.setIfInBounds_toArray, List.set_cons_zero, List.set_cons_succ]
      refine wpAnyH_take (i := 10) (v := ?_) rfl (by kernel_rfl) (by kernel_rfl) (by kernel_rfl) (fun _ _ _ h => h) (Or.inl ⟨by rfl, ?_⟩) (by assumption) ?_
      rotate_left
      · (intro w hSw; (obtain ⟨hSf, hSb⟩ := hSw; have p12 := hSf.cell12; rw [E1.out, E2.out] at p12; have s1 := HJ1.out w hSb; have s2 := HJ2.out w hSb; have s3 := HJ3.out w hSb; clear hSf hSb); go_simp; (try with_reducible rfl))
      try simp only [Act.put, List.getElem_toArray, List.getElem_cons_zero, List.getElem_cons_succ, List.setIfInBounds_toArray, List.set_cons_zero, List.set_cons_succ]
      refine wpAnyH_take (i := 11) (v := ?_) rfl (by kernel_rfl) (by kernel_rfl) (by kernel_rfl) (fun _ _ _ h => h) (Or.inl ⟨by rfl, ?_⟩) (by assumption) ?_
      rotate_left
      · (intro w hSw; (obtain ⟨hSf, hSb⟩ := hSw; have p12 := hSf.cell12; rw [E1.out, E2.out] at p12; have s1 := HJ1.out w hSb; have s2 := HJ2.out w hSb; have s3 := HJ3.out w hSb; clear hSf hSb); go_simp; (try with_reducible rfl))
      try simp only [Act.put, List.getElem_toArray, List.getElem_cons_zero, List.getElem_cons_succ, List.setIfInBounds_toArray, List.set_cons_zero, List.set_cons_succ]
      refine wpAnyH_take (i := 12) (v := ?_) rfl (by kernel_rfl) (by kernel_rfl) (by kernel_rfl) (fun _ _ _ h => h) (Or.inl ⟨by rfl, ?_⟩) (by assumption) ?_
      rotate_left
      · (intro w hSw; (obtain ⟨hSf, hSb⟩ := hSw; have p12 := hSf.cell12; rw [E1.out, E2.out] at p12; have s1 := HJ1.out w hSb; have s2 := HJ2.out w hSb; have s3 := HJ3.out w hSb; clear hSf hSb); go_simp; (try with_reducible rfl))
      try simp only [Act.put, List.getElem_toArray, List.getElem_cons_zero, List.getElem_cons_succ, List.setIfInBounds_toArray, List.set_cons_zero, List.set_cons_succ]
      refine wpAnyH_take (i := 13) (v := ?_) rfl (by kernel_rfl) (by kernel_rfl) (by kernel_rfl) (fun _ _ _ h => h) (Or.inl ⟨by rfl, ?_⟩) (by assumption) ?_
      rotate_left
      · (intro w hSw; (obtain ⟨hSf, hSb⟩ := hSw; have p12 := hSf.cell12; rw [E1.out, E2.out] at p12; have s1 := HJ1.out w hSb; have s2 := HJ2.out w hSb; have s3 := HJ3.out w hSb; clear hSf hSb); go_simp; (try with_reducible rfl))
      try simp only [Act.put, List.getElem_toArray, List.getElem_cons_zero, List.getElem_cons_succ, List.setIfInBounds_toArray, List.set_cons_zero, List.set_cons_succ]
      refine wpAnyH_take (i := 14) (v := ?_) rfl (by kernel_rfl) (by kernel_rfl) (by kernel_rfl) (fun _ _ _ h => h) (Or.inl ⟨by rfl, ?_⟩) (by assumption) ?_
      rotate_left
      · (intro w hSw; (obtain ⟨hSf, hSb⟩ := hSw; have p12 := hSf.cell12; rw [E1.out, E2.out] at p12; have s1 := HJ1.out w hSb; have s2 := HJ2.out w hSb; have s3 := HJ3.out w hSb; clear hSf hSb); go_simp; (try with_reducible rfl))
      try simp only [Act.put, List.getElem_toArray, List.getElem_cons_zero, List.getElem_cons_succ, List.setIfInBounds_toArray, List.set_cons_zero, List.set_cons_succ]
      refine wpAnyH_take (i := 15) (v := ?_) rfl (by kernel_rfl) (by kernel_rfl) (by kernel_rfl) (fun _ _ _ h => h) (Or.inl ⟨by rfl, ?_⟩) (by assumption) ?_
      rotate_left
      · (intro w hSw; (obtain ⟨hSf, hSb⟩ := hSw; have p12 := hSf.cell12; rw [E1.out, E2.out] at p12; have s1 := HJ1.out w hSb; have s2 := HJ2.out w hSb; have s3 := HJ3.out w hSb; clear hSf hSb); go_simp; (try with_reducible rfl))
      try simp only [Act.put, List.getElem_toArray, List.getElem_cons_zero, List.getElem_cons_succ, List.setIfInBounds_toArray, List.set_cons_zero, List.set_cons_succ]
      refine wpAnyH_take (i := 18) (v := ?_) rfl (by kernel_rfl) (by kernel_rfl) (by kernel_rfl) (fun _ _ _ h => h) (Or.inl ⟨by rfl, ?_⟩) (by assumption) ?_
      rotate_left
      · (intro w hSw; (obtain ⟨hSf, hSb⟩ := hSw; have p12 := hSf.cell12; rw [E1.out, E2.out] at p12; have s1 := HJ1.out w hSb; have s2 := HJ2.out w hSb; have s3 := HJ3.out w hSb; clear hSf hSb); go_simp; (try with_reducible rfl))
      try simp only [Act.put, List.getElem_toArray, List.getElem_cons_zero, List.getElem_cons_succ, List.setIfInBounds_toArray, List.set_cons_zero, List.set_cons_succ]
      refine wpAnyH_take (i := 19) (v := ?_) rfl (by kernel_rfl) (by kernel_rfl) (by kernel_rfl) (fun _ _ _ h => h) (Or.inl ⟨by rfl, ?_⟩) (by assumption) ?_
      rotate_left
      · (intro w hSw; (obtain ⟨hSf, hSb⟩ := hSw; have p12 := hSf.cell12; rw [E1.out, E2.out] at p12; have s1 := HJ1.out w hSb; have s2 := HJ2.out w hSb; have s3 := HJ3.out w hSb; clear hSf hSb); go_simp; (try with_reducible rfl))
      try simp only [Act.put, List.getElem_toArray, List.getElem_cons_zero, List.getElem_cons_succ, List.setIfInBounds_toArray, List.set_cons_zero, List.set_cons_succ]
      refine wpAnyH_take (i := 20) (v := ?_) rfl (by kernel_rfl) (by kernel_rfl) (by kernel_rfl) (fun _ _ _ h => h) (Or.inl ⟨by rfl, ?_⟩) (by assumption) ?_
      rotate_left
      · (intro w hSw; (obtain ⟨hSf, hSb⟩ := hSw; have p12 := hSf.cell12; rw [E1.out, E2.out] at p12; have s1 := HJ1.out w hSb; have s2 := HJ2.out w hSb; have s3 := HJ3.out w hSb; clear hSf hSb); go_simp; (try with_reducible rfl))
      try simp only [Act.put, List.getElem_toArray, List.getElem_cons_zero, List.getElem_cons_succ, List.setIfInBounds_toArray, List.set_cons_zero, List.set_cons_succ]
      refine wpAnyH_take (i := 21) (v := ?_) rfl (by kernel_rfl) (by kernel_rfl) (by kernel_rfl) (fun _ _ _ h => h) (Or.inl ⟨by rfl, ?_⟩) (by assumption) ?_
      rotate_left
      · (intro w hSw; (obtain ⟨hSf, hSb⟩ := hSw; have p12 := hSf.cell12; rw [E1.out, E2.out] at p12; have s1 := HJ1.out w hSb; have s2 := HJ2.out w hSb; have s3 := HJ3.out w hSb; clear hSf hSb); go_simp; (try with_reducible rfl))
      try simp only [Act.put, List.getElem_toArray, List.getElem_cons_zero, List.getElem_cons_succ, List.setIfInBounds_toArray, List.set_cons_zero, List.set_cons_succ]
      refine wpAnyH_take (i := 22) (v := ?_) rfl (by kernel_rfl) (by kernel_rfl) (by kernel_rfl) (fun _ _ _ h => h) (Or.inl ⟨by rfl, ?_⟩) (by assumption) ?_
      rotate_left
      · (intro w hSw; (obtain ⟨hSf, hSb⟩ := hSw; have p12 := hSf.cell12; rw [E1.out, E2.out] at p12; have s1 := HJ1.out w hSb; have s2 := HJ2.out w hSb; have s3 := HJ3.out w hSb; clear hSf hSb); go_simp; (try with_reducible rfl))
      try simp only [Act.put, List.getElem_toArray, List.getElem_cons_zero, List.getElem_cons_succ, List.setIfInBounds_toArray, List.set_cons_zero, List.set_cons_succ]
      refine wpAnyH_take (i := 23) (v := ?_) rfl (by kernel_rfl) (by kernel_rfl) (by kernel_rfl) (fun _ _ _ h => h) (Or.inl ⟨by rfl, ?_⟩) (by assumption) ?_
      rotate_left
      · (intro w hSw; (obtain ⟨hSf, hSb⟩ := hSw; have p12 := hSf.cell12; rw [E1.out, E2.out] at p12; have s1 := HJ1.out w hSb; have s2 := HJ2.out w hSb; have s3 := HJ3.out w hSb; clear hSf hSb); go_simp; (try with_reducible rfl))
      try simp only [Act.put, List.getElem_toArray, List.getElem_cons_zero, List.getElem_cons_succ, List.setIfInBounds_toArray, List.set_cons_zero, List.set_cons_succ]
      refine wpAnyH_take (i := 24) (v := ?_) rfl (by kernel_rfl) (by kernel_rfl) (by kernel_rfl) (fun _ _ _ h => h) (Or.inl ⟨by rfl, ?_⟩) (by assumption) ?_
      rotate_left
      · (intro w hSw; (obtain ⟨hSf, hSb⟩ := hSw; have p12 := hSf.cell12; rw [E1.out, E2.out] at p12; have s1 := HJ1.out w hSb; have s2 := HJ2.out w hSb; have s3 := HJ3.out w hSb; clear hSf hSb); go_simp; (try with_reducible rfl))
      try simp only [Act.put, List.getElem_toArray, List.getElem_cons_zero, List.getElem_cons_succ, List.setIfInBounds_toArray, List.set_cons_zero, List.set_cons_succ]
      refine wpAnyH_take (i := 25) (v := ?_) rfl (by kernel_rfl) (by kernel_rfl) (by kernel_rfl) (fun _ _ _ h => h) (Or.inl ⟨by rfl, ?_⟩) (by assumption) ?_
      rotate_left
      · (intro w hSw; (obtain ⟨hSf, hSb⟩ := hSw; have p12 := hSf.cell12; rw [E1.out, E2.out] at p12; have s1 := HJ1.out w hSb; have s2 := HJ2.out w hSb; have s3 := HJ3.out w hSb; clear hSf hSb); go_simp; (try with_reducible rfl))
      try simp only [Act.put, List.getElem_toArray, List.getElem_cons_zero, List.getElem_cons_succ, List.setIfInBounds_toArray, List.set_cons_zero, List.set_cons_succ]
      refine wpAnyH_take (i := 26) (v := ?_) rfl (by kernel_rfl) (by kernel_rfl) (by kernel_rfl) (fun _ _ _ h => h) (Or.inl ⟨by rfl, ?_⟩) (by assumption) ?_
      rotate_left
      · (intro w hSw; (obtain ⟨hSf, hSb⟩ := hSw; have p12 := hSf.cell12; rw [E1.out, E2.out] at p12; have s1 := HJ1.out w hSb; have s2 := HJ2.out w hSb; have s3 := HJ3.out w hSb; clear hSf hSb); go_simp; (try with_reducible rfl))
      try simp only [Act.put, List.getElem_toArray, List.getElem_cons_zero, List.getElem_cons_succ, List.setIfInBounds_toArray, List.set_cons_zero, List.set_cons_succ]
      refine wpAnyH_take (i := 27) (v := ?_) rfl (by kernel_rfl) (by kernel_rfl) (by kernel_rfl) (fun _ _ _ h => h) (Or.inl ⟨by rfl, ?_⟩) (by assumption) ?_
      rotate_left
      · (intro w hSw; (obtain ⟨hSf, hSb⟩ := hSw; have p12 := hSf.cell12; rw [E1.out, E2.out] at p12; have s1 := HJ1.out w hSb; have s2 := HJ2.out w hSb; have s3 := HJ3.out w hSb; clear hSf hSb); go_simp; (try with_reducible rfl))
      try simp only [Act.put, List.getElem_toArray, List.getElem_cons_zero, List.getElem_cons_succ, List.setIfInBounds_toArray, List.set_cons_zero, List.set_cons_succ]
      refine wpAnyH_take (i := 28) (v := ?_) rfl (by kernel_rfl) (by kernel_rfl) (by kernel_rfl) (fun _ _ _ h => h) (Or.inl ⟨by rfl, ?_⟩) (by assumption) ?_
      rotate_left
      · (intro w hSw; (obtain ⟨hSf, hSb⟩ := hSw; have p12 := hSf.cell12; rw [E1.out, E2.out] at p12; have s1 := HJ1.out w hSb; have s2 := HJ2.out w hSb; have s3 := HJ3.out w hSb; clear hSf hSb); go_simp; (try with_reducible rfl))
      try simp only [Act.put, List.getElem_toArray, List.getElem_cons_zero, List.getElem_cons_succ, List.setIfInBounds_toArray, List.set_cons_zero, List.set_cons_succ]
      refine wpAnyH_take (i := 29) (v := ?_) rfl (by kernel_rfl) (by kernel_rfl) (by kernel_rfl) (fun _ _ _ h => h) (Or.inl ⟨by rfl, ?_⟩) (by assumption) ?_
      rotate_left
      · (intro w hSw; (obtain ⟨hSf, hSb⟩ := hSw; have p12 := hSf.cell12; rw [E1.out, E2.out] at p12; have s1 := HJ1.out w hSb; have s2 := HJ2.out w hSb; have s3 := HJ3.out w hSb; clear hSf hSb); go_simp; (try with_reducible rfl))
      try simp only [Act.put, List.getElem_toArray, List.getElem_cons_zero, List.getElem_cons_succ, List.setIfInBounds_toArray, List.set_cons_zero, List.set_cons_succ]
      refine wpAnyH_take (i := 30) (v := ?_) rfl (by kernel_rfl) (by kernel_rfl) (by kernel_rfl) (fun _ _ _ h => h) (Or.inl ⟨by rfl, ?_⟩) (by assumption) ?_
      rotate_left
      · (intro w hSw; (obtain ⟨hSf, hSb⟩ := hSw; have p12 := hSf.cell12; rw [E1.out, E2.out] at p12; have s1 := HJ1.out w hSb; have s2 := HJ2.out w hSb; have s3 := HJ3.out w hSb; clear hSf hSb); go_simp; (try with_reducible rfl))
      try simp only [Act.put, List.getElem_toArray, List.getElem_cons_zero, List.getElem_cons_succ, List.setIfInBounds_toArray, List.set_cons_zero, List.set_cons_succ]
      refine wpAnyH_ready (rs := [16]) (by kernel_rfl) (by simp) ?_
      refine AllReadyH.cons rfl (fun K hK => ?_) AllReadyH.nil
      rw [if_pos (by rfl)]
      go_simp
      with_reducible refine (CX.out _).mono ?_
      rintro e u1 ⟨rfl, hb⟩
      refine hK.out _ _ ?_ (fun hHeld => ?_)
      · exact ⟨hHeld.1.keep hb, hHeld.2.trans (hb.mono hHeld.2.size)⟩
      clear hK K
      try simp only [Act.put, List.getElem_toArray, List.getElem_cons_zero, List.getElem_cons_succ, List.setIfInBounds_toArray, List.set_cons_zero, List.set_cons_succ]
      refine wpAnyH_take (i := 17) (v := ?_) rfl (by kernel_rfl) (by kernel_rfl) (by kernel_rfl) (fun _ _ _ h => h) (Or.inl ⟨by rfl, ?_⟩) (by assumption) ?_
      rotate_left
      · (intro w hSw; (obtain ⟨hSf, hSb⟩ := hSw; have p12 := hSf.cell12; rw [E1.out, E2.out] at p12; have s1 := HJ1.out w hSb; have s2 := HJ2.out w hSb; have s3 := HJ3.out w hSb; clear hSf hSb); go_simp; (try with_reducible rfl))
      try simp only [Act.put, List.getElem_toArray, List.getElem_cons_zero, List.getElem_cons_succ, List.setIfInBounds_toArray, List.set_cons_zero, List.set_cons_succ]
      refine wpAnyH_ready (rs := [31]) (by kernel_rfl) (by simp) ?_
      refine AllReadyH.cons rfl (fun K hK => ?_) AllReadyH.nil
      rw [if_pos (by rfl)]
      go_simp
      with_reducible refine (CY.out _).mono ?_
      rintro e u2 ⟨rfl, hb⟩
      refine hK.out _ _ ?_ (fun hHeld => ?_)
      · exact ⟨hHeld.1.keep hb, hHeld.2.trans (hb.mono hHeld.2.size)⟩
      clear hK K
      try simp only [Act.put, List.getElem_toArray, List.getElem_cons_zero, List.getElem_cons_succ, List.setIfInBounds_toArray, List.set_cons_zero, List.set_cons_succ]
      refine wpAnyH_take (i := 32) (v := ?_) rfl (by kernel_rfl) (by kernel_rfl) (by kernel_rfl) (fun _ _ _ h => h) (Or.inl ⟨by rfl, ?_⟩) (by assumption) ?_
      rotate_left
      · (intro w hSw; (obtain ⟨hSf, hSb⟩ := hSw; have p12 := hSf.cell12; rw [E1.out, E2.out] at p12; have s1 := HJ1.out w hSb; have s2 := HJ2.out w hSb; have s3 := HJ3.out w hSb; clear hSf hSb); go_simp; (try with_reducible rfl))
      try simp only [Act.put, List.getElem_toArray, List.getElem_cons_zero, List.getElem_cons_succ, List.setIfInBounds_toArray, List.set_cons_zero, List.set_cons_succ]
      refine wpAnyH_take (i := 33) (v := ?_) rfl (by kernel_rfl) (by kernel_rfl) (by kernel_rfl) (fun _ _ _ h => h) (Or.inl ⟨by rfl, ?_⟩) (by assumption) ?_
      rotate_left
      · (intro w hSw; (obtain ⟨hSf, hSb⟩ := hSw; have p12 := hSf.cell12; rw [E1.out, E2.out] at p12; have s1 := HJ1.out w hSb; have s2 := HJ2.out w hSb; have s3 := HJ3.out w hSb; clear hSf hSb); go_simp; (try with_reducible rfl))
      try simp only [Act.put, List.getElem_toArray, List.getElem_cons_zero, List.getElem_cons_succ, List.setIfInBounds_toArray, List.set_cons_zero, List.set_cons_succ]
      refine wpAnyH_done (by kernel_rfl) (NoPanic.normal ?_) _
      have HF9 := Lib.hid hHeld.1
      have HB9 := Lib.hid hHeld.2
      clear hHeld
      go_wp2
      go_roundw
      case rel => exact ⟨j, by have := HJ.out; omega, rfl, _, by rw [HC2.out], HL6.out, by rw [HAA.out]; exact HT4.out, HF9.out, HB9.out⟩
      case measure => simp [intOf]
set_option maxHeartbeats 8000000 in
theorem rput_2 (f : Frm) (rs : List (Nat × Nat)) (w : World) (hk : f.kind = 2) (hp : ∀ j, 0 ≤ nm f j) (hrd : Rd w (.slice f.set.a f.set.n f.set.c) (ints rs)) (hl : rs.length ≤ 1000) (hm : mayF 2 f (ints rs) = true) :
    Calls Tryd.prog 10 #[.agg #[.int .u64 f.kind, .int .u64 f.id, .int .u64 f.off, .int .u64 f.max, .int .u64 f.code, .int .u64 f.seq, .int .u64 f.prior, .int .u64 f.delay, .bool f.fin, .string ⟨f.data.toArray⟩, .string ⟨f.cid.toArray⟩, .string ⟨f.token.toArray⟩, .slice f.set.a f.set.n f.set.c]] w fun e w' => e = .returned (.tuple #[.string ⟨(putL f rs).toArray⟩, .int .i64 0]) ∧ Below w.heap.size w w' := by
  obtain ⟨hks, hHas, hnb⟩ := may_kind hm
  have hbd := may_bounds (k := 2) hk hm
  have CM := Lib.hid (fun W (h : Rd W (.slice f.set.a f.set.n f.set.c) (ints rs)) => rmayf 2 f (ints rs) W hk hp h (ints_pos rs) (by rw [ints_len]; exact hl) (by omega) (by omega) (by omega))
  rw [hm] at CM
  have ha : ackB (ints rs) = true := by
    obtain ⟨_, _, _, h4⟩ := mayF_k hm
    unfold kndB at h4
    rw [hk] at h4
    exact h4
  unfold ackB at ha
  rw [Bool.and_eq_true, Bool.and_eq_true, ints_len, ints_get] at ha
  obtain ⟨ha1, ha2, ha3⟩ := ha
  have ha1 := of_decide_eq_true ha1
  have ha2 : MayP (ints rs) := of_decide_eq_true ha2
  have ha3 := of_decide_eq_true ha3
  simp only at ha3
  have hz6 : 0 ≤ f.delay := hp 6
  have hy6 : f.delay ≤ 4611686018427387903 := numB_nm hnb 6 (by decide)
  have CA := Lib.hid (fun W (h : Rd W (.slice f.set.a f.set.n f.set.c) (ints rs)) => rack f rs f.delay.toNat W (by omega) (by omega) h ha1.1 ha1.2 ha2 (by omega))
  have CK := Lib.hid (fun W => v_nat 2 (by decide) W)
  have HP := Lib.hid (putL_2 f rs hk)
  have hlen : (ackP f.delay.toNat rs.reverse).length ≤ 100000 := by
    obtain ⟨n, hn⟩ : ∃ n, rs.length = n + 1 := ⟨rs.length - 1, by omega⟩
    rw [hn, Nat.add_sub_cancel] at ha3
    have hA := ackW rs n hn ha2 (by omega)
    rw [last_cut rs n hn, ackP]
    have hq : ∀ k, k ≤ n → ∀ x : Nat, x < 4611686018427387904 → (ackQ x (rs.take k).reverse).length ≤ 16 * k := by
      intro k
      induction k with
      | zero => intro _ x _; simp [ackQ]
      | succ k ih =>
        intro hk x hx
        have h1 := hA.num k (by omega)
        rw [hA.ack k (by omega) x]
        have h2 := ih (by omega) (rs.getD k (0, 0)).1 (by omega)
        have h3 := pt_le8 (x - (rs.getD k (0, 0)).2 - 2) (by omega)
        have h4 := pt_le8 ((rs.getD k (0, 0)).2 - (rs.getD k (0, 0)).1) (by omega)
        simp only [List.length_append]
        omega
    have h1 := hA.num n (by omega)
    have h2 := hq n (Nat.le_refl _) (rs.getD n (0, 0)).1 (by omega)
    have h3 := pt_le8 (rs.getD n (0, 0)).2 (by omega)
    have h4 := pt_le8 f.delay.toNat (by omega)
    have h5 := pt_le8 (rs.take n).reverse.length (by rw [List.length_reverse, List.length_take]; omega)
    have h6 := pt_le8 ((rs.getD n (0, 0)).2 - (rs.getD n (0, 0)).1) (by omega)
    simp only [List.length_append]
    omega
  obtain ⟨sk, Ek⟩ : ∃ s, pt 2 = s := ⟨_, rfl⟩
  have hsk := pt_le8 2 (by decide)
  rw [Ek] at CK HP hsk
  have CK : Hid (∀ W, Calls Tryd.prog 26 #[.int .u64 2] W fun e w' => e = .returned (.string ⟨sk.toArray⟩) ∧ Below W.heap.size W w') := CK
  obtain ⟨sa, Ea⟩ : ∃ s, ackP f.delay.toNat rs.reverse = s := ⟨_, rfl⟩
  rw [Ea] at CA HP hlen
  have f2 : ¬ 9223372036854775807 < sk.length + sa.length := by omega
  have HC : Hid ((⟨sk.toArray⟩ : ByteArray) ++ ⟨sa.toArray⟩ = ⟨(putL f rs).toArray⟩) := Lib.hid (by rw [HP.out] <;> (apply ByteArray.ext; simp))
  generalize putL f rs = R at *
  have HFR : Hid (FrD w.heap.size f (w.alloc (.cells #[.int .u64 f.kind, .int .u64 f.id, .int .u64 f.off, .int .u64 f.max, .int .u64 f.code, .int .u64 f.seq, .int .u64 f.prior, .int .u64 f.delay, .bool f.fin, .string ⟨f.data.toArray⟩, .string ⟨f.cid.toArray⟩, .string ⟨f.token.toArray⟩, .slice f.set.a f.set.n f.set.c] 36 (0, 0)))) := Lib.hid (World.alloc_heap_new w _)
  have HB0 : Hid (Below w.heap.size w (w.alloc (.cells #[.int .u64 f.kind, .int .u64 f.id, .int .u64 f.off, .int .u64 f.max, .int .u64 f.code, .int .u64 f.seq, .int .u64 f.prior, .int .u64 f.delay, .bool f.fin, .string ⟨f.data.toArray⟩, .string ⟨f.cid.toArray⟩, .string ⟨f.token.toArray⟩, .slice f.set.a f.set.n f.set.c] 36 (0, 0)))) := Lib.hid ((Below.refl w.heap.size w).alloc (Nat.le_refl _) _)
  have HRD := Lib.hid (hrd.below HB0.out)
  have HRW := Lib.hid hrd
  have HK := Lib.hid hk
  clear HP hm hp hrd hk hks hHas hnb hbd hl Ek Ea hz6 hy6 ha1 ha2 ha3
  go_enter Tryd.func10, Tryd.ntmps10
  go_wp2_with fail
  refine (CM.out _ HRD.out).mono ?_
  rintro e w1 ⟨rfl, hb⟩
  have HF1 := Lib.hid (HFR.out.keep hb)
  have HB1 := Lib.hid (HB0.out.trans (hb.mono HB0.out.size))
  have c0 := HF1.out.cell0
  rw [HK.out] at c0
  clear hb HRD CM
  go_wp2_with fail
  refine (CK.out _).mono ?_
  rintro e w2 ⟨rfl, hb⟩
  have HF2 := Lib.hid (HF1.out.keep hb)
  have HB2 := Lib.hid (HB1.out.trans (hb.mono HB1.out.size))
  have d0 := HF2.out.cell0
  rw [HK.out] at d0
  clear hb c0
  have d1 := HF2.out.cell1
  have d2 := HF2.out.cell2
  have d3 := HF2.out.cell3
  have d4 := HF2.out.cell4
  have d5 := HF2.out.cell5
  have d6 := HF2.out.cell6
  have d7 := HF2.out.cell7
  have d8 := HF2.out.cell8
  have d9 := HF2.out.cell9
  have d10 := HF2.out.cell10
  have d11 := HF2.out.cell11
  have d12 := HF2.out.cell12
  have CA2 := CA.out w2 (HRW.out.below HB2.out)
  rw [HK.out] at CA2
  have CA3 := Lib.hid CA2
  clear CA2 CA
  go_wp2_with fail
  refine CA3.out.mono ?_
  rintro e w3 ⟨rfl, hb⟩
  have HB3 := Lib.hid (HB2.out.trans (hb.mono HB2.out.size))
  clear hb
  go_wp2
  go_ret2
  exact ⟨by rw [← HC.out]; rfl, HB3.out⟩
end Go.Proofs.YtpdfdhmhfdogcaaDoor.Fm
