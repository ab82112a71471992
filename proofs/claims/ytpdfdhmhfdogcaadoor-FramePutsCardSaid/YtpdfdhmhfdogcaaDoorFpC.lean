/- Layer 6: the bytes of a frame, kind by kind; the document's v and text. By tools/gen-frame-32.py. -/
import Derived.Test.YtpdfdhmhfdogcaaDoorFpA
import Derived.Test.YtpdfdhmhfdogcaaDoorFmPb
import Derived.Deep.RegionHeld3
namespace Go.Proofs.YtpdfdhmhfdogcaaDoor.Fm
set_option maxRecDepth 20000
open Go.RowKit Vm
set_option linter.unusedVariables false
set_option linter.unusedSimpArgs false
theorem pl_lt4 {n : Nat} (h : n < 4611686018427387904) : pl n < 4 := by
  have := pl_cases n
  omega
set_option maxHeartbeats 1000000 in
theorem rv_ok (n : Int) (w : World) (h0 : 0 ≤ n) (h1 : n ≤ 4611686018427387903) : Calls Tryd.prog 26 #[.int .u64 n] w fun e w' => e = .returned (.string ⟨(pt n.toNat).toArray⟩) ∧ Below w.heap.size w w' := by
  have CP := Lib.hid (fun w => rput n w h0)
  rw [(ps_ok (n := n.toNat) (pl_lt4 (by omega))).1, (ps_ok (n := n.toNat) (pl_lt4 (by omega))).2] at CP
  clear h0 h1
  go_enter Tryd.func26, Tryd.ntmps26
  go_wp2_with fail
  refine (CP.out _).mono ?_
  rintro e w1 ⟨rfl, hb⟩
  have HB := Lib.hid hb
  clear hb
  go_wp2
  go_ret
  exact ⟨rfl, HB.out⟩
theorem pt_le8 (n : Nat) (h : n < 4611686018427387904) : (pt n).length ≤ 8 := by
  rw [pt_length]
  have := pl_lt4 h
  match hp : pl n, this with
  | 0, _ | 1, _ | 2, _ | 3, _ => decide
set_option maxHeartbeats 1000000 in
theorem text_any (l : List UInt8) (w : World) (hl : l.length ≤ 1000000) : Calls Tryd.prog 28 #[.string ⟨l.toArray⟩] w fun e w' => e = .returned (.string ⟨(pt l.length ++ l).toArray⟩) ∧ Below w.heap.size w w' := by
  obtain ⟨n, hn⟩ : ∃ n, l.length = n := ⟨_, rfl⟩
  have CV := Lib.hid (fun w => rv_ok ((n : Nat) : Int) w (by omega) (by omega))
  rw [Int.toNat_natCast] at CV
  have hp := pt_le8 n (by omega)
  have hsz : (⟨l.toArray⟩ : ByteArray).size = n := hn
  rw [hn]
  obtain ⟨p, hpt⟩ : ∃ p, pt n = p := ⟨_, rfl⟩
  rw [hpt] at CV hp ⊢
  have hwr : IntKind.u64.wrap ((n : Nat) : Int) = ((n : Nat) : Int) := by rw [IntKind.wrap_u64]; omega
  have hf : ¬ 9223372036854775807 < p.length + l.length := by omega
  have hf2 : ¬ 9223372036854775807 < p.length + n := by omega
  have hc : Hid ((⟨p.toArray⟩ : ByteArray) ++ ⟨l.toArray⟩ = ⟨(p ++ l).toArray⟩) := Lib.hid (by apply ByteArray.ext; simp)
  clear hpt hn
  go_enter Tryd.func28, Tryd.ntmps28
  go_wp2_with fail
  refine (CV.out _).mono ?_
  rintro e w1 ⟨rfl, hb⟩
  have HB := Lib.hid hb
  clear hb
  go_wp2
  go_ret
  exact ⟨by rw [← hc.out]; rfl, HB.out⟩
theorem numB_nm {f : Frm} (h : numB f = true) (j : Nat) (hj : j < 7) : nm f j ≤ 4611686018427387903 := of_decide_eq_true (List.all_eq_true.1 h j (List.mem_range.2 hj))
theorem putL_0 (f : Frm) (rs : List (Nat × Nat)) (hk : f.kind = 0) (h : Has 0 f) : putL f rs = pt 0 := by
  have e1 : (fstN f).toNat = 0 := by unfold fstN; rw [hk]; rfl
  unfold putL
  rw [e1, show toldP 0 = 0 from rfl, if_neg (by decide), show chN 0 f 7 = [] from rfl]
  unfold txtL
  rw [h.data (by decide)]
  rw [h.cid (by decide)]
  rw [h.token (by decide)]
  simp [pcat, show Nat.testBit 0 7 = false from rfl, show Nat.testBit 0 8 = false from rfl]
theorem putL_1 (f : Frm) (rs : List (Nat × Nat)) (hk : f.kind = 1) (h : Has 0 f) : putL f rs = pt 1 := by
  have e1 : (fstN f).toNat = 1 := by unfold fstN; rw [hk]; rfl
  unfold putL
  rw [e1, show toldP 1 = 0 from rfl, if_neg (by decide), show chN 0 f 7 = [] from rfl]
  unfold txtL
  rw [h.data (by decide)]
  rw [h.cid (by decide)]
  rw [h.token (by decide)]
  simp [pcat, show Nat.testBit 0 7 = false from rfl, show Nat.testBit 0 8 = false from rfl]
theorem putL_30 (f : Frm) (rs : List (Nat × Nat)) (hk : f.kind = 30) (h : Has 0 f) : putL f rs = pt 30 := by
  have e1 : (fstN f).toNat = 30 := by unfold fstN; rw [hk]; rfl
  unfold putL
  rw [e1, show toldP 30 = 0 from rfl, if_neg (by decide), show chN 0 f 7 = [] from rfl]
  unfold txtL
  rw [h.data (by decide)]
  rw [h.cid (by decide)]
  rw [h.token (by decide)]
  simp [pcat, show Nat.testBit 0 7 = false from rfl, show Nat.testBit 0 8 = false from rfl]
theorem putL_4 (f : Frm) (rs : List (Nat × Nat)) (hk : f.kind = 4) (h : Has 13 f) : putL f rs = pt 4 ++ pt f.id.toNat ++ pt f.code.toNat ++ pt f.max.toNat := by
  have e1 : (fstN f).toNat = 4 := by unfold fstN; rw [hk]; rfl
  unfold putL
  rw [e1, show toldP 4 = 13 from rfl, if_neg (by decide), show chN 13 f 7 = [f.id, f.code, f.max] from rfl]
  unfold txtL
  rw [h.data (by decide)]
  rw [h.cid (by decide)]
  rw [h.token (by decide)]
  simp [pcat, show Nat.testBit 13 7 = false from rfl, show Nat.testBit 13 8 = false from rfl]
theorem putL_5 (f : Frm) (rs : List (Nat × Nat)) (hk : f.kind = 5) (h : Has 5 f) : putL f rs = pt 5 ++ pt f.id.toNat ++ pt f.code.toNat := by
  have e1 : (fstN f).toNat = 5 := by unfold fstN; rw [hk]; rfl
  unfold putL
  rw [e1, show toldP 5 = 5 from rfl, if_neg (by decide), show chN 5 f 7 = [f.id, f.code] from rfl]
  unfold txtL
  rw [h.data (by decide)]
  rw [h.cid (by decide)]
  rw [h.token (by decide)]
  simp [pcat, show Nat.testBit 5 7 = false from rfl, show Nat.testBit 5 8 = false from rfl]
theorem putL_6 (f : Frm) (rs : List (Nat × Nat)) (hk : f.kind = 6) (h : Has 130 f) : putL f rs = pt 6 ++ pt f.off.toNat ++ (pt f.data.length ++ f.data) := by
  have e1 : (fstN f).toNat = 6 := by unfold fstN; rw [hk]; rfl
  unfold putL
  rw [e1, show toldP 6 = 130 from rfl, if_neg (by decide), show chN 130 f 7 = [f.off] from rfl]
  unfold txtL
  rw [h.cid (by decide)]
  rw [h.token (by decide)]
  simp [pcat, show Nat.testBit 130 7 = true from rfl, show Nat.testBit 130 8 = false from rfl]
theorem putL_16 (f : Frm) (rs : List (Nat × Nat)) (hk : f.kind = 16) (h : Has 8 f) : putL f rs = pt 16 ++ pt f.max.toNat := by
  have e1 : (fstN f).toNat = 16 := by unfold fstN; rw [hk]; rfl
  unfold putL
  rw [e1, show toldP 16 = 8 from rfl, if_neg (by decide), show chN 8 f 7 = [f.max] from rfl]
  unfold txtL
  rw [h.data (by decide)]
  rw [h.cid (by decide)]
  rw [h.token (by decide)]
  simp [pcat, show Nat.testBit 8 7 = false from rfl, show Nat.testBit 8 8 = false from rfl]
theorem putL_18 (f : Frm) (rs : List (Nat × Nat)) (hk : f.kind = 18) (h : Has 8 f) : putL f rs = pt 18 ++ pt f.max.toNat := by
  have e1 : (fstN f).toNat = 18 := by unfold fstN; rw [hk]; rfl
  unfold putL
  rw [e1, show toldP 18 = 8 from rfl, if_neg (by decide), show chN 8 f 7 = [f.max] from rfl]
  unfold txtL
  rw [h.data (by decide)]
  rw [h.cid (by decide)]
  rw [h.token (by decide)]
  simp [pcat, show Nat.testBit 8 7 = false from rfl, show Nat.testBit 8 8 = false from rfl]
theorem putL_19 (f : Frm) (rs : List (Nat × Nat)) (hk : f.kind = 19) (h : Has 8 f) : putL f rs = pt 19 ++ pt f.max.toNat := by
  have e1 : (fstN f).toNat = 19 := by unfold fstN; rw [hk]; rfl
  unfold putL
  rw [e1, show toldP 19 = 8 from rfl, if_neg (by decide), show chN 8 f 7 = [f.max] from rfl]
  unfold txtL
  rw [h.data (by decide)]
  rw [h.cid (by decide)]
  rw [h.token (by decide)]
  simp [pcat, show Nat.testBit 8 7 = false from rfl, show Nat.testBit 8 8 = false from rfl]
theorem putL_20 (f : Frm) (rs : List (Nat × Nat)) (hk : f.kind = 20) (h : Has 8 f) : putL f rs = pt 20 ++ pt f.max.toNat := by
  have e1 : (fstN f).toNat = 20 := by unfold fstN; rw [hk]; rfl
  unfold putL
  rw [e1, show toldP 20 = 8 from rfl, if_neg (by decide), show chN 8 f 7 = [f.max] from rfl]
  unfold txtL
  rw [h.data (by decide)]
  rw [h.cid (by decide)]
  rw [h.token (by decide)]
  simp [pcat, show Nat.testBit 8 7 = false from rfl, show Nat.testBit 8 8 = false from rfl]
theorem putL_22 (f : Frm) (rs : List (Nat × Nat)) (hk : f.kind = 22) (h : Has 8 f) : putL f rs = pt 22 ++ pt f.max.toNat := by
  have e1 : (fstN f).toNat = 22 := by unfold fstN; rw [hk]; rfl
  unfold putL
  rw [e1, show toldP 22 = 8 from rfl, if_neg (by decide), show chN 8 f 7 = [f.max] from rfl]
  unfold txtL
  rw [h.data (by decide)]
  rw [h.cid (by decide)]
  rw [h.token (by decide)]
  simp [pcat, show Nat.testBit 8 7 = false from rfl, show Nat.testBit 8 8 = false from rfl]
theorem putL_23 (f : Frm) (rs : List (Nat × Nat)) (hk : f.kind = 23) (h : Has 8 f) : putL f rs = pt 23 ++ pt f.max.toNat := by
  have e1 : (fstN f).toNat = 23 := by unfold fstN; rw [hk]; rfl
  unfold putL
  rw [e1, show toldP 23 = 8 from rfl, if_neg (by decide), show chN 8 f 7 = [f.max] from rfl]
  unfold txtL
  rw [h.data (by decide)]
  rw [h.cid (by decide)]
  rw [h.token (by decide)]
  simp [pcat, show Nat.testBit 8 7 = false from rfl, show Nat.testBit 8 8 = false from rfl]
theorem putL_17 (f : Frm) (rs : List (Nat × Nat)) (hk : f.kind = 17) (h : Has 9 f) : putL f rs = pt 17 ++ pt f.id.toNat ++ pt f.max.toNat := by
  have e1 : (fstN f).toNat = 17 := by unfold fstN; rw [hk]; rfl
  unfold putL
  rw [e1, show toldP 17 = 9 from rfl, if_neg (by decide), show chN 9 f 7 = [f.id, f.max] from rfl]
  unfold txtL
  rw [h.data (by decide)]
  rw [h.cid (by decide)]
  rw [h.token (by decide)]
  simp [pcat, show Nat.testBit 9 7 = false from rfl, show Nat.testBit 9 8 = false from rfl]
theorem putL_21 (f : Frm) (rs : List (Nat × Nat)) (hk : f.kind = 21) (h : Has 9 f) : putL f rs = pt 21 ++ pt f.id.toNat ++ pt f.max.toNat := by
  have e1 : (fstN f).toNat = 21 := by unfold fstN; rw [hk]; rfl
  unfold putL
  rw [e1, show toldP 21 = 9 from rfl, if_neg (by decide), show chN 9 f 7 = [f.id, f.max] from rfl]
  unfold txtL
  rw [h.data (by decide)]
  rw [h.cid (by decide)]
  rw [h.token (by decide)]
  simp [pcat, show Nat.testBit 9 7 = false from rfl, show Nat.testBit 9 8 = false from rfl]
theorem putL_24 (f : Frm) (rs : List (Nat × Nat)) (hk : f.kind = 24) (h : Has 816 f) (hc : f.cid.length = 8) : putL f rs = pt 24 ++ pt f.seq.toNat ++ pt f.prior.toNat ++ [8] ++ f.cid ++ f.token := by
  have e1 : (fstN f).toNat = 24 := by unfold fstN; rw [hk]; rfl
  unfold putL
  rw [e1, show toldP 24 = 816 from rfl, if_neg (by decide), show chN 816 f 7 = [f.seq, f.prior] from rfl]
  unfold txtL
  rw [h.data (by decide)]
  rw [hc]
  simp [pcat, show Nat.testBit 816 7 = false from rfl, show Nat.testBit 816 8 = true from rfl]
theorem putL_25 (f : Frm) (rs : List (Nat × Nat)) (hk : f.kind = 25) (h : Has 16 f) : putL f rs = pt 25 ++ pt f.seq.toNat := by
  have e1 : (fstN f).toNat = 25 := by unfold fstN; rw [hk]; rfl
  unfold putL
  rw [e1, show toldP 25 = 16 from rfl, if_neg (by decide), show chN 16 f 7 = [f.seq] from rfl]
  unfold txtL
  rw [h.data (by decide)]
  rw [h.cid (by decide)]
  rw [h.token (by decide)]
  simp [pcat, show Nat.testBit 16 7 = false from rfl, show Nat.testBit 16 8 = false from rfl]
theorem putL_26 (f : Frm) (rs : List (Nat × Nat)) (hk : f.kind = 26) (h : Has 512 f) : putL f rs = pt 26 ++ f.token := by
  have e1 : (fstN f).toNat = 26 := by unfold fstN; rw [hk]; rfl
  unfold putL
  rw [e1, show toldP 26 = 512 from rfl, if_neg (by decide), show chN 512 f 7 = [] from rfl]
  unfold txtL
  rw [h.data (by decide)]
  rw [h.cid (by decide)]
  simp [pcat, show Nat.testBit 512 7 = false from rfl, show Nat.testBit 512 8 = false from rfl]
theorem putL_27 (f : Frm) (rs : List (Nat × Nat)) (hk : f.kind = 27) (h : Has 512 f) : putL f rs = pt 27 ++ f.token := by
  have e1 : (fstN f).toNat = 27 := by unfold fstN; rw [hk]; rfl
  unfold putL
  rw [e1, show toldP 27 = 512 from rfl, if_neg (by decide), show chN 512 f 7 = [] from rfl]
  unfold txtL
  rw [h.data (by decide)]
  rw [h.cid (by decide)]
  simp [pcat, show Nat.testBit 512 7 = false from rfl, show Nat.testBit 512 8 = false from rfl]
theorem putL_28 (f : Frm) (rs : List (Nat × Nat)) (hk : f.kind = 28) (h : Has 196 f) : putL f rs = pt 28 ++ pt f.code.toNat ++ pt f.delay.toNat ++ (pt f.data.length ++ f.data) := by
  have e1 : (fstN f).toNat = 28 := by unfold fstN; rw [hk]; rfl
  unfold putL
  rw [e1, show toldP 28 = 196 from rfl, if_neg (by decide), show chN 196 f 7 = [f.code, f.delay] from rfl]
  unfold txtL
  rw [h.cid (by decide)]
  rw [h.token (by decide)]
  simp [pcat, show Nat.testBit 196 7 = true from rfl, show Nat.testBit 196 8 = false from rfl]
theorem putL_29 (f : Frm) (rs : List (Nat × Nat)) (hk : f.kind = 29) (h : Has 132 f) : putL f rs = pt 29 ++ pt f.code.toNat ++ (pt f.data.length ++ f.data) := by
  have e1 : (fstN f).toNat = 29 := by unfold fstN; rw [hk]; rfl
  unfold putL
  rw [e1, show toldP 29 = 132 from rfl, if_neg (by decide), show chN 132 f 7 = [f.code] from rfl]
  unfold txtL
  rw [h.cid (by decide)]
  rw [h.token (by decide)]
  simp [pcat, show Nat.testBit 132 7 = true from rfl, show Nat.testBit 132 8 = false from rfl]
theorem putL_8_10 (f : Frm) (rs : List (Nat × Nat)) (hk : f.kind = 8) (h : Has 1155 f) (hf : f.fin = false) (ho : f.off = 0) : putL f rs = pt 10 ++ pt f.id.toNat ++ [] ++ (pt f.data.length ++ f.data) := by
  have e1 : (fstN f).toNat = 10 := by unfold fstN; rw [if_pos hk, hf, if_pos ho]; rfl
  unfold putL
  rw [e1, show toldP 10 = 129 from rfl, if_neg (by decide), show chN 129 f 7 = [f.id] from rfl]
  unfold txtL
  rw [h.cid (by decide), h.token (by decide)]
  simp [pcat, show Nat.testBit 129 7 = true from rfl, show Nat.testBit 129 8 = false from rfl]
theorem putL_8_14 (f : Frm) (rs : List (Nat × Nat)) (hk : f.kind = 8) (h : Has 1155 f) (hf : f.fin = false) (ho : f.off ≠ 0) : putL f rs = pt 14 ++ pt f.id.toNat ++ pt f.off.toNat ++ (pt f.data.length ++ f.data) := by
  have e1 : (fstN f).toNat = 14 := by unfold fstN; rw [if_pos hk, hf, if_neg ho]; rfl
  unfold putL
  rw [e1, show toldP 14 = 131 from rfl, if_neg (by decide), show chN 131 f 7 = [f.id, f.off] from rfl]
  unfold txtL
  rw [h.cid (by decide), h.token (by decide)]
  simp [pcat, show Nat.testBit 131 7 = true from rfl, show Nat.testBit 131 8 = false from rfl]
theorem putL_8_11 (f : Frm) (rs : List (Nat × Nat)) (hk : f.kind = 8) (h : Has 1155 f) (hf : f.fin = true) (ho : f.off = 0) : putL f rs = pt 11 ++ pt f.id.toNat ++ [] ++ (pt f.data.length ++ f.data) := by
  have e1 : (fstN f).toNat = 11 := by unfold fstN; rw [if_pos hk, hf, if_pos ho]; rfl
  unfold putL
  rw [e1, show toldP 11 = 1153 from rfl, if_neg (by decide), show chN 1153 f 7 = [f.id] from rfl]
  unfold txtL
  rw [h.cid (by decide), h.token (by decide)]
  simp [pcat, show Nat.testBit 1153 7 = true from rfl, show Nat.testBit 1153 8 = false from rfl]
theorem putL_8_15 (f : Frm) (rs : List (Nat × Nat)) (hk : f.kind = 8) (h : Has 1155 f) (hf : f.fin = true) (ho : f.off ≠ 0) : putL f rs = pt 15 ++ pt f.id.toNat ++ pt f.off.toNat ++ (pt f.data.length ++ f.data) := by
  have e1 : (fstN f).toNat = 15 := by unfold fstN; rw [if_pos hk, hf, if_neg ho]; rfl
  unfold putL
  rw [e1, show toldP 15 = 1155 from rfl, if_neg (by decide), show chN 1155 f 7 = [f.id, f.off] from rfl]
  unfold txtL
  rw [h.cid (by decide), h.token (by decide)]
  simp [pcat, show Nat.testBit 1155 7 = true from rfl, show Nat.testBit 1155 8 = false from rfl]
theorem putL_2 (f : Frm) (rs : List (Nat × Nat)) (hk : f.kind = 2) : putL f rs = pt 2 ++ ackP f.delay.toNat rs.reverse := by
  have e1 : (fstN f).toNat = 2 := by unfold fstN; rw [hk]; rfl
  unfold putL
  rw [e1, show toldP 2 = 2112 from rfl, if_pos (by decide)]
end Go.Proofs.YtpdfdhmhfdogcaaDoor.Fm
