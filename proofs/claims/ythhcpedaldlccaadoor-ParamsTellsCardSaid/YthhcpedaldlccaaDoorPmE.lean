/- The walks of layer 5: a pair's bytes. -/
import Derived.Test.YthhcpedaldlccaaDoorPmB
import Derived.Test.YthhcpedaldlccaaDoorVmP
namespace Go.Proofs.YthhcpedaldlccaaDoor.Pm
open Go.RowKit Vm
set_option linter.unusedVariables false
set_option linter.unusedSimpArgs false

theorem ps_len (n : Nat) : (ps n).length ≤ 8 := by
  unfold ps
  split
  · exact Nat.zero_le _
  · rename_i h
    exact (pt_le n (by have := pl_le n; omega)).2
theorem pl_fit {m : Nat} (h : m < 4611686018427387904) : pl m < 4 := by
  rcases pl_cases m with ⟨hp, h1⟩ | ⟨hp, h1, h2⟩ | ⟨hp, h1, h2⟩ | ⟨hp, h1, h2⟩ | ⟨hp, h1⟩ <;> omega
/-- A pair's bytes: its number, its length, its value. -/
def pairL (n : Int) (l : List UInt8) : List UInt8 := ps n.toNat ++ ps l.length ++ l
theorem pcat_pair (n : Int) (l : List UInt8) (h : n < 4611686018427387904) (hl : l.length < 4611686018427387904) : pcat [n, ((l.length : Nat) : Int)] = ps n.toNat ++ ps l.length := by
  have h1 := (ps_ok (n := n.toNat) (pl_fit (by omega))).1
  have h2 := (ps_ok (n := l.length) (pl_fit (by omega))).1
  rw [pcat_cons, pcat_cons, pcat_nil, List.append_nil, Int.toNat_natCast, h1, h2]
theorem fit_pair (n : Int) (l : List UInt8) (h : n < 4611686018427387904) (hl : l.length < 4611686018427387904) : allFit [n, ((l.length : Nat) : Int)] := by
  intro z hz
  simp only [List.mem_cons, List.not_mem_nil, or_false] at hz
  rcases hz with rfl | rfl
  · exact pl_fit (by omega)
  · exact pl_fit (by omega)
theorem puts_pair (n : Int) (l : List UInt8) (g : Nat) (w : World) (ht : Tab w) (hg : g < w.heap.size) (c0 : w.cell? ⟨g, 0, none⟩ = some (.int .u64 n)) (c1 : w.cell? ⟨g, 1, none⟩ = some (.int .u64 ((l.length : Nat) : Int))) (h0 : 0 ≤ n) (h : n < 4611686018427387904) (hl : l.length < 4611686018427387904) :
    Calls Tryd.prog 33 #[.slice (some ⟨g, 0, none⟩) 2 2] w fun e w' => e = .returned (.tuple #[.string ⟨(ps n.toNat ++ ps l.length).toArray⟩, .int .i64 0]) ∧ Below w.heap.size w w' := by
  refine (vputs_row g 0 2 [n, ((l.length : Nat) : Int)] w ht ⟨hg, fun i hi => ?_⟩ (by simp)).mono ?_
  · have : i = 0 ∨ i = 1 := by simp at hi; omega
    rcases this with rfl | rfl
    · exact ⟨c0, h0⟩
    · exact ⟨c1, by simp⟩
  · rintro e w' ⟨hb, ⟨_, rfl⟩ | ⟨hf, _⟩⟩
    · exact ⟨by rw [pcat_pair n l h hl], hb⟩
    · exact absurd (fit_pair n l h hl) hf
set_option maxHeartbeats 1000000 in
theorem pairPut_any (n : Int) (l : List UInt8) (w : World) (ht : Tab w) (h0 : 0 ≤ n) (h : n < 4611686018427387904) (hl : l.length ≤ 140737488351232) :
    Calls Tryd.prog 19 #[.agg #[.int .u64 n, .string ⟨l.toArray⟩]] w fun e w' => e = .returned (.string ⟨(pairL n l).toArray⟩) ∧ Below w.heap.size w w' := by
  have hlt := ht.lt
  have HT := Lib.hid ht
  clear ht
  have CP := Lib.hid (fun g w (ht : Tab w) (hg : g < w.heap.size) c0 c1 => puts_pair n l g w ht hg c0 c1 h0 h (by omega))
  have l1 := ps_len n.toNat
  have l2 := ps_len l.length
  obtain ⟨a, Ea⟩ : ∃ a, a = ps n.toNat ++ ps l.length := ⟨_, rfl⟩
  have la : a.length ≤ 100 := by rw [Ea]; simp; omega
  rw [← Ea] at CP
  have EP : Hid (pairL n l = a ++ l) := Lib.hid (by unfold pairL; rw [Ea])
  clear Ea l1 l2
  go_enter Tryd.func19, Tryd.ntmps19
  go_wp2_with fail
  refine (CP.out _ _ (HT.out.below (((Below.refl w.heap.size w).alloc (Nat.le_refl _) _).alloc (by simp) _) hlt) (by simp) (by simp [go_sem]) (by simp [go_sem])).mono ?_
  rintro e w1 ⟨rfl, hb⟩
  have x1 := hb.cell (p := ⟨w.heap.size, 1, none⟩) (by simp; omega)
  simp [go_sem] at x1
  have HB := Lib.hid ((((Below.refl w.heap.size w).alloc (Nat.le_refl _) (.cells #[.int .u64 n, .string ⟨l.toArray⟩] 54)).alloc (by simp) (.cells #[.int .u64 n, .int .u64 ((l.length : Nat) : Int)] 22)).trans (hb.mono (by simp; omega)))
  clear hb
  go_wp2
  go_ret
  exact ⟨by rw [EP.out, ← app_two]; rfl, HB.out⟩
end Go.Proofs.YthhcpedaldlccaaDoor.Pm
