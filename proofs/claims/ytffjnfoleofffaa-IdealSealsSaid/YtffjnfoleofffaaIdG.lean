/- The document's functions of layer 10: New, Cid, Open, Same. By hand. -/
import Derived.Test.YtffjnfoleofffaaIdF
namespace Go.Proofs.Ytffjnfoleofffaa.Id
open Go.RowKit Vm
set_option linter.unusedVariables false
set_option linter.unusedSimpArgs false

set_option maxHeartbeats 1000000 in
theorem rnew_any (s : Nat) (w : World) :
    Calls Try.prog 16 #[.int .u64 s] w fun e w' => e = .returned (.agg #[.int .u64 s, .int .u64 0, .slice none 0 0]) ∧ Below w.heap.size w w' := by
  go_enter Try.func16, Try.ntmps16
  go_wp2
  exact bodyPost_ret (v := .agg #[.int .u64 s, .int .u64 0, .slice none 0 0]) (by simp [results, Try.results16, go_sem]) rfl ⟨rfl, (Below.refl _ _).alloc (Nat.le_refl _) _⟩
/-- The connection ID of what is sealed. -/
def cidS (b : ByteArray) : ByteArray := if b.size < 9 then ⟨#[]⟩ else b.extract 1 9
set_option maxHeartbeats 1000000 in
theorem cid_any (b : ByteArray) (w : World) (hb : b.size ≤ 100000) :
    Calls Try.prog 21 #[.string b] w fun e w' => e = .returned (.string (cidS b)) ∧ w = w' := by
  obtain ⟨n, hn⟩ : ∃ n, b.size = n := ⟨_, rfl⟩
  have hn0 : (n : Int) ≤ 100000 := by omega
  unfold cidS
  rw [hn]
  by_cases h : n < 9
  · rw [if_pos h]
    have hI : (n : Int) < 9 := by omega
    clear h hb
    go_enter Try.func21, Try.ntmps21
    go_wp2
    go_ret
    exact ⟨rfl, rfl⟩
  · rw [if_neg h]
    have hI : ¬ (n : Int) < 9 := by omega
    have hn9 : 9 ≤ n := by omega
    clear h hb
    go_enter Try.func21, Try.ntmps21
    go_wp2
    go_ret
    exact ⟨rfl, rfl⟩
set_option maxHeartbeats 1000000 in
theorem rcid_any (b : ByteArray) (w : World) (hb : b.size ≤ 100000) :
    Calls Try.prog 22 #[.string b] w fun e w' => e = .returned (.string (cidS b)) ∧ w = w' := by
  obtain ⟨n, hn⟩ : ∃ n, b.size = n := ⟨_, rfl⟩
  have hn0 : (n : Int) ≤ 100000 := by omega
  unfold cidS
  rw [hn]
  by_cases h : n < 9
  · rw [if_pos h]
    have hI : (n : Int) < 9 := by omega
    clear h hb
    go_enter Try.func22, Try.ntmps22
    go_wp2
    go_ret
    exact ⟨rfl, rfl⟩
  · rw [if_neg h]
    have hI : ¬ (n : Int) < 9 := by omega
    have hn9 : 9 ≤ n := by omega
    clear h hb
    go_enter Try.func22, Try.ntmps22
    go_wp2
    go_ret
    exact ⟨rfl, rfl⟩
/-- The cells of a row that is read, in any world behind it. -/
def Cells (a : Option Addr) (n : Nat) (G : List Ent) (w : World) : Prop := ∀ i, i < n → ∃ g off, a = some ⟨g, off, none⟩ ∧ ∀ V, Below w.heap.size w V → V.cell? ⟨g, off + i * 4, none⟩ = some (.int .i64 (G.getD i eZ).fr) ∧ V.cell? ⟨g, off + i * 4 + 1, none⟩ = some (.int .u64 (G.getD i eZ).num) ∧ V.cell? ⟨g, off + i * 4 + 2, none⟩ = some (.string (G.getD i eZ).bytes) ∧ V.cell? ⟨g, off + i * 4 + 3, none⟩ = some (.string (G.getD i eZ).plain)
theorem RowE.cells {w : World} {a : Option Addr} {n cap : Nat} {G : List Ent} (hr : RowE w (.slice a n cap) G) : n = G.length ∧ n ≤ cap ∧ Cells a n G w := by
  obtain ⟨a', cap', he, hcap, hrow⟩ := hr
  injection he with e1 e2 e3
  subst e1; subst e2; subst e3
  refine ⟨rfl, hcap, fun i hi => ?_⟩
  obtain ⟨g, off, ha, hg, hc⟩ := hrow (fun h => by rw [h] at hi; simp at hi)
  refine ⟨g, off, ha, fun V hV => ?_⟩
  have hh := fun j hj => (hV.cell (p := ⟨g, off + (i * 4 + j), none⟩) hg).trans (hc i hi j hj)
  exact ⟨hh 0 (by decide), by rw [Nat.add_assoc]; exact hh 1 (by decide), by rw [Nat.add_assoc]; exact hh 2 (by decide), by rw [Nat.add_assoc]; exact hh 3 (by decide)⟩
theorem RowE.form {w : World} {v : Value} {G : List Ent} (hr : RowE w v G) : ∃ a cap, v = .slice a G.length cap := by
  obtain ⟨a, cap, hv, _⟩ := hr
  exact ⟨a, cap, hv⟩
set_option maxHeartbeats 4000000 in
theorem ropen_any (sd nx : Int) (v : Value) (G : List Ent) (to : Int) (b : ByteArray) (w : World) (hr : RowE w v G) (hG : G.length ≤ 1000) :
    Calls Try.prog 24 #[.agg #[.int .u64 sd, .int .u64 nx, v], .int .i64 to, .string b] w fun r w' => r = .returned (opnV (opn to b G)) ∧ Below w.heap.size w w' := by
  obtain ⟨a, cap, rfl⟩ := hr.form
  obtain ⟨-, hcap, hc⟩ := hr.cells
  obtain ⟨n, hn⟩ : ∃ n, G.length = n := ⟨_, rfl⟩
  rw [hn] at hcap hc ⊢
  have HW0 := Lib.hid ((Below.refl w.heap.size w).alloc (Nat.le_refl _) (.cells #[.int .u64 sd, .int .u64 nx, .slice a n cap] 35))
  have HB0 : Hid ((w.alloc (.cells #[.int .u64 sd, .int .u64 nx, .slice a n cap] 35)).cell? ⟨w.heap.size, 2, none⟩ = some (.slice a n cap)) := Lib.hid (by simp [go_sem])
  have HZ : w.heap.size < (w.alloc (.cells #[.int .u64 sd, .int .u64 nx, .slice a n cap] 35)).heap.size := by simp
  have HC := Lib.hid hc
  have HN := Lib.hid hn
  have hn0 : (n : Int) ≤ 1000 := by omega
  clear hr hc hn hG
  go_enter Try.func24, Try.ntmps24
  go_wp2
  generalize w.alloc (.cells #[.int .u64 sd, .int .u64 nx, .slice a n cap] 35) = w1 at *
  go_loopw [9] (fun iv wr => ∃ i : Nat, i ≤ n ∧ iv = .int .i64 (i : Nat) ∧ (∀ j, j < i → sel to b (G.getD j eZ) = false) ∧ Below w1.heap.size w1 wr) (fun iv _ => n - (intOf iv).toNat)
  case atStart => exact ⟨0, Nat.zero_le _, rfl, fun j hj => by omega, Below.refl _ _⟩
  case round =>
    obtain ⟨i, hi, rfl, hno, hb⟩ := hrel
    have c2 := (hb.cell (p := ⟨w.heap.size, 2, none⟩) HZ).trans HB0.out
    have HB := Lib.hid (HW0.out.trans (hb.mono (Nat.le_of_lt HZ)))
    have HB1 := Lib.hid hb
    have HNO := Lib.hid hno
    clear hb hno
    have hi0 : (0 : Int) ≤ (i : Int) := by omega
    by_cases hin : (i : Int) < (n : Int)
    · have hin2 : i < n := by omega
      obtain ⟨g, off, rfl, hc⟩ := HC.out i hin2
      obtain ⟨e0, e1, e2, e3⟩ := hc wr HB.out
      clear hc
      obtain ⟨x, hx⟩ : ∃ x, G.getD i eZ = x := ⟨_, rfl⟩
      rw [hx] at e0 e1 e2 e3
      have HX := Lib.hid hx
      clear hx
      by_cases hbe : x.bytes = b
      · have ht := toList_eq' hbe
        have hs := sel_fr (to := to) hbe
        by_cases hf : x.fr = to
        · have HS : Hid (sel to b x = false) := Lib.hid (by rw [hs]; simp [hf])
          have hfb : (x.fr != to) = false := by simp [hf]
          clear hs hf hbe
          go_wp2_with fail
          go_roundw
          case rel =>
            refine ⟨i + 1, by omega, by go_num, fun j hj => ?_, HB1.out⟩
            by_cases hji : j < i
            · exact HNO.out j hji
            · obtain rfl : j = i := by omega
              rw [HX.out]; exact HS.out
          case measure => simp [intOf]; omega
        · have HS : Hid (sel to b x = true) := Lib.hid (by rw [hs]; simp [hf])
          have hfb : (x.fr != to) = true := by simp [hf]
          have HO : Hid (opn to b G = some x) := Lib.hid (by
            rcases opn_of (to := to) (b := b) (G := G) with ⟨h1, h2⟩ | ⟨k, hk, h1, h2⟩
            · rw [ixs_some (k := i) (by have := HN.out; omega) (by rw [HX.out]; exact HS.out) HNO.out] at h1; omega
            · rw [ixs_some (k := i) (by have := HN.out; omega) (by rw [HX.out]; exact HS.out) HNO.out] at h1
              obtain rfl : i = k := by omega
              rw [h2, HX.out])
          clear hs hf hbe
          go_wp2_with fail
          go_quiet (fail)
          go_wp2_with fail
          refine bodyPost_ret (results_tmp3 Try.results24 _ _ _) rfl ?_
          refine ⟨?_, HB.out.trans (below_drewN (Below.refl _ _) _)⟩
          rw [opn_some HO.out]
          rfl
      · have ht := toList_ne hbe
        have HS : Hid (sel to b x = false) := Lib.hid (sel_bytes hbe)
        clear hbe
        go_wp2_with fail
        go_roundw
        case rel =>
          refine ⟨i + 1, by omega, by go_num, fun j hj => ?_, HB1.out⟩
          by_cases hji : j < i
          · exact HNO.out j hji
          · obtain rfl : j = i := by omega
            rw [HX.out]; exact HS.out
        case measure => simp [intOf]; omega
    · have HO : Hid (opn to b G = none) := Lib.hid (by
        rcases opn_of (to := to) (b := b) (G := G) with ⟨h1, h2⟩ | ⟨k, hk, h1, h2⟩
        · exact h2
        · rw [ixs_none (fun j hj => HNO.out j (by have := HN.out; omega))] at h1; omega)
      go_wp2_with fail
      refine bodyPost_ret (results_tmp3 Try.results24 _ _ _) rfl ?_
      refine ⟨?_, HB.out⟩
      rw [opn_none HO.out]
      rfl
end Go.Proofs.Ytffjnfoleofffaa.Id
