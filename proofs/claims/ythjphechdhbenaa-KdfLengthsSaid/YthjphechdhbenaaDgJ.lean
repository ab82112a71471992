/- The walks of layer 7: Sum. -/
import Derived.Test.YthjphechdhbenaaDgI
namespace Go.Proofs.Ythjphechdhbenaa.Dg
set_option maxRecDepth 20000
open Go.RowKit
set_option linter.unusedVariables false
set_option linter.unusedSimpArgs false

theorem sv_to (l : List UInt8) (n : Nat) : (⟨l.toArray⟩ : ByteArray).extract 0 n = ⟨(l.take n).toArray⟩ := by
  apply ByteArray.ext
  simp
theorem sv_from (l : List UInt8) (n : Nat) : (⟨l.toArray⟩ : ByteArray).extract n l.length = ⟨(l.drop n).toArray⟩ := by
  apply ByteArray.ext
  apply Array.toList_inj.1
  rw [Lib.extract_data]
  simp [List.take_of_length_le]
def slen : Value → Nat
  | .string s => s.size
  | _ => 0
theorem plus_ok (v u : V) : (plus v u).ok := ⟨m32_lt _, m32_lt _, m32_lt _, m32_lt _, m32_lt _, m32_lt _, m32_lt _, m32_lt _⟩
theorem H0_ok : H0.ok := by unfold V.ok H0; decide
theorem K0_len : K0.length = 64 := rfl
theorem pad_len (l : List UInt8) : ∃ n, (pad l).length = 64 * n := by
  refine ⟨(l.length + 9 + zs l.length) / 64, ?_⟩
  have e : (pad l).length = l.length + 9 + zs l.length := by
    simp only [pad, List.length_append, List.length_replicate, bes_len, List.length_cons, List.length_nil]; omega
  rw [e]
  unfold zs
  omega
theorem sb_row {w : World} {b : Nat} {v : V} {ks : List Nat} (h : SB w b v ks) : Row32 w b v.toL := ⟨h.lt, fun j hj => by
  have hj8 : j < 8 := hj
  have e : (v.toL ++ ks)[j]? = some (v.toL.getD j 0) := by
    rw [List.getElem?_append_left hj, List.getElem?_eq_getElem hj]; simp [List.getD, List.getElem?_eq_getElem hj]
  rw [Lib.cell_of_heap h]
  simp only [List.map_append, List.getElem?_toArray, ← List.map_append, List.getElem?_map, e, Option.map_some]⟩
/-- What the loop bears. -/
structure SmR (F : V) (w : World) (b n : Nat) (l : List UInt8) (v : V) (wr : World) : Prop where
  len : l.length = 64 * n
  ok : v.ok
  st : SB wr b v K0
  res : blocks n l v = F
  bel : Below w.heap.size w wr
theorem SmR.step {F : V} {w wr w2 : World} {b n : Nat} {l : List UInt8} {v : V} (h : SmR F w b (n + 1) l v wr) (hb : w.heap.size ≤ b) (ht : Took wr b v K0 (ws (l.take 64) 48) w2) : SmR F w b n (l.drop 64) (take1 v (l.take 64)) w2 :=
  ⟨by rw [List.length_drop, h.len]; omega, plus_ok _ _, ht.1, by rw [← blocks_step]; exact h.res, h.bel.trans (It.Only.below ht.2 h.bel.size (fun k hk => by rw [hk]; exact hb))⟩

set_option maxHeartbeats 8000000 in
theorem sum_of (vs : Value) (l : List UInt8) (w : World) (hl : l.length ≤ 100000)
    (CJ : Hid (∀ W : World, Below w.heap.size w W → Calls Try.prog 37 #[vs, .string ⟨#[]⟩] W fun e w' => e = .returned (.string ⟨l.toArray⟩) ∧ Below W.heap.size W w')) :
    Calls Try.prog 12 #[vs] w fun e w' => e = .returned (.string ⟨(sha l).toArray⟩) ∧ Below w.heap.size w w' := by
  have hz := (zero_of_info (P := Try.prog) zero_state).1
  go_enter Try.func12, Try.ntmps12
  go_wp2_with fail
  refine (begun_any _).mono ?_
  rintro e w1 ⟨rfl, hb1⟩
  have HB1 := Lib.hid hb1
  have hs1 := hb1.size
  clear hb1
  have hst : (storeCells ⟨w1.heap.size, 0, none⟩ (words (H0.toL ++ K0))).run Try.prog (w1.alloc (.cells z72.toArray 51)) = .ok () (w1.alloc (.cells (words (H0.toL ++ K0)).toArray 51)) := by
    have h := run_storeCells_new (P := Try.prog) w1 51 z72.toArray (words (H0.toL ++ K0)).toArray (by rw [inf_state]; decide) (by decide) (all_oneCell_toArray (words_one _))
    rw [List.toList_toArray] at h
    exact h
  go_wp2_with fail
  have HW1 : Hid (Below w.heap.size w (w1.alloc (.cells (words (H0.toL ++ K0)).toArray 51))) := Lib.hid (HB1.out.alloc hs1 _)
  have HS1 : Hid (SB (w1.alloc (.cells (words (H0.toL ++ K0)).toArray 51)) w1.heap.size H0 K0) := Lib.hid (heap_alloc_new w1 _)
  refine (CJ.out _ HW1.out).mono ?_
  rintro e w2 ⟨rfl, hb2⟩
  have HB2 := Lib.hid (HW1.out.trans (hb2.mono HW1.out.size))
  have HS2 : Hid (SB w2 w1.heap.size H0 K0) := Lib.hid (HS1.out.keep fun k hk => by subst hk; exact hb2.block _ (by simp))
  clear hb2 hst
  go_wp2_with fail
  refine (filled_any l _ hl).mono ?_
  rintro e w3 ⟨rfl, hb3⟩
  have hlt2 := HS2.out.lt
  have HB3 := Lib.hid (HB2.out.trans (hb3.mono HB2.out.size))
  have HS3 : Hid (SB w3 w1.heap.size H0 K0) := Lib.hid (HS2.out.keep fun k hk => by subst hk; exact hb3.block _ hlt2)
  obtain ⟨N, hN⟩ := pad_len l
  have HF : Hid (sha l = bes (blocks N (pad l) H0).toL) := Lib.hid (by unfold sha; rw [hN, Nat.mul_div_cancel_left N (by decide)])
  have HPL : Hid ((pad l).length = 64 * N) := Lib.hid hN
  clear hb3 hN hlt2 hl
  obtain ⟨F, hF⟩ : ∃ F, blocks N (pad l) H0 = F := ⟨_, rfl⟩
  rw [hF] at HF
  have HSR : Hid (SmR F w w1.heap.size N (pad l) H0 w3) := Lib.hid ⟨HPL.out, H0_ok, HS3.out, hF, HB3.out⟩
  clear HPL HS3 HB3 hF HB2 HS2 HW1 HS1
  generalize pad l = p at HSR ⊢
  go_wp2
  go_loopw [4] (fun sv wr => ∃ (n : Nat) (q : List UInt8) (v : V), sv = .string ⟨q.toArray⟩ ∧ SmR F w w1.heap.size n q v wr) (fun sv _ => slen sv)
  case atStart => exact ⟨N, p, H0, rfl, HSR.out⟩
  case round =>
    clear HSR
    obtain ⟨n, q, v, rfl, hr⟩ := hrel
    have hlen := hr.len
    have hb := hr.st.lt
    have HR := Lib.hid hr
    clear hr
    cases n with
    | zero =>
      obtain rfl : q = [] := List.eq_nil_of_length_eq_zero (by omega)
      have hv : v = F := by rw [← HR.out.res, blocks_none]
      subst hv
      have HRow := Lib.hid (sb_row HR.out.st)
      have HBr := Lib.hid HR.out.bel
      have hsz := HR.out.bel.size
      clear HR hlen
      go_wp2_with fail
      refine (written_any w1.heap.size 8 v.toL _ HRow.out (by rw [toL_len]; decide)).mono ?_
      rintro e w4 ⟨rfl, hb4⟩
      have HB4 := Lib.hid (HBr.out.trans (hb4.mono hsz))
      clear hb4
      go_wp2
      go_ret
      exact ⟨by rw [HF.out]; rfl, HB4.out⟩
    | succ n =>
      have h64 : 64 ≤ q.length := by omega
      have hne : ¬ q = [] := by intro h; rw [h] at h64; simp at h64
      have hemp : q.isEmpty = false := by simpa using hne
      have HST : Hid (∀ w2, Took wr w1.heap.size v K0 (ws (q.take 64) 48) w2 → SmR F w w1.heap.size n (q.drop 64) (take1 v (q.take 64)) w2) := Lib.hid fun w2 ht => HR.out.step hs1 ht
      have CT : Hid (Calls Try.prog 38 #[.pointer (some ⟨w1.heap.size, 0, none⟩), .string ((⟨q.toArray⟩ : ByteArray).extract 0 64)] wr fun e w' => e = .returned (.tuple #[]) ∧ Took wr w1.heap.size v K0 (ws (q.take 64) 48) w') := Lib.hid (by
        rw [sv_to]
        exact take_any w1.heap.size v K0 ⟨(q.take 64).toArray⟩ wr HR.out.ok K0_len (by show (q.take 64).length = 64; simp; omega) HR.out.st)
      have E2 := Lib.hid (sv_from q 64)
      have i1 : (64 : Int) ≤ (q.length : Int) := by omega
      have hm : (q.drop 64).length < q.length := by rw [List.length_drop]; omega
      have HM := Lib.hid hm
      clear hm hlen HR
      go_wp2_with fail
      refine CT.out.mono ?_
      rintro e w2 ⟨rfl, ht⟩
      have HT := Lib.hid (HST.out _ ht)
      clear ht
      go_wp2
      go_roundw
      case rel =>
        refine ⟨n, q.drop 64, _, ?_, HT.out⟩
        rw [← E2.out]
      case measure =>
        show slen _ < slen _
        rw [E2.out]
        exact HM.out
end Go.Proofs.Ythjphechdhbenaa.Dg
