/- The walks of layer 8: Mac, Extract, secretOf, expands, counted. -/
import Derived.Test.YthjphechdhbenaaKdA
import Derived.Test.YthjphechdhbenaaKdB
import Derived.Test.YthjphechdhbenaaDgSums
namespace Go.Proofs.Ythjphechdhbenaa.Kd
set_option maxRecDepth 20000
open Go.RowKit
open Go.Proofs.Ythjphechdhbenaa.Dg
open Go.Proofs.Ythjphechdhbenaa.Vm (fx fx_length vfixed)
set_option linter.unusedVariables false
set_option linter.unusedSimpArgs false

theorem join_row (b o c : Nat) (xs : List ByteArray) (W : World) (hr : RowS W b o xs) (hn : xs.length ≤ 140737488355328) (hc : xs.length ≤ c) (hl : (cat xs).length ≤ 140737488355328) :
    Calls Try.prog 37 #[.slice (some ⟨b, o, none⟩) xs.length c, .string ⟨#[]⟩] W fun e w' => e = .returned (.string ⟨(cat xs).toArray⟩) ∧ Below W.heap.size W w' := by
  have hj : Lib.join (xs.map (·.data.toList)) (⟨#[]⟩ : ByteArray).data.toList = cat xs := join_cat _
  have h := Try.strings_Join b o c xs ⟨#[]⟩ W hr.2 hr.1 hn hc (by rw [hj]; exact hl)
  rw [hj] at h
  exact h
theorem join_args {w : World} {a : Option Addr} {len cap : Nat} {xs : List ByteArray} (h : ArgS w a len cap xs) (hl : (cat xs).length ≤ 100000) :
    Calls Try.prog 37 #[.slice a len cap, .string ⟨#[]⟩] w fun e w' => e = .returned (.string ⟨(cat xs).toArray⟩) ∧ Below w.heap.size w w' := by
  by_cases hx : xs = []
  · obtain rfl := h.nil hx
    subst hx
    exact (Try.strings_Join_none a cap ⟨#[]⟩ w).mono (by rintro e w' ⟨h1, rfl⟩; exact ⟨h1, Below.refl _ _⟩)
  · obtain ⟨b, o, rfl, hr⟩ := h.2.2.2.2 hx
    obtain ⟨rfl, hc, hn, _, _⟩ := h
    exact join_row b o cap xs w hr hn hc (by omega)
/-- The join of the texts of a new row, in whatever world comes behind. -/
theorem join_new (xs : List ByteArray) (cs : Array Value) (hcs : cs = (xs.map Value.string).toArray) (n : Nat) (hn : xs.length = n) (hn2 : n ≤ 1000) (l : List UInt8) (hc : cat xs = l) (hl : l.length ≤ 100000) (W W' : World) (g : Nat) (hg : g = W.heap.size)
    (hb : Below (W.alloc (.cells cs 9)).heap.size (W.alloc (.cells cs 9)) W') :
    Calls Try.prog 37 #[.slice (some ⟨g, 0, none⟩) n n, .string ⟨#[]⟩] W' fun e w' => e = .returned (.string ⟨l.toArray⟩) ∧ Below W'.heap.size W' w' := by
  subst hg hn hc
  have hr := (rows_made W cs xs hcs 9).below hb (by simp)
  exact join_row W.heap.size 0 xs.length xs W' hr (by omega) (Nat.le_refl _) (by omega)
set_option maxHeartbeats 2000000 in
theorem mac_of (k l : List UInt8) (vs : Value) (w : World) (hk : k.length ≤ 100000) (hl : l.length ≤ 50000)
    (CJ : Hid (∀ W : World, Below w.heap.size w W → Calls Try.prog 37 #[vs, .string ⟨#[]⟩] W fun e w' => e = .returned (.string ⟨l.toArray⟩) ∧ Below W.heap.size W w')) :
    Calls Try.prog 17 #[.string ⟨k.toArray⟩, vs] w fun e w' => e = .returned (.string ⟨(mac k l).toArray⟩) ∧ Below w.heap.size w w' := by
  have C1 := Lib.hid (fun W => macOf_list k W hk)
  have C2 : Hid (∀ W : World, Below w.heap.size w W → Calls Try.prog 44 #[.agg #[.string ⟨(ko k).toArray⟩, .string ⟨(ki k).toArray⟩], vs] W fun e w' => e = .returned (.string ⟨(mac k l).toArray⟩) ∧ Below W.heap.size W w') := Lib.hid (fun W hW =>
    of_of ⟨(ko k).toArray⟩ ⟨(ki k).toArray⟩ vs l (mac k l) W (by show (ko k).length ≤ _; rw [ko_len]; omega) (by show (ki k).length ≤ _; rw [ki_len]; omega) hl rfl (Lib.hid fun W' hW' => CJ.out W' (hW.trans (hW'.mono hW.size))))
  generalize mac k l = M at *
  generalize ko k = KO at *
  generalize ki k = KI at *
  clear CJ
  go_enter Try.func17, Try.ntmps17
  go_wp2_with fail
  with_reducible refine (C1.out _).mono ?_
  rintro e w1 ⟨rfl, hb⟩
  have HB1 := Lib.hid hb
  clear hb
  go_wp2_with fail
  with_reducible refine (C2.out _ HB1.out).mono ?_
  rintro e w2 ⟨rfl, hb⟩
  have HB2 := Lib.hid (HB1.out.trans (hb.mono HB1.out.size))
  clear hb
  go_wp2
  go_ret
  exact ⟨rfl, HB2.out⟩
theorem cat_1 (s : List UInt8) : cat [⟨s.toArray⟩] = s := by simp [cat]
theorem mac_one (k s : List UInt8) (w : World) (hk : k.length ≤ 100000) (hs : s.length ≤ 50000) (W : World) (g : Nat) (hg : g = W.heap.size) :
    Calls Try.prog 17 #[.string ⟨k.toArray⟩, .slice (some ⟨g, 0, none⟩) 1 1] (W.alloc (.cells #[.string ⟨s.toArray⟩] 9)) fun e w' => e = .returned (.string ⟨(mac k s).toArray⟩) ∧ Below W.heap.size W w' :=
  (mac_of k s _ (W.alloc (.cells #[.string ⟨s.toArray⟩] 9)) hk hs (Lib.hid fun W' hW' => join_new [⟨s.toArray⟩] _ rfl 1 rfl (by omega) s (cat_1 s) (by omega) W W' g hg hW')).mono (by
    rintro e w' ⟨h1, h2⟩
    exact ⟨h1, ((Below.refl _ _).alloc (Nat.le_refl _) _).trans (h2.mono (by simp))⟩)
set_option maxHeartbeats 2000000 in
theorem extract_any (k s : List UInt8) (w : World) (hk : k.length ≤ 100000) (hs : s.length ≤ 50000) :
    Calls Try.prog 19 #[.string ⟨k.toArray⟩, .string ⟨s.toArray⟩] w fun e w' => e = .returned (.string ⟨(mac k s).toArray⟩) ∧ Below w.heap.size w w' := by
  have C1 := Lib.hid (mac_one k s w hk hs w w.heap.size rfl)
  generalize mac k s = M at *
  go_enter Try.func19, Try.ntmps19
  go_wp2_with fail
  with_reducible refine C1.out.mono ?_
  rintro e w1 ⟨rfl, hb⟩
  have HB1 := Lib.hid hb
  clear hb
  go_wp2
  go_ret
  exact ⟨rfl, HB1.out⟩
set_option maxHeartbeats 2000000 in
theorem reset_any (k s : List UInt8) (w : World) (hk : k.length ≤ 100000) (hs : s.length ≤ 50000) :
    Calls Try.prog 31 #[.string ⟨k.toArray⟩, .string ⟨s.toArray⟩] w fun e w' => e = .returned (.string ⟨((mac k s).take 16).toArray⟩) ∧ Below w.heap.size w w' := by
  have C1 := Lib.hid (mac_one k s w hk hs w w.heap.size rfl)
  have hm : (mac k s).length = 32 := mac_len k s
  generalize mac k s = M at *
  obtain ⟨m, hmm⟩ : ∃ m : ByteArray, ⟨M.toArray⟩ = m := ⟨_, rfl⟩
  have hsz : m.size = 32 := by rw [← hmm]; exact hm
  have HX : Hid (m.extract 0 16 = ⟨(M.take 16).toArray⟩) := Lib.hid (by rw [← hmm]; exact sv_to M 16)
  rw [hmm] at C1
  rw [← HX.out]
  clear hmm
  go_enter Try.func31, Try.ntmps31
  go_wp2_with fail
  with_reducible refine C1.out.mono ?_
  rintro e w1 ⟨rfl, hb⟩
  have HB1 := Lib.hid hb
  clear hb
  go_wp2
  go_ret
  exact ⟨rfl, HB1.out⟩
theorem inf_secret : (Try.prog.info? 67).map (·.size) = some 2 := by kernel_rfl
set_option maxHeartbeats 2000000 in
theorem secretOf_any (k : List UInt8) (w : World) (hk : k.length ≤ 100000) :
    Calls Try.prog 46 #[.string ⟨k.toArray⟩] w fun e w' => e = .returned (.agg #[.string ⟨(ko k).toArray⟩, .string ⟨(ki k).toArray⟩]) ∧ Below w.heap.size w w' := by
  have C1 := Lib.hid (fun W => macOf_list k W hk)
  generalize ko k = KO at *
  generalize ki k = KI at *
  go_enter Try.func46, Try.ntmps46
  go_wp2_with fail
  with_reducible refine (C1.out _).mono ?_
  rintro e w1 ⟨rfl, hb⟩
  have HB1 := Lib.hid (((Below.refl w.heap.size w).alloc (Nat.le_refl _) (.cells #[.string ⟨#[]⟩, .string ⟨#[]⟩] 67)).trans (hb.mono (by simp)))
  have HZ1 : Hid (w1.heap[w.heap.size]? = some (.cells #[.string ⟨#[]⟩, .string ⟨#[]⟩] 67 (0, 0))) := Lib.hid ((hb.block w.heap.size (by simp)).trans (heap_alloc_new w _))
  have hz0 : w1.cell? ⟨w.heap.size, 0, none⟩ = some (.string ⟨#[]⟩) := by rw [Lib.cell_of_heap HZ1.out]; rfl
  have hz1 : w1.cell? ⟨w.heap.size, 1, none⟩ = some (.string ⟨#[]⟩) := by rw [Lib.cell_of_heap HZ1.out]; rfl
  have hf : ∀ j, w1.frozen? ⟨w.heap.size, j, none⟩ = false := fun j => Lib.frozen_of_heap HZ1.out j
  clear hb
  go_wp2_with fail
  exact bodyPost_ret (v := .agg #[.string ⟨KO.toArray⟩, .string ⟨KI.toArray⟩]) (results_cell_row Try.results46 _ _ w.heap.size _ _ _ _ rfl (two_put HZ1.out) Try.underlying67 rfl inf_secret) rfl ⟨rfl, Below.setCell (p := ⟨w.heap.size, 1, none⟩) (Below.setCell (p := ⟨w.heap.size, 0, none⟩) HB1.out (Nat.le_refl _) _) (Nat.le_refl _) _⟩
set_option maxHeartbeats 1000000 in
theorem expands_any (n : Int) (w : World) : Calls Try.prog 45 #[.int .i64 n] w fun e w' => e = .returned (.bool (decide (0 ≤ n ∧ n ≤ 8160))) ∧ w' = w := by
  by_cases h0 : 0 ≤ n
  · by_cases h1 : n ≤ 8160
    · rw [decide_eq_true ⟨h0, h1⟩]
      go_enter Try.func45, Try.ntmps45
      go_wp2
      go_ret
      exact ⟨rfl, rfl⟩
    · rw [decide_eq_false (fun h => h1 h.2)]
      go_enter Try.func45, Try.ntmps45
      go_wp2
      go_ret
      exact ⟨rfl, rfl⟩
  · rw [decide_eq_false (fun h => h0 h.1)]
    go_enter Try.func45, Try.ntmps45
    go_wp2
    go_ret
    exact ⟨rfl, rfl⟩
set_option maxHeartbeats 1000000 in
theorem counted_any (s : List UInt8) (w : World) (hs : s.length ≤ 100000) : Calls Try.prog 68 #[.string ⟨s.toArray⟩] w fun e w' => e = .returned (.string ⟨(cnt s).toArray⟩) ∧ Below w.heap.size w w' := by
  obtain ⟨n, hn⟩ : ∃ n, s.length = n := ⟨_, rfl⟩
  have C1 : Hid (∀ W : World, Calls Try.prog 67 #[.int .u64 n, .int .i64 1] W fun e w' => e = .returned (.string ⟨(fx n 1).toArray⟩) ∧ Below W.heap.size W w') := Lib.hid (fun W => vfixed n 1 W (by omega) (by decide) (by decide))
  have hsz : (⟨s.toArray⟩ : ByteArray).size = n := hn
  have hc : (⟨(fx n 1).toArray⟩ : ByteArray) ++ ⟨s.toArray⟩ = ⟨(cnt s).toArray⟩ := by rw [app_two, ← hn]; rfl
  have hf : (⟨(fx n 1).toArray⟩ : ByteArray).size = 1 := fx_length n 1
  have hw : IntKind.u64.wrap (n : Int) = (n : Int) := by rw [IntKind.wrap_u64]; omega
  have g1 : ¬ 9223372036854775807 < 1 + n := by omega
  generalize cnt s = C at *
  generalize fx n 1 = F at *
  clear hs
  go_enter Try.func68, Try.ntmps68
  go_wp2_with fail
  with_reducible refine (C1.out _).mono ?_
  rintro e w1 ⟨rfl, hb⟩
  have HB1 := Lib.hid hb
  clear hb
  go_wp2
  go_ret
  exact ⟨rfl, HB1.out⟩
end Go.Proofs.Ythjphechdhbenaa.Kd
