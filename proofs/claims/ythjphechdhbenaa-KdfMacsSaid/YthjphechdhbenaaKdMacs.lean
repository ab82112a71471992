/- The law KdfMacs, walked. By tools/gen-kdf-laws.py. -/
import Derived.Test.YthjphechdhbenaaKdV
import Derived.Test.YthjphechdhbenaaKdBegins
namespace Go.Proofs.Ythjphechdhbenaa.Kd
set_option maxRecDepth 20000
open Go.RowKit
open Go.Proofs.Ythjphechdhbenaa.Dg
set_option linter.unusedVariables false
set_option linter.unusedSimpArgs false

set_option maxHeartbeats 2000000 in
theorem bounded_08_nil (a : Option Addr) (c : Nat) (w : World) : Calls Try.prog 15 #[.slice a 0 c] w fun e w' => BdP [] 20 600 e ∧ w' = w := by
  go_enter Try.func15, Try.ntmps15
  go_wp2
  refine wp_loop_rounds 1 ?_
  rw [rounds_succ]
  go_wp2
  go_ret
  exact ⟨⟨true, rfl, fun _ => ⟨by decide, by decide⟩⟩, rfl⟩
theorem bounded_arg8 {w : World} {a : Option Addr} {len cap : Nat} {xs : List ByteArray} (h : ArgS w a len cap xs) : Calls Try.prog 15 #[.slice a len cap] w fun e w' => BdP xs 20 600 e ∧ w' = w := by
  by_cases hx : xs = []
  · obtain rfl := h.nil hx
    subst hx
    exact bounded_08_nil a cap w
  · obtain ⟨b, o, rfl, hr⟩ := h.2.2.2.2 hx
    obtain ⟨rfl, _, hn, hz, _⟩ := h
    exact bounded_08 b o cap xs w hr hz (by omega)
set_option maxHeartbeats 4000000 in
theorem macs_any (k salt : List UInt8) (a : Option Addr) (len cap : Nat) (xs : List ByteArray) (w : World) (h : ArgS w a len cap xs) :
    Calls Try.prog 4 #[.string ⟨k.toArray⟩, .slice a len cap, .string ⟨salt.toArray⟩] w fun e w' => e = .returned (.bool true) ∧ Below w.heap.size w w' := by
  have HA := Lib.hid h
  clear h
  obtain ⟨kS, hkS⟩ : ∃ s : ByteArray, ⟨k.toArray⟩ = s := ⟨_, rfl⟩
  have zk : kS.size = k.length := by rw [← hkS]; rfl
  obtain ⟨saltS, hsaltS⟩ : ∃ s : ByteArray, ⟨salt.toArray⟩ = s := ⟨_, rfl⟩
  have zsalt : saltS.size = salt.length := by rw [← hsaltS]; rfl
  rw [hkS, hsaltS]
  by_cases hc0 : k.length ≤ 200
  · have hi0 : (k.length : Int) ≤ 200 := by omega
    by_cases hc1 : salt.length ≤ 200
    · have hi1 : (salt.length : Int) ≤ 200 := by omega
      have CB := Lib.hid (bounded_arg8 HA.out)
      go_enter Try.func4, Try.ntmps4
      go_wp2_with fail
      refine CB.out.mono ?_
      rintro e w0 ⟨⟨y, rfl, hy⟩, rfl⟩
      cases y with
      | false =>
        go_wp2_with fail
        with_reducible refine (shown8 _).mono ?_
        rintro e w1 ⟨rfl, hb⟩
        have HB1 := Lib.hid hb
        clear hb
        go_wp2
        go_ret
        exact ⟨rfl, HB1.out⟩
      | true =>
        obtain ⟨h20, h600⟩ := hy rfl
        have CM : Hid (∀ W : World, Below w0.heap.size w0 W → Calls Try.prog 17 #[.string kS, .slice a len cap] W fun e w' => e = .returned (.string ⟨(mac k (cat xs)).toArray⟩) ∧ Below W.heap.size W w') := Lib.hid (fun W hW => by
          rw [← hkS]
          exact mac_of k (cat xs) _ W (by omega) (by omega) (Lib.hid fun W' hW' => join_args ((HA.out.keep hW).keep hW') (by omega)))
        have CJ : Hid (∀ W : World, Below w0.heap.size w0 W → Calls Try.prog 14 #[.slice a len cap] W fun e w' => e = .returned (.string ⟨(cat xs).toArray⟩) ∧ w' = W) := Lib.hid (fun W hW => join_arg (HA.out.keep hW) (by omega) (by omega))
        have CR : Hid (∀ W : World, Calls Try.prog 18 #[.string kS, .string ⟨(cat xs).toArray⟩] W fun e w' => e = .returned (.string ⟨(mac k (cat xs)).toArray⟩) ∧ Below W.heap.size W w') := Lib.hid (fun W => by
          rw [← hkS]
          exact mac_ref k (cat xs) W (by omega) (by omega))
        have CE : Hid (∀ W : World, Calls Try.prog 19 #[.string saltS, .string ⟨(cat xs).toArray⟩] W fun e w' => e = .returned (.string ⟨(mac salt (cat xs)).toArray⟩) ∧ Below W.heap.size W w') := Lib.hid (fun W => by
          rw [← hsaltS]
          exact extract_any salt (cat xs) W (by omega) (by omega))
        have CF : Hid (∀ W : World, Calls Try.prog 20 #[.string saltS, .string ⟨(cat xs).toArray⟩] W fun e w' => e = .returned (.string ⟨(mac salt (cat xs)).toArray⟩) ∧ Below W.heap.size W w') := Lib.hid (fun W => by
          rw [← hsaltS]
          exact extract_ref salt (cat xs) W (by omega) (by omega))
        clear hy
        generalize mac k (cat xs) = M1 at *
        generalize mac salt (cat xs) = M2 at *
        go_wp2_with fail
        with_reducible refine (shown8 _).mono ?_
        rintro e w1 ⟨rfl, hb⟩
        have HB1 := Lib.hid hb
        clear hb
        go_wp2_with fail
        with_reducible refine (CJ.out _ HB1.out).mono ?_
        rintro e w9 ⟨rfl, rfl⟩
        go_wp2_with fail
        with_reducible refine (CM.out _ HB1.out).mono ?_
        rintro e w2 ⟨rfl, hb⟩
        have HB2 := Lib.hid (HB1.out.trans (hb.mono HB1.out.size))
        clear hb
        go_wp2_with fail
        with_reducible refine (CR.out _).mono ?_
        rintro e w3 ⟨rfl, hb⟩
        have HB3 := Lib.hid (HB2.out.trans (hb.mono HB2.out.size))
        clear hb
        go_wp2_with fail
        with_reducible refine (CE.out _).mono ?_
        rintro e w4 ⟨rfl, hb⟩
        have HB4 := Lib.hid (HB3.out.trans (hb.mono HB3.out.size))
        clear hb
        go_wp2_with fail
        with_reducible refine (CF.out _).mono ?_
        rintro e w5 ⟨rfl, hb⟩
        have HB5 := Lib.hid (HB4.out.trans (hb.mono HB4.out.size))
        clear hb
        go_wp2
        go_ret
        exact ⟨rfl, HB5.out⟩
    · have hi1 : ¬ (salt.length : Int) ≤ 200 := by omega
      go_enter Try.func4, Try.ntmps4
      go_wp2_with fail
      with_reducible refine (shown8 _).mono ?_
      rintro e w1 ⟨rfl, hb⟩
      have HB1 := Lib.hid hb
      clear hb
      go_wp2
      go_ret
      exact ⟨rfl, HB1.out⟩
  · have hi0 : ¬ (k.length : Int) ≤ 200 := by omega
    go_enter Try.func4, Try.ntmps4
    go_wp2_with fail
    with_reducible refine (shown8 _).mono ?_
    rintro e w1 ⟨rfl, hb⟩
    have HB1 := Lib.hid hb
    clear hb
    go_wp2
    go_ret
    exact ⟨rfl, HB1.out⟩
theorem law_macs (k : ByteArray) (a : Option Addr) (len cap : Nat) (xs : List ByteArray) (salt : ByteArray) (w : World) (w0 : k.size ≤ maxLen) (h : ArgS w a len cap xs) (w2 : salt.size ≤ maxLen) :
    Calls Try.prog 4 #[.string k, .slice a len cap, .string salt] w fun e w' => e = .returned (.bool true) ∧ Below w.heap.size w w' :=
  macs_any k.data.toList salt.data.toList a len cap xs w h
end Go.Proofs.Ythjphechdhbenaa.Kd
