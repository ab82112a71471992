/- The law DigestSums, walked; texts among the arguments. -/
import Derived.Test.YthjphechdhbenaaDgZ
import Derived.SliceStrings
import Derived.SizedLaws
namespace Go.Proofs.Ythjphechdhbenaa.Dg
set_option maxRecDepth 20000
open Go.RowKit
set_option linter.unusedVariables false
set_option linter.unusedSimpArgs false

theorem spot_none {w : World} {b o : Nat} {sp : Option Nat} {v : Value} (h : w.cell? ⟨b, o, sp⟩ = some v) : sp = none := by
  unfold World.cell? at h
  revert h
  cases sp with
  | none => intro _; rfl
  | some x => intro h; exfalso; revert h; cases w.heap[b]? with
    | none => simp
    | some ob => cases ob <;> simp
theorem weights_strs {H : Type} {P : Program} (e : TypeId) : ∀ (l : List ByteArray) (s : ByteArray), s ∈ l → s.size ∈ DataW.weightsAll P e (Go.ChangeShapes.strs (H := H) l)
  | [], s, h => by cases h
  | x :: l, s, h => by
    simp only [Go.ChangeShapes.strs, List.map_cons, DataW.weightsAll, List.mem_append]
    rcases List.mem_cons.1 h with rfl | h
    · left
      simp [DataW.weights]
    · right
      exact weights_strs e l s h
/-- Texts among the arguments: what is read of them, and how long they may be. -/
def ArgS (w : World) (a : Option Addr) (len cap : Nat) (xs : List ByteArray) : Prop :=
  xs.length = len ∧ len ≤ cap ∧ len ≤ 140737488355328 ∧ (∀ s ∈ xs, s.size ≤ 140737488355328) ∧ (xs ≠ [] → ∃ b o, a = some ⟨b, o, none⟩ ∧ RowS w b o xs)
theorem args_of_trod {H : Type} {enc : TypeId × Value → H} {W : World} {held : Bool} {fuel : Nat} {t : TypeId} {a : Option Addr} {len cap : Nat} {x : DataW H × List MemPlace}
    (ht : Try.prog.underlying t = some (.slice 9)) (h : DataW.trod enc Try.prog W 0 (fun _ => true) held fuel t (Value.cells (.slice a len cap)).toList = some x)
    {ts : List TypeId} {ds : List (DataW H)} {j : Nat} (hw : (DataW.weightsEach Try.prog ts ds).all (· ≤ reachBytes) = true) (hts : ts[j]? = some t) (hds : ds[j]? = some x.1) :
    ∃ xs, ArgS W a len cap xs := by
  rcases Go.ChangeShapes.open_strings ht Try.underlying9 (by kernel_rfl) h with ⟨hcs, _⟩ | ⟨p, len', cap', ss, hcs, _, hl, hm, hz, hx, hcell, hsz⟩
  · simp [Value.cells] at hcs
    obtain ⟨rfl, rfl, rfl⟩ := hcs
    exact ⟨[], rfl, Nat.le_refl _, Nat.zero_le _, by simp, fun h => absurd rfl h⟩
  · simp [Value.cells] at hcs
    obtain ⟨rfl, rfl, rfl⟩ := hcs
    have hzl : ss.length = cap := by simpa using hz
    subst hx
    have hall := List.all_eq_true.1 hw
    have hmem : ∀ n, n ∈ DataW.weights Try.prog t (.slice (Go.ChangeShapes.strs (H := H) (ss.take len)) (Go.ChangeShapes.strs (ss.drop len))) → n ≤ reachBytes := by
      intro n hn
      have := hall n (DataW.weights_mem_each hts hds n hn)
      simpa using this
    have hr : reachBytes ≤ 140737488355328 := by decide
    have hb16 : Try.prog.bytesOf 9 = 16 := by kernel_rfl
    have hcap := sized_slice hw hts hds ht
    rw [hb16] at hcap
    simp only [Go.ChangeShapes.strs, List.length_map, List.length_take, List.length_drop] at hcap
    refine ⟨ss.take len, by rw [List.length_take]; omega, hl, by omega, fun s hs => ?_, fun hne => ?_⟩
    · refine Nat.le_trans (hmem s.size ?_) hr
      simp only [DataW.weights, ht, List.mem_cons, List.mem_append]
      exact .inr (.inl (weights_strs _ _ s hs))
    · have hpos : 0 < len := by
        rcases Nat.eq_zero_or_pos len with h | h
        · subst h; simp at hne
        · exact h
      obtain ⟨b, o, sp⟩ := p
      have h0 := hcell 0 (by omega)
      have e0 : (⟨b, o, sp⟩ : Addr).add 0 = ⟨b, o, sp⟩ := by simp [Addr.add]
      rw [e0] at h0
      obtain rfl := spot_none h0
      refine ⟨b, o, rfl, World.block_lt_of_cell? _ _ h0, fun i s hi => ?_⟩
      have hi2 : i < ss.length ∧ ss[i]? = some s := by
        rw [List.getElem?_take] at hi
        split at hi
        · exact ⟨(List.getElem?_eq_some_iff.1 hi).1, hi⟩
        · cases hi
      have := hcell i hi2.1
      have e : (⟨b, o, none⟩ : Addr).add i = ⟨b, o + i, none⟩ := by unfold Addr.add; split <;> simp_all
      rw [e] at this
      rw [this, List.getD, hi2.2]
      rfl
set_option maxHeartbeats 2000000 in
theorem bounded_07_nil (a : Option Addr) (c : Nat) (w : World) : Calls Try.prog 10 #[.slice a 0 c] w fun e w' => BdP [] 30 2000 e ∧ w' = w := by
  go_enter Try.func10, Try.ntmps10
  go_wp2
  refine wp_loop_rounds 1 ?_
  rw [rounds_succ]
  go_wp2
  go_ret
  exact ⟨⟨true, rfl, fun _ => ⟨by decide, by decide⟩⟩, rfl⟩
set_option maxHeartbeats 2000000 in
theorem join_nil (a : Option Addr) (c : Nat) (w : World) : Calls Try.prog 14 #[.slice a 0 c] w fun e w' => e = .returned (.string ⟨#[]⟩) ∧ w' = w := by
  go_enter Try.func14, Try.ntmps14
  go_wp2
  refine wp_loop_rounds 1 ?_
  rw [rounds_succ]
  go_wp2
  go_ret
  exact ⟨rfl, rfl⟩
theorem ArgS.nil {w : World} {a : Option Addr} {len cap : Nat} {xs : List ByteArray} (h : ArgS w a len cap xs) (hx : xs = []) : len = 0 := by
  rw [← h.1, hx]; rfl
theorem ArgS.keep {w w' : World} {a : Option Addr} {len cap : Nat} {xs : List ByteArray} (h : ArgS w a len cap xs) (hb : Below w.heap.size w w') : ArgS w' a len cap xs :=
  ⟨h.1, h.2.1, h.2.2.1, h.2.2.2.1, fun hne => by
    obtain ⟨b, o, ha, hr⟩ := h.2.2.2.2 hne
    exact ⟨b, o, ha, hr.below hb hr.1⟩⟩
theorem bounded_arg7 {w : World} {a : Option Addr} {len cap : Nat} {xs : List ByteArray} (h : ArgS w a len cap xs) : Calls Try.prog 10 #[.slice a len cap] w fun e w' => BdP xs 30 2000 e ∧ w' = w := by
  by_cases hx : xs = []
  · obtain rfl := h.nil hx
    subst hx
    exact bounded_07_nil a cap w
  · obtain ⟨b, o, rfl, hr⟩ := h.2.2.2.2 hx
    obtain ⟨rfl, _, hn, hz, _⟩ := h
    exact bounded_07 b o cap xs w hr hz (by omega)
theorem sum_arg {w : World} {a : Option Addr} {len cap : Nat} {xs : List ByteArray} (h : ArgS w a len cap xs) (hn : xs.length ≤ 100000) (hl : (cat xs).length ≤ 100000) :
    Calls Try.prog 12 #[.slice a len cap] w fun e w' => e = .returned (.string ⟨(sha (cat xs)).toArray⟩) ∧ Below w.heap.size w w' := by
  by_cases hx : xs = []
  · obtain rfl := h.nil hx
    subst hx
    exact sum_nil a cap w
  · obtain ⟨b, o, rfl, hr⟩ := h.2.2.2.2 hx
    obtain ⟨rfl, hc, _, _, _⟩ := h
    exact sum_row b o cap xs w hr hn hc hl
theorem join_arg {w : World} {a : Option Addr} {len cap : Nat} {xs : List ByteArray} (h : ArgS w a len cap xs) (hn : xs.length ≤ 100000) (hl : (cat xs).length ≤ 100000) :
    Calls Try.prog 14 #[.slice a len cap] w fun e w' => e = .returned (.string ⟨(cat xs).toArray⟩) ∧ w' = w := by
  by_cases hx : xs = []
  · obtain rfl := h.nil hx
    subst hx
    exact join_nil a cap w
  · obtain ⟨b, o, rfl, hr⟩ := h.2.2.2.2 hx
    obtain ⟨rfl, hc, _, _, _⟩ := h
    exact join_ref b o cap xs w hr hn hl
set_option maxHeartbeats 2000000 in
theorem law_sums (a : Option Addr) (len cap : Nat) (xs : List ByteArray) (w : World) (h : ArgS w a len cap xs) :
    Calls Try.prog 3 #[.slice a len cap] w fun e w' => e = .returned (.bool true) ∧ Below w.heap.size w w' := by
  have HA := Lib.hid h
  clear h
  go_enter Try.func3, Try.ntmps3
  go_wp2_with fail
  refine (bounded_arg7 HA.out).mono ?_
  rintro e w1 ⟨⟨y, rfl, hy⟩, rfl⟩
  cases y with
  | false =>
    go_wp2_with fail
    refine (shown_any _).mono ?_
    rintro e w2 ⟨rfl, hb⟩
    have HB := Lib.hid hb
    clear hb
    go_wp2
    go_ret
    exact ⟨rfl, HB.out⟩
  | true =>
    obtain ⟨h30, h20⟩ := hy rfl
    have H30 := Lib.hid h30
    have H20 := Lib.hid h20
    clear hy h30 h20
    go_wp2_with fail
    refine (shown_any _).mono ?_
    rintro e w2 ⟨rfl, hb⟩
    have HA2 := Lib.hid (HA.out.keep hb)
    have HB2 := Lib.hid hb
    have hs2 := hb.size
    clear hb
    go_wp2_with fail
    refine (sum_arg HA2.out (by have := H30.out; omega) (by have := H20.out; omega)).mono ?_
    rintro e w3 ⟨rfl, hb⟩
    have HA3 := Lib.hid (HA2.out.keep hb)
    have HB3 := Lib.hid (HB2.out.trans (hb.mono hs2))
    have hs3 := HB3.out.size
    clear hb
    have CR : Hid (∀ W : World, Calls Try.prog 13 #[.string ⟨(cat xs).toArray⟩] W fun e w' => e = .returned (.string ⟨(sha (cat xs)).toArray⟩) ∧ Below W.heap.size W w') := Lib.hid fun W => sum_ref ⟨(cat xs).toArray⟩ W (by show (cat xs).length ≤ _; have := H20.out; omega)
    have hsz : (⟨(sha (cat xs)).toArray⟩ : ByteArray).size = 32 := sha_len _
    go_wp2_with fail
    refine (join_arg HA3.out (by have := H30.out; omega) (by have := H20.out; omega)).mono ?_
    rintro e w4 ⟨rfl, rfl⟩
    go_wp2_with fail
    refine (CR.out _).mono ?_
    rintro e w5 ⟨rfl, hb⟩
    have HB5 := Lib.hid (HB3.out.trans (hb.mono hs3))
    clear hb
    go_wp2
    go_ret
    exact ⟨rfl, HB5.out⟩
end Go.Proofs.Ythjphechdhbenaa.Dg
