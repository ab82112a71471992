/- Layer 10's arguments, opened: a row of what is sealed; whether it is bounded. By hand. -/
import Derived.Test.YtffjnfoleofffaaIdL
import Derived.ProofKit
import Derived.Deep.SlicePairs
import Derived.Lib.SmallJoins
namespace Go.Proofs.Ytffjnfoleofffaa.Id
open Go.RowKit Go.Shelf Go.ChangeShapes Go.WideShapes Go.Deep
set_option linter.unusedVariables false
set_option linter.unusedSimpArgs false

theorem plain_addr {w : World} {a : Addr} {v : Value} (h : w.cell? a = some v) : a = ⟨a.block, a.off, none⟩ := by
  obtain ⟨b, o, s⟩ := a
  cases s with
  | none => rfl
  | some s =>
    unfold World.cell? at h
    simp only at h
    split at h
    · simp at h
    · cases h
theorem one_int : Try.prog.cellsOf 3 = 1 := by kernel_rfl
theorem one_uint64 : Try.prog.cellsOf 22 = 1 := by kernel_rfl
theorem one_string : Try.prog.cellsOf 9 = 1 := by kernel_rfl
theorem size_act : Try.prog.cellsOf 40 = 4 := by kernel_rfl
/-- Acts among the arguments: an entry holds who, the number, the connection ID, and the plain text. -/
theorem acts_of_trod {H : Type} {enc : TypeId × Value → H} {W : World} {held : Bool} {fuel : Nat} {t : TypeId} {a : Option Addr} {len cap : Nat} {x : DataW H × List MemPlace}
    (ht : Try.prog.underlying t = some (.slice 40)) (h : DataW.trod enc Try.prog W 0 (fun _ => true) held fuel t (Value.cells (.slice a len cap)).toList = some x) :
    ∃ G : List Ent, G.length = len ∧ len ≤ maxLen ∧ RowE W (.slice a len cap) G := by
  rcases Go.Deep.open_slice ht h with ⟨hcs, _⟩ | ⟨p, len', cap', m, n, D, Pl, hcs, _, hl, hm, hmm, hx, hi⟩
  · simp [Value.cells] at hcs
    obtain ⟨rfl, rfl, rfl⟩ := hcs
    exact ⟨[], rfl, Nat.zero_le _, RowE.nil W⟩
  · simp [Value.cells] at hcs
    obtain ⟨rfl, rfl, rfl⟩ := hcs
    have hml : len ≤ m := by rw [hmm]; simp; omega
    have key : ∀ i, i < len → ∃ e : Ent, ∀ j, j < 4 → W.cell? (p.add (i * 4 + j)) = (ecs e)[j]? := by
      intro i hil
      obtain ⟨cs', hc, htr⟩ := hi i (by omega)
      rw [size_act] at hc
      obtain ⟨ys, n', _, _, _, hlen, hf⟩ := DataW.trod_struct Try.underlying40 htr
      obtain ⟨_, hcl, hat⟩ := World.cells?_some hc
      match cs', hcl with
      | [c0, c1, c2, c3], _ =>
        match ys, hlen with
        | [y0, y1, y2, y3], _ =>
          have f0 := hf 0 _ rfl
          change DataW.trod enc Try.prog W 0 (fun _ => true) held n' 3 (List.take (Try.prog.cellsOf 3) (List.drop 0 [c0, c1, c2, c3])) = some y0 at f0
          rw [one_int] at f0
          change DataW.trod enc Try.prog W 0 (fun _ => true) held n' 3 [c0] = some y0 at f0
          have f1 := hf 1 _ rfl
          change DataW.trod enc Try.prog W 0 (fun _ => true) held n' 22 (List.take (Try.prog.cellsOf 22) (List.drop 1 [c0, c1, c2, c3])) = some y1 at f1
          rw [one_uint64] at f1
          change DataW.trod enc Try.prog W 0 (fun _ => true) held n' 22 [c1] = some y1 at f1
          have f2 := hf 2 _ rfl
          change DataW.trod enc Try.prog W 0 (fun _ => true) held n' 9 (List.take (Try.prog.cellsOf 9) (List.drop 2 [c0, c1, c2, c3])) = some y2 at f2
          rw [one_string] at f2
          change DataW.trod enc Try.prog W 0 (fun _ => true) held n' 9 [c2] = some y2 at f2
          have f3 := hf 3 _ rfl
          change DataW.trod enc Try.prog W 0 (fun _ => true) held n' 9 (List.take (Try.prog.cellsOf 9) (List.drop 3 [c0, c1, c2, c3])) = some y3 at f3
          rw [one_string] at f3
          change DataW.trod enc Try.prog W 0 (fun _ => true) held n' 9 [c3] = some y3 at f3
          obtain ⟨a0, e0, _, w0⟩ := DataW.trod_int Try.underlying3 f0
          obtain ⟨a1, e1, _, w1⟩ := DataW.trod_int Try.underlying22 f1
          obtain ⟨a2, e2, _, w2⟩ := DataW.trod_string Try.underlying9 f2
          obtain ⟨a3, e3, _, w3⟩ := DataW.trod_string Try.underlying9 f3
          simp only [List.cons.injEq, and_true] at e0 e1 e2 e3
          subst e0; subst e1; subst e2; subst e3
          have hb := bounds_u64 w1
          refine ⟨⟨a0, a1.toNat, a2, a3⟩, fun j hj => ?_⟩
          rw [← Go.Deep.add_add, hat j hj]
          unfold ecs
          rw [show ((a1.toNat : Nat) : Int) = a1 by omega]
    refine ⟨(List.range len).map (fun i => if h : i < len then Classical.choose (key i h) else eZ), by simp, by omega, some p, cap, by simp, by simpa using hl, fun hne => ?_⟩
    have hpos : 0 < len := by have := List.length_pos_iff.2 hne; simpa using this
    have hp0 := Classical.choose_spec (key 0 hpos) 0 (by decide)
    have hpp : p = ⟨p.block, p.off, none⟩ := by
      have := plain_addr (hp0.trans rfl)
      rwa [show p.add (0 * 4 + 0) = p by simp [Addr.add]] at this
    refine ⟨p.block, p.off, by rw [← hpp], ?_, fun i hi j hj => ?_⟩
    · have := World.block_lt_of_cell? _ _ (hp0.trans rfl)
      rwa [show p.add (0 * 4 + 0) = p by simp [Addr.add]] at this
    · have hi' : i < len := by simpa using hi
      have h := Classical.choose_spec (key i hi') j hj
      rw [(congrArg (fun q => q.add (i * 4 + j)) hpp).trans (Addr.add_lit _ _ _)] at h
      rw [List.getD_eq_getElem?_getD, List.getElem?_map, List.getElem?_range hi']
      simp only [Option.map_some, Option.getD_some, dif_pos hi']
      exact h
/-- May this be sealed? -/
def bdE (e : Ent) : Bool := decide (e.bytes.size ≤ 30) && decide (e.plain.size ≤ 200)
def bdL (G : List Ent) : Bool := G.all bdE && decide (G.length ≤ 20)
theorem bdL_no {G : List Ent} {i : Nat} (hi : i < G.length) (h : bdE (G.getD i eZ) = false) : bdL G = false := by
  unfold bdL
  have : G.all bdE = false := by
    rw [List.all_eq_false]
    have e : G.getD i eZ = G[i] := by simp [List.getD, hi]
    exact ⟨G[i], List.getElem_mem hi, by rw [← e, h]; decide⟩
  rw [this]; rfl
theorem bdL_yes {G : List Ent} (h : ∀ i, i < G.length → bdE (G.getD i eZ) = true) : bdL G = decide (G.length ≤ 20) := by
  unfold bdL
  have : G.all bdE = true := by
    rw [List.all_eq_true]
    intro x hx
    obtain ⟨i, hi, rfl⟩ := List.getElem_of_mem hx
    have e : G.getD i eZ = G[i] := by simp [List.getD, hi]
    rw [← e]; exact h i hi
  rw [this]; rfl
theorem bdL_all {G : List Ent} (h : bdL G = true) : G.length ≤ 20 ∧ ∀ i, i < G.length → (G.getD i eZ).bytes.size ≤ 30 ∧ (G.getD i eZ).plain.size ≤ 200 := by
  unfold bdL at h
  simp only [Bool.and_eq_true, decide_eq_true_eq, List.all_eq_true] at h
  refine ⟨h.2, fun i hi => ?_⟩
  have e : G.getD i eZ = G[i] := by simp [List.getD, hi]
  have := h.1 G[i] (List.getElem_mem hi)
  unfold bdE at this
  rw [e]
  simpa using this
set_option maxHeartbeats 2000000 in
theorem bounded_any (v : Value) (G : List Ent) (w : World) (hr : RowE w v G) (hG : G.length ≤ maxLen) :
    Calls Try.prog 14 #[v] w fun e w' => e = .returned (.bool (bdL G)) ∧ w = w' := by
  unfold maxLen at hG
  obtain ⟨a, cap, rfl⟩ := hr.form
  obtain ⟨-, hcap, hc⟩ := hr.cells
  obtain ⟨n, hn⟩ : ∃ n, G.length = n := ⟨_, rfl⟩
  rw [hn] at hcap hc hG ⊢
  have HC := Lib.hid hc
  have HN := Lib.hid hn
  have hn0 : (n : Int) ≤ 9223372036854775807 := by omega
  have HY : Hid ((∀ i, i < n → bdE (G.getD i eZ) = true) → bdL G = decide ((n : Int) ≤ 20)) := Lib.hid (fun h => by
    rw [bdL_yes (fun i hi => h i (by omega)), hn]
    by_cases h20 : n ≤ 20
    · rw [decide_eq_true h20, decide_eq_true (by omega)]
    · rw [decide_eq_false h20, decide_eq_false (by omega)])
  have HNO : Hid (∀ i, i < n → bdE (G.getD i eZ) = false → bdL G = false) := Lib.hid (fun i hi h => bdL_no (by omega) h)
  clear hr hc hn hG
  go_enter Try.func14, Try.ntmps14
  go_wp2
  go_loop [3] (fun iv => ∃ i : Nat, i ≤ n ∧ iv = .int .i64 (i : Nat) ∧ (∀ j, j < i → bdE (G.getD j eZ) = true)) (fun iv => n - (intOf iv).toNat)
  case atStart => exact ⟨0, Nat.zero_le _, rfl, fun j hj => by omega⟩
  case round =>
    obtain ⟨i, hi, rfl, hall⟩ := hrel
    have HA := Lib.hid hall
    clear hall
    have hi0 : (0 : Int) ≤ (i : Int) := by omega
    by_cases hin : (i : Int) < (n : Int)
    · have hin2 : i < n := by omega
      obtain ⟨g, off, rfl, hc⟩ := HC.out i hin2
      obtain ⟨e0, e1, e2, e3⟩ := hc w (Below.refl _ _)
      have HNi := Lib.hid (HNO.out i hin2)
      clear hc
      obtain ⟨x, hx⟩ : ∃ x, G.getD i eZ = x := ⟨_, rfl⟩
      rw [hx] at e0 e1 e2 e3 HNi
      have HX := Lib.hid hx
      clear hx
      obtain ⟨p, hp⟩ : ∃ p, x.bytes.size = p := ⟨_, rfl⟩
      obtain ⟨q, hq⟩ : ∃ q, x.plain.size = q := ⟨_, rfl⟩
      by_cases hp3 : (30 : Int) < (p : Int)
      · have HF := Lib.hid (HNi.out (by unfold bdE; rw [hp, decide_eq_false (by omega)]; rfl))
        clear HNi
        go_wp2
        go_ret
        exact ⟨by rw [HF.out]; rfl, rfl⟩
      · by_cases hq2 : (200 : Int) < (q : Int)
        · have HF := Lib.hid (HNi.out (by unfold bdE; rw [hq, decide_eq_false (show ¬ q ≤ 200 by omega), Bool.and_false]))
          clear HNi
          go_wp2
          go_ret
          exact ⟨by rw [HF.out]; rfl, rfl⟩
        · have HT : Hid (bdE x = true) := Lib.hid (by unfold bdE; rw [hp, hq, decide_eq_true (show p ≤ 30 by omega), decide_eq_true (show q ≤ 200 by omega)]; rfl)
          clear HNi
          go_wp2
          go_round
          case rel =>
            refine ⟨i + 1, by omega, by go_num, fun j hj => ?_⟩
            by_cases hji : j < i
            · exact HA.out j hji
            · obtain rfl : j = i := by omega
              rw [HX.out]; exact HT.out
          case measure => simp [intOf]; omega
    · obtain rfl : i = n := by omega
      have HF := Lib.hid (HY.out HA.out)
      go_wp2
      go_ret
      exact ⟨by rw [HF.out]; rfl, rfl⟩
end Go.Proofs.Ytffjnfoleofffaa.Id
