/- The walks of layer 7: the first primes. -/
import Derived.Test.YthjphechdhbenaaDgD
import Derived.Laws.AppendOwn
import Derived.Laws.OwnMore
import Derived.WalkMore
namespace Go.Proofs.Ythjphechdhbenaa.Dg
set_option maxRecDepth 20000
open Go.RowKit
set_option linter.unusedVariables false
set_option linter.unusedSimpArgs false

def ints (l : List Nat) : List Value := l.map fun x : Nat => Value.int .u64 x
/-- A slice of numbers of the call's own. -/
def Own64 (w : World) (B : Nat) (v : Value) (l : List Nat) : Prop := w.ownsRow B 57 1 v l.length (ints l)
theorem Own64.form {w : World} {B : Nat} {v : Value} {l : List Nat} (h : Own64 w B v l) : ∃ a c, v = .slice a l.length c := by
  rcases h.2 with ⟨hv, hl⟩ | ⟨g, cap, cur, hv, _⟩
  · refine ⟨none, 0, ?_⟩
    rw [hv]
    rw [hl]
  · exact ⟨_, _, hv⟩
theorem Own64.cell {w : World} {B : Nat} {a : Option Addr} {c : Nat} {l : List Nat} (h : Own64 w B (.slice a l.length c) l) (j : Nat) (hj : j < l.length) : ∃ g, a = some ⟨g, 0, none⟩ ∧ w.cell? ⟨g, j, none⟩ = some (.int .u64 (l.getD j 0 : Nat)) := by
  have h' := h
  rcases h.2 with ⟨hv, hl⟩ | ⟨g, cap, cur, hv, _⟩
  · omega
  · injection hv with h1 h2 h3
    subst h1 h3
    refine ⟨g, rfl, ?_⟩
    rw [World.ownsRow.cellAt h' j (by omega)]
    simp [ints, List.getD, List.getElem?_eq_getElem hj]
theorem info64 : (Try.prog.info? 57).map (fun i => (i.zero, i.size, i.bytes)) = some (some (.int .u64 0), 1, 8) := by kernel_rfl
theorem goP_done {f n : Nat} {l : List Nat} (h : l.length = 64) : goP f n l = l := by
  cases f with
  | zero => rfl
  | succ f => unfold goP; rw [if_neg (by omega)]
theorem goP_step {f n : Nat} {l : List Nat} (h : l.length < 64) (hg : goP f n l = P0) : ∃ g, f = g + 1 ∧ goP g (n + 1) (if isP n l = true then l ++ [n] else l) = P0 := by
  cases f with
  | zero =>
    unfold goP at hg
    rw [hg] at h
    exact absurd h (by decide)
  | succ f =>
    unfold goP at hg
    rw [if_pos h] at hg
    exact ⟨f, rfl, hg⟩
theorem isP_big {n p : Nat} {t : List Nat} (h : n < p * p) : isP n (p :: t) = true := by unfold isP; rw [if_pos h]
theorem isP_div {n p : Nat} {t : List Nat} (h : ¬ n < p * p) (h2 : n % p = 0) : isP n (p :: t) = false := by unfold isP; rw [if_neg h, if_pos h2]
theorem isP_next {n p : Nat} {t : List Nat} (h : ¬ n < p * p) (h2 : ¬ n % p = 0) : isP n (p :: t) = isP n t := by
  conv => lhs; unfold isP
  rw [if_neg h, if_neg h2]
/-- What the loop bears. -/
structure PrR (w : World) (f n : Nat) (l : List Nat) (a : Option Addr) (c : Nat) (wr : World) : Prop where
  own : Own64 wr w.heap.size (.slice a l.length c) l
  go : goP f n l = P0
  n2 : 2 ≤ n
  nf : n + f = 312
  few : l.length ≤ 64
  lt : ∀ j, j < l.length → l.getD j 0 < n ∧ 1 ≤ l.getD j 0
  bel : Below w.heap.size w wr
theorem PrR.skip {w wr : World} {g n : Nat} {l : List Nat} {a : Option Addr} {c : Nat} (h : PrR w (g + 1) n l a c wr) (hP : Hid (isP n l = false)) (hG : goP g (n + 1) (if isP n l = true then l ++ [n] else l) = P0) : PrR w g (n + 1) l a c wr :=
  ⟨h.own, by rw [hP.out] at hG; simpa using hG, by have := h.n2; omega, by have := h.nf; omega, h.few, fun j hj => by have := h.lt j hj; omega, h.bel⟩
theorem ints_app (l : List Nat) (n : Nat) : ints (l ++ [n]) = ints l ++ [.int .u64 n] := by simp [ints]
theorem PrR.app {w wr w2 : World} {g n : Nat} {l : List Nat} {a : Option Addr} {c : Nat} {o : Obj} {v' : Value} (h : PrR w (g + 1) n l a c wr) (hP : Hid (isP n l = true)) (hG : goP g (n + 1) (if isP n l = true then l ++ [n] else l) = P0) (hl : l.length < 64)
    (hown : w2.ownsRow w.heap.size 57 1 v' (l.length + 1) (ints l ++ [.int .u64 n])) (hg : (wr.alloc o).grownBy w2 (Value.slice a l.length c).ownBlock) : ∃ a2 c2, v' = .slice a2 (l.length + 1) c2 ∧ PrR w g (n + 1) (l ++ [n]) a2 c2 w2 := by
  have hO : Own64 w2 w.heap.size v' (l ++ [n]) := by
    unfold Own64
    rw [ints_app, List.length_append]
    exact hown
  obtain ⟨a2, c2, rfl⟩ := hO.form
  have hlen : (l ++ [n]).length = l.length + 1 := by simp
  refine ⟨a2, c2, by rw [hlen], ⟨hO, ?_, by have := h.n2; omega, by have := h.nf; omega, by rw [hlen]; omega, ?_, ?_⟩⟩
  · rw [hP.out] at hG; simpa using hG
  · intro j hj
    rw [hlen] at hj
    by_cases hjl : j < l.length
    · have := h.lt j hjl
      rw [List.getD, List.getElem?_append_left hjl, ← List.getD]
      omega
    · obtain rfl : j = l.length := by omega
      have := h.n2
      simp [List.getD]
      omega
  · exact (h.bel.alloc h.bel.size o).grown hg (by have := h.bel.size; simp; omega) (fun k hk => (h.own.lt k hk).1)
def PrPost (w : World) (e : Ending) (w' : World) : Prop := ∃ a c, e = .returned (.slice a 64 c) ∧ Own64 w' w.heap.size (.slice a 64 c) P0 ∧ Below w.heap.size w w'

set_option maxHeartbeats 8000000 in
theorem primes_any (w : World) : Calls Try.prog 57 #[.int .i64 64] w (PrPost w) := by
  obtain ⟨i0, hi, hz0, hz1, hz2⟩ := info_parts info64
  have hi := Lib.hid hi; have hz0 := Lib.hid hz0; have hz1 := Lib.hid hz1; have hz2 := Lib.hid hz2
  go_enter Try.func57, Try.ntmps57
  go_wp2
  go_step3
  go_wp2
  go_step3
  go_wp2
  go_loopw [3, 4] (fun lv nv wr => ∃ (f n : Nat) (l : List Nat) (a : Option Addr) (c : Nat), lv = .slice a l.length c ∧ nv = .int .u64 n ∧ PrR w f n l a c wr) (fun _ nv _ => 312 - (intOf nv).toNat)
  case atStart => exact ⟨310, 2, [], none, 0, rfl, rfl, ⟨World.ownsRow_nil _ _ _ _, goP_all, by omega, by omega, by decide, fun j hj => by simp at hj, Below.refl _ _⟩⟩
  case round =>
    obtain ⟨f, n, l, a, c, rfl, rfl, hr⟩ := hrel
    have hfew := hr.few
    have hnf := hr.nf
    by_cases hlt : l.length < 64
    · obtain ⟨g, rfl, hgo⟩ := goP_step hlt hr.go
      have hn1 : n ≤ 311 := by omega
      have HR := Lib.hid hr
      have HG := Lib.hid hgo
      clear hr hgo
      go_wp2
      go_loop [15] (fun iv => ∃ k : Nat, k ≤ l.length ∧ iv = .int .i64 k ∧ isP n (l.drop k) = isP n l) (fun iv => l.length - (intOf iv).toNat)
      case atStart => exact ⟨0, by omega, rfl, rfl⟩
      case round =>
        obtain ⟨k, hk, rfl, hP⟩ := hrel
        by_cases hkl : k < l.length
        · obtain ⟨g0, rfl, hc⟩ := HR.out.own.cell k hkl
          have hp := HR.out.lt k hkl
          have hd : l.drop k = l.getD k 0 :: l.drop (k + 1) := by
            rw [List.drop_eq_getElem_cons hkl]
            congr 1
            simp [List.getD, hkl]
          rw [hd] at hP
          have HP := Lib.hid hP
          clear hP hd
          generalize l.getD k 0 = p at hc hp HP
          obtain ⟨hp1, hp2⟩ := hp
          obtain ⟨Q, hQ⟩ : ∃ Q, p * p = Q := ⟨_, rfl⟩
          have hQ1 : Q ≤ 96100 := by rw [← hQ]; exact Nat.mul_le_mul (show p ≤ 310 by omega) (show p ≤ 310 by omega)
          have e1 : (p : Int) * (p : Int) = (Q : Int) := by rw [← hQ]; push_cast; rfl
          obtain ⟨R, hR0⟩ : ∃ R, n % p = R := ⟨_, rfl⟩
          have hR1 : R < p := by rw [← hR0]; exact Nat.mod_lt _ (by omega)
          have e2 : (n : Int) % (p : Int) = (R : Int) := by rw [← hR0]; push_cast; rfl
          have e3 : (n : Int).tmod (p : Int) = (R : Int) := by rw [Int.tmod_eq_emod_of_nonneg (by omega)]; exact e2
          by_cases hb : n < Q
          · have HP : isP n l = true := by rw [← HP.out]; exact isP_big (by rw [hQ]; exact hb)
            have HP := Lib.hid HP
            clear hQ hR0 e2 e3
            have HN : Hid (∀ (j : Nat) (u : Value), ([.int .u64 n] : List Value)[j]? = some u → (wr.alloc (.cells #[.int .u64 n] 57)).cell? ((⟨wr.heap.size, 0, none⟩ : Addr).add j) = some u) := Lib.hid (by
              intro j u hj
              cases j with
              | zero =>
                simp only [List.getElem?_cons_zero, Option.some.injEq] at hj
                subst hj
                simp [Addr.add, go_sem]
              | succ j => simp at hj)
            go_wp2_with (at_builtin; refine wpList_append_own _ rfl _ _ 86 rfl w.heap.size 57 i0 (.int .u64 0) 1 8 Try.underlying86 hi.out hz0.out hz1.out hz2.out rfl (by decide) _ _ _ rfl (World.ownsRow.alloc HR.out.own _) ⟨wr.heap.size, 0, none⟩ 1 1 [.int .u64 n] rfl rfl HN.out ?c2 ?c3 ?c4 ?c5 ?_)
            case c2 => first | rfl | (intro u hu; rw [List.mem_singleton.1 hu]; rfl)
            case c3 => unfold maxLen; omega
            case c4 => omega
            case c5 => have := HR.out.bel.size; simp; omega
            intro v' w2 hown' hgrow _
            obtain ⟨a2, c2, rfl, hr2⟩ := PrR.app HR.out HP HG.out (by omega) hown' hgrow
            clear hown' hgrow
            go_wp2
            go_roundw
            case rel => exact ⟨g, n + 1, l ++ [n], a2, c2, by simp, by go_num, hr2⟩
            case measure => simp [intOf]; omega
          · by_cases hz : R = 0
            · subst hz
              have HP : Hid (isP n l = false) := Lib.hid (by rw [← HP.out]; exact isP_div (by rw [hQ]; exact hb) hR0)
              clear hQ hR0
              go_wp2
              go_roundw
              case rel => exact ⟨g, n + 1, l, _, c, rfl, by go_num, PrR.skip HR.out HP HG.out⟩
              case measure => simp [intOf]; omega
            · have HP : Hid (isP n (l.drop (k + 1)) = isP n l) := Lib.hid (by rw [← HP.out, isP_next (by rw [hQ]; exact hb) (by rw [hR0]; exact hz)])
              clear hQ hR0
              go_wp2
              go_round
              case rel => exact ⟨k + 1, by omega, by go_num, HP.out⟩
              case measure => simp [intOf]; omega
        · obtain rfl : k = l.length := by omega
          rw [List.drop_length] at hP
          have HP : Hid (isP n l = true) := Lib.hid (by rw [← hP]; rfl)
          clear hP
          have HN : Hid (∀ (j : Nat) (u : Value), ([.int .u64 n] : List Value)[j]? = some u → (wr.alloc (.cells #[.int .u64 n] 57)).cell? ((⟨wr.heap.size, 0, none⟩ : Addr).add j) = some u) := Lib.hid (by
            intro j u hj
            cases j with
            | zero =>
              simp only [List.getElem?_cons_zero, Option.some.injEq] at hj
              subst hj
              simp [Addr.add, go_sem]
            | succ j => simp at hj)
          go_wp2_with (at_builtin; refine wpList_append_own _ rfl _ _ 86 rfl w.heap.size 57 i0 (.int .u64 0) 1 8 Try.underlying86 hi.out hz0.out hz1.out hz2.out rfl (by decide) _ _ _ rfl (World.ownsRow.alloc HR.out.own _) ⟨wr.heap.size, 0, none⟩ 1 1 [.int .u64 n] rfl rfl HN.out ?c2 ?c3 ?c4 ?c5 ?_)
          case c2 => first | rfl | (intro u hu; rw [List.mem_singleton.1 hu]; rfl)
          case c3 => unfold maxLen; omega
          case c4 => omega
          case c5 => have := HR.out.bel.size; simp; omega
          intro v' w2 hown' hgrow _
          obtain ⟨a2, c2, rfl, hr2⟩ := PrR.app HR.out HP HG.out (by omega) hown' hgrow
          clear hown' hgrow
          go_wp2
          go_roundw
          case rel => exact ⟨g, n + 1, l ++ [n], a2, c2, by simp, by go_num, hr2⟩
          case measure => simp [intOf]; omega
    · have hl : l.length = 64 := by omega
      have hlp : l = P0 := by rw [← goP_done hl]; exact hr.go
      have ho := hr.own
      have hb := hr.bel
      clear hr
      have HO : Hid (Own64 wr w.heap.size (.slice a 64 c) P0) := Lib.hid (by rw [hl, hlp] at ho; exact ho)
      have HB := Lib.hid hb
      clear ho hb hlp
      rw [hl]
      go_wp2
      go_ret
      exact ⟨a, c, rfl, HO.out, HB.out⟩
end Go.Proofs.Ythjphechdhbenaa.Dg
