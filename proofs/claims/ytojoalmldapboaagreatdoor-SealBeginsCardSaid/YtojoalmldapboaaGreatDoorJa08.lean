/- The walks of layer 7: the roots of primes. -/
import Derived.Test.YtojoalmldapboaaGreatDoorJa07
namespace Go.Proofs.YtojoalmldapboaaGreatDoor.Dg
set_option maxRecDepth 20000
open Go.RowKit
set_option linter.unusedVariables false
set_option linter.unusedSimpArgs false

def words (l : List Nat) : List Value := l.map fun x : Nat => Value.int .u32 x
def Own32 (w : World) (B : Nat) (v : Value) (l : List Nat) : Prop := w.ownsRow B 22 1 v l.length (words l)
theorem Own32.form {w : World} {B : Nat} {v : Value} {l : List Nat} (h : Own32 w B v l) : ∃ a c, v = .slice a l.length c := by
  rcases h.2 with ⟨hv, hl⟩ | ⟨g, cap, cur, hv, _⟩
  · refine ⟨none, 0, ?_⟩
    rw [hv]
    rw [hl]
  · exact ⟨_, _, hv⟩
theorem info32 : (Tryz.prog.info? 22).map (fun i => (i.zero, i.size, i.bytes)) = some (some (.int .u32 0), 1, 4) := by kernel_rfl
theorem words_app (l : List Nat) (n : Nat) : words (l ++ [n]) = words l ++ [.int .u32 n] := by simp [words]
theorem Own32.of {w : World} {B : Nat} {v : Value} {l : List Nat} {n : Nat} (h : w.ownsRow B 22 1 v (l.length + 1) (words l ++ [.int .u32 n])) : Own32 w B v (l ++ [n]) := by
  unfold Own32
  rw [words_app, List.length_append]
  exact h
theorem Own32.keepBelow {w w' : World} {B B' : Nat} {v : Value} {l : List Nat} (h : Own32 w B v l) (hb : Below w.heap.size w w') : Own32 w' B v l :=
  h.kept (row := none) ⟨hb.os, hb.tape, hb.output, hb.size, fun k hk _ => hb.block k hk⟩ (by
    cases hv : v.ownBlock with
    | none => exact .inl rfl
    | some g => exact .inr (by intro e; cases e))
/-- Numbers that are read. -/
def Row64 (w : World) (b : Nat) (l : List Nat) : Prop := b < w.heap.size ∧ ∀ j, j < l.length → w.cell? ⟨b, j, none⟩ = some (.int .u64 (l.getD j 0 : Nat))
theorem Row64.below {w w' : World} {b B : Nat} {l : List Nat} (h : Row64 w b l) (hb : Below B w w') (hB : b < B) : Row64 w' b l :=
  ⟨Nat.lt_of_lt_of_le h.1 hb.size, fun j hj => (hb.cell (p := ⟨b, j, none⟩) hB).trans (h.2 j hj)⟩
def RtPost (pw : Nat → Nat) (l : List Nat) (w : World) (e : Ending) (w' : World) : Prop := ∃ a c, e = .returned (.slice a l.length c) ∧ Own32 w' (w.heap.size + 1) (.slice a l.length c) (l.map (rt pw)) ∧ Below w.heap.size w w'
structure RtR (pw : Nat → Nat) (l : List Nat) (F : Value) (w : World) (k : Nat) (a : Option Addr) (c : Nat) (wr : World) : Prop where
  own : Own32 wr (w.heap.size + 1) (.slice a k c) ((l.take k).map (rt pw))
  box : wr.cell? ⟨w.heap.size, 0, none⟩ = some F
  lt : w.heap.size < wr.heap.size
  bel : Below w.heap.size w wr
theorem RtR.app {pw : Nat → Nat} {l : List Nat} {F : Value} {w wr w1 w2 : World} {k : Nat} {a : Option Addr} {c : Nat} {v' : Value} {q : Nat} {o : Obj} (h : RtR pw l F w k a c wr) (hk : k < l.length) (hq : l.getD k 0 = q) (hb : Below wr.heap.size wr w1)
    (hown : w2.ownsRow (w.heap.size + 1) 22 1 v' (k + 1) (words ((l.take k).map (rt pw)) ++ [.int .u32 (rt pw q)])) (hg : (w1.alloc o).grownBy w2 (Value.slice a k c).ownBlock) : ∃ a2 c2, v' = .slice a2 (k + 1) c2 ∧ RtR pw l F w (k + 1) a2 c2 w2 := by
  have hlen : ((l.take k).map (rt pw)).length = k := by simp; omega
  have hO : Own32 w2 (w.heap.size + 1) v' ((l.take k).map (rt pw) ++ [rt pw q]) := Own32.of (by rw [hlen]; exact hown)
  have e : (l.take k).map (rt pw) ++ [rt pw q] = (l.take (k + 1)).map (rt pw) := by
    rw [List.take_succ_eq_append_getElem hk, List.map_append, ← hq]
    simp [List.getD, hk]
  rw [e] at hO
  have hlen2 : ((l.take (k + 1)).map (rt pw)).length = k + 1 := by simp; omega
  obtain ⟨a2, c2, rfl⟩ := hO.form
  rw [hlen2] at hO ⊢
  have hlt := h.lt
  have hs := hb.size
  have hgb : ∀ j, (Value.slice a k c).ownBlock = some j → w.heap.size + 1 ≤ j := fun j hj => by
    have := h.own.lt j (by rw [← hj])
    omega
  refine ⟨a2, c2, rfl, ⟨hO, ?_, ?_, ?_⟩⟩
  · have h1 : (w1.alloc o).cell? ⟨w.heap.size, 0, none⟩ = some F := by
      rw [World.cell?_alloc_lt _ _ _ (show w.heap.size < w1.heap.size by omega)]
      exact (hb.cell (p := ⟨w.heap.size, 0, none⟩) h.lt).trans h.box
    have hblk := hg.block w.heap.size (by simp; omega) (fun e => by have := hgb _ e.symm; omega)
    rw [World.cell?] at h1 ⊢
    rw [hblk]
    exact h1
  · have := hg.size
    simp at this
    omega
  · exact ((h.bel.trans (hb.mono h.bel.size)).alloc (by have := h.bel.size; omega) o).grown hg (by have := h.bel.size; simp; omega) (fun j hj => by have := hgb j hj; omega)

set_option maxHeartbeats 8000000 in
theorem roots_any (pw : Nat → Nat) (F : Nat) (b c0 : Nat) (l : List Nat) (w : World) (hr : Row64 w b l) (hl : l.length ≤ 64)
    (CB : Hid (∀ (q n : Nat) (p1 p2 : Addr) (w : World), n < 34359738368 → w.cell? p1 = some (.func (.func F) #[] #[]) → w.cell? p2 = some (.int .u64 q) → Calls Tryz.prog 175 #[.int .u64 n, .pointer (some p1), .pointer (some p2)] w fun e w' => e = .returned (.bool (decide (pw n < q))) ∧ ∃ k, w' = w.drewN k)) :
    Calls Tryz.prog 165 #[.func (.func F) #[] #[], .slice (some ⟨b, 0, none⟩) l.length c0] w (RtPost pw l w) := by
  obtain ⟨i0, hi, hz0, hz1, hz2⟩ := info_parts info32
  have hi := Lib.hid hi; have hz0 := Lib.hid hz0; have hz1 := Lib.hid hz1; have hz2 := Lib.hid hz2
  have hblt := hr.1
  have HR := Lib.hid hr
  clear hr
  have hmf : ∀ (fn : Fn) (first cap : Array Value) (w : World), (Instr.makeFunc fn first cap).run Tryz.prog w = .ok (.func fn first cap) w := fun _ _ _ _ => rfl
  go_enter Tryz.func165, Tryz.ntmps165
  go_wp2
  go_loopw [5, 11] (fun tv iv wr => ∃ (k : Nat) (a : Option Addr) (c : Nat), k ≤ l.length ∧ iv = .int .i64 k ∧ tv = .slice a k c ∧ RtR pw l (.func (.func F) #[] #[]) w k a c wr) (fun _ iv _ => l.length - (intOf iv).toNat)
  case atStart => exact ⟨0, none, 0, by omega, rfl, rfl, ⟨World.ownsRow_nil _ _ _ _, by simp [go_sem], by simp, (Below.refl _ _).alloc (Nat.le_refl _) _⟩⟩
  case round =>
    obtain ⟨k, a, c, hk, rfl, rfl, hr⟩ := hrel
    by_cases hlt : k < l.length
    · have hc := (HR.out.below hr.bel hblt).2 k hlt
      have HRr := Lib.hid hr
      have hwl := hr.lt
      have hbx := hr.box
      clear hr
      obtain ⟨q, hq⟩ : ∃ q, l.getD k 0 = q := ⟨_, rfl⟩
      rw [hq] at hc
      have HQ := Lib.hid hq
      clear hq
      have HC : Hid (∀ (m n : Nat), n < 34359738368 → Calls Tryz.prog 175 #[.int .u64 n, .pointer (some ⟨w.heap.size, 0, none⟩), .pointer (some ⟨wr.heap.size, 0, none⟩)] ((wr.alloc (.cells #[.int .u64 q] 27)).drewN m) fun e w' => e = .returned (.bool (decide (pw n < q))) ∧ ∃ k, w' = ((wr.alloc (.cells #[.int .u64 q] 27)).drewN m).drewN k) := Lib.hid (fun m n hn =>
        CB.out q n ⟨w.heap.size, 0, none⟩ ⟨wr.heap.size, 0, none⟩ _ hn
          (show (wr.alloc (.cells #[.int .u64 q] 27)).cell? ⟨w.heap.size, 0, none⟩ = _ by rw [World.cell?_alloc_lt _ _ _ hwl]; exact hbx)
          (show (wr.alloc (.cells #[.int .u64 q] 27)).cell? ⟨wr.heap.size, 0, none⟩ = _ by simp [go_sem]))
      have HC2 : Hid (∀ (m n : Nat), n < 34359738368 → Calls Tryz.prog 175 #[.int .u64 n, .pointer (some ⟨w.heap.size, 0, none⟩), .pointer (some ⟨wr.heap.size, 0, none⟩)] ((wr.alloc (.cells #[.int .u64 q] 27)).drewN m) fun e w' => e = .returned (.bool ((fun n => decide (pw n < q)) n)) ∧ ∃ k, w' = (wr.alloc (.cells #[.int .u64 q] 27)).drewN k) := Lib.hid (fun m n hn => (HC.out m n hn).mono (by rintro e w' ⟨h1, k, h2⟩; exact ⟨h1, m + k, by rw [h2, World.drewN_drewN]⟩))
      clear HC
      have CG := Lib.hid (greatest_any (fun n => decide (pw n < q)) ⟨w.heap.size, 0, none⟩ ⟨wr.heap.size, 0, none⟩ _ HC2)
      clear HC2
      obtain ⟨G, hG⟩ : ∃ G, grt (fun n => decide (pw n < q)) 35 0 = G := ⟨_, rfl⟩
      have CG2 : Hid (Calls Tryz.prog 176 #[.func (.func 175) #[] #[.pointer (some ⟨w.heap.size, 0, none⟩), .pointer (some ⟨wr.heap.size, 0, none⟩)]] (wr.alloc (.cells #[.int .u64 q] 27)) fun e w' => e = .returned (.int .u64 G) ∧ Below wr.heap.size wr w') := Lib.hid (CG.out.mono (by
        rintro e w' ⟨h1, k, h2⟩
        rw [hG] at h1
        exact ⟨h1, by rw [h2]; exact below_drewN ((Below.refl _ _).alloc (Nat.le_refl _) _) k⟩))
      have HG : Hid (rt pw q = G % 4294967296) := Lib.hid (by unfold rt; rw [hG])
      clear CG hG
      go_wp2_with fail
      refine CG2.out.mono ?_
      rintro e w1 ⟨rfl, hb⟩
      have HB := Lib.hid hb
      have hs1 := hb.size
      clear hb hc hbx CG2
      obtain ⟨N, hN⟩ : ∃ N : Nat, G % 4294967296 = N := ⟨_, rfl⟩
      have eN : (G : Int) % 4294967296 = (N : Int) := by rw [← hN]; omega
      rw [hN] at HG
      clear hN
      have HN : Hid (∀ (j : Nat) (u : Value), ([.int .u32 N] : List Value)[j]? = some u → (w1.alloc (.cells #[.int .u32 N] 22)).cell? ((⟨w1.heap.size, 0, none⟩ : Addr).add j) = some u) := Lib.hid (by
        intro j u hj
        cases j with
        | zero =>
          simp only [List.getElem?_cons_zero, Option.some.injEq] at hj
          subst hj
          simp [Addr.add, go_sem]
        | succ j => simp at hj)
      have HO : Hid ((w1.alloc (.cells #[.int .u32 N] 22)).ownsRow (w.heap.size + 1) 22 1 (.slice a k c) k (words ((l.take k).map (rt pw)))) := Lib.hid (by
        have h1 := HRr.out.own.keepBelow (B' := 0) HB.out
        have h2 : ((l.take k).map (rt pw)).length = k := by simp; omega
        unfold Own32 at h1
        rw [h2] at h1
        exact World.ownsRow.alloc h1 _)
      go_wp2_with (at_builtin; refine wpList_append_own _ rfl _ _ 193 rfl (w.heap.size + 1) 22 i0 (.int .u32 0) 1 4 Tryz.underlying193 hi.out hz0.out hz1.out hz2.out rfl (by decide) _ _ _ rfl HO.out ⟨w1.heap.size, 0, none⟩ 1 1 [.int .u32 N] rfl rfl HN.out ?c2 ?c3 ?c4 ?c5 ?_)
      case c2 => first | rfl | (intro u hu; rw [List.mem_singleton.1 hu]; rfl)
      case c3 => unfold maxLen; omega
      case c4 => omega
      case c5 => simp; omega
      intro v' w2 hown' hgrow _
      rw [← HG.out, ← List.map_take] at hown'
      obtain ⟨a2, c2, rfl, hr2⟩ := RtR.app HRr.out hlt HQ.out HB.out hown' hgrow
      clear hown' hgrow
      have H2 := Lib.hid hr2
      clear hr2
      go_wp2
      go_roundw
      case rel => exact ⟨k + 1, a2, c2, by omega, by go_num, rfl, H2.out⟩
      case measure => simp [intOf]; omega
    · obtain rfl : k = l.length := by omega
      have ho := hr.own
      rw [List.take_length] at ho
      have HO := Lib.hid ho
      have HB := Lib.hid hr.bel
      clear ho hr
      go_wp2
      go_ret
      exact ⟨a, c, rfl, HO.out, HB.out⟩
end Go.Proofs.YtojoalmldapboaaGreatDoor.Dg
