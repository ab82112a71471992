/- Layer 14: parts sorted by where they begin. After layer 3's sort. -/
import Derived.Test.YtndnlpohdimgaaaGaA
import Derived.Test.YtndnlpohdimgaaaGaS
import Derived.Test.YtndnlpohdimgaaaRgO
namespace Go.Proofs.Ytndnlpohdimgaaa.Rg
set_option maxRecDepth 20000
open Go.RowKit Go.Shelf
set_option linter.unusedVariables false
set_option linter.unusedSimpArgs false

set_option maxHeartbeats 400000 in
theorem cmpG_any (lo lo2 : Int) (d d2 : ByteArray) (w : World) : Calls Try.prog 26 #[.agg #[.int .u64 lo, .string d], .agg #[.int .u64 lo2, .string d2]] w fun e w' => e = .returned (.int .i64 (cv lo lo2)) ∧ w' = (w.alloc (.cells #[.int .u64 lo, .string d] 50)).alloc (.cells #[.int .u64 lo2, .string d2] 50) := by
  go_enter Try.func26, Try.ntmps26
  go_wp2_with (go_at_call 27; refine (compare_any _ _ _).mono ?_; rintro e w1 ⟨rfl, rfl⟩)
  go_ret
  exact ⟨rfl, rfl⟩
open Go.Sort Go.Lib in
theorem cmpLaysG (T : ByteArray) (blk off size : Nat) (w : World) : CmpLays Try.prog 26 #[] (gcs T) 2 lo2 blk off size w := by
  intro m os dk hs x y
  refine (cmpG_any x.1 y.1 (bt T x) (bt T y) _).mono ?_
  rintro e w' ⟨rfl, rfl⟩
  exact ⟨rfl, 0, _, by rw [alloc_eq_grow, alloc_eq_grow, grow_grow]; rfl⟩
open Go.Sort in
theorem below_sortedG (T : ByteArray) (w : World) (blk off m n : Nat) (dk : Array Ran) (os : Array Obj) (h1 : n ≤ blk) (h2 : n ≤ w.heap.size) : Below n w (sortWorldK (gcs T) 2 w blk off m dk os) := by
  refine ⟨rfl, rfl, rfl, ?_, fun k hk => ?_⟩
  · show w.heap.size ≤ ((w.heap.modify blk _) ++ os).size
    simp
  · show ((w.heap.modify blk _) ++ os)[k]? = _
    rw [Array.getElem?_append_left (by rw [Array.size_modify]; omega), Array.getElem?_modify, if_neg (by omega)]
open Go.Sort in
theorem holds_ownG {T : ByteArray} {w : World} {base n cap b : Nat} {l : List Ran} (h : OwnG 50 w base (.slice (some ⟨b, 0, none⟩) n cap) T l) (hn : n = l.length) : HoldsK (gcs T) 2 w b 0 l.toArray := by
  intro j hj
  subst hn
  simp only [size_flatK, List.size_toArray] at hj
  rw [get_flatK _ _ _ _ (by simpa using hj)]
  have h0 := h
  rcases h.2 with ⟨he, _⟩ | ⟨g, cap', cur, he, _, hgg, _, _, hcs, _⟩
  · cases he
  · cases he
    refine ⟨?_, by simp [World.frozen?, hgg]⟩
    have hlen := flatG_len T l
    rw [Nat.zero_add, World.ownsRow.cellAt h0 j (by omega)]
    have hq : j / 2 < l.length := by omega
    have hg := flatG_get T l (j / 2) (j % 2) hq (by omega)
    have e1 : l.toArray[j / 2]! = l.getD (j / 2) (0, 0) := by
      rw [getElem!_pos _ _ (by simpa using hq), getD_get hq]
      simp
    rw [e1]
    rw [show j / 2 * 2 + j % 2 = j by omega] at hg
    rw [hg]
    rcases Nat.mod_two_eq_zero_or_one j with h | h <;> rw [h] <;> rfl
open Go.Sort in
theorem rowG_holds {T : ByteArray} {w : World} {b cap : Nat} {d : Array Ran} (h : HoldsK (gcs T) 2 w b 0 d) (hc : d.size ≤ cap) (hb : b < w.heap.size) : RowG w (.slice (some ⟨b, 0, none⟩) d.size cap) T d.toList := by
  refine ⟨_, cap, by rw [Array.length_toList], by rw [Array.length_toList]; exact hc, fun _ => ⟨b, 0, rfl, hb, fun i hi j hj => ?_⟩⟩
  rw [Array.length_toList] at hi
  have e : d.toList.getD i (0, 0) = d[i]! := by
    rw [getD_get (by rw [Array.length_toList]; exact hi), getElem!_pos d i hi]
    simp
  rw [e]
  have h1 := h (i * 2 + j) (by simp; omega)
  rw [get_flatK _ _ _ _ (by omega)] at h1
  rw [show (i * 2 + j) / 2 = i by omega, show (i * 2 + j) % 2 = j by omega] at h1
  have h2 := h1.1
  rw [h2]
  have : j = 0 ∨ j = 1 := by omega
  rcases this with rfl | rfl <;> rfl

set_option maxHeartbeats 1000000 in
open Go.Sort Go.Lib in
theorem sortFuncG_any (T : ByteArray) (b cap : Nat) (d : Array Ran) (w : World) (hH : HoldsK (gcs T) 2 w b 0 d) (hb : b < w.heap.size) (hs : d.size < 100000) :
    Calls Try.prog 25 #[.slice (some ⟨b, 0, none⟩) d.size cap, .func (.func 26) #[] #[]] w fun e w' =>
      e = .returned (.tuple #[]) ∧ ∃ d' n os, PermIn 0 d.size d d' ∧ SortedIn (ltOf lo2) 0 d.size d' ∧ w' = sortWorldK (gcs T) 2 w b 0 n d' os :=
  AnyQ.slices_SortFunc Try.sortG 2 Try.isAgg50 Try.sizeOf50 (gcs T) (fun _ => rfl) (fun x v hv => by simp [gcs] at hv; rcases hv with rfl | rfl <;> rfl) lo2 swo_lo 26 #[] b 0 cap d w (enters_of Try.func26 (by kernel_rfl) rfl) (cmpLaysG T b 0 d.size w) hH hb (by omega)

set_option maxHeartbeats 1000000 in
theorem insertionG_none (w : World) : Calls Try.prog 40 #[.slice none 0 0, .int .i64 0, .int .i64 0, .func (.func 26) #[] #[]] w fun e w' => e = .returned (.tuple #[]) ∧ w = w' := by
  go_enter Try.func40, Try.ntmps40
  go_wp2
  refine wp_loop_rounds 1 ?_
  rw [rounds_succ]
  go_wp2
  go_end0
  exact ⟨rfl, rfl⟩
set_option maxHeartbeats 1000000 in
theorem pdqG_none (l : Int) (w : World) : Calls Try.prog 33 #[.slice none 0 0, .int .i64 0, .int .i64 0, .int .i64 l, .func (.func 26) #[] #[]] w fun e w' => e = .returned (.tuple #[]) ∧ Below w.heap.size w w' := by
  go_enter Try.func33, Try.ntmps33
  go_wp2
  refine wp_loop_rounds 1 ?_
  rw [rounds_succ]
  go_wp2_with fail
  refine (insertionG_none _).mono ?_
  rintro e w1 ⟨rfl, rfl⟩
  go_wp2
  refine bodyPost_ret (results_none rfl _ _ _) rfl ?_
  exact ⟨rfl, Below.refl _ _⟩
set_option maxHeartbeats 1000000 in
theorem sortFuncG_none (w : World) : Calls Try.prog 25 #[.slice none 0 0, .func (.func 26) #[] #[]] w fun e w' => e = .returned (.tuple #[]) ∧ Below w.heap.size w w' := by
  go_enter Try.func25, Try.ntmps25
  go_wp2_with fail
  refine (len_none _).mono ?_
  rintro e w1 ⟨⟨l, rfl⟩, rfl⟩
  go_wp2_with fail
  refine (pdqG_none _ _).mono ?_
  rintro e w1 ⟨rfl, hb⟩
  go_wp2
  go_end0
  exact ⟨rfl, hb⟩

open Go.Sort Go.Lib in
/-- The sort, of what is owned. -/
theorem sortG_any (T : ByteArray) (v : Value) (l : List Ran) (base : Nat) (w : World) (h : OwnG 50 w base v T l) (hb : base ≤ w.heap.size) (hl : l.length < 100000) :
    Calls Try.prog 25 #[v, .func (.func 26) #[] #[]] w fun e w' =>
      e = .returned (.tuple #[]) ∧ (∃ l', l'.Perm l ∧ l'.Pairwise (fun a b => a.1 ≤ b.1) ∧ RowG w' v T l') ∧ Below base w w' := by
  have h0 := h
  rcases h.2 with ⟨rfl, hn⟩ | ⟨g, cap, cur, rfl, hg, hgg, hcap, _⟩
  · obtain rfl : l = [] := List.eq_nil_of_length_eq_zero hn
    refine (sortFuncG_none w).mono ?_
    rintro e w' ⟨rfl, hbl⟩
    exact ⟨rfl, ⟨[], List.Perm.refl _, List.Pairwise.nil, (h0.row).go hbl⟩, hbl.mono hb⟩
  · have hH := holds_ownG h0 rfl
    have hbl : g < w.heap.size := (Array.getElem?_eq_some_iff.1 hgg).1
    have hs : l.toArray.size = l.length := by simp
    have := sortFuncG_any T g cap l.toArray w hH hbl (by simpa using hl)
    rw [hs] at this
    refine this.mono ?_
    rintro e w' ⟨rfl, d', n, os, hp, hso, rfl⟩
    have hsz : d'.size = l.length := by have := hp.1; simpa using this
    have hbw := below_sortedG T w g 0 n base d' os hg hb
    refine ⟨rfl, ⟨d'.toList, ?_, ?_, ?_⟩, hbw⟩
    · have := hp.2.2
      rw [show d'.extract 0 l.length = d' by rw [← hsz]; simp, show l.toArray.extract 0 l.length = l.toArray by simp] at this
      simpa using this
    · rw [List.pairwise_iff_getElem]
      intro i j hi hj hij
      simp only [Array.length_toList] at hi hj
      have := hso i j (Nat.zero_le _) hij (by omega)
      rw [lt_lo, getElem!_pos d' i hi, getElem!_pos d' j hj] at this
      have := of_decide_eq_false this
      simp only [Array.getElem_toList]
      omega
    · have hh := holdsK_sortWorldK_c (gcs T) 2 w g 0 l.toArray d' n os hH hbl (by rw [hsz, hs])
      have := rowG_holds (T := T) (cap := cap) hh (by omega) (Nat.lt_of_lt_of_le hbl hbw.size)
      rwa [hsz] at this
end Go.Proofs.Ytndnlpohdimgaaa.Rg
