/- The walks of layer 3: what is collected, and sorted. -/
import Derived.Test.YtedijfcagkedaaaRgQ
import Derived.Test.YtedijfcagkedaaaRgS
namespace Go.Proofs.Ytedijfcagkedaaa.Rg
set_option maxRecDepth 20000
open Go.RowKit Go.Shelf
set_option linter.unusedVariables false

set_option maxHeartbeats 1000000 in
theorem collect_any (g : Nat) (lb : Array Value) (xs : List Ran) (R : Nat → Prop) (w0 w : World) (eg : ∀ args w, (callFunc g args).run Try.prog w = .ok (.enter g args) w)
    (hit : Iter Try.prog g lb xs R w0) (hR : ∀ k, R k → k < w0.heap.size ∧ w.heap[k]? = w0.heap[k]?) (hsz : w0.heap.size ≤ w.heap.size) (hlen : xs.length ≤ 100000) :
    Calls Try.prog 69 #[.func (.func g) #[] lb] w fun e w' => ∃ v', e = .returned v' ∧ Ow w' w.heap.size 68 v' xs ∧ Below w.heap.size w w' := by
  have HC := Lib.hid (appendSeq48 none 0 0 [] w.heap.size g lb xs R w0 w eg hit hR hsz (Nat.le_refl _) (Ow.nil _ _ _) (fun k hk => by cases hk) (by simpa using hlen))
  clear hit hR
  go_enter Try.func69, Try.ntmps69
  go_wp2_with fail
  refine HC.out.mono ?_
  rintro e w1 ⟨v', rfl, h1, h2, h3⟩
  have H1 := Lib.hid h1
  have H2 := Lib.hid h2
  clear h1 h2 h3
  go_wp2
  go_ret
  exact ⟨v', rfl, by have := H1.out; rwa [List.nil_append] at this, H2.out.below (Nat.le_refl _) (fun k hk => by cases hk)⟩

/-! ### The sort -/
def encR (x : Ran) : List Value := [.int .u64 x.1, .int .u64 x.2]
def lo2 (x y : Ran) : Int := cv x.1 y.1
open Go.Sort Go.Lib in
theorem lt_lo (x y : Ran) : ltOf lo2 x y = decide (x.1 < y.1) := by
  unfold ltOf lo2
  by_cases h : x.1 < y.1
  · rw [decide_eq_true h, decide_eq_true (cv_neg.2 h)]
  · rw [decide_eq_false h, decide_eq_false (fun h' => h (cv_neg.1 h'))]
open Go.Sort Go.Lib in
theorem swo_lo : SWO (ltOf lo2) where
  irrefl x := by rw [lt_lo]; simp
  trans x y z h1 h2 := by rw [lt_lo] at *; simp at *; omega
  ntrans x y z h1 h2 := by rw [lt_lo] at *; simp at *; omega
open Go.Sort Go.Lib in
theorem cmpLays (blk off size : Nat) (w : World) : CmpLays Try.prog 60 #[] encR 2 lo2 blk off size w := by
  intro m os dk hs x y
  refine (cmpLo_any x.1 x.2 y.1 y.2 _).mono ?_
  rintro e w' ⟨rfl, rfl⟩
  exact ⟨rfl, 0, _, by rw [alloc_eq_grow, alloc_eq_grow, grow_grow]; rfl⟩
open Go.Sort in
theorem below_sorted (w : World) (blk off m n : Nat) (dk : Array Ran) (os : Array Obj) (h1 : n ≤ blk) (h2 : n ≤ w.heap.size) : Below n w (sortWorldK encR 2 w blk off m dk os) := by
  refine ⟨rfl, rfl, rfl, ?_, fun k hk => ?_⟩
  · show w.heap.size ≤ ((w.heap.modify blk _) ++ os).size
    simp
  · show ((w.heap.modify blk _) ++ os)[k]? = _
    rw [Array.getElem?_append_left (by rw [Array.size_modify]; omega), Array.getElem?_modify, if_neg (by omega)]
open Go.Sort in
theorem holds_ow {w : World} {base n cap b : Nat} {l : List Ran} (h : Ow w base 68 (.slice (some ⟨b, 0, none⟩) n cap) l) (hn : n = l.length) : HoldsK encR 2 w b 0 l.toArray := by
  intro j hj
  subst hn
  simp only [size_flatK, List.size_toArray] at hj
  rw [get_flatK _ _ _ _ (by simpa using hj)]
  have h0 := h
  rcases h.2 with ⟨he, _⟩ | ⟨g, cap', cur, he, _, hgg, _, _, hcs, _⟩
  · cases he
  · cases he
    refine ⟨?_, by simp [World.frozen?, hgg]⟩
    rw [Nat.zero_add, World.ownsRow.cellAt h0 j (by omega)]
    have hq : j / 2 < l.length := by omega
    have hg := cellsOf_get l (j / 2) hq
    have e1 : l.toArray[j / 2]! = l.getD (j / 2) (0, 0) := by
      rw [getElem!_pos _ _ (by simpa using hq), getD_get hq]
      simp
    rw [e1]
    rcases Nat.mod_two_eq_zero_or_one j with h | h
    · have e2 : j = j / 2 * 2 := by omega
      rw [h]
      conv => lhs; rw [e2]
      rw [hg.1]
      rfl
    · have e2 : j = j / 2 * 2 + 1 := by omega
      rw [h]
      conv => lhs; rw [e2]
      rw [hg.2]
      rfl
open Go.Sort in
theorem rd_holds {w : World} {b cap : Nat} {d : Array Ran} (h : HoldsK encR 2 w b 0 d) (hc : d.size ≤ cap) : Rd w (.slice (some ⟨b, 0, none⟩) d.size cap) d.toList := by
  refine ⟨_, cap, by rw [Array.length_toList], by rw [Array.length_toList]; exact hc, fun _ => ⟨b, 0, rfl, fun i hi => ?_⟩⟩
  rw [Array.length_toList] at hi
  have e : d.toList.getD i (0, 0) = d[i]! := by
    rw [getD_get (by rw [Array.length_toList]; exact hi), getElem!_pos d i hi]
    simp
  rw [e]
  have h1 := h (i * 2) (by simp; omega)
  have h2 := h (i * 2 + 1) (by simp; omega)
  rw [get_flatK _ _ _ _ (by omega)] at h1 h2
  have q1 : i * 2 / 2 = i := by omega
  have q2 : i * 2 % 2 = 0 := by omega
  have q3 : (i * 2 + 1) / 2 = i := by omega
  have q4 : (i * 2 + 1) % 2 = 1 := by omega
  rw [q1, q2] at h1
  rw [q3, q4] at h2
  exact ⟨h1.1, h2.1⟩

set_option maxHeartbeats 1000000 in
open Go.Sort Go.Lib in
theorem sortFunc_any (b cap : Nat) (d : Array Ran) (w : World) (hH : HoldsK encR 2 w b 0 d) (hb : b < w.heap.size) (hs : d.size < 100000) :
    Calls Try.prog 70 #[.slice (some ⟨b, 0, none⟩) d.size cap, .func (.func 60) #[] #[]] w fun e w' =>
      e = .returned (.tuple #[]) ∧ ∃ d' n os, PermIn 0 d.size d d' ∧ SortedIn (ltOf lo2) 0 d.size d' ∧ w' = sortWorldK encR 2 w b 0 n d' os :=
  AnyQ.slices_SortFunc Try.sortR 2 Try.isAgg68 Try.sizeOf68 encR (fun _ => rfl) (fun x v hv => by simp [encR] at hv; rcases hv with rfl | rfl <;> rfl) lo2 swo_lo 60 #[] b 0 cap d w (enters_of Try.func60 (by kernel_rfl) rfl) (cmpLays b 0 d.size w) hH hb (by omega)

set_option maxHeartbeats 1000000 in
theorem insertion_none (w : World) : Calls Try.prog 78 #[.slice none 0 0, .int .i64 0, .int .i64 0, .func (.func 60) #[] #[]] w fun e w' => e = .returned (.tuple #[]) ∧ w = w' := by
  go_enter Try.func78, Try.ntmps78
  go_wp2
  refine wp_loop_rounds 1 ?_
  rw [rounds_succ]
  go_wp2
  go_end0
  exact ⟨rfl, rfl⟩
set_option maxHeartbeats 1000000 in
theorem len_none (w : World) : Calls Try.prog 77 #[.int .u64 0] w fun e w' => (∃ l : Int, e = .returned (.int .i64 l)) ∧ w = w' := by
  have h := Any.bits_Len (SlLaysF0.n15.bits (P := Try.prog) (ρ := Try.sortR_ren) { Try.sortR with }) 0 w (by omega) (by omega)
  exact h.mono fun e w' ⟨he, hw⟩ => ⟨⟨_, he⟩, hw.symm⟩
set_option maxHeartbeats 1000000 in
theorem pdq_none (l : Int) (w : World) : Calls Try.prog 76 #[.slice none 0 0, .int .i64 0, .int .i64 0, .int .i64 l, .func (.func 60) #[] #[]] w fun e w' => e = .returned (.tuple #[]) ∧ Below w.heap.size w w' := by
  go_enter Try.func76, Try.ntmps76
  go_wp2
  refine wp_loop_rounds 1 ?_
  rw [rounds_succ]
  go_wp2_with fail
  refine (insertion_none _).mono ?_
  rintro e w1 ⟨rfl, rfl⟩
  go_wp2
  refine bodyPost_ret (results_none rfl _ _ _) rfl ?_
  exact ⟨rfl, Below.refl _ _⟩
set_option maxHeartbeats 1000000 in
theorem sortFunc_none (w : World) : Calls Try.prog 70 #[.slice none 0 0, .func (.func 60) #[] #[]] w fun e w' => e = .returned (.tuple #[]) ∧ Below w.heap.size w w' := by
  go_enter Try.func70, Try.ntmps70
  go_wp2_with fail
  refine (len_none _).mono ?_
  rintro e w1 ⟨⟨l, rfl⟩, rfl⟩
  go_wp2_with fail
  refine (pdq_none _ _).mono ?_
  rintro e w1 ⟨rfl, hb⟩
  go_wp2
  go_end0
  exact ⟨rfl, hb⟩

open Go.Sort Go.Lib in
/-- The sort, of what is owned. -/
theorem sort_any (v : Value) (l : List Ran) (base : Nat) (w : World) (h : Ow w base 68 v l) (hb : base ≤ w.heap.size) (hl : l.length < 100000) :
    Calls Try.prog 70 #[v, .func (.func 60) #[] #[]] w fun e w' =>
      e = .returned (.tuple #[]) ∧ (∃ l', l'.Perm l ∧ l'.Pairwise (fun a b => a.1 ≤ b.1) ∧ Rd w' v l') ∧ Below base w w' := by
  have h0 := h
  rcases h.2 with ⟨rfl, hn⟩ | ⟨g, cap, cur, rfl, hg, hgg, hcap, _⟩
  · obtain rfl : l = [] := List.eq_nil_of_length_eq_zero hn
    refine (sortFunc_none w).mono ?_
    rintro e w' ⟨rfl, hbl⟩
    exact ⟨rfl, ⟨[], List.Perm.refl _, List.Pairwise.nil, (h0.rd).below hbl (Nat.le_refl _)⟩, hbl.mono hb⟩
  · have hH := holds_ow h0 rfl
    have hbl : g < w.heap.size := (Array.getElem?_eq_some_iff.1 hgg).1
    have hs : l.toArray.size = l.length := by simp
    have := sortFunc_any g cap l.toArray w hH hbl (by simpa using hl)
    rw [hs] at this
    refine this.mono ?_
    rintro e w' ⟨rfl, d', n, os, hp, hso, rfl⟩
    have hsz : d'.size = l.length := by have := hp.1; simpa using this
    refine ⟨rfl, ⟨d'.toList, ?_, ?_, ?_⟩, below_sorted w g 0 n base d' os hg hb⟩
    · have := hp.2.2
      rw [show d'.extract 0 l.length = d' by rw [← hsz]; simp, show l.toArray.extract 0 l.length = l.toArray by simp] at this
      simpa using this
    · rw [List.pairwise_iff_getElem]
      intro i j hi hj hij
      simp only [Array.length_toList] at hi hj
      have := hso i j (Nat.zero_le _) hij (by omega)
      rw [lt_lo, getElem!_pos d' i hi, getElem!_pos d' j hj] at this
      have := of_decide_eq_false this
      simp only [Array.getElem_toList]
      omega
    · have hh := holdsK_sortWorldK_c encR 2 w g 0 l.toArray d' n os hH hbl (by rw [hsz, hs])
      have := rd_holds (cap := cap) hh (by omega)
      rwa [hsz] at this
set_option maxHeartbeats 1000000 in
/-- What an iterator tells, sorted by where the ranges begin. -/
theorem sorted_any (g : Nat) (lb : Array Value) (xs : List Ran) (R : Nat → Prop) (w0 w : World) (eg : ∀ args w, (callFunc g args).run Try.prog w = .ok (.enter g args) w)
    (hit : Iter Try.prog g lb xs R w0) (hR : ∀ k, R k → k < w0.heap.size ∧ w.heap[k]? = w0.heap[k]?) (hsz : w0.heap.size ≤ w.heap.size) (hlen : xs.length < 100000) :
    Calls Try.prog 59 #[.func (.func g) #[] lb, .func (.func 60) #[] #[]] w fun e w' =>
      ∃ v l', e = .returned v ∧ l'.Perm xs ∧ l'.Pairwise (fun a b => a.1 ≤ b.1) ∧ Rd w' v l' ∧ Below w.heap.size w w' := by
  have HC := Lib.hid (collect_any g lb xs R w0 w eg hit hR hsz (by omega))
  clear hit hR
  go_enter Try.func59, Try.ntmps59
  go_wp2_with fail
  refine HC.out.mono ?_
  rintro e w1 ⟨v, rfl, h1, h2⟩
  have hz := h2.size
  have HS := Lib.hid (sort_any v xs w.heap.size w1 h1 hz hlen)
  have H2 := Lib.hid h2
  obtain ⟨a, cap, rfl⟩ := h1.form
  clear h1 h2
  go_wp2_with fail
  refine HS.out.mono ?_
  rintro e w2 ⟨rfl, ⟨l', p1, p2, p3⟩, h3⟩
  have H3 := Lib.hid h3
  have P1 := Lib.hid p1
  have P2 := Lib.hid p2
  have P3 := Lib.hid p3
  clear h3 p1 p2 p3
  go_wp2
  go_ret
  exact ⟨_, l', rfl, P1.out, P2.out, P3.out, H2.out.trans H3.out⟩
end Go.Proofs.Ytedijfcagkedaaa.Rg
