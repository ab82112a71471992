/- slices.SortFunc at the program's ranges: the library's contract, laid at the program's own numbers. · The walks of layer 3: what is collected, and sorted. · Layer 14: parts sorted by where they begin. After layer 3's sort. · The walk of layer 3's Of. · The walks of layer 3: Gaps, Has, Count. · The walks of layer 3: Cut, Meet. -/
import Derived.Shelf.SlSortCmp.WholeK
import Derived.Test.YtoblmhpjendbfaaGreatDoorProg
import Derived.Test.YtoblmhpjendbfaaGreatDoorJb05
import Derived.Test.YtoblmhpjendbfaaGreatDoorJb06
import Derived.Deep.QuietTactic
import Derived.BigQuiet
import Derived.RegionTactic
namespace Go.Proofs
set_option maxRecDepth 20000
open Go.Shelf
def Tryz.sortR_ren : Go.Shelf.Ren := ⟨fun | 6 => 198 | 14 => 216 | 15 => 164 | 20 => 218 | 21 => 219 | 22 => 220 | 23 => 221 | 24 => 222 | 25 => 223 | 26 => 224 | 27 => 225 | 28 => 190 | 29 => 191 | 46 => 226 | 47 => 209 | 48 => 210 | 49 => 227 | 50 => 228 | 57 => 229 | n => n, fun | 0 => 0 | 3 => 3 | 4 => 4 | 5 => 5 | 9 => 9 | 22 => 27 | 24 => 153 | 25 => 232 | 39 => 181 | 45 => 241 | 46 => 242 | 50 => 166 | 53 => 22 | 55 => 23 | 66 => 258 | 70 => 261 | 76 => 267 | 77 => 268 | n => n, fun | n => n⟩
theorem Tryz.sortR : Go.Proofs.SlLaysF0.n6 Tryz.prog Tryz.sortR_ren := {
  mixed := by kernel_rfl
  f6 := ⟨Tryz.f198.name, by decide, Tryz.func198.trans (congrArg some (by kernel_rfl))⟩
  f14 := ⟨Tryz.f216.name, by decide, Tryz.func216.trans (congrArg some (by kernel_rfl))⟩
  f15 := Tryz.func164.trans (congrArg some (by kernel_rfl))
  f20 := ⟨Tryz.f218.name, by decide, Tryz.func218.trans (congrArg some (by kernel_rfl))⟩
  f21 := ⟨Tryz.f219.name, by decide, Tryz.func219.trans (congrArg some (by kernel_rfl))⟩
  f22 := ⟨Tryz.f220.name, by decide, Tryz.func220.trans (congrArg some (by kernel_rfl))⟩
  f23 := ⟨Tryz.f221.name, by decide, Tryz.func221.trans (congrArg some (by kernel_rfl))⟩
  f24 := ⟨Tryz.f222.name, by decide, Tryz.func222.trans (congrArg some (by kernel_rfl))⟩
  f25 := ⟨Tryz.f223.name, by decide, Tryz.func223.trans (congrArg some (by kernel_rfl))⟩
  f26 := ⟨Tryz.f224.name, by decide, Tryz.func224.trans (congrArg some (by kernel_rfl))⟩
  f27 := ⟨Tryz.f225.name, by decide, Tryz.func225.trans (congrArg some (by kernel_rfl))⟩
  f28 := Tryz.func190.trans (congrArg some (by kernel_rfl))
  f29 := Tryz.func191.trans (congrArg some (by kernel_rfl))
  f46 := ⟨Tryz.f226.name, by decide, Tryz.func226.trans (congrArg some (by kernel_rfl))⟩
  f47 := Tryz.func209.trans (congrArg some (by kernel_rfl))
  f48 := Tryz.func210.trans (congrArg some (by kernel_rfl))
  f49 := ⟨Tryz.f227.name, by decide, Tryz.func227.trans (congrArg some (by kernel_rfl))⟩
  f50 := ⟨Tryz.f228.name, by decide, Tryz.func228.trans (congrArg some (by kernel_rfl))⟩
  f57 := ⟨Tryz.f229.name, by decide, Tryz.func229.trans (congrArg some (by kernel_rfl))⟩
  t0 := Tryz.underlying0
  a0 := Tryz.isAgg0
  z0 := Tryz.sizeOf0
  v0 := Tryz.zeroValue0
  t3 := Tryz.underlying3
  a3 := Tryz.isAgg3
  z3 := Tryz.sizeOf3
  v3 := Tryz.zeroValue3
  t4 := Tryz.underlying4
  a4 := Tryz.isAgg4
  z4 := Tryz.sizeOf4
  v4 := Tryz.zeroValue4
  t5 := Tryz.underlying5
  a5 := Tryz.isAgg5
  z5 := Tryz.sizeOf5
  v5 := Tryz.zeroValue5
  t9 := Tryz.underlying9
  a9 := Tryz.isAgg9
  z9 := Tryz.sizeOf9
  v9 := Tryz.zeroValue9
  t22 := Tryz.underlying27
  a22 := Tryz.isAgg27
  z22 := Tryz.sizeOf27
  v22 := Tryz.zeroValue27
  t25 := Tryz.underlying232
  a25 := Tryz.isAgg232
  z25 := Tryz.sizeOf232
  v25 := Tryz.zeroValue232
  t39 := Tryz.underlying181
  a39 := Tryz.isAgg181
  z39 := Tryz.sizeOf181
  v39 := Tryz.zeroValue181
  t45 := Tryz.underlying241
  a45 := Tryz.isAgg241
  z45 := Tryz.sizeOf241
  v45 := Tryz.zeroValue241
  t46 := Tryz.underlying242
  a46 := Tryz.isAgg242
  z46 := Tryz.sizeOf242
  v46 := Tryz.zeroValue242
  t50 := Tryz.underlying166
  a50 := Tryz.isAgg166
  z50 := Tryz.sizeOf166
  v50 := Tryz.zeroValue166
  t53 := Tryz.underlying22
  a53 := Tryz.isAgg22
  z53 := Tryz.sizeOf22
  v53 := Tryz.zeroValue22
  t55 := Tryz.underlying23
  a55 := Tryz.isAgg23
  z55 := Tryz.sizeOf23
  v55 := Tryz.zeroValue23
  t66 := Tryz.underlying258
  a66 := Tryz.isAgg258
  z66 := Tryz.sizeOf258
  v66 := Tryz.zeroValue258
  t70 := Tryz.underlying261
  a70 := Tryz.isAgg261
  z70 := Tryz.sizeOf261
  v70 := Tryz.zeroValue261
  t76 := Tryz.underlying267
  a76 := Tryz.isAgg267
  z76 := Tryz.sizeOf267
  v76 := Tryz.zeroValue267
  t77 := Tryz.underlying268
  a77 := Tryz.isAgg268
  z77 := Tryz.sizeOf268
  v77 := Tryz.zeroValue268 }
end Go.Proofs
namespace Go.Proofs.YtoblmhpjendbfaaGreatDoor.Rg
set_option maxRecDepth 20000
open Go.RowKit Go.Shelf
set_option linter.unusedVariables false

set_option maxHeartbeats 1000000 in
theorem collect_any (g : Nat) (lb : Array Value) (xs : List Ran) (R : Nat → Prop) (w0 w : World) (eg : ∀ args w, (callFunc g args).run Tryz.prog w = .ok (.enter g args) w)
    (hit : Iter Tryz.prog g lb xs R w0) (hR : ∀ k, R k → k < w0.heap.size ∧ w.heap[k]? = w0.heap[k]?) (hsz : w0.heap.size ≤ w.heap.size) (hlen : xs.length ≤ 100000) :
    Calls Tryz.prog 166 #[.func (.func g) #[] lb] w fun e w' => ∃ v', e = .returned v' ∧ Ow w' w.heap.size 153 v' xs ∧ Below w.heap.size w w' := by
  have HC := Lib.hid (appendSeq48 none 0 0 [] w.heap.size g lb xs R w0 w eg hit hR hsz (Nat.le_refl _) (Ow.nil _ _ _) (fun k hk => by cases hk) (by simpa using hlen))
  clear hit hR
  go_enter Tryz.func166, Tryz.ntmps166
  go_wp2_with fail
  refine HC.out.mono ?_
  rintro e w1 ⟨v', rfl, h1, h2, h3⟩
  have H1 := Lib.hid h1
  have H2 := Lib.hid h2
  clear h1 h2 h3
  go_wp2
  go_ret
  exact ⟨v', rfl, by have := H1.out; rwa [List.nil_append] at this, H2.out.below (Nat.le_refl _) (fun k hk => by cases hk)⟩

/-! ### The sort -/
def encR (x : Ran) : List Value := [.int .u64 x.1, .int .u64 x.2]
def lo2 (x y : Ran) : Int := cv x.1 y.1
open Go.Sort Go.Lib in
theorem lt_lo (x y : Ran) : ltOf lo2 x y = decide (x.1 < y.1) := by
  unfold ltOf lo2
  by_cases h : x.1 < y.1
  · rw [decide_eq_true h, decide_eq_true (cv_neg.2 h)]
  · rw [decide_eq_false h, decide_eq_false (fun h' => h (cv_neg.1 h'))]
open Go.Sort Go.Lib in
theorem swo_lo : SWO (ltOf lo2) where
  irrefl x := by rw [lt_lo]; simp
  trans x y z h1 h2 := by rw [lt_lo] at *; simp at *; omega
  ntrans x y z h1 h2 := by rw [lt_lo] at *; simp at *; omega
open Go.Sort Go.Lib in
theorem cmpLays (blk off size : Nat) (w : World) : CmpLays Tryz.prog 174 #[] encR 2 lo2 blk off size w := by
  intro m os dk hs x y
  refine (cmpLo_any x.1 x.2 y.1 y.2 _).mono ?_
  rintro e w' ⟨rfl, rfl⟩
  exact ⟨rfl, 0, _, by rw [alloc_eq_grow, alloc_eq_grow, grow_grow]; rfl⟩
open Go.Sort in
theorem below_sorted (w : World) (blk off m n : Nat) (dk : Array Ran) (os : Array Obj) (h1 : n ≤ blk) (h2 : n ≤ w.heap.size) : Below n w (sortWorldK encR 2 w blk off m dk os) := by
  refine ⟨rfl, rfl, rfl, ?_, fun k hk => ?_⟩
  · show w.heap.size ≤ ((w.heap.modify blk _) ++ os).size
    simp
  · show ((w.heap.modify blk _) ++ os)[k]? = _
    rw [Array.getElem?_append_left (by rw [Array.size_modify]; omega), Array.getElem?_modify, if_neg (by omega)]
open Go.Sort in
theorem holds_ow {w : World} {base n cap b : Nat} {l : List Ran} (h : Ow w base 153 (.slice (some ⟨b, 0, none⟩) n cap) l) (hn : n = l.length) : HoldsK encR 2 w b 0 l.toArray := by
  intro j hj
  subst hn
  simp only [size_flatK, List.size_toArray] at hj
  rw [get_flatK _ _ _ _ (by simpa using hj)]
  have h0 := h
  rcases h.2 with ⟨he, _⟩ | ⟨g, cap', cur, he, _, hgg, _, _, hcs, _⟩
  · cases he
  · cases he
    refine ⟨?_, by simp [World.frozen?, hgg]⟩
    rw [Nat.zero_add, World.ownsRow.cellAt h0 j (by omega)]
    have hq : j / 2 < l.length := by omega
    have hg := cellsOf_get l (j / 2) hq
    have e1 : l.toArray[j / 2]! = l.getD (j / 2) (0, 0) := by
      rw [getElem!_pos _ _ (by simpa using hq), getD_get hq]
      simp
    rw [e1]
    rcases Nat.mod_two_eq_zero_or_one j with h | h
    · have e2 : j = j / 2 * 2 := by omega
      rw [h]
      conv => lhs; rw [e2]
      rw [hg.1]
      rfl
    · have e2 : j = j / 2 * 2 + 1 := by omega
      rw [h]
      conv => lhs; rw [e2]
      rw [hg.2]
      rfl
open Go.Sort in
theorem rd_holds {w : World} {b cap : Nat} {d : Array Ran} (h : HoldsK encR 2 w b 0 d) (hc : d.size ≤ cap) : Rd w (.slice (some ⟨b, 0, none⟩) d.size cap) d.toList := by
  refine ⟨_, cap, by rw [Array.length_toList], by rw [Array.length_toList]; exact hc, fun _ => ⟨b, 0, rfl, fun i hi => ?_⟩⟩
  rw [Array.length_toList] at hi
  have e : d.toList.getD i (0, 0) = d[i]! := by
    rw [getD_get (by rw [Array.length_toList]; exact hi), getElem!_pos d i hi]
    simp
  rw [e]
  have h1 := h (i * 2) (by simp; omega)
  have h2 := h (i * 2 + 1) (by simp; omega)
  rw [get_flatK _ _ _ _ (by omega)] at h1 h2
  have q1 : i * 2 / 2 = i := by omega
  have q2 : i * 2 % 2 = 0 := by omega
  have q3 : (i * 2 + 1) / 2 = i := by omega
  have q4 : (i * 2 + 1) % 2 = 1 := by omega
  rw [q1, q2] at h1
  rw [q3, q4] at h2
  exact ⟨h1.1, h2.1⟩

set_option maxHeartbeats 1000000 in
open Go.Sort Go.Lib in
theorem sortFunc_any (b cap : Nat) (d : Array Ran) (w : World) (hH : HoldsK encR 2 w b 0 d) (hb : b < w.heap.size) (hs : d.size < 100000) :
    Calls Tryz.prog 198 #[.slice (some ⟨b, 0, none⟩) d.size cap, .func (.func 174) #[] #[]] w fun e w' =>
      e = .returned (.tuple #[]) ∧ ∃ d' n os, PermIn 0 d.size d d' ∧ SortedIn (ltOf lo2) 0 d.size d' ∧ w' = sortWorldK encR 2 w b 0 n d' os :=
  AnyQ.slices_SortFunc Tryz.sortR 2 Tryz.isAgg153 Tryz.sizeOf153 encR (fun _ => rfl) (fun x v hv => by simp [encR] at hv; rcases hv with rfl | rfl <;> rfl) lo2 swo_lo 174 #[] b 0 cap d w (enters_of Tryz.func174 (by kernel_rfl) rfl) (cmpLays b 0 d.size w) hH hb (by omega)

set_option maxHeartbeats 1000000 in
theorem insertion_none (w : World) : Calls Tryz.prog 218 #[.slice none 0 0, .int .i64 0, .int .i64 0, .func (.func 174) #[] #[]] w fun e w' => e = .returned (.tuple #[]) ∧ w = w' := by
  go_enter Tryz.func218, Tryz.ntmps218
  go_wp2
  refine wp_loop_rounds 1 ?_
  rw [rounds_succ]
  go_wp2
  go_end0
  exact ⟨rfl, rfl⟩
set_option maxHeartbeats 1000000 in
theorem len_none (w : World) : Calls Tryz.prog 164 #[.int .u64 0] w fun e w' => (∃ l : Int, e = .returned (.int .i64 l)) ∧ w = w' := by
  have h := Any.bits_Len (SlLaysF0.n15.bits (P := Tryz.prog) (ρ := Tryz.sortR_ren) { Tryz.sortR with }) 0 w (by omega) (by omega)
  exact h.mono fun e w' ⟨he, hw⟩ => ⟨⟨_, he⟩, hw.symm⟩
set_option maxHeartbeats 1000000 in
theorem pdq_none (l : Int) (w : World) : Calls Tryz.prog 216 #[.slice none 0 0, .int .i64 0, .int .i64 0, .int .i64 l, .func (.func 174) #[] #[]] w fun e w' => e = .returned (.tuple #[]) ∧ Below w.heap.size w w' := by
  go_enter Tryz.func216, Tryz.ntmps216
  go_wp2
  refine wp_loop_rounds 1 ?_
  rw [rounds_succ]
  go_wp2_with fail
  refine (insertion_none _).mono ?_
  rintro e w1 ⟨rfl, rfl⟩
  go_wp2
  refine bodyPost_ret (results_none rfl _ _ _) rfl ?_
  exact ⟨rfl, Below.refl _ _⟩
set_option maxHeartbeats 1000000 in
theorem sortFunc_none (w : World) : Calls Tryz.prog 198 #[.slice none 0 0, .func (.func 174) #[] #[]] w fun e w' => e = .returned (.tuple #[]) ∧ Below w.heap.size w w' := by
  go_enter Tryz.func198, Tryz.ntmps198
  go_wp2_with fail
  refine (len_none _).mono ?_
  rintro e w1 ⟨⟨l, rfl⟩, rfl⟩
  go_wp2_with fail
  refine (pdq_none _ _).mono ?_
  rintro e w1 ⟨rfl, hb⟩
  go_wp2
  go_end0
  exact ⟨rfl, hb⟩

open Go.Sort Go.Lib in
/-- The sort, of what is owned. -/
theorem sort_any (v : Value) (l : List Ran) (base : Nat) (w : World) (h : Ow w base 153 v l) (hb : base ≤ w.heap.size) (hl : l.length < 100000) :
    Calls Tryz.prog 198 #[v, .func (.func 174) #[] #[]] w fun e w' =>
      e = .returned (.tuple #[]) ∧ (∃ l', l'.Perm l ∧ l'.Pairwise (fun a b => a.1 ≤ b.1) ∧ Rd w' v l') ∧ Below base w w' := by
  have h0 := h
  rcases h.2 with ⟨rfl, hn⟩ | ⟨g, cap, cur, rfl, hg, hgg, hcap, _⟩
  · obtain rfl : l = [] := List.eq_nil_of_length_eq_zero hn
    refine (sortFunc_none w).mono ?_
    rintro e w' ⟨rfl, hbl⟩
    exact ⟨rfl, ⟨[], List.Perm.refl _, List.Pairwise.nil, (h0.rd).below hbl (Nat.le_refl _)⟩, hbl.mono hb⟩
  · have hH := holds_ow h0 rfl
    have hbl : g < w.heap.size := (Array.getElem?_eq_some_iff.1 hgg).1
    have hs : l.toArray.size = l.length := by simp
    have := sortFunc_any g cap l.toArray w hH hbl (by simpa using hl)
    rw [hs] at this
    refine this.mono ?_
    rintro e w' ⟨rfl, d', n, os, hp, hso, rfl⟩
    have hsz : d'.size = l.length := by have := hp.1; simpa using this
    refine ⟨rfl, ⟨d'.toList, ?_, ?_, ?_⟩, below_sorted w g 0 n base d' os hg hb⟩
    · have := hp.2.2
      rw [show d'.extract 0 l.length = d' by rw [← hsz]; simp, show l.toArray.extract 0 l.length = l.toArray by simp] at this
      simpa using this
    · rw [List.pairwise_iff_getElem]
      intro i j hi hj hij
      simp only [Array.length_toList] at hi hj
      have := hso i j (Nat.zero_le _) hij (by omega)
      rw [lt_lo, getElem!_pos d' i hi, getElem!_pos d' j hj] at this
      have := of_decide_eq_false this
      simp only [Array.getElem_toList]
      omega
    · have hh := holdsK_sortWorldK_c encR 2 w g 0 l.toArray d' n os hH hbl (by rw [hsz, hs])
      have := rd_holds (cap := cap) hh (by omega)
      rwa [hsz] at this
set_option maxHeartbeats 1000000 in
/-- What an iterator tells, sorted by where the ranges begin. -/
theorem sorted_any (g : Nat) (lb : Array Value) (xs : List Ran) (R : Nat → Prop) (w0 w : World) (eg : ∀ args w, (callFunc g args).run Tryz.prog w = .ok (.enter g args) w)
    (hit : Iter Tryz.prog g lb xs R w0) (hR : ∀ k, R k → k < w0.heap.size ∧ w.heap[k]? = w0.heap[k]?) (hsz : w0.heap.size ≤ w.heap.size) (hlen : xs.length < 100000) :
    Calls Tryz.prog 172 #[.func (.func g) #[] lb, .func (.func 174) #[] #[]] w fun e w' =>
      ∃ v l', e = .returned v ∧ l'.Perm xs ∧ l'.Pairwise (fun a b => a.1 ≤ b.1) ∧ Rd w' v l' ∧ Below w.heap.size w w' := by
  have HC := Lib.hid (collect_any g lb xs R w0 w eg hit hR hsz (by omega))
  clear hit hR
  go_enter Tryz.func172, Tryz.ntmps172
  go_wp2_with fail
  refine HC.out.mono ?_
  rintro e w1 ⟨v, rfl, h1, h2⟩
  have hz := h2.size
  have HS := Lib.hid (sort_any v xs w.heap.size w1 h1 hz hlen)
  have H2 := Lib.hid h2
  obtain ⟨a, cap, rfl⟩ := h1.form
  clear h1 h2
  go_wp2_with fail
  refine HS.out.mono ?_
  rintro e w2 ⟨rfl, ⟨l', p1, p2, p3⟩, h3⟩
  have H3 := Lib.hid h3
  have P1 := Lib.hid p1
  have P2 := Lib.hid p2
  have P3 := Lib.hid p3
  clear h3 p1 p2 p3
  go_wp2
  go_ret
  exact ⟨_, l', rfl, P1.out, P2.out, P3.out, H2.out.trans H3.out⟩
end Go.Proofs.YtoblmhpjendbfaaGreatDoor.Rg
namespace Go.Proofs.YtoblmhpjendbfaaGreatDoor.Rg.Gt
set_option maxRecDepth 20000
open Go.RowKit Go.Shelf
set_option linter.unusedVariables false
set_option linter.unusedSimpArgs false

set_option maxHeartbeats 400000 in
theorem cmpG_any (lo lo2 : Int) (d d2 : ByteArray) (w : World) : Calls Tryz.prog 136 #[.agg #[.int .u64 lo, .string d], .agg #[.int .u64 lo2, .string d2]] w fun e w' => e = .returned (.int .i64 (cv lo lo2)) ∧ w' = (w.alloc (.cells #[.int .u64 lo, .string d] 137)).alloc (.cells #[.int .u64 lo2, .string d2] 137) := by
  go_enter Tryz.func136, Tryz.ntmps136
  go_wp2_with (go_at_call 137; refine (compare_any _ _ _).mono ?_; rintro e w1 ⟨rfl, rfl⟩)
  go_ret
  exact ⟨rfl, rfl⟩
open Go.Sort Go.Lib in
theorem cmpLaysG (T : ByteArray) (blk off size : Nat) (w : World) : CmpLays Tryz.prog 136 #[] (gcs T) 2 lo2 blk off size w := by
  intro m os dk hs x y
  refine (cmpG_any x.1 y.1 (bt T x) (bt T y) _).mono ?_
  rintro e w' ⟨rfl, rfl⟩
  exact ⟨rfl, 0, _, by rw [alloc_eq_grow, alloc_eq_grow, grow_grow]; rfl⟩
open Go.Sort in
theorem below_sortedG (T : ByteArray) (w : World) (blk off m n : Nat) (dk : Array Ran) (os : Array Obj) (h1 : n ≤ blk) (h2 : n ≤ w.heap.size) : Below n w (sortWorldK (gcs T) 2 w blk off m dk os) := by
  refine ⟨rfl, rfl, rfl, ?_, fun k hk => ?_⟩
  · show w.heap.size ≤ ((w.heap.modify blk _) ++ os).size
    simp
  · show ((w.heap.modify blk _) ++ os)[k]? = _
    rw [Array.getElem?_append_left (by rw [Array.size_modify]; omega), Array.getElem?_modify, if_neg (by omega)]
open Go.Sort in
theorem holds_ownG {T : ByteArray} {w : World} {base n cap b : Nat} {l : List Ran} (h : OwnG 137 w base (.slice (some ⟨b, 0, none⟩) n cap) T l) (hn : n = l.length) : HoldsK (gcs T) 2 w b 0 l.toArray := by
  intro j hj
  subst hn
  simp only [size_flatK, List.size_toArray] at hj
  rw [get_flatK _ _ _ _ (by simpa using hj)]
  have h0 := h
  rcases h.2 with ⟨he, _⟩ | ⟨g, cap', cur, he, _, hgg, _, _, hcs, _⟩
  · cases he
  · cases he
    refine ⟨?_, by simp [World.frozen?, hgg]⟩
    have hlen := flatG_len T l
    rw [Nat.zero_add, World.ownsRow.cellAt h0 j (by omega)]
    have hq : j / 2 < l.length := by omega
    have hg := flatG_get T l (j / 2) (j % 2) hq (by omega)
    have e1 : l.toArray[j / 2]! = l.getD (j / 2) (0, 0) := by
      rw [getElem!_pos _ _ (by simpa using hq), getD_get hq]
      simp
    rw [e1]
    rw [show j / 2 * 2 + j % 2 = j by omega] at hg
    rw [hg]
    rcases Nat.mod_two_eq_zero_or_one j with h | h <;> rw [h] <;> rfl
open Go.Sort in
theorem rowG_holds {T : ByteArray} {w : World} {b cap : Nat} {d : Array Ran} (h : HoldsK (gcs T) 2 w b 0 d) (hc : d.size ≤ cap) (hb : b < w.heap.size) : RowG w (.slice (some ⟨b, 0, none⟩) d.size cap) T d.toList := by
  refine ⟨_, cap, by rw [Array.length_toList], by rw [Array.length_toList]; exact hc, fun _ => ⟨b, 0, rfl, hb, fun i hi j hj => ?_⟩⟩
  rw [Array.length_toList] at hi
  have e : d.toList.getD i (0, 0) = d[i]! := by
    rw [getD_get (by rw [Array.length_toList]; exact hi), getElem!_pos d i hi]
    simp
  rw [e]
  have h1 := h (i * 2 + j) (by simp; omega)
  rw [get_flatK _ _ _ _ (by omega)] at h1
  rw [show (i * 2 + j) / 2 = i by omega, show (i * 2 + j) % 2 = j by omega] at h1
  have h2 := h1.1
  rw [h2]
  have : j = 0 ∨ j = 1 := by omega
  rcases this with rfl | rfl <;> rfl

set_option maxHeartbeats 1000000 in
open Go.Sort Go.Lib in
theorem sortFuncG_any (T : ByteArray) (b cap : Nat) (d : Array Ran) (w : World) (hH : HoldsK (gcs T) 2 w b 0 d) (hb : b < w.heap.size) (hs : d.size < 100000) :
    Calls Tryz.prog 135 #[.slice (some ⟨b, 0, none⟩) d.size cap, .func (.func 136) #[] #[]] w fun e w' =>
      e = .returned (.tuple #[]) ∧ ∃ d' n os, PermIn 0 d.size d d' ∧ SortedIn (ltOf lo2) 0 d.size d' ∧ w' = sortWorldK (gcs T) 2 w b 0 n d' os :=
  AnyQ.slices_SortFunc Tryz.sortG 2 Tryz.isAgg137 Tryz.sizeOf137 (gcs T) (fun _ => rfl) (fun x v hv => by simp [gcs] at hv; rcases hv with rfl | rfl <;> rfl) lo2 swo_lo 136 #[] b 0 cap d w (enters_of Tryz.func136 (by kernel_rfl) rfl) (cmpLaysG T b 0 d.size w) hH hb (by omega)

set_option maxHeartbeats 1000000 in
theorem insertionG_none (w : World) : Calls Tryz.prog 182 #[.slice none 0 0, .int .i64 0, .int .i64 0, .func (.func 136) #[] #[]] w fun e w' => e = .returned (.tuple #[]) ∧ w = w' := by
  go_enter Tryz.func182, Tryz.ntmps182
  go_wp2
  refine wp_loop_rounds 1 ?_
  rw [rounds_succ]
  go_wp2
  go_end0
  exact ⟨rfl, rfl⟩
set_option maxHeartbeats 1000000 in
theorem pdqG_none (l : Int) (w : World) : Calls Tryz.prog 163 #[.slice none 0 0, .int .i64 0, .int .i64 0, .int .i64 l, .func (.func 136) #[] #[]] w fun e w' => e = .returned (.tuple #[]) ∧ Below w.heap.size w w' := by
  go_enter Tryz.func163, Tryz.ntmps163
  go_wp2
  refine wp_loop_rounds 1 ?_
  rw [rounds_succ]
  go_wp2_with fail
  refine (insertionG_none _).mono ?_
  rintro e w1 ⟨rfl, rfl⟩
  go_wp2
  refine bodyPost_ret (results_none rfl _ _ _) rfl ?_
  exact ⟨rfl, Below.refl _ _⟩
set_option maxHeartbeats 1000000 in
theorem sortFuncG_none (w : World) : Calls Tryz.prog 135 #[.slice none 0 0, .func (.func 136) #[] #[]] w fun e w' => e = .returned (.tuple #[]) ∧ Below w.heap.size w w' := by
  go_enter Tryz.func135, Tryz.ntmps135
  go_wp2_with fail
  refine (len_none _).mono ?_
  rintro e w1 ⟨⟨l, rfl⟩, rfl⟩
  go_wp2_with fail
  refine (pdqG_none _ _).mono ?_
  rintro e w1 ⟨rfl, hb⟩
  go_wp2
  go_end0
  exact ⟨rfl, hb⟩

open Go.Sort Go.Lib in
/-- The sort, of what is owned. -/
theorem sortG_any (T : ByteArray) (v : Value) (l : List Ran) (base : Nat) (w : World) (h : OwnG 137 w base v T l) (hb : base ≤ w.heap.size) (hl : l.length < 100000) :
    Calls Tryz.prog 135 #[v, .func (.func 136) #[] #[]] w fun e w' =>
      e = .returned (.tuple #[]) ∧ (∃ l', l'.Perm l ∧ l'.Pairwise (fun a b => a.1 ≤ b.1) ∧ RowG w' v T l') ∧ Below base w w' := by
  have h0 := h
  rcases h.2 with ⟨rfl, hn⟩ | ⟨g, cap, cur, rfl, hg, hgg, hcap, _⟩
  · obtain rfl : l = [] := List.eq_nil_of_length_eq_zero hn
    refine (sortFuncG_none w).mono ?_
    rintro e w' ⟨rfl, hbl⟩
    exact ⟨rfl, ⟨[], List.Perm.refl _, List.Pairwise.nil, (h0.row).go hbl⟩, hbl.mono hb⟩
  · have hH := holds_ownG h0 rfl
    have hbl : g < w.heap.size := (Array.getElem?_eq_some_iff.1 hgg).1
    have hs : l.toArray.size = l.length := by simp
    have := sortFuncG_any T g cap l.toArray w hH hbl (by simpa using hl)
    rw [hs] at this
    refine this.mono ?_
    rintro e w' ⟨rfl, d', n, os, hp, hso, rfl⟩
    have hsz : d'.size = l.length := by have := hp.1; simpa using this
    have hbw := below_sortedG T w g 0 n base d' os hg hb
    refine ⟨rfl, ⟨d'.toList, ?_, ?_, ?_⟩, hbw⟩
    · have := hp.2.2
      rw [show d'.extract 0 l.length = d' by rw [← hsz]; simp, show l.toArray.extract 0 l.length = l.toArray by simp] at this
      simpa using this
    · rw [List.pairwise_iff_getElem]
      intro i j hi hj hij
      simp only [Array.length_toList] at hi hj
      have := hso i j (Nat.zero_le _) hij (by omega)
      rw [lt_lo, getElem!_pos d' i hi, getElem!_pos d' j hj] at this
      have := of_decide_eq_false this
      simp only [Array.getElem_toList]
      omega
    · have hh := holdsK_sortWorldK_c (gcs T) 2 w g 0 l.toArray d' n os hH hbl (by rw [hsz, hs])
      have := rowG_holds (T := T) (cap := cap) hh (by omega) (Nat.lt_of_lt_of_le hbl hbw.size)
      rwa [hsz] at this
end Go.Proofs.YtoblmhpjendbfaaGreatDoor.Rg.Gt
namespace Go.Proofs.YtoblmhpjendbfaaGreatDoor.Rg
set_option maxRecDepth 20000
open Go.RowKit Go.Shelf
set_option linter.unusedVariables false

/-- A cell of an owned row, written. -/
theorem owns_set {w : World} {base g n cap : Nat} {e : TypeId} {size : Nat} {xs : List Value} (h : w.ownsRow base e size (.slice (some ⟨g, 0, none⟩) n cap) n xs) {i : Nat} (hi : i < n * size) (v : Value) :
    (w.setCell ⟨g, i, none⟩ v).ownsRow base e size (.slice (some ⟨g, 0, none⟩) n cap) n (xs.set i v) := by
  refine ⟨by rw [List.length_set]; exact h.1, ?_⟩
  rcases h.2 with ⟨he, _⟩ | ⟨g', cap', cur, he, hb, hg, h1, h2, h3, h4⟩
  · cases he
  · cases he
    refine .inr ⟨g, cap, cur.setIfInBounds i v, rfl, hb, ?_, h1, h2, by simpa using h3, ?_⟩
    · obtain ⟨hlt, hk⟩ := Array.getElem?_eq_some_iff.1 hg
      show (w.heap.modify g _)[g]? = _
      rw [Array.getElem?_eq_getElem (by rw [Array.size_modify]; exact hlt), Array.getElem_modify_self, hk]
      rfl
    · rw [Array.toList_setIfInBounds, List.take_set, h4]
theorem cellsOf_set (t : List Ran) (x : Ran) (v : Int) : (cellsOf (t ++ [x])).set (t.length * 2 + 1) (.int .u64 v) = cellsOf (t ++ [(x.1, v)]) := by
  rw [cellsOf_append, cellsOf_append, List.set_append_right _ _ (by rw [cellsOf_length]; omega), cellsOf_length]
  have e : t.length * 2 + 1 - t.length * 2 = 1 := by omega
  rw [e]
  rfl

theorem join_len (s : List Ran) (r : Ran) : (join s r).length ≤ s.length + 1 := by
  unfold join
  split
  · split
    · simp
    · simp
  · simp
theorem joins_len : ∀ (l s : List Ran), (l.foldl join s).length ≤ s.length + l.length
  | [], s => by simp
  | r :: l, s => by
    have h1 := joins_len l (join s r)
    have h2 := join_len s r
    rw [List.foldl_cons, List.length_cons]
    omega
theorem join_snoc (t : List Ran) (y r : Ran) : join (t ++ [y]) r = if r.1 ≤ y.2 + 1 then t ++ [(y.1, max y.2 r.2)] else t ++ [y] ++ [r] := by
  unfold join; rw [List.getLast?_concat]; simp
theorem _root_.Go.World.ownsRow.of_only {w w' : World} {base : Nat} {e : TypeId} {size n : Nat} {v : Value} {xs : List Value} (h : w.ownsRow base e size v n xs) {O : Nat → Prop} (ho : Only O w w') (hn : ∀ k, O k → False) : w'.ownsRow base e size v n xs := by
  refine ⟨h.1, ?_⟩
  rcases h.2 with h2 | ⟨g, cap, cur, rfl, hb, hgg, rest⟩
  · exact .inl h2
  · exact .inr ⟨g, cap, cur, rfl, hb, ho.heap hgg (hn g), rest⟩
theorem below_drewN {B : Nat} {a w : World} (h : Below B a w) (n : Nat) : Below B a (w.drewN n) := h.trans ⟨rfl, rfl, rfl, Nat.le_refl _, fun _ _ => rfl⟩
theorem only_drewN (O : Nat → Prop) (A : World) (n : Nat) : Only O A (A.drewN n) := ⟨rfl, rfl, rfl, Nat.le_refl _, fun _ _ _ => rfl⟩
theorem take_pair {l : List Ran} (h : l.Pairwise (fun a b => a.1 ≤ b.1)) (k : Nat) : (l.take k).Pairwise (fun a b => a.1 ≤ b.1) := h.sublist (List.take_sublist k l)

def OfRel (l : List Ran) (w1 : World) (n : Nat) (sv iv : Value) (wr : World) : Prop :=
  ∃ k : Nat, k ≤ n ∧ iv = .int .i64 k ∧ Ow wr w1.heap.size 153 sv ((l.take k).foldl join []) ∧ Below w1.heap.size w1 wr

set_option maxHeartbeats 2000000 in
theorem of_loop (a : Option Addr) (n cap : Nat) (l : List Ran) (hl : l.length ≤ 1000) (hgood : ∀ x ∈ l, 0 ≤ x.1 ∧ x.2 < 9223372036854775808) (w : World) (hrd : Rd w (.slice a n cap) l) :
    Calls Tryz.prog 148 #[.slice a n cap] w fun e w' => ∃ v l', e = .returned v ∧ Can l' ∧ (∀ n, mem l' n ↔ mem l n) ∧ l'.length ≤ l.length ∧ Rd w' v l' ∧ Below w.heap.size w w' := by
  have HG := Lib.hid hgood
  have HRD := Lib.hid hrd
  clear hgood hrd
  obtain ⟨i0, hi, hz0, hz1, hz2⟩ := info_parts infoR
  have hz1 := Lib.hid hz1; have hz2 := Lib.hid hz2; have hz0 := Lib.hid hz0; have hi := Lib.hid hi
  go_enter Tryz.func148, Tryz.ntmps148
  go_wp2_with fail
  refine (walk_any _ _ _ _).mono ?_
  rintro e w1 ⟨rfl, rfl⟩
  have HIT := Lib.hid (walk_iter w.heap.size (.slice a n cap) l (w.alloc (.cells #[.slice a n cap] 27)) hl (by simp [go_sem]) (HRD.out.below ((Below.refl w.heap.size _).alloc (Nat.le_refl _) _) (Nat.le_refl _)))
  have HS := Lib.hid (sorted_any _ _ _ _ _ (w.alloc (.cells #[.slice a n cap] 27)) (enters_of Tryz.func199 (by kernel_rfl) rfl) HIT.out (fun q hq => ⟨by
    rcases hq with rfl | hq
    · simp
    · have := HRD.out.blk hq; simp; omega, rfl⟩) (Nat.le_refl _) (by have := List.length_filter_le (fun b => decide (ok b)) l; omega))
  go_wp2_with fail
  refine HS.out.mono ?_
  rintro e w2 ⟨v, l', rfl, p1, p2, p3, h3⟩
  clear HS HIT
  have hll : l'.length ≤ l.length := by rw [p1.length_eq]; exact List.length_filter_le _ _
  have hgd : ∀ x ∈ l', 0 ≤ x.1 ∧ x.1 ≤ x.2 ∧ x.2 < 9223372036854775808 := fun x hx => by
    obtain ⟨h1, h2⟩ := List.mem_filter.1 (p1.mem_iff.1 hx)
    have := HG.out x h1
    exact ⟨this.1, of_decide_eq_true h2, this.2⟩
  have HGD := Lib.hid hgd
  have P2 := Lib.hid p2
  have P1 := Lib.hid p1
  have H3 := Lib.hid h3
  have hz := h3.size
  obtain ⟨a2, cap2, rfl, hcap2, hrow⟩ := p3
  have HROW := Lib.hid hrow
  clear p1 p2 h3 hgd hrow
  generalize hm : l'.length = m at *
  have HM := Lib.hid hm
  go_wp2_with fail
  go_loopw [3, 5, 6, 11] (fun sv _ _ iv wr => OfRel l' w2 m sv iv wr) (fun _ _ _ iv _ => m - (intOf iv).toNat)
  case atStart => exact ⟨0, Nat.zero_le _, rfl, Ow.nil _ _ _, Below.refl _ _⟩
  case round =>
    obtain ⟨k, hk, rfl, hown, hb⟩ := hrel
    have HOW := Lib.hid hown
    have HB := Lib.hid hb
    have hsz := hb.size
    clear hown hb
    by_cases hlt : k < m
    · obtain ⟨b, off, rfl, hc⟩ := HROW.out (fun e => by rw [e] at hm; simp at hm; omega)
      have hc1 := cell_below HB.out (hc k hlt).1 (World.block_lt_of_cell? w2 _ (hc k hlt).1)
      have hc2 := cell_below HB.out (hc k hlt).2 (World.block_lt_of_cell? w2 _ (hc k hlt).2)
      have hgx := HGD.out (l'.getD k (0, 0)) (by rw [getD_get (by omega)]; exact List.getElem_mem _)
      have HT := Lib.hid (take_succ_getD l' (0, 0) (by omega : k < l'.length))
      clear hc
      generalize l'.getD k (0, 0) = x at *
      obtain ⟨lo, hj1⟩ := x
      obtain ⟨S, hS⟩ : ∃ S, (l'.take k).foldl join [] = S := ⟨_, rfl⟩
      have hS2 : Hid ((l'.take (k + 1)).foldl join [] = join S (lo, hj1)) := Lib.hid (by rw [HT.out, List.foldl_append, hS]; rfl)
      have hcan : Hid (Can S ∧ S.length ≤ k) := Lib.hid (by
        have h1 := joins_can (l'.take k) [] Can.nil (fun r hr => HGD.out r (List.mem_of_mem_take hr)) (take_pair P2.out k) (fun x hx => by cases hx)
        have h2 := joins_len (l'.take k) []
        rw [hS] at h1 h2
        rw [List.length_take] at h2
        exact ⟨h1.1, by simp at h2; omega⟩)
      rw [hS] at HOW
      clear hS HT
      rcases List.eq_nil_or_concat S with rfl | ⟨t, y, rfl⟩
      · obtain ⟨a3, cap3, rfl⟩ := HOW.out.form
        have hown2 : Hid ((wr.alloc (.cells #[.int .u64 lo, .int .u64 hj1] 153)).ownsRow w2.heap.size 153 2 (.slice a3 0 cap3) 0 []) := Lib.hid (World.ownsRow.alloc HOW.out _)
        have hlt3 : Hid (∀ j, (Value.slice a3 0 cap3).ownBlock = some j → w2.heap.size ≤ j) := Lib.hid (fun j hj => (World.ownsRow.lt HOW.out j hj).1)
        have hbx := Lib.hid (HB.out.alloc hsz (.cells #[.int .u64 lo, .int .u64 hj1] 153))
        clear HROW HGD
        go_wp2_with fail
        go_quiet (fail)
        rename_i nq
        have hown3 : Hid (((wr.alloc (.cells #[.int .u64 lo, .int .u64 hj1] 153)).drewN nq).ownsRow w2.heap.size 153 2 (.slice a3 0 cap3) 0 []) := Lib.hid (Ow.only (l := []) hown2.out (only_drewN (fun _ => False) _ _) (fun _ _ h => h))
        have hby := Lib.hid (below_drewN hbx.out nq)
        go_wp2_with (at_builtin; refine wpList_append_own _ rfl _ _ 28 rfl w2.heap.size 153 i0 (.agg #[.int .u64 0, .int .u64 0]) 2 16 Tryz.underlying28 hi.out hz0.out hz1.out hz2.out rfl (by decide) (.slice a3 0 cap3) _ _ rfl (World.ownsRow.alloc hown3.out _) ⟨wr.heap.size + 1, 0, none⟩ 1 1 [.int .u64 lo, .int .u64 hj1] rfl rfl ?c1 ?c2 ?c3 ?c4 ?c5 ?_)
        case c1 =>
          have h := cell_two_new ((wr.alloc (.cells #[.int .u64 lo, .int .u64 hj1] 153)).drewN nq) (.int .u64 lo) (.int .u64 hj1) 153
          simpa using h
        case c2 => intro u hu; simp at hu; rcases hu with rfl | rfl <;> rfl
        case c3 => unfold maxLen; omega
        case c4 => omega
        case c5 => simp; omega
        intro v' w3 hown' hgrow _
        have hb3 : Hid (Below w2.heap.size w2 w3) := Lib.hid ((hby.out.alloc (by simp; omega) _).grown hgrow (by simp; omega) hlt3.out)
        have hO3 : Hid (Ow w3 w2.heap.size 153 v' ((l'.take (k + 1)).foldl join [])) := Lib.hid (by rw [hS2.out]; exact hown')
        clear hown' hgrow
        go_wp2
        go_roundw
        case rel => exact ⟨k + 1, by omega, by go_num, hO3.out, hb3.out⟩
        case measure => simp [intOf]; omega
      · rw [List.concat_eq_append] at *
        have hy := hcan.out.1.good y (by simp)
        obtain ⟨y1, y2⟩ := y
        have hO := HOW.out
        rcases hO.2 with ⟨_, hn⟩ | ⟨g, cap3, cur, rfl, hgb, hgg, hnc, _⟩
        · simp at hn
        · have hlast : wr.cell? ⟨g, t.length * 2 + 1, none⟩ = some (.int .u64 y2) := by
            rw [World.ownsRow.cellAt hO (t.length * 2 + 1) (by simp; omega)]
            have := (cellsOf_get (t ++ [(y1, y2)]) t.length (by simp)).2
            rw [this]
            simp [List.getD]
          have hgl : g < wr.heap.size := (Array.getElem?_eq_some_iff.1 hgg).1
          have hfro : wr.frozen? ⟨g, t.length * 2 + 1, none⟩ = false := by simp [World.frozen?, hgg]
          clear hgg hnc
          have HOWa := Lib.hid (World.ownsRow.alloc hO (.cells #[.int .u64 lo, .int .u64 hj1] 153))
          rw [List.length_append, List.length_singleton] at HOWa
          clear hO
          have hqk0 : t.length + 1 ≤ 1000 := by have := hcan.out.2; rw [List.length_append, List.length_singleton] at this; omega
          generalize hq : t.length = q at *
          have hqt := Lib.hid hq
          have HOWq : Hid ((wr.alloc (.cells #[.int .u64 lo, .int .u64 hj1] 153)).ownsRow w2.heap.size 153 2 (.slice (some ⟨g, 0, none⟩) (q + 1) cap3) (q + 1) (cellsOf (t ++ [(y1, y2)]))) := HOWa
          clear HOWa
          simp only at hy hgx
          by_cases hj : lo ≤ y2 + 1
          · have d1 : decide (lo ≤ y2 + 1) = true := decide_eq_true hj
            obtain ⟨z, hzz⟩ : ∃ z, max y2 hj1 = z := ⟨_, rfl⟩
            have hmx := max_run y2 hj1 z hzz
            go_wp2_with fail
            go_quiet (fail)
            go_wp2_with fail
            go_region
            all_goals go_wp2
            refine ⟨⟨k + 1, by omega, by go_num, ?_, ?_⟩, by simp [intOf]; omega⟩
            · rw [hS2.out, join_snoc, if_pos (show lo ≤ y2 + 1 from hj)]
              have h1 : ((wr.alloc (.cells #[.int .u64 lo, .int .u64 hj1] 153)).drewN (nq + 1)).ownsRow w2.heap.size 153 2 (.slice (some ⟨g, 0, none⟩) (q + 1) cap3) (q + 1) (cellsOf (t ++ [(y1, y2)])) := HOWq.out.of_only (only_drewN (fun _ => False) _ _) (fun _ h => h)
              have h2 := owns_set h1 (i := q * 2 + 1) (by omega) (.int .u64 z)
              rw [← hqt.out, cellsOf_set t (y1, y2) z, hqt.out] at h2
              unfold Ow
              rw [show (t ++ [((y1, y2).1, max (y1, y2).2 (lo, hj1).2)]).length = q + 1 by simp [hqt.out], show max (y1, y2).2 (lo, hj1).2 = z from hzz]
              exact h2
            · exact (below_drewN (HB.out.alloc hsz _) _).setCell (p := ⟨g, q * 2 + 1, none⟩) hgb _
          · have d1 : decide (lo ≤ y2 + 1) = false := decide_eq_false hj
            go_wp2_with fail
            go_quiet (fail)
            rename_i nq
            have hown3 := Lib.hid (HOWq.out.of_only (only_drewN (fun _ => False) (wr.alloc (.cells #[.int .u64 lo, .int .u64 hj1] 153)) nq) (fun _ h => h))
            have hby := Lib.hid (below_drewN (HB.out.alloc hsz (.cells #[.int .u64 lo, .int .u64 hj1] 153)) nq)
            go_wp2_with (at_builtin; refine wpList_append_own _ rfl _ _ 28 rfl w2.heap.size 153 i0 (.agg #[.int .u64 0, .int .u64 0]) 2 16 Tryz.underlying28 hi.out hz0.out hz1.out hz2.out rfl (by decide) (.slice (some ⟨g, 0, none⟩) (q + 1) cap3) _ _ rfl (World.ownsRow.alloc hown3.out _) ⟨wr.heap.size + 1, 0, none⟩ 1 1 [.int .u64 lo, .int .u64 hj1] rfl rfl ?c1 ?c2 ?c3 ?c4 ?c5 ?_)
            case c1 =>
              have h := cell_two_new ((wr.alloc (.cells #[.int .u64 lo, .int .u64 hj1] 153)).drewN nq) (.int .u64 lo) (.int .u64 hj1) 153
              simpa using h
            case c2 => intro u hu; simp at hu; rcases hu with rfl | rfl <;> rfl
            case c3 => unfold maxLen; omega
            case c4 => omega
            case c5 => simp; omega
            intro v' w3 hown' hgrow _
            have hb3 : Hid (Below w2.heap.size w2 w3) := Lib.hid ((hby.out.alloc (by simp; omega) _).grown hgrow (by simp; omega) (fun j hj' => by cases hj'; exact hgb))
            have hO3 : Hid (Ow w3 w2.heap.size 153 v' ((l'.take (k + 1)).foldl join [])) := Lib.hid (by
              rw [hS2.out, join_snoc, if_neg (show ¬ lo ≤ y2 + 1 by omega)]
              unfold Ow
              rw [show (t ++ [(y1, y2)] ++ [(lo, hj1)]).length = q + 1 + 1 by simp [hqt.out], cellsOf_append]
              exact hown')
            clear hown' hgrow
            go_wp2
            go_roundw
            case rel => exact ⟨k + 1, by omega, by go_num, hO3.out, hb3.out⟩
            case measure => simp [intOf]; omega
    · obtain rfl : k = m := by omega
      have hfin := joins_can l' [] Can.nil HGD.out P2.out (fun x hx => by cases hx)
      have hlen := joins_len l' []
      have HF := Lib.hid hfin
      rw [← HM.out, List.take_length] at HOW
      obtain ⟨a3, cap3, rfl⟩ := HOW.out.form
      clear hfin HROW HGD
      go_wp2
      go_ret
      refine ⟨_, _, rfl, HF.out.1, fun n => ?_, by have := HM.out; simp at hlen; omega, HOW.out.rd, (((Below.refl _ _).alloc (Nat.le_refl _) _).trans (H3.out.mono (by simp))).trans (HB.out.mono (by have := hz; simp at this; omega))⟩
      rw [HF.out.2]
      constructor
      · rintro (h | h)
        · exact absurd h (mem_nil n)
        · obtain ⟨x, hx, hn⟩ := h
          exact ⟨x, (List.mem_filter.1 (P1.out.mem_iff.1 hx)).1, hn⟩
      · rintro ⟨x, hx, hn⟩
        exact .inr ⟨x, P1.out.mem_iff.2 (List.mem_filter.2 ⟨hx, decide_eq_true (show ok x by have := hn.1; have := hn.2; simp only [ok]; omega)⟩), hn⟩
end Go.Proofs.YtoblmhpjendbfaaGreatDoor.Rg
namespace Go.Proofs.YtoblmhpjendbfaaGreatDoor.Rg
set_option maxRecDepth 20000
open Go.RowKit Go.Shelf
set_option linter.unusedVariables false

theorem parts_len (l : List Ran) (r : Ran) : (parts l r).length ≤ l.length := by
  unfold parts
  have := List.length_filter_le (fun b => decide (ok b)) (l.map (clip r))
  simpa using this
theorem gaps_len : ∀ (l : List Ran) (lo hi : Int), (gaps lo hi l).length ≤ l.length + 1
  | [], lo, hi => by unfold gaps; split <;> simp
  | x :: l, lo, hi => by
    have := gaps_len l (x.2 + 1) hi
    unfold gaps
    split
    · simp; omega
    · simp; omega
theorem lack_len (l : List Ran) (r : Ran) : (lack l r).length ≤ l.length + 1 := by
  have h1 := gaps_len (parts l r) r.1 r.2
  have h2 := parts_len l r
  unfold lack
  omega
/-- How many numbers. -/
def size : List Ran → Int
  | [] => 0
  | x :: l => (x.2 - x.1 + 1) + size l
theorem size_append : ∀ (l m : List Ran), size (l ++ m) = size l + size m
  | [], m => by simp [size]
  | x :: l, m => by rw [List.cons_append, size, size, size_append l]; omega
theorem Can.prefix {l m : List Ran} (h : Can m) (hp : l <+: m) : Can l := by
  obtain ⟨t, rfl⟩ := hp
  exact h.left

set_option maxHeartbeats 1000000 in
theorem gaps_any (a : Option Addr) (n cap : Nat) (l : List Ran) (lo hi : Int) (w : World) (hl : l.length ≤ 1000) (hcan : Can l) (h0 : 0 ≤ lo) (h1 : hi < 9223372036854775808) (hrd : Rd w (.slice a n cap) l) :
    Calls Tryz.prog 138 #[.slice a n cap, .agg #[.int .u64 lo, .int .u64 hi]] w fun e w' => ∃ v, e = .returned v ∧ Rd w' v (lack l (lo, hi)) ∧ Below w.heap.size w w' := by
  have HRD := Lib.hid hrd
  clear hrd
  go_enter Tryz.func138, Tryz.ntmps138
  go_wp2_with fail
  refine (without_any _ _ _ _ _ _).mono ?_
  rintro e w1 ⟨rfl, rfl⟩
  have hb0 : Below w.heap.size w (((w.alloc (.cells #[.int .u64 lo, .int .u64 hi] 153)).alloc (.cells #[.slice a n cap] 28)).alloc (.cells #[.int .u64 lo, .int .u64 hi] 153)) := (((Below.refl _ w).alloc (Nat.le_refl _) _).alloc (by simp) _).alloc (by simp; omega) _
  have hit := without_iter (w.heap.size + 1 + 1) (w.heap.size + 1) (.slice a n cap) l lo hi (((w.alloc (.cells #[.int .u64 lo, .int .u64 hi] 153)).alloc (.cells #[.slice a n cap] 28)).alloc (.cells #[.int .u64 lo, .int .u64 hi] 153)) hl hcan h0 h1 (by simp [go_sem]) (HRD.out.below hb0 (Nat.le_refl _)) (by simp [go_sem]) (by simp [go_sem])
  have HC := Lib.hid (collect_any _ _ _ _ _ (((w.alloc (.cells #[.int .u64 lo, .int .u64 hi] 153)).alloc (.cells #[.slice a n cap] 28)).alloc (.cells #[.int .u64 lo, .int .u64 hi] 153)) (enters_of Tryz.func193 (by kernel_rfl) rfl) hit (fun q hq => ⟨by
    rcases hq with rfl | rfl | hq
    · simp
    · simp
    · have := HRD.out.blk hq; simp; omega, rfl⟩) (Nat.le_refl _) (by have := lack_len l (lo, hi); omega))
  have HB := Lib.hid hb0
  clear hit hb0
  go_wp2_with fail
  refine HC.out.mono ?_
  rintro e w2 ⟨v, rfl, ho, hb⟩
  have HO := Lib.hid ho
  have HB2 := Lib.hid hb
  clear ho hb HC
  go_wp2
  go_ret
  exact ⟨v, rfl, HO.out.rd, HB.out.trans (HB2.out.mono (by simp; omega))⟩

theorem one_cell {A : World} {B : Nat} {u : Value} {t : TypeId} (h : A.heap[B]? = some (.cells #[u] t (0, 0))) : A.cell? ⟨B, 0, none⟩ = some u ∧ A.frozen? ⟨B, 0, none⟩ = false := by
  simp [World.cell?, World.frozen?, h]

attribute [local go_sem] Oper.semAt_some
end Go.Proofs.YtoblmhpjendbfaaGreatDoor.Rg
namespace Go.Proofs.YtoblmhpjendbfaaGreatDoor.Rg
set_option maxRecDepth 20000
open Go.RowKit Go.Shelf
set_option linter.unusedVariables false

theorem flat_len {f : Ran → List Ran} (c : Nat) (h : ∀ x, (f x).length ≤ c) : ∀ l : List Ran, (l.flatMap f).length ≤ c * l.length
  | [] => by simp
  | x :: l => by
    have h1 := flat_len c h l
    have h2 := h x
    rw [List.flatMap_cons, List.length_append, List.length_cons, Nat.mul_add]
    omega
/-- Between two rounds of a loop that appends to a variable: the variable lies at B, and holds what has come of f; all else lies as it lay when the loop began. -/
def FlatI (W : World) (B : Nat) (f : Ran → List Ran) (R : Nat → Prop) (pre : List Ran) (O : Nat → Prop) (A : World) : Prop :=
  ∃ v, A.heap[B]? = some (.cells #[v] 28 (0, 0)) ∧ Ow A W.heap.size 153 v (pre.flatMap f) ∧ (∀ k, v.ownBlock = some k → ¬ O k) ∧ (∀ q, O q → W.heap.size ≤ q) ∧ W.heap.size ≤ A.heap.size ∧ Only (fun k => k = B ∨ W.heap.size ≤ k) W A
theorem flatI_stable (W : World) (B : Nat) (f : Ran → List Ran) (R : Nat → Prop) (hB : B < W.heap.size) : Stable (FlatI W B f R) := by
  rintro pre O O' A B' ⟨v, h1, h2, h3, h4, h5, h6⟩ ho g2
  refine ⟨v, ho.heap h1 (fun h => by have := h4 _ h; omega), h2.only ho (fun k hk => h3 k hk), fun k hk => fun h => ?_, grow_ge h4 h5 g2, Nat.le_trans h5 ho.size, h6.trans' ho (fun i hi h => by have := h4 i h; omega)⟩
  rcases g2 k h with h' | h'
  · exact h3 k hk h'
  · have := (h2.lt hk).2; omega

attribute [local go_sem] Oper.semAt_some
end Go.Proofs.YtoblmhpjendbfaaGreatDoor.Rg
