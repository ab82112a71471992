/- Layer 13: the law AcksOnce. By tools/gen-acks-9.py. -/
import Derived.Test.YtliakeiaeakliaaAkG
import Derived.Maps.OwnOps
import Derived.Maps.Views
import Derived.Maps.OwnSet
import Derived.Deep.CutRange
import Derived.Deep.SlicePairs
import Derived.WideShapes
import Derived.Deep.RegionHeld3
namespace Go.Proofs.Ytliakeiaeakliaa
set_option maxRecDepth 20000
/-- What a caller's slice of integers is. -/
def IsRow (k : IntKind) (w : World) (a : Option Addr) (len cap : Nat) (zs : List Int) : Prop :=
  (a = none ∧ len = 0 ∧ cap = 0 ∧ zs = []) ∨ ∃ ad, a = some ad ∧ len ≤ cap ∧ cap ≤ maxLen ∧ zs.length = cap ∧ (∀ i, i < zs.length → w.cell? (ad.add i) = some (.int k (zs.getD i 0))) ∧ ∀ n ∈ zs, (Lit.int k n).wf = true
end Go.Proofs.Ytliakeiaeakliaa
namespace Go.Proofs.Ytliakeiaeakliaa.Rg
set_option maxRecDepth 20000
open Go.RowKit Go.Shelf Go.Maps
set_option linter.unusedVariables false
set_option linter.unusedSimpArgs false

/-- A row of numbers as an argument. -/
def RI (k : IntKind) (w : World) (a : Option Addr) (n c : Nat) (l : List Int) : Prop :=
  n ≤ c ∧ ∀ j, j < n → ∃ b o, a = some ⟨b, o, none⟩ ∧ (∀ W, Below w.heap.size w W → W.cell? ⟨b, o + j, none⟩ = some (.int k (l.getD j 0))) ∧ (Lit.int k (l.getD j 0)).wf = true
theorem ri_of {k : IntKind} {w : World} {a : Option Addr} {n c : Nat} {l : List Int} (h : IsRow k w a n c l) : RI k w a n c l := by
  rcases h with ⟨rfl, rfl, rfl, rfl⟩ | ⟨x, rfl, hl, hm, hz, hcell, hwz⟩
  · exact ⟨Nat.le_refl _, fun j hj => absurd hj (by omega)⟩
  · refine ⟨hl, fun j hj => ?_⟩
    obtain ⟨b, off, spot⟩ := x
    have hspot : spot = none := by simpa [Addr.add] using World.cell?_spot (hcell 0 (by omega))
    subst hspot
    have h1 := hcell j (by omega)
    rw [Go.WideShapes.add_plain] at h1
    have hb := block_lt_of_cell h1
    refine ⟨b, off, rfl, fun W hW => (hW.cell hb).trans h1, ?_⟩
    have hlt : j < l.length := by omega
    have := hwz (l[j]) (List.getElem_mem _)
    rw [List.getD_eq_getElem?_getD, List.getElem?_eq_getElem hlt]
    exact this
theorem law16 : Keyed Try.prog 32 := int_keyed Try.underlying32
theorem zeroI (w : World) : (zeroValue 3).run Try.prog w = .ok (.int .i64 0) w := by kernel_rfl
/-- How often each number was taken: in the map B. -/
def Mp (W : World) (B k : Nat) (cnt : Int → Int) : Prop :=
  ∃ D : DataW Unit, W.ownsMap Try.prog 32 (plainElem Try.prog 3) B k D ∧ ∀ x, D.atKey (.int .u16 x) (.lit (.int .i64 0)) = .lit (.int .i64 (cnt x))
theorem Mp.heap {W : World} {B k : Nat} {cnt : Int → Int} (h : Mp W B k cnt) : ∃ es c, W.heap[B]? = some (.map es c) := by
  obtain ⟨D, ⟨es, c, h1, _⟩, _⟩ := h
  exact ⟨es, c, h1⟩
theorem Mp.lt {W : World} {B k : Nat} {cnt : Int → Int} (h : Mp W B k cnt) : B < W.heap.size := by
  obtain ⟨es, c, h1⟩ := h.heap
  exact (Array.getElem?_eq_some_iff.1 h1).1
theorem Mp.same {W W' : World} {B k : Nat} {cnt : Int → Int} (h : Mp W B k cnt) (hb : W'.heap[B]? = W.heap[B]?) : Mp W' B k cnt := by
  obtain ⟨D, ⟨es, c, h1, h2⟩, h3⟩ := h
  exact ⟨D, ⟨es, c, hb.trans h1, h2⟩, h3⟩
theorem Mp.go {W W' : World} {B k : Nat} {cnt : Int → Int} (h : Mp W B k cnt) (hb : Below W.heap.size W W') : Mp W' B k cnt := h.same (hb.block B h.lt)
theorem Mp.off {W : World} {B k g : Nat} {cnt : Int → Int} {T : TypeId} {v : Value} {s : St} (h : Mp W B k cnt) (hs : Tl T W g v s) : B ≠ g := by
  rintro rfl
  obtain ⟨es, c, h1⟩ := h.heap
  rw [hs.hb] at h1
  cases h1
theorem rd_off {W : World} {B : Nat} {v : Value} {l : List Ran} {es : Array MapEntry} {c : Nat} (hr : Rd W v l) (h : W.heap[B]? = some (.map es c)) : ¬ Blk v B := by
  intro hb
  obtain ⟨a, cap, rfl, _, hrow⟩ := hr
  cases a with
  | none => exact hb.elim
  | some a =>
    obtain ⟨b, off, e, hc⟩ := hrow (List.length_pos_iff.1 hb.1)
    cases e
    obtain rfl : b = B := hb.2
    have h1 := (hc 0 hb.1).1
    unfold World.cell? at h1
    rw [h] at h1
    simp at h1
theorem Tl.only {T : TypeId} {W W' : World} {b : Nat} {v : Value} {s : St} {O : Nat → Prop} (h : Tl T W b v s) (ho : Only O W W') (hn : ¬ O b) (hv : ∀ k, Blk v k → ¬ O k) : Tl T W' b v s :=
  ⟨(ho.block b h.lt hn).trans h.hb, h.rd.keep (fun q hq => ho.block q (h.rd.blk hq) (hv q hq)), h.off⟩
theorem Mp.five {W : World} {B k g : Nat} {cnt : Int → Int} (h : Mp W B k cnt) (hg : B ≠ g) (x0 x1 x2 x3 x4 : Value) : Mp (((((W.setCell ⟨g, 0, none⟩ x0).setCell ⟨g, 1, none⟩ x1).setCell ⟨g, 2, none⟩ x2).setCell ⟨g, 3, none⟩ x3).setCell ⟨g, 4, none⟩ x4) B k cnt :=
  h.same ((Below.heap_setCell _ ⟨g, 4, none⟩ x4 B hg).trans ((Below.heap_setCell _ ⟨g, 3, none⟩ x3 B hg).trans ((Below.heap_setCell _ ⟨g, 2, none⟩ x2 B hg).trans ((Below.heap_setCell _ ⟨g, 1, none⟩ x1 B hg).trans (Below.heap_setCell _ ⟨g, 0, none⟩ x0 B hg)))))
theorem Mp.mono {W : World} {B k : Nat} {cnt : Int → Int} (h : Mp W B k cnt) : Mp W B (k + 1) cnt := by
  obtain ⟨D, h1, h2⟩ := h
  exact ⟨D, h1.mono (Nat.le_succ k), h2⟩
theorem Mp.made (W : World) : Mp (W.alloc (.map #[] 0)) W.heap.size 0 (fun _ => 0) := ⟨.map [], World.ownsMap_made _ _ _ _, fun x => rfl⟩

theorem once_long (a : Option Addr) (n c : Nat) (w : World) (hn : 200 < (n : Int)) :
    Calls Try.prog 3 #[.slice a n c] w fun e w' => e = .returned (.bool true) ∧ Below w.heap.size w w' := by
  have CS := Lib.hid shown13
  go_enter Try.func3, Try.ntmps3
  go_wp2_with fail
  with_reducible refine (CS.out _).mono ?_
  rintro e w1 ⟨rfl, hb⟩
  have HB1 := Lib.hid hb
  clear hb
  go_wp2_with fail
  go_ret
  exact ⟨rfl, HB1.out⟩
set_option maxHeartbeats 16000000 in
theorem once_law (a : Option Addr) (n c : Nat) (l : List Int) (w : World) (hn : n ≤ 200) (hr : RI .u16 w a n c l) :
    Calls Try.prog 3 #[.slice a n c] w fun e w' => e = .returned (.bool true) ∧ Below w.heap.size w w' := by
  have hmm := @run_makeMap Try.prog
  have CS := Lib.hid shown13
  have HR := Lib.hid hr
  have hnI : (n : Int) ≤ 200 := by omega
  have hnc : (n : Int) ≤ (c : Int) := by have := hr.1; omega
  clear hr
  go_enter Try.func3, Try.ntmps3
  go_wp2_with fail
  with_reducible refine (CS.out _).mono ?_
  rintro e w1 ⟨rfl, hb⟩
  have HS0 : Hid (Sb ((w1.alloc (.cells #[.slice none 0 0, .int .u64 0, .int .i64 0, .int .i64 0, .int .i64 0] 28)).alloc (.map #[] 0)) w1.heap.size (.slice none 0 0) ⟨[], 0, 0, 0, 0⟩) := Lib.hid ((tl_made _ w1 (.slice none 0 0) ⟨[], 0, 0, 0, 0⟩ ⟨none, 0, rfl, Nat.le_refl _, fun h => absurd rfl h⟩).go ((Below.refl _ _).alloc (Nat.le_refl _) _))
  have HM0 : Hid (Mp ((w1.alloc (.cells #[.slice none 0 0, .int .u64 0, .int .i64 0, .int .i64 0, .int .i64 0] 28)).alloc (.map #[] 0)) (w1.heap.size + 1) 0 (fun _ => 0)) := Lib.hid (by
    have h := Mp.made (w1.alloc (.cells #[.slice none 0 0, .int .u64 0, .int .i64 0, .int .i64 0, .int .i64 0] 28))
    rw [World.size_alloc] at h
    exact h)
  have HB0 : Hid (Below w.heap.size w ((w1.alloc (.cells #[.slice none 0 0, .int .u64 0, .int .i64 0, .int .i64 0, .int .i64 0] 28)).alloc (.map #[] 0))) := Lib.hid ((hb.alloc hb.size _).alloc (by have := hb.size; simp; omega) _)
  have hg0 : w.heap.size ≤ w1.heap.size := hb.size
  clear hb
  go_wp2_with fail
  generalize (w1.alloc (.cells #[.slice none 0 0, .int .u64 0, .int .i64 0, .int .i64 0, .int .i64 0] 28)).alloc (.map #[] 0) = W0 at *
  generalize w1.heap.size = g at *
  go_loopw [5, 6] (fun tv iv wr => ∃ (k : Nat) (v : Value) (s : St) (top : Int) (cnt : Int → Int), k ≤ n ∧ iv = .int .i64 k ∧ tv = .int .i64 top ∧ OnceI s top cnt ∧ s.ow = 0 ∧ (-1 ≤ top ∧ top ≤ 65535) ∧ Sb wr g v s ∧ Mp wr (g + 1) k cnt ∧ Below w.heap.size w wr) (fun _ iv _ => n - (intOf iv).toNat)
  case atStart => exact ⟨0, _, _, -1, _, Nat.zero_le _, rfl, rfl, OnceI.start, rfl, ⟨by omega, by omega⟩, HS0.out, HM0.out, HB0.out⟩
  case round =>
    obtain ⟨k, v, s, top, cnt, hk, rfl, rfl, hon, how, ⟨ht0, ht1⟩, hsb, hmp, hbb⟩ := hrel
    obtain ⟨va, vc, rfl, _⟩ := id hsb.rd
    have hcan := hon.inv.can
    obtain ⟨m, hm⟩ : ∃ m, s.l.length = m := ⟨_, rfl⟩
    have HSB : Hid (Sb wr g (.slice va m vc) s) := Lib.hid (by rw [← hm]; exact hsb)
    have HBB := Lib.hid hbb
    have HON := Lib.hid hon
    have HMP := Lib.hid hmp
    have hml : m ≤ 32 := by rw [← hm]; exact hon.inv.len
    have hgl := hsb.lt
    have hgw : w.heap.size ≤ g := hg0
    by_cases hlt : k < n
    · have hltI : (k : Int) < (n : Int) := by omega
      obtain ⟨ab, ao, ea, hcell, hwf⟩ := HR.out.2 k hlt
      subst ea
      generalize l.getD k 0 = x at hcell hwf
      have HK := Lib.hid hcell
      have hwx := hwf
      simp only [Lit.wf, Bool.and_eq_true, decide_eq_true_eq] at hwf
      have hx0 : 0 ≤ x := hwf.1
      have hx1 : x ≤ 65535 := hwf.2
      have HKEY : Hid (keyOf Try.prog 32 (.int .u16 x) = some (.int .u16 x)) := Lib.hid (keyOf_int_mk Try.underlying32 hwx)
      have v1 : IntKind.u64.wrap x = x := IntWalk.u64_in _ (by omega)
      have v2 : IntKind.i64.wrap x = x := IntWalk.i64_in _ (by omega)
      clear hcell hwf hwx
      obtain ⟨sh, hsh⟩ : ∃ b, shut s x = b := ⟨_, rfl⟩
      have hHd : Hid (Below wr.heap.size wr wr.drew) := Lib.hid (Below.refl _ _).drew
      have HSD := Lib.hid (HSB.out.go hHd.out)
      have HKD : Hid (∀ W, Below wr.drew.heap.size wr.drew W → W.cell? ⟨ab, ao + k, none⟩ = some (.int .u16 x)) := Lib.hid (fun W h => HK.out W (HBB.out.trans ((hHd.out.trans h).mono HBB.out.size)))
      cases sh with
      | false =>
        obtain ⟨l, fl, tp, ow, si⟩ := s
        try simp only at how
        subst how
        have HLM : Hid (l.length = m) := Lib.hid hm
        have KG := Lib.hid (fun W h => got_yes va m vc ⟨l, fl, tp, 0, si⟩ x false (k : Int) W HLM.out (by omega) hcan h hsh hx0 (by omega) (by show (0 : Int) ≤ 0; omega) (by show (0 : Int) ≤ 1000000; omega))
        try simp only at KG
        have HSH := Lib.hid hsh
        clear hsb hbb hon hmp hcan hm hsh
        go_wp2_with fail
        go_cut [7, 8] from 27 to 38 (fun v7 v8 W => ∃ (b : Nat) (u : Value) (s1 : St), v7 = .pointer (some ⟨b, 0, none⟩) ∧ v8 = .bool true ∧ Sb W b u s1 ∧ (∃ l1, GotR ⟨l, fl, tp, 0, si⟩ x false (k : Int) s1 l1) ∧ (∀ q, Blk u q → wr.heap.size ≤ q) ∧ Below wr.heap.size wr W)
        case first =>
          refine wp_region_noPanic ?_
          refine wp_region_held_drew (S := fun W : World => Below wr.drew.heap.size wr.drew W) (by kernel_rfl) ?_ (fun hHeld => ?_)
          · exact Below.refl wr.drew.heap.size wr.drew
          refine wpAnyH_take (i := 0) (v := ?_) rfl (by kernel_rfl) (by kernel_rfl) (by kernel_rfl) (fun _ _ _ h => h) (Or.inl ⟨by rfl, ?_⟩) (by assumption) ?_
          rotate_left
          · (intro w hSw; (have hSb := hSw; clear hSw; have c0 := (HSD.out.go hSb).c0; have c1 := (HSD.out.go hSb).c1; have c2 := (HSD.out.go hSb).c2; have c3 := (HSD.out.go hSb).c3; have c4 := (HSD.out.go hSb).c4; simp only at c0 c1 c2 c3 c4; have kk := HKD.out _ hSb; clear hSb); go_simp; (try with_reducible rfl))
          try simp only [Act.put, List.getElem_toArray, List.getElem_cons_zero, List.getElem_cons_succ, List.setIfInBounds_toArray, List.set_cons_zero, List.set_cons_succ]
          refine wpAnyH_take (i := 1) (v := ?_) rfl (by kernel_rfl) (by kernel_rfl) (by kernel_rfl) (fun _ _ _ h => h) (Or.inl ⟨by rfl, ?_⟩) (by assumption) ?_
          rotate_left
          · (intro w hSw; (have hSb := hSw; clear hSw; have c0 := (HSD.out.go hSb).c0; have c1 := (HSD.out.go hSb).c1; have c2 := (HSD.out.go hSb).c2; have c3 := (HSD.out.go hSb).c3; have c4 := (HSD.out.go hSb).c4; simp only at c0 c1 c2 c3 c4; have kk := HKD.out _ hSb; clear hSb); go_simp; (try with_reducible rfl))
          try simp only [Act.put, List.getElem_toArray, List.getElem_cons_zero, List.getElem_cons_succ, List.setIfInBounds_toArray, List.set_cons_zero, List.set_cons_succ]
          refine wpAnyH_take (i := 2) (v := ?_) rfl (by kernel_rfl) (by kernel_rfl) (by kernel_rfl) (fun _ _ _ h => h) (Or.inl ⟨by rfl, ?_⟩) (by assumption) ?_
          rotate_left
          · (intro w hSw; (have hSb := hSw; clear hSw; have c0 := (HSD.out.go hSb).c0; have c1 := (HSD.out.go hSb).c1; have c2 := (HSD.out.go hSb).c2; have c3 := (HSD.out.go hSb).c3; have c4 := (HSD.out.go hSb).c4; simp only at c0 c1 c2 c3 c4; have kk := HKD.out _ hSb; clear hSb); go_simp; (try with_reducible rfl))
          try simp only [Act.put, List.getElem_toArray, List.getElem_cons_zero, List.getElem_cons_succ, List.setIfInBounds_toArray, List.set_cons_zero, List.set_cons_succ]
          refine wpAnyH_take (i := 3) (v := ?_) rfl (by kernel_rfl) (by kernel_rfl) (by kernel_rfl) (fun _ _ _ h => h) (Or.inl ⟨by rfl, ?_⟩) (by assumption) ?_
          rotate_left
          · (intro w hSw; (have hSb := hSw; clear hSw; have c0 := (HSD.out.go hSb).c0; have c1 := (HSD.out.go hSb).c1; have c2 := (HSD.out.go hSb).c2; have c3 := (HSD.out.go hSb).c3; have c4 := (HSD.out.go hSb).c4; simp only at c0 c1 c2 c3 c4; have kk := HKD.out _ hSb; clear hSb); go_simp; (try with_reducible rfl))
          try simp only [Act.put, List.getElem_toArray, List.getElem_cons_zero, List.getElem_cons_succ, List.setIfInBounds_toArray, List.set_cons_zero, List.set_cons_succ]
          refine wpAnyH_take (i := 4) (v := ?_) rfl (by kernel_rfl) (by kernel_rfl) (by kernel_rfl) (fun _ _ _ h => h) (Or.inl ⟨by rfl, ?_⟩) (by assumption) ?_
          rotate_left
          · (intro w hSw; (have hSb := hSw; clear hSw; have c0 := (HSD.out.go hSb).c0; have c1 := (HSD.out.go hSb).c1; have c2 := (HSD.out.go hSb).c2; have c3 := (HSD.out.go hSb).c3; have c4 := (HSD.out.go hSb).c4; simp only at c0 c1 c2 c3 c4; have kk := HKD.out _ hSb; clear hSb); go_simp; (try with_reducible rfl))
          try simp only [Act.put, List.getElem_toArray, List.getElem_cons_zero, List.getElem_cons_succ, List.setIfInBounds_toArray, List.set_cons_zero, List.set_cons_succ]
          refine wpAnyH_take (i := 5) (v := ?_) rfl (by kernel_rfl) (by kernel_rfl) (by kernel_rfl) (fun _ _ _ h => h) (Or.inl ⟨by rfl, ?_⟩) (by assumption) ?_
          rotate_left
          · (intro w hSw; (have hSb := hSw; clear hSw; have c0 := (HSD.out.go hSb).c0; have c1 := (HSD.out.go hSb).c1; have c2 := (HSD.out.go hSb).c2; have c3 := (HSD.out.go hSb).c3; have c4 := (HSD.out.go hSb).c4; simp only at c0 c1 c2 c3 c4; have kk := HKD.out _ hSb; clear hSb); go_simp; (try with_reducible rfl))
          try simp only [Act.put, List.getElem_toArray, List.getElem_cons_zero, List.getElem_cons_succ, List.setIfInBounds_toArray, List.set_cons_zero, List.set_cons_succ]
          refine wpAnyH_take (i := 6) (v := ?_) rfl (by kernel_rfl) (by kernel_rfl) (by kernel_rfl) (fun _ _ _ h => h) (Or.inl ⟨by rfl, ?_⟩) (by assumption) ?_
          rotate_left
          · (intro w hSw; (have hSb := hSw; clear hSw; have c0 := (HSD.out.go hSb).c0; have c1 := (HSD.out.go hSb).c1; have c2 := (HSD.out.go hSb).c2; have c3 := (HSD.out.go hSb).c3; have c4 := (HSD.out.go hSb).c4; simp only at c0 c1 c2 c3 c4; have kk := HKD.out _ hSb; clear hSb); go_simp; (try with_reducible rfl))
          try simp only [Act.put, List.getElem_toArray, List.getElem_cons_zero, List.getElem_cons_succ, List.setIfInBounds_toArray, List.set_cons_zero, List.set_cons_succ]
          refine wpAnyH_ready (rs := [7, 11]) (by kernel_rfl) (by simp) ?_
          refine AllReadyH.cons rfl (fun K hK => ?_) (AllReadyH.cons rfl (fun K hK => ?_) AllReadyH.nil)
          · rw [if_pos (by rfl)]
            go_simp
            refine (KG.out wr.drew (HSD.out.rd.go (Below.refl _ _))).mono ?_
            rintro e w3 ⟨u, s', l1, rfl, hG, hr, hq, hb⟩
            obtain ⟨ua, uc, rfl, _⟩ := id hr
            obtain ⟨l', f', t', o', i'⟩ := s'
            try simp only at hr
            try simp only at hq
            obtain ⟨un, hun⟩ : ∃ n, l'.length = n := ⟨_, rfl⟩
            rw [hun] at hr hq
            try simp only [hun]
            have HP := Lib.hid hG
            have HQ : Hid (∀ q, Blk (.slice ua un uc) q → wr.heap.size ≤ q) := Lib.hid (fun q h => Nat.le_trans (by simp) (hq q h))
            clear hun hG
            have HR3 := Lib.hid hr
            have HB3 := Lib.hid hb
            have HNB : Hid (¬ Blk (.slice ua un uc) w3.heap.size) := Lib.hid (fun h => by have := hr.blk h; omega)
            clear hr hq hb
            refine hK.out _ _ ?_ (fun hHeld => ?_)
            · exact HB3.out
            clear hK K
            try simp only [Act.put, List.getElem_toArray, List.getElem_cons_zero, List.getElem_cons_succ, List.setIfInBounds_toArray, List.set_cons_zero, List.set_cons_succ]
            refine wpAnyH_take (i := 8) (v := ?_) rfl (by kernel_rfl) (by kernel_rfl) (by kernel_rfl) (fun _ _ _ h => h) (Or.inl ⟨by rfl, ?_⟩) (by assumption) ?_
            rotate_left
            · (intro w hSw; (have hSb := hSw; clear hSw; have c0 := (HSD.out.go hSb).c0; have c1 := (HSD.out.go hSb).c1; have c2 := (HSD.out.go hSb).c2; have c3 := (HSD.out.go hSb).c3; have c4 := (HSD.out.go hSb).c4; simp only at c0 c1 c2 c3 c4; have kk := HKD.out _ hSb; clear hSb); go_simp; (try with_reducible rfl))
            try simp only [Act.put, List.getElem_toArray, List.getElem_cons_zero, List.getElem_cons_succ, List.setIfInBounds_toArray, List.set_cons_zero, List.set_cons_succ]
            refine wpAnyH_take (i := 9) (v := ?_) rfl (by kernel_rfl) (by kernel_rfl) (by kernel_rfl) (fun _ _ _ h => h) (Or.inl ⟨by rfl, ?_⟩) (by assumption) ?_
            rotate_left
            · (intro w hSw; (have hSb := hSw; clear hSw; have c0 := (HSD.out.go hSb).c0; have c1 := (HSD.out.go hSb).c1; have c2 := (HSD.out.go hSb).c2; have c3 := (HSD.out.go hSb).c3; have c4 := (HSD.out.go hSb).c4; simp only at c0 c1 c2 c3 c4; have kk := HKD.out _ hSb; clear hSb); go_simp; (try with_reducible rfl))
            try simp only [Act.put, List.getElem_toArray, List.getElem_cons_zero, List.getElem_cons_succ, List.setIfInBounds_toArray, List.set_cons_zero, List.set_cons_succ]
            refine wpAnyH_take (i := 10) (v := ?_) rfl (by kernel_rfl) (by kernel_rfl) (by kernel_rfl) (fun _ _ _ h => h) (Or.inl ⟨by rfl, ?_⟩) (by assumption) ?_
            rotate_left
            · (intro w hSw; (have hSb := hSw; clear hSw; have c0 := (HSD.out.go hSb).c0; have c1 := (HSD.out.go hSb).c1; have c2 := (HSD.out.go hSb).c2; have c3 := (HSD.out.go hSb).c3; have c4 := (HSD.out.go hSb).c4; simp only at c0 c1 c2 c3 c4; have kk := HKD.out _ hSb; clear hSb); go_simp; (try with_reducible rfl))
            try simp only [Act.put, List.getElem_toArray, List.getElem_cons_zero, List.getElem_cons_succ, List.setIfInBounds_toArray, List.set_cons_zero, List.set_cons_succ]
            refine wpAnyH_ready (rs := [11]) (by kernel_rfl) (by simp) ?_
            refine AllReadyH.cons rfl (fun K hK => ?_) AllReadyH.nil
            rw [if_pos (by rfl)]
            go_simp
            refine hK.out _ _ ?_ (fun hHeld => ?_)
            · exact HB3.out.alloc HB3.out.size _
            clear hK K
            try simp only [Act.put, List.getElem_toArray, List.getElem_cons_zero, List.getElem_cons_succ, List.setIfInBounds_toArray, List.set_cons_zero, List.set_cons_succ]
            refine wpAnyH_ready (rs := [12]) (by kernel_rfl) (by simp) ?_
            refine AllReadyH.cons rfl (fun K hK => ?_) AllReadyH.nil
            rw [if_pos (by rfl)]
            go_simp
            refine hK.out _ _ ?_ (fun hHeld => ?_)
            · exact HB3.out.alloc HB3.out.size _
            clear hK K
            try simp only [Act.put, List.getElem_toArray, List.getElem_cons_zero, List.getElem_cons_succ, List.setIfInBounds_toArray, List.set_cons_zero, List.set_cons_succ]
            refine wpAnyH_take (i := 13) (v := ?_) rfl (by kernel_rfl) (by kernel_rfl) (by kernel_rfl) (fun _ _ _ h => h) (Or.inl ⟨by rfl, ?_⟩) (by assumption) ?_
            rotate_left
            · (intro w hSw; (have hSb := hSw; clear hSw; have c0 := (HSD.out.go hSb).c0; have c1 := (HSD.out.go hSb).c1; have c2 := (HSD.out.go hSb).c2; have c3 := (HSD.out.go hSb).c3; have c4 := (HSD.out.go hSb).c4; simp only at c0 c1 c2 c3 c4; have kk := HKD.out _ hSb; clear hSb); go_simp; (try with_reducible rfl))
            try simp only [Act.put, List.getElem_toArray, List.getElem_cons_zero, List.getElem_cons_succ, List.setIfInBounds_toArray, List.set_cons_zero, List.set_cons_succ]
            refine wpAnyH_done (by kernel_rfl) (NoPanic.normal ?_) _
            go_wp2_with fail
            go_meet
            case rel => exact ⟨_, _, ⟨l', f', t', o', i'⟩, rfl, rfl, ⟨heap_alloc_new w3 _, HR3.out.go ((Below.refl _ _).alloc (Nat.le_refl _) _), HNB.out⟩, ⟨_, HP.out⟩, HQ.out, hHd.out.trans hHeld⟩
          · rw [if_pos (by rfl)]
            go_simp
            refine hK.out _ _ ?_ (fun hHeld => ?_)
            · exact (Below.refl wr.drew.heap.size wr.drew).alloc (Nat.le_refl _) _
            clear hK K
            try simp only [Act.put, List.getElem_toArray, List.getElem_cons_zero, List.getElem_cons_succ, List.setIfInBounds_toArray, List.set_cons_zero, List.set_cons_succ]
            refine wpAnyH_ready (rs := [7]) (by kernel_rfl) (by simp) ?_
            refine AllReadyH.cons rfl (fun K hK => ?_) AllReadyH.nil
            rw [if_pos (by rfl)]
            go_simp
            refine (KG.out (wr.drew.alloc (.cells #[.slice none 0 0, .int .u64 0, .int .i64 0, .int .i64 0, .int .i64 0] 28)) (HSD.out.rd.go ((Below.refl _ _).alloc (Nat.le_refl _) _))).mono ?_
            rintro e w3 ⟨u, s', l1, rfl, hG, hr, hq, hb⟩
            obtain ⟨ua, uc, rfl, _⟩ := id hr
            obtain ⟨l', f', t', o', i'⟩ := s'
            try simp only at hr
            try simp only at hq
            obtain ⟨un, hun⟩ : ∃ n, l'.length = n := ⟨_, rfl⟩
            rw [hun] at hr hq
            try simp only [hun]
            have HP := Lib.hid hG
            have HQ : Hid (∀ q, Blk (.slice ua un uc) q → wr.heap.size ≤ q) := Lib.hid (fun q h => Nat.le_trans (by simp) (hq q h))
            clear hun hG
            have HR3 := Lib.hid hr
            have HB3 := Lib.hid (next ((Below.refl wr.drew.heap.size wr.drew).alloc (Nat.le_refl _) (.cells #[.slice none 0 0, .int .u64 0, .int .i64 0, .int .i64 0, .int .i64 0] 28)) hb)
            have HZ : Hid (Zb w3 wr.heap.size 28) := Lib.hid (Zb.go (heap_alloc_new wr.drew (.cells #[.slice none 0 0, .int .u64 0, .int .i64 0, .int .i64 0, .int .i64 0] 28)) hb)
            have HNB : Hid (¬ Blk (.slice ua un uc) wr.heap.size) := Lib.hid (fun h => by have h5 := hq _ h; rw [World.size_alloc] at h5; exact absurd h5 (Nat.not_succ_le_self _))
            have z0 : w3.cell? ⟨wr.heap.size, 0, none⟩ = _ := Lib.cell_of_heap HZ.out 0
            have z1 : w3.cell? ⟨wr.heap.size, 1, none⟩ = _ := Lib.cell_of_heap HZ.out 1
            have z2 : w3.cell? ⟨wr.heap.size, 2, none⟩ = _ := Lib.cell_of_heap HZ.out 2
            have z3 : w3.cell? ⟨wr.heap.size, 3, none⟩ = _ := Lib.cell_of_heap HZ.out 3
            have z4 : w3.cell? ⟨wr.heap.size, 4, none⟩ = _ := Lib.cell_of_heap HZ.out 4
            have zf : ∀ k, w3.frozen? ⟨wr.heap.size, k, none⟩ = false := fun k => Lib.frozen_of_heap HZ.out k
            clear hr hq hb
            refine hK.out _ _ ?_ (fun hHeld => ?_)
            · exact HB3.out
            clear hK K
            try simp only [Act.put, List.getElem_toArray, List.getElem_cons_zero, List.getElem_cons_succ, List.setIfInBounds_toArray, List.set_cons_zero, List.set_cons_succ]
            refine wpAnyH_take (i := 8) (v := ?_) rfl (by kernel_rfl) (by kernel_rfl) (by kernel_rfl) (fun _ _ _ h => h) (Or.inl ⟨by rfl, ?_⟩) (by assumption) ?_
            rotate_left
            · (intro w hSw; (have hSb := hSw; clear hSw; have c0 := (HSD.out.go hSb).c0; have c1 := (HSD.out.go hSb).c1; have c2 := (HSD.out.go hSb).c2; have c3 := (HSD.out.go hSb).c3; have c4 := (HSD.out.go hSb).c4; simp only at c0 c1 c2 c3 c4; have kk := HKD.out _ hSb; clear hSb); go_simp; (try with_reducible rfl))
            try simp only [Act.put, List.getElem_toArray, List.getElem_cons_zero, List.getElem_cons_succ, List.setIfInBounds_toArray, List.set_cons_zero, List.set_cons_succ]
            refine wpAnyH_take (i := 9) (v := ?_) rfl (by kernel_rfl) (by kernel_rfl) (by kernel_rfl) (fun _ _ _ h => h) (Or.inl ⟨by rfl, ?_⟩) (by assumption) ?_
            rotate_left
            · (intro w hSw; (have hSb := hSw; clear hSw; have c0 := (HSD.out.go hSb).c0; have c1 := (HSD.out.go hSb).c1; have c2 := (HSD.out.go hSb).c2; have c3 := (HSD.out.go hSb).c3; have c4 := (HSD.out.go hSb).c4; simp only at c0 c1 c2 c3 c4; have kk := HKD.out _ hSb; clear hSb); go_simp; (try with_reducible rfl))
            try simp only [Act.put, List.getElem_toArray, List.getElem_cons_zero, List.getElem_cons_succ, List.setIfInBounds_toArray, List.set_cons_zero, List.set_cons_succ]
            refine wpAnyH_take (i := 10) (v := ?_) rfl (by kernel_rfl) (by kernel_rfl) (by kernel_rfl) (fun _ _ _ h => h) (Or.inl ⟨by rfl, ?_⟩) (by assumption) ?_
            rotate_left
            · (intro w hSw; (have hSb := hSw; clear hSw; have c0 := (HSD.out.go hSb).c0; have c1 := (HSD.out.go hSb).c1; have c2 := (HSD.out.go hSb).c2; have c3 := (HSD.out.go hSb).c3; have c4 := (HSD.out.go hSb).c4; simp only at c0 c1 c2 c3 c4; have kk := HKD.out _ hSb; clear hSb); go_simp; (try with_reducible rfl))
            try simp only [Act.put, List.getElem_toArray, List.getElem_cons_zero, List.getElem_cons_succ, List.setIfInBounds_toArray, List.set_cons_zero, List.set_cons_succ]
            refine wpAnyH_ready (rs := [12]) (by kernel_rfl) (by simp) ?_
            refine AllReadyH.cons rfl (fun K hK => ?_) AllReadyH.nil
            rw [if_pos (by rfl)]
            go_simp
            refine hK.out _ _ ?_ (fun hHeld => ?_)
            · exact below_five HB3.out (b := wr.heap.size) (Nat.le_refl _) (.slice ua un uc) (.int .u64 f') (.int .i64 t') (.int .i64 o') (.int .i64 i')
            clear hK K
            try simp only [Act.put, List.getElem_toArray, List.getElem_cons_zero, List.getElem_cons_succ, List.setIfInBounds_toArray, List.set_cons_zero, List.set_cons_succ]
            refine wpAnyH_take (i := 13) (v := ?_) rfl (by kernel_rfl) (by kernel_rfl) (by kernel_rfl) (fun _ _ _ h => h) (Or.inl ⟨by rfl, ?_⟩) (by assumption) ?_
            rotate_left
            · (intro w hSw; (have hSb := hSw; clear hSw; have c0 := (HSD.out.go hSb).c0; have c1 := (HSD.out.go hSb).c1; have c2 := (HSD.out.go hSb).c2; have c3 := (HSD.out.go hSb).c3; have c4 := (HSD.out.go hSb).c4; simp only at c0 c1 c2 c3 c4; have kk := HKD.out _ hSb; clear hSb); go_simp; (try with_reducible rfl))
            try simp only [Act.put, List.getElem_toArray, List.getElem_cons_zero, List.getElem_cons_succ, List.setIfInBounds_toArray, List.set_cons_zero, List.set_cons_succ]
            refine wpAnyH_done (by kernel_rfl) (NoPanic.normal ?_) _
            go_wp2_with fail
            go_meet
            case rel => exact ⟨_, _, ⟨l', f', t', o', i'⟩, rfl, rfl, ⟨five_put HZ.out (.slice ua un uc) (.int .u64 f') (.int .i64 t') (.int .i64 o') (.int .i64 i'), rd_five HR3.out HNB.out (.slice ua un uc) (.int .u64 f') (.int .i64 t') (.int .i64 o') (.int .i64 i'), HNB.out⟩, ⟨_, HP.out⟩, HQ.out, hHd.out.trans hHeld⟩
        case rest =>
          obtain ⟨b, u, s1, rfl, rfl, hsb, hP, hq, hb⟩ := hcut
          obtain ⟨ua, uc, rfl, _⟩ := id hsb.rd
          obtain ⟨un, hun⟩ : ∃ n, s1.l.length = n := ⟨_, rfl⟩
          rw [hun] at hsb hq
          have HSG := Lib.hid (HSB.out.go hb)
          have HM1 := Lib.hid (HMP.out.go hb)
          have HB1 := Lib.hid (HBB.out.trans (hb.mono HBB.out.size))
          have kk := HK.out wc HB1.out
          obtain ⟨l1, hG⟩ := hP
          obtain ⟨hon2, hc0, hne, htop⟩ := HON.out.yes hx0 HSH.out hG
          have ho0 : s1.ow = 0 := by rw [hG.ow, if_neg (by decide)]
          obtain ⟨top2, htp⟩ : ∃ t, max top x = t := ⟨_, rfl⟩
          have ht2 : -1 ≤ top2 ∧ top2 ≤ 65535 := by omega
          rw [htp] at hon2 htop
          have htn : 0 ≤ top2 := by
            rw [htop]
            exact (mem_bound hon2.inv.can (last_mem hon2.inv.can hne)).1
          have hun32 : un ≤ 32 := by rw [← hun]; exact hon2.inv.len
          have HON2 := Lib.hid hon2
          have HNE := Lib.hid hne
          have HTOP := Lib.hid htop
          have HLU := Lib.hid hun
          obtain ⟨l', f', t', o', i'⟩ := s1
          try simp only at ho0
          subst ho0
          have HSN : Hid (Sb wc b (.slice ua un uc) ⟨l', f', t', 0, i'⟩) := Lib.hid hsb
          have hgb : g < wr.heap.size := hgl
          have HNG : Hid (¬ Blk (.slice ua un uc) g) := Lib.hid (fun h => by have := hq g h; omega)
          have hnbg : ¬ b = g + 1 := fun e => by have := HM1.out.off hsb; omega
          obtain ⟨D, hown, hat⟩ := HM1.out
          have HAT := Lib.hid hat
          have HL1 : Hid (∀ c, D.atKey (.int .u16 x) (.lit (.int .i64 0)) = .lit (.int .i64 c) → c = 0) := Lib.hid (fun c h => by rw [HAT.out, hc0] at h; injection h with h; injection h with h1 h2; exact h2.symm)
          have HCL := Lib.hid (And.intro hc0 hG)
          have HDM := Lib.hid hown.isMap
          clear hsb hq hb hG hc0 hon2 hne htop hat hun HM1 KG HSD HKD
          by_cases htx : top < x
          · go_upto_region 12 with (first | (at_lookup; refine wpList_lookup_own_int _ rfl _ _ 29 rfl 32 3 .i64 law16 Try.underlying29 Try.underlying3 (zeroI _) (g + 1) k D rfl hown _ _ rfl HKEY.out ?_; intro c1 hatc1 hwcc1; have hc1 := HL1.out c1 hatc1) | (at_mapUpdate; refine wpList_mapUpdate_own _ rfl _ _ _ 29 rfl 32 3 law16 Try.underlying29 _ (g + 1) k D rfl hown (by unfold maxLen; omega) _ _ _ rfl rfl HKEY.out _ [] (plainElem_int Try.underlying3 (a := 1) (by decide)) ?_; intro w5 hown5 hgrow5))
            have HOW := Lib.hid (Only.of_grown (O := fun q => q = g + 1) hgrow5 (fun k h => by cases h; rfl))
            have HMW : Hid (Mp w5 (g + 1) (k + 1) (fun y => if y = x then 1 else cnt y)) := Lib.hid ⟨_, hown5, fun y => by
              by_cases hy : y = x
              · subst hy
                rw [atKey_put_same HDM.out (by exact trivial)]
                simp
              · rw [atKey_put_other (by intro h; injection h with h1 h2; exact hy h2), HAT.out]
                simp [hy]⟩
            have hmheap := HMW.out.heap
            obtain ⟨mes, mck, hmh⟩ := hmheap
            have HMH : Hid (∃ es c, wc.heap[g + 1]? = some (.map es c)) := Lib.hid (Mp.heap ⟨D, hown, HAT.out⟩)
            have HSN5 := Lib.hid (HSN.out.only HOW.out hnbg (fun q hq h => by
              obtain ⟨es, c, h5⟩ := HMH.out
              have h : q = g + 1 := h
              subst h
              exact rd_off HSN.out.rd h5 hq))
            have HSG5 := Lib.hid (HSG.out.only HOW.out (by omega) (fun q hq h => by
              obtain ⟨es, c, h5⟩ := HMH.out
              have h : q = g + 1 := h
              subst h
              exact rd_off HSG.out.rd h5 hq))
            have HB5 := Lib.hid (HB1.out.trans (below_only HOW.out HB1.out.size (fun q h => by have h : q = g + 1 := h; omega)))
            have HL2 : Hid (∀ D5 : DataW Unit, (∀ y, D5.atKey (.int .u16 y) (.lit (.int .i64 0)) = .lit (.int .i64 (if y = x then 1 else cnt y))) → ∀ c, D5.atKey (.int .u16 x) (.lit (.int .i64 0)) = .lit (.int .i64 c) → c = 1) := Lib.hid (fun D5 h5 c h => by rw [h5, if_pos rfl] at h; injection h with h; injection h with h1 h2; exact h2.symm)
            obtain ⟨D5, hown6, hat6⟩ := HMW.out
            have HL3 := Lib.hid (HL2.out D5 hat6)
            have kk5 : w5.cell? ⟨ab, ao + k, none⟩ = some (.int .u16 x) := HK.out w5 HB5.out
            clear hown5 hgrow5 hatc1 hwcc1 hc1 kk hat6 hmh HL2
            go_upto_region 15 with ((at_lookup; refine wpList_lookup_own_int _ rfl _ _ 29 rfl 32 3 .i64 law16 Try.underlying29 Try.underlying3 (zeroI _) (g + 1) (k + 1) D5 rfl hown6 _ _ rfl HKEY.out ?_; intro c2 hatc2 hwcc2; have hc2 := HL3.out c2 hatc2))
            have y0 := HSN5.out.c0
            have y1 := HSN5.out.c1
            have y2 := HSN5.out.c2
            have y3 := HSN5.out.c3
            have y4 := HSN5.out.c4
            simp only at y0 y1 y2 y3 y4
            have z0 := HSG5.out.c0
            have z1 := HSG5.out.c1
            have z2 := HSG5.out.c2
            have z3 := HSG5.out.c3
            have z4 := HSG5.out.c4
            simp only at z0 z1 z2 z3 z4
            have zf : ∀ k, w5.frozen? ⟨g, k, none⟩ = false := HSG5.out.fz
            have HSF : Hid (Sb ((((((w5).setCell ⟨g, 0, none⟩ (.slice ua un uc)).setCell ⟨g, 1, none⟩ (.int .u64 f')).setCell ⟨g, 2, none⟩ (.int .i64 t')).setCell ⟨g, 3, none⟩ (.int .i64 0)).setCell ⟨g, 4, none⟩ (.int .i64 i')) g (.slice ua un uc) ⟨l', f', t', 0, i'⟩) := Lib.hid ⟨five_put HSG5.out.hb (.slice ua un uc) (.int .u64 f') (.int .i64 t') (.int .i64 0) (.int .i64 i'), rd_five HSN5.out.rd HNG.out (.slice ua un uc) (.int .u64 f') (.int .i64 t') (.int .i64 0) (.int .i64 i'), HNG.out⟩
            have HBF := Lib.hid (below_five HB5.out (b := g) hgw (.slice ua un uc) (.int .u64 f') (.int .i64 t') (.int .i64 0) (.int .i64 i'))
            have HMF := Lib.hid (HMW.out.five (g := g) (by omega) (.slice ua un uc) (.int .u64 f') (.int .i64 t') (.int .i64 0) (.int .i64 i'))
            have hlg : ¬ (32 : Int) < (un : Int) := by omega
            have v3 : IntKind.i64.wrap top2 = top2 := IntWalk.i64_in _ (by omega)
            have CL := Lib.hid (fun W h => largest_any (.slice ua un uc) l' f' t' 0 i' W (by have := HLU.out; simp only at this; omega) h HNE.out)
            have CM := Lib.hid (fun W h => may' (.slice ua un uc) l' W (by have := HLU.out; simp only at this; omega) HON2.out.inv.can h)
            have htop9 : lastHi l' = top2 := HTOP.out.symm
            rw [htop9] at CL
            go_upto_region 16 with (fail)
            generalize ((((((w5).setCell ⟨g, 0, none⟩ (.slice ua un uc)).setCell ⟨g, 1, none⟩ (.int .u64 f')).setCell ⟨g, 2, none⟩ (.int .i64 t')).setCell ⟨g, 3, none⟩ (.int .i64 0)).setCell ⟨g, 4, none⟩ (.int .i64 i')) = W6 at *
            clear y0 y1 y2 y3 y4 z0 z1 z2 z3 z4 zf
            have y0 := HSF.out.c0
            have y1 := HSF.out.c1
            have y2 := HSF.out.c2
            have y3 := HSF.out.c3
            have y4 := HSF.out.c4
            simp only at y0 y1 y2 y3 y4
            go_wp2_with fail
            with_reducible refine (CL.out _ HSF.out.rd).mono ?_
            rintro e w7 ⟨rfl, hb⟩
            replace HSF := Lib.hid (HSF.out.go hb)
            replace HBF := Lib.hid (HBF.out.trans (hb.mono HBF.out.size))
            replace HMF := Lib.hid (HMF.out.go hb)
            clear y0 y1 y2 y3 y4 hb
            have y0 := HSF.out.c0
            have y1 := HSF.out.c1
            have y2 := HSF.out.c2
            have y3 := HSF.out.c3
            have y4 := HSF.out.c4
            simp only at y0 y1 y2 y3 y4
            go_wp2_with fail
            with_reducible refine (CM.out _ HSF.out.rd).mono ?_
            rintro e w8 ⟨rfl, hb⟩
            replace HSF := Lib.hid (HSF.out.go hb)
            replace HBF := Lib.hid (HBF.out.trans (hb.mono HBF.out.size))
            replace HMF := Lib.hid (HMF.out.go hb)
            clear y0 y1 y2 y3 y4 hb
            go_wp2_with fail
            go_roundw
            case rel => exact ⟨k + 1, _, _, _, _, by omega, by go_num, rfl, HON2.out, rfl, ht2, HSF.out, HMF.out, HBF.out⟩
            case measure => simp [intOf]; omega
          · go_upto_region 12 with (first | (at_lookup; refine wpList_lookup_own_int _ rfl _ _ 29 rfl 32 3 .i64 law16 Try.underlying29 Try.underlying3 (zeroI _) (g + 1) k D rfl hown _ _ rfl HKEY.out ?_; intro c1 hatc1 hwcc1; have hc1 := HL1.out c1 hatc1) | (at_mapUpdate; refine wpList_mapUpdate_own _ rfl _ _ _ 29 rfl 32 3 law16 Try.underlying29 _ (g + 1) k D rfl hown (by unfold maxLen; omega) _ _ _ rfl rfl HKEY.out _ [] (plainElem_int Try.underlying3 (a := 1) (by decide)) ?_; intro w5 hown5 hgrow5))
            have HOW := Lib.hid (Only.of_grown (O := fun q => q = g + 1) hgrow5 (fun k h => by cases h; rfl))
            have HMW : Hid (Mp w5 (g + 1) (k + 1) (fun y => if y = x then 1 else cnt y)) := Lib.hid ⟨_, hown5, fun y => by
              by_cases hy : y = x
              · subst hy
                rw [atKey_put_same HDM.out (by exact trivial)]
                simp
              · rw [atKey_put_other (by intro h; injection h with h1 h2; exact hy h2), HAT.out]
                simp [hy]⟩
            have hmheap := HMW.out.heap
            obtain ⟨mes, mck, hmh⟩ := hmheap
            have HMH : Hid (∃ es c, wc.heap[g + 1]? = some (.map es c)) := Lib.hid (Mp.heap ⟨D, hown, HAT.out⟩)
            have HSN5 := Lib.hid (HSN.out.only HOW.out hnbg (fun q hq h => by
              obtain ⟨es, c, h5⟩ := HMH.out
              have h : q = g + 1 := h
              subst h
              exact rd_off HSN.out.rd h5 hq))
            have HSG5 := Lib.hid (HSG.out.only HOW.out (by omega) (fun q hq h => by
              obtain ⟨es, c, h5⟩ := HMH.out
              have h : q = g + 1 := h
              subst h
              exact rd_off HSG.out.rd h5 hq))
            have HB5 := Lib.hid (HB1.out.trans (below_only HOW.out HB1.out.size (fun q h => by have h : q = g + 1 := h; omega)))
            have HL2 : Hid (∀ D5 : DataW Unit, (∀ y, D5.atKey (.int .u16 y) (.lit (.int .i64 0)) = .lit (.int .i64 (if y = x then 1 else cnt y))) → ∀ c, D5.atKey (.int .u16 x) (.lit (.int .i64 0)) = .lit (.int .i64 c) → c = 1) := Lib.hid (fun D5 h5 c h => by rw [h5, if_pos rfl] at h; injection h with h; injection h with h1 h2; exact h2.symm)
            obtain ⟨D5, hown6, hat6⟩ := HMW.out
            have HL3 := Lib.hid (HL2.out D5 hat6)
            have kk5 : w5.cell? ⟨ab, ao + k, none⟩ = some (.int .u16 x) := HK.out w5 HB5.out
            clear hown5 hgrow5 hatc1 hwcc1 hc1 kk hat6 hmh HL2
            go_upto_region 15 with ((at_lookup; refine wpList_lookup_own_int _ rfl _ _ 29 rfl 32 3 .i64 law16 Try.underlying29 Try.underlying3 (zeroI _) (g + 1) (k + 1) D5 rfl hown6 _ _ rfl HKEY.out ?_; intro c2 hatc2 hwcc2; have hc2 := HL3.out c2 hatc2))
            have y0 := HSN5.out.c0
            have y1 := HSN5.out.c1
            have y2 := HSN5.out.c2
            have y3 := HSN5.out.c3
            have y4 := HSN5.out.c4
            simp only at y0 y1 y2 y3 y4
            have z0 := HSG5.out.c0
            have z1 := HSG5.out.c1
            have z2 := HSG5.out.c2
            have z3 := HSG5.out.c3
            have z4 := HSG5.out.c4
            simp only at z0 z1 z2 z3 z4
            have zf : ∀ k, w5.frozen? ⟨g, k, none⟩ = false := HSG5.out.fz
            have HSF : Hid (Sb ((((((w5).setCell ⟨g, 0, none⟩ (.slice ua un uc)).setCell ⟨g, 1, none⟩ (.int .u64 f')).setCell ⟨g, 2, none⟩ (.int .i64 t')).setCell ⟨g, 3, none⟩ (.int .i64 0)).setCell ⟨g, 4, none⟩ (.int .i64 i')) g (.slice ua un uc) ⟨l', f', t', 0, i'⟩) := Lib.hid ⟨five_put HSG5.out.hb (.slice ua un uc) (.int .u64 f') (.int .i64 t') (.int .i64 0) (.int .i64 i'), rd_five HSN5.out.rd HNG.out (.slice ua un uc) (.int .u64 f') (.int .i64 t') (.int .i64 0) (.int .i64 i'), HNG.out⟩
            have HBF := Lib.hid (below_five HB5.out (b := g) hgw (.slice ua un uc) (.int .u64 f') (.int .i64 t') (.int .i64 0) (.int .i64 i'))
            have HMF := Lib.hid (HMW.out.five (g := g) (by omega) (.slice ua un uc) (.int .u64 f') (.int .i64 t') (.int .i64 0) (.int .i64 i'))
            have hlg : ¬ (32 : Int) < (un : Int) := by omega
            have v3 : IntKind.i64.wrap top2 = top2 := IntWalk.i64_in _ (by omega)
            have CL := Lib.hid (fun W h => largest_any (.slice ua un uc) l' f' t' 0 i' W (by have := HLU.out; simp only at this; omega) h HNE.out)
            have CM := Lib.hid (fun W h => may' (.slice ua un uc) l' W (by have := HLU.out; simp only at this; omega) HON2.out.inv.can h)
            have htop9 : lastHi l' = top2 := HTOP.out.symm
            rw [htop9] at CL
            go_upto_region 16 with (fail)
            generalize ((((((w5).setCell ⟨g, 0, none⟩ (.slice ua un uc)).setCell ⟨g, 1, none⟩ (.int .u64 f')).setCell ⟨g, 2, none⟩ (.int .i64 t')).setCell ⟨g, 3, none⟩ (.int .i64 0)).setCell ⟨g, 4, none⟩ (.int .i64 i')) = W6 at *
            clear y0 y1 y2 y3 y4 z0 z1 z2 z3 z4 zf
            have y0 := HSF.out.c0
            have y1 := HSF.out.c1
            have y2 := HSF.out.c2
            have y3 := HSF.out.c3
            have y4 := HSF.out.c4
            simp only at y0 y1 y2 y3 y4
            go_wp2_with fail
            with_reducible refine (CL.out _ HSF.out.rd).mono ?_
            rintro e w7 ⟨rfl, hb⟩
            replace HSF := Lib.hid (HSF.out.go hb)
            replace HBF := Lib.hid (HBF.out.trans (hb.mono HBF.out.size))
            replace HMF := Lib.hid (HMF.out.go hb)
            clear y0 y1 y2 y3 y4 hb
            have y0 := HSF.out.c0
            have y1 := HSF.out.c1
            have y2 := HSF.out.c2
            have y3 := HSF.out.c3
            have y4 := HSF.out.c4
            simp only at y0 y1 y2 y3 y4
            go_wp2_with fail
            with_reducible refine (CM.out _ HSF.out.rd).mono ?_
            rintro e w8 ⟨rfl, hb⟩
            replace HSF := Lib.hid (HSF.out.go hb)
            replace HBF := Lib.hid (HBF.out.trans (hb.mono HBF.out.size))
            replace HMF := Lib.hid (HMF.out.go hb)
            clear y0 y1 y2 y3 y4 hb
            go_wp2_with fail
            go_roundw
            case rel => exact ⟨k + 1, _, _, _, _, by omega, by go_num, rfl, HON2.out, rfl, ht2, HSF.out, HMF.out, HBF.out⟩
            case measure => simp [intOf]; omega
      | true =>
        obtain ⟨l, fl, tp, ow, si⟩ := s
        try simp only at how
        subst how
        have HLM : Hid (l.length = m) := Lib.hid hm
        have KG := Lib.hid (fun W h => got_no va m vc ⟨l, fl, tp, 0, si⟩ x false (k : Int) W HLM.out (by omega) hcan h hsh)
        try simp only at KG
        have HSH := Lib.hid hsh
        clear hsb hbb hon hmp hcan hm hsh
        go_wp2_with fail
        go_cut [7, 8] from 27 to 38 (fun v7 v8 W => ∃ (b : Nat) (u : Value) (s1 : St), v7 = .pointer (some ⟨b, 0, none⟩) ∧ v8 = .bool false ∧ Sb W b u s1 ∧ s1 = ⟨l, fl, tp, 0, si⟩ ∧ (∀ q, Blk u q → wr.heap.size ≤ q) ∧ Below wr.heap.size wr W)
        case first =>
          refine wp_region_noPanic ?_
          refine wp_region_held_drew (S := fun W : World => Below wr.drew.heap.size wr.drew W) (by kernel_rfl) ?_ (fun hHeld => ?_)
          · exact Below.refl wr.drew.heap.size wr.drew
          refine wpAnyH_take (i := 0) (v := ?_) rfl (by kernel_rfl) (by kernel_rfl) (by kernel_rfl) (fun _ _ _ h => h) (Or.inl ⟨by rfl, ?_⟩) (by assumption) ?_
          rotate_left
          · (intro w hSw; (have hSb := hSw; clear hSw; have c0 := (HSD.out.go hSb).c0; have c1 := (HSD.out.go hSb).c1; have c2 := (HSD.out.go hSb).c2; have c3 := (HSD.out.go hSb).c3; have c4 := (HSD.out.go hSb).c4; simp only at c0 c1 c2 c3 c4; have kk := HKD.out _ hSb; clear hSb); go_simp; (try with_reducible rfl))
          try simp only [Act.put, List.getElem_toArray, List.getElem_cons_zero, List.getElem_cons_succ, List.setIfInBounds_toArray, List.set_cons_zero, List.set_cons_succ]
          refine wpAnyH_take (i := 1) (v := ?_) rfl (by kernel_rfl) (by kernel_rfl) (by kernel_rfl) (fun _ _ _ h => h) (Or.inl ⟨by rfl, ?_⟩) (by assumption) ?_
          rotate_left
          · (intro w hSw; (have hSb := hSw; clear hSw; have c0 := (HSD.out.go hSb).c0; have c1 := (HSD.out.go hSb).c1; have c2 := (HSD.out.go hSb).c2; have c3 := (HSD.out.go hSb).c3; have c4 := (HSD.out.go hSb).c4; simp only at c0 c1 c2 c3 c4; have kk := HKD.out _ hSb; clear hSb); go_simp; (try with_reducible rfl))
          try simp only [Act.put, List.getElem_toArray, List.getElem_cons_zero, List.getElem_cons_succ, List.setIfInBounds_toArray, List.set_cons_zero, List.set_cons_succ]
          refine wpAnyH_take (i := 2) (v := ?_) rfl (by kernel_rfl) (by kernel_rfl) (by kernel_rfl) (fun _ _ _ h => h) (Or.inl ⟨by rfl, ?_⟩) (by assumption) ?_
          rotate_left
          · (intro w hSw; (have hSb := hSw; clear hSw; have c0 := (HSD.out.go hSb).c0; have c1 := (HSD.out.go hSb).c1; have c2 := (HSD.out.go hSb).c2; have c3 := (HSD.out.go hSb).c3; have c4 := (HSD.out.go hSb).c4; simp only at c0 c1 c2 c3 c4; have kk := HKD.out _ hSb; clear hSb); go_simp; (try with_reducible rfl))
          try simp only [Act.put, List.getElem_toArray, List.getElem_cons_zero, List.getElem_cons_succ, List.setIfInBounds_toArray, List.set_cons_zero, List.set_cons_succ]
          refine wpAnyH_take (i := 3) (v := ?_) rfl (by kernel_rfl) (by kernel_rfl) (by kernel_rfl) (fun _ _ _ h => h) (Or.inl ⟨by rfl, ?_⟩) (by assumption) ?_
          rotate_left
          · (intro w hSw; (have hSb := hSw; clear hSw; have c0 := (HSD.out.go hSb).c0; have c1 := (HSD.out.go hSb).c1; have c2 := (HSD.out.go hSb).c2; have c3 := (HSD.out.go hSb).c3; have c4 := (HSD.out.go hSb).c4; simp only at c0 c1 c2 c3 c4; have kk := HKD.out _ hSb; clear hSb); go_simp; (try with_reducible rfl))
          try simp only [Act.put, List.getElem_toArray, List.getElem_cons_zero, List.getElem_cons_succ, List.setIfInBounds_toArray, List.set_cons_zero, List.set_cons_succ]
          refine wpAnyH_take (i := 4) (v := ?_) rfl (by kernel_rfl) (by kernel_rfl) (by kernel_rfl) (fun _ _ _ h => h) (Or.inl ⟨by rfl, ?_⟩) (by assumption) ?_
          rotate_left
          · (intro w hSw; (have hSb := hSw; clear hSw; have c0 := (HSD.out.go hSb).c0; have c1 := (HSD.out.go hSb).c1; have c2 := (HSD.out.go hSb).c2; have c3 := (HSD.out.go hSb).c3; have c4 := (HSD.out.go hSb).c4; simp only at c0 c1 c2 c3 c4; have kk := HKD.out _ hSb; clear hSb); go_simp; (try with_reducible rfl))
          try simp only [Act.put, List.getElem_toArray, List.getElem_cons_zero, List.getElem_cons_succ, List.setIfInBounds_toArray, List.set_cons_zero, List.set_cons_succ]
          refine wpAnyH_take (i := 5) (v := ?_) rfl (by kernel_rfl) (by kernel_rfl) (by kernel_rfl) (fun _ _ _ h => h) (Or.inl ⟨by rfl, ?_⟩) (by assumption) ?_
          rotate_left
          · (intro w hSw; (have hSb := hSw; clear hSw; have c0 := (HSD.out.go hSb).c0; have c1 := (HSD.out.go hSb).c1; have c2 := (HSD.out.go hSb).c2; have c3 := (HSD.out.go hSb).c3; have c4 := (HSD.out.go hSb).c4; simp only at c0 c1 c2 c3 c4; have kk := HKD.out _ hSb; clear hSb); go_simp; (try with_reducible rfl))
          try simp only [Act.put, List.getElem_toArray, List.getElem_cons_zero, List.getElem_cons_succ, List.setIfInBounds_toArray, List.set_cons_zero, List.set_cons_succ]
          refine wpAnyH_take (i := 6) (v := ?_) rfl (by kernel_rfl) (by kernel_rfl) (by kernel_rfl) (fun _ _ _ h => h) (Or.inl ⟨by rfl, ?_⟩) (by assumption) ?_
          rotate_left
          · (intro w hSw; (have hSb := hSw; clear hSw; have c0 := (HSD.out.go hSb).c0; have c1 := (HSD.out.go hSb).c1; have c2 := (HSD.out.go hSb).c2; have c3 := (HSD.out.go hSb).c3; have c4 := (HSD.out.go hSb).c4; simp only at c0 c1 c2 c3 c4; have kk := HKD.out _ hSb; clear hSb); go_simp; (try with_reducible rfl))
          try simp only [Act.put, List.getElem_toArray, List.getElem_cons_zero, List.getElem_cons_succ, List.setIfInBounds_toArray, List.set_cons_zero, List.set_cons_succ]
          refine wpAnyH_ready (rs := [7, 11]) (by kernel_rfl) (by simp) ?_
          refine AllReadyH.cons rfl (fun K hK => ?_) (AllReadyH.cons rfl (fun K hK => ?_) AllReadyH.nil)
          · rw [if_pos (by rfl)]
            go_simp
            refine (KG.out wr.drew (HSD.out.rd.go (Below.refl _ _))).mono ?_
            rintro e w3 ⟨u, rfl, hr, hq, hb⟩
            obtain ⟨ua, uc, rfl, _⟩ := id hr
            try simp only at hr
            try simp only at hq
            have hll : l.length = m := HLM.out
            rw [hll] at hr hq
            try simp only [hll]
            have HQ : Hid (∀ q, Blk (.slice ua m uc) q → wr.heap.size ≤ q) := Lib.hid (fun q h => Nat.le_trans (by simp) (hq q h))
            clear hll
            have HR3 := Lib.hid hr
            have HB3 := Lib.hid hb
            have HNB : Hid (¬ Blk (.slice ua m uc) w3.heap.size) := Lib.hid (fun h => by have := hr.blk h; omega)
            clear hr hq hb
            refine hK.out _ _ ?_ (fun hHeld => ?_)
            · exact HB3.out
            clear hK K
            try simp only [Act.put, List.getElem_toArray, List.getElem_cons_zero, List.getElem_cons_succ, List.setIfInBounds_toArray, List.set_cons_zero, List.set_cons_succ]
            refine wpAnyH_take (i := 8) (v := ?_) rfl (by kernel_rfl) (by kernel_rfl) (by kernel_rfl) (fun _ _ _ h => h) (Or.inl ⟨by rfl, ?_⟩) (by assumption) ?_
            rotate_left
            · (intro w hSw; (have hSb := hSw; clear hSw; have c0 := (HSD.out.go hSb).c0; have c1 := (HSD.out.go hSb).c1; have c2 := (HSD.out.go hSb).c2; have c3 := (HSD.out.go hSb).c3; have c4 := (HSD.out.go hSb).c4; simp only at c0 c1 c2 c3 c4; have kk := HKD.out _ hSb; clear hSb); go_simp; (try with_reducible rfl))
            try simp only [Act.put, List.getElem_toArray, List.getElem_cons_zero, List.getElem_cons_succ, List.setIfInBounds_toArray, List.set_cons_zero, List.set_cons_succ]
            refine wpAnyH_take (i := 9) (v := ?_) rfl (by kernel_rfl) (by kernel_rfl) (by kernel_rfl) (fun _ _ _ h => h) (Or.inl ⟨by rfl, ?_⟩) (by assumption) ?_
            rotate_left
            · (intro w hSw; (have hSb := hSw; clear hSw; have c0 := (HSD.out.go hSb).c0; have c1 := (HSD.out.go hSb).c1; have c2 := (HSD.out.go hSb).c2; have c3 := (HSD.out.go hSb).c3; have c4 := (HSD.out.go hSb).c4; simp only at c0 c1 c2 c3 c4; have kk := HKD.out _ hSb; clear hSb); go_simp; (try with_reducible rfl))
            try simp only [Act.put, List.getElem_toArray, List.getElem_cons_zero, List.getElem_cons_succ, List.setIfInBounds_toArray, List.set_cons_zero, List.set_cons_succ]
            refine wpAnyH_take (i := 10) (v := ?_) rfl (by kernel_rfl) (by kernel_rfl) (by kernel_rfl) (fun _ _ _ h => h) (Or.inl ⟨by rfl, ?_⟩) (by assumption) ?_
            rotate_left
            · (intro w hSw; (have hSb := hSw; clear hSw; have c0 := (HSD.out.go hSb).c0; have c1 := (HSD.out.go hSb).c1; have c2 := (HSD.out.go hSb).c2; have c3 := (HSD.out.go hSb).c3; have c4 := (HSD.out.go hSb).c4; simp only at c0 c1 c2 c3 c4; have kk := HKD.out _ hSb; clear hSb); go_simp; (try with_reducible rfl))
            try simp only [Act.put, List.getElem_toArray, List.getElem_cons_zero, List.getElem_cons_succ, List.setIfInBounds_toArray, List.set_cons_zero, List.set_cons_succ]
            refine wpAnyH_ready (rs := [11]) (by kernel_rfl) (by simp) ?_
            refine AllReadyH.cons rfl (fun K hK => ?_) AllReadyH.nil
            rw [if_pos (by rfl)]
            go_simp
            refine hK.out _ _ ?_ (fun hHeld => ?_)
            · exact HB3.out.alloc HB3.out.size _
            clear hK K
            try simp only [Act.put, List.getElem_toArray, List.getElem_cons_zero, List.getElem_cons_succ, List.setIfInBounds_toArray, List.set_cons_zero, List.set_cons_succ]
            refine wpAnyH_ready (rs := [12]) (by kernel_rfl) (by simp) ?_
            refine AllReadyH.cons rfl (fun K hK => ?_) AllReadyH.nil
            rw [if_pos (by rfl)]
            go_simp
            refine hK.out _ _ ?_ (fun hHeld => ?_)
            · exact HB3.out.alloc HB3.out.size _
            clear hK K
            try simp only [Act.put, List.getElem_toArray, List.getElem_cons_zero, List.getElem_cons_succ, List.setIfInBounds_toArray, List.set_cons_zero, List.set_cons_succ]
            refine wpAnyH_take (i := 13) (v := ?_) rfl (by kernel_rfl) (by kernel_rfl) (by kernel_rfl) (fun _ _ _ h => h) (Or.inl ⟨by rfl, ?_⟩) (by assumption) ?_
            rotate_left
            · (intro w hSw; (have hSb := hSw; clear hSw; have c0 := (HSD.out.go hSb).c0; have c1 := (HSD.out.go hSb).c1; have c2 := (HSD.out.go hSb).c2; have c3 := (HSD.out.go hSb).c3; have c4 := (HSD.out.go hSb).c4; simp only at c0 c1 c2 c3 c4; have kk := HKD.out _ hSb; clear hSb); go_simp; (try with_reducible rfl))
            try simp only [Act.put, List.getElem_toArray, List.getElem_cons_zero, List.getElem_cons_succ, List.setIfInBounds_toArray, List.set_cons_zero, List.set_cons_succ]
            refine wpAnyH_done (by kernel_rfl) (NoPanic.normal ?_) _
            go_wp2_with fail
            go_meet
            case rel => exact ⟨_, _, ⟨l, fl, tp, 0, si⟩, rfl, rfl, ⟨heap_alloc_new w3 _, HR3.out.go ((Below.refl _ _).alloc (Nat.le_refl _) _), HNB.out⟩, rfl, HQ.out, hHd.out.trans hHeld⟩
          · rw [if_pos (by rfl)]
            go_simp
            refine hK.out _ _ ?_ (fun hHeld => ?_)
            · exact (Below.refl wr.drew.heap.size wr.drew).alloc (Nat.le_refl _) _
            clear hK K
            try simp only [Act.put, List.getElem_toArray, List.getElem_cons_zero, List.getElem_cons_succ, List.setIfInBounds_toArray, List.set_cons_zero, List.set_cons_succ]
            refine wpAnyH_ready (rs := [7]) (by kernel_rfl) (by simp) ?_
            refine AllReadyH.cons rfl (fun K hK => ?_) AllReadyH.nil
            rw [if_pos (by rfl)]
            go_simp
            refine (KG.out (wr.drew.alloc (.cells #[.slice none 0 0, .int .u64 0, .int .i64 0, .int .i64 0, .int .i64 0] 28)) (HSD.out.rd.go ((Below.refl _ _).alloc (Nat.le_refl _) _))).mono ?_
            rintro e w3 ⟨u, rfl, hr, hq, hb⟩
            obtain ⟨ua, uc, rfl, _⟩ := id hr
            try simp only at hr
            try simp only at hq
            have hll : l.length = m := HLM.out
            rw [hll] at hr hq
            try simp only [hll]
            have HQ : Hid (∀ q, Blk (.slice ua m uc) q → wr.heap.size ≤ q) := Lib.hid (fun q h => Nat.le_trans (by simp) (hq q h))
            clear hll
            have HR3 := Lib.hid hr
            have HB3 := Lib.hid (next ((Below.refl wr.drew.heap.size wr.drew).alloc (Nat.le_refl _) (.cells #[.slice none 0 0, .int .u64 0, .int .i64 0, .int .i64 0, .int .i64 0] 28)) hb)
            have HZ : Hid (Zb w3 wr.heap.size 28) := Lib.hid (Zb.go (heap_alloc_new wr.drew (.cells #[.slice none 0 0, .int .u64 0, .int .i64 0, .int .i64 0, .int .i64 0] 28)) hb)
            have HNB : Hid (¬ Blk (.slice ua m uc) wr.heap.size) := Lib.hid (fun h => by have h5 := hq _ h; rw [World.size_alloc] at h5; exact absurd h5 (Nat.not_succ_le_self _))
            have z0 : w3.cell? ⟨wr.heap.size, 0, none⟩ = _ := Lib.cell_of_heap HZ.out 0
            have z1 : w3.cell? ⟨wr.heap.size, 1, none⟩ = _ := Lib.cell_of_heap HZ.out 1
            have z2 : w3.cell? ⟨wr.heap.size, 2, none⟩ = _ := Lib.cell_of_heap HZ.out 2
            have z3 : w3.cell? ⟨wr.heap.size, 3, none⟩ = _ := Lib.cell_of_heap HZ.out 3
            have z4 : w3.cell? ⟨wr.heap.size, 4, none⟩ = _ := Lib.cell_of_heap HZ.out 4
            have zf : ∀ k, w3.frozen? ⟨wr.heap.size, k, none⟩ = false := fun k => Lib.frozen_of_heap HZ.out k
            clear hr hq hb
            refine hK.out _ _ ?_ (fun hHeld => ?_)
            · exact HB3.out
            clear hK K
            try simp only [Act.put, List.getElem_toArray, List.getElem_cons_zero, List.getElem_cons_succ, List.setIfInBounds_toArray, List.set_cons_zero, List.set_cons_succ]
            refine wpAnyH_take (i := 8) (v := ?_) rfl (by kernel_rfl) (by kernel_rfl) (by kernel_rfl) (fun _ _ _ h => h) (Or.inl ⟨by rfl, ?_⟩) (by assumption) ?_
            rotate_left
            · (intro w hSw; (have hSb := hSw; clear hSw; have c0 := (HSD.out.go hSb).c0; have c1 := (HSD.out.go hSb).c1; have c2 := (HSD.out.go hSb).c2; have c3 := (HSD.out.go hSb).c3; have c4 := (HSD.out.go hSb).c4; simp only at c0 c1 c2 c3 c4; have kk := HKD.out _ hSb; clear hSb); go_simp; (try with_reducible rfl))
            try simp only [Act.put, List.getElem_toArray, List.getElem_cons_zero, List.getElem_cons_succ, List.setIfInBounds_toArray, List.set_cons_zero, List.set_cons_succ]
            refine wpAnyH_take (i := 9) (v := ?_) rfl (by kernel_rfl) (by kernel_rfl) (by kernel_rfl) (fun _ _ _ h => h) (Or.inl ⟨by rfl, ?_⟩) (by assumption) ?_
            rotate_left
            · (intro w hSw; (have hSb := hSw; clear hSw; have c0 := (HSD.out.go hSb).c0; have c1 := (HSD.out.go hSb).c1; have c2 := (HSD.out.go hSb).c2; have c3 := (HSD.out.go hSb).c3; have c4 := (HSD.out.go hSb).c4; simp only at c0 c1 c2 c3 c4; have kk := HKD.out _ hSb; clear hSb); go_simp; (try with_reducible rfl))
            try simp only [Act.put, List.getElem_toArray, List.getElem_cons_zero, List.getElem_cons_succ, List.setIfInBounds_toArray, List.set_cons_zero, List.set_cons_succ]
            refine wpAnyH_take (i := 10) (v := ?_) rfl (by kernel_rfl) (by kernel_rfl) (by kernel_rfl) (fun _ _ _ h => h) (Or.inl ⟨by rfl, ?_⟩) (by assumption) ?_
            rotate_left
            · (intro w hSw; (have hSb := hSw; clear hSw; have c0 := (HSD.out.go hSb).c0; have c1 := (HSD.out.go hSb).c1; have c2 := (HSD.out.go hSb).c2; have c3 := (HSD.out.go hSb).c3; have c4 := (HSD.out.go hSb).c4; simp only at c0 c1 c2 c3 c4; have kk := HKD.out _ hSb; clear hSb); go_simp; (try with_reducible rfl))
            try simp only [Act.put, List.getElem_toArray, List.getElem_cons_zero, List.getElem_cons_succ, List.setIfInBounds_toArray, List.set_cons_zero, List.set_cons_succ]
            refine wpAnyH_ready (rs := [12]) (by kernel_rfl) (by simp) ?_
            refine AllReadyH.cons rfl (fun K hK => ?_) AllReadyH.nil
            rw [if_pos (by rfl)]
            go_simp
            refine hK.out _ _ ?_ (fun hHeld => ?_)
            · exact below_five HB3.out (b := wr.heap.size) (Nat.le_refl _) (.slice ua m uc) (.int .u64 fl) (.int .i64 tp) (.int .i64 0) (.int .i64 si)
            clear hK K
            try simp only [Act.put, List.getElem_toArray, List.getElem_cons_zero, List.getElem_cons_succ, List.setIfInBounds_toArray, List.set_cons_zero, List.set_cons_succ]
            refine wpAnyH_take (i := 13) (v := ?_) rfl (by kernel_rfl) (by kernel_rfl) (by kernel_rfl) (fun _ _ _ h => h) (Or.inl ⟨by rfl, ?_⟩) (by assumption) ?_
            rotate_left
            · (intro w hSw; (have hSb := hSw; clear hSw; have c0 := (HSD.out.go hSb).c0; have c1 := (HSD.out.go hSb).c1; have c2 := (HSD.out.go hSb).c2; have c3 := (HSD.out.go hSb).c3; have c4 := (HSD.out.go hSb).c4; simp only at c0 c1 c2 c3 c4; have kk := HKD.out _ hSb; clear hSb); go_simp; (try with_reducible rfl))
            try simp only [Act.put, List.getElem_toArray, List.getElem_cons_zero, List.getElem_cons_succ, List.setIfInBounds_toArray, List.set_cons_zero, List.set_cons_succ]
            refine wpAnyH_done (by kernel_rfl) (NoPanic.normal ?_) _
            go_wp2_with fail
            go_meet
            case rel => exact ⟨_, _, ⟨l, fl, tp, 0, si⟩, rfl, rfl, ⟨five_put HZ.out (.slice ua m uc) (.int .u64 fl) (.int .i64 tp) (.int .i64 0) (.int .i64 si), rd_five HR3.out HNB.out (.slice ua m uc) (.int .u64 fl) (.int .i64 tp) (.int .i64 0) (.int .i64 si), HNB.out⟩, rfl, HQ.out, hHd.out.trans hHeld⟩
        case rest =>
          obtain ⟨b, u, s1, rfl, rfl, hsb, hP, hq, hb⟩ := hcut
          obtain ⟨ua, uc, rfl, _⟩ := id hsb.rd
          obtain ⟨un, hun⟩ : ∃ n, s1.l.length = n := ⟨_, rfl⟩
          rw [hun] at hsb hq
          have HSG := Lib.hid (HSB.out.go hb)
          have HM1 := Lib.hid (HMP.out.go hb)
          have HB1 := Lib.hid (HBB.out.trans (hb.mono HBB.out.size))
          have kk := HK.out wc HB1.out
          subst hP
          obtain ⟨hxt, hne, htop⟩ := HON.out.no hx0 HSH.out
          have hon2 := HON.out
          have ho0 : (⟨l, fl, tp, 0, si⟩ : St).ow = 0 := rfl
          obtain ⟨top2, htp⟩ : ∃ t, max top x = t := ⟨_, rfl⟩
          have ht2 : -1 ≤ top2 ∧ top2 ≤ 65535 := by omega
          obtain rfl : top2 = top := by omega
          have htn : 0 ≤ top2 := by
            rw [htop]
            exact (mem_bound hon2.inv.can (last_mem hon2.inv.can hne)).1
          have hun32 : un ≤ 32 := by rw [← hun]; exact hon2.inv.len
          have HON2 := Lib.hid hon2
          have HNE := Lib.hid hne
          have HTOP := Lib.hid htop
          have HLU := Lib.hid hun
          have HSN : Hid (Sb wc b (.slice ua un uc) ⟨l, fl, tp, 0, si⟩) := Lib.hid hsb
          have hgb : g < wr.heap.size := hgl
          have HNG : Hid (¬ Blk (.slice ua un uc) g) := Lib.hid (fun h => by have := hq g h; omega)
          have hnbg : ¬ b = g + 1 := fun e => by have := HM1.out.off hsb; omega
          obtain ⟨D, hown, hat⟩ := HM1.out
          have HAT := Lib.hid hat
          have HL1 : Hid (∀ c, D.atKey (.int .u16 x) (.lit (.int .i64 0)) = .lit (.int .i64 c) → ¬ 1 < c) := Lib.hid (fun c h => by rw [HAT.out] at h; injection h with h; injection h with h1 h2; have := HON.out.one x; omega)
          have HMW : Hid (Mp wc (g + 1) (k + 1) cnt) := Lib.hid (Mp.mono ⟨D, hown, HAT.out⟩)
          have htx : ¬ top2 < x := by omega
          clear hsb hq hb hon2 hne htop hat hun HM1 KG HSD HKD
          go_upto_region 15 with ((at_lookup; refine wpList_lookup_own_int _ rfl _ _ 29 rfl 32 3 .i64 law16 Try.underlying29 Try.underlying3 (zeroI _) (g + 1) k D rfl hown _ _ rfl HKEY.out ?_; intro c2 hatc2 hwcc2; have hc2 := HL1.out c2 hatc2))
          have y0 := HSN.out.c0
          have y1 := HSN.out.c1
          have y2 := HSN.out.c2
          have y3 := HSN.out.c3
          have y4 := HSN.out.c4
          simp only at y0 y1 y2 y3 y4
          have z0 := HSG.out.c0
          have z1 := HSG.out.c1
          have z2 := HSG.out.c2
          have z3 := HSG.out.c3
          have z4 := HSG.out.c4
          simp only at z0 z1 z2 z3 z4
          have zf : ∀ k, wc.frozen? ⟨g, k, none⟩ = false := HSG.out.fz
          have HSF : Hid (Sb ((((((wc).setCell ⟨g, 0, none⟩ (.slice ua un uc)).setCell ⟨g, 1, none⟩ (.int .u64 fl)).setCell ⟨g, 2, none⟩ (.int .i64 tp)).setCell ⟨g, 3, none⟩ (.int .i64 0)).setCell ⟨g, 4, none⟩ (.int .i64 si)) g (.slice ua un uc) ⟨l, fl, tp, 0, si⟩) := Lib.hid ⟨five_put HSG.out.hb (.slice ua un uc) (.int .u64 fl) (.int .i64 tp) (.int .i64 0) (.int .i64 si), rd_five HSN.out.rd HNG.out (.slice ua un uc) (.int .u64 fl) (.int .i64 tp) (.int .i64 0) (.int .i64 si), HNG.out⟩
          have HBF := Lib.hid (below_five HB1.out (b := g) hgw (.slice ua un uc) (.int .u64 fl) (.int .i64 tp) (.int .i64 0) (.int .i64 si))
          have HMF := Lib.hid (HMW.out.five (g := g) (by omega) (.slice ua un uc) (.int .u64 fl) (.int .i64 tp) (.int .i64 0) (.int .i64 si))
          have hlg : ¬ (32 : Int) < (un : Int) := by omega
          have v3 : IntKind.i64.wrap top2 = top2 := IntWalk.i64_in _ (by omega)
          have CL := Lib.hid (fun W h => largest_any (.slice ua un uc) l fl tp 0 si W (by have := HLU.out; simp only at this; omega) h HNE.out)
          have CM := Lib.hid (fun W h => may' (.slice ua un uc) l W (by have := HLU.out; simp only at this; omega) HON2.out.inv.can h)
          have htop9 : lastHi l = top2 := HTOP.out.symm
          rw [htop9] at CL
          go_upto_region 16 with (fail)
          generalize ((((((wc).setCell ⟨g, 0, none⟩ (.slice ua un uc)).setCell ⟨g, 1, none⟩ (.int .u64 fl)).setCell ⟨g, 2, none⟩ (.int .i64 tp)).setCell ⟨g, 3, none⟩ (.int .i64 0)).setCell ⟨g, 4, none⟩ (.int .i64 si)) = W6 at *
          clear y0 y1 y2 y3 y4 z0 z1 z2 z3 z4 zf
          have y0 := HSF.out.c0
          have y1 := HSF.out.c1
          have y2 := HSF.out.c2
          have y3 := HSF.out.c3
          have y4 := HSF.out.c4
          simp only at y0 y1 y2 y3 y4
          go_wp2_with fail
          with_reducible refine (CL.out _ HSF.out.rd).mono ?_
          rintro e w7 ⟨rfl, hb⟩
          replace HSF := Lib.hid (HSF.out.go hb)
          replace HBF := Lib.hid (HBF.out.trans (hb.mono HBF.out.size))
          replace HMF := Lib.hid (HMF.out.go hb)
          clear y0 y1 y2 y3 y4 hb
          have y0 := HSF.out.c0
          have y1 := HSF.out.c1
          have y2 := HSF.out.c2
          have y3 := HSF.out.c3
          have y4 := HSF.out.c4
          simp only at y0 y1 y2 y3 y4
          go_wp2_with fail
          with_reducible refine (CM.out _ HSF.out.rd).mono ?_
          rintro e w8 ⟨rfl, hb⟩
          replace HSF := Lib.hid (HSF.out.go hb)
          replace HBF := Lib.hid (HBF.out.trans (hb.mono HBF.out.size))
          replace HMF := Lib.hid (HMF.out.go hb)
          clear y0 y1 y2 y3 y4 hb
          go_wp2_with fail
          go_roundw
          case rel => exact ⟨k + 1, _, _, _, _, by omega, by go_num, rfl, HON2.out, rfl, ht2, HSF.out, HMF.out, HBF.out⟩
          case measure => simp [intOf]; omega
    · have hnlt : ¬ (k : Int) < (n : Int) := by omega
      go_wp2_with fail
      go_ret
      exact ⟨rfl, HBB.out⟩
theorem law_once (a : Option Addr) (n c : Nat) (z : List Int) (w : World) (hr : IsRow .u16 w a n c z) :
    Calls Try.prog 3 #[.slice a n c] w fun e w' => e = .returned (.bool true) ∧ Below w.heap.size w w' := by
  by_cases h : n ≤ 200
  · exact once_law a n c z w h (ri_of hr)
  · exact once_long a n c w (by omega)
end Go.Proofs.Ytliakeiaeakliaa.Rg
