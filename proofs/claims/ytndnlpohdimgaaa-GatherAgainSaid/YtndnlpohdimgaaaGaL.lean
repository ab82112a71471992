/- Layer 14: the law's its; the document's Same of states that are alike. After layer 10's. By hand. -/
import Derived.Test.YtndnlpohdimgaaaGaJ
namespace Go.Proofs.Ytndnlpohdimgaaa.Rg
set_option maxRecDepth 20000
open Go.RowKit Go.Shelf
set_option linter.unusedVariables false
set_option linter.unusedSimpArgs false

theorem RowG.cells {W : World} {a : Option Addr} {n c : Nat} {T : ByteArray} {G : List Ran} (h : RowG W (.slice a n c) T G) : n = G.length ∧ n ≤ c ∧ ∀ i, i < n → ∃ g off, a = some ⟨g, off, none⟩ ∧ ∀ V, Below W.heap.size W V → V.cell? ⟨g, off + i * 2, none⟩ = some (.int .u64 (G.getD i (0, 0)).1) ∧ V.cell? ⟨g, off + i * 2 + 1, none⟩ = some (.string (bt T (G.getD i (0, 0)))) := by
  obtain ⟨a', c', e, hc, hrow⟩ := h
  injection e with e1 e2 e3
  subst e1; subst e3
  refine ⟨e2, by omega, fun i hi => ?_⟩
  obtain ⟨g, off, rfl, hg, hcl⟩ := hrow (fun h => by rw [h] at e2; simp at e2; omega)
  refine ⟨g, off, rfl, fun V hV => ?_⟩
  have hh := fun j hj => (hV.cell (p := ⟨g, off + (i * 2 + j), none⟩) hg).trans (hcl i (by omega) j hj)
  exact ⟨by simpa [gcs] using hh 0 (by decide), by rw [Nat.add_assoc]; simpa [gcs] using hh 1 (by decide)⟩

set_option maxHeartbeats 4000000 in
theorem sameG_any (T : ByteArray) (rd fin : Int) (kn : Bool) (a a2 : Option Addr) (n cap cap2 : Nat) (G : List Ran) (w : World) (h1 : RowG w (.slice a n cap) T G) (h2 : RowG w (.slice a2 n cap2) T G) (hG : n ≤ 1000) :
    Calls Try.prog 8 #[.agg #[.int .u64 rd, .slice a n cap, .int .u64 fin, .bool kn], .agg #[.int .u64 rd, .slice a2 n cap2, .int .u64 fin, .bool kn]] w fun r w' => r = .returned (.bool true) ∧ Below w.heap.size w w' := by
  obtain ⟨hn, hcap, hc⟩ := h1.cells
  obtain ⟨-, hcap2, hc2⟩ := h2.cells
  have HW0 := Lib.hid (((Below.refl w.heap.size w).alloc (Nat.le_refl _) (.cells #[.int .u64 rd, .slice a n cap, .int .u64 fin, .bool kn] 40)).alloc (by simp) (.cells #[.int .u64 rd, .slice a2 n cap2, .int .u64 fin, .bool kn] 40))
  have HB0 : Hid (((w.alloc (.cells #[.int .u64 rd, .slice a n cap, .int .u64 fin, .bool kn] 40)).alloc (.cells #[.int .u64 rd, .slice a2 n cap2, .int .u64 fin, .bool kn] 40)).cell? ⟨w.heap.size, 1, none⟩ = some (.slice a n cap)) := Lib.hid (by simp [go_sem])
  have HB1 : Hid (((w.alloc (.cells #[.int .u64 rd, .slice a n cap, .int .u64 fin, .bool kn] 40)).alloc (.cells #[.int .u64 rd, .slice a2 n cap2, .int .u64 fin, .bool kn] 40)).cell? ⟨w.heap.size + 1, 1, none⟩ = some (.slice a2 n cap2)) := Lib.hid (by simp [go_sem])
  have HZ : w.heap.size + 1 < ((w.alloc (.cells #[.int .u64 rd, .slice a n cap, .int .u64 fin, .bool kn] 40)).alloc (.cells #[.int .u64 rd, .slice a2 n cap2, .int .u64 fin, .bool kn] 40)).heap.size := by simp
  have HC := Lib.hid hc
  have HC2 := Lib.hid hc2
  have hn0 : (n : Int) ≤ 1000 := by omega
  clear h1 h2 hc hc2 hn hG
  go_enter Try.func8, Try.ntmps8
  go_wp2_with fail
  generalize (w.alloc (.cells #[.int .u64 rd, .slice a n cap, .int .u64 fin, .bool kn] 40)).alloc (.cells #[.int .u64 rd, .slice a2 n cap2, .int .u64 fin, .bool kn] 40) = w1 at *
  go_loopw [5] (fun iv wr => ∃ i : Nat, i ≤ n ∧ iv = .int .i64 (i : Nat) ∧ Below w1.heap.size w1 wr) (fun iv _ => n - (intOf iv).toNat)
  case atStart => exact ⟨0, Nat.zero_le _, rfl, Below.refl _ _⟩
  case round =>
    obtain ⟨i, hi, rfl, hb⟩ := hrel
    have c2 := (hb.cell (p := ⟨w.heap.size, 1, none⟩) (Nat.lt_of_succ_lt HZ)).trans HB0.out
    have c3 := (hb.cell (p := ⟨w.heap.size + 1, 1, none⟩) HZ).trans HB1.out
    have HB := Lib.hid (HW0.out.trans (hb.mono (by omega)))
    have HBB := Lib.hid hb
    clear hb
    have hi0 : (0 : Int) ≤ (i : Int) := by omega
    by_cases hin : (i : Int) < (n : Int)
    · have hin2 : i < n := by omega
      obtain ⟨g, off, rfl, hc⟩ := HC.out i hin2
      obtain ⟨e0, e1⟩ := hc wr HB.out
      obtain ⟨g2, off2, rfl, hd⟩ := HC2.out i hin2
      obtain ⟨f0, f1⟩ := hd wr HB.out
      clear hc hd
      obtain ⟨x, hx⟩ : ∃ x, (G.getD i (0, 0)).1 = x := ⟨_, rfl⟩
      obtain ⟨y, hy⟩ : ∃ x, bt T (G.getD i (0, 0)) = x := ⟨_, rfl⟩
      rw [hx] at e0 f0
      rw [hy] at e1 f1
      clear hx hy
      go_wp2_with fail
      go_quiet (fail)
      go_wp2_with fail
      go_roundw
      case rel => exact ⟨i + 1, by omega, by go_num, HBB.out.trans (below_drewN (Below.refl _ _) _)⟩
      case measure => simp [intOf]; omega
    · go_wp2_with fail
      go_ret
      exact ⟨rfl, HB.out⟩

/-- Between two rounds of its. -/
structure ItsG (rd fin : Int) (kn : Bool) (v0 : Value) (T : ByteArray) (G : List Ran) (w : World) (i : Nat) (v : Value) (W : World) : Prop where
  o : Gb W (w.heap.size + 1 + 1) 40 ⟨rd, [], fin, kn⟩ v
  own : OwnG 60 W (w.heap.size + 3) v T (G.take i)
  b : Gb W w.heap.size 28 ⟨rd, [], fin, kn⟩ v0
  z : Gb W (w.heap.size + 1) 40 ⟨0, [], 0, false⟩ (.slice none 0 0)
  bel : Below w.heap.size w W
  sz : w.heap.size + 3 ≤ W.heap.size
theorem heap_new2G (w : World) (o1 o2 : Obj) : ((w.alloc o1).alloc o2).heap[w.heap.size + 1]? = some o2 := by
  have h := heap_alloc_new (w.alloc o1) o2
  rwa [World.size_alloc] at h
theorem heap_new3G (w : World) (o1 o2 o3 : Obj) : (((w.alloc o1).alloc o2).alloc o3).heap[w.heap.size + 1 + 1]? = some o3 := by
  have h := heap_alloc_new ((w.alloc o1).alloc o2) o3
  rwa [World.size_alloc, World.size_alloc] at h
theorem itsG_begin (rd fin : Int) (kn : Bool) (v0 : Value) (T : ByteArray) (G : List Ran) (w : World) : ItsG rd fin kn v0 T G w 0 (.slice none 0 0) (((w.alloc (.cells #[.int .u64 rd, v0, .int .u64 fin, .bool kn] 28)).alloc (.cells #[.int .u64 0, .slice none 0 0, .int .u64 0, .bool false] 40)).alloc (.cells #[.int .u64 rd, .slice none 0 0, .int .u64 fin, .bool kn] 40)) where
  o := heap_new3G w _ _ _
  own := OwnG.nil _ _ _ _
  b := (Below.heap_alloc _ _ _ (by simp <;> omega)).trans ((Below.heap_alloc _ _ _ (by simp <;> omega)).trans (heap_alloc_new w _))
  z := (Below.heap_alloc _ _ _ (by simp <;> omega)).trans (heap_new2G w _ _)
  bel := (((Below.refl _ _).alloc (Nat.le_refl _) _).alloc (by simp <;> omega) _).alloc (by simp <;> omega) _
  sz := by simp
theorem inf_stD : (Try.prog.info? 40).map (·.size) = some 4 := by kernel_rfl
set_option maxHeartbeats 4000000 in
theorem itsG_any (T : ByteArray) (rd fin : Int) (kn : Bool) (a : Option Addr) (n cap : Nat) (G : List Ran) (w : World) (hr : RowG w (.slice a n cap) T G) (hG : n ≤ 1000) :
    Calls Try.prog 9 #[.agg #[.int .u64 rd, .slice a n cap, .int .u64 fin, .bool kn]] w fun e w' => ∃ a' c', e = .returned (.agg #[.int .u64 rd, .slice a' n c', .int .u64 fin, .bool kn]) ∧ RowG w' (.slice a' n c') T G ∧ Below w.heap.size w w' := by
  obtain ⟨hn, hcap, hc⟩ := hr.cells
  have HI0 := Lib.hid (itsG_begin rd fin kn (.slice a n cap) T G w)
  have HC := Lib.hid hc
  have HN := Lib.hid hn
  have hn0 : (n : Int) ≤ 1000 := by omega
  clear hr hc hn hG
  go_enter Try.func9, Try.ntmps9
  go_wp2_with fail
  go_loopw [4] (fun iv wr => ∃ (i : Nat) (v : Value), i ≤ n ∧ iv = .int .i64 (i : Nat) ∧ ItsG rd fin kn (.slice a n cap) T G w i v wr) (fun iv _ => n - (intOf iv).toNat)
  case atStart => exact ⟨0, _, Nat.zero_le _, rfl, HI0.out⟩
  case round =>
    clear HI0
    obtain ⟨i, v, hi, rfl, hI⟩ := hrel
    have HI := Lib.hid hI
    have b2 := hI.b.c1
    have hi0 : (0 : Int) ≤ (i : Int) := by omega
    by_cases hin : (i : Int) < (n : Int)
    · have hin2 : i < n := by omega
      obtain ⟨g, off, rfl, hc⟩ := HC.out i hin2
      obtain ⟨e0, e1⟩ := hc wr hI.bel
      have hg := World.block_lt_of_cell? _ _ e0
      clear hc
      obtain ⟨x, hx⟩ : ∃ x, G.getD i (0, 0) = x := ⟨_, rfl⟩
      rw [hx] at e0 e1
      have HTK : Hid (G.take (i + 1) = G.take i ++ [x]) := Lib.hid (by rw [← hx]; exact take_succ_getD G (0, 0) (by have := HN.out; omega))
      have o2 := hI.o.c1
      have of2 := hI.o.fz 1
      have hsz := hI.sz
      have hlen : (G.take i).length ≤ 1000 := by rw [List.length_take]; omega
      obtain ⟨v', w', HA, ho', hgr, _⟩ := run_append_G tyR T (wr.alloc (.cells #[.int .u64 x.1, .string (bt T x)] 60)).drew (w.heap.size + 3) 38 v (G.take i) ((hI.own.go ((Below.refl _ _).alloc (Nat.le_refl _) _)).go (Below.refl _ _).drew) (.slice (some ⟨wr.heap.size, 0, none⟩) 1 1) [x] ((rowG_one wr 60 T x).go (Below.refl _ _).drew) (by simp; omega) (by simp; omega)
      obtain ⟨va, vc, rfl⟩ := ho'.form
      have hb' : Below (w.heap.size + 3) wr w' := (((Below.refl _ _).alloc (by omega) _).drew).grown hgr (by simp; omega) (fun k hk => (World.ownsRow.lt hI.own k hk).1)
      have hO : Gb w' (w.heap.size + 1 + 1) 40 ⟨rd, [], fin, kn⟩ v := (hb'.block (w.heap.size + 1 + 1) (by omega)).trans hI.o
      have hF : Gb w' w.heap.size 28 ⟨rd, [], fin, kn⟩ (.slice (some ⟨g, off, none⟩) n cap) := (hb'.block w.heap.size (by omega)).trans hI.b
      have hZ : Gb w' (w.heap.size + 1) 40 ⟨0, [], 0, false⟩ (.slice none 0 0) := (hb'.block (w.heap.size + 1) (by omega)).trans hI.z
      have p2 := hO.c1
      have pf2 := hO.fz 1
      have HREL : Hid (ItsG rd fin kn (.slice (some ⟨g, off, none⟩) n cap) T G w (i + 1) (.slice va (G.take i ++ [x]).length vc) (w'.setCell ⟨w.heap.size + 1 + 1, 1, none⟩ (.slice va (G.take i ++ [x]).length vc))) := Lib.hid (by
        refine ⟨hO.s1 [] _, ?_, hF.other (by omega) _, hZ.other (by omega) _, ?_, ?_⟩
        · rw [HTK.out]
          exact OwnG.only ho' (only_atG (w.heap.size + 1 + 1) 1 w' _) (fun q hq h => by have := (World.ownsRow.lt ho' q hq).1; omega)
        · exact (hI.bel.trans (hb'.mono (by omega))).setCell (by simp <;> omega) _
        · have := hb'.size
          simp <;> omega)
      generalize (G.take i ++ [x]).length = vn at *
      generalize hD : bt T x = D at *
      clear hI hO hF hZ hx ho' hgr hb' HTK hlen hD
      have hl1 : w.heap.size < wr.heap.size := by omega
      have hl3 : w.heap.size + 1 + 1 < wr.heap.size := by omega
      go_wp2_with fail
      go_region_law (refine step_appendG rfl _ _ _ _ rfl _ _ rfl rfl HA ?_)
      all_goals
        go_wp2
        go_roundw
        case rel => exact ⟨i + 1, _, by omega, rfl, HREL.out⟩
        case measure => simp [intOf]; omega
    · have hie : i = n := by omega
      subst hie
      have hT : G.take i = G := List.take_of_length_le (by have := HN.out; omega)
      have hown : OwnG 60 wr (w.heap.size + 3) v T G := by have h := hI.own; rwa [hT] at h
      obtain ⟨va, vc, rfl⟩ := hown.form
      have HOW := Lib.hid hown
      have o0 := hI.o.c0
      have o1 := hI.o.c1
      have o2 := hI.o.c2
      have o3 := hI.o.c3
      have z0 := hI.z.c0
      have z1 := hI.z.c1
      have z2 := hI.z.c2
      have z3 := hI.z.c3
      have zf := hI.z.fz
      simp only at o0 o2 o3 z0 z2 z3
      have HF := Lib.hid (hI.z.put ⟨rd, [], fin, kn⟩ (.slice va G.length vc))
      have HRF := Lib.hid (HOW.out.row.put4 (g := w.heap.size + 1) (fun h => by have := (HOW.out.blk h).2; omega) (.int .u64 rd) (.slice va G.length vc) (.int .u64 fin) (.bool kn))
      have HBF := Lib.hid (below_put4 hI.bel (g := w.heap.size + 1) (Nat.le_succ _) (.int .u64 rd) (.slice va G.length vc) (.int .u64 fin) (.bool kn))
      have hsz := hI.sz
      rw [← HN.out] at o1 HF HRF HBF
      simp only at HF
      clear hI hown hT HOW
      go_wp2_with fail
      refine bodyPost_ret (v := .agg #[.int .u64 rd, .slice va i vc, .int .u64 fin, .bool kn]) (results_cell_row Try.results9 _ _ (w.heap.size + 1) _ _ _ _ rfl HF.out Try.underlying40 rfl inf_stD) rfl ?_
      exact ⟨va, vc, rfl, HRF.out, HBF.out⟩
end Go.Proofs.Ytndnlpohdimgaaa.Rg
