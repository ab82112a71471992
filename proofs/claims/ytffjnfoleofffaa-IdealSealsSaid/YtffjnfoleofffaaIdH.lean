/- The walks of layer 10: the document's Same of boxes that are alike; the law's its; the document's Seal. By hand. -/
import Derived.Test.YtffjnfoleofffaaIdG
namespace Go.Proofs.Ytffjnfoleofffaa.Id
open Go.RowKit Vm
set_option linter.unusedVariables false
set_option linter.unusedSimpArgs false

set_option maxHeartbeats 4000000 in
theorem same_any (sd nx : Int) (v1 v2 : Value) (G : List Ent) (w : World) (h1 : RowE w v1 G) (h2 : RowE w v2 G) (hG : G.length ≤ 1000) :
    Calls Try.prog 19 #[.agg #[.int .u64 sd, .int .u64 nx, v1], .agg #[.int .u64 sd, .int .u64 nx, v2]] w fun r w' => r = .returned (.bool true) ∧ Below w.heap.size w w' := by
  obtain ⟨a, cap, rfl⟩ := h1.form
  obtain ⟨-, hcap, hc⟩ := h1.cells
  obtain ⟨a2, cap2, rfl⟩ := h2.form
  obtain ⟨-, hcap2, hc2⟩ := h2.cells
  obtain ⟨n, hn⟩ : ∃ n, G.length = n := ⟨_, rfl⟩
  rw [hn] at hcap hc hcap2 hc2 ⊢
  have HW0 := Lib.hid (((Below.refl w.heap.size w).alloc (Nat.le_refl _) (.cells #[.int .u64 sd, .int .u64 nx, .slice a n cap] 35)).alloc (by simp) (.cells #[.int .u64 sd, .int .u64 nx, .slice a2 n cap2] 35))
  have HB0 : Hid (((w.alloc (.cells #[.int .u64 sd, .int .u64 nx, .slice a n cap] 35)).alloc (.cells #[.int .u64 sd, .int .u64 nx, .slice a2 n cap2] 35)).cell? ⟨w.heap.size, 2, none⟩ = some (.slice a n cap)) := Lib.hid (by simp [go_sem])
  have HB1 : Hid (((w.alloc (.cells #[.int .u64 sd, .int .u64 nx, .slice a n cap] 35)).alloc (.cells #[.int .u64 sd, .int .u64 nx, .slice a2 n cap2] 35)).cell? ⟨w.heap.size + 1, 2, none⟩ = some (.slice a2 n cap2)) := Lib.hid (by simp [go_sem])
  have HZ : w.heap.size + 1 < ((w.alloc (.cells #[.int .u64 sd, .int .u64 nx, .slice a n cap] 35)).alloc (.cells #[.int .u64 sd, .int .u64 nx, .slice a2 n cap2] 35)).heap.size := by simp
  have HC := Lib.hid hc
  have HC2 := Lib.hid hc2
  have hn0 : (n : Int) ≤ 1000 := by omega
  clear h1 h2 hc hc2 hn hG
  go_enter Try.func19, Try.ntmps19
  go_wp2_with fail
  generalize (w.alloc (.cells #[.int .u64 sd, .int .u64 nx, .slice a n cap] 35)).alloc (.cells #[.int .u64 sd, .int .u64 nx, .slice a2 n cap2] 35) = w1 at *
  go_loopw [5] (fun iv wr => ∃ i : Nat, i ≤ n ∧ iv = .int .i64 (i : Nat) ∧ Below w1.heap.size w1 wr) (fun iv _ => n - (intOf iv).toNat)
  case atStart => exact ⟨0, Nat.zero_le _, rfl, Below.refl _ _⟩
  case round =>
    obtain ⟨i, hi, rfl, hb⟩ := hrel
    have c2 := (hb.cell (p := ⟨w.heap.size, 2, none⟩) (Nat.lt_of_succ_lt HZ)).trans HB0.out
    have c3 := (hb.cell (p := ⟨w.heap.size + 1, 2, none⟩) HZ).trans HB1.out
    have HB := Lib.hid (HW0.out.trans (hb.mono (by omega)))
    have HBB := Lib.hid hb
    clear hb
    have hi0 : (0 : Int) ≤ (i : Int) := by omega
    by_cases hin : (i : Int) < (n : Int)
    · have hin2 : i < n := by omega
      obtain ⟨g, off, rfl, hc⟩ := HC.out i hin2
      obtain ⟨e0, e1, e2, e3⟩ := hc wr HB.out
      obtain ⟨g2, off2, rfl, hd⟩ := HC2.out i hin2
      obtain ⟨f0, f1, f2, f3⟩ := hd wr HB.out
      clear hc hd
      obtain ⟨x, hx⟩ : ∃ x, G.getD i eZ = x := ⟨_, rfl⟩
      rw [hx] at e0 e1 e2 e3 f0 f1 f2 f3
      clear hx
      go_wp2_with fail
      go_quiet (fail)
      go_wp2_with fail
      go_roundw
      case rel => exact ⟨i + 1, by omega, by go_num, HBB.out.trans (below_drewN (Below.refl _ _) _)⟩
      case measure => simp [intOf]; omega
    · go_wp2_with fail
      go_ret
      exact ⟨rfl, HB.out⟩
theorem step_append_run {P : Program} {ops : Array Oper} {o : Oper} {a : Act} {w : World} {K : Act → World → Prop} {Q : Exit → Act → World → Prop} {E : Prop}
    (hg : o.guard = none) (s x : Operand) (t : TypeId) (hop : o.op = Op.call { callee := Callee.builtin Builtin.append, args := #[s, x], argTypes := #[t, t] })
    (vs vx : Value) (hs : a.eval s = vs) (hx : a.eval x = vx) {v' : Value} {w' : World} (hr : (Builtin.append_ #[t, t] o.type #[vs, vx]).run P w = .ok v' w') (hK : K (a.put o.dst v') w') :
    if Region.wanted o (yielded ops a.tmps) = true then Oper.wp P o a w K Q else E := by
  have hw : Region.wanted o (yielded ops a.tmps) = true := by simp [Region.wanted, hg]
  rw [if_pos hw]
  unfold Oper.wp
  simp [execOp, hop, resolve, invoke, builtin, hs, hx, hr, Result.andThen]
  exact hK
theorem alloc_own {T : TypeId} {W : World} {B : Nat} {v : Value} {G : List Ent} (h : OwnE T W B v G) (o : Obj) : OwnE T (W.alloc o) B v G := World.ownsRow.alloc h o
/-- Between two rounds of its. -/
structure ItsE (sd nx : Int) (v0 : Value) (G : List Ent) (w : World) (i : Nat) (v : Value) (W : World) : Prop where
  o : W.heap[w.heap.size + 1 + 1]? = some (.cells #[.int .u64 sd, .int .u64 nx, v] 35 (0, 0))
  own : OwnE 66 W (w.heap.size + 3) v (G.take i)
  b : W.heap[w.heap.size]? = some (.cells #[.int .u64 sd, .int .u64 nx, v0] 31 (0, 0))
  z : W.heap[w.heap.size + 1]? = some (.cells #[.int .u64 0, .int .u64 0, .slice none 0 0] 35 (0, 0))
  bel : Below w.heap.size w W
  sz : w.heap.size + 3 ≤ W.heap.size
theorem heap_new2 (w : World) (o1 o2 : Obj) : ((w.alloc o1).alloc o2).heap[w.heap.size + 1]? = some o2 := by
  have h := heap_alloc_new (w.alloc o1) o2
  rwa [World.size_alloc] at h
theorem heap_new3 (w : World) (o1 o2 o3 : Obj) : (((w.alloc o1).alloc o2).alloc o3).heap[w.heap.size + 1 + 1]? = some o3 := by
  have h := heap_alloc_new ((w.alloc o1).alloc o2) o3
  rwa [World.size_alloc, World.size_alloc] at h
theorem its_begin (sd nx : Int) (v0 : Value) (G : List Ent) (w : World) : ItsE sd nx v0 G w 0 (.slice none 0 0) (((w.alloc (.cells #[.int .u64 sd, .int .u64 nx, v0] 31)).alloc (.cells #[.int .u64 0, .int .u64 0, .slice none 0 0] 35)).alloc (.cells #[.int .u64 sd, .int .u64 nx, .slice none 0 0] 35)) where
  o := heap_new3 w _ _ _
  own := OwnE.nil _ _ _
  b := (Below.heap_alloc _ _ _ (by simp <;> omega)).trans ((Below.heap_alloc _ _ _ (by simp <;> omega)).trans (heap_alloc_new w _))
  z := (Below.heap_alloc _ _ _ (by simp <;> omega)).trans (heap_new2 w _ _)
  bel := (((Below.refl _ _).alloc (Nat.le_refl _) _).alloc (by simp <;> omega) _).alloc (by simp <;> omega) _
  sz := by simp
def ItsTo (sd nx : Int) (G : List Ent) (w : World) (e : Ending) (w' : World) : Prop :=
  ∃ a c, e = .returned (.agg #[.int .u64 sd, .int .u64 nx, .slice a G.length c]) ∧ RowE w' (.slice a G.length c) G ∧ Below w.heap.size w w'
theorem inf_boxD : (Try.prog.info? 35).map (·.size) = some 3 := by kernel_rfl
set_option maxHeartbeats 4000000 in
theorem its_any (sd nx : Int) (v0 : Value) (G : List Ent) (w : World) (hr : RowE w v0 G) (hG : G.length ≤ 1000) :
    Calls Try.prog 20 #[.agg #[.int .u64 sd, .int .u64 nx, v0]] w (ItsTo sd nx G w) := by
  obtain ⟨a, cap, rfl⟩ := hr.form
  obtain ⟨-, hcap, hc⟩ := hr.cells
  obtain ⟨n, hn⟩ : ∃ n, G.length = n := ⟨_, rfl⟩
  rw [hn] at hcap hc ⊢
  have HI0 := Lib.hid (its_begin sd nx (.slice a n cap) G w)
  have HC := Lib.hid hc
  have HN := Lib.hid hn
  have hn0 : (n : Int) ≤ 1000 := by omega
  clear hr hc hn hG
  go_enter Try.func20, Try.ntmps20
  go_wp2_with fail
  go_loopw [4] (fun iv wr => ∃ (i : Nat) (v : Value), i ≤ n ∧ iv = .int .i64 (i : Nat) ∧ ItsE sd nx (.slice a n cap) G w i v wr) (fun iv _ => n - (intOf iv).toNat)
  case atStart => exact ⟨0, _, Nat.zero_le _, rfl, HI0.out⟩
  case round =>
    clear HI0
    obtain ⟨i, v, hi, rfl, hI⟩ := hrel
    have HI := Lib.hid hI
    have b2 : wr.cell? ⟨w.heap.size, 2, none⟩ = some (.slice a n cap) := Lib.cell_of_heap hI.b 2
    have hi0 : (0 : Int) ≤ (i : Int) := by omega
    by_cases hin : (i : Int) < (n : Int)
    · have hin2 : i < n := by omega
      obtain ⟨g, off, rfl, hc⟩ := HC.out i hin2
      obtain ⟨e0, e1, e2, e3⟩ := hc wr hI.bel
      have hg := World.block_lt_of_cell? _ _ e0
      clear hc
      obtain ⟨x, hx⟩ : ∃ x, G.getD i eZ = x := ⟨_, rfl⟩
      rw [hx] at e0 e1 e2 e3
      have HTK : Hid (G.take (i + 1) = G.take i ++ [x]) := Lib.hid (by
        have := HN.out
        rw [List.take_add_one, List.getElem?_eq_getElem (by omega), ← hx, List.getD_eq_getElem?_getD, List.getElem?_eq_getElem (by omega)]
        rfl)
      have o2 : wr.cell? ⟨w.heap.size + 1 + 1, 2, none⟩ = some v := Lib.cell_of_heap hI.o 2
      have of2 : wr.frozen? ⟨w.heap.size + 1 + 1, 2, none⟩ = false := Lib.frozen_of_heap hI.o 2
      have hsz := hI.sz
      have hlen : (G.take i).length ≤ 1000 := by rw [List.length_take]; omega
      obtain ⟨v', w', HA, ho', hgr, _⟩ := run_append_E tyD (wr.alloc (.cells #[.int .i64 x.fr, .int .u64 x.num, .string x.bytes, .string x.plain] 66)).drew (w.heap.size + 3) 33 v (G.take i) (alloc_own hI.own _) (.slice (some ⟨wr.heap.size, 0, none⟩) 1 1) [x] (row_one wr 66 x) (by simp; omega) (by simp; omega)
      obtain ⟨va, vc, rfl⟩ := ho'.form
      have hb' : Below (w.heap.size + 3) wr w' := (((Below.refl _ _).alloc (by omega) _).drew).grown hgr (by simp; omega) (fun k hk => (World.ownsRow.lt hI.own k hk).1)
      have hO := (hb'.block (w.heap.size + 1 + 1) (by omega)).trans hI.o
      have hF := (hb'.block w.heap.size (by omega)).trans hI.b
      have hZ := (hb'.block (w.heap.size + 1) (by omega)).trans hI.z
      have p2 : w'.cell? ⟨w.heap.size + 1 + 1, 2, none⟩ = some v := Lib.cell_of_heap hO 2
      have pf2 : w'.frozen? ⟨w.heap.size + 1 + 1, 2, none⟩ = false := Lib.frozen_of_heap hO 2
      have HREL : Hid (ItsE sd nx (.slice (some ⟨g, off, none⟩) n cap) G w (i + 1) (.slice va (G.take i ++ [x]).length vc) (w'.setCell ⟨w.heap.size + 1 + 1, 2, none⟩ (.slice va (G.take i ++ [x]).length vc))) := Lib.hid (by
        refine ⟨Joins.block_setCell (i := 2) hO _, ?_, (Below.heap_setCell _ _ _ _ (by show _ ≠ _; simp; omega)).trans hF, (Below.heap_setCell _ _ _ _ (by show _ ≠ _; simp)).trans hZ, ?_, ?_⟩
        · rw [HTK.out]
          exact ownsRow_setCell_below ho' (by simp <;> omega) _
        · exact (hI.bel.trans (hb'.mono (by omega))).setCell (by simp <;> omega) _
        · have := hb'.size
          simp <;> omega)
      generalize (G.take i ++ [x]).length = vn at *
      clear hI hO hF hZ hx ho' hgr hb' HTK hlen
      have hl1 : w.heap.size < wr.heap.size := by omega
      have hl3 : w.heap.size + 1 + 1 < wr.heap.size := by omega
      go_wp2_with fail
      go_region_law (refine step_append_run rfl _ _ _ rfl _ _ rfl rfl HA ?_)
      all_goals
        go_wp2
        go_roundw
        case rel => exact ⟨i + 1, _, by omega, rfl, HREL.out⟩
        case measure => simp [intOf]; omega
    · have hie : i = n := by omega
      subst hie
      have hT : G.take i = G := List.take_of_length_le (by have := HN.out; omega)
      have hown : OwnE 66 wr (w.heap.size + 3) v G := by have h := hI.own; rwa [hT] at h
      obtain ⟨va, vc, rfl⟩ := hown.form
      have HOW := Lib.hid hown
      have o0 : wr.cell? ⟨w.heap.size + 1 + 1, 0, none⟩ = _ := Lib.cell_of_heap hI.o 0
      have o1 : wr.cell? ⟨w.heap.size + 1 + 1, 1, none⟩ = _ := Lib.cell_of_heap hI.o 1
      have o2 : wr.cell? ⟨w.heap.size + 1 + 1, 2, none⟩ = _ := Lib.cell_of_heap hI.o 2
      have z0 : wr.cell? ⟨w.heap.size + 1, 0, none⟩ = _ := Lib.cell_of_heap hI.z 0
      have z1 : wr.cell? ⟨w.heap.size + 1, 1, none⟩ = _ := Lib.cell_of_heap hI.z 1
      have z2 : wr.cell? ⟨w.heap.size + 1, 2, none⟩ = _ := Lib.cell_of_heap hI.z 2
      have zf : ∀ k, wr.frozen? ⟨w.heap.size + 1, k, none⟩ = false := fun k => Lib.frozen_of_heap hI.z k
      have HF := Lib.hid (three_put hI.z (.int .u64 sd) (.int .u64 nx) (.slice va G.length vc))
      have HRF := Lib.hid (OwnE.row (ownsRow_setCell_below (ownsRow_setCell_below (ownsRow_setCell_below HOW.out (a := ⟨w.heap.size + 1, 0, none⟩) (by simp) (.int .u64 sd)) (a := ⟨w.heap.size + 1, 1, none⟩) (by simp) (.int .u64 nx)) (a := ⟨w.heap.size + 1, 2, none⟩) (by simp) (.slice va G.length vc)))
      have HBF := Lib.hid (Below.setCell (Below.setCell (Below.setCell hI.bel (p := ⟨w.heap.size + 1, 0, none⟩) (by simp) (.int .u64 sd)) (p := ⟨w.heap.size + 1, 1, none⟩) (by simp) (.int .u64 nx)) (p := ⟨w.heap.size + 1, 2, none⟩) (by simp) (.slice va G.length vc))
      have hsz := hI.sz
      rw [HN.out] at o2 HF HRF HBF
      clear hI hown hT HOW
      go_wp2_with fail
      refine bodyPost_ret (v := .agg #[.int .u64 sd, .int .u64 nx, .slice va i vc]) (results_cell_row Try.results20 _ _ (w.heap.size + 1) _ _ _ _ rfl HF.out Try.underlying35 rfl inf_boxD) rfl ?_
      have hNN := HN.out
      exact ⟨va, vc, by rw [hNN], by rw [hNN]; exact HRF.out, HBF.out⟩
end Go.Proofs.Ytffjnfoleofffaa.Id
