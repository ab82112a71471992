/- Layer 6's arguments, opened: a row of frames. By tools/gen-frame-46.py. -/
import Derived.Test.YtfeecfdbncjmnaaDoorFzJ
import Derived.Test.YtfeecfdbncjmnaaDoorFmArg
import Derived.Test.YtfeecfdbncjmnaaDoorFmLx
namespace Go.Proofs.YtfeecfdbncjmnaaDoor.Fm
set_option maxRecDepth 20000
open Go.RowKit Go.Shelf Go.ChangeShapes Go.WideShapes Go.Deep Vm
set_option linter.unusedVariables false
set_option linter.unusedSimpArgs false

theorem one_u64 : Tryd.prog.cellsOf 23 = 1 := by kernel_rfl
theorem one_bool : Tryd.prog.cellsOf 4 = 1 := by kernel_rfl
theorem one_str : Tryd.prog.cellsOf 9 = 1 := by kernel_rfl
theorem one_set : Tryd.prog.cellsOf 25 = 1 := by kernel_rfl
theorem size_frm : Tryd.prog.cellsOf 27 = 13 := by kernel_rfl
theorem str_is (s : ByteArray) : (⟨s.data.toList.toArray⟩ : ByteArray) = s := by
  obtain ⟨⟨l⟩⟩ := s
  rfl
/-- Frames among the arguments: an entry holds the numbers, the texts and a set that one reads. -/
theorem frames_of_trod {H : Type} {enc : TypeId × Value → H} {W : World} {held : Bool} {fuel : Nat} {t : TypeId} {a : Option Addr} {len cap : Nat} {x : DataW H × List MemPlace}
    (ht : Tryd.prog.underlying t = some (.slice 27)) (h : DataW.trod enc Tryd.prog W 0 (fun _ => true) held fuel t (Value.cells (.slice a len cap)).toList = some x) :
    ∃ (G : List Frm) (Ls : List (List (Nat × Nat))), G.length = len ∧ Ls.length = len ∧ len ≤ maxLen ∧ RowF W (.slice a len cap) G ∧ ∀ i, i < len → Fit W (G.getD i frZ).kind.toNat (G.getD i frZ) (Ls.getD i []) := by
  rcases Go.Deep.open_slice ht h with ⟨hcs, _⟩ | ⟨p, len', cap', m, n, D, Pl, hcs, _, hl, hm, hmm, hx, hi⟩
  · simp [Value.cells] at hcs
    obtain ⟨rfl, rfl, rfl⟩ := hcs
    exact ⟨[], [], rfl, rfl, Nat.zero_le _, ⟨none, 0, rfl, Nat.le_refl _, fun h => absurd rfl h⟩, fun i hi => by omega⟩
  · simp [Value.cells] at hcs
    obtain ⟨rfl, rfl, rfl⟩ := hcs
    have hml : len ≤ m := by rw [hmm]; simp; omega
    have key : ∀ i, i < len → ∃ q : Frm × List (Nat × Nat), (∀ j, j < 13 → W.cell? (p.add (i * 13 + j)) = (fcs q.1)[j]?) ∧ Fit W q.1.kind.toNat q.1 q.2 := by
      intro i hil
      obtain ⟨cs', hc, htr⟩ := hi i (by omega)
      rw [size_frm] at hc
      obtain ⟨ys, n', _, _, _, hlen, hf⟩ := DataW.trod_struct Tryd.underlying27 htr
      obtain ⟨_, hcl, hat⟩ := World.cells?_some hc
      match cs', hcl with
      | [c0, c1, c2, c3, c4, c5, c6, c7, c8, c9, c10, c11, c12], _ =>
        match ys, hlen with
        | [y0, y1, y2, y3, y4, y5, y6, y7, y8, y9, y10, y11, y12], _ =>
          have f0 := hf 0 _ rfl
          change DataW.trod enc Tryd.prog W 0 (fun _ => true) held n' 23 (List.take (Tryd.prog.cellsOf 23) (List.drop 0 [c0, c1, c2, c3, c4, c5, c6, c7, c8, c9, c10, c11, c12])) = some y0 at f0
          rw [one_u64] at f0
          change DataW.trod enc Tryd.prog W 0 (fun _ => true) held n' 23 [c0] = some y0 at f0
          have f1 := hf 1 _ rfl
          change DataW.trod enc Tryd.prog W 0 (fun _ => true) held n' 23 (List.take (Tryd.prog.cellsOf 23) (List.drop 1 [c0, c1, c2, c3, c4, c5, c6, c7, c8, c9, c10, c11, c12])) = some y1 at f1
          rw [one_u64] at f1
          change DataW.trod enc Tryd.prog W 0 (fun _ => true) held n' 23 [c1] = some y1 at f1
          have f2 := hf 2 _ rfl
          change DataW.trod enc Tryd.prog W 0 (fun _ => true) held n' 23 (List.take (Tryd.prog.cellsOf 23) (List.drop 2 [c0, c1, c2, c3, c4, c5, c6, c7, c8, c9, c10, c11, c12])) = some y2 at f2
          rw [one_u64] at f2
          change DataW.trod enc Tryd.prog W 0 (fun _ => true) held n' 23 [c2] = some y2 at f2
          have f3 := hf 3 _ rfl
          change DataW.trod enc Tryd.prog W 0 (fun _ => true) held n' 23 (List.take (Tryd.prog.cellsOf 23) (List.drop 3 [c0, c1, c2, c3, c4, c5, c6, c7, c8, c9, c10, c11, c12])) = some y3 at f3
          rw [one_u64] at f3
          change DataW.trod enc Tryd.prog W 0 (fun _ => true) held n' 23 [c3] = some y3 at f3
          have f4 := hf 4 _ rfl
          change DataW.trod enc Tryd.prog W 0 (fun _ => true) held n' 23 (List.take (Tryd.prog.cellsOf 23) (List.drop 4 [c0, c1, c2, c3, c4, c5, c6, c7, c8, c9, c10, c11, c12])) = some y4 at f4
          rw [one_u64] at f4
          change DataW.trod enc Tryd.prog W 0 (fun _ => true) held n' 23 [c4] = some y4 at f4
          have f5 := hf 5 _ rfl
          change DataW.trod enc Tryd.prog W 0 (fun _ => true) held n' 23 (List.take (Tryd.prog.cellsOf 23) (List.drop 5 [c0, c1, c2, c3, c4, c5, c6, c7, c8, c9, c10, c11, c12])) = some y5 at f5
          rw [one_u64] at f5
          change DataW.trod enc Tryd.prog W 0 (fun _ => true) held n' 23 [c5] = some y5 at f5
          have f6 := hf 6 _ rfl
          change DataW.trod enc Tryd.prog W 0 (fun _ => true) held n' 23 (List.take (Tryd.prog.cellsOf 23) (List.drop 6 [c0, c1, c2, c3, c4, c5, c6, c7, c8, c9, c10, c11, c12])) = some y6 at f6
          rw [one_u64] at f6
          change DataW.trod enc Tryd.prog W 0 (fun _ => true) held n' 23 [c6] = some y6 at f6
          have f7 := hf 7 _ rfl
          change DataW.trod enc Tryd.prog W 0 (fun _ => true) held n' 23 (List.take (Tryd.prog.cellsOf 23) (List.drop 7 [c0, c1, c2, c3, c4, c5, c6, c7, c8, c9, c10, c11, c12])) = some y7 at f7
          rw [one_u64] at f7
          change DataW.trod enc Tryd.prog W 0 (fun _ => true) held n' 23 [c7] = some y7 at f7
          have f8 := hf 8 _ rfl
          change DataW.trod enc Tryd.prog W 0 (fun _ => true) held n' 4 (List.take (Tryd.prog.cellsOf 4) (List.drop 8 [c0, c1, c2, c3, c4, c5, c6, c7, c8, c9, c10, c11, c12])) = some y8 at f8
          rw [one_bool] at f8
          change DataW.trod enc Tryd.prog W 0 (fun _ => true) held n' 4 [c8] = some y8 at f8
          have f9 := hf 9 _ rfl
          change DataW.trod enc Tryd.prog W 0 (fun _ => true) held n' 9 (List.take (Tryd.prog.cellsOf 9) (List.drop 9 [c0, c1, c2, c3, c4, c5, c6, c7, c8, c9, c10, c11, c12])) = some y9 at f9
          rw [one_str] at f9
          change DataW.trod enc Tryd.prog W 0 (fun _ => true) held n' 9 [c9] = some y9 at f9
          have f10 := hf 10 _ rfl
          change DataW.trod enc Tryd.prog W 0 (fun _ => true) held n' 9 (List.take (Tryd.prog.cellsOf 9) (List.drop 10 [c0, c1, c2, c3, c4, c5, c6, c7, c8, c9, c10, c11, c12])) = some y10 at f10
          rw [one_str] at f10
          change DataW.trod enc Tryd.prog W 0 (fun _ => true) held n' 9 [c10] = some y10 at f10
          have f11 := hf 11 _ rfl
          change DataW.trod enc Tryd.prog W 0 (fun _ => true) held n' 9 (List.take (Tryd.prog.cellsOf 9) (List.drop 11 [c0, c1, c2, c3, c4, c5, c6, c7, c8, c9, c10, c11, c12])) = some y11 at f11
          rw [one_str] at f11
          change DataW.trod enc Tryd.prog W 0 (fun _ => true) held n' 9 [c11] = some y11 at f11
          have f12 := hf 12 _ rfl
          change DataW.trod enc Tryd.prog W 0 (fun _ => true) held n' 25 (List.take (Tryd.prog.cellsOf 25) (List.drop 12 [c0, c1, c2, c3, c4, c5, c6, c7, c8, c9, c10, c11, c12])) = some y12 at f12
          rw [one_set] at f12
          change DataW.trod enc Tryd.prog W 0 (fun _ => true) held n' 25 [c12] = some y12 at f12
          obtain ⟨a0, e0, _, w0⟩ := DataW.trod_int Tryd.underlying23 f0
          obtain ⟨a1, e1, _, w1⟩ := DataW.trod_int Tryd.underlying23 f1
          obtain ⟨a2, e2, _, w2⟩ := DataW.trod_int Tryd.underlying23 f2
          obtain ⟨a3, e3, _, w3⟩ := DataW.trod_int Tryd.underlying23 f3
          obtain ⟨a4, e4, _, w4⟩ := DataW.trod_int Tryd.underlying23 f4
          obtain ⟨a5, e5, _, w5⟩ := DataW.trod_int Tryd.underlying23 f5
          obtain ⟨a6, e6, _, w6⟩ := DataW.trod_int Tryd.underlying23 f6
          obtain ⟨a7, e7, _, w7⟩ := DataW.trod_int Tryd.underlying23 f7
          obtain ⟨a8, e8, _⟩ := DataW.trod_bool Tryd.underlying4 f8
          obtain ⟨a9, e9, _, w9⟩ := DataW.trod_string Tryd.underlying9 f9
          obtain ⟨a10, e10, _, w10⟩ := DataW.trod_string Tryd.underlying9 f10
          obtain ⟨a11, e11, _, w11⟩ := DataW.trod_string Tryd.underlying9 f11
          obtain ⟨sa, sn, sc, l, e12, hsl, hsm, hrd, hnum⟩ := row_of_field Tryd.underlying25 f12
          simp only [List.cons.injEq, and_true] at e0 e1 e2 e3 e4 e5 e6 e7 e8 e9 e10 e11
          subst e0; subst e1; subst e2; subst e3; subst e4; subst e5; subst e6; subst e7; subst e8; subst e9; subst e10; subst e11
          subst e12
          have b0 := (bounds_u64 w0).1; have b1 := (bounds_u64 w1).1; have b2 := (bounds_u64 w2).1; have b3 := (bounds_u64 w3).1; have b4 := (bounds_u64 w4).1; have b5 := (bounds_u64 w5).1; have b6 := (bounds_u64 w6).1; have b7 := (bounds_u64 w7).1
          refine ⟨(⟨a0, a1, a2, a3, a4, a5, a6, a7, a8, a9.data.toList, a10.data.toList, a11.data.toList, ⟨sa, sn, sc⟩⟩, rsOf l), fun j hj => ?_, ?_, ?_, ?_⟩
          · rw [← Go.Deep.add_add, hat j hj]
            unfold fcs
            simp only [str_is]
          · show a0 = ((a0.toNat : Nat) : Int)
            omega
          · show Rd W (.slice sa sn sc) (ints (rsOf l))
            rw [ints_rsOf (fun x hx => ⟨(hnum x hx).1.1, (hnum x hx).2.1⟩)]
            exact hrd
          · intro j hj
            unfold nm
            split <;> first | assumption | exact Int.le_refl 0
    refine ⟨(List.range len).map (fun i => if h : i < len then (Classical.choose (key i h)).1 else frZ), (List.range len).map (fun i => if h : i < len then (Classical.choose (key i h)).2 else []), by simp, by simp, by omega, ⟨some p, cap, by simp, by simpa using hl, fun hne => ?_⟩, fun i hil => ?_⟩
    · have hpos : 0 < len := by have := List.length_pos_iff.2 hne; simpa using this
      have hp0 := (Classical.choose_spec (key 0 hpos)).1 0 (by decide)
      have hpp : p = ⟨p.block, p.off, none⟩ := by
        have := plain_addr (hp0.trans rfl)
        rwa [show p.add (0 * 13 + 0) = p by simp [Addr.add]] at this
      refine ⟨p.block, p.off, by rw [← hpp], ?_, fun i hi j hj => ?_⟩
      · have := World.block_lt_of_cell? _ _ (hp0.trans rfl)
        rwa [show p.add (0 * 13 + 0) = p by simp [Addr.add]] at this
      · have hi' : i < len := by simpa using hi
        have h := (Classical.choose_spec (key i hi')).1 j hj
        rw [(congrArg (fun q => q.add (i * 13 + j)) hpp).trans (Addr.add_lit _ _ _)] at h
        rw [List.getD_eq_getElem?_getD, List.getElem?_map, List.getElem?_range hi']
        simp only [Option.map_some, Option.getD_some, dif_pos hi']
        exact h
    · have h := (Classical.choose_spec (key i hil)).2
      rw [List.getD_eq_getElem?_getD, List.getElem?_map, List.getElem?_range hil, List.getD_eq_getElem?_getD, List.getElem?_map, List.getElem?_range hil]
      simp only [Option.map_some, Option.getD_some, dif_pos hil]
      exact h
end Go.Proofs.YtfeecfdbncjmnaaDoor.Fm
