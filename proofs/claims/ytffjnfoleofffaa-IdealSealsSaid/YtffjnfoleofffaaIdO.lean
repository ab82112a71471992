/- What the laws over rows of layer 10 share: what is sealed one behind the other; rows of texts of the call's own. By hand. -/
import Derived.Test.YtffjnfoleofffaaIdN
import Derived.Deep.CutRange
import Derived.Deep.RegionHeld3
import Derived.OneCell
namespace Go.Proofs.Ytffjnfoleofffaa.Id
open Go.RowKit Vm
set_option linter.unusedVariables false
set_option linter.unusedSimpArgs false

/-- What is sealed of some acts, one behind the other. -/
def sldE (s : Nat) (L : List Ent) (j : Nat) : Ent := ⟨(L.getD j eZ).fr, (L.getD j eZ).num, sealS s j (L.getD j eZ).bytes (L.getD j eZ).plain, (L.getD j eZ).plain⟩
def sld (s : Nat) (L : List Ent) (i : Nat) : List Ent := (List.range i).map (sldE s L)
theorem sld_len (s : Nat) (L : List Ent) (i : Nat) : (sld s L i).length = i := by simp [sld]
theorem sld_succ (s : Nat) (L : List Ent) (i : Nat) : sld s L (i + 1) = sld s L i ++ [sldE s L i] := by simp [sld, List.range_succ]
theorem sld_get (s : Nat) (L : List Ent) (i j : Nat) (h : j < i) : (sld s L i).getD j eZ = sldE s L j := by
  unfold sld
  rw [List.getD_eq_getElem?_getD, List.getElem?_map, List.getElem?_range h]
  rfl
theorem sld_mem {s : Nat} {L : List Ent} {i : Nat} {e : Ent} (h : e ∈ sld s L i) : ∃ j, j < i ∧ e = sldE s L j := by
  obtain ⟨j, hj, rfl⟩ := List.mem_map.1 h
  exact ⟨j, List.mem_range.1 hj, rfl⟩
/-- The box's contract in a round. -/
theorem seal_round (s i : Nat) (L : List Ent) (vb : Value) (x : Ent) (SS : ByteArray) (W : World) (hx : L.getD i eZ = x) (hS : sealS s i x.bytes x.plain = SS) (hi : i ≤ 20) (hr : RowE W vb (sld s L i)) (hc : x.bytes.size ≤ 30) (hp : x.plain.size ≤ 200) :
    Calls Try.prog 17 #[.agg #[.int .u64 s, .int .u64 i, vb], .int .i64 x.fr, .int .u64 x.num, .string x.bytes, .string x.plain] W fun e w' => ∃ a c, e = .returned (.tuple #[.agg #[.int .u64 s, .int .u64 (i + 1 : Nat), .slice a (i + 1) c], .string SS]) ∧ OwnE 64 w' W.heap.size (.slice a (i + 1) c) (sld s L (i + 1)) ∧ Below W.heap.size W w' := by
  refine (seal_any s i vb (sld s L i) x.fr x.num x.bytes x.plain W hr (by rw [sld_len]; omega) (by omega) (by omega)).mono ?_
  rintro e w' ⟨a, c, h1, h2, h3⟩
  rw [sld_len, hS] at h1
  rw [sld_len, hS] at h2
  refine ⟨a, c, ?_, ?_, h3⟩
  · rw [h1, show (i + 1) % 18446744073709551616 = i + 1 by omega]
  · rw [sld_succ]
    have : sldE s L i = ⟨x.fr, x.num, SS, x.plain⟩ := by unfold sldE; rw [hx, hS]
    rw [this]; exact h2
theorem rseal_round (s i : Nat) (L : List Ent) (vb : Value) (x : Ent) (SS : ByteArray) (W : World) (hx : L.getD i eZ = x) (hS : sealS s i x.bytes x.plain = SS) (hi : i ≤ 20) (hr : RowE W vb (sld s L i)) (hc : x.bytes.size ≤ 30) (hp : x.plain.size ≤ 200) :
    Calls Try.prog 18 #[.agg #[.int .u64 s, .int .u64 i, vb], .int .i64 x.fr, .int .u64 x.num, .string x.bytes, .string x.plain] W fun e w' => ∃ a c, e = .returned (.tuple #[.agg #[.int .u64 s, .int .u64 (i + 1 : Nat), .slice a (i + 1) c], .string SS]) ∧ OwnE 66 w' W.heap.size (.slice a (i + 1) c) (sld s L (i + 1)) ∧ Below W.heap.size W w' := by
  refine (rseal_any s i vb (sld s L i) x.fr x.num x.bytes x.plain W hr (by rw [sld_len]; omega) (by omega) (by omega)).mono ?_
  rintro e w' ⟨a, c, h1, h2, h3⟩
  rw [sld_len, hS] at h1
  rw [sld_len, hS] at h2
  refine ⟨a, c, ?_, ?_, h3⟩
  · rw [h1, show (i + 1) % 18446744073709551616 = i + 1 by omega]
  · rw [sld_succ]
    have : sldE s L i = ⟨x.fr, x.num, SS, x.plain⟩ := by unfold sldE; rw [hx, hS]
    rw [this]; exact h2
/-- Behind a Seal whose answer's box is made beside it. -/
def CutS (B T : TypeId) (s i : Nat) (L : List Ent) (SS : ByteArray) (wr : World) (vp vs : Value) (W : World) : Prop :=
  ∃ (g : Nat) (a : Option Addr) (c : Nat), vp = .pointer (some ⟨g, 0, none⟩) ∧ vs = .string SS ∧ wr.heap.size ≤ g ∧ W.heap[g]? = some (.cells #[.int .u64 s, .int .u64 (i + 1 : Nat), .slice a (i + 1) c] B (0, 0)) ∧ OwnE T W wr.heap.size (.slice a (i + 1) c) (sld s L (i + 1)) ∧ Below wr.heap.size wr W
theorem cutS_last {B T : TypeId} {s i : Nat} {L : List Ent} {SS : ByteArray} {wr u : World} {a : Option Addr} {c : Nat} (ho : OwnE T u wr.heap.size (.slice a (i + 1) c) (sld s L (i + 1))) (hb : Below wr.heap.size wr u) :
    CutS B T s i L SS wr (.pointer (some ⟨u.heap.size, 0, none⟩)) (.string SS) (u.alloc (.cells #[.int .u64 s, .int .u64 (i + 1 : Nat), .slice a (i + 1) c] B)) :=
  ⟨_, a, c, rfl, rfl, hb.size, heap_alloc_new u _, alloc_own ho _, hb.alloc hb.size _⟩
theorem cutS_first {B T : TypeId} {s i : Nat} {L : List Ent} {SS : ByteArray} {wr u : World} {a : Option Addr} {c N : Nat} (hN : wr.heap.size < N) (ho : OwnE T u N (.slice a (i + 1) c) (sld s L (i + 1))) (hb : Below wr.heap.size wr u)
    (hz : u.heap[wr.heap.size]? = some (.cells #[.int .u64 0, .int .u64 0, .slice none 0 0] B (0, 0))) :
    CutS B T s i L SS wr (.pointer (some ⟨wr.heap.size, 0, none⟩)) (.string SS) (((u.setCell ⟨wr.heap.size, 0, none⟩ (.int .u64 s)).setCell ⟨wr.heap.size, 1, none⟩ (.int .u64 (i + 1 : Nat))).setCell ⟨wr.heap.size, 2, none⟩ (.slice a (i + 1) c)) :=
  ⟨_, a, c, rfl, rfl, Nat.le_refl _, three_put hz _ _ _, OwnE.mono (B' := wr.heap.size) (ownsRow_setCell_below (ownsRow_setCell_below (ownsRow_setCell_below ho (a := ⟨wr.heap.size, 0, none⟩) hN _) (a := ⟨wr.heap.size, 1, none⟩) hN _) (a := ⟨wr.heap.size, 2, none⟩) hN _) (by omega),
    Below.setCell (Below.setCell (Below.setCell hb (p := ⟨wr.heap.size, 0, none⟩) (Nat.le_refl _) _) (p := ⟨wr.heap.size, 1, none⟩) (Nat.le_refl _) _) (p := ⟨wr.heap.size, 2, none⟩) (Nat.le_refl _) _⟩
theorem own_go {w w' : World} {B : Nat} {e : TypeId} {size n : Nat} {v : Value} {xs : List Value} (h : w.ownsRow B e size v n xs) (hb : Below w.heap.size w w') : w'.ownsRow B e size v n xs := owns_below h hb
/-- A row of texts of the call's own. -/
def OwnS (w : World) (B : Nat) (v : Value) (xs : List ByteArray) : Prop := w.ownsRow B 9 1 v xs.length (xs.map .string)
theorem OwnS.cells {w : World} {B n c : Nat} {a : Option Addr} {xs : List ByteArray} (h : OwnS w B (.slice a n c) xs) : n = xs.length ∧ n ≤ c ∧ ∀ k, k < n → ∃ g, a = some ⟨g, 0, none⟩ ∧ B ≤ g ∧ g < w.heap.size ∧ w.cell? ⟨g, k, none⟩ = some (.string (xs.getD k ⟨#[]⟩)) := by
  have h0 := h
  rcases h.2 with ⟨hv, hz⟩ | ⟨g, cap, cur, hv, hb, hg, hnc, r⟩
  · injection hv with e1 e2 e3
    refine ⟨by omega, by omega, fun k hk => by omega⟩
  · injection hv with e1 e2 e3
    subst e1; subst e2; subst e3
    refine ⟨rfl, hnc, fun k hk => ⟨g, rfl, hb, (Array.getElem?_eq_some_iff.1 hg).1, ?_⟩⟩
    have := World.ownsRow.cellAt h0 k (by simp; omega)
    rw [this, List.getElem?_map, List.getD_eq_getElem?_getD, List.getElem?_eq_getElem hk]
    rfl
theorem OwnS.form {w : World} {B : Nat} {v : Value} {xs : List ByteArray} (h : OwnS w B v xs) : ∃ a c, v = .slice a xs.length c := by
  rcases h.2 with ⟨hv, hz⟩ | ⟨g, cap, cur, hv, _⟩
  · exact ⟨none, 0, by rw [hv, hz]⟩
  · exact ⟨_, _, hv⟩
theorem infoS : (Try.prog.info? 9).map (fun i => (i.zero, i.size, i.bytes)) = some (some (.string ⟨#[]⟩), 1, 16) := by kernel_rfl
theorem push_S (w : World) (B : Nat) (v : Value) (xs : List ByteArray) (x : ByteArray) (ty : TypeId) (h : OwnS w B v xs) (hl : xs.length ≤ 1000) (hb : B ≤ w.heap.size) :
    ∃ v' w', (Builtin.append_ #[52, 52] ty #[v, .slice (some ⟨w.heap.size, 0, none⟩) 1 1]).run Try.prog (w.alloc (.cells #[.string x] 9)) = .ok v' w' ∧ OwnS w' B v' (xs ++ [x]) ∧ Below B w w' ∧ (∀ K, K < w.heap.size → v.ownBlock ≠ some K → w'.heap[K]? = w.heap[K]?) := by
  obtain ⟨i0, hi, hz0, hz1, hz2⟩ := info_parts infoS
  have ho : (w.alloc (.cells #[.string x] 9)).ownsRow B 9 1 v xs.length (xs.map .string) := World.ownsRow.alloc h _
  obtain ⟨v', w', hr, h1, h2, h3, h4⟩ := run_append_own_at (P := Try.prog) (w.alloc (.cells #[.string x] 9)) B 52 ty 9 i0 (.string ⟨#[]⟩) 1 16 Try.underlying52 hi hz0 hz1 hz2 rfl (by decide) v xs.length (xs.map .string) ho ⟨w.heap.size, 0, none⟩ 1 1 [.string x] rfl
    (by
      intro j u hu
      cases j with
      | zero =>
        simp only [List.getElem?_cons_zero, Option.some.injEq] at hu
        subst hu
        simp [Addr.add, go_sem]
      | succ j => simp at hu) (by intro u hu; rw [List.mem_singleton.1 hu]; rfl) (by unfold maxLen; omega) (by omega) (by simp; omega)
  refine ⟨v', w', hr, ?_, ?_, ?_⟩
  · unfold OwnS
    rw [List.map_append, List.length_append]
    exact h1
  · exact ((Below.refl _ _).alloc hb _).grown h2 (by simp; omega) (fun k hk => (World.ownsRow.lt h k hk).1)
  · intro K hK hne
    refine (h2.block K (by simp; omega) (fun he => hne he.symm)).trans ?_
    exact Lib.alloc_old w _ K hK
/-- A row that is owned stays one while its own block stands. -/
theorem own_block {T : TypeId} {W W' : World} {B : Nat} {v : Value} {G : List Ent} (h : OwnE T W B v G) (hb : ∀ g, v.ownBlock = some g → W'.heap[g]? = W.heap[g]?) : OwnE T W' B v G := by
  refine ⟨h.1, ?_⟩
  rcases h.2 with h2 | ⟨g, cap, cur, hv, hB, hg, r⟩
  · exact .inl h2
  · exact .inr ⟨g, cap, cur, hv, hB, (hb g (by rw [hv]; rfl)).trans hg, r⟩
theorem own_lt {T : TypeId} {W : World} {B : Nat} {v : Value} {G : List Ent} (h : OwnE T W B v G) {g : Nat} (hg : v.ownBlock = some g) : B ≤ g ∧ g < W.heap.size := World.ownsRow.lt h g hg
theorem ownS_lt {W : World} {B : Nat} {v : Value} {xs : List ByteArray} (h : OwnS W B v xs) {g : Nat} (hg : v.ownBlock = some g) : B ≤ g ∧ g < W.heap.size := World.ownsRow.lt h g hg
theorem wrap_next (x : Int) : IntKind.i64.wrap (x + 1) ≠ x := by
  intro h
  rw [IntKind.wrap_i64] at h
  omega
/-- Nobody opens what he sealed himself. -/
theorem opn_mine (s : Nat) (L : List Ent) (i : Nat) (SS : ByteArray) (hS : (sldE s L i).bytes = SS) (hno : ∀ j, j < i → (sldE s L j).bytes ≠ SS) : opn (L.getD i eZ).fr SS (sld s L (i + 1)) = none := by
  unfold opn
  rw [List.find?_eq_none]
  intro e he
  obtain ⟨j, hj, rfl⟩ := sld_mem he
  by_cases hji : j < i
  · simp [sel, hno j hji]
  · obtain rfl : j = i := by omega
    simp [sel, sldE]
theorem opn_other (s : Nat) (L : List Ent) (i : Nat) (SS : ByteArray) (z : Int) (hto : z ≠ (L.getD i eZ).fr) (hS : (sldE s L i).bytes = SS) (hno : ∀ j, j < i → (sldE s L j).bytes ≠ SS) : opn z SS (sld s L (i + 1)) = some (sldE s L i) := by
  unfold opn
  rw [sld_succ, List.find?_append]
  have h1 : (sld s L i).find? (sel z SS) = none := by
    rw [List.find?_eq_none]
    intro e he
    obtain ⟨j, hj, rfl⟩ := sld_mem he
    simp [sel, hno j hj]
  rw [h1]
  have h2 : sel z SS (sldE s L i) = true := by
    have : (sldE s L i).fr ≠ z := fun h => hto h.symm
    simp [sel, hS, this]
  simp [h2]
theorem opn_nobody (s : Nat) (L : List Ent) (i : Nat) (b : ByteArray) (z : Int) (hno : ∀ j, j < i → (sldE s L j).bytes ≠ b) : opn z b (sld s L i) = none := by
  unfold opn
  rw [List.find?_eq_none]
  intro e he
  obtain ⟨j, hj, rfl⟩ := sld_mem he
  simp [sel, hno j hj]
end Go.Proofs.Ytffjnfoleofffaa.Id
