/- The walks of layer 4: the document's laid: a mask on the bytes of a number. -/
import Derived.Test.YtabikljimndliaaDoorHdW
import Derived.Test.YtabikljimndliaaDoorHrC
import Derived.Lib.ConvBytes
import Derived.Laws.BytesArg
namespace Go.Proofs.YtabikljimndliaaDoor.Hd
open Go.RowKit Vm
set_option linter.unusedVariables false
set_option linter.unusedSimpArgs false

/-- A row of bytes, that may be written. -/
def BRow (g : Nat) (l : List UInt8) (w : World) : Prop :=
  ∃ cs m, w.heap[g]? = some (.cells cs 5 (m, m + 1)) ∧ l.length ≤ m ∧ ∀ i (h : i < l.length), cs[i]? = some (.int .u8 ((l[i].toNat : Nat) : Int))
theorem BRow.cell {g : Nat} {l : List UInt8} {w : World} (h : BRow g l w) (i : Nat) (hi : i < l.length) : w.cell? ⟨g, i, none⟩ = some (.int .u8 ((l[i].toNat : Nat) : Int)) := by
  obtain ⟨cs, m, h1, h2, h3⟩ := h
  rw [show w.cell? ⟨g, i, none⟩ = cs[i]? from Lib.cell_of_heap h1 i]
  exact h3 i hi
theorem BRow.fz {g : Nat} {l : List UInt8} {w : World} (h : BRow g l w) (i : Nat) (hi : i < l.length) : w.frozen? ⟨g, i, none⟩ = false := by
  obtain ⟨cs, m, h1, h2, h3⟩ := h
  simp [World.frozen?, h1]
  omega
theorem BRow.lt {g : Nat} {l : List UInt8} {w : World} (h : BRow g l w) : g < w.heap.size := by
  obtain ⟨cs, m, h1, h2, h3⟩ := h
  rcases Nat.lt_or_ge g w.heap.size with h4 | h4
  · exact h4
  · rw [Array.getElem?_eq_none h4] at h1; cases h1
theorem BRow.keep {g : Nat} {l : List UInt8} {w w' : World} (h : BRow g l w) (hb : Below w.heap.size w w') : BRow g l w' := by
  have hlt := h.lt
  obtain ⟨cs, m, h1, h2, h3⟩ := h
  exact ⟨cs, m, by rw [hb.block g hlt]; exact h1, h2, h3⟩
theorem BRow.set {g : Nat} {l : List UInt8} {w : World} (h : BRow g l w) (i : Nat) (x : UInt8) : BRow g (l.set i x) (w.setCell ⟨g, i, none⟩ (.int .u8 ((x.toNat : Nat) : Int))) := by
  obtain ⟨cs, m, h1, h2, h3⟩ := h
  refine ⟨_, m, Joins.block_setCell h1 _, by simpa using h2, fun k hk => ?_⟩
  have hk' : k < l.length := by simpa using hk
  have := h3 k hk'
  have hks : k < cs.size := by
    rcases Nat.lt_or_ge k cs.size with h | h
    · exact h
    · rw [Array.getElem?_eq_none h] at this; cases this
  by_cases e : i = k
  · subst e; simp [hks]
  · rw [Array.getElem?_setIfInBounds_ne e, List.getElem_set_ne e]; exact this
theorem bytes_row (W : World) (l : List UInt8) : ∃ c W', (convert 9 45 (.string ⟨l.toArray⟩)).run Tryd.prog W = .ok (.slice (some ⟨W.heap.size, 0, none⟩) l.length c) W' ∧ Below W.heap.size W W' ∧ BRow W.heap.size l W' := by
  have h := Lib.run_convert_string_bytes (P := Tryd.prog) W 9 45 5 ⟨l.toArray⟩ Tryd.underlying9 Tryd.underlying45 Tryd.underlying5
  rw [sv_size] at h
  refine ⟨_, _, h, ⟨rfl, rfl, rfl, by rw [Lib.bytesWorld_size]; omega, fun k hk => Lib.bytesWorld_at_old _ _ _ _ hk⟩, _, _, Lib.bytesWorld_at_new _ _ _, ?_, fun i hi => ?_⟩
  · simp [Lib.bytesCells]
  · have := Lib.bytesWorld_cell W 5 ⟨l.toArray⟩ i (by rw [sv_size]; exact hi)
    rw [show (Lib.bytesWorld W 5 ⟨l.toArray⟩).cell? ⟨W.heap.size, i, none⟩ = (Lib.bytesCells W 5 ⟨l.toArray⟩)[i]? from Lib.cell_of_heap (Lib.bytesWorld_at_new _ _ _) i] at this
    rw [this]
    simp [List.getD, List.getElem?_eq_getElem hi]
theorem strOf_bytes (l : List UInt8) : strOfNums (l.map fun x => ((x.toNat : Nat) : Int)) = ⟨l.toArray⟩ := by
  unfold strOfNums
  congr 1
  rw [List.map_map]
  have : (fun n : Int => UInt8.ofNat n.toNat) ∘ (fun x : UInt8 => ((x.toNat : Nat) : Int)) = id := by
    funext x; simp
  rw [this, List.map_id]
theorem back_row (W : World) (g : Nat) (l : List UInt8) (c : Nat) (h : BRow g l W) : (convert 45 9 (.slice (some ⟨g, 0, none⟩) l.length c)).run Tryd.prog W = .ok (.string ⟨l.toArray⟩) W := by
  have := run_convert_bytes_arg (P := Tryd.prog) W 45 5 Tryd.underlying45 Tryd.underlying5 g 0 l.length c (l.map fun x => ((x.toNat : Nat) : Int)) (by simp) (fun i hi => by
    rw [Nat.zero_add, h.cell i hi]
    simp [List.getD, List.getElem?_eq_getElem hi]) 9 Tryd.underlying9
  rw [this, strOf_bytes]
/-- The bytes behind k rounds. -/
def curL (b : UInt8) (l m : List UInt8) (p k : Nat) : List UInt8 :=
  l.mapIdx fun i x => if i = 0 then b else if p ≤ i ∧ i < p + k then x ^^^ m.getD (1 + i - p) 0 else x
theorem curL_len (b : UInt8) (l m : List UInt8) (p k : Nat) : (curL b l m p k).length = l.length := by simp [curL]
theorem curL_zero (b : UInt8) (l m : List UInt8) (p : Nat) : l.set 0 b = curL b l m p 0 := by
  apply List.ext_getElem
  · simp [curL]
  · intro i h1 h2
    simp only [curL, List.getElem_mapIdx]
    by_cases h : i = 0
    · subst h; simp
    · rw [List.getElem_set_ne (fun e => h e.symm), if_neg h, if_neg (by omega)]
theorem curL_succ (b : UInt8) (l m : List UInt8) (p k : Nat) (hp : 1 ≤ p) (hl : p + k < l.length) (hm : 1 + k < m.length) : (curL b l m p k).set (p + k) (l[p + k] ^^^ m[1 + k]) = curL b l m p (k + 1) := by
  apply List.ext_getElem
  · simp [curL]
  · intro i h1 h2
    by_cases h : p + k = i
    · subst h
      rw [List.getElem_set_self]
      simp only [curL, List.getElem_mapIdx]
      rw [if_neg (by omega), if_pos (by omega)]
      have : 1 + (p + k) - p = 1 + k := by omega
      rw [this]
      simp [List.getD, List.getElem?_eq_getElem hm]
    · rw [List.getElem_set_ne h]
      simp only [curL, List.getElem_mapIdx]
      split
      · rfl
      · by_cases h3 : p ≤ i ∧ i < p + k
        · rw [if_pos h3, if_pos (by omega)]
        · rw [if_neg h3, if_neg (by omega)]
theorem curL_turn (b : UInt8) (l m : List UInt8) (p k : Nat) (hp : 1 ≤ p) (hl : p + k ≤ l.length) (hm : k + 1 ≤ m.length) : curL b l m p k = b :: (l.take p).drop 1 ++ xorL ((l.drop p).take k) (m.drop 1) ++ l.drop (p + k) := by
  apply List.ext_getElem
  · simp [curL, xorL]; omega
  · intro i h1 h2
    have hi : i < l.length := by simpa [curL] using h1
    have hx : (xorL ((l.drop p).take k) (m.drop 1)).length = k := by simp [xorL]; omega
    have hd : (b :: (l.take p).drop 1).length = p := by simp; omega
    simp only [curL, List.getElem_mapIdx]
    by_cases h3 : i < p
    · rw [List.getElem_append_left (by rw [List.length_append, hx, hd]; omega), List.getElem_append_left (by rw [hd]; exact h3)]
      cases i with
      | zero => simp
      | succ i => rw [if_neg (by omega), if_neg (by omega)]; simp [Nat.add_comm]
    · rw [if_neg (by omega)]
      by_cases h4 : i < p + k
      · rw [List.getElem_append_left (by rw [List.length_append, hx, hd]; omega), List.getElem_append_right (by rw [hd]; omega), if_pos (by omega)]
        simp only [hd]
        unfold xorL
        rw [List.getElem_zipWith]
        have e1 : p + (i - p) = i := by omega
        have e2 : 1 + (i - p) = 1 + i - p := by omega
        simp only [List.getElem_take, List.getElem_drop, e1, e2]
        rw [List.getD, List.getElem?_eq_getElem (show 1 + i - p < m.length by omega)]
        rfl
      · rw [List.getElem_append_right (by rw [List.length_append, hx, hd]; omega), if_neg (by omega)]
        simp only [List.length_append, hx, hd]
        have e1 : p + k + (i - (p + k)) = i := by omega
        simp only [List.getElem_drop, e1]
def LRel (b : UInt8) (l m : List UInt8) (p k0 : Nat) (g : Nat) (w : World) (iv : Value) (wr : World) : Prop :=
  ∃ k : Nat, k ≤ k0 ∧ iv = .int .i64 k ∧ BRow g (curL b l m p k) wr ∧ Below w.heap.size w wr
set_option maxHeartbeats 4000000 in
theorem laid_ref0 (l m o : List UInt8) (b : UInt8) (p k0 : Nat) (w : World) (HT : Hid (curL b l m p k0 = o)) (hp : 1 ≤ p) (hk4 : k0 ≤ 4) (hpk : p + k0 ≤ l.length) (hm5 : m.length = 5) (hl : l.length ≤ 140737488351232) :
    Calls Tryd.prog 35 #[.string ⟨l.toArray⟩, .string ⟨m.toArray⟩, .int .u8 ((b.toNat : Nat) : Int), .int .i64 p, .int .i64 k0] w fun e w' => e = .returned (.string ⟨o.toArray⟩) ∧ Below w.heap.size w w' := by
  obtain ⟨c, W, hcv, hbw, hrow⟩ := bytes_row w l
  have HCV := Lib.hid hcv
  have HBW := Lib.hid hbw
  have hl0 : 0 < l.length := by omega
  have c0 := hrow.cell 0 hl0
  have f0 := hrow.fz 0 hl0
  have HR : Hid (BRow w.heap.size (curL b l m p 0) (W.setCell ⟨w.heap.size, 0, none⟩ (.int .u8 ((b.toNat : Nat) : Int)))) := Lib.hid (by rw [← curL_zero]; exact hrow.set 0 b)
  replace hm5 := Lib.hid hm5
  clear hcv hbw hrow
  go_enter Tryd.func35, Tryd.ntmps35
  go_wp2_with fail
  rw [HCV.out]
  go_wp2
  clear c0 f0
  go_loopw [12] (fun iv wr => LRel b l m p k0 w.heap.size w iv wr) (fun iv _ => k0 - (intOf iv).toNat)
  case atStart => exact ⟨0, Nat.zero_le _, rfl, HR.out, HBW.out.setCell (p := ⟨w.heap.size, 0, none⟩) (Nat.le_refl _) _⟩
  case round =>
    obtain ⟨k, hk, rfl, hrow, hb⟩ := hrel
    have HROW := Lib.hid hrow
    clear hrow
    by_cases hlt : k < k0
    · have hpk' : p + k < l.length := by omega
      have hmk : 1 + k < m.length := by rw [hm5.out]; omega
      have HS := Lib.hid (curL_succ b l m p k hp hpk' hmk)
      have hpc : p + k < (curL b l m p k).length := by rw [curL_len]; exact hpk'
      have HTU := Lib.hid (fun w => turned_ref l[p + k] m[1 + k] w)
      obtain ⟨z, Ez⟩ : ∃ z, z = l[p + k] ^^^ m[1 + k] := ⟨_, rfl⟩
      rw [← Ez] at HTU HS
      clear Ez
      have IL : ((⟨l.toArray⟩ : ByteArray)[p + k]'(by rw [sv_size]; exact hpk')) = l[p + k] := rfl
      have IM : ((⟨m.toArray⟩ : ByteArray)[1 + k]'(by rw [sv_size]; exact hmk)) = m[1 + k] := rfl
      have e1 : ((p : Int) + (k : Int)).toNat = p + k := by omega
      have e2 : ((1 : Int) + (k : Int)).toNat = 1 + k := by omega
      have e3 : (0 : Int) ≤ (p : Int) + (k : Int) := by omega
      have e4 : (p : Int) + (k : Int) < (l.length : Nat) := by omega
      have e5 : (0 : Int) ≤ (1 : Int) + (k : Int) := by omega
      have e6 : (1 : Int) + (k : Int) < (m.length : Nat) := by omega
      have e7 : IntKind.i64.wrap ((p : Int) + (k : Int)) = (p : Int) + (k : Int) := IntWalk.i64_in _ (by omega)
      have e8 : IntKind.i64.wrap ((1 : Int) + (k : Int)) = (1 : Int) + (k : Int) := IntWalk.i64_in _ (by omega)
      obtain ⟨x, Ex⟩ : ∃ x, x = l[p + k] := ⟨_, rfl⟩
      obtain ⟨y, Ey⟩ : ∃ y, y = m[1 + k] := ⟨_, rfl⟩
      rw [← Ex] at IL HTU
      rw [← Ey] at IM HTU
      clear Ex Ey
      go_wp2_with fail
      go_region_with ((go_at_call 52; (with_reducible refine (HTU.out _).mono ?_); rintro e w2 ⟨rfl, hb2⟩; have HB2 := Lib.hid ((below_drew hb).trans (hb2.mono hb.size)); have HR2 := Lib.hid ((HROW.out.keep (below_drew (Below.refl _ _))).keep hb2); have c2 := HR2.out.cell _ hpc; have f2 := HR2.out.fz _ hpc; clear hb2))
      all_goals
        clear IL IM e7 e8 c2 f2
        go_wp2
        go_roundw
        case rel => exact ⟨k + 1, by omega, by go_num, by rw [← HS.out]; exact HR2.out.set _ z, HB2.out.setCell (p := ⟨w.heap.size, p + k, none⟩) (Nat.le_refl _) _⟩
        case measure => simp [intOf]; omega
    · obtain rfl : k = k0 := by omega
      have HBK := Lib.hid (back_row wr w.heap.size _ c HROW.out)
      rw [curL_len] at HBK
      go_wp2_with fail
      rw [HBK.out, HT.out]
      go_wp2
      go_ret
      exact ⟨rfl, hb⟩
theorem laid_ref (l m : List UInt8) (p k0 : Nat) (w : World) (hp : 1 ≤ p) (hk4 : k0 ≤ 4) (hpk : p + k0 ≤ l.length) (hm5 : m.length = 5) (hl : l.length ≤ 140737488351232) :
    Calls Tryd.prog 35 #[.string ⟨l.toArray⟩, .string ⟨m.toArray⟩, .int .u8 (((fstB (l.headD 0) (m.headD 0)).toNat : Nat) : Int), .int .i64 p, .int .i64 k0] w fun e w' => e = .returned (.string ⟨(turnM l m p k0).toArray⟩) ∧ Below w.heap.size w w' :=
  laid_ref0 l m _ _ p k0 w (Lib.hid (curL_turn _ l m p k0 hp hpk (by omega))) hp hk4 hpk hm5 hl
end Go.Proofs.YtabikljimndliaaDoor.Hd
