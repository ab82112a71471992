/- The walks of layer 6: a writer's frame -/
import Derived.Test.YtoblmhpjendbfaaGreatDoorJb21
import Derived.Deep.RegionWith
import Derived.Deep.RegionHeld3
namespace Go.Proofs.YtoblmhpjendbfaaGreatDoor.Fm
set_option maxRecDepth 20000
open Go.RowKit Vm
set_option linter.unusedVariables false
set_option linter.unusedSimpArgs false

/-- A writer that has put these bytes. -/
def WB (B b : Nat) (l : List UInt8) (w : World) : Prop := Lib.IsBuilder 144 5 B b (Lib.byteCells l) w
theorem own_below {w w' : World} {B : Nat} {e : TypeId} {size n : Nat} {v : Value} {xs : List Value} (h : w.ownsRow B e size v n xs) (hb : Below w.heap.size w w') : w'.ownsRow B e size v n xs := by
  have hlt := World.ownsRow.lt h
  rcases h.2 with h2 | ⟨g, cap, cur, hv, hB, hg, r⟩
  · exact ⟨h.1, .inl h2⟩
  · have hl : g < w.heap.size := (hlt g (by rw [hv]; rfl)).2
    exact ⟨h.1, .inr ⟨g, cap, cur, hv, hB, (hb.block g hl).trans hg, r⟩⟩
theorem at_below {T e : TypeId} {B b : Nat} {p : Value} {bs : List Value} {w w' : World} (h : Lib.BuilderAt T e B b p bs w) (hb : Below w.heap.size w w') : Lib.BuilderAt T e B b p bs w' := by
  have hlt := Lib.BuilderAt.lt h
  obtain ⟨hB, v, hbk, hown, hne⟩ := h
  exact ⟨hB, v, (hb.block b hlt).trans hbk, own_below hown hb, hne⟩
theorem WB.below {B b : Nat} {l : List UInt8} {w w' : World} (h : WB B b l w) (hb : Below w.heap.size w w') : WB B b l w' :=
  h.elim (fun x => .inl (at_below x hb)) (fun x => .inr (at_below x hb))
theorem WB.le {B b : Nat} {l : List UInt8} {w : World} (h : WB B b l w) : B ≤ b ∧ b < w.heap.size := by
  rcases h with h | h
  · exact ⟨h.1, Lib.BuilderAt.lt h⟩
  · exact ⟨h.1, Lib.BuilderAt.lt h⟩
theorem strCells_to (l : List UInt8) : Lib.strCells ⟨l.toArray⟩ = Lib.byteCells l := by
  simp [Lib.strCells, Lib.byteCells]
theorem cells_app (a b : List UInt8) : Lib.byteCells (a ++ b) = Lib.byteCells a ++ Lib.byteCells b := by
  simp [Lib.byteCells]
/-- Texts, put by a writer. -/
theorem w_text (B b : Nat) (l m : List UInt8) (w : World) (h : WB B b l w) (hl : l.length + m.length ≤ 140737488355328) :
    Calls Tryz.prog 132 #[.pointer (some ⟨b, 0, none⟩), .string ⟨m.toArray⟩] w fun e w' => e = .returned (.tuple #[.int .i64 m.length, .nilIface]) ∧ WB B b (l ++ m) w' ∧ Below B w w' ∧ Fw.Kp b w w' := by
  have h1 := Fw.writeString B b (Lib.byteCells l) ⟨m.toArray⟩ w h (by rw [Lib.byteCells_length]; exact hl) (by have := h.le; omega)
  rw [strCells_to, ← cells_app] at h1
  exact h1
theorem w_byte (B b : Nat) (l : List UInt8) (c : Nat) (w : World) (h : WB B b l w) (hl : l.length ≤ 100000) (hc : c < 256) :
    Calls Tryz.prog 131 #[.pointer (some ⟨b, 0, none⟩), .int .u8 (c : Nat)] w fun e w' => e = .returned .nilIface ∧ WB B b (l ++ [UInt8.ofNat c]) w' ∧ Below B w w' ∧ Fw.Kp b w w' := by
  have h1 := Fw.writeByte B b (Lib.byteCells l) (c : Nat) w h (by rw [Lib.byteCells_length]; omega) (by have := h.le; omega)
  have e : Lib.byteCells (l ++ [UInt8.ofNat c]) = Lib.byteCells l ++ [.int .u8 (c : Nat)] := by
    rw [cells_app]
    have : (UInt8.ofNat c).toNat = c := by rw [UInt8.toNat_ofNat']; omega
    simp [Lib.byteCells, this]
  rw [← e] at h1
  exact h1
set_option maxHeartbeats 1000000 in
theorem w_nums (B b B' : Nat) (l : List UInt8) (v : Value) (ns : List Int) (w : World) (ht : Tab w) (h : WB B b l w) (ho : OwnW w B' v ns) (h0 : ∀ z ∈ ns, 0 ≤ z ∧ z ≤ 4611686018427387903) (hn : ns.length ≤ 1000) (hl : l.length + (pcat ns).length ≤ 140737488355328) :
    Calls Tryz.prog 128 #[.pointer (some ⟨b, 0, none⟩), v] w fun e w' => e = .returned (.tuple #[]) ∧ WB B b (l ++ pcat ns) w' ∧ Below B w w' ∧ Fw.Kp b w w' := by
  have CP := Lib.hid (puts_own B' v ns w ht ho h0 hn)
  have HW := Lib.hid h
  have hle := h.le
  clear h ho ht
  generalize pcat ns = M at *
  have CW := Lib.hid (fun w h => w_text B b l M w h hl)
  clear hl
  go_enter Tryz.func128, Tryz.ntmps128
  go_wp2_with fail
  refine CP.out.mono ?_
  rintro e w1 ⟨rfl, hb⟩
  have HB1 := Lib.hid hb
  have HW1 := Lib.hid (HW.out.below hb)
  have HK1 := Lib.hid (Fw.Kp.below (b := b) hb)
  clear hb
  go_wp2_with fail
  refine (CW.out _ HW1.out).mono ?_
  rintro e w2 ⟨rfl, hw, hb, hk⟩
  have HK2 := Lib.hid (HK1.out.trans hk)
  have HB2 := Lib.hid ((HB1.out.mono (by omega)).trans hb)
  have HW2 := Lib.hid hw
  clear hw hb hk
  go_wp2
  go_end0
  exact ⟨rfl, HW2.out, HB2.out, HK2.out⟩
/-- A slice of new numbers. -/
theorem OwnW.new (w : World) (B : Nat) (l : List Int) (hb : B ≤ w.heap.size) (n : Nat) (hn : l.length = n) (h0 : n ≤ 1000) (cs : Array Value) (hc : cs = (numV l).toArray) : OwnW (w.alloc (.cells cs 23)) B (.slice (some ⟨w.heap.size, 0, none⟩) n n) l := by
  subst hn hc
  have h := World.ownsRow_lit (e := 23) (size := 1) w (numV l).toArray l.length hb (by unfold maxLen; omega) (by simp [numV])
  simpa [OwnW] using h
/-- Numbers in a new slice, put. -/
theorem w_new (B b : Nat) (l : List UInt8) (ns : List Int) (W : World) (n : Nat) (cs : Array Value) (ht : Tab W) (h : WB B b l W) (hn : ns.length = n) (hn2 : n ≤ 1000) (hc : cs = (numV ns).toArray) (h0 : ∀ z ∈ ns, 0 ≤ z ∧ z ≤ 4611686018427387903) (hl : l.length + (pcat ns).length ≤ 140737488355328) :
    Calls Tryz.prog 128 #[.pointer (some ⟨b, 0, none⟩), .slice (some ⟨W.heap.size, 0, none⟩) n n] (W.alloc (.cells cs 23)) fun e w' => e = .returned (.tuple #[]) ∧ WB B b (l ++ pcat ns) w' ∧ Below B W w' ∧ Fw.Kp b W w' := by
  have hle := h.le
  have hba : Below W.heap.size W (W.alloc (.cells cs 23)) := (Below.refl _ _).alloc (Nat.le_refl _) _
  refine (w_nums B b B l _ ns _ (ht.below hba ht.lt) (h.below hba) (OwnW.new W B ns (by omega) n hn hn2 cs hc) h0 (by omega) hl).mono ?_
  rintro e w' ⟨h1, h2, h3, h4⟩
  exact ⟨h1, h2, (hba.mono (by omega)).trans h3, (Fw.Kp.below hba).trans h4⟩

theorem pcat_2 (a b : Int) : pcat [a, b] = pt a.toNat ++ pt b.toNat := by rw [pcat_cons, pcat_cons, pcat_nil, List.append_nil]
theorem pcat_4 (a b c d : Int) : pcat [a, b, c, d] = pt a.toNat ++ (pt b.toNat ++ (pt c.toNat ++ pt d.toNat)) := by rw [pcat_cons, pcat_cons, pcat_2]
theorem pt_8 (n : Nat) (h : n < 4611686018427387904) : (pt n).length ≤ 8 := (pt_le n (by have := pl_cases n; omega)).2
/-- Numbers in a new slice, put where the order was drawn. -/
theorem w_drew (B b : Nat) (l : List UInt8) (ns : List Int) (W : World) (n : Nat) (cs : Array Value) (ht : Tab W) (h : WB B b l W) (hn : ns.length = n) (hn2 : n ≤ 1000) (hc : cs = (numV ns).toArray) (h0 : ∀ z ∈ ns, 0 ≤ z ∧ z ≤ 4611686018427387903) (hl : l.length + (pcat ns).length ≤ 140737488355328) :
    Calls Tryz.prog 128 #[.pointer (some ⟨b, 0, none⟩), .slice (some ⟨W.heap.size, 0, none⟩) n n] (W.alloc (.cells cs 23)).drew fun e w' => e = .returned (.tuple #[]) ∧ WB B b (l ++ pcat ns) w' ∧ Below B W w' ∧ Fw.Kp b W w' := by
  have hle := h.le
  have hba : Below W.heap.size W (W.alloc (.cells cs 23)).drew := Below.drew ((Below.refl _ _).alloc (Nat.le_refl _) _)
  have ho : OwnW (W.alloc (.cells cs 23)).drew B (.slice (some ⟨W.heap.size, 0, none⟩) n n) ns := OwnW.new W B ns (by omega) n hn hn2 cs hc
  refine (w_nums B b B l _ ns _ (ht.below hba ht.lt) (h.below hba) ho h0 (by omega) hl).mono ?_
  rintro e w' ⟨h1, h2, h3, h4⟩
  exact ⟨h1, h2, (hba.mono (by omega)).trans h3, (Fw.Kp.below hba).trans h4⟩
/-- The ranges behind the last one, in words that the walk reads. -/
structure AckW (rs : List (Nat × Nat)) : Prop where
  num : ∀ i, i < rs.length → (rs.getD i (0, 0)).1 ≤ (rs.getD i (0, 0)).2 ∧ (rs.getD i (0, 0)).2 < 4611686018427387904
  nxt : ∀ i, i + 1 < rs.length → (rs.getD i (0, 0)).2 + 2 ≤ (rs.getD (i + 1) (0, 0)).1
  ack : ∀ i, i < rs.length → ∀ (x : Nat), ackQ x (rs.take (i + 1)).reverse = pt (x - (rs.getD i (0, 0)).2 - 2) ++ (pt ((rs.getD i (0, 0)).2 - (rs.getD i (0, 0)).1) ++ ackQ (rs.getD i (0, 0)).1 (rs.take i).reverse)
theorem ackW (rs : List (Nat × Nat)) (n : Nat) (hn : rs.length = n + 1) (hm : MayP (ints rs)) (hh : (rs.getD n (0, 0)).2 < 4611686018427387904) : AckW rs := by
  refine ⟨?_, ?_, ?_⟩
  · have hx : ∀ j, j ≤ n → (rs.getD (n - j) (0, 0)).1 ≤ (rs.getD (n - j) (0, 0)).2 ∧ (rs.getD (n - j) (0, 0)).2 < 4611686018427387904 := by
      intro j
      induction j with
      | zero =>
        intro _
        have h1 := (hm n (by rw [ints_len]; omega)).1
        rw [ints_get] at h1
        simp only at h1
        exact ⟨by simpa using (by omega : (rs.getD n (0, 0)).1 ≤ (rs.getD n (0, 0)).2), hh⟩
      | succ j ih =>
        intro hj
        have ih := ih (by omega)
        have h1 := (hm (n - (j + 1)) (by rw [ints_len]; omega)).1
        have h2 := (hm (n - j) (by rw [ints_len]; omega)).2.2 (by omega)
        have e : n - j - 1 = n - (j + 1) := by omega
        rw [e, ints_get, ints_get] at h2
        rw [ints_get] at h1
        simp only at h1 h2
        exact ⟨by omega, by omega⟩
    intro i hi
    have := hx (n - i) (by omega)
    rwa [show n - (n - i) = i by omega] at this
  · intro i hi
    have h2 := (hm (i + 1) (by rw [ints_len]; omega)).2.2 (by omega)
    rw [Nat.add_sub_cancel, ints_get, ints_get] at h2
    simp only at h2
    omega
  · intro i hi x
    have e : rs.take (i + 1) = rs.take i ++ [rs.getD i (0, 0)] := by
      rw [List.take_add_one, List.getD_eq_getElem?_getD, List.getElem?_eq_getElem (by omega)]
      rfl
    rw [e, List.reverse_append]
    rfl
theorem last_cut (rs : List (Nat × Nat)) (n : Nat) (hn : rs.length = n + 1) : rs.reverse = rs.getD n (0, 0) :: (rs.take n).reverse := by
  have e : rs.take (n + 1) = rs.take n ++ [rs.getD n (0, 0)] := by
    rw [List.take_add_one, List.getD_eq_getElem?_getD, List.getElem?_eq_getElem (by omega)]
    rfl
  rw [List.take_of_length_le (by omega)] at e
  conv => lhs; rw [e]
  rw [List.reverse_append]
  rfl
theorem wrap_u (z : Int) (h0 : 0 ≤ z) (h1 : z < 18446744073709551616) : IntKind.u64.wrap z = z := by rw [IntKind.wrap_u64]; omega
theorem pcat_len4 (a b c d : Nat) (ha : a < 4611686018427387904) (hb : b < 4611686018427387904) (hc : c < 4611686018427387904) (hd : d < 4611686018427387904) : (pcat [(a : Int), (b : Int), (c : Int), (d : Int)]).length ≤ 32 := by
  rw [pcat_4]
  have h1 := pt_8 (a : Int).toNat (by omega)
  have h2 := pt_8 (b : Int).toNat (by omega)
  have h3 := pt_8 (c : Int).toNat (by omega)
  have h4 := pt_8 (d : Int).toNat (by omega)
  simp only [List.length_append]
  omega
theorem pcat_len2 (a b : Nat) (ha : a < 4611686018427387904) (hb : b < 4611686018427387904) : (pcat [(a : Int), (b : Int)]).length ≤ 16 := by
  rw [pcat_2]
  have h1 := pt_8 (a : Int).toNat (by omega)
  have h2 := pt_8 (b : Int).toNat (by omega)
  simp only [List.length_append]
  omega
set_option maxRecDepth 100000 in
set_option maxHeartbeats 8000000 in
theorem w_ack (B b : Nat) (m0 : List UInt8) (rs : List (Nat × Nat)) (dl : Nat) (rb off cap : Nat) (w : World) (ht : Tab w) (hB : 0 < B) (hW : WB B b m0 w) (hm0 : m0.length ≤ 1000) (hdl : dl < 4611686018427387904) (hl1 : 1 ≤ rs.length) (hl2 : rs.length ≤ 32) (hrb : rb < B) (hm : MayP (ints rs)) (hh : (rs.getD (rs.length - 1) (0, 0)).2 < 4611686018427387904)
    (hc : ∀ i, i < rs.length → w.cell? ⟨rb, off + i * 2, none⟩ = some (.int .u64 ((rs.getD i (0, 0)).1 : Nat)) ∧ w.cell? ⟨rb, off + i * 2 + 1, none⟩ = some (.int .u64 ((rs.getD i (0, 0)).2 : Nat))) :
    Calls Tryz.prog 129 #[.pointer (some ⟨b, 0, none⟩), .slice (some ⟨rb, off, none⟩) rs.length cap, .int .u64 (dl : Nat)] w fun e w' => e = .returned (.tuple #[]) ∧ WB B b (m0 ++ ackP dl rs.reverse) w' ∧ Below B w w' ∧ Fw.Kp b w w' := by
  obtain ⟨n, hn⟩ : ∃ n, rs.length = n + 1 := ⟨rs.length - 1, by omega⟩
  rw [hn, Nat.add_sub_cancel] at hh
  have HA := Lib.hid (ackW rs n hn hm hh)
  have hlast := last_cut rs n hn
  have hB1 : B ≤ w.heap.size := by have := hW.le; omega
  obtain ⟨lo, hlo⟩ : ∃ x, (rs.getD n (0, 0)).1 = x := ⟨_, rfl⟩
  obtain ⟨hi, hhi⟩ : ∃ x, (rs.getD n (0, 0)).2 = x := ⟨_, rfl⟩
  have hpn := HA.out.num n (by omega)
  obtain ⟨hcn1, hcn2⟩ := hc n (by omega)
  rw [hhi, hlo] at hpn
  rw [hlo] at hcn1
  rw [hhi] at hcn2
  obtain ⟨d, hd⟩ : ∃ d, hi - lo = d := ⟨_, rfl⟩
  have hdi : (hi : Int) - (lo : Int) = (d : Int) := by omega
  have HT0 : Hid (m0 ++ ackP dl rs.reverse = (m0 ++ pcat [(hi : Int), (dl : Int), (n : Int), (d : Int)]) ++ ackQ lo (rs.take n).reverse) := Lib.hid (by
    rw [hlast, ackP, hhi, hlo, pcat_4, List.length_reverse, List.length_take, Nat.min_eq_left (by omega)]
    simp [hd])
  have hl4 := Lib.hid (pcat_len4 hi dl n d (by omega) hdl (by omega) (by omega))
  have C1 := Lib.hid (w_drew B b m0 [(hi : Int), (dl : Int), (n : Int), (d : Int)] w 4 #[.int .u64 (hi : Int), .int .u64 (dl : Int), .int .u64 (n : Int), .int .u64 (d : Int)] ht hW rfl (by decide) rfl (by
      intro z hz
      simp only [List.mem_cons, List.not_mem_nil, or_false] at hz
      rcases hz with rfl | rfl | rfl | rfl <;> omega) (by have := hl4.out; omega))
  have hwd : IntKind.u64.wrap (d : Int) = (d : Int) := wrap_u _ (by omega) (by omega)
  have hwn : IntKind.u64.wrap (n : Int) = (n : Int) := wrap_u _ (by omega) (by omega)
  generalize m0 ++ ackP dl rs.reverse = T at *
  have HC := Lib.hid hc
  have HTT := Lib.hid ht
  have HLO := Lib.hid hlo
  have HN2 := Lib.hid hn
  have HNL : Hid (n ≤ 31) := Lib.hid (by omega)
  obtain ⟨m, hm⟩ : ∃ m, rs.length = m := ⟨_, rfl⟩
  have hmn : m = n + 1 := by omega
  rw [hm]
  have hmi : (m : Int) - 1 = (n : Int) := by omega
  have n0 : (0 : Int) ≤ (n : Int) := by omega
  have n1 : (n : Int) < (m : Int) := by omega
  have m0 : (m : Int) ≤ 32 := by omega
  have hd1 : w.drew.cell? ⟨rb, off + n * 2, none⟩ = some (.int .u64 (lo : Nat)) := hcn1
  have hd2 : w.drew.cell? ⟨rb, off + n * 2 + 1, none⟩ = some (.int .u64 (hi : Nat)) := hcn2
  have HM := Lib.hid hmn
  have HAL := Lib.hid (show Below w.heap.size w (w.alloc (.cells #[.int .u64 (hi : Int), .int .u64 (dl : Int), .int .u64 (n : Int), .int .u64 (d : Int)] 23)).drew from Below.drew ((Below.refl _ _).alloc (Nat.le_refl _) _))
  have hrbw : rb < w.heap.size := by omega
  have HM0 := Lib.hid hm0
  clear hc hn hm hlast hlo hhi hpn hd hdl hl1 hl2 hh ht hmn hm0 hW
  go_enter Tryz.func129, Tryz.ntmps129
  go_wp2_with fail
  -- BEGIN REGION1
  refine wp_region_noPanic ?_
  refine wp_region_held_drew (S := fun W' : World => W'.cell? ⟨rb, off + n * 2, none⟩ = some (.int .u64 (lo : Nat)) ∧ W'.cell? ⟨rb, off + n * 2 + 1, none⟩ = some (.int .u64 (hi : Nat))) (by kernel_rfl) ?_ (fun hHeld => ?_)
  · exact ⟨hd1, hd2⟩
  refine wpAnyH_take (i := 0) (v := ?_) rfl (by kernel_rfl) (by kernel_rfl) (by kernel_rfl) (fun _ _ _ h => h) (Or.inl ⟨by rfl, ?_⟩) (by assumption) ?_
  rotate_left
  · (intro w hSw; (obtain ⟨hS0, hS1⟩ := hSw); go_simp; (try with_reducible rfl))
  try simp only [Act.put, List.getElem_toArray, List.getElem_cons_zero, List.getElem_cons_succ, List.setIfInBounds_toArray, List.set_cons_zero, List.set_cons_succ]
  refine wpAnyH_take (i := 1) (v := ?_) rfl (by kernel_rfl) (by kernel_rfl) (by kernel_rfl) (fun _ _ _ h => h) (Or.inl ⟨by rfl, ?_⟩) (by assumption) ?_
  rotate_left
  · (intro w hSw; (obtain ⟨hS0, hS1⟩ := hSw); go_simp; (try with_reducible rfl))
  try simp only [Act.put, List.getElem_toArray, List.getElem_cons_zero, List.getElem_cons_succ, List.setIfInBounds_toArray, List.set_cons_zero, List.set_cons_succ]
  refine wpAnyH_take (i := 2) (v := ?_) rfl (by kernel_rfl) (by kernel_rfl) (by kernel_rfl) (fun _ _ _ h => h) (Or.inl ⟨by rfl, ?_⟩) (by assumption) ?_
  rotate_left
  · (intro w hSw; (obtain ⟨hS0, hS1⟩ := hSw); go_simp; (try with_reducible rfl))
  try simp only [Act.put, List.getElem_toArray, List.getElem_cons_zero, List.getElem_cons_succ, List.setIfInBounds_toArray, List.set_cons_zero, List.set_cons_succ]
  refine wpAnyH_take (i := 3) (v := ?_) rfl (by kernel_rfl) (by kernel_rfl) (by kernel_rfl) (fun _ _ _ h => h) (Or.inl ⟨by rfl, ?_⟩) (by assumption) ?_
  rotate_left
  · (intro w hSw; (obtain ⟨hS0, hS1⟩ := hSw); go_simp; (try with_reducible rfl))
  try simp only [Act.put, List.getElem_toArray, List.getElem_cons_zero, List.getElem_cons_succ, List.setIfInBounds_toArray, List.set_cons_zero, List.set_cons_succ]
  refine wpAnyH_take (i := 4) (v := ?_) rfl (by kernel_rfl) (by kernel_rfl) (by kernel_rfl) (fun _ _ _ h => h) (Or.inl ⟨by rfl, ?_⟩) (by assumption) ?_
  rotate_left
  · (intro w hSw; (obtain ⟨hS0, hS1⟩ := hSw); go_simp; (try with_reducible rfl))
  try simp only [Act.put, List.getElem_toArray, List.getElem_cons_zero, List.getElem_cons_succ, List.setIfInBounds_toArray, List.set_cons_zero, List.set_cons_succ]
  refine wpAnyH_take (i := 5) (v := ?_) rfl (by kernel_rfl) (by kernel_rfl) (by kernel_rfl) (fun _ _ _ h => h) (Or.inl ⟨by rfl, ?_⟩) (by assumption) ?_
  rotate_left
  · (intro w hSw; (obtain ⟨hS0, hS1⟩ := hSw); go_simp; (try with_reducible rfl))
  try simp only [Act.put, List.getElem_toArray, List.getElem_cons_zero, List.getElem_cons_succ, List.setIfInBounds_toArray, List.set_cons_zero, List.set_cons_succ]
  refine wpAnyH_take (i := 6) (v := ?_) rfl (by kernel_rfl) (by kernel_rfl) (by kernel_rfl) (fun _ _ _ h => h) (Or.inl ⟨by rfl, ?_⟩) (by assumption) ?_
  rotate_left
  · (intro w hSw; (obtain ⟨hS0, hS1⟩ := hSw); go_simp; (try with_reducible rfl))
  try simp only [Act.put, List.getElem_toArray, List.getElem_cons_zero, List.getElem_cons_succ, List.setIfInBounds_toArray, List.set_cons_zero, List.set_cons_succ]
  refine wpAnyH_take (i := 7) (v := ?_) rfl (by kernel_rfl) (by kernel_rfl) (by kernel_rfl) (fun _ _ _ h => h) (Or.inl ⟨by rfl, ?_⟩) (by assumption) ?_
  rotate_left
  · (intro w hSw; (obtain ⟨hS0, hS1⟩ := hSw); go_simp; (try with_reducible rfl))
  try simp only [Act.put, List.getElem_toArray, List.getElem_cons_zero, List.getElem_cons_succ, List.setIfInBounds_toArray, List.set_cons_zero, List.set_cons_succ]
  refine wpAnyH_take (i := 8) (v := ?_) rfl (by kernel_rfl) (by kernel_rfl) (by kernel_rfl) (fun _ _ _ h => h) (Or.inl ⟨by rfl, ?_⟩) (by assumption) ?_
  rotate_left
  · (intro w hSw; (obtain ⟨hS0, hS1⟩ := hSw); go_simp; (try with_reducible rfl))
  try simp only [Act.put, List.getElem_toArray, List.getElem_cons_zero, List.getElem_cons_succ, List.setIfInBounds_toArray, List.set_cons_zero, List.set_cons_succ]
  refine wpAnyH_take (i := 9) (v := ?_) rfl (by kernel_rfl) (by kernel_rfl) (by kernel_rfl) (fun _ _ _ h => h) (Or.inl ⟨by rfl, ?_⟩) (by assumption) ?_
  rotate_left
  · (intro w hSw; (obtain ⟨hS0, hS1⟩ := hSw); go_simp; (try with_reducible rfl))
  try simp only [Act.put, List.getElem_toArray, List.getElem_cons_zero, List.getElem_cons_succ, List.setIfInBounds_toArray, List.set_cons_zero, List.set_cons_succ]
  refine wpAnyH_take (i := 10) (v := ?_) rfl (by kernel_rfl) (by kernel_rfl) (by kernel_rfl) (fun _ _ _ h => h) (Or.inl ⟨by rfl, ?_⟩) (by assumption) ?_
  rotate_left
  · (intro w hSw; (obtain ⟨hS0, hS1⟩ := hSw); go_simp; (try with_reducible rfl))
  try simp only [Act.put, List.getElem_toArray, List.getElem_cons_zero, List.getElem_cons_succ, List.setIfInBounds_toArray, List.set_cons_zero, List.set_cons_succ]
  refine wpAnyH_take (i := 11) (v := ?_) rfl (by kernel_rfl) (by kernel_rfl) (by kernel_rfl) (fun _ _ _ h => h) (Or.inl ⟨by rfl, ?_⟩) (by assumption) ?_
  rotate_left
  · (intro w hSw; (obtain ⟨hS0, hS1⟩ := hSw); go_simp; (try with_reducible rfl))
  try simp only [Act.put, List.getElem_toArray, List.getElem_cons_zero, List.getElem_cons_succ, List.setIfInBounds_toArray, List.set_cons_zero, List.set_cons_succ]
  refine wpAnyH_take (i := 12) (v := ?_) rfl (by kernel_rfl) (by kernel_rfl) (by kernel_rfl) (fun _ _ _ h => h) (Or.inl ⟨by rfl, ?_⟩) (by assumption) ?_
  rotate_left
  · (intro w hSw; (obtain ⟨hS0, hS1⟩ := hSw); go_simp; (try with_reducible rfl))
  try simp only [Act.put, List.getElem_toArray, List.getElem_cons_zero, List.getElem_cons_succ, List.setIfInBounds_toArray, List.set_cons_zero, List.set_cons_succ]
  refine wpAnyH_take (i := 13) (v := ?_) rfl (by kernel_rfl) (by kernel_rfl) (by kernel_rfl) (fun _ _ _ h => h) (Or.inl ⟨by rfl, ?_⟩) (by assumption) ?_
  rotate_left
  · (intro w hSw; (obtain ⟨hS0, hS1⟩ := hSw); go_simp; (try with_reducible rfl))
  try simp only [Act.put, List.getElem_toArray, List.getElem_cons_zero, List.getElem_cons_succ, List.setIfInBounds_toArray, List.set_cons_zero, List.set_cons_succ]
  refine wpAnyH_take (i := 14) (v := ?_) rfl (by kernel_rfl) (by kernel_rfl) (by kernel_rfl) (fun _ _ _ h => h) (Or.inl ⟨by rfl, ?_⟩) (by assumption) ?_
  rotate_left
  · (intro w hSw; (obtain ⟨hS0, hS1⟩ := hSw); go_simp; (try with_reducible rfl))
  try simp only [Act.put, List.getElem_toArray, List.getElem_cons_zero, List.getElem_cons_succ, List.setIfInBounds_toArray, List.set_cons_zero, List.set_cons_succ]
  refine wpAnyH_take (i := 15) (v := ?_) rfl (by kernel_rfl) (by kernel_rfl) (by kernel_rfl) (fun _ _ _ h => h) (Or.inl ⟨by rfl, ?_⟩) (by assumption) ?_
  rotate_left
  · (intro w hSw; (obtain ⟨hS0, hS1⟩ := hSw); go_simp; (try with_reducible rfl))
  try simp only [Act.put, List.getElem_toArray, List.getElem_cons_zero, List.getElem_cons_succ, List.setIfInBounds_toArray, List.set_cons_zero, List.set_cons_succ]
  refine wpAnyH_take (i := 16) (v := ?_) rfl (by kernel_rfl) (by kernel_rfl) (by kernel_rfl) (fun _ _ _ h => h) (Or.inl ⟨by rfl, ?_⟩) (by assumption) ?_
  rotate_left
  · (intro w hSw; (obtain ⟨hS0, hS1⟩ := hSw); go_simp; (try with_reducible rfl))
  try simp only [Act.put, List.getElem_toArray, List.getElem_cons_zero, List.getElem_cons_succ, List.setIfInBounds_toArray, List.set_cons_zero, List.set_cons_succ]
  refine wpAnyH_take (i := 17) (v := ?_) rfl (by kernel_rfl) (by kernel_rfl) (by kernel_rfl) (fun _ _ _ h => h) (Or.inl ⟨by rfl, ?_⟩) (by assumption) ?_
  rotate_left
  · (intro w hSw; (obtain ⟨hS0, hS1⟩ := hSw); go_simp; (try with_reducible rfl))
  try simp only [Act.put, List.getElem_toArray, List.getElem_cons_zero, List.getElem_cons_succ, List.setIfInBounds_toArray, List.set_cons_zero, List.set_cons_succ]
  refine wpAnyH_take (i := 18) (v := ?_) rfl (by kernel_rfl) (by kernel_rfl) (by kernel_rfl) (fun _ _ _ h => h) (Or.inl ⟨by rfl, ?_⟩) (by assumption) ?_
  rotate_left
  · (intro w hSw; (obtain ⟨hS0, hS1⟩ := hSw); go_simp; (try with_reducible rfl))
  try simp only [Act.put, List.getElem_toArray, List.getElem_cons_zero, List.getElem_cons_succ, List.setIfInBounds_toArray, List.set_cons_zero, List.set_cons_succ]
  refine wpAnyH_take (i := 19) (v := ?_) rfl (by kernel_rfl) (by kernel_rfl) (by kernel_rfl) (fun _ _ _ h => h) (Or.inl ⟨by rfl, ?_⟩) (by assumption) ?_
  rotate_left
  · (intro w hSw; (obtain ⟨hS0, hS1⟩ := hSw); go_simp; (try with_reducible rfl))
  try simp only [Act.put, List.getElem_toArray, List.getElem_cons_zero, List.getElem_cons_succ, List.setIfInBounds_toArray, List.set_cons_zero, List.set_cons_succ]
  refine wpAnyH_ready (rs := [20]) (by kernel_rfl) (by simp) ?_
  refine AllReadyH.cons rfl (fun K hK => ?_) AllReadyH.nil
  rw [if_pos (by rfl)]
  go_simp
  refine hK.out _ _ ?_ (fun hHeld => ?_)
  · exact ⟨cell_below HAL.out hd1 hrbw, cell_below HAL.out hd2 hrbw⟩
  clear hK K
  try simp only [Act.put, List.getElem_toArray, List.getElem_cons_zero, List.getElem_cons_succ, List.setIfInBounds_toArray, List.set_cons_zero, List.set_cons_succ]
  refine wpAnyH_ready (rs := [21]) (by kernel_rfl) (by simp) ?_
  refine AllReadyH.cons rfl (fun K hK => ?_) AllReadyH.nil
  rw [if_pos (by rfl)]
  go_simp
  with_reducible refine C1.out.mono ?_
  rintro e w1 ⟨rfl, hw, hb, hk⟩
  have HW1 := Lib.hid hw
  have HB1 := Lib.hid hb
  have HK1 := Lib.hid hk
  have HX1 := Lib.hid (And.intro (cell_below hb hd1 hrb) (cell_below hb hd2 hrb))
  clear hw hb hk
  refine hK.out _ _ ?_ (fun hHeld => ?_)
  · exact HX1.out
  clear hK K
  try simp only [Act.put, List.getElem_toArray, List.getElem_cons_zero, List.getElem_cons_succ, List.setIfInBounds_toArray, List.set_cons_zero, List.set_cons_succ]
  refine wpAnyH_done (by kernel_rfl) (NoPanic.normal ?_) _
  -- END REGION1
  go_wp2_with fail
  go_loopw [7] (fun iv wr => ∃ k : Nat, k ≤ n ∧ iv = .int .i64 ((k : Int) - 1) ∧ ∃ M : List UInt8, WB B b M wr ∧ M.length + 16 * k ≤ 1032 + 16 * n ∧ T = M ++ ackQ (rs.getD k (0, 0)).1 (rs.take k).reverse ∧ Below B w wr ∧ Fw.Kp b w wr) (fun iv _ => (intOf iv + 1).toNat)
  case atStart => exact ⟨n, Nat.le_refl _, rfl, _, HW1.out, by rw [List.length_append]; have := hl4.out; have := HM0.out; omega, by rw [HLO.out]; exact HT0.out, HB1.out, HK1.out⟩
  case round =>
    obtain ⟨k, hk, rfl, M, hw, hM, hT, hb, hkp⟩ := hrel
    have HWr := Lib.hid hw
    have HMr := Lib.hid hM
    have HTr := Lib.hid hT
    have HBr := Lib.hid hb
    have HKr := Lib.hid hkp
    have HTab := Lib.hid (HTT.out.below hb hB)
    have hbs := hb
    clear hw hM hT hb hkp
    match k, hk with
    | 0, _ =>
      have e0 : ((0 : Nat) : Int) - 1 = -1 := rfl
      rw [e0]
      clear hbs
      go_wp2
      go_end0
      refine ⟨rfl, ?_, HBr.out, HKr.out⟩
      have := HTr.out
      rw [List.take_zero, List.reverse_nil, ackQ, List.append_nil] at this
      rw [this]
      exact HWr.out
    | j + 1, hj =>
      have e0 : ((j + 1 : Nat) : Int) - 1 = (j : Int) := by omega
      have HJ := Lib.hid hj
      have hn9 := HN2.out
      have hn8 := HNL.out
      have hq0 := HA.out.num j (by omega)
      have hq1 := HA.out.num (j + 1) (by omega)
      have hq2 := HA.out.nxt j (by omega)
      have hq3 := HA.out.ack j (by omega) (rs.getD (j + 1) (0, 0)).1
      obtain ⟨c1, c2⟩ := HC.out j (by omega)
      have c3 := (HC.out (j + 1) (by omega)).1
      have c1 : wr.drew.cell? ⟨rb, off + j * 2, none⟩ = _ := cell_below hbs c1 hrb
      have c2 : wr.drew.cell? ⟨rb, off + j * 2 + 1, none⟩ = _ := cell_below hbs c2 hrb
      have c3 : wr.drew.cell? ⟨rb, off + (j + 1) * 2, none⟩ = _ := cell_below hbs c3 hrb
      have HT2 := HTr.out
      rw [hq3] at HT2
      have HT3 := Lib.hid HT2
      obtain ⟨a, ha⟩ : ∃ x, (rs.getD j (0, 0)).1 = x := ⟨_, rfl⟩
      obtain ⟨c, hc⟩ : ∃ x, (rs.getD j (0, 0)).2 = x := ⟨_, rfl⟩
      obtain ⟨u, hu⟩ : ∃ x, (rs.getD (j + 1) (0, 0)).1 = x := ⟨_, rfl⟩
      have HAA := Lib.hid ha
      rw [ha, hc] at hq0
      rw [hu] at hq1
      rw [hu, hc] at hq2
      rw [ha] at c1
      rw [hc] at c2
      rw [hu] at c3
      obtain ⟨x, hx⟩ : ∃ x, u - c - 2 = x := ⟨_, rfl⟩
      obtain ⟨y, hy⟩ : ∃ x, c - a = x := ⟨_, rfl⟩
      rw [ha, hc, hu, hx, hy] at HT3
      have HT4 : Hid (T = (M ++ pcat [(x : Int), (y : Int)]) ++ ackQ a (rs.take j).reverse) := Lib.hid (by
        rw [HT3.out, pcat_2]
        simp)
      have hx1 : (u : Int) - (c : Int) = (x : Int) + 2 := by omega
      have hx2 : (x : Int) + 2 - 2 = (x : Int) := by omega
      have hx3 : IntKind.u64.wrap ((x : Int) + 2) = (x : Int) + 2 := wrap_u _ (by omega) (by omega)
      have hx4 : IntKind.u64.wrap (x : Int) = (x : Int) := wrap_u _ (by omega) (by omega)
      have hy1 : (c : Int) - (a : Int) = (y : Int) := by omega
      have hy2 : IntKind.u64.wrap (y : Int) = (y : Int) := wrap_u _ (by omega) (by omega)
      have hl2 := Lib.hid (pcat_len2 x y (by omega) (by omega))
      have C2 := Lib.hid (w_drew B b M [(x : Int), (y : Int)] wr 2 #[.int .u64 (x : Int), .int .u64 (y : Int)] HTab.out HWr.out rfl (by decide) rfl (by
        intro z hz
        simp only [List.mem_cons, List.not_mem_nil, or_false] at hz
        rcases hz with rfl | rfl <;> omega) (by have := hl2.out; have := HMr.out; have := HNL.out; omega))
      have HAL2 := Lib.hid (show Below wr.heap.size wr (wr.alloc (.cells #[.int .u64 (x : Int), .int .u64 (y : Int)] 23)).drew from Below.drew ((Below.refl _ _).alloc (Nat.le_refl _) _))
      have hrbw2 : rb < wr.heap.size := by have := hbs.size; omega
      have j0 : (0 : Int) ≤ (j : Int) := by omega
      have j1 : (j : Int) < (m : Int) := by omega
      have j2 : (j : Int) + 1 < (m : Int) := by omega
      have j3 : (j : Int) ≤ 31 := by omega
      have e1 : ((j : Int) + 1).toNat = j + 1 := by omega
      have j4 : (0 : Int) ≤ (j : Int) + 1 := by omega
      have j5 : IntKind.i64.wrap ((j : Int) + 1) = (j : Int) + 1 := by rw [IntKind.wrap_i64]; omega
      clear hbs hq0 hq1 hq2 hq3 HT2 HT3 ha hc hu hx hy hj hn9 hn8
      rw [e0]
      clear e0
      go_wp2_with fail
      -- BEGIN REGION2
      refine wp_region_noPanic ?_
      refine wp_region_held_drew (S := fun W' : World => W'.cell? ⟨rb, off + j * 2, none⟩ = some (.int .u64 (a : Nat)) ∧ W'.cell? ⟨rb, off + j * 2 + 1, none⟩ = some (.int .u64 (c : Nat)) ∧ W'.cell? ⟨rb, off + (j + 1) * 2, none⟩ = some (.int .u64 (u : Nat))) (by kernel_rfl) ?_ (fun hHeld => ?_)
      · exact ⟨c1, c2, c3⟩
      refine wpAnyH_take (i := 0) (v := ?_) rfl (by kernel_rfl) (by kernel_rfl) (by kernel_rfl) (fun _ _ _ h => h) (Or.inl ⟨by rfl, ?_⟩) (by assumption) ?_
      rotate_left
      · (intro w hSw; (obtain ⟨hS0, hS1, hS2⟩ := hSw); go_simp; (try with_reducible rfl))
      try simp only [Act.put, List.getElem_toArray, List.getElem_cons_zero, List.getElem_cons_succ, List.setIfInBounds_toArray, List.set_cons_zero, List.set_cons_succ]
      refine wpAnyH_take (i := 1) (v := ?_) rfl (by kernel_rfl) (by kernel_rfl) (by kernel_rfl) (fun _ _ _ h => h) (Or.inl ⟨by rfl, ?_⟩) (by assumption) ?_
      rotate_left
      · (intro w hSw; (obtain ⟨hS0, hS1, hS2⟩ := hSw); go_simp; (try with_reducible rfl))
      try simp only [Act.put, List.getElem_toArray, List.getElem_cons_zero, List.getElem_cons_succ, List.setIfInBounds_toArray, List.set_cons_zero, List.set_cons_succ]
      refine wpAnyH_take (i := 2) (v := ?_) rfl (by kernel_rfl) (by kernel_rfl) (by kernel_rfl) (fun _ _ _ h => h) (Or.inl ⟨by rfl, ?_⟩) (by assumption) ?_
      rotate_left
      · (intro w hSw; (obtain ⟨hS0, hS1, hS2⟩ := hSw); go_simp; (try with_reducible rfl))
      try simp only [Act.put, List.getElem_toArray, List.getElem_cons_zero, List.getElem_cons_succ, List.setIfInBounds_toArray, List.set_cons_zero, List.set_cons_succ]
      refine wpAnyH_take (i := 3) (v := ?_) rfl (by kernel_rfl) (by kernel_rfl) (by kernel_rfl) (fun _ _ _ h => h) (Or.inl ⟨by rfl, ?_⟩) (by assumption) ?_
      rotate_left
      · (intro w hSw; (obtain ⟨hS0, hS1, hS2⟩ := hSw); go_simp; (try with_reducible rfl))
      try simp only [Act.put, List.getElem_toArray, List.getElem_cons_zero, List.getElem_cons_succ, List.setIfInBounds_toArray, List.set_cons_zero, List.set_cons_succ]
      refine wpAnyH_take (i := 4) (v := ?_) rfl (by kernel_rfl) (by kernel_rfl) (by kernel_rfl) (fun _ _ _ h => h) (Or.inl ⟨by rfl, ?_⟩) (by assumption) ?_
      rotate_left
      · (intro w hSw; (obtain ⟨hS0, hS1, hS2⟩ := hSw); go_simp; (try with_reducible rfl))
      try simp only [Act.put, List.getElem_toArray, List.getElem_cons_zero, List.getElem_cons_succ, List.setIfInBounds_toArray, List.set_cons_zero, List.set_cons_succ]
      refine wpAnyH_take (i := 5) (v := ?_) rfl (by kernel_rfl) (by kernel_rfl) (by kernel_rfl) (fun _ _ _ h => h) (Or.inl ⟨by rfl, ?_⟩) (by assumption) ?_
      rotate_left
      · (intro w hSw; (obtain ⟨hS0, hS1, hS2⟩ := hSw); go_simp; (try with_reducible rfl))
      try simp only [Act.put, List.getElem_toArray, List.getElem_cons_zero, List.getElem_cons_succ, List.setIfInBounds_toArray, List.set_cons_zero, List.set_cons_succ]
      refine wpAnyH_take (i := 6) (v := ?_) rfl (by kernel_rfl) (by kernel_rfl) (by kernel_rfl) (fun _ _ _ h => h) (Or.inl ⟨by rfl, ?_⟩) (by assumption) ?_
      rotate_left
      · (intro w hSw; (obtain ⟨hS0, hS1, hS2⟩ := hSw); go_simp; (try with_reducible rfl))
      try simp only [Act.put, List.getElem_toArray, List.getElem_cons_zero, List.getElem_cons_succ, List.setIfInBounds_toArray, List.set_cons_zero, List.set_cons_succ]
      refine wpAnyH_take (i := 7) (v := ?_) rfl (by kernel_rfl) (by kernel_rfl) (by kernel_rfl) (fun _ _ _ h => h) (Or.inl ⟨by rfl, ?_⟩) (by assumption) ?_
      rotate_left
      · (intro w hSw; (obtain ⟨hS0, hS1, hS2⟩ := hSw); go_simp; (try with_reducible rfl))
      try simp only [Act.put, List.getElem_toArray, List.getElem_cons_zero, List.getElem_cons_succ, List.setIfInBounds_toArray, List.set_cons_zero, List.set_cons_succ]
      refine wpAnyH_take (i := 8) (v := ?_) rfl (by kernel_rfl) (by kernel_rfl) (by kernel_rfl) (fun _ _ _ h => h) (Or.inl ⟨by rfl, ?_⟩) (by assumption) ?_
      rotate_left
      · (intro w hSw; (obtain ⟨hS0, hS1, hS2⟩ := hSw); go_simp; (try with_reducible rfl))
      try simp only [Act.put, List.getElem_toArray, List.getElem_cons_zero, List.getElem_cons_succ, List.setIfInBounds_toArray, List.set_cons_zero, List.set_cons_succ]
      refine wpAnyH_take (i := 9) (v := ?_) rfl (by kernel_rfl) (by kernel_rfl) (by kernel_rfl) (fun _ _ _ h => h) (Or.inl ⟨by rfl, ?_⟩) (by assumption) ?_
      rotate_left
      · (intro w hSw; (obtain ⟨hS0, hS1, hS2⟩ := hSw); go_simp; (try with_reducible rfl))
      try simp only [Act.put, List.getElem_toArray, List.getElem_cons_zero, List.getElem_cons_succ, List.setIfInBounds_toArray, List.set_cons_zero, List.set_cons_succ]
      refine wpAnyH_take (i := 10) (v := ?_) rfl (by kernel_rfl) (by kernel_rfl) (by kernel_rfl) (fun _ _ _ h => h) (Or.inl ⟨by rfl, ?_⟩) (by assumption) ?_
      rotate_left
      · (intro w hSw; (obtain ⟨hS0, hS1, hS2⟩ := hSw); go_simp; (try with_reducible rfl))
      try simp only [Act.put, List.getElem_toArray, List.getElem_cons_zero, List.getElem_cons_succ, List.setIfInBounds_toArray, List.set_cons_zero, List.set_cons_succ]
      refine wpAnyH_take (i := 11) (v := ?_) rfl (by kernel_rfl) (by kernel_rfl) (by kernel_rfl) (fun _ _ _ h => h) (Or.inl ⟨by rfl, ?_⟩) (by assumption) ?_
      rotate_left
      · (intro w hSw; (obtain ⟨hS0, hS1, hS2⟩ := hSw); go_simp; (try with_reducible rfl))
      try simp only [Act.put, List.getElem_toArray, List.getElem_cons_zero, List.getElem_cons_succ, List.setIfInBounds_toArray, List.set_cons_zero, List.set_cons_succ]
      refine wpAnyH_take (i := 12) (v := ?_) rfl (by kernel_rfl) (by kernel_rfl) (by kernel_rfl) (fun _ _ _ h => h) (Or.inl ⟨by rfl, ?_⟩) (by assumption) ?_
      rotate_left
      · (intro w hSw; (obtain ⟨hS0, hS1, hS2⟩ := hSw); go_simp; (try with_reducible rfl))
      try simp only [Act.put, List.getElem_toArray, List.getElem_cons_zero, List.getElem_cons_succ, List.setIfInBounds_toArray, List.set_cons_zero, List.set_cons_succ]
      refine wpAnyH_take (i := 13) (v := ?_) rfl (by kernel_rfl) (by kernel_rfl) (by kernel_rfl) (fun _ _ _ h => h) (Or.inl ⟨by rfl, ?_⟩) (by assumption) ?_
      rotate_left
      · (intro w hSw; (obtain ⟨hS0, hS1, hS2⟩ := hSw); go_simp; (try with_reducible rfl))
      try simp only [Act.put, List.getElem_toArray, List.getElem_cons_zero, List.getElem_cons_succ, List.setIfInBounds_toArray, List.set_cons_zero, List.set_cons_succ]
      refine wpAnyH_take (i := 14) (v := ?_) rfl (by kernel_rfl) (by kernel_rfl) (by kernel_rfl) (fun _ _ _ h => h) (Or.inl ⟨by rfl, ?_⟩) (by assumption) ?_
      rotate_left
      · (intro w hSw; (obtain ⟨hS0, hS1, hS2⟩ := hSw); go_simp; (try with_reducible rfl))
      try simp only [Act.put, List.getElem_toArray, List.getElem_cons_zero, List.getElem_cons_succ, List.setIfInBounds_toArray, List.set_cons_zero, List.set_cons_succ]
      refine wpAnyH_take (i := 15) (v := ?_) rfl (by kernel_rfl) (by kernel_rfl) (by kernel_rfl) (fun _ _ _ h => h) (Or.inl ⟨by rfl, ?_⟩) (by assumption) ?_
      rotate_left
      · (intro w hSw; (obtain ⟨hS0, hS1, hS2⟩ := hSw); go_simp; (try with_reducible rfl))
      try simp only [Act.put, List.getElem_toArray, List.getElem_cons_zero, List.getElem_cons_succ, List.setIfInBounds_toArray, List.set_cons_zero, List.set_cons_succ]
      refine wpAnyH_take (i := 16) (v := ?_) rfl (by kernel_rfl) (by kernel_rfl) (by kernel_rfl) (fun _ _ _ h => h) (Or.inl ⟨by rfl, ?_⟩) (by assumption) ?_
      rotate_left
      · (intro w hSw; (obtain ⟨hS0, hS1, hS2⟩ := hSw); go_simp; (try with_reducible rfl))
      try simp only [Act.put, List.getElem_toArray, List.getElem_cons_zero, List.getElem_cons_succ, List.setIfInBounds_toArray, List.set_cons_zero, List.set_cons_succ]
      refine wpAnyH_take (i := 17) (v := ?_) rfl (by kernel_rfl) (by kernel_rfl) (by kernel_rfl) (fun _ _ _ h => h) (Or.inl ⟨by rfl, ?_⟩) (by assumption) ?_
      rotate_left
      · (intro w hSw; (obtain ⟨hS0, hS1, hS2⟩ := hSw); go_simp; (try with_reducible rfl))
      try simp only [Act.put, List.getElem_toArray, List.getElem_cons_zero, List.getElem_cons_succ, List.setIfInBounds_toArray, List.set_cons_zero, List.set_cons_succ]
      refine wpAnyH_take (i := 18) (v := ?_) rfl (by kernel_rfl) (by kernel_rfl) (by kernel_rfl) (fun _ _ _ h => h) (Or.inl ⟨by rfl, ?_⟩) (by assumption) ?_
      rotate_left
      · (intro w hSw; (obtain ⟨hS0, hS1, hS2⟩ := hSw); go_simp; (try with_reducible rfl))
      try simp only [Act.put, List.getElem_toArray, List.getElem_cons_zero, List.getElem_cons_succ, List.setIfInBounds_toArray, List.set_cons_zero, List.set_cons_succ]
      refine wpAnyH_take (i := 19) (v := ?_) rfl (by kernel_rfl) (by kernel_rfl) (by kernel_rfl) (fun _ _ _ h => h) (Or.inl ⟨by rfl, ?_⟩) (by assumption) ?_
      rotate_left
      · (intro w hSw; (obtain ⟨hS0, hS1, hS2⟩ := hSw); go_simp; (try with_reducible rfl))
      try simp only [Act.put, List.getElem_toArray, List.getElem_cons_zero, List.getElem_cons_succ, List.setIfInBounds_toArray, List.set_cons_zero, List.set_cons_succ]
      refine wpAnyH_take (i := 20) (v := ?_) rfl (by kernel_rfl) (by kernel_rfl) (by kernel_rfl) (fun _ _ _ h => h) (Or.inl ⟨by rfl, ?_⟩) (by assumption) ?_
      rotate_left
      · (intro w hSw; (obtain ⟨hS0, hS1, hS2⟩ := hSw); go_simp; (try with_reducible rfl))
      try simp only [Act.put, List.getElem_toArray, List.getElem_cons_zero, List.getElem_cons_succ, List.setIfInBounds_toArray, List.set_cons_zero, List.set_cons_succ]
      refine wpAnyH_take (i := 21) (v := ?_) rfl (by kernel_rfl) (by kernel_rfl) (by kernel_rfl) (fun _ _ _ h => h) (Or.inl ⟨by rfl, ?_⟩) (by assumption) ?_
      rotate_left
      · (intro w hSw; (obtain ⟨hS0, hS1, hS2⟩ := hSw); go_simp; (try with_reducible rfl))
      try simp only [Act.put, List.getElem_toArray, List.getElem_cons_zero, List.getElem_cons_succ, List.setIfInBounds_toArray, List.set_cons_zero, List.set_cons_succ]
      refine wpAnyH_take (i := 22) (v := ?_) rfl (by kernel_rfl) (by kernel_rfl) (by kernel_rfl) (fun _ _ _ h => h) (Or.inl ⟨by rfl, ?_⟩) (by assumption) ?_
      rotate_left
      · (intro w hSw; (obtain ⟨hS0, hS1, hS2⟩ := hSw); go_simp; (try with_reducible rfl))
      try simp only [Act.put, List.getElem_toArray, List.getElem_cons_zero, List.getElem_cons_succ, List.setIfInBounds_toArray, List.set_cons_zero, List.set_cons_succ]
      refine wpAnyH_take (i := 23) (v := ?_) rfl (by kernel_rfl) (by kernel_rfl) (by kernel_rfl) (fun _ _ _ h => h) (Or.inl ⟨by rfl, ?_⟩) (by assumption) ?_
      rotate_left
      · (intro w hSw; (obtain ⟨hS0, hS1, hS2⟩ := hSw); go_simp; (try with_reducible rfl))
      try simp only [Act.put, List.getElem_toArray, List.getElem_cons_zero, List.getElem_cons_succ, List.setIfInBounds_toArray, List.set_cons_zero, List.set_cons_succ]
      refine wpAnyH_take (i := 24) (v := ?_) rfl (by kernel_rfl) (by kernel_rfl) (by kernel_rfl) (fun _ _ _ h => h) (Or.inl ⟨by rfl, ?_⟩) (by assumption) ?_
      rotate_left
      · (intro w hSw; (obtain ⟨hS0, hS1, hS2⟩ := hSw); go_simp; (try with_reducible rfl))
      try simp only [Act.put, List.getElem_toArray, List.getElem_cons_zero, List.getElem_cons_succ, List.setIfInBounds_toArray, List.set_cons_zero, List.set_cons_succ]
      refine wpAnyH_ready (rs := [25]) (by kernel_rfl) (by simp) ?_
      refine AllReadyH.cons rfl (fun K hK => ?_) AllReadyH.nil
      rw [if_pos (by rfl)]
      go_simp
      refine hK.out _ _ ?_ (fun hHeld => ?_)
      · exact ⟨cell_below HAL2.out c1 hrbw2, cell_below HAL2.out c2 hrbw2, cell_below HAL2.out c3 hrbw2⟩
      clear hK K
      try simp only [Act.put, List.getElem_toArray, List.getElem_cons_zero, List.getElem_cons_succ, List.setIfInBounds_toArray, List.set_cons_zero, List.set_cons_succ]
      refine wpAnyH_ready (rs := [26]) (by kernel_rfl) (by simp) ?_
      refine AllReadyH.cons rfl (fun K hK => ?_) AllReadyH.nil
      rw [if_pos (by rfl)]
      go_simp
      with_reducible refine C2.out.mono ?_
      rintro e w2 ⟨rfl, hw, hb, hk⟩
      have HW2 := Lib.hid hw
      have HB2 := Lib.hid hb
      have HK2 := Lib.hid hk
      have HX2 := Lib.hid (And.intro (cell_below hb c1 hrb) (And.intro (cell_below hb c2 hrb) (cell_below hb c3 hrb)))
      clear hw hb hk
      refine hK.out _ _ ?_ (fun hHeld => ?_)
      · exact HX2.out
      clear hK K
      try simp only [Act.put, List.getElem_toArray, List.getElem_cons_zero, List.getElem_cons_succ, List.setIfInBounds_toArray, List.set_cons_zero, List.set_cons_succ]
      refine wpAnyH_done (by kernel_rfl) (NoPanic.normal ?_) _
      -- END REGION2
      go_wp2
      go_roundw
      case rel => exact ⟨j, by have := HJ.out; omega, rfl, _, HW2.out, by rw [List.length_append]; have := hl2.out; have := HMr.out; omega, by rw [HAA.out]; exact HT4.out, HBr.out.trans HB2.out, HKr.out.trans HK2.out⟩
      case measure => simp [intOf]

theorem pcat_1 (a : Int) : pcat [a] = pt a.toNat := by rw [pcat_cons, pcat_nil, List.append_nil]
theorem WB.size {B b : Nat} {l : List UInt8} {w : World} (h : WB B b l w) : B ≤ w.heap.size := by have := h.le; omega
theorem chN_mem (p : Nat) (f : Frm) (h : ∀ j, j < 7 → 0 ≤ nm f j ∧ nm f j ≤ 4611686018427387903) : ∀ i, i ≤ 7 → ∀ z ∈ chN p f i, 0 ≤ z ∧ z ≤ 4611686018427387903
  | 0, _, z, hz => by cases hz
  | i + 1, hi, z, hz => by
    rw [chN] at hz
    split at hz
    · rcases List.mem_append.1 hz with h1 | h1
      · exact chN_mem p f h i (by omega) z h1
      · rw [List.mem_singleton.1 h1]; exact h i (by omega)
    · exact chN_mem p f h i (by omega) z hz
theorem x_text (B b : Nat) (l m : List UInt8) (w : World) (h : WB B b l w) (hl : l.length + m.length ≤ 140737488355328) :
    Calls Tryz.prog 132 #[.pointer (some ⟨b, 0, none⟩), .string ⟨m.toArray⟩] w.drew fun e w' => e = .returned (.tuple #[.int .i64 m.length, .nilIface]) ∧ WB B b (l ++ m) w' ∧ Below B w w' ∧ Fw.Kp b w w' := by
  have hd : Below w.heap.size w w.drew := Below.drew (Below.refl _ _)
  refine (w_text B b l m w.drew (h.below hd) hl).mono ?_
  rintro e w' ⟨h1, h2, h3, h4⟩
  exact ⟨h1, h2, (hd.mono h.size).trans h3, (Fw.Kp.below hd).trans h4⟩
theorem x_byte (B b : Nat) (l : List UInt8) (c : Nat) (w : World) (h : WB B b l w) (hl : l.length ≤ 100000) (hc : c < 256) :
    Calls Tryz.prog 131 #[.pointer (some ⟨b, 0, none⟩), .int .u8 (c : Nat)] w.drew fun e w' => e = .returned .nilIface ∧ WB B b (l ++ [UInt8.ofNat c]) w' ∧ Below B w w' ∧ Fw.Kp b w w' := by
  have hd : Below w.heap.size w w.drew := Below.drew (Below.refl _ _)
  refine (w_byte B b l c w.drew (h.below hd) hl hc).mono ?_
  rintro e w' ⟨h1, h2, h3, h4⟩
  exact ⟨h1, h2, (hd.mono h.size).trans h3, (Fw.Kp.below hd).trans h4⟩
theorem pcat_bound (l : List Int) : (pcat l).length ≤ 16 * l.length := pcat_len l
theorem cat3 (a b c : List UInt8) : (⟨a.toArray⟩ : ByteArray) ++ ⟨b.toArray⟩ ++ ⟨c.toArray⟩ = ⟨(a ++ b ++ c).toArray⟩ := by
  apply ByteArray.ext
  simp
/-- What the set of a frame that has one is like. -/
def SetIn (B : Nat) (f : Frm) (rs : List (Nat × Nat)) (w : World) : Prop := ∃ rb off, f.set.a = some ⟨rb, off, none⟩ ∧ rb < B ∧ f.set.n = rs.length ∧ MayP (ints rs) ∧ (rs.getD (rs.length - 1) (0, 0)).2 < 4611686018427387904 ∧
    ∀ i, i < rs.length → w.cell? ⟨rb, off + i * 2, none⟩ = some (.int .u64 ((rs.getD i (0, 0)).1 : Nat)) ∧ w.cell? ⟨rb, off + i * 2 + 1, none⟩ = some (.int .u64 ((rs.getD i (0, 0)).2 : Nat))
set_option maxRecDepth 100000 in
set_option maxHeartbeats 16000000 in
theorem w_frame (B b : Nat) (f : Frm) (rs : List (Nat × Nat)) (q p : Nat) (w : World) (ht : Tab w) (hB : 0 < B) (hW : WB B b [] w) (hq : fstN f = (q : Int)) (hq2 : q < 64) (hp : toldP q = p) (hz : ∀ j, j < 7 → 0 ≤ nm f j ∧ nm f j ≤ 4611686018427387903) (hd : f.data.length ≤ 4000) (hc : f.cid.length ≤ 255) (htk : f.token.length ≤ 255)
    (hs : p.testBit 11 = true → SetIn B f rs w ∧ 1 ≤ rs.length ∧ rs.length ≤ 32) :
    Calls Tryz.prog 85 #[.pointer (some ⟨b, 0, none⟩), .agg #[.int .u64 f.kind, .int .u64 f.id, .int .u64 f.off, .int .u64 f.max, .int .u64 f.code, .int .u64 f.seq, .int .u64 f.prior, .int .u64 f.delay, .bool f.fin, .string ⟨f.data.toArray⟩, .string ⟨f.cid.toArray⟩, .string ⟨f.token.toArray⟩, .slice f.set.a f.set.n f.set.c]] w fun e w' => e = .returned (.tuple #[]) ∧ WB B b (putL f rs) w' ∧ Below B w w' ∧ Fw.Kp b w w' := by
  have hp2 : p < 8192 := by rw [← hp]; exact toldP_lt _
  have CF := Lib.hid (fun w => first_any f w)
  rw [hq] at CF
  have CT := Lib.hid (fun w => told_any q (by omega) w)
  rw [hp] at CT
  have CN := Lib.hid (fun l W ns cs ht h hn hc h0 hl => w_new B b l ns W 1 cs ht h hn (by decide) hc h0 hl)
  have CA := Lib.hid (fun m0 dl rb off cap w ht hW hm0 hdl hrb hm hh hc hl1 hl2 => w_ack B b m0 rs dl rb off cap w ht hB hW hm0 hdl hl1 hl2 hrb hm hh hc)
  have CC := Lib.hid (fun w => chosen_any p hp2 f w)
  have hcl := chN_len p f 7
  have hcb := pcat_bound (chN p f 7)
  have hq8 : (pcat [(q : Int)]).length ≤ 8 := by rw [pcat_1]; exact pt_8 _ (by omega)
  have hd8 : (pcat [(f.data.length : Int)]).length ≤ 8 := by rw [pcat_1]; exact pt_8 _ (by omega)
  have HL1 := Lib.hid (show ([] : List UInt8).length + (pcat [(q : Int)]).length ≤ 140737488355328 by rw [List.length_nil]; omega)
  have HL3 := Lib.hid (show ([] ++ pcat [(q : Int)]).length ≤ 1000 by rw [List.nil_append]; omega)
  have HL5 := Lib.hid (show (([] ++ pcat [(q : Int)]) ++ pcat (chN p f 7)).length ≤ 100000 by rw [List.nil_append, List.length_append]; omega)
  have HL2 := Lib.hid (show (([] ++ pcat [(q : Int)]) ++ pcat (chN p f 7)).length + (pcat [(f.data.length : Int)]).length ≤ 140737488355328 by have := HL5.out; omega)
  have HLD := Lib.hid (show ((([] ++ pcat [(q : Int)]) ++ pcat (chN p f 7)) ++ pcat [(f.data.length : Int)]).length + (f.data ++ (f.cid ++ f.token)).length ≤ 140737488355328 by have := HL5.out; simp only [List.length_append] at this ⊢; omega)
  have HLC := Lib.hid (show ((([] ++ pcat [(q : Int)]) ++ pcat (chN p f 7)) ++ [UInt8.ofNat f.cid.length]).length + (f.data ++ (f.cid ++ f.token)).length ≤ 140737488355328 by have := HL5.out; simp only [List.length_append, List.length_singleton] at this ⊢; omega)
  have HLE := Lib.hid (show (([] ++ pcat [(q : Int)]) ++ pcat (chN p f 7)).length + (f.data ++ (f.cid ++ f.token)).length ≤ 140737488355328 by have := HL5.out; simp only [List.length_append] at this ⊢; omega)
  have CM := Lib.hid (fun B' v w ht h ho => w_nums B b B' ([] ++ pcat [(q : Int)]) v (chN p f 7) w ht h ho (chN_mem p f hz 7 (by decide)) (by omega) (by rw [List.nil_append]; omega))
  have CY := Lib.hid (fun l w h hl => x_byte B b l f.cid.length w h hl (by omega))
  have CX := Lib.hid (fun l w h hl => x_text B b l (f.data ++ (f.cid ++ f.token)) w h hl)
  have HQ0 : Hid (∀ z ∈ [(q : Int)], 0 ≤ z ∧ z ≤ 4611686018427387903) := Lib.hid (by intro z hz; rw [List.mem_singleton.1 hz]; omega)
  have HQ1 : Hid (∀ z ∈ [(f.data.length : Int)], 0 ≤ z ∧ z ≤ 4611686018427387903) := Lib.hid (by intro z hz; rw [List.mem_singleton.1 hz]; omega)
  have HD0 := Lib.hid (nm_all hz).2.2.2.2.2.2
  have HO7 : Hid (p.testBit 7 = true → p.testBit 8 = false) := Lib.hid (by
    intro h7
    have ho : okP p = true := by rw [← hp]; exact toldP_ok q
    unfold okP at ho
    simp only [h7, if_true, Bool.and_eq_true, Bool.not_eq_true'] at ho
    exact ho.1.2)
  have HP : Hid (putL f rs = pt q ++ (if p.testBit 11 = true then ackP f.delay.toNat rs.reverse else pcat (chN p f 7) ++ txtL p f)) := Lib.hid (by
    unfold putL
    rw [hq, Int.toNat_natCast, hp])
  have e11 : (bits .and .u64 ((p : Nat) : Int) 2048 != 0) = p.testBit 11 := bitF p 11 hp2 (by decide) _ rfl
  have e7 : (bits .and .u64 ((p : Nat) : Int) 128 != 0) = p.testBit 7 := bitF p 7 hp2 (by decide) _ rfl
  have e8 : (bits .and .u64 ((p : Nat) : Int) 256 != 0) = p.testBit 8 := bitF p 8 hp2 (by decide) _ rfl
  have HS := Lib.hid hs
  have HT := Lib.hid ht
  have HW := Lib.hid hW
  have HBw := Lib.hid hW.size
  have HNE := Lib.hid (show w.heap.size ≠ b by have := hW.le; omega)
  have HB0 : Hid (Below w.heap.size w (w.alloc (.cells #[.int .u64 f.kind, .int .u64 f.id, .int .u64 f.off, .int .u64 f.max, .int .u64 f.code, .int .u64 f.seq, .int .u64 f.prior, .int .u64 f.delay, .bool f.fin, .string ⟨f.data.toArray⟩, .string ⟨f.cid.toArray⟩, .string ⟨f.token.toArray⟩, .slice f.set.a f.set.n f.set.c] 48 (0, 0)))) := Lib.hid ((Below.refl w.heap.size w).alloc (Nat.le_refl _) _)
  have hdi : (f.data.length : Int) ≤ 4000 := by omega
  have hci : (f.cid.length : Int) ≤ 255 := by omega
  have hti : (f.token.length : Int) ≤ 255 := by omega
  have hwd : IntKind.u64.wrap (f.data.length : Int) = (f.data.length : Int) := wrap_u _ (by omega) (by omega)
  have hwc : IntKind.u8.wrap (f.cid.length : Int) = (f.cid.length : Int) := by rw [IntKind.wrap_u8]; omega
  have hcat := cat3 f.data f.cid f.token
  have hov1 : ¬ 9223372036854775807 < f.data.length + f.cid.length := by omega
  have hov2 : ¬ 9223372036854775807 < f.data.length + f.cid.length + f.token.length := by omega
  clear hs ht hW hq hq2 hp hz hcl hcb hq8 hd8 hd hc htk
  go_enter Tryz.func85, Tryz.ntmps85
  go_wp2_with fail
  refine (CF.out _).mono ?_
  rintro e w1 ⟨rfl, hb⟩
  have HF1 : Hid (w1.heap[w.heap.size]? = some (.cells #[.int .u64 f.kind, .int .u64 f.id, .int .u64 f.off, .int .u64 f.max, .int .u64 f.code, .int .u64 f.seq, .int .u64 f.prior, .int .u64 f.delay, .bool f.fin, .string ⟨f.data.toArray⟩, .string ⟨f.cid.toArray⟩, .string ⟨f.token.toArray⟩, .slice f.set.a f.set.n f.set.c] 48 (0, 0))) := Lib.hid ((hb.block _ (by simp)).trans (World.alloc_heap_new w _))
  have HB1 := Lib.hid (HB0.out.trans (hb.mono (by simp)))
  clear hb
  go_wp2_with fail
  refine (CT.out _).mono ?_
  rintro e w1' ⟨rfl, rfl⟩
  go_wp2_with fail
  have HT1 := Lib.hid (HT.out.below HB1.out HT.out.lt)
  have HW1 := Lib.hid (HW.out.below HB1.out)
  with_reducible refine (CN.out [] w1' [(q : Int)] #[.int .u64 (q : Int)] HT1.out HW1.out rfl rfl HQ0.out HL1.out).mono ?_
  rintro e w2 ⟨rfl, hw, hb, hk⟩
  have hF2 : w2.heap[w.heap.size]? = some (.cells #[.int .u64 f.kind, .int .u64 f.id, .int .u64 f.off, .int .u64 f.max, .int .u64 f.code, .int .u64 f.seq, .int .u64 f.prior, .int .u64 f.delay, .bool f.fin, .string ⟨f.data.toArray⟩, .string ⟨f.cid.toArray⟩, .string ⟨f.token.toArray⟩, .slice f.set.a f.set.n f.set.c] 48 (0, 0)) := hk _ _ _ _ HNE.out (by decide) HF1.out
  have c0 : w2.cell? ⟨w.heap.size, 0, none⟩ = some (.int .u64 f.kind) := Lib.cell_of_heap hF2 0
  have c1 : w2.cell? ⟨w.heap.size, 1, none⟩ = some (.int .u64 f.id) := Lib.cell_of_heap hF2 1
  have c2 : w2.cell? ⟨w.heap.size, 2, none⟩ = some (.int .u64 f.off) := Lib.cell_of_heap hF2 2
  have c3 : w2.cell? ⟨w.heap.size, 3, none⟩ = some (.int .u64 f.max) := Lib.cell_of_heap hF2 3
  have c4 : w2.cell? ⟨w.heap.size, 4, none⟩ = some (.int .u64 f.code) := Lib.cell_of_heap hF2 4
  have c5 : w2.cell? ⟨w.heap.size, 5, none⟩ = some (.int .u64 f.seq) := Lib.cell_of_heap hF2 5
  have c6 : w2.cell? ⟨w.heap.size, 6, none⟩ = some (.int .u64 f.prior) := Lib.cell_of_heap hF2 6
  have c7 : w2.cell? ⟨w.heap.size, 7, none⟩ = some (.int .u64 f.delay) := Lib.cell_of_heap hF2 7
  have c8 : w2.cell? ⟨w.heap.size, 8, none⟩ = some (.bool f.fin) := Lib.cell_of_heap hF2 8
  have c9 : w2.cell? ⟨w.heap.size, 9, none⟩ = some (.string ⟨f.data.toArray⟩) := Lib.cell_of_heap hF2 9
  have c10 : w2.cell? ⟨w.heap.size, 10, none⟩ = some (.string ⟨f.cid.toArray⟩) := Lib.cell_of_heap hF2 10
  have c11 : w2.cell? ⟨w.heap.size, 11, none⟩ = some (.string ⟨f.token.toArray⟩) := Lib.cell_of_heap hF2 11
  have c12 : w2.cell? ⟨w.heap.size, 12, none⟩ = some (.slice f.set.a f.set.n f.set.c) := Lib.cell_of_heap hF2 12
  have HF2 := Lib.hid hF2
  have HW2 := Lib.hid hw
  have HB2 := Lib.hid ((HB1.out.mono HBw.out).trans hb)
  have HK2 := Lib.hid ((Fw.Kp.below HB1.out).trans hk)
  have HT2 := Lib.hid (HT.out.below HB2.out hB)
  clear hw hb hk hF2
  cases h11 : p.testBit 11 with
  | true =>
    rw [h11] at e11 HP
    obtain ⟨⟨rb, off, hrb, hrs, hn, hm, hh, hc⟩, hrl1, hrl2⟩ := HS.out h11
    obtain ⟨dl, hdl⟩ : ∃ dl : Nat, f.delay = (dl : Int) := ⟨f.delay.toNat, by have := HD0.out; omega⟩
    have HC := Lib.hid hc
    have HM := Lib.hid hm
    have HH := Lib.hid hh
    have HRS := Lib.hid hn
    have HDL := Lib.hid (show dl < 4611686018427387904 by have := HD0.out; omega)
    clear hc hm hh HS
    rw [hdl] at c7
    rw [hrb, hn] at c12
    have HPT : Hid (putL f rs = ([] ++ pcat [(q : Int)]) ++ ackP dl rs.reverse) := Lib.hid (by rw [HP.out, if_pos rfl, pcat_1, hdl]; rfl)
    clear hdl hrb hn
    go_wp2_with fail
    with_reducible refine (CA.out _ dl rb off _ w2 HT2.out HW2.out HL3.out HDL.out hrs HM.out HH.out (fun i hi => ⟨cell_below HB2.out (HC.out i hi).1 hrs, cell_below HB2.out (HC.out i hi).2 hrs⟩) hrl1 hrl2).mono ?_
    rintro e w3 ⟨rfl, hw, hb, hk⟩
    have HW3 := Lib.hid hw
    have HB3 := Lib.hid (HB2.out.trans hb)
    have HK3 := Lib.hid (HK2.out.trans hk)
    clear hw hb hk
    go_wp2
    refine bodyPost_ret (results_none rfl _ _ _) rfl ?_
    refine ⟨rfl, ?_, HB3.out, HK3.out⟩
    rw [HPT.out]
    exact HW3.out
  | false =>
    rw [h11] at e11 HP
    clear HS
    go_wp2_with fail
    refine (CC.out _).mono ?_
    rintro e w3 ⟨v, rfl, ho, hb⟩
    have HO3 := Lib.hid ho
    have HW3 := Lib.hid (HW2.out.below hb)
    have HT3 := Lib.hid (HT2.out.below hb HT2.out.lt)
    have HF3 : Hid (w3.heap[w.heap.size]? = some (.cells #[.int .u64 f.kind, .int .u64 f.id, .int .u64 f.off, .int .u64 f.max, .int .u64 f.code, .int .u64 f.seq, .int .u64 f.prior, .int .u64 f.delay, .bool f.fin, .string ⟨f.data.toArray⟩, .string ⟨f.cid.toArray⟩, .string ⟨f.token.toArray⟩, .slice f.set.a f.set.n f.set.c] 48 (0, 0))) := Lib.hid ((hb.block _ (Array.getElem?_eq_some_iff.1 HF2.out).1).trans HF2.out)
    have HB3 := Lib.hid (HB2.out.trans (hb.mono HW2.out.size))
    have HK3 := Lib.hid (HK2.out.trans (Fw.Kp.below (b := b) hb))
    clear ho hb
    go_wp2_with fail
    with_reducible refine (CM.out _ _ w3 HT3.out HW3.out HO3.out).mono ?_
    rintro e w4 ⟨rfl, hw, hb, hk⟩
    have hF4 : w4.heap[w.heap.size]? = some (.cells #[.int .u64 f.kind, .int .u64 f.id, .int .u64 f.off, .int .u64 f.max, .int .u64 f.code, .int .u64 f.seq, .int .u64 f.prior, .int .u64 f.delay, .bool f.fin, .string ⟨f.data.toArray⟩, .string ⟨f.cid.toArray⟩, .string ⟨f.token.toArray⟩, .slice f.set.a f.set.n f.set.c] 48 (0, 0)) := hk _ _ _ _ HNE.out (by decide) HF3.out
    clear c0 c1 c2 c3 c4 c5 c6 c7 c8 c9 c10 c11 c12
    have c9 : w4.cell? ⟨w.heap.size, 9, none⟩ = some (.string ⟨f.data.toArray⟩) := Lib.cell_of_heap hF4 9
    have c10 : w4.cell? ⟨w.heap.size, 10, none⟩ = some (.string ⟨f.cid.toArray⟩) := Lib.cell_of_heap hF4 10
    have c11 : w4.cell? ⟨w.heap.size, 11, none⟩ = some (.string ⟨f.token.toArray⟩) := Lib.cell_of_heap hF4 11
    have HF4 := Lib.hid hF4
    have HW4 := Lib.hid hw
    have HB4 := Lib.hid (HB3.out.trans hb)
    have HK4 := Lib.hid (HK3.out.trans hk)
    have HT4 := Lib.hid (HT.out.below HB4.out hB)
    clear hw hb hk hF4
    cases h7 : p.testBit 7 with
    | true =>
      have h8 : p.testBit 8 = false := HO7.out h7
      rw [h7] at e7
      rw [h8] at e8
      have HPT : Hid (putL f rs = (([] ++ pcat [(q : Int)]) ++ pcat (chN p f 7)) ++ pcat [(f.data.length : Int)] ++ (f.data ++ (f.cid ++ f.token))) := Lib.hid (by rw [HP.out, if_neg (by decide), pcat_1, pcat_1]; unfold txtL; rw [h7, h8]; simp)
      go_wp2_with fail
      with_reducible refine (CN.out _ w4 [(f.data.length : Int)] #[.int .u64 (f.data.length : Int)] HT4.out HW4.out rfl rfl HQ1.out HL2.out).mono ?_
      rintro e w5 ⟨rfl, hw, hb, hk⟩
      have hF5 : w5.heap[w.heap.size]? = some (.cells #[.int .u64 f.kind, .int .u64 f.id, .int .u64 f.off, .int .u64 f.max, .int .u64 f.code, .int .u64 f.seq, .int .u64 f.prior, .int .u64 f.delay, .bool f.fin, .string ⟨f.data.toArray⟩, .string ⟨f.cid.toArray⟩, .string ⟨f.token.toArray⟩, .slice f.set.a f.set.n f.set.c] 48 (0, 0)) := hk _ _ _ _ HNE.out (by decide) HF4.out
      clear c9 c10 c11
      have c9 : w5.cell? ⟨w.heap.size, 9, none⟩ = some (.string ⟨f.data.toArray⟩) := Lib.cell_of_heap hF5 9
      have c10 : w5.cell? ⟨w.heap.size, 10, none⟩ = some (.string ⟨f.cid.toArray⟩) := Lib.cell_of_heap hF5 10
      have c11 : w5.cell? ⟨w.heap.size, 11, none⟩ = some (.string ⟨f.token.toArray⟩) := Lib.cell_of_heap hF5 11
      have HF5 := Lib.hid hF5
      have HW5 := Lib.hid hw
      have HB5 := Lib.hid (HB4.out.trans hb)
      have HK5 := Lib.hid (HK4.out.trans hk)
      have HT5 := HT4
      clear hw hb hk hF5
      go_wp2_with fail
      refine wp_region_noPanic ?_
      refine wp_region_held_drew (S := fun W' : World => W'.cell? ⟨w.heap.size, 9, none⟩ = some (.string ⟨f.data.toArray⟩) ∧ W'.cell? ⟨w.heap.size, 10, none⟩ = some (.string ⟨f.cid.toArray⟩) ∧ W'.cell? ⟨w.heap.size, 11, none⟩ = some (.string ⟨f.token.toArray⟩)) (by kernel_rfl) ?_ (fun hHeld => ?_)
      · exact ⟨c9, c10, c11⟩
      refine wpAnyH_take (i := 0) (v := ?_) rfl (by kernel_rfl) (by kernel_rfl) (by kernel_rfl) (fun _ _ _ h => h) (Or.inl ⟨by rfl, ?_⟩) (by assumption) ?_
      rotate_left
      · (intro w hSw; (obtain ⟨hS0, hS1, hS2⟩ := hSw); go_simp; (try with_reducible rfl))
      try simp only [Act.put, List.getElem_toArray, List.getElem_cons_zero, List.getElem_cons_succ, List.setIfInBounds_toArray, List.set_cons_zero, List.set_cons_succ]
      refine wpAnyH_take (i := 1) (v := ?_) rfl (by kernel_rfl) (by kernel_rfl) (by kernel_rfl) (fun _ _ _ h => h) (Or.inl ⟨by rfl, ?_⟩) (by assumption) ?_
      rotate_left
      · (intro w hSw; (obtain ⟨hS0, hS1, hS2⟩ := hSw); go_simp; (try with_reducible rfl))
      try simp only [Act.put, List.getElem_toArray, List.getElem_cons_zero, List.getElem_cons_succ, List.setIfInBounds_toArray, List.set_cons_zero, List.set_cons_succ]
      refine wpAnyH_take (i := 2) (v := ?_) rfl (by kernel_rfl) (by kernel_rfl) (by kernel_rfl) (fun _ _ _ h => h) (Or.inl ⟨by rfl, ?_⟩) (by assumption) ?_
      rotate_left
      · (intro w hSw; (obtain ⟨hS0, hS1, hS2⟩ := hSw); go_simp; (try with_reducible rfl))
      try simp only [Act.put, List.getElem_toArray, List.getElem_cons_zero, List.getElem_cons_succ, List.setIfInBounds_toArray, List.set_cons_zero, List.set_cons_succ]
      refine wpAnyH_take (i := 3) (v := ?_) rfl (by kernel_rfl) (by kernel_rfl) (by kernel_rfl) (fun _ _ _ h => h) (Or.inl ⟨by rfl, ?_⟩) (by assumption) ?_
      rotate_left
      · (intro w hSw; (obtain ⟨hS0, hS1, hS2⟩ := hSw); go_simp; (try with_reducible rfl))
      try simp only [Act.put, List.getElem_toArray, List.getElem_cons_zero, List.getElem_cons_succ, List.setIfInBounds_toArray, List.set_cons_zero, List.set_cons_succ]
      refine wpAnyH_take (i := 4) (v := ?_) rfl (by kernel_rfl) (by kernel_rfl) (by kernel_rfl) (fun _ _ _ h => h) (Or.inl ⟨by rfl, ?_⟩) (by assumption) ?_
      rotate_left
      · (intro w hSw; (obtain ⟨hS0, hS1, hS2⟩ := hSw); go_simp; (try with_reducible rfl))
      try simp only [Act.put, List.getElem_toArray, List.getElem_cons_zero, List.getElem_cons_succ, List.setIfInBounds_toArray, List.set_cons_zero, List.set_cons_succ]
      refine wpAnyH_take (i := 5) (v := ?_) rfl (by kernel_rfl) (by kernel_rfl) (by kernel_rfl) (fun _ _ _ h => h) (Or.inl ⟨by rfl, ?_⟩) (by assumption) ?_
      rotate_left
      · (intro w hSw; (obtain ⟨hS0, hS1, hS2⟩ := hSw); go_simp; (try with_reducible rfl))
      try simp only [Act.put, List.getElem_toArray, List.getElem_cons_zero, List.getElem_cons_succ, List.setIfInBounds_toArray, List.set_cons_zero, List.set_cons_succ]
      refine wpAnyH_take (i := 6) (v := ?_) rfl (by kernel_rfl) (by kernel_rfl) (by kernel_rfl) (fun _ _ _ h => h) (Or.inl ⟨by rfl, ?_⟩) (by assumption) ?_
      rotate_left
      · (intro w hSw; (obtain ⟨hS0, hS1, hS2⟩ := hSw); go_simp; (try with_reducible rfl))
      try simp only [Act.put, List.getElem_toArray, List.getElem_cons_zero, List.getElem_cons_succ, List.setIfInBounds_toArray, List.set_cons_zero, List.set_cons_succ]
      refine wpAnyH_take (i := 7) (v := ?_) rfl (by kernel_rfl) (by kernel_rfl) (by kernel_rfl) (fun _ _ _ h => h) (Or.inl ⟨by rfl, ?_⟩) (by assumption) ?_
      rotate_left
      · (intro w hSw; (obtain ⟨hS0, hS1, hS2⟩ := hSw); go_simp; (try with_reducible rfl))
      try simp only [Act.put, List.getElem_toArray, List.getElem_cons_zero, List.getElem_cons_succ, List.setIfInBounds_toArray, List.set_cons_zero, List.set_cons_succ]
      refine wpAnyH_take (i := 8) (v := ?_) rfl (by kernel_rfl) (by kernel_rfl) (by kernel_rfl) (fun _ _ _ h => h) (Or.inl ⟨by rfl, ?_⟩) (by assumption) ?_
      rotate_left
      · (intro w hSw; (obtain ⟨hS0, hS1, hS2⟩ := hSw); go_simp; (try with_reducible rfl))
      try simp only [Act.put, List.getElem_toArray, List.getElem_cons_zero, List.getElem_cons_succ, List.setIfInBounds_toArray, List.set_cons_zero, List.set_cons_succ]
      refine wpAnyH_take (i := 9) (v := ?_) rfl (by kernel_rfl) (by kernel_rfl) (by kernel_rfl) (fun _ _ _ h => h) (Or.inl ⟨by rfl, ?_⟩) (by assumption) ?_
      rotate_left
      · (intro w hSw; (obtain ⟨hS0, hS1, hS2⟩ := hSw); go_simp; (try with_reducible rfl))
      try simp only [Act.put, List.getElem_toArray, List.getElem_cons_zero, List.getElem_cons_succ, List.setIfInBounds_toArray, List.set_cons_zero, List.set_cons_succ]
      refine wpAnyH_take (i := 10) (v := ?_) rfl (by kernel_rfl) (by kernel_rfl) (by kernel_rfl) (fun _ _ _ h => h) (Or.inl ⟨by rfl, ?_⟩) (by assumption) ?_
      rotate_left
      · (intro w hSw; (obtain ⟨hS0, hS1, hS2⟩ := hSw); go_simp; (try with_reducible rfl))
      try simp only [Act.put, List.getElem_toArray, List.getElem_cons_zero, List.getElem_cons_succ, List.setIfInBounds_toArray, List.set_cons_zero, List.set_cons_succ]
      refine wpAnyH_ready (rs := [11]) (by kernel_rfl) (by simp) ?_
      refine AllReadyH.cons rfl (fun K hK => ?_) AllReadyH.nil
      rw [if_pos (by rfl)]
      go_simp
      with_reducible refine (CX.out _ w5 HW5.out HLD.out).mono ?_
      rintro e w9 ⟨rfl, hw, hb, hk⟩
      have HW9 := Lib.hid hw
      have HB9 := Lib.hid (HB5.out.trans hb)
      have HK9 := Lib.hid (HK5.out.trans hk)
      have HF9 : Hid (w9.heap[w.heap.size]? = some (.cells #[.int .u64 f.kind, .int .u64 f.id, .int .u64 f.off, .int .u64 f.max, .int .u64 f.code, .int .u64 f.seq, .int .u64 f.prior, .int .u64 f.delay, .bool f.fin, .string ⟨f.data.toArray⟩, .string ⟨f.cid.toArray⟩, .string ⟨f.token.toArray⟩, .slice f.set.a f.set.n f.set.c] 48 (0, 0))) := Lib.hid (hk _ _ _ _ HNE.out (by decide) HF5.out)
      clear hw hb hk
      refine hK.out _ _ ?_ (fun hHeld => ?_)
      · exact ⟨Lib.cell_of_heap HF9.out 9, Lib.cell_of_heap HF9.out 10, Lib.cell_of_heap HF9.out 11⟩
      clear hK K
      try simp only [Act.put, List.getElem_toArray, List.getElem_cons_zero, List.getElem_cons_succ, List.setIfInBounds_toArray, List.set_cons_zero, List.set_cons_succ]
      refine wpAnyH_done (by kernel_rfl) (NoPanic.normal ?_) _
      go_wp2
      go_end0
      refine ⟨rfl, ?_, HB9.out, HK9.out⟩
      rw [HPT.out]
      exact HW9.out
    | false =>
      rw [h7] at e7
      cases h8 : p.testBit 8 with
      | true =>
        rw [h8] at e8
        have HPT : Hid (putL f rs = (([] ++ pcat [(q : Int)]) ++ pcat (chN p f 7)) ++ [UInt8.ofNat f.cid.length] ++ (f.data ++ (f.cid ++ f.token))) := Lib.hid (by rw [HP.out, if_neg (by decide), pcat_1]; unfold txtL; rw [h7, h8]; simp)
        go_wp2_with fail
        refine wp_region_noPanic ?_
        refine wp_region_held_drew (S := fun W' : World => W'.cell? ⟨w.heap.size, 9, none⟩ = some (.string ⟨f.data.toArray⟩) ∧ W'.cell? ⟨w.heap.size, 10, none⟩ = some (.string ⟨f.cid.toArray⟩) ∧ W'.cell? ⟨w.heap.size, 11, none⟩ = some (.string ⟨f.token.toArray⟩)) (by kernel_rfl) ?_ (fun hHeld => ?_)
        · exact ⟨c9, c10, c11⟩
        refine wpAnyH_take (i := 0) (v := ?_) rfl (by kernel_rfl) (by kernel_rfl) (by kernel_rfl) (fun _ _ _ h => h) (Or.inl ⟨by rfl, ?_⟩) (by assumption) ?_
        rotate_left
        · (intro w hSw; (obtain ⟨hS0, hS1, hS2⟩ := hSw); go_simp; (try with_reducible rfl))
        try simp only [Act.put, List.getElem_toArray, List.getElem_cons_zero, List.getElem_cons_succ, List.setIfInBounds_toArray, List.set_cons_zero, List.set_cons_succ]
        refine wpAnyH_take (i := 1) (v := ?_) rfl (by kernel_rfl) (by kernel_rfl) (by kernel_rfl) (fun _ _ _ h => h) (Or.inl ⟨by rfl, ?_⟩) (by assumption) ?_
        rotate_left
        · (intro w hSw; (obtain ⟨hS0, hS1, hS2⟩ := hSw); go_simp; (try with_reducible rfl))
        try simp only [Act.put, List.getElem_toArray, List.getElem_cons_zero, List.getElem_cons_succ, List.setIfInBounds_toArray, List.set_cons_zero, List.set_cons_succ]
        refine wpAnyH_take (i := 2) (v := ?_) rfl (by kernel_rfl) (by kernel_rfl) (by kernel_rfl) (fun _ _ _ h => h) (Or.inl ⟨by rfl, ?_⟩) (by assumption) ?_
        rotate_left
        · (intro w hSw; (obtain ⟨hS0, hS1, hS2⟩ := hSw); go_simp; (try with_reducible rfl))
        try simp only [Act.put, List.getElem_toArray, List.getElem_cons_zero, List.getElem_cons_succ, List.setIfInBounds_toArray, List.set_cons_zero, List.set_cons_succ]
        refine wpAnyH_take (i := 3) (v := ?_) rfl (by kernel_rfl) (by kernel_rfl) (by kernel_rfl) (fun _ _ _ h => h) (Or.inl ⟨by rfl, ?_⟩) (by assumption) ?_
        rotate_left
        · (intro w hSw; (obtain ⟨hS0, hS1, hS2⟩ := hSw); go_simp; (try with_reducible rfl))
        try simp only [Act.put, List.getElem_toArray, List.getElem_cons_zero, List.getElem_cons_succ, List.setIfInBounds_toArray, List.set_cons_zero, List.set_cons_succ]
        refine wpAnyH_take (i := 4) (v := ?_) rfl (by kernel_rfl) (by kernel_rfl) (by kernel_rfl) (fun _ _ _ h => h) (Or.inl ⟨by rfl, ?_⟩) (by assumption) ?_
        rotate_left
        · (intro w hSw; (obtain ⟨hS0, hS1, hS2⟩ := hSw); go_simp; (try with_reducible rfl))
        try simp only [Act.put, List.getElem_toArray, List.getElem_cons_zero, List.getElem_cons_succ, List.setIfInBounds_toArray, List.set_cons_zero, List.set_cons_succ]
        refine wpAnyH_take (i := 5) (v := ?_) rfl (by kernel_rfl) (by kernel_rfl) (by kernel_rfl) (fun _ _ _ h => h) (Or.inl ⟨by rfl, ?_⟩) (by assumption) ?_
        rotate_left
        · (intro w hSw; (obtain ⟨hS0, hS1, hS2⟩ := hSw); go_simp; (try with_reducible rfl))
        try simp only [Act.put, List.getElem_toArray, List.getElem_cons_zero, List.getElem_cons_succ, List.setIfInBounds_toArray, List.set_cons_zero, List.set_cons_succ]
        refine wpAnyH_take (i := 6) (v := ?_) rfl (by kernel_rfl) (by kernel_rfl) (by kernel_rfl) (fun _ _ _ h => h) (Or.inl ⟨by rfl, ?_⟩) (by assumption) ?_
        rotate_left
        · (intro w hSw; (obtain ⟨hS0, hS1, hS2⟩ := hSw); go_simp; (try with_reducible rfl))
        try simp only [Act.put, List.getElem_toArray, List.getElem_cons_zero, List.getElem_cons_succ, List.setIfInBounds_toArray, List.set_cons_zero, List.set_cons_succ]
        refine wpAnyH_ready (rs := [7]) (by kernel_rfl) (by simp) ?_
        refine AllReadyH.cons rfl (fun K hK => ?_) AllReadyH.nil
        rw [if_pos (by rfl)]
        go_simp
        with_reducible refine (CY.out _ w4 HW4.out HL5.out).mono ?_
        rintro e w5 ⟨rfl, hw, hb, hk⟩
        have hF5 : w5.heap[w.heap.size]? = some (.cells #[.int .u64 f.kind, .int .u64 f.id, .int .u64 f.off, .int .u64 f.max, .int .u64 f.code, .int .u64 f.seq, .int .u64 f.prior, .int .u64 f.delay, .bool f.fin, .string ⟨f.data.toArray⟩, .string ⟨f.cid.toArray⟩, .string ⟨f.token.toArray⟩, .slice f.set.a f.set.n f.set.c] 48 (0, 0)) := hk _ _ _ _ HNE.out (by decide) HF4.out
        clear c9 c10 c11
        have c9 : w5.cell? ⟨w.heap.size, 9, none⟩ = some (.string ⟨f.data.toArray⟩) := Lib.cell_of_heap hF5 9
        have c10 : w5.cell? ⟨w.heap.size, 10, none⟩ = some (.string ⟨f.cid.toArray⟩) := Lib.cell_of_heap hF5 10
        have c11 : w5.cell? ⟨w.heap.size, 11, none⟩ = some (.string ⟨f.token.toArray⟩) := Lib.cell_of_heap hF5 11
        have HF5 := Lib.hid hF5
        have HW5 := Lib.hid hw
        have HB5 := Lib.hid (HB4.out.trans hb)
        have HK5 := Lib.hid (HK4.out.trans hk)
        have HT5 := HT4
        clear hw hb hk hF5
        refine hK.out _ _ ?_ (fun hHeld => ?_)
        · exact ⟨c9, c10, c11⟩
        clear hK K
        try simp only [Act.put, List.getElem_toArray, List.getElem_cons_zero, List.getElem_cons_succ, List.setIfInBounds_toArray, List.set_cons_zero, List.set_cons_succ]
        refine wpAnyH_done (by kernel_rfl) (NoPanic.normal ?_) _
        go_wp2_with fail
        refine wp_region_noPanic ?_
        refine wp_region_held_drew (S := fun W' : World => W'.cell? ⟨w.heap.size, 9, none⟩ = some (.string ⟨f.data.toArray⟩) ∧ W'.cell? ⟨w.heap.size, 10, none⟩ = some (.string ⟨f.cid.toArray⟩) ∧ W'.cell? ⟨w.heap.size, 11, none⟩ = some (.string ⟨f.token.toArray⟩)) (by kernel_rfl) ?_ (fun hHeld => ?_)
        · exact ⟨c9, c10, c11⟩
        refine wpAnyH_take (i := 0) (v := ?_) rfl (by kernel_rfl) (by kernel_rfl) (by kernel_rfl) (fun _ _ _ h => h) (Or.inl ⟨by rfl, ?_⟩) (by assumption) ?_
        rotate_left
        · (intro w hSw; (obtain ⟨hS0, hS1, hS2⟩ := hSw); go_simp; (try with_reducible rfl))
        try simp only [Act.put, List.getElem_toArray, List.getElem_cons_zero, List.getElem_cons_succ, List.setIfInBounds_toArray, List.set_cons_zero, List.set_cons_succ]
        refine wpAnyH_take (i := 1) (v := ?_) rfl (by kernel_rfl) (by kernel_rfl) (by kernel_rfl) (fun _ _ _ h => h) (Or.inl ⟨by rfl, ?_⟩) (by assumption) ?_
        rotate_left
        · (intro w hSw; (obtain ⟨hS0, hS1, hS2⟩ := hSw); go_simp; (try with_reducible rfl))
        try simp only [Act.put, List.getElem_toArray, List.getElem_cons_zero, List.getElem_cons_succ, List.setIfInBounds_toArray, List.set_cons_zero, List.set_cons_succ]
        refine wpAnyH_take (i := 2) (v := ?_) rfl (by kernel_rfl) (by kernel_rfl) (by kernel_rfl) (fun _ _ _ h => h) (Or.inl ⟨by rfl, ?_⟩) (by assumption) ?_
        rotate_left
        · (intro w hSw; (obtain ⟨hS0, hS1, hS2⟩ := hSw); go_simp; (try with_reducible rfl))
        try simp only [Act.put, List.getElem_toArray, List.getElem_cons_zero, List.getElem_cons_succ, List.setIfInBounds_toArray, List.set_cons_zero, List.set_cons_succ]
        refine wpAnyH_take (i := 3) (v := ?_) rfl (by kernel_rfl) (by kernel_rfl) (by kernel_rfl) (fun _ _ _ h => h) (Or.inl ⟨by rfl, ?_⟩) (by assumption) ?_
        rotate_left
        · (intro w hSw; (obtain ⟨hS0, hS1, hS2⟩ := hSw); go_simp; (try with_reducible rfl))
        try simp only [Act.put, List.getElem_toArray, List.getElem_cons_zero, List.getElem_cons_succ, List.setIfInBounds_toArray, List.set_cons_zero, List.set_cons_succ]
        refine wpAnyH_take (i := 4) (v := ?_) rfl (by kernel_rfl) (by kernel_rfl) (by kernel_rfl) (fun _ _ _ h => h) (Or.inl ⟨by rfl, ?_⟩) (by assumption) ?_
        rotate_left
        · (intro w hSw; (obtain ⟨hS0, hS1, hS2⟩ := hSw); go_simp; (try with_reducible rfl))
        try simp only [Act.put, List.getElem_toArray, List.getElem_cons_zero, List.getElem_cons_succ, List.setIfInBounds_toArray, List.set_cons_zero, List.set_cons_succ]
        refine wpAnyH_take (i := 5) (v := ?_) rfl (by kernel_rfl) (by kernel_rfl) (by kernel_rfl) (fun _ _ _ h => h) (Or.inl ⟨by rfl, ?_⟩) (by assumption) ?_
        rotate_left
        · (intro w hSw; (obtain ⟨hS0, hS1, hS2⟩ := hSw); go_simp; (try with_reducible rfl))
        try simp only [Act.put, List.getElem_toArray, List.getElem_cons_zero, List.getElem_cons_succ, List.setIfInBounds_toArray, List.set_cons_zero, List.set_cons_succ]
        refine wpAnyH_take (i := 6) (v := ?_) rfl (by kernel_rfl) (by kernel_rfl) (by kernel_rfl) (fun _ _ _ h => h) (Or.inl ⟨by rfl, ?_⟩) (by assumption) ?_
        rotate_left
        · (intro w hSw; (obtain ⟨hS0, hS1, hS2⟩ := hSw); go_simp; (try with_reducible rfl))
        try simp only [Act.put, List.getElem_toArray, List.getElem_cons_zero, List.getElem_cons_succ, List.setIfInBounds_toArray, List.set_cons_zero, List.set_cons_succ]
        refine wpAnyH_take (i := 7) (v := ?_) rfl (by kernel_rfl) (by kernel_rfl) (by kernel_rfl) (fun _ _ _ h => h) (Or.inl ⟨by rfl, ?_⟩) (by assumption) ?_
        rotate_left
        · (intro w hSw; (obtain ⟨hS0, hS1, hS2⟩ := hSw); go_simp; (try with_reducible rfl))
        try simp only [Act.put, List.getElem_toArray, List.getElem_cons_zero, List.getElem_cons_succ, List.setIfInBounds_toArray, List.set_cons_zero, List.set_cons_succ]
        refine wpAnyH_take (i := 8) (v := ?_) rfl (by kernel_rfl) (by kernel_rfl) (by kernel_rfl) (fun _ _ _ h => h) (Or.inl ⟨by rfl, ?_⟩) (by assumption) ?_
        rotate_left
        · (intro w hSw; (obtain ⟨hS0, hS1, hS2⟩ := hSw); go_simp; (try with_reducible rfl))
        try simp only [Act.put, List.getElem_toArray, List.getElem_cons_zero, List.getElem_cons_succ, List.setIfInBounds_toArray, List.set_cons_zero, List.set_cons_succ]
        refine wpAnyH_take (i := 9) (v := ?_) rfl (by kernel_rfl) (by kernel_rfl) (by kernel_rfl) (fun _ _ _ h => h) (Or.inl ⟨by rfl, ?_⟩) (by assumption) ?_
        rotate_left
        · (intro w hSw; (obtain ⟨hS0, hS1, hS2⟩ := hSw); go_simp; (try with_reducible rfl))
        try simp only [Act.put, List.getElem_toArray, List.getElem_cons_zero, List.getElem_cons_succ, List.setIfInBounds_toArray, List.set_cons_zero, List.set_cons_succ]
        refine wpAnyH_take (i := 10) (v := ?_) rfl (by kernel_rfl) (by kernel_rfl) (by kernel_rfl) (fun _ _ _ h => h) (Or.inl ⟨by rfl, ?_⟩) (by assumption) ?_
        rotate_left
        · (intro w hSw; (obtain ⟨hS0, hS1, hS2⟩ := hSw); go_simp; (try with_reducible rfl))
        try simp only [Act.put, List.getElem_toArray, List.getElem_cons_zero, List.getElem_cons_succ, List.setIfInBounds_toArray, List.set_cons_zero, List.set_cons_succ]
        refine wpAnyH_ready (rs := [11]) (by kernel_rfl) (by simp) ?_
        refine AllReadyH.cons rfl (fun K hK => ?_) AllReadyH.nil
        rw [if_pos (by rfl)]
        go_simp
        with_reducible refine (CX.out _ w5 HW5.out HLC.out).mono ?_
        rintro e w9 ⟨rfl, hw, hb, hk⟩
        have HW9 := Lib.hid hw
        have HB9 := Lib.hid (HB5.out.trans hb)
        have HK9 := Lib.hid (HK5.out.trans hk)
        have HF9 : Hid (w9.heap[w.heap.size]? = some (.cells #[.int .u64 f.kind, .int .u64 f.id, .int .u64 f.off, .int .u64 f.max, .int .u64 f.code, .int .u64 f.seq, .int .u64 f.prior, .int .u64 f.delay, .bool f.fin, .string ⟨f.data.toArray⟩, .string ⟨f.cid.toArray⟩, .string ⟨f.token.toArray⟩, .slice f.set.a f.set.n f.set.c] 48 (0, 0))) := Lib.hid (hk _ _ _ _ HNE.out (by decide) HF5.out)
        clear hw hb hk
        refine hK.out _ _ ?_ (fun hHeld => ?_)
        · exact ⟨Lib.cell_of_heap HF9.out 9, Lib.cell_of_heap HF9.out 10, Lib.cell_of_heap HF9.out 11⟩
        clear hK K
        try simp only [Act.put, List.getElem_toArray, List.getElem_cons_zero, List.getElem_cons_succ, List.setIfInBounds_toArray, List.set_cons_zero, List.set_cons_succ]
        refine wpAnyH_done (by kernel_rfl) (NoPanic.normal ?_) _
        go_wp2
        go_end0
        refine ⟨rfl, ?_, HB9.out, HK9.out⟩
        rw [HPT.out]
        exact HW9.out
      | false =>
        rw [h8] at e8
        have HPT : Hid (putL f rs = (([] ++ pcat [(q : Int)]) ++ pcat (chN p f 7)) ++ (f.data ++ (f.cid ++ f.token))) := Lib.hid (by rw [HP.out, if_neg (by decide), pcat_1]; unfold txtL; rw [h7, h8]; simp)
        go_wp2_with fail
        refine wp_region_noPanic ?_
        refine wp_region_held_drew (S := fun W' : World => W'.cell? ⟨w.heap.size, 9, none⟩ = some (.string ⟨f.data.toArray⟩) ∧ W'.cell? ⟨w.heap.size, 10, none⟩ = some (.string ⟨f.cid.toArray⟩) ∧ W'.cell? ⟨w.heap.size, 11, none⟩ = some (.string ⟨f.token.toArray⟩)) (by kernel_rfl) ?_ (fun hHeld => ?_)
        · exact ⟨c9, c10, c11⟩
        refine wpAnyH_take (i := 0) (v := ?_) rfl (by kernel_rfl) (by kernel_rfl) (by kernel_rfl) (fun _ _ _ h => h) (Or.inl ⟨by rfl, ?_⟩) (by assumption) ?_
        rotate_left
        · (intro w hSw; (obtain ⟨hS0, hS1, hS2⟩ := hSw); go_simp; (try with_reducible rfl))
        try simp only [Act.put, List.getElem_toArray, List.getElem_cons_zero, List.getElem_cons_succ, List.setIfInBounds_toArray, List.set_cons_zero, List.set_cons_succ]
        refine wpAnyH_take (i := 1) (v := ?_) rfl (by kernel_rfl) (by kernel_rfl) (by kernel_rfl) (fun _ _ _ h => h) (Or.inl ⟨by rfl, ?_⟩) (by assumption) ?_
        rotate_left
        · (intro w hSw; (obtain ⟨hS0, hS1, hS2⟩ := hSw); go_simp; (try with_reducible rfl))
        try simp only [Act.put, List.getElem_toArray, List.getElem_cons_zero, List.getElem_cons_succ, List.setIfInBounds_toArray, List.set_cons_zero, List.set_cons_succ]
        refine wpAnyH_take (i := 2) (v := ?_) rfl (by kernel_rfl) (by kernel_rfl) (by kernel_rfl) (fun _ _ _ h => h) (Or.inl ⟨by rfl, ?_⟩) (by assumption) ?_
        rotate_left
        · (intro w hSw; (obtain ⟨hS0, hS1, hS2⟩ := hSw); go_simp; (try with_reducible rfl))
        try simp only [Act.put, List.getElem_toArray, List.getElem_cons_zero, List.getElem_cons_succ, List.setIfInBounds_toArray, List.set_cons_zero, List.set_cons_succ]
        refine wpAnyH_take (i := 3) (v := ?_) rfl (by kernel_rfl) (by kernel_rfl) (by kernel_rfl) (fun _ _ _ h => h) (Or.inl ⟨by rfl, ?_⟩) (by assumption) ?_
        rotate_left
        · (intro w hSw; (obtain ⟨hS0, hS1, hS2⟩ := hSw); go_simp; (try with_reducible rfl))
        try simp only [Act.put, List.getElem_toArray, List.getElem_cons_zero, List.getElem_cons_succ, List.setIfInBounds_toArray, List.set_cons_zero, List.set_cons_succ]
        refine wpAnyH_take (i := 4) (v := ?_) rfl (by kernel_rfl) (by kernel_rfl) (by kernel_rfl) (fun _ _ _ h => h) (Or.inl ⟨by rfl, ?_⟩) (by assumption) ?_
        rotate_left
        · (intro w hSw; (obtain ⟨hS0, hS1, hS2⟩ := hSw); go_simp; (try with_reducible rfl))
        try simp only [Act.put, List.getElem_toArray, List.getElem_cons_zero, List.getElem_cons_succ, List.setIfInBounds_toArray, List.set_cons_zero, List.set_cons_succ]
        refine wpAnyH_take (i := 5) (v := ?_) rfl (by kernel_rfl) (by kernel_rfl) (by kernel_rfl) (fun _ _ _ h => h) (Or.inl ⟨by rfl, ?_⟩) (by assumption) ?_
        rotate_left
        · (intro w hSw; (obtain ⟨hS0, hS1, hS2⟩ := hSw); go_simp; (try with_reducible rfl))
        try simp only [Act.put, List.getElem_toArray, List.getElem_cons_zero, List.getElem_cons_succ, List.setIfInBounds_toArray, List.set_cons_zero, List.set_cons_succ]
        refine wpAnyH_take (i := 6) (v := ?_) rfl (by kernel_rfl) (by kernel_rfl) (by kernel_rfl) (fun _ _ _ h => h) (Or.inl ⟨by rfl, ?_⟩) (by assumption) ?_
        rotate_left
        · (intro w hSw; (obtain ⟨hS0, hS1, hS2⟩ := hSw); go_simp; (try with_reducible rfl))
        try simp only [Act.put, List.getElem_toArray, List.getElem_cons_zero, List.getElem_cons_succ, List.setIfInBounds_toArray, List.set_cons_zero, List.set_cons_succ]
        refine wpAnyH_take (i := 7) (v := ?_) rfl (by kernel_rfl) (by kernel_rfl) (by kernel_rfl) (fun _ _ _ h => h) (Or.inl ⟨by rfl, ?_⟩) (by assumption) ?_
        rotate_left
        · (intro w hSw; (obtain ⟨hS0, hS1, hS2⟩ := hSw); go_simp; (try with_reducible rfl))
        try simp only [Act.put, List.getElem_toArray, List.getElem_cons_zero, List.getElem_cons_succ, List.setIfInBounds_toArray, List.set_cons_zero, List.set_cons_succ]
        refine wpAnyH_take (i := 8) (v := ?_) rfl (by kernel_rfl) (by kernel_rfl) (by kernel_rfl) (fun _ _ _ h => h) (Or.inl ⟨by rfl, ?_⟩) (by assumption) ?_
        rotate_left
        · (intro w hSw; (obtain ⟨hS0, hS1, hS2⟩ := hSw); go_simp; (try with_reducible rfl))
        try simp only [Act.put, List.getElem_toArray, List.getElem_cons_zero, List.getElem_cons_succ, List.setIfInBounds_toArray, List.set_cons_zero, List.set_cons_succ]
        refine wpAnyH_take (i := 9) (v := ?_) rfl (by kernel_rfl) (by kernel_rfl) (by kernel_rfl) (fun _ _ _ h => h) (Or.inl ⟨by rfl, ?_⟩) (by assumption) ?_
        rotate_left
        · (intro w hSw; (obtain ⟨hS0, hS1, hS2⟩ := hSw); go_simp; (try with_reducible rfl))
        try simp only [Act.put, List.getElem_toArray, List.getElem_cons_zero, List.getElem_cons_succ, List.setIfInBounds_toArray, List.set_cons_zero, List.set_cons_succ]
        refine wpAnyH_take (i := 10) (v := ?_) rfl (by kernel_rfl) (by kernel_rfl) (by kernel_rfl) (fun _ _ _ h => h) (Or.inl ⟨by rfl, ?_⟩) (by assumption) ?_
        rotate_left
        · (intro w hSw; (obtain ⟨hS0, hS1, hS2⟩ := hSw); go_simp; (try with_reducible rfl))
        try simp only [Act.put, List.getElem_toArray, List.getElem_cons_zero, List.getElem_cons_succ, List.setIfInBounds_toArray, List.set_cons_zero, List.set_cons_succ]
        refine wpAnyH_ready (rs := [11]) (by kernel_rfl) (by simp) ?_
        refine AllReadyH.cons rfl (fun K hK => ?_) AllReadyH.nil
        rw [if_pos (by rfl)]
        go_simp
        with_reducible refine (CX.out _ w4 HW4.out HLE.out).mono ?_
        rintro e w9 ⟨rfl, hw, hb, hk⟩
        have HW9 := Lib.hid hw
        have HB9 := Lib.hid (HB4.out.trans hb)
        have HK9 := Lib.hid (HK4.out.trans hk)
        have HF9 : Hid (w9.heap[w.heap.size]? = some (.cells #[.int .u64 f.kind, .int .u64 f.id, .int .u64 f.off, .int .u64 f.max, .int .u64 f.code, .int .u64 f.seq, .int .u64 f.prior, .int .u64 f.delay, .bool f.fin, .string ⟨f.data.toArray⟩, .string ⟨f.cid.toArray⟩, .string ⟨f.token.toArray⟩, .slice f.set.a f.set.n f.set.c] 48 (0, 0))) := Lib.hid (hk _ _ _ _ HNE.out (by decide) HF4.out)
        clear hw hb hk
        refine hK.out _ _ ?_ (fun hHeld => ?_)
        · exact ⟨Lib.cell_of_heap HF9.out 9, Lib.cell_of_heap HF9.out 10, Lib.cell_of_heap HF9.out 11⟩
        clear hK K
        try simp only [Act.put, List.getElem_toArray, List.getElem_cons_zero, List.getElem_cons_succ, List.setIfInBounds_toArray, List.set_cons_zero, List.set_cons_succ]
        refine wpAnyH_done (by kernel_rfl) (NoPanic.normal ?_) _
        go_wp2
        go_end0
        refine ⟨rfl, ?_, HB9.out, HK9.out⟩
        rw [HPT.out]
        exact HW9.out
end Go.Proofs.YtoblmhpjendbfaaGreatDoor.Fm
