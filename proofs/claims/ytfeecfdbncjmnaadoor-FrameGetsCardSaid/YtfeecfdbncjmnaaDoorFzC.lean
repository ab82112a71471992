/- Layer 6: FgA, FgB, FpM, FpA, joined by tools/pack.py. -/
import Derived.Test.YtfeecfdbncjmnaaDoorFnQ
import Derived.Test.YtfeecfdbncjmnaaDoorVmMany
import Derived.Deep.QuietTactic
import Derived.BigQuiet
import Derived.Test.YtfeecfdbncjmnaaDoorFzB
namespace Go.Proofs.YtfeecfdbncjmnaaDoor.Fm
set_option maxRecDepth 20000
open Go.RowKit Vm
set_option linter.unusedVariables false
set_option linter.unusedSimpArgs false
section
theorem ba_list (l : List UInt8) : (⟨l.toArray⟩ : ByteArray).data.toList = l := rfl
theorem below_dr {w w' : World} (h : ∃ m, w' = w.drewN m) : Below w.heap.size w w' := by
  obtain ⟨m, rfl⟩ := h
  exact below_drewN (Below.refl _ _) m
set_option maxHeartbeats 1000000 in
theorem rnumber (l : List UInt8) (w : World) (hl : l.length ≤ 100000) :
    Calls Tryd.prog 20 #[.string ⟨l.toArray⟩] w fun e w' => e = .returned (.tuple #[.int .u64 (gN l : Nat), .string ⟨(gR l).toArray⟩, .bool (decide (gk l ≤ l.length))]) ∧ Below w.heap.size w w' := by
  have CG := Lib.hid (fun w => rget ⟨l.toArray⟩ w (by show l.length ≤ _; omega))
  rw [ba_list] at CG
  by_cases h : gk l ≤ l.length
  · rw [(g_ok h).2.2] at CG
    rw [decide_eq_true h]
    generalize gN l = n at *
    generalize gR l = r at *
    clear h hl
    go_enter Tryd.func20, Tryd.ntmps20
    go_wp2_with fail
    refine (CG.out _).mono ?_
    rintro e w1 ⟨rfl, hb⟩
    have HB := Lib.hid (below_dr hb)
    clear hb
    go_wp2
    go_ret3
    exact ⟨rfl, HB.out⟩
  · rw [(g_no (l := l) (by omega)).2.2] at CG
    rw [decide_eq_false h]
    generalize gN l = n at *
    generalize gR l = r at *
    clear h hl
    go_enter Tryd.func20, Tryd.ntmps20
    go_wp2_with fail
    refine (CG.out _).mono ?_
    rintro e w1 ⟨rfl, hb⟩
    have HB := Lib.hid (below_dr hb)
    clear hb
    go_wp2
    go_ret3
    exact ⟨rfl, HB.out⟩
set_option maxHeartbeats 1000000 in
theorem rtake_yes (l : List UInt8) (n : Nat) (w : World) (hl : l.length ≤ 100000) (h : n ≤ l.length) :
    Calls Tryd.prog 41 #[.string ⟨l.toArray⟩, .int .u64 (n : Nat)] w fun e w' => e = .returned (.tuple #[.string ⟨(l.take n).toArray⟩, .string ⟨(l.drop n).toArray⟩, .bool true]) ∧ Below w.heap.size w w' := by
  have hsz : (⟨l.toArray⟩ : ByteArray).size = l.length := rfl
  have h1 : IntKind.u64.wrap (l.length : Int) = (l.length : Int) := by rw [IntKind.wrap_u64]; omega
  have h2 : ¬ (l.length : Int) < (n : Int) := by omega
  have h3 : (n : Int) ≤ (l.length : Int) := by omega
  have h4 : (l.length : Int) ≤ 100000 := by omega
  have E1 := Lib.hid (sv_to l n)
  have E2 := Lib.hid (sv_from l n)
  have h5 : (0 : Int) ≤ (n : Int) := by omega
  clear hl h
  go_enter Tryd.func41, Tryd.ntmps41
  go_wp2_with fail
  go_quiet (fail)
  go_wp2
  go_ret3
  exact ⟨by rw [← E1.out, ← E2.out]; rfl, below_drewN (Below.refl _ _) _⟩
set_option maxHeartbeats 1000000 in
theorem rtake_no (l : List UInt8) (n : Nat) (w : World) (hl : l.length ≤ 100000) (h : l.length < n) :
    Calls Tryd.prog 41 #[.string ⟨l.toArray⟩, .int .u64 (n : Nat)] w fun e w' => e = .returned (.tuple #[.string ⟨#[]⟩, .string ⟨#[]⟩, .bool false]) ∧ w' = w := by
  have hsz : (⟨l.toArray⟩ : ByteArray).size = l.length := rfl
  have h1 : IntKind.u64.wrap (l.length : Int) = (l.length : Int) := by rw [IntKind.wrap_u64]; omega
  have h2 : (l.length : Int) < (n : Int) := by omega
  clear hl h
  go_enter Tryd.func41, Tryd.ntmps41
  go_wp2
  go_ret3
  exact ⟨rfl, rfl⟩
/-- What long tells: a text behind its length, and what is behind it. -/
def lngN (l : List UInt8) : Option (List UInt8 × List UInt8) := if gk l ≤ l.length ∧ gN l ≤ (gR l).length then some ((gR l).take (gN l), (gR l).drop (gN l)) else none
def LngTo (o : Option (List UInt8 × List UInt8)) (w : World) (e : Ending) (w' : World) : Prop :=
  Below w.heap.size w w' ∧ match o with
  | none => e = .returned (.tuple #[.string ⟨#[]⟩, .string ⟨#[]⟩, .bool false])
  | some (t, r) => e = .returned (.tuple #[.string ⟨t.toArray⟩, .string ⟨r.toArray⟩, .bool true])
theorem gR_le (l : List UInt8) : (gR l).length ≤ l.length := by
  unfold gR
  split
  · rw [List.length_drop]; omega
  · simp
set_option maxHeartbeats 2000000 in
theorem rlong (l : List UInt8) (w : World) (hl : l.length ≤ 100000) : Calls Tryd.prog 39 #[.string ⟨l.toArray⟩] w (LngTo (lngN l) w) := by
  have CN := Lib.hid (fun w => rnumber l w hl)
  have hr : (gR l).length ≤ 100000 := Nat.le_trans (gR_le l) hl
  by_cases h : gk l ≤ l.length
  · rw [decide_eq_true h] at CN
    by_cases h2 : gN l ≤ (gR l).length
    · have HV : Hid (lngN l = some ((gR l).take (gN l), (gR l).drop (gN l))) := Lib.hid (by unfold lngN; rw [if_pos ⟨h, h2⟩])
      have CT := Lib.hid (fun w => rtake_yes (gR l) (gN l) w hr h2)
      generalize gN l = n at *
      generalize gR l = r at *
      generalize lngN l = o at *
      clear h h2 hr hl
      go_enter Tryd.func39, Tryd.ntmps39
      go_wp2_with fail
      refine (CN.out _).mono ?_
      rintro e w1 ⟨rfl, hb⟩
      have HB := Lib.hid hb
      clear hb
      go_wp2_with fail
      refine (CT.out _).mono ?_
      rintro e w2 ⟨rfl, hb⟩
      have HB2 := Lib.hid (HB.out.trans (hb.mono HB.out.size))
      clear hb
      go_wp2
      go_ret3
      rw [HV.out]
      exact ⟨HB2.out, rfl⟩
    · have HV : Hid (lngN l = none) := Lib.hid (by unfold lngN; rw [if_neg (fun h3 => h2 h3.2)])
      have CT := Lib.hid (fun w => rtake_no (gR l) (gN l) w hr (by omega))
      generalize gN l = n at *
      generalize gR l = r at *
      generalize lngN l = o at *
      clear h h2 hr hl
      go_enter Tryd.func39, Tryd.ntmps39
      go_wp2_with fail
      refine (CN.out _).mono ?_
      rintro e w1 ⟨rfl, hb⟩
      have HB := Lib.hid hb
      clear hb
      go_wp2_with fail
      refine (CT.out _).mono ?_
      rintro e w2 ⟨rfl, rfl⟩
      go_wp2
      go_ret3
      rw [HV.out]
      exact ⟨HB.out, rfl⟩
  · rw [decide_eq_false h] at CN
    have HV : Hid (lngN l = none) := Lib.hid (by unfold lngN; rw [if_neg (fun h3 => h h3.1)])
    generalize gN l = n at *
    generalize gR l = r at *
    generalize lngN l = o at *
    clear h hr hl
    go_enter Tryd.func39, Tryd.ntmps39
    go_wp2_with fail
    refine (CN.out _).mono ?_
    rintro e w1 ⟨rfl, hb⟩
    have HB := Lib.hid hb
    clear hb
    go_wp2
    go_ret3
    rw [HV.out]
    exact ⟨HB.out, rfl⟩
/-- What numbers tells. -/
def NmsTo (o : Option (List Nat × List UInt8)) (k : Nat) (w : World) (e : Ending) (w' : World) : Prop :=
  Below w.heap.size w w' ∧ match o with
  | none => e = .returned (.tuple #[.slice none 0 0, .string ⟨#[]⟩, .bool false])
  | some (acc, r) => ∃ g c, e = .returned (.tuple #[.slice (some ⟨g, 0, none⟩) k c, .string ⟨r.toArray⟩, .bool true]) ∧ w.heap.size ≤ g ∧ ∀ i, i < k → w'.cell? ⟨g, i, none⟩ = some (.int .u64 (acc.getD i 0 : Nat))
end
section
theorem numCells_get (acc : List Nat) (i : Nat) (h : i < acc.length) : (numCells acc)[i]? = some (.int .u64 (acc.getD i 0 : Nat)) := by
  unfold numCells
  rw [List.getElem?_map, List.getElem?_eq_getElem h, List.getD_eq_getElem?_getD, List.getElem?_eq_getElem h]
  rfl
theorem gst_len {l : List UInt8} : ∀ {k : Nat} {acc : List Nat} {r : List UInt8}, gst l k = some (acc, r) → acc.length = k
  | 0, acc, r, h => by
    simp only [gst, Option.some.injEq, Prod.mk.injEq] at h
    rw [← h.1]; rfl
  | k + 1, acc, r, h => by
    rw [gst] at h
    match hg : gst l k with
    | none => rw [hg] at h; cases h
    | some (a, q) =>
      rw [hg] at h
      simp only at h
      split at h
      · injection h with h
        injection h with h1 h2
        rw [← h1, List.length_append, gst_len hg]
        rfl
      · cases h
set_option maxHeartbeats 2000000 in
theorem rnumbers (l : List UInt8) (k : Nat) (w : World) (hl : l.length ≤ 4000) (hk0 : 0 < k) (hk : k ≤ 1000) : Calls Tryd.prog 38 #[.string ⟨l.toArray⟩, .int .i64 (k : Nat)] w (NmsTo (gst l k) k w) := by
  have CG := Lib.hid (fun w => rgets ⟨l.toArray⟩ (k : Nat) w (by show l.length ≤ _; omega) (by omega))
  rw [ba_list, Int.toNat_natCast] at CG
  have HK := Lib.hid hk0
  clear hl hk hk0
  match hg : gst l k with
  | none =>
    unfold GetsPost at CG
    rw [hg] at CG
    clear hg
    go_enter Tryd.func38, Tryd.ntmps38
    go_wp2_with fail
    refine (CG.out _).mono ?_
    rintro e w1 ⟨hb, rfl⟩
    have HB := Lib.hid hb
    clear hb
    go_wp2
    go_ret3
    exact ⟨HB.out, rfl⟩
  | some (acc, r) =>
    have HL := Lib.hid (gst_len hg)
    unfold GetsPost at CG
    rw [hg] at CG
    clear hg
    go_enter Tryd.func38, Tryd.ntmps38
    go_wp2_with fail
    refine (CG.out _).mono ?_
    rintro e w1 ⟨hb, v, rfl, ho⟩
    have HB := Lib.hid hb
    have HR : Hid (∃ g c, v = .slice (some ⟨g, 0, none⟩) k c ∧ w.heap.size ≤ g ∧ ∀ i, i < k → w1.cell? ⟨g, i, none⟩ = some (.int .u64 (acc.getD i 0 : Nat))) := Lib.hid (by
      rw [HL.out] at ho
      have h0 := ho
      rcases ho.2 with ⟨_, hz⟩ | ⟨g, cap, cur, hv, hbg, hg, _⟩
      · have := HK.out; omega
      · subst hv
        exact ⟨g, cap, rfl, hbg, fun i hi => (World.ownsRow.cellAt h0 i (by omega)).trans (numCells_get acc i (by rw [HL.out]; exact hi))⟩)
    clear hb ho
    obtain ⟨g, c, rfl, h1, h2⟩ := HR.out
    clear HR
    have HR2 := Lib.hid (And.intro h1 h2)
    clear h1 h2
    go_wp2
    go_ret3
    exact ⟨HB.out, g, c, rfl, HR2.out.1, HR2.out.2⟩
/-- What parts tells. -/
def PtTo (o : Option (Frm × List (Nat × Nat) × List UInt8)) (w : World) (e : Ending) (w' : World) : Prop :=
  Below w.heap.size w w' ∧ match o with
  | none => ∃ (g : Frm) (r : List UInt8), e = .returned (.tuple #[.agg #[.int .u64 g.kind, .int .u64 g.id, .int .u64 g.off, .int .u64 g.max, .int .u64 g.code, .int .u64 g.seq, .int .u64 g.prior, .int .u64 g.delay, .bool g.fin, .string ⟨g.data.toArray⟩, .string ⟨g.cid.toArray⟩, .string ⟨g.token.toArray⟩, .slice g.set.a g.set.n g.set.c], .string ⟨r.toArray⟩, .bool false])
  | some (f, rs, r) => ∃ sl : Sl, sl.n = rs.length ∧ Rd w' (.slice sl.a sl.n sl.c) (ints rs) ∧ (∀ x, sl.a = some x → w.heap.size ≤ x.block) ∧ e = .returned (.tuple #[.agg #[.int .u64 f.kind, .int .u64 f.id, .int .u64 f.off, .int .u64 f.max, .int .u64 f.code, .int .u64 f.seq, .int .u64 f.prior, .int .u64 f.delay, .bool f.fin, .string ⟨f.data.toArray⟩, .string ⟨f.cid.toArray⟩, .string ⟨f.token.toArray⟩, .slice sl.a sl.n sl.c], .string ⟨r.toArray⟩, .bool true])
end
section
/-- The letters of a kind's parts. -/
def shpN : Nat → List UInt8
  | 0 => [45]
  | 1 => [45]
  | 2 => [101, 115]
  | 4 => [105, 99, 109]
  | 5 => [105, 99]
  | 6 => [111, 100]
  | 8 => [105, 111, 102, 100]
  | 16 => [109]
  | 17 => [105, 109]
  | 18 => [109]
  | 19 => [109]
  | 20 => [109]
  | 21 => [105, 109]
  | 22 => [109]
  | 23 => [109]
  | 24 => [113, 112, 110, 116]
  | 25 => [113]
  | 26 => [116]
  | 27 => [116]
  | 28 => [99, 101, 100]
  | 29 => [99, 100]
  | 30 => [45]
  | _ => []
/-- The letter of a part, by its bit. -/
def chrN : Nat → UInt8
  | 0 => 105
  | 1 => 111
  | 2 => 99
  | 3 => 109
  | 4 => 113
  | 5 => 112
  | 6 => 101
  | 7 => 100
  | 8 => 110
  | 9 => 116
  | 10 => 102
  | _ => 115
theorem shp_big {k : Nat} (h : 31 ≤ k) : shpN k = [] := by
  unfold shpN
  split <;> first | rfl | omega
theorem parts_big {k : Nat} (h : 31 ≤ k) : partsN k = none := by
  unfold partsN
  split <;> first | rfl | omega
theorem shp_fin : ∀ k : Fin 31, ∀ j : Fin 12, (shpN k.val).contains (chrN j.val) = ((partsN k.val).getD 0).testBit j.val := by decide
theorem shp_none : ∀ k : Fin 31, (shpN k.val).isEmpty = !(partsN k.val).isSome := by decide
theorem shp_bit (k j : Nat) (hj : j < 12) : (shpN k).contains (chrN j) = ((partsN k).getD 0).testBit j := by
  by_cases hk : k < 31
  · exact shp_fin ⟨k, hk⟩ ⟨j, hj⟩
  · rw [shp_big (by omega), parts_big (by omega)]
    simp
theorem shp_some (k : Nat) : (shpN k).isEmpty = !(partsN k).isSome := by
  by_cases hk : k < 31
  · exact shp_none ⟨k, hk⟩
  · rw [shp_big (by omega), parts_big (by omega)]
    rfl
/-- What a frame has, its kind has: in one word. -/
theorem sub_has {p : Nat} {f : Frm} (h : Has p f) : filN f &&& p = filN f := by
  apply Nat.eq_of_testBit_eq
  intro j
  rw [Nat.testBit_and]
  by_cases hp : p.testBit j = true
  · rw [hp, Bool.and_true]
  · have hp : p.testBit j = false := by simpa using hp
    rw [hp, Bool.and_false, fil_bit]
    symm
    by_cases h7 : j < 7
    · rw [fT_num f j h7, h.num j h7 hp, decide_eq_false (show ¬ j = 10 by omega), decide_eq_false (show ¬ j = 11 by omega)]
      simp
    · by_cases h10 : j < 10
      · have e : j = 7 + (j - 7) := by omega
        have hx : txF f (j - 7) = [] := by
          have hc : j = 7 ∨ j = 8 ∨ j = 9 := by omega
          rcases hc with rfl | rfl | rfl
          · exact h.data hp
          · exact h.cid hp
          · exact h.token hp
        rw [e, fT_txt f (j - 7) 3 (by decide), hx, decide_eq_false (show ¬ 7 + (j - 7) = 10 by omega), decide_eq_false (show ¬ 7 + (j - 7) = 11 by omega)]
        simp
      · have hlt : (fT f 3).testBit j = false := by
          apply Nat.testBit_lt_two_pow
          have h3 : fT f 3 < 2 ^ 10 := fT_lt f 3
          have : 2 ^ 10 ≤ 2 ^ j := Nat.pow_le_pow_right (by decide) (by omega)
          omega
        rw [hlt]
        by_cases h1 : j = 10
        · subst h1
          rw [h.fin hp]
          simp
        · by_cases h2 : j = 11
          · subst h2
            rw [h.set hp]
            simp
          · rw [decide_eq_false h1, decide_eq_false h2]
            simp
theorem may_kind {k : Nat} {f : Frm} {l : List Ran} (h : mayF k f l = true) : (partsN k).isSome = true ∧ Has ((partsN k).getD 0) f ∧ numB f = true := by
  unfold mayF bndB at h
  rw [Bool.and_eq_true, Bool.and_eq_true, Bool.and_eq_true] at h
  exact ⟨h.1, has_sub (of_decide_eq_true h.2.1), h.2.2.1⟩
theorem may_not {k : Nat} {f : Frm} {l : List Ran} (h : mayF k f l = true → False) : mayF k f l = false := by
  cases hm : mayF k f l with
  | false => rfl
  | true => exact (h hm).elim
theorem may_great (k : Nat) (f : Frm) (l : List Ran) (j : Nat) (hj : j < 7) (h : 4611686018427387903 < nm f j) : mayF k f l = false :=
  may_not fun hm => by
    have := of_decide_eq_true (List.all_eq_true.1 (may_kind hm).2.2 j (List.mem_range.2 hj))
    omega
theorem may_num (k : Nat) (f : Frm) (l : List Ran) (j : Nat) (hj : j < 7) (h : nm f j ≠ 0) (hc : (shpN k).contains (chrN j) = false) : mayF k f l = false :=
  may_not fun hm => h ((may_kind hm).2.1.num j hj (by rw [← shp_bit k j (by omega)]; exact hc))
theorem may_none (k : Nat) (f : Frm) (l : List Ran) (h : (shpN k).isEmpty = true) : mayF k f l = false :=
  may_not fun hm => by
    have := (may_kind hm).1
    rw [shp_some, this] at h
    cases h
theorem may_fin (k : Nat) (f : Frm) (l : List Ran) (h : f.fin = true) (hc : (shpN k).contains 102 = false) : mayF k f l = false :=
  may_not fun hm => by
    have := (may_kind hm).2.1.fin (by rw [← shp_bit k 10 (by omega)]; exact hc)
    rw [h] at this
    cases this
theorem may_data (k : Nat) (f : Frm) (l : List Ran) (h : f.data ≠ []) (hc : (shpN k).contains 100 = false) : mayF k f l = false :=
  may_not fun hm => h ((may_kind hm).2.1.data (by rw [← shp_bit k 7 (by omega)]; exact hc))
theorem may_cid (k : Nat) (f : Frm) (l : List Ran) (h : f.cid ≠ []) (hc : (shpN k).contains 110 = false) : mayF k f l = false :=
  may_not fun hm => h ((may_kind hm).2.1.cid (by rw [← shp_bit k 8 (by omega)]; exact hc))
theorem may_token (k : Nat) (f : Frm) (l : List Ran) (h : f.token ≠ []) (hc : (shpN k).contains 116 = false) : mayF k f l = false :=
  may_not fun hm => h ((may_kind hm).2.1.token (by rw [← shp_bit k 9 (by omega)]; exact hc))
theorem may_set (k : Nat) (f : Frm) (l : List Ran) (h : f.set.n ≠ 0) (hc : (shpN k).contains 115 = false) : mayF k f l = false :=
  may_not fun hm => h ((may_kind hm).2.1.set (by rw [← shp_bit k 11 (by omega)]; exact hc))
/-- What of May is left when all parts are of the kind, and no number is too great. -/
theorem may_left (k : Nat) (f : Frm) (l : List Ran) (hn : ∀ j, j < 7 → nm f j ≤ 4611686018427387903) (hz : ∀ j, j < 7 → nm f j = 0 ∨ (shpN k).contains (chrN j) = true) (hs : (shpN k).isEmpty = false)
    (h10 : f.fin = false ∨ (shpN k).contains 102 = true) (h7 : f.data = [] ∨ (shpN k).contains 100 = true) (h8 : f.cid = [] ∨ (shpN k).contains 110 = true) (h9 : f.token = [] ∨ (shpN k).contains 116 = true) (h11 : f.set.n = 0 ∨ (shpN k).contains 115 = true) :
    mayF k f l = kndB f l := by
  have hb : ∀ j, j < 12 → ((partsN k).getD 0).testBit j = false → (shpN k).contains (chrN j) = true → False := fun j hj h1 h2 => by
    rw [shp_bit k j hj, h1] at h2
    cases h2
  have hsub : filN f &&& (partsN k).getD 0 = filN f := sub_has ⟨fun j hj hp => (hz j hj).resolve_right (hb j (by omega) hp), fun hp => h7.resolve_right (hb 7 (by decide) hp), fun hp => h8.resolve_right (hb 8 (by decide) hp), fun hp => h9.resolve_right (hb 9 (by decide) hp), fun hp => h10.resolve_right (hb 10 (by decide) hp), fun hp => h11.resolve_right (hb 11 (by decide) hp)⟩
  have hk : (partsN k).isSome = true := by
    have := shp_some k
    rw [hs] at this
    simpa using this
  unfold mayF bndB
  rw [hk, decide_eq_true hsub, numB_yes hn]
  simp
end
section
theorem take_has {l : List UInt8} {k : Nat} (h : k < l.length) (c : UInt8) : (l.take (k + 1)).contains c = ((l.take k).contains c || l[k] == c) := by
  rw [List.take_add_one, List.getElem?_eq_getElem h]
  simp only [Option.toList_some, List.contains_append, List.contains_cons, List.contains_nil, Bool.or_false]
  rw [Bool.beq_comm]
set_option maxHeartbeats 1000000 in
theorem in_any (l : List UInt8) (c : UInt8) (w : World) (hl : l.length ≤ 1000) : Calls Tryd.prog 42 #[.string ⟨l.toArray⟩, .int .u8 c.toNat] w fun e w' => e = .returned (.bool (l.contains c)) ∧ w' = w := by
  obtain ⟨n, hn⟩ : ∃ n, l.length = n := ⟨_, rfl⟩
  have HN := Lib.hid hn
  have hsz : (⟨l.toArray⟩ : ByteArray).size = n := hn
  have hn1 : n ≤ 1000 := by omega
  obtain ⟨R, hR⟩ : ∃ R, l.contains c = R := ⟨_, rfl⟩
  have HR := Lib.hid hR
  rw [hR]
  clear hR
  go_enter Tryd.func42, Tryd.ntmps42
  go_wp2
  go_loop [5] (fun i => ∃ k : Nat, k ≤ n ∧ i = .int .i64 k ∧ Hid ((l.take k).contains c = false)) (fun i => n - (intOf i).toNat)
  case atStart => exact ⟨0, Nat.zero_le _, rfl, Lib.hid rfl⟩
  case round =>
    obtain ⟨k, hk, rfl, hno⟩ := hrel
    by_cases hlt : k < n
    · have hk2 : k < l.length := by omega
      obtain ⟨b, hb⟩ : ∃ b, l[k] = b := ⟨_, rfl⟩
      have hbt := b.toNat_lt
      have hct := c.toNat_lt
      have hget : (⟨l.toArray⟩ : ByteArray)[k]'(by rw [hsz]; exact hlt) = b := hb
      have hs := take_has hk2 c
      rw [hno.out, hb, Bool.false_or] at hs
      by_cases hbc : b = c
      · have e1 : ((b.toNat : Int) == (c.toNat : Int)) = true := by rw [hbc]; simp
        have HY : Hid (R = true) := Lib.hid (by
          rw [← HR.out, List.contains_iff_mem]
          exact hbc ▸ hb ▸ List.getElem_mem hk2)
        clear hno hs hb
        go_wp2
        go_ret
        exact ⟨by rw [HY.out]; rfl, rfl⟩
      · have hne : b.toNat ≠ c.toNat := fun h => hbc (UInt8.toNat_inj.1 h)
        have e1 : ((b.toNat : Int) == (c.toNat : Int)) = false := beq_eq_false_iff_ne.2 (by omega)
        have HS : Hid ((l.take (k + 1)).contains c = false) := Lib.hid (by rw [hs]; exact beq_eq_false_iff_ne.2 hbc)
        clear hno hs hb hbc
        go_wp2
        go_round
        case rel => exact ⟨k + 1, by omega, by go_num, HS⟩
        case measure => simp [intOf]; omega
    · have HY : Hid (R = false) := Lib.hid (by
        have h2 := hno.out
        rwa [List.take_of_length_le (by omega), HR.out] at h2)
      clear hno
      go_wp2
      go_ret
      exact ⟨by rw [HY.out]; rfl, rfl⟩
set_option maxHeartbeats 1000000 in
theorem shape_0 (w : World) : Calls Tryd.prog 40 #[.int .u64 0] w fun e w' => e = .returned (.string ⟨#[45]⟩) ∧ w' = w := by
  go_enter Tryd.func40, Tryd.ntmps40
  go_wp2
  go_ret
  exact ⟨rfl, rfl⟩
set_option maxHeartbeats 1000000 in
theorem shape_1 (w : World) : Calls Tryd.prog 40 #[.int .u64 1] w fun e w' => e = .returned (.string ⟨#[45]⟩) ∧ w' = w := by
  go_enter Tryd.func40, Tryd.ntmps40
  go_wp2
  go_ret
  exact ⟨rfl, rfl⟩
set_option maxHeartbeats 1000000 in
theorem shape_2 (w : World) : Calls Tryd.prog 40 #[.int .u64 2] w fun e w' => e = .returned (.string ⟨#[101, 115]⟩) ∧ w' = w := by
  go_enter Tryd.func40, Tryd.ntmps40
  go_wp2
  go_ret
  exact ⟨rfl, rfl⟩
set_option maxHeartbeats 1000000 in
theorem shape_3 (w : World) : Calls Tryd.prog 40 #[.int .u64 3] w fun e w' => e = .returned (.string ⟨#[]⟩) ∧ w' = w := by
  go_enter Tryd.func40, Tryd.ntmps40
  go_wp2
  go_ret
  exact ⟨rfl, rfl⟩
set_option maxHeartbeats 1000000 in
theorem shape_4 (w : World) : Calls Tryd.prog 40 #[.int .u64 4] w fun e w' => e = .returned (.string ⟨#[105, 99, 109]⟩) ∧ w' = w := by
  go_enter Tryd.func40, Tryd.ntmps40
  go_wp2
  go_ret
  exact ⟨rfl, rfl⟩
set_option maxHeartbeats 1000000 in
theorem shape_5 (w : World) : Calls Tryd.prog 40 #[.int .u64 5] w fun e w' => e = .returned (.string ⟨#[105, 99]⟩) ∧ w' = w := by
  go_enter Tryd.func40, Tryd.ntmps40
  go_wp2
  go_ret
  exact ⟨rfl, rfl⟩
set_option maxHeartbeats 1000000 in
theorem shape_6 (w : World) : Calls Tryd.prog 40 #[.int .u64 6] w fun e w' => e = .returned (.string ⟨#[111, 100]⟩) ∧ w' = w := by
  go_enter Tryd.func40, Tryd.ntmps40
  go_wp2
  go_ret
  exact ⟨rfl, rfl⟩
set_option maxHeartbeats 1000000 in
theorem shape_7 (w : World) : Calls Tryd.prog 40 #[.int .u64 7] w fun e w' => e = .returned (.string ⟨#[]⟩) ∧ w' = w := by
  go_enter Tryd.func40, Tryd.ntmps40
  go_wp2
  go_ret
  exact ⟨rfl, rfl⟩
set_option maxHeartbeats 1000000 in
theorem shape_8 (w : World) : Calls Tryd.prog 40 #[.int .u64 8] w fun e w' => e = .returned (.string ⟨#[105, 111, 102, 100]⟩) ∧ w' = w := by
  go_enter Tryd.func40, Tryd.ntmps40
  go_wp2
  go_ret
  exact ⟨rfl, rfl⟩
set_option maxHeartbeats 1000000 in
theorem shape_9 (w : World) : Calls Tryd.prog 40 #[.int .u64 9] w fun e w' => e = .returned (.string ⟨#[]⟩) ∧ w' = w := by
  go_enter Tryd.func40, Tryd.ntmps40
  go_wp2
  go_ret
  exact ⟨rfl, rfl⟩
set_option maxHeartbeats 1000000 in
theorem shape_10 (w : World) : Calls Tryd.prog 40 #[.int .u64 10] w fun e w' => e = .returned (.string ⟨#[]⟩) ∧ w' = w := by
  go_enter Tryd.func40, Tryd.ntmps40
  go_wp2
  go_ret
  exact ⟨rfl, rfl⟩
set_option maxHeartbeats 1000000 in
theorem shape_11 (w : World) : Calls Tryd.prog 40 #[.int .u64 11] w fun e w' => e = .returned (.string ⟨#[]⟩) ∧ w' = w := by
  go_enter Tryd.func40, Tryd.ntmps40
  go_wp2
  go_ret
  exact ⟨rfl, rfl⟩
set_option maxHeartbeats 1000000 in
theorem shape_12 (w : World) : Calls Tryd.prog 40 #[.int .u64 12] w fun e w' => e = .returned (.string ⟨#[]⟩) ∧ w' = w := by
  go_enter Tryd.func40, Tryd.ntmps40
  go_wp2
  go_ret
  exact ⟨rfl, rfl⟩
set_option maxHeartbeats 1000000 in
theorem shape_13 (w : World) : Calls Tryd.prog 40 #[.int .u64 13] w fun e w' => e = .returned (.string ⟨#[]⟩) ∧ w' = w := by
  go_enter Tryd.func40, Tryd.ntmps40
  go_wp2
  go_ret
  exact ⟨rfl, rfl⟩
set_option maxHeartbeats 1000000 in
theorem shape_14 (w : World) : Calls Tryd.prog 40 #[.int .u64 14] w fun e w' => e = .returned (.string ⟨#[]⟩) ∧ w' = w := by
  go_enter Tryd.func40, Tryd.ntmps40
  go_wp2
  go_ret
  exact ⟨rfl, rfl⟩
set_option maxHeartbeats 1000000 in
theorem shape_15 (w : World) : Calls Tryd.prog 40 #[.int .u64 15] w fun e w' => e = .returned (.string ⟨#[]⟩) ∧ w' = w := by
  go_enter Tryd.func40, Tryd.ntmps40
  go_wp2
  go_ret
  exact ⟨rfl, rfl⟩
set_option maxHeartbeats 1000000 in
theorem shape_16 (w : World) : Calls Tryd.prog 40 #[.int .u64 16] w fun e w' => e = .returned (.string ⟨#[109]⟩) ∧ w' = w := by
  go_enter Tryd.func40, Tryd.ntmps40
  go_wp2
  go_ret
  exact ⟨rfl, rfl⟩
set_option maxHeartbeats 1000000 in
theorem shape_17 (w : World) : Calls Tryd.prog 40 #[.int .u64 17] w fun e w' => e = .returned (.string ⟨#[105, 109]⟩) ∧ w' = w := by
  go_enter Tryd.func40, Tryd.ntmps40
  go_wp2
  go_ret
  exact ⟨rfl, rfl⟩
set_option maxHeartbeats 1000000 in
theorem shape_18 (w : World) : Calls Tryd.prog 40 #[.int .u64 18] w fun e w' => e = .returned (.string ⟨#[109]⟩) ∧ w' = w := by
  go_enter Tryd.func40, Tryd.ntmps40
  go_wp2
  go_ret
  exact ⟨rfl, rfl⟩
set_option maxHeartbeats 1000000 in
theorem shape_19 (w : World) : Calls Tryd.prog 40 #[.int .u64 19] w fun e w' => e = .returned (.string ⟨#[109]⟩) ∧ w' = w := by
  go_enter Tryd.func40, Tryd.ntmps40
  go_wp2
  go_ret
  exact ⟨rfl, rfl⟩
set_option maxHeartbeats 1000000 in
theorem shape_20 (w : World) : Calls Tryd.prog 40 #[.int .u64 20] w fun e w' => e = .returned (.string ⟨#[109]⟩) ∧ w' = w := by
  go_enter Tryd.func40, Tryd.ntmps40
  go_wp2
  go_ret
  exact ⟨rfl, rfl⟩
set_option maxHeartbeats 1000000 in
theorem shape_21 (w : World) : Calls Tryd.prog 40 #[.int .u64 21] w fun e w' => e = .returned (.string ⟨#[105, 109]⟩) ∧ w' = w := by
  go_enter Tryd.func40, Tryd.ntmps40
  go_wp2
  go_ret
  exact ⟨rfl, rfl⟩
set_option maxHeartbeats 1000000 in
theorem shape_22 (w : World) : Calls Tryd.prog 40 #[.int .u64 22] w fun e w' => e = .returned (.string ⟨#[109]⟩) ∧ w' = w := by
  go_enter Tryd.func40, Tryd.ntmps40
  go_wp2
  go_ret
  exact ⟨rfl, rfl⟩
set_option maxHeartbeats 1000000 in
theorem shape_23 (w : World) : Calls Tryd.prog 40 #[.int .u64 23] w fun e w' => e = .returned (.string ⟨#[109]⟩) ∧ w' = w := by
  go_enter Tryd.func40, Tryd.ntmps40
  go_wp2
  go_ret
  exact ⟨rfl, rfl⟩
set_option maxHeartbeats 1000000 in
theorem shape_24 (w : World) : Calls Tryd.prog 40 #[.int .u64 24] w fun e w' => e = .returned (.string ⟨#[113, 112, 110, 116]⟩) ∧ w' = w := by
  go_enter Tryd.func40, Tryd.ntmps40
  go_wp2
  go_ret
  exact ⟨rfl, rfl⟩
set_option maxHeartbeats 1000000 in
theorem shape_25 (w : World) : Calls Tryd.prog 40 #[.int .u64 25] w fun e w' => e = .returned (.string ⟨#[113]⟩) ∧ w' = w := by
  go_enter Tryd.func40, Tryd.ntmps40
  go_wp2
  go_ret
  exact ⟨rfl, rfl⟩
set_option maxHeartbeats 1000000 in
theorem shape_26 (w : World) : Calls Tryd.prog 40 #[.int .u64 26] w fun e w' => e = .returned (.string ⟨#[116]⟩) ∧ w' = w := by
  go_enter Tryd.func40, Tryd.ntmps40
  go_wp2
  go_ret
  exact ⟨rfl, rfl⟩
set_option maxHeartbeats 1000000 in
theorem shape_27 (w : World) : Calls Tryd.prog 40 #[.int .u64 27] w fun e w' => e = .returned (.string ⟨#[116]⟩) ∧ w' = w := by
  go_enter Tryd.func40, Tryd.ntmps40
  go_wp2
  go_ret
  exact ⟨rfl, rfl⟩
set_option maxHeartbeats 1000000 in
theorem shape_28 (w : World) : Calls Tryd.prog 40 #[.int .u64 28] w fun e w' => e = .returned (.string ⟨#[99, 101, 100]⟩) ∧ w' = w := by
  go_enter Tryd.func40, Tryd.ntmps40
  go_wp2
  go_ret
  exact ⟨rfl, rfl⟩
set_option maxHeartbeats 1000000 in
theorem shape_29 (w : World) : Calls Tryd.prog 40 #[.int .u64 29] w fun e w' => e = .returned (.string ⟨#[99, 100]⟩) ∧ w' = w := by
  go_enter Tryd.func40, Tryd.ntmps40
  go_wp2
  go_ret
  exact ⟨rfl, rfl⟩
set_option maxHeartbeats 1000000 in
theorem shape_30 (w : World) : Calls Tryd.prog 40 #[.int .u64 30] w fun e w' => e = .returned (.string ⟨#[45]⟩) ∧ w' = w := by
  go_enter Tryd.func40, Tryd.ntmps40
  go_wp2
  go_ret
  exact ⟨rfl, rfl⟩
set_option maxHeartbeats 2000000 in
theorem shape_big (n : Int) (h : 31 ≤ n) (w : World) : Calls Tryd.prog 40 #[.int .u64 n] w fun e w' => e = .returned (.string ⟨#[]⟩) ∧ w' = w := by
  have e0 : (n == 0) = false := beq_eq_false_iff_ne.2 (by omega)
  have e1 : (n == 1) = false := beq_eq_false_iff_ne.2 (by omega)
  have e2 : (n == 2) = false := beq_eq_false_iff_ne.2 (by omega)
  have e4 : (n == 4) = false := beq_eq_false_iff_ne.2 (by omega)
  have e5 : (n == 5) = false := beq_eq_false_iff_ne.2 (by omega)
  have e6 : (n == 6) = false := beq_eq_false_iff_ne.2 (by omega)
  have e8 : (n == 8) = false := beq_eq_false_iff_ne.2 (by omega)
  have e16 : (n == 16) = false := beq_eq_false_iff_ne.2 (by omega)
  have e17 : (n == 17) = false := beq_eq_false_iff_ne.2 (by omega)
  have e18 : (n == 18) = false := beq_eq_false_iff_ne.2 (by omega)
  have e19 : (n == 19) = false := beq_eq_false_iff_ne.2 (by omega)
  have e20 : (n == 20) = false := beq_eq_false_iff_ne.2 (by omega)
  have e21 : (n == 21) = false := beq_eq_false_iff_ne.2 (by omega)
  have e22 : (n == 22) = false := beq_eq_false_iff_ne.2 (by omega)
  have e23 : (n == 23) = false := beq_eq_false_iff_ne.2 (by omega)
  have e24 : (n == 24) = false := beq_eq_false_iff_ne.2 (by omega)
  have e25 : (n == 25) = false := beq_eq_false_iff_ne.2 (by omega)
  have e26 : (n == 26) = false := beq_eq_false_iff_ne.2 (by omega)
  have e27 : (n == 27) = false := beq_eq_false_iff_ne.2 (by omega)
  have e28 : (n == 28) = false := beq_eq_false_iff_ne.2 (by omega)
  have e29 : (n == 29) = false := beq_eq_false_iff_ne.2 (by omega)
  have e30 : (n == 30) = false := beq_eq_false_iff_ne.2 (by omega)
  clear h
  go_enter Tryd.func40, Tryd.ntmps40
  go_wp2
  go_ret
  exact ⟨rfl, rfl⟩
theorem shape_any (k : Nat) (w : World) : Calls Tryd.prog 40 #[.int .u64 (k : Nat)] w fun e w' => e = .returned (.string ⟨(shpN k).toArray⟩) ∧ w' = w := by
  match k with
  | 0 => exact shape_0 w
  | 1 => exact shape_1 w
  | 2 => exact shape_2 w
  | 3 => exact shape_3 w
  | 4 => exact shape_4 w
  | 5 => exact shape_5 w
  | 6 => exact shape_6 w
  | 7 => exact shape_7 w
  | 8 => exact shape_8 w
  | 9 => exact shape_9 w
  | 10 => exact shape_10 w
  | 11 => exact shape_11 w
  | 12 => exact shape_12 w
  | 13 => exact shape_13 w
  | 14 => exact shape_14 w
  | 15 => exact shape_15 w
  | 16 => exact shape_16 w
  | 17 => exact shape_17 w
  | 18 => exact shape_18 w
  | 19 => exact shape_19 w
  | 20 => exact shape_20 w
  | 21 => exact shape_21 w
  | 22 => exact shape_22 w
  | 23 => exact shape_23 w
  | 24 => exact shape_24 w
  | 25 => exact shape_25 w
  | 26 => exact shape_26 w
  | 27 => exact shape_27 w
  | 28 => exact shape_28 w
  | 29 => exact shape_29 w
  | 30 => exact shape_30 w
  | k + 31 =>
    rw [shp_big (by omega)]
    exact shape_big _ (by omega) w
set_option maxHeartbeats 1000000 in
theorem rmay_nil (a : Option Addr) (cap : Nat) (w : World) : Calls Tryd.prog 43 #[.slice a 0 cap] w fun e w' => e = .returned (.bool true) ∧ Below w.heap.size w w' := by
  go_enter Tryd.func43, Tryd.ntmps43
  go_wp2
  refine wp_loop_rounds 1 ?_
  rw [rounds_succ]
  go_wp2
  go_ret
  exact ⟨rfl, Below.refl _ _⟩

set_option maxHeartbeats 4000000 in
theorem rmay_row (b off n cap : Nat) (l : List Ran) (hln : l.length = n) (hl : n ≤ 1000) (w : World)
    (hc : ∀ i, i < n → w.cell? ⟨b, off + i * 2, none⟩ = some (.int .u64 (l.getD i (0, 0)).1) ∧ w.cell? ⟨b, off + i * 2 + 1, none⟩ = some (.int .u64 (l.getD i (0, 0)).2))
    (hu : ∀ x ∈ l, 0 ≤ x.1 ∧ 0 ≤ x.2) :
    Calls Tryd.prog 43 #[.slice (some ⟨b, off, none⟩) n cap] w fun e w' => e = .returned (.bool (mayB l)) ∧ Below w.heap.size w w' := by
  have HC := Lib.hid hc
  have HU := Lib.hid hu
  clear hc hu
  go_enter Tryd.func43, Tryd.ntmps43
  go_wp2
  go_loopw [3] (fun iv wr => ∃ k m : Nat, k ≤ n ∧ iv = .int .i64 k ∧ Hid (MayTo l k) ∧ wr = w.drewN m) (fun iv _ => n - (intOf iv).toNat)
  case atStart => exact ⟨0, 0, Nat.zero_le _, rfl, Lib.hid (fun i hi => by omega), rfl⟩
  case round =>
    obtain ⟨k, m, hk, rfl, HM, rfl⟩ := hrel
    by_cases hlt : k < n
    · obtain ⟨hc1, hc2⟩ := HC.out k hlt
      have hux := HU.out (l.getD k (0, 0)) (by rw [getD_get (by omega)]; exact List.getElem_mem _)
      have hux1 := hux.1
      have hux2 := hux.2
      obtain ⟨x, hx⟩ : ∃ x, l.getD k (0, 0) = x := ⟨_, rfl⟩
      rw [hx] at hc1 hc2 hux1 hux2
      have HX := Lib.hid hx
      have hcp : 0 < k → w.cell? ⟨b, off + (k - 1) * 2 + 1, none⟩ = some (.int .u64 (l.getD (k - 1) (0, 0)).2) := fun h => (HC.out (k - 1) (by omega)).2
      have hpp : 0 < k → 0 ≤ (l.getD (k - 1) (0, 0)).2 ∧ (l.getD (k - 1) (0, 0)).2 < 9223372036854775808 := fun h => ⟨(HU.out (l.getD (k - 1) (0, 0)) (by rw [getD_get (by omega)]; exact List.getElem_mem _)).2, (HM.out (k - 1) (by omega)).2.1⟩
      obtain ⟨lo, hi⟩ := x
      simp only at hc1 hc2 hux1 hux2
      have HNO : Hid (¬ (lo ≤ hi ∧ hi < 9223372036854775808 ∧ (0 < k → (l.getD (k - 1) (0, 0)).2 + 2 ≤ lo)) → mayB l = false) := Lib.hid (fun h => mayB_no (fun hm => h (by have := hm k (by omega); rw [HX.out] at this; exact this)))
      have HYES : Hid (lo ≤ hi → hi < 9223372036854775808 → (0 < k → (l.getD (k - 1) (0, 0)).2 + 2 ≤ lo) → MayTo l (k + 1)) := Lib.hid (fun h1 h2 h3 => mayTo_succ HM.out HX.out h1 h2 h3)
      have hi0 : (0 : Int) ≤ (k : Int) := by omega
      have hi1 : (k : Int) < (n : Int) := by omega
      clear hx hux
      by_cases hok : hi < lo
      · have d1 : decide (hi < lo) = true := decide_eq_true hok
        have hn := Lib.hid (HNO.out (fun h => by omega))
        clear hcp hpp
        go_wp2_with fail
        go_quiet (fail)
        go_wp2
        go_ret
        exact ⟨by rw [hn.out]; rfl, below_drewN (below_drewN (Below.refl _ _) _) _⟩
      · have d1 : decide (hi < lo) = false := decide_eq_false hok
        by_cases hbig : 9223372036854775808 ≤ hi
        · have hn := Lib.hid (HNO.out (fun h => by omega))
          have d2 : decide (9223372036854775808 ≤ hi) = true := decide_eq_true hbig
          clear hcp hpp
          go_wp2_with fail
          go_quiet (fail)
          go_wp2
          go_ret
          exact ⟨by rw [hn.out]; rfl, below_drewN (below_drewN (Below.refl _ _) _) _⟩
        · have d2 : decide (9223372036854775808 ≤ hi) = false := decide_eq_false hbig
          rcases Nat.eq_zero_or_pos k with hk0 | hk0
          · have hy := Lib.hid (HYES.out (by omega) (by omega) (fun h => by omega))
            have d4 : decide (0 < k) = false := decide_eq_false (by omega)
            have HK0 := Lib.hid hk0
            clear hcp hpp hk0
            go_wp2_with fail
            go_quiet (fail)
            go_wp2
            go_roundw
            case rel => exact ⟨k + 1, _, by omega, by go_num, hy, rfl⟩
            case measure => simp [intOf]; omega
          · obtain ⟨j, rfl⟩ : ∃ j, k = j + 1 := ⟨k - 1, by omega⟩
            have hcr := hcp hk0
            have hpr := hpp hk0
            clear hcp hpp
            rw [show j + 1 - 1 = j by omega] at *
            generalize (l.getD j (0, 0)).2 = p at *
            by_cases hgap : lo < p + 2
            · have d3 : decide (lo < p + 2) = true := decide_eq_true hgap
              have hn := Lib.hid (HNO.out (fun h => by have := h.2.2 (by omega); omega))
              go_wp2_with fail
              go_quiet (fail)
              go_wp2
              go_ret
              exact ⟨by rw [hn.out]; rfl, below_drewN (below_drewN (Below.refl _ _) _) _⟩
            · have d3 : decide (lo < p + 2) = false := decide_eq_false hgap
              have hy := Lib.hid (HYES.out (by omega) (by omega) (fun h => by omega))
              go_wp2_with fail
              go_quiet (fail)
              go_wp2
              go_roundw
              case rel => exact ⟨j + 1 + 1, _, by omega, by go_num, hy, rfl⟩
              case measure => simp [intOf]; omega
    · obtain rfl : k = n := by omega
      have hy := Lib.hid (mayB_yes (l := l) (fun i hi => HM.out i (by omega)))
      go_wp2
      go_ret
      exact ⟨by rw [hy.out]; rfl, below_drewN (Below.refl _ _) _⟩
theorem rmay_any (v : Value) (l : List Ran) (w : World) (hl : l.length ≤ 1000) (hrd : Rd w v l) (hu : ∀ x ∈ l, 0 ≤ x.1 ∧ 0 ≤ x.2) :
    Calls Tryd.prog 43 #[v] w fun e w' => e = .returned (.bool (mayB l)) ∧ Below w.heap.size w w' := by
  obtain ⟨a, cap, rfl, hcap, hrow⟩ := hrd
  by_cases hnil : l = []
  · subst hnil
    refine (rmay_nil a cap w).mono ?_
    rintro e w' ⟨rfl, hb⟩
    exact ⟨by rw [mayB_yes (fun i hi => by simp at hi)], hb⟩
  · obtain ⟨b, off, rfl, hc⟩ := hrow hnil
    exact rmay_row b off l.length cap l rfl hl w hc hu
end
end Go.Proofs.YtfeecfdbncjmnaaDoor.Fm
