/- The walks of layer 10: what is opened, by the program. By hand. -/
import Derived.Test.YtffjnfoleofffaaIdE
namespace Go.Proofs.Ytffjnfoleofffaa.Id
open Go.RowKit Vm
set_option linter.unusedVariables false
set_option linter.unusedSimpArgs false

/-- Has an entry just these bytes, and was it sealed by another one? -/
def sel (to : Int) (b : ByteArray) (e : Ent) : Bool := decide (e.bytes = b) && decide (e.fr ≠ to)
theorem sel_bytes {to : Int} {b : ByteArray} {e : Ent} (h : e.bytes ≠ b) : sel to b e = false := by simp [sel, h]
theorem sel_fr {to : Int} {b : ByteArray} {e : Ent} (h : e.bytes = b) : sel to b e = decide (e.fr ≠ to) := by simp [sel, h]
theorem toList_ne {a b : ByteArray} (h : a ≠ b) : (a.toList == b.toList) = false := by
  rw [beq_eq_false_iff_ne, ByteArray.toList_eq, ByteArray.toList_eq]
  exact fun he => h (ByteArray.ext (Array.ext' he))
theorem toList_eq' {a b : ByteArray} (h : a = b) : (a.toList == b.toList) = true := by
  subst h; simp
set_option maxHeartbeats 1000000 in
theorem open1_any (e : Ent) (to : Int) (b : ByteArray) (p1 p2 : Addr) (w : World) (c1 : w.cell? p1 = some (.string b)) (c2 : w.cell? p2 = some (.int .i64 to)) :
    Calls Try.prog 32 #[.agg #[.int .i64 e.fr, .int .u64 e.num, .string e.bytes, .string e.plain], .pointer (some p1), .pointer (some p2)] w fun r w' => r = .returned (.bool (sel to b e)) ∧ Below w.heap.size w w' := by
  have l1 := World.block_lt_of_cell? _ _ c1
  have l2 := World.block_lt_of_cell? _ _ c2
  obtain ⟨fr, num, bytes, plain⟩ := e
  have C1 : Hid ((w.alloc (.cells #[.int .i64 fr, .int .u64 num, .string bytes, .string plain] 64)).cell? p1 = some (.string b)) := Lib.hid (((Below.refl _ w).alloc (Nat.le_refl _) _).cell l1 |>.trans c1)
  have C2 : Hid ((w.alloc (.cells #[.int .i64 fr, .int .u64 num, .string bytes, .string plain] 64)).cell? p2 = some (.int .i64 to)) := Lib.hid (((Below.refl _ w).alloc (Nat.le_refl _) _).cell l2 |>.trans c2)
  clear l1 l2 c1 c2
  by_cases hb : bytes = b
  · have hs := sel_fr (to := to) (b := b) (e := ⟨fr, num, bytes, plain⟩) hb
    have ht := toList_eq' hb
    by_cases hf : fr = to
    · have hs2 : sel to b ⟨fr, num, bytes, plain⟩ = false := by rw [hs]; simp [hf]
      have hfb : (fr != to) = false := by simp [hf]
      rw [hs2]
      clear hs hs2 hb hf
      have c1 := C1.out
      have c2 := C2.out
      go_enter Try.func32, Try.ntmps32
      go_wp2
      go_ret
      exact ⟨rfl, (Below.refl _ _).alloc (Nat.le_refl _) _⟩
    · have hs2 : sel to b ⟨fr, num, bytes, plain⟩ = true := by rw [hs]; simp [hf]
      have hfb : (fr != to) = true := by simp [hf]
      rw [hs2]
      clear hs hs2 hb hf
      have c1 := C1.out
      have c2 := C2.out
      go_enter Try.func32, Try.ntmps32
      go_wp2
      go_ret
      exact ⟨rfl, (Below.refl _ _).alloc (Nat.le_refl _) _⟩
  · have hs := sel_bytes (to := to) (b := b) (e := ⟨fr, num, bytes, plain⟩) hb
    have ht := toList_ne hb
    rw [hs]
    clear hs hb
    have c1 := C1.out
    have c2 := C2.out
    go_enter Try.func32, Try.ntmps32
    go_wp2
    go_ret
    exact ⟨rfl, (Below.refl _ _).alloc (Nat.le_refl _) _⟩
/-- Where the first entry lies that is looked for. -/
def ixs (to : Int) (b : ByteArray) (G : List Ent) : Int := match G.findIdx? (sel to b) with | some k => (k : Int) | none => -1
theorem ixs_some {to : Int} {b : ByteArray} {G : List Ent} {k : Nat} (hk : k < G.length) (h : sel to b (G.getD k eZ) = true) (hl : ∀ j, j < k → sel to b (G.getD j eZ) = false) : ixs to b G = (k : Int) := by
  unfold ixs
  have : G.findIdx? (sel to b) = some k := by
    rw [List.findIdx?_eq_some_iff_getElem]
    refine ⟨hk, ?_, fun j hj => ?_⟩
    · have e : G.getD k eZ = G[k] := by simp [List.getD, hk]
      rwa [e] at h
    · have e : G.getD j eZ = G[j] := by simp [List.getD, show j < G.length by omega]
      have := hl j hj
      rw [e] at this
      simp [this]
  rw [this]
theorem ixs_none {to : Int} {b : ByteArray} {G : List Ent} (hl : ∀ j, j < G.length → sel to b (G.getD j eZ) = false) : ixs to b G = -1 := by
  unfold ixs
  have : G.findIdx? (sel to b) = none := by
    rw [List.findIdx?_eq_none_iff]
    intro x hx
    obtain ⟨j, hj, rfl⟩ := List.getElem_of_mem hx
    have e : G.getD j eZ = G[j] := by simp [List.getD, hj]
    rw [← e]
    exact hl j hj
  rw [this]
set_option maxHeartbeats 2000000 in
theorem index_any (to : Int) (b : ByteArray) (p1 p2 : Addr) (v : Value) (G : List Ent) (w : World) (hr : RowE w v G) (hG : G.length ≤ 1000) (c1 : w.cell? p1 = some (.string b)) (c2 : w.cell? p2 = some (.int .i64 to)) :
    Calls Try.prog 31 #[v, .func (.func 32) #[] #[.pointer (some p1), .pointer (some p2)]] w fun r w' => r = .returned (.int .i64 (ixs to b G)) ∧ Below w.heap.size w w' := by
  have l1 := World.block_lt_of_cell? _ _ c1
  have l2 := World.block_lt_of_cell? _ _ c2
  obtain ⟨a, cap, rfl, hcap, hrow⟩ := hr
  obtain ⟨n, hn⟩ : ∃ n, G.length = n := ⟨_, rfl⟩
  have HR : Hid (∀ i, i < n → ∃ g off, a = some ⟨g, off, none⟩ ∧ ∀ V, Below w.heap.size w V → V.cell? ⟨g, off + i * 4, none⟩ = some (.int .i64 (G.getD i eZ).fr) ∧ V.cell? ⟨g, off + i * 4 + 1, none⟩ = some (.int .u64 (G.getD i eZ).num) ∧ V.cell? ⟨g, off + i * 4 + 2, none⟩ = some (.string (G.getD i eZ).bytes) ∧ V.cell? ⟨g, off + i * 4 + 3, none⟩ = some (.string (G.getD i eZ).plain)) := Lib.hid (fun i hi => by
    obtain ⟨g, off, ha, hg, hc⟩ := hrow (fun h => by rw [h] at hn; simp at hn; omega)
    refine ⟨g, off, ha, fun V hV => ?_⟩
    have hh := fun j hj => (hV.cell (p := ⟨g, off + (i * 4 + j), none⟩) hg).trans (hc i (by omega) j hj)
    exact ⟨hh 0 (by decide), by rw [Nat.add_assoc]; exact hh 1 (by decide), by rw [Nat.add_assoc]; exact hh 2 (by decide), by rw [Nat.add_assoc]; exact hh 3 (by decide)⟩)
  have HC : Hid (∀ (e : Ent) (V : World), Below w.heap.size w V → Calls Try.prog 32 #[.agg #[.int .i64 e.fr, .int .u64 e.num, .string e.bytes, .string e.plain], .pointer (some p1), .pointer (some p2)] V fun r w' => r = .returned (.bool (sel to b e)) ∧ Below V.heap.size V w') := Lib.hid (fun e V hV => open1_any e to b p1 p2 V ((hV.cell l1).trans c1) ((hV.cell l2).trans c2))
  have HN := Lib.hid hn
  have hn0 : (n : Int) ≤ 1000 := by omega
  rw [hn] at hcap ⊢
  clear l1 l2 c1 c2 hrow hn hG
  go_enter Try.func31, Try.ntmps31
  go_wp2
  go_loopw [8] (fun iv wr => ∃ i : Nat, i ≤ n ∧ iv = .int .i64 (i : Nat) ∧ (∀ j, j < i → sel to b (G.getD j eZ) = false) ∧ Below w.heap.size w wr) (fun iv _ => n - (intOf iv).toNat)
  case atStart => exact ⟨0, Nat.zero_le _, rfl, fun j hj => by omega, Below.refl _ _⟩
  case round =>
    obtain ⟨i, hi, rfl, hno, hb⟩ := hrel
    have HB := Lib.hid hb
    have HNO := Lib.hid hno
    clear hb hno
    have hi0 : (0 : Int) ≤ (i : Int) := by omega
    by_cases hin : (i : Int) < (n : Int)
    · have hin2 : i < n := by omega
      obtain ⟨g, off, rfl, hc⟩ := HR.out i hin2
      obtain ⟨e0, e1, e2, e3⟩ := hc wr HB.out
      have CC := Lib.hid (HC.out (G.getD i eZ) wr HB.out)
      clear hc
      obtain ⟨x, hx⟩ : ∃ x, G.getD i eZ = x := ⟨_, rfl⟩
      rw [hx] at CC e0 e1 e2 e3
      have HX := Lib.hid hx
      clear hx
      obtain ⟨sl, hsl⟩ : ∃ s, sel to b x = s := ⟨_, rfl⟩
      have HS := Lib.hid hsl
      rw [hsl] at CC
      clear hsl
      cases sl with
      | true =>
        go_wp2_with fail
        with_reducible refine (CC.out).mono ?_
        rintro r w1 ⟨rfl, hb⟩
        have HB1 := Lib.hid (HB.out.trans (hb.mono HB.out.size))
        clear hb
        go_wp2_with fail
        go_ret
        refine ⟨?_, HB1.out⟩
        rw [ixs_some (k := i) (by have := HN.out; omega) (by rw [HX.out]; exact HS.out) HNO.out]
        rfl
      | false =>
        go_wp2_with fail
        with_reducible refine (CC.out).mono ?_
        rintro r w1 ⟨rfl, hb⟩
        have HB1 := Lib.hid (HB.out.trans (hb.mono HB.out.size))
        clear hb
        go_wp2_with fail
        go_roundw
        case rel =>
          refine ⟨i + 1, by omega, by go_num, fun j hj => ?_, HB1.out⟩
          by_cases hji : j < i
          · exact HNO.out j hji
          · obtain rfl : j = i := by omega
            rw [HX.out]; exact HS.out
        case measure => simp [intOf]; omega
    · obtain rfl : i = n := by omega
      go_wp2
      go_ret
      refine ⟨?_, HB.out⟩
      rw [ixs_none (fun j hj => HNO.out j (by have := HN.out; omega))]
      rfl
/-- What is opened: the first entry that is looked for. -/
def opn (to : Int) (b : ByteArray) (G : List Ent) : Option Ent := G.find? (sel to b)
def opnV (o : Option Ent) : Value := match o with | some e => .tuple #[.int .u64 e.num, .string e.plain, .bool true] | none => .tuple #[.int .u64 0, .string ⟨#[]⟩, .bool false]
theorem opn_of {to : Int} {b : ByteArray} {G : List Ent} : (ixs to b G = -1 ∧ opn to b G = none) ∨ (∃ k, k < G.length ∧ ixs to b G = (k : Int) ∧ opn to b G = some (G.getD k eZ)) := by
  unfold ixs opn
  cases h : G.findIdx? (sel to b) with
  | none =>
    left
    refine ⟨rfl, ?_⟩
    rw [List.findIdx?_eq_none_iff] at h
    rw [List.find?_eq_none]
    intro x hx
    rw [h x hx]; decide
  | some k =>
    right
    rw [List.findIdx?_eq_some_iff_getElem] at h
    obtain ⟨hk, h1, h2⟩ := h
    refine ⟨k, hk, rfl, ?_⟩
    have e : G.getD k eZ = G[k] := by simp [List.getD, hk]
    rw [e, List.find?_eq_some_iff_getElem]
    exact ⟨h1, k, hk, rfl, fun j hj => by have := h2 j hj; simpa using this⟩
theorem opn_some {to : Int} {b : ByteArray} {G : List Ent} {e : Ent} (h : opn to b G = some e) : opnV (opn to b G) = .tuple #[.int .u64 e.num, .string e.plain, .bool true] := by rw [h]; rfl
theorem opn_none {to : Int} {b : ByteArray} {G : List Ent} (h : opn to b G = none) : opnV (opn to b G) = .tuple #[.int .u64 0, .string ⟨#[]⟩, .bool false] := by rw [h]; rfl
set_option maxHeartbeats 4000000 in
theorem open_any (sd nx : Int) (v : Value) (G : List Ent) (to : Int) (b : ByteArray) (w : World) (hr : RowE w v G) (hG : G.length ≤ 1000) :
    Calls Try.prog 23 #[.agg #[.int .u64 sd, .int .u64 nx, v], .int .i64 to, .string b] w fun r w' => r = .returned (opnV (opn to b G)) ∧ Below w.heap.size w w' := by
  obtain ⟨a, cap, rfl, hcap, hrow⟩ := id hr
  have HW0 := Lib.hid ((((Below.refl w.heap.size w).alloc (Nat.le_refl _) (.cells #[.int .u64 sd, .int .u64 nx, .slice a G.length cap] 31)).alloc (by simp) (.cells #[.int .i64 to] 3)).alloc (by simp; omega) (.cells #[.string b] 9))
  have hb0 : (((w.alloc (.cells #[.int .u64 sd, .int .u64 nx, .slice a G.length cap] 31)).alloc (.cells #[.int .i64 to] 3)).alloc (.cells #[.string b] 9)).cell? ⟨w.heap.size, 2, none⟩ = some (.slice a G.length cap) := by simp [go_sem]
  have CI := Lib.hid (index_any to b ⟨w.heap.size + 1 + 1, 0, none⟩ ⟨w.heap.size + 1, 0, none⟩ (.slice a G.length cap) G (((w.alloc (.cells #[.int .u64 sd, .int .u64 nx, .slice a G.length cap] 31)).alloc (.cells #[.int .i64 to] 3)).alloc (.cells #[.string b] 9)) (hr.go HW0.out) hG (by simp [go_sem]) (by simp [go_sem]))
  obtain ⟨n, hn⟩ : ∃ n, G.length = n := ⟨_, rfl⟩
  rw [hn] at hcap hb0 CI HW0 hG ⊢
  have HB0 := Lib.hid hb0
  have HRG := Lib.hid hrow
  have HN := Lib.hid hn
  have hn0 : (n : Int) ≤ 1000 := by omega
  clear hb0 hr hrow hn
  rcases opn_of (to := to) (b := b) (G := G) with ⟨hi, ho⟩ | ⟨k, hk, hi, ho⟩
  · rw [hi] at CI
    rw [opn_none ho]
    clear hi ho
    go_enter Try.func23, Try.ntmps23
    go_wp2_with fail
    with_reducible refine (CI.out).mono ?_
    rintro r w1 ⟨rfl, hb⟩
    have HB1 := Lib.hid (HW0.out.trans (hb.mono (by simp; omega)))
    clear hb
    go_wp2_with fail
    refine bodyPost_ret (results_tmp3 Try.results23 _ _ _) rfl ?_
    exact ⟨rfl, HB1.out⟩
  · rw [hi] at CI
    rw [opn_some ho]
    have hkn : k < n := by have := HN.out; omega
    obtain ⟨g, off, rfl, hg, hc⟩ := HRG.out (fun h => by rw [h] at hk; simp at hk)
    have hh := fun j hj => hc k hk j hj
    obtain ⟨x, hx⟩ : ∃ x, G.getD k eZ = x := ⟨_, rfl⟩
    rw [hx] at hh ⊢
    have e1 : w.cell? ⟨g, off + k * 4 + 1, none⟩ = some (.int .u64 x.num) := by rw [Nat.add_assoc]; exact hh 1 (by decide)
    have e3 : w.cell? ⟨g, off + k * 4 + 3, none⟩ = some (.string x.plain) := by rw [Nat.add_assoc]; exact hh 3 (by decide)
    have E1 := Lib.hid e1
    have E3 := Lib.hid e3
    have hkI : (k : Int) < (n : Int) := by omega
    have hk0 : ¬ (k : Int) < 0 := by omega
    have hk1 : (0 : Int) ≤ (k : Int) := by omega
    clear hi ho hc hh hx e1 e3 hk
    go_enter Try.func23, Try.ntmps23
    go_wp2_with fail
    with_reducible refine (CI.out).mono ?_
    rintro r w1 ⟨rfl, hb⟩
    have HB1 := Lib.hid (HW0.out.trans (hb.mono (by simp; omega)))
    have c2 := (hb.cell (p := ⟨w.heap.size, 2, none⟩) (by simp; omega)).trans HB0.out
    have e1 := (HB1.out.cell (p := ⟨g, off + k * 4 + 1, none⟩) hg).trans E1.out
    have e3 := (HB1.out.cell (p := ⟨g, off + k * 4 + 3, none⟩) hg).trans E3.out
    clear hb
    go_wp2_with fail
    go_quiet (fail)
    go_wp2_with fail
    refine bodyPost_ret (results_tmp3 Try.results23 _ _ _) rfl ?_
    exact ⟨rfl, HB1.out.trans (below_drewN (Below.refl _ _) _)⟩
end Go.Proofs.Ytffjnfoleofffaa.Id
