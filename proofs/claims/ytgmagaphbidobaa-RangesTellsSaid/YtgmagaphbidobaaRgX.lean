/- The walks of layer 3's document functions Of, Gaps, Meet. -/
import Derived.Test.YtgmagaphbidobaaRgC
namespace Go.Proofs.Ytgmagaphbidobaa.Rg
open Go.RowKit Go.Shelf
set_option linter.unusedVariables false

theorem below_drew {n : Nat} {w w' : World} (h : Below n w w') : Below n w w'.drew := below_drewN h 1
theorem rd_none (w : World) (a : Option Addr) (cap : Nat) : Rd w (.slice a 0 cap) [] := ⟨_, _, rfl, Nat.zero_le _, fun h => absurd rfl h⟩
theorem mem_take_succ {l : List Ran} {k : Nat} (h : k < l.length) {x : Ran} (hx : l.getD k (0, 0) = x) (m : Int) : mem (l.take (k + 1)) m ↔ mem (l.take k) m ∨ inn x m := by
  rw [take_succ_getD l (0, 0) h, mem_append, hx, mem_single]

def OfR (l : List Ran) (w : World) (n : Nat) (sv iv : Value) (wr : World) : Prop :=
  ∃ (k : Nat) (out : List Ran), k ≤ n ∧ iv = .int .i64 k ∧ Hid (Can out) ∧ Hid (∀ m, mem out m ↔ mem (l.take k) m) ∧ out.length ≤ k ∧ Hid (Rd wr sv out) ∧ Hid (Below w.heap.size w wr)
set_option maxHeartbeats 4000000 in
theorem rof_row (a : Option Addr) (n cap : Nat) (l : List Ran) (hln : l.length = n) (hl : n ≤ 1000) (hg : ∀ x ∈ l, 0 ≤ x.1 ∧ x.2 < 9223372036854775808) (w : World)
    (hc : ∀ i, i < n → ∃ b off, a = some ⟨b, off, none⟩ ∧ b < w.heap.size ∧ w.cell? ⟨b, off + i * 2, none⟩ = some (.int .u64 (l.getD i (0, 0)).1) ∧ w.cell? ⟨b, off + i * 2 + 1, none⟩ = some (.int .u64 (l.getD i (0, 0)).2)) :
    Gives 7 #[.slice a n cap] w (mem l) n := by
  unfold Gives
  have HC := Lib.hid hc
  have HG := Lib.hid hg
  clear hc hg
  go_enter Try.func7, Try.ntmps7
  go_wp2
  go_loopw [3, 4] (fun sv iv wr => OfR l w n sv iv wr) (fun _ iv _ => n - (intOf iv).toNat)
  case atStart => exact ⟨0, [], Nat.zero_le _, rfl, Lib.hid Can.nil, Lib.hid (fun m => Iff.rfl), Nat.le_refl _, Lib.hid (rd_none _ _ _), Lib.hid (made w _)⟩
  case round =>
    obtain ⟨k, out, hk, rfl, hcan, hmem, hlen, hrd, hbl⟩ := hrel
    by_cases hlt : k < n
    · obtain ⟨b, off, rfl, hb, hcx⟩ := HC.out k hlt
      have hc1 := cell_below hbl.out hcx.1 hb
      have hc2 := cell_below hbl.out hcx.2 hb
      have hgx := HG.out (l.getD k (0, 0)) (by rw [getD_get (by omega)]; exact List.getElem_mem _)
      obtain ⟨x, hx⟩ : ∃ x, l.getD k (0, 0) = x := ⟨_, rfl⟩
      have MT := Lib.hid (mem_take_succ (by omega : k < l.length) hx)
      rw [hx] at hc1 hc2 hgx
      clear hcx hx
      obtain ⟨x1, x2⟩ := x
      simp only at hc1 hc2 hgx
      go_wp2_with fail
      refine (radd' _ out x1 x2 _ (by omega) hcan.out hgx.1 hgx.2 hrd.out).mono ?_
      rintro e w1 ⟨v1, l1, rfl, c, m, h, r, bl⟩
      have C1 := Lib.hid c
      have M1 : Hid (∀ m, mem l1 m ↔ mem (l.take (k + 1)) m) := Lib.hid (fun y => by have i1 := m y; (try simp only at i1); rw [i1, hmem.out, MT.out])
      have R1 := Lib.hid r
      have B1 := Lib.hid (next hbl.out bl)
      clear c m r bl
      go_wp2
      go_roundw
      case rel => exact ⟨k + 1, l1, by omega, by go_num, C1, M1, by omega, R1, B1⟩
      case measure => simp [intOf]; omega
    · obtain rfl : k = n := by omega
      have M1 : Hid (∀ m, mem out m ↔ mem l m) := Lib.hid (fun y => by rw [hmem.out, ← hln, List.take_length])
      go_wp2
      go_ret
      exact ⟨_, out, rfl, hcan.out, M1.out, hlen, hrd.out, hbl.out⟩
theorem rof' (v : Value) (l : List Ran) (w : World) (hl : l.length ≤ 1000) (hg : ∀ x ∈ l, 0 ≤ x.1 ∧ x.2 < 9223372036854775808) (hrd : Rd w v l) :
    Gives 7 #[v] w (mem l) l.length := by
  obtain ⟨a, cap, rfl, hc⟩ := rows_of hrd
  exact rof_row a l.length cap l rfl hl hg w hc

def GapR (l : List Ran) (lo hi : Int) (w : World) (n : Nat) (sv iv : Value) (wr : World) : Prop :=
  ∃ (k : Nat) (out : List Ran), k ≤ n ∧ iv = .int .i64 k ∧ Hid (Can out) ∧ Hid (∀ m, mem out m ↔ inn (lo, hi) m ∧ ¬ mem (l.take k) m) ∧ out.length ≤ k + 1 ∧ Hid (Rd wr sv out) ∧ Hid (Below w.heap.size w wr)
set_option maxHeartbeats 4000000 in
theorem rgaps_row (a : Option Addr) (n cap : Nat) (l : List Ran) (lo hi : Int) (hln : l.length = n) (hl : n ≤ 1000) (hcl : Can l) (h0 : 0 ≤ lo) (h1 : hi < 9223372036854775808) (w : World)
    (hc : ∀ i, i < n → ∃ b off, a = some ⟨b, off, none⟩ ∧ b < w.heap.size ∧ w.cell? ⟨b, off + i * 2, none⟩ = some (.int .u64 (l.getD i (0, 0)).1) ∧ w.cell? ⟨b, off + i * 2 + 1, none⟩ = some (.int .u64 (l.getD i (0, 0)).2)) :
    Gives 21 #[.slice a n cap, .agg #[.int .u64 lo, .int .u64 hi]] w (fun m => inn (lo, hi) m ∧ ¬ mem l m) (n + 1) := by
  unfold Gives
  have HC := Lib.hid hc
  have HCL := Lib.hid hcl
  have HBS : Hid (Below w.heap.size w ((w.alloc (.cells #[.int .u64 lo, .int .u64 hi] 28)).alloc (.cells #[] 28))) := Lib.hid ((made w _).trans (made' (by simp) _))
  clear hc hcl
  go_enter Try.func21, Try.ntmps21
  go_wp2_with fail
  refine (radd' _ [] lo hi _ (by simp) Can.nil h0 h1 (rd_none _ _ _)).mono ?_
  rintro e w1 ⟨v1, l1, rfl, c, m, h, r, bl⟩
  have C1 := Lib.hid c
  have M1 : Hid (∀ y, mem l1 y ↔ inn (lo, hi) y ∧ ¬ mem (l.take 0) y) := Lib.hid (fun y => by rw [m]; exact ⟨fun h => ⟨h.resolve_left (mem_nil y), mem_nil y⟩, fun h => .inr h.1⟩)
  have R1 := Lib.hid r
  have hl1 : l1.length ≤ 1 := h
  have B1 := Lib.hid (next HBS.out bl)
  clear c m r bl h
  go_wp2_with fail
  go_loopw [5, 6] (fun sv iv wr => GapR l lo hi w n sv iv wr) (fun _ iv _ => n - (intOf iv).toNat)
  case atStart => exact ⟨0, l1, Nat.zero_le _, rfl, C1, M1, hl1, R1, B1⟩
  case round =>
    obtain ⟨k, out, hk, rfl, hcan, hmem, hlen, hrd, hbl⟩ := hrel
    by_cases hlt : k < n
    · obtain ⟨b, off, rfl, hb, hcx⟩ := HC.out k hlt
      have hc1 := cell_below hbl.out hcx.1 hb
      have hc2 := cell_below hbl.out hcx.2 hb
      have hgx := HCL.out.good (l.getD k (0, 0)) (by rw [getD_get (by omega)]; exact List.getElem_mem _)
      obtain ⟨x, hx⟩ : ∃ x, l.getD k (0, 0) = x := ⟨_, rfl⟩
      have MT := Lib.hid (mem_take_succ (by omega : k < l.length) hx)
      rw [hx] at hc1 hc2 hgx
      clear hcx hx
      obtain ⟨x1, x2⟩ := x
      simp only at hc1 hc2 hgx
      go_wp2_with fail
      refine (rcut' _ out x1 x2 _ (by omega) hcan.out hgx.1 (by omega) (by omega) hgx.2.2 hrd.out).mono ?_
      rintro e w2 ⟨v2, l2, rfl, c, m, h, r, bl⟩
      have C2 := Lib.hid c
      have M2 : Hid (∀ y, mem l2 y ↔ inn (lo, hi) y ∧ ¬ mem (l.take (k + 1)) y) := Lib.hid (fun y => by have i1 := m y; (try simp only at i1); rw [i1, hmem.out, MT.out, not_or, and_assoc])
      have R2 := Lib.hid r
      have B2 := Lib.hid (next hbl.out bl)
      clear c m r bl
      go_wp2
      go_roundw
      case rel => exact ⟨k + 1, l2, by omega, by go_num, C2, M2, by omega, R2, B2⟩
      case measure => simp [intOf]; omega
    · obtain rfl : k = n := by omega
      have M2 : Hid (∀ m, mem out m ↔ inn (lo, hi) m ∧ ¬ mem l m) := Lib.hid (fun y => by rw [hmem.out, ← hln, List.take_length])
      go_wp2
      go_ret
      exact ⟨_, out, rfl, hcan.out, M2.out, hlen, hrd.out, hbl.out⟩
theorem rgaps' (v : Value) (l : List Ran) (lo hi : Int) (w : World) (hl : l.length ≤ 1000) (hcan : Can l) (h0 : 0 ≤ lo) (h1 : hi < 9223372036854775808) (hrd : Rd w v l) :
    Gives 21 #[v, .agg #[.int .u64 lo, .int .u64 hi]] w (fun m => inn (lo, hi) m ∧ ¬ mem l m) (l.length + 1) := by
  obtain ⟨a, cap, rfl, hc⟩ := rows_of hrd
  exact rgaps_row a l.length cap l lo hi rfl hl hcan h0 h1 w hc

def MeetO (la lb : List Ran) (w : World) (n : Nat) (sv iv : Value) (wr : World) : Prop :=
  ∃ (k : Nat) (out : List Ran), k ≤ n ∧ iv = .int .i64 k ∧ Hid (Can out) ∧ Hid (∀ m, mem out m ↔ mem (la.take k) m ∧ mem lb m) ∧ out.length ≤ k * 100 ∧ Hid (Rd wr sv out) ∧ Hid (Below w.heap.size w wr)
def MeetI (la lb : List Ran) (x : Ran) (i : Nat) (w : World) (n : Nat) (sv kv : Value) (wr : World) : Prop :=
  ∃ (k : Nat) (out : List Ran), k ≤ n ∧ kv = .int .i64 k ∧ Hid (Can out) ∧ Hid (∀ m, mem out m ↔ (mem (la.take i) m ∧ mem lb m) ∨ (inn x m ∧ mem (lb.take k) m)) ∧ out.length ≤ i * 100 + k ∧ Hid (Rd wr sv out) ∧ Hid (Below w.heap.size w wr)
set_option maxHeartbeats 8000000 in
theorem rmeet_row (a : Option Addr) (n cap : Nat) (la : List Ran) (b : Option Addr) (n2 cap2 : Nat) (lb : List Ran) (hla : la.length = n) (hl : n ≤ 100) (hlb : lb.length = n2) (hl2 : n2 ≤ 100) (hca : Can la) (hcb : Can lb) (w : World)
    (hc : ∀ i, i < n → ∃ b off, a = some ⟨b, off, none⟩ ∧ b < w.heap.size ∧ w.cell? ⟨b, off + i * 2, none⟩ = some (.int .u64 (la.getD i (0, 0)).1) ∧ w.cell? ⟨b, off + i * 2 + 1, none⟩ = some (.int .u64 (la.getD i (0, 0)).2))
    (hc' : ∀ i, i < n2 → ∃ b' off, b = some ⟨b', off, none⟩ ∧ b' < w.heap.size ∧ w.cell? ⟨b', off + i * 2, none⟩ = some (.int .u64 (lb.getD i (0, 0)).1) ∧ w.cell? ⟨b', off + i * 2 + 1, none⟩ = some (.int .u64 (lb.getD i (0, 0)).2)) :
    Gives 19 #[.slice a n cap, .slice b n2 cap2] w (fun m => mem la m ∧ mem lb m) 10000 := by
  unfold Gives
  have HC := Lib.hid hc
  have HC2 := Lib.hid hc'
  have HCA := Lib.hid hca
  have HCB := Lib.hid hcb
  clear hc hc' hca hcb
  go_enter Try.func19, Try.ntmps19
  go_wp2
  go_loopw [5, 6, 7, 8, 9] (fun sv iv _ _ _ wr => MeetO la lb w n sv iv wr) (fun _ iv _ _ _ _ => n - (intOf iv).toNat)
  case atStart => exact ⟨0, [], Nat.zero_le _, rfl, Lib.hid Can.nil, Lib.hid (fun m => ⟨fun h => absurd h (mem_nil m), fun h => absurd h.1 (mem_nil m)⟩), Nat.zero_le _, Lib.hid (rd_none _ _ _), Lib.hid (made w _)⟩
  case round =>
    obtain ⟨i, out0, hi, rfl, hcan0, hmem0, hlen0, hrd0, hbl0⟩ := hrel
    by_cases hlt : i < n
    · obtain ⟨ba, oa, rfl, hba, hcx⟩ := HC.out i hlt
      have hgx := HCA.out.good (la.getD i (0, 0)) (by rw [getD_get (by omega)]; exact List.getElem_mem _)
      obtain ⟨x, hx⟩ : ∃ x, la.getD i (0, 0) = x := ⟨_, rfl⟩
      have MT := Lib.hid (mem_take_succ (by omega : i < la.length) hx)
      rw [hx] at hcx hgx
      have HCX := Lib.hid hcx
      clear hcx hx
      obtain ⟨x1, x2⟩ := x
      simp only at hgx
      go_wp2_with fail
      go_loopw [5, 7, 8, 9] (fun sv kv _ _ wr => MeetI la lb (x1, x2) i w n2 sv kv wr) (fun _ kv _ _ _ => n2 - (intOf kv).toNat)
      case atStart => exact ⟨0, out0, Nat.zero_le _, rfl, hcan0, Lib.hid (fun m => by rw [hmem0.out]; exact ⟨.inl, fun h => h.elim id (fun h => absurd h.2 (mem_nil m))⟩), by omega, hrd0, hbl0⟩
      case round =>
        obtain ⟨k, out, hk, rfl, hcan, hmem, hlen, hrd, hbl⟩ := hrel
        by_cases hlt2 : k < n2
        · obtain ⟨bb, ob, rfl, hbb, hcy⟩ := HC2.out k hlt2
          have hc1 := cell_below hbl.out HCX.out.1 hba
          have hc2 := cell_below hbl.out HCX.out.2 hba
          have hd1 := cell_below hbl.out hcy.1 hbb
          have hd2 := cell_below hbl.out hcy.2 hbb
          have hgy := HCB.out.good (lb.getD k (0, 0)) (by rw [getD_get (by omega)]; exact List.getElem_mem _)
          obtain ⟨y, hy⟩ : ∃ y, lb.getD k (0, 0) = y := ⟨_, rfl⟩
          have MU := Lib.hid (mem_take_succ (by omega : k < lb.length) hy)
          rw [hy] at hd1 hd2 hgy
          clear hcy hy
          obtain ⟨y1, y2⟩ := y
          simp only at hc1 hc2 hd1 hd2 hgy
          obtain ⟨z1, hz1⟩ : ∃ z, max x1 y1 = z := ⟨_, rfl⟩
          obtain ⟨z2, hz2⟩ : ∃ z, min x2 y2 = z := ⟨_, rfl⟩
          have hmx := max_run x1 y1 z1 hz1
          have hmn := min_run x2 y2 z2 hz2
          have hI : Hid (∀ m, inn (z1, z2) m ↔ inn (x1, x2) m ∧ inn (y1, y2) m) := Lib.hid (fun m => by rw [← hz1, ← hz2]; simp only [inn]; omega)
          have bz : 0 ≤ z1 ∧ z2 < 9223372036854775808 := by omega
          clear hz1 hz2
          go_wp2_with fail
          go_region
          all_goals go_wp2_with fail
          go_region
          all_goals (by_cases hz : z1 ≤ z2)
          · go_wp2_with fail
            refine (radd' _ out z1 z2 _ (by omega) hcan.out bz.1 bz.2 (hrd.out.go (below_drew (below_drew (Below.refl _ _))))).mono ?_
            rintro e w2 ⟨v2, l2, rfl, c, m, h, r, bl⟩
            have C2 := Lib.hid c
            have M2 : Hid (∀ q, mem l2 q ↔ (mem (la.take i) q ∧ mem lb q) ∨ (inn (x1, x2) q ∧ mem (lb.take (k + 1)) q)) := Lib.hid (fun q => by
              have i1 := m q
              (try simp only at i1)
              rw [i1, hmem.out, MU.out, hI.out, or_assoc, ← and_or_left])
            have R2 := Lib.hid r
            have B2 := Lib.hid (next (next hbl.out (below_drew (below_drew (Below.refl _ _)))) bl)
            clear c m r bl
            go_wp2
            go_roundw
            case rel => exact ⟨k + 1, l2, by omega, by go_num, C2, M2, by omega, R2, B2⟩
            case measure => simp [intOf]; omega
          · have hno : Hid (∀ q, ¬ (inn (x1, x2) q ∧ inn (y1, y2) q)) := Lib.hid (fun q h => by have := (hI.out q).2 h; simp only [inn] at this; omega)
            have M2 : Hid (∀ q, mem out q ↔ (mem (la.take i) q ∧ mem lb q) ∨ (inn (x1, x2) q ∧ mem (lb.take (k + 1)) q)) := Lib.hid (fun q => by
              rw [hmem.out, MU.out, and_or_left]
              have := hno.out q
              exact ⟨fun h => h.elim .inl (fun h => .inr (.inl h)), fun h => h.elim .inl (fun h => h.elim .inr (fun h => absurd h this))⟩)
            have R2 := Lib.hid (hrd.out.go (below_drew (below_drew (Below.refl _ _))))
            have B2 := Lib.hid (next hbl.out (below_drew (below_drew (Below.refl _ _))))
            go_wp2
            go_roundw
            case rel => exact ⟨k + 1, out, by omega, by go_num, hcan, M2, by omega, R2, B2⟩
            case measure => simp [intOf]; omega
        · obtain rfl : k = n2 := by omega
          have M2 : Hid (∀ q, mem out q ↔ mem (la.take (i + 1)) q ∧ mem lb q) := Lib.hid (fun q => by rw [hmem.out, MT.out, ← hlb, List.take_length, ← or_and_right])
          go_wp2
          go_roundw
          case rel => exact ⟨i + 1, out, by omega, by go_num, hcan, M2, by omega, hrd, hbl⟩
          case measure => simp [intOf]; omega
    · obtain rfl : i = n := by omega
      have M2 : Hid (∀ q, mem out0 q ↔ mem la q ∧ mem lb q) := Lib.hid (fun q => by rw [hmem0.out, ← hla, List.take_length])
      go_wp2
      go_ret
      exact ⟨_, out0, rfl, hcan0.out, M2.out, by omega, hrd0.out, hbl0.out⟩
theorem rmeet' (v u : Value) (la lb : List Ran) (w : World) (hl : la.length ≤ 100) (hl2 : lb.length ≤ 100) (hca : Can la) (hcb : Can lb) (h1 : Rd w v la) (h2 : Rd w u lb) :
    Gives 19 #[v, u] w (fun m => mem la m ∧ mem lb m) 10000 := by
  obtain ⟨a, cap, rfl, hc⟩ := rows_of h1
  obtain ⟨b, cap2, rfl, hc2⟩ := rows_of h2
  exact rmeet_row a la.length cap la b lb.length cap2 lb rfl hl rfl hl2 hca hcb w hc hc2
end Go.Proofs.Ytgmagaphbidobaa.Rg
