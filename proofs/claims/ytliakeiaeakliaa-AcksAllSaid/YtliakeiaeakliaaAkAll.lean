/- Layer 13: the law AcksAll. By tools/gen-acks-12.py. -/
import Derived.Test.YtliakeiaeakliaaAkQ
import Derived.Test.YtliakeiaeakliaaAkOnce
import Derived.Deep.CutRange
import Derived.Deep.RegionHeld3
namespace Go.Proofs.Ytliakeiaeakliaa.Rg
set_option maxRecDepth 20000
open Go.RowKit Go.Shelf
set_option linter.unusedVariables false
set_option linter.unusedSimpArgs false

theorem info64 : (Try.prog.info? 26).map (fun i => (i.zero, i.size, i.bytes)) = some (some (.int .u64 0), 1, 8) := by kernel_rfl
def upto (k : Nat) : List Value := (List.range k).map fun j => Value.int .u64 ((j : Nat) : Int)
theorem upto_len (k : Nat) : (upto k).length = k := by simp [upto]
theorem upto_succ (k : Nat) : upto (k + 1) = upto k ++ [.int .u64 (k : Int)] := by simp [upto, List.range_succ]
/-- A row of numbers of the law's own. -/
def RowN (W : World) (B n : Nat) (f : Nat → Int) : Prop := ∃ cs : Array Value, W.heap[B]? = some (.cells cs 26 (0, 0)) ∧ n ≤ cs.size ∧ ∀ j, j < n → cs[j]? = some (.int .u64 (f j))
theorem RowN.lt {W : World} {B n : Nat} {f : Nat → Int} (h : RowN W B n f) : B < W.heap.size := by
  obtain ⟨cs, h1, _⟩ := h
  exact (Array.getElem?_eq_some_iff.1 h1).1
theorem RowN.go {W W' : World} {B n : Nat} {f : Nat → Int} (h : RowN W B n f) (hb : Below W.heap.size W W') : RowN W' B n f := by
  have hl := h.lt
  obtain ⟨cs, h1, h2⟩ := h
  exact ⟨cs, (hb.block B hl).trans h1, h2⟩
theorem RowN.same {W W' : World} {B n : Nat} {f : Nat → Int} (h : RowN W B n f) (hb : W'.heap[B]? = W.heap[B]?) : RowN W' B n f := by
  obtain ⟨cs, h1, h2⟩ := h
  exact ⟨cs, hb.trans h1, h2⟩
theorem RowN.cell {W : World} {B n : Nat} {f : Nat → Int} (h : RowN W B n f) {j : Nat} (hj : j < n) : W.cell? ⟨B, j, none⟩ = some (.int .u64 (f j)) := by
  obtain ⟨cs, h1, h2, h3⟩ := h
  rw [Lib.cell_of_heap h1 j]
  exact h3 j hj
theorem RowN.fz {W : World} {B n : Nat} {f : Nat → Int} (h : RowN W B n f) (j : Nat) : W.frozen? ⟨B, j, none⟩ = false := by
  obtain ⟨cs, h1, h2, h3⟩ := h
  exact Lib.frozen_of_heap h1 j
theorem RowN.set {W : World} {B n : Nat} {f : Nat → Int} (h : RowN W B n f) {i : Nat} (hi : i < n) (u : Int) : RowN (W.setCell ⟨B, i, none⟩ (.int .u64 u)) B n (fun j => if j = i then u else f j) := by
  obtain ⟨cs, h1, h2, h3⟩ := h
  refine ⟨_, Joins.block_setCell (i := i) h1 _, by simpa using h2, fun j hj => ?_⟩
  have h4 := h3 j hj
  rw [Array.getElem?_setIfInBounds]
  by_cases e : j = i
  · subst e
    rw [if_pos rfl, if_pos (by omega)]
    simp
  · rw [if_neg (fun h => e h.symm), h4]
    simp [e]
theorem RowN.eq {W : World} {B n : Nat} {f g : Nat → Int} (h : RowN W B n f) (e : ∀ j, j < n → f j = g j) : RowN W B n g := by
  obtain ⟨cs, h1, h2, h3⟩ := h
  exact ⟨cs, h1, h2, fun j hj => by rw [h3 j hj, e j hj]⟩
theorem RowN.of {W : World} {base n : Nat} {v : Value} (h : W.ownsRow base 26 1 v n (upto n)) (hn : 0 < n) : ∃ B cap, v = .slice (some ⟨B, 0, none⟩) n cap ∧ base ≤ B ∧ n ≤ cap ∧ RowN W B n (fun j => (j : Int)) := by
  have h0 := h
  rcases h.2 with ⟨_, h1⟩ | ⟨g, cap, cur, rfl, hb, hg, hc, hm, hs, ht⟩
  · omega
  · refine ⟨g, cap, rfl, hb, hc, cur, hg, by omega, fun j hj => ?_⟩
    have h2 : (cur.toList.take (n * 1))[j]? = (upto n)[j]? := by rw [ht]
    rw [List.getElem?_take_of_lt (by omega)] at h2
    rw [← Array.getElem?_toList, h2]
    simp [upto, hj]
/-- The numbers' places behind i steps of the changes. -/
def mid (n : Nat) (l : List Nat) (i j : Nat) : Int := if j < i then ((outN n l j : Nat) : Int) else if j = i then ((cr n l i : Nat) : Int) else (j : Int)
theorem mid_zero (n : Nat) (l : List Nat) (j : Nat) : (j : Int) = mid n l 0 j := by
  unfold mid
  rw [if_neg (by omega)]
  split
  · rename_i h
    rw [h]
    rfl
  · rfl
theorem mid_no (n : Nat) (l : List Nat) (i j : Nat) (h : sw n l i = false) : mid n l i j = mid n l (i + 1) j := by
  unfold mid
  rcases Nat.lt_trichotomy j i with h1 | h1 | h1
  · rw [if_pos h1, if_pos (by omega)]
  · subst h1
    rw [if_neg (by omega), if_pos rfl, if_pos (by omega)]
    unfold outN
    rw [h]
    simp
  · rw [if_neg (by omega), if_neg (by omega), if_neg (by omega)]
    split
    · rename_i h2
      rw [cr, if_neg (by rw [h]; decide), h2]
    · rfl
theorem mid_yes (n : Nat) (l : List Nat) (i j : Nat) (h : sw n l i = true) : (if j = i + 1 then mid n l i i else if j = i then mid n l i (i + 1) else mid n l i j) = mid n l (i + 1) j := by
  unfold mid
  rcases Nat.lt_trichotomy j i with h1 | h1 | h1
  · rw [if_neg (by omega), if_neg (by omega), if_pos h1, if_pos (by omega)]
  · subst h1
    rw [if_neg (by omega), if_pos rfl, if_neg (by omega), if_neg (by omega), if_pos (by omega)]
    unfold outN
    rw [if_pos h]
  · by_cases h2 : j = i + 1
    · subst h2
      rw [if_pos rfl, if_neg (by omega), if_pos rfl, if_neg (by omega), if_pos rfl, cr, if_pos h]
    · rw [if_neg h2, if_neg (by omega), if_neg (by omega), if_neg (by omega), if_neg (by omega), if_neg h2]
theorem mid_end (n : Nat) (l : List Nat) (i j : Nat) (hj : j < n) (h : ¬ (i + 1 < n ∧ i < l.length)) : mid n l i j = ((outN n l j : Nat) : Int) := by
  have hs : ∀ k, i ≤ k → sw n l k = false := fun k hk => by
    unfold sw
    exact decide_eq_false (by omega)
  unfold mid
  rcases Nat.lt_trichotomy j i with h1 | h1 | h1
  · rw [if_pos h1]
  · subst h1
    rw [if_neg (by omega), if_pos rfl]
    unfold outN
    rw [hs j (Nat.le_refl _)]
    simp
  · rw [if_neg (by omega), if_neg (by omega)]
    unfold outN
    rw [hs j (by omega)]
    obtain ⟨k, rfl⟩ : ∃ k, j = k + 1 := ⟨j - 1, by omega⟩
    rw [if_neg (by decide), cr, hs k (by omega)]
    simp

set_option maxHeartbeats 16000000 in
theorem all_law (q : Int) (e : Option Addr) (m c n : Nat) (sl : List Int) (w : World) (hm : m ≤ maxLen) (hr : RI .u8 w e m c sl) (q0 : 0 ≤ q) (q1 : q ≤ 255) (hn : 1 + q.tmod 100 = (n : Int)) :
    Calls Try.prog 4 #[.int .u8 q, .slice e m c] w fun e w' => e = .returned (.bool true) ∧ Below w.heap.size w w' := by
  obtain ⟨L, hL⟩ : ∃ L : List Nat, (List.range m).map (fun j => (sl.getD j 0).toNat) = L := ⟨_, rfl⟩
  have HLL : Hid (L.length = m) := Lib.hid (by rw [← hL]; simp)
  have HLG : Hid (∀ j, j < m → L.getD j 0 = (sl.getD j 0).toNat) := Lib.hid (fun j hj => by rw [← hL]; simp [List.getD, hj])
  have HRI := Lib.hid hr
  have qa : 0 ≤ q.tmod 100 := Int.tmod_nonneg _ q0
  have qb : q.tmod 100 < 100 := Int.tmod_lt_of_pos _ (by decide)
  have hn0 : 1 ≤ n := by omega
  have hn1 : n ≤ 100 := by omega
  obtain ⟨Q, hQ⟩ : ∃ x, q.tmod 100 = x := ⟨_, rfl⟩
  rw [hQ] at hn qa qb
  have v1 : IntKind.i64.wrap q = q := IntWalk.i64_in _ (by omega)
  have v3 : IntKind.i64.wrap (1 + Q) = (n : Int) := by rw [hn]; exact IntWalk.i64_in _ (by omega)
  have v6 : IntKind.i64.wrap (n : Int) = (n : Int) := IntWalk.i64_in _ (by omega)
  have CS := Lib.hid shown13
  obtain ⟨i0, hi, hz0, hz1, hz2⟩ := info_parts info64
  have hz1 := Lib.hid hz1; have hz2 := Lib.hid hz2; have hz0 := Lib.hid hz0; have hi := Lib.hid hi
  have hml : (m : Int) ≤ 9223372036854775807 := by unfold maxLen at hm; omega
  have hmk : ∀ w : World, (Instr.makeSlice 38 (.int .i64 0) (.int .i64 0)).run Try.prog w = .ok (.slice (some ⟨w.heap.size, 0, none⟩) 0 0) (w.alloc (.cells #[] 26)) := fun _ => by kernel_rfl
  clear qa qb hL hr hm
  go_enter Try.func4, Try.ntmps4
  go_wp2_with fail
  go_loopw [6, 7] (fun sv iv wr => ∃ k : Nat, k ≤ n ∧ iv = .int .i64 k ∧ wr.ownsRow w.heap.size 26 1 sv k (upto k) ∧ Below w.heap.size w wr) (fun _ iv _ => n - (intOf iv).toNat)
  case atStart => exact ⟨0, Nat.zero_le _, rfl, World.ownsRow_made w #[] 0 (Nat.le_refl _) (by unfold maxLen; omega) rfl, (Below.refl _ _).alloc (Nat.le_refl _) _⟩
  case round =>
    obtain ⟨k, hk, rfl, hown, hbl⟩ := hrel
    have HOW := Lib.hid hown
    have HB := Lib.hid hbl
    have hsz := hbl.size
    by_cases hlt : k < n
    · have hltI : (k : Int) < (n : Int) := by omega
      have u1 : IntKind.u64.wrap (k : Int) = (k : Int) := IntWalk.u64_in _ (by omega)
      clear hown hbl
      go_wp2_with (at_builtin; refine wpList_append_own _ rfl _ _ 38 rfl w.heap.size 26 i0 (.int .u64 0) 1 8 Try.underlying38 hi.out hz0.out hz1.out hz2.out rfl (by decide) _ k (upto k) rfl (World.ownsRow.alloc HOW.out _) ⟨wr.heap.size, 0, none⟩ 1 1 [.int .u64 (k : Int)] rfl rfl (cell_one_new _ _ _) (by simp [Value.oneCell']) (by unfold maxLen; omega) (by omega) (by simp; omega) ?_)
      intro v' w3 hown' hgrow _
      have hb3 : Hid (Below w.heap.size w w3) := Lib.hid ((HB.out.alloc (by omega) _).grown hgrow (by simp; omega) (fun j hj' => (World.ownsRow.lt HOW.out j hj').1))
      have hO3 : Hid (w3.ownsRow w.heap.size 26 1 v' (k + 1) (upto (k + 1))) := Lib.hid (by rw [upto_succ]; exact hown')
      clear hown' hgrow
      go_wp2_with fail
      go_roundw
      case rel => exact ⟨k + 1, by omega, by go_num, hO3.out, hb3.out⟩
      case measure => simp [intOf]; omega
    · have hnlt : ¬ (k : Int) < (n : Int) := by omega
      obtain rfl : k = n := by omega
      obtain ⟨B, cap, rfl, hBw, hcap, hrow⟩ := RowN.of HOW.out (by omega)
      clear hown hbl HOW hsz
      have HROW := Lib.hid hrow
      go_wp2_with fail
      go_loopw [8] (fun iv wx => ∃ i : Nat, i ≤ k ∧ iv = .int .i64 i ∧ RowN wx B k (mid k L i) ∧ Below w.heap.size w wx) (fun iv _ => k - (intOf iv).toNat)
      case atStart => exact ⟨0, Nat.zero_le _, rfl, HROW.out.eq (fun j _ => mid_zero k L j), HB.out⟩
      case round =>
        obtain ⟨i, hik, rfl, hrw, hbx⟩ := hrel
        have HRW := Lib.hid hrw
        have HBX := Lib.hid hbx
        clear hrw hbx HROW HB
        obtain ⟨cb, hcb⟩ : ∃ b, decide (i + 1 < k ∧ i < m) = b := ⟨_, rfl⟩
        have HCB := Lib.hid hcb
        clear hcb
        go_upto_region 8 with (fail)
        go_cut [41] from 32 to 41 (fun v W => v = .bool cb ∧ W = wr)
        case first =>
          by_cases h1 : i + 1 < k
          · have h1I : (i : Int) + 1 < (k : Int) := by omega
            by_cases h2 : i < m
            · have h2I : (i : Int) < (m : Int) := by omega
              go_wp2_with fail
              go_meet
              case rel => exact ⟨by rw [← HCB.out, decide_eq_true ⟨h1, h2⟩], rfl⟩
            · have h2I : ¬ (i : Int) < (m : Int) := by omega
              go_wp2_with fail
              go_meet
              case rel => exact ⟨by rw [← HCB.out, decide_eq_false (fun h => h2 h.2)], rfl⟩
          · have h1I : ¬ (i : Int) + 1 < (k : Int) := by omega
            go_wp2_with fail
            go_meet
            case rel => exact ⟨by rw [← HCB.out, decide_eq_false (fun h => h1 h.1)], rfl⟩
        case rest =>
          obtain ⟨rfl, rfl⟩ := hcut
          cases cb with
          | true =>
            have hc := of_decide_eq_true HCB.out
            have h1 : i + 1 < k := hc.1
            have h2 : i < m := hc.2
            obtain ⟨eb, eo, ee, hcell, hwf⟩ := HRI.out.2 i h2
            subst ee
            have hmc : (m : Int) ≤ (c : Int) := by have := HRI.out.1; omega
            have hl2 : L.getD i 0 = (sl.getD i 0).toNat := HLG.out i h2
            generalize sl.getD i 0 = x at hcell hwf hl2
            have kk := hcell wc HBX.out
            simp only [Lit.wf, Bool.and_eq_true, decide_eq_true_eq] at hwf
            have hx0 : 0 ≤ x := hwf.1
            obtain ⟨r, hr⟩ : ∃ r, x.tmod 2 = r := ⟨_, rfl⟩
            have hr2 : r = x % 2 := by rw [← hr]; exact Int.tmod_eq_emod_of_nonneg hx0
            have h1I : (i : Int) + 1 < (k : Int) := by omega
            have h2I : (i : Int) < (m : Int) := by omega
            by_cases hx : r = 1
            · have HSW : Hid (sw k L i = true) := Lib.hid (by
                unfold sw
                rw [hl2]
                exact decide_eq_true ⟨h1, by have := HLL.out; omega, by omega⟩)
              have c0 := HRW.out.cell (j := i) (by omega)
              have c1 := HRW.out.cell (j := i + 1) h1
              have f0 := HRW.out.fz i
              have f1 := HRW.out.fz (i + 1)
              have HNEW : Hid (RowN ((wc.setCell ⟨B, i, none⟩ (.int .u64 (mid k L i (i + 1)))).setCell ⟨B, i + 1, none⟩ (.int .u64 (mid k L i i))) B k (mid k L (i + 1))) := Lib.hid (((HRW.out.set (i := i) (by omega) _).set (i := i + 1) h1 _).eq (fun j hj => mid_yes k L i j HSW.out))
              have HBN : Hid (Below w.heap.size w ((wc.setCell ⟨B, i, none⟩ (.int .u64 (mid k L i (i + 1)))).setCell ⟨B, i + 1, none⟩ (.int .u64 (mid k L i i)))) := Lib.hid (Below.setCell (Below.setCell HBX.out (p := ⟨B, i, none⟩) hBw _) (p := ⟨B, i + 1, none⟩) hBw _)
              generalize mid k L i (i + 1) = y1 at *
              generalize mid k L i i = y0 at *
              clear hcell hwf hl2 hc hr2
              have hkc : (k : Int) ≤ (cap : Int) := by omega
              subst hx
              go_wp2_with fail
              go_region
              go_wp2_with fail
              go_roundw
              case rel => exact ⟨i + 1, by omega, by go_num, HNEW.out.same rfl, HBN.out.drew⟩
              case measure => simp [intOf]; omega
            · have HSW : Hid (sw k L i = false) := Lib.hid (by
                unfold sw
                rw [hl2]
                exact decide_eq_false (fun h => hx (by omega)))
              have hrb : (r == 1) = false := beq_eq_false_iff_ne.2 hx
              clear hcell hwf hl2 hc hr2
              go_wp2_with fail
              go_roundw
              case rel => exact ⟨i + 1, by omega, by go_num, HRW.out.eq (fun j _ => mid_no k L i j HSW.out), HBX.out⟩
              case measure => simp [intOf]; omega
          | false =>
            have HOUT : Hid (RowN wc B k (fun j => ((outN k L j : Nat) : Int))) := Lib.hid (HRW.out.eq (fun j hj => mid_end k L i j hj (fun h => by
              have := of_decide_eq_false HCB.out
              rw [HLL.out] at h
              exact this h)))
            clear HRW HCB
            have HS0 : Hid (Sb (wc.alloc (.cells #[.slice none 0 0, .int .u64 0, .int .i64 0, .int .i64 0, .int .i64 0] 28)) wc.heap.size (.slice none 0 0) ⟨[], 0, 0, 0, 0⟩) := Lib.hid (tl_made _ wc (.slice none 0 0) ⟨[], 0, 0, 0, 0⟩ ⟨none, 0, rfl, Nat.le_refl _, fun h => absurd rfl h⟩)
            have HB0 : Hid (Below w.heap.size w (wc.alloc (.cells #[.slice none 0 0, .int .u64 0, .int .i64 0, .int .i64 0, .int .i64 0] 28))) := Lib.hid (HBX.out.alloc HBX.out.size _)
            have HR0 := Lib.hid (HOUT.out.go ((Below.refl _ _).alloc (Nat.le_refl _) (.cells #[.slice none 0 0, .int .u64 0, .int .i64 0, .int .i64 0, .int .i64 0] 28)))
            have hBg : B < wc.heap.size := HOUT.out.lt
            have hgw : w.heap.size ≤ wc.heap.size := HBX.out.size
            clear HOUT HBX
            go_wp2_with fail
            generalize wc.alloc (.cells #[.slice none 0 0, .int .u64 0, .int .i64 0, .int .i64 0, .int .i64 0] 28) = W0 at *
            generalize wc.heap.size = g at *
            go_loopw [10] (fun iv wr => ∃ (j : Nat) (v : Value) (s : St), j ≤ k ∧ iv = .int .i64 j ∧ AllI k L j s ∧ Sb wr g v s ∧ RowN wr B k (fun j => ((outN k L j : Nat) : Int)) ∧ Below w.heap.size w wr) (fun iv _ => k - (intOf iv).toNat)
            case atStart => exact ⟨0, _, _, Nat.zero_le _, rfl, AllI.start k L, HS0.out, HR0.out, HB0.out⟩
            case round =>
              obtain ⟨j, v, s, hj, rfl, hall, hsb, hrw, hbb⟩ := hrel
              obtain ⟨a, c', rfl, _⟩ := id hsb.rd
              have hcan : Can s.l := by rw [hall.l]; exact cs_can (cr_le k L j) (by omega)
              obtain ⟨m', hm⟩ : ∃ m, s.l.length = m := ⟨_, rfl⟩
              have hml' : m' ≤ 2 := by rw [← hm, hall.l]; exact cs_len _ _
              have HSB : Hid (Sb wr g (.slice a m' c') s) := Lib.hid (by rw [← hm]; exact hsb)
              have HBB := Lib.hid hbb
              have HAL := Lib.hid hall
              have HRW := Lib.hid hrw
              have hgl := hsb.lt
              have how : s.ow = (j : Int) := hall.ow
              by_cases hlt : j < k
              · have ho := out_le k L j
                obtain ⟨X, hX⟩ : ∃ X : Int, ((outN k L j : Nat) : Int) = X := ⟨_, rfl⟩
                have HXC : Hid (wr.cell? ⟨B, j, none⟩ = some (.int .u64 X)) := Lib.hid (by rw [← hX]; exact hrw.cell hlt)
                have KG := Lib.hid (fun W h => got_yes a m' c' s X true (j : Int) W hm (by omega) hcan h (by rw [← hX]; exact hall.open) (by omega) (by omega) (by omega) (by omega))
                have HSTEP : Hid (∀ s' l1, GotR s X true (j : Int) s' l1 → AllI k L (j + 1) s') := Lib.hid (fun s' l1 hG => hall.step (by omega) (by rw [hX]; exact hG))
                have HLM : Hid (s.l.length = m') := Lib.hid hm
                obtain ⟨l, fl, tp, ow, si⟩ := s
                try simp only at KG
                try simp only at how
                subst how
                have hltI : (j : Int) < (k : Int) := by omega
                have hkc : (k : Int) ≤ (cap : Int) := by omega
                have hHd : Hid (Below wr.heap.size wr wr.drew) := Lib.hid (Below.refl _ _).drew
                have HSD := Lib.hid (HSB.out.go hHd.out)
                have HRD : Hid (RowN wr.drew B k (fun i => if i = j then X else ((outN k L i : Nat) : Int))) := Lib.hid ((HRW.out.go hHd.out).eq (fun i _ => by
                  by_cases e : i = j
                  · rw [if_pos e, e, hX]
                  · rw [if_neg e]))
                clear hsb hrw hbb hall hcan hm HAL
                go_wp2_with fail
                go_cut [11, 12] from 72 to 82 (fun v11 v12 W => ∃ (b : Nat) (u : Value) (s1 : St), v11 = .pointer (some ⟨b, 0, none⟩) ∧ v12 = .bool true ∧ Sb W b u s1 ∧ (∃ l1, GotR ⟨l, fl, tp, (j : Int), si⟩ X true (j : Int) s1 l1) ∧ (∀ q, Blk u q → wr.heap.size ≤ q) ∧ Below wr.heap.size wr W)
                case first =>
                  refine wp_region_noPanic ?_
                  refine wp_region_held_drew (S := fun W : World => Below wr.drew.heap.size wr.drew W) (by kernel_rfl) ?_ (fun hHeld => ?_)
                  · exact Below.refl wr.drew.heap.size wr.drew
                  refine wpAnyH_take (i := 0) (v := ?_) rfl (by kernel_rfl) (by kernel_rfl) (by kernel_rfl) (fun _ _ _ h => h) (Or.inl ⟨by rfl, ?_⟩) (by assumption) ?_
                  rotate_left
                  · (intro w hSw; (have hSb := hSw; clear hSw; have c0 := (HSD.out.go hSb).c0; have c1 := (HSD.out.go hSb).c1; have c2 := (HSD.out.go hSb).c2; have c3 := (HSD.out.go hSb).c3; have c4 := (HSD.out.go hSb).c4; simp only at c0 c1 c2 c3 c4; have kk := (HRD.out.go hSb).cell hlt; clear hSb); go_simp; (try with_reducible rfl))
                  try simp only [Act.put, List.getElem_toArray, List.getElem_cons_zero, List.getElem_cons_succ, List.setIfInBounds_toArray, List.set_cons_zero, List.set_cons_succ]
                  refine wpAnyH_take (i := 1) (v := ?_) rfl (by kernel_rfl) (by kernel_rfl) (by kernel_rfl) (fun _ _ _ h => h) (Or.inl ⟨by rfl, ?_⟩) (by assumption) ?_
                  rotate_left
                  · (intro w hSw; (have hSb := hSw; clear hSw; have c0 := (HSD.out.go hSb).c0; have c1 := (HSD.out.go hSb).c1; have c2 := (HSD.out.go hSb).c2; have c3 := (HSD.out.go hSb).c3; have c4 := (HSD.out.go hSb).c4; simp only at c0 c1 c2 c3 c4; have kk := (HRD.out.go hSb).cell hlt; clear hSb); go_simp; (try with_reducible rfl))
                  try simp only [Act.put, List.getElem_toArray, List.getElem_cons_zero, List.getElem_cons_succ, List.setIfInBounds_toArray, List.set_cons_zero, List.set_cons_succ]
                  refine wpAnyH_take (i := 2) (v := ?_) rfl (by kernel_rfl) (by kernel_rfl) (by kernel_rfl) (fun _ _ _ h => h) (Or.inl ⟨by rfl, ?_⟩) (by assumption) ?_
                  rotate_left
                  · (intro w hSw; (have hSb := hSw; clear hSw; have c0 := (HSD.out.go hSb).c0; have c1 := (HSD.out.go hSb).c1; have c2 := (HSD.out.go hSb).c2; have c3 := (HSD.out.go hSb).c3; have c4 := (HSD.out.go hSb).c4; simp only at c0 c1 c2 c3 c4; have kk := (HRD.out.go hSb).cell hlt; clear hSb); go_simp; (try with_reducible rfl))
                  try simp only [Act.put, List.getElem_toArray, List.getElem_cons_zero, List.getElem_cons_succ, List.setIfInBounds_toArray, List.set_cons_zero, List.set_cons_succ]
                  refine wpAnyH_take (i := 3) (v := ?_) rfl (by kernel_rfl) (by kernel_rfl) (by kernel_rfl) (fun _ _ _ h => h) (Or.inl ⟨by rfl, ?_⟩) (by assumption) ?_
                  rotate_left
                  · (intro w hSw; (have hSb := hSw; clear hSw; have c0 := (HSD.out.go hSb).c0; have c1 := (HSD.out.go hSb).c1; have c2 := (HSD.out.go hSb).c2; have c3 := (HSD.out.go hSb).c3; have c4 := (HSD.out.go hSb).c4; simp only at c0 c1 c2 c3 c4; have kk := (HRD.out.go hSb).cell hlt; clear hSb); go_simp; (try with_reducible rfl))
                  try simp only [Act.put, List.getElem_toArray, List.getElem_cons_zero, List.getElem_cons_succ, List.setIfInBounds_toArray, List.set_cons_zero, List.set_cons_succ]
                  refine wpAnyH_take (i := 4) (v := ?_) rfl (by kernel_rfl) (by kernel_rfl) (by kernel_rfl) (fun _ _ _ h => h) (Or.inl ⟨by rfl, ?_⟩) (by assumption) ?_
                  rotate_left
                  · (intro w hSw; (have hSb := hSw; clear hSw; have c0 := (HSD.out.go hSb).c0; have c1 := (HSD.out.go hSb).c1; have c2 := (HSD.out.go hSb).c2; have c3 := (HSD.out.go hSb).c3; have c4 := (HSD.out.go hSb).c4; simp only at c0 c1 c2 c3 c4; have kk := (HRD.out.go hSb).cell hlt; clear hSb); go_simp; (try with_reducible rfl))
                  try simp only [Act.put, List.getElem_toArray, List.getElem_cons_zero, List.getElem_cons_succ, List.setIfInBounds_toArray, List.set_cons_zero, List.set_cons_succ]
                  refine wpAnyH_take (i := 5) (v := ?_) rfl (by kernel_rfl) (by kernel_rfl) (by kernel_rfl) (fun _ _ _ h => h) (Or.inl ⟨by rfl, ?_⟩) (by assumption) ?_
                  rotate_left
                  · (intro w hSw; (have hSb := hSw; clear hSw; have c0 := (HSD.out.go hSb).c0; have c1 := (HSD.out.go hSb).c1; have c2 := (HSD.out.go hSb).c2; have c3 := (HSD.out.go hSb).c3; have c4 := (HSD.out.go hSb).c4; simp only at c0 c1 c2 c3 c4; have kk := (HRD.out.go hSb).cell hlt; clear hSb); go_simp; (try with_reducible rfl))
                  try simp only [Act.put, List.getElem_toArray, List.getElem_cons_zero, List.getElem_cons_succ, List.setIfInBounds_toArray, List.set_cons_zero, List.set_cons_succ]
                  refine wpAnyH_ready (rs := [6, 10]) (by kernel_rfl) (by simp) ?_
                  refine AllReadyH.cons rfl (fun K hK => ?_) (AllReadyH.cons rfl (fun K hK => ?_) AllReadyH.nil)
                  · rw [if_pos (by rfl)]
                    go_simp
                    refine (KG.out wr.drew (HSD.out.rd.go (Below.refl _ _))).mono ?_
                    rintro e w3 ⟨u, s', l1, rfl, hG, hr, hq, hb⟩
                    obtain ⟨ua, uc, rfl, _⟩ := id hr
                    obtain ⟨l', f', t', o', i'⟩ := s'
                    try simp only at hr
                    try simp only at hq
                    obtain ⟨un, hun⟩ : ∃ n, l'.length = n := ⟨_, rfl⟩
                    rw [hun] at hr hq
                    try simp only [hun]
                    have HP := Lib.hid hG
                    have HQ : Hid (∀ q, Blk (.slice ua un uc) q → wr.heap.size ≤ q) := Lib.hid (fun q h => Nat.le_trans (by simp) (hq q h))
                    clear hun hG
                    have HR3 := Lib.hid hr
                    have HB3 := Lib.hid hb
                    have HNB : Hid (¬ Blk (.slice ua un uc) w3.heap.size) := Lib.hid (fun h => by have := hr.blk h; omega)
                    clear hr hq hb
                    refine hK.out _ _ ?_ (fun hHeld => ?_)
                    · exact HB3.out
                    clear hK K
                    try simp only [Act.put, List.getElem_toArray, List.getElem_cons_zero, List.getElem_cons_succ, List.setIfInBounds_toArray, List.set_cons_zero, List.set_cons_succ]
                    refine wpAnyH_take (i := 7) (v := ?_) rfl (by kernel_rfl) (by kernel_rfl) (by kernel_rfl) (fun _ _ _ h => h) (Or.inl ⟨by rfl, ?_⟩) (by assumption) ?_
                    rotate_left
                    · (intro w hSw; (have hSb := hSw; clear hSw; have c0 := (HSD.out.go hSb).c0; have c1 := (HSD.out.go hSb).c1; have c2 := (HSD.out.go hSb).c2; have c3 := (HSD.out.go hSb).c3; have c4 := (HSD.out.go hSb).c4; simp only at c0 c1 c2 c3 c4; have kk := (HRD.out.go hSb).cell hlt; clear hSb); go_simp; (try with_reducible rfl))
                    try simp only [Act.put, List.getElem_toArray, List.getElem_cons_zero, List.getElem_cons_succ, List.setIfInBounds_toArray, List.set_cons_zero, List.set_cons_succ]
                    refine wpAnyH_take (i := 8) (v := ?_) rfl (by kernel_rfl) (by kernel_rfl) (by kernel_rfl) (fun _ _ _ h => h) (Or.inl ⟨by rfl, ?_⟩) (by assumption) ?_
                    rotate_left
                    · (intro w hSw; (have hSb := hSw; clear hSw; have c0 := (HSD.out.go hSb).c0; have c1 := (HSD.out.go hSb).c1; have c2 := (HSD.out.go hSb).c2; have c3 := (HSD.out.go hSb).c3; have c4 := (HSD.out.go hSb).c4; simp only at c0 c1 c2 c3 c4; have kk := (HRD.out.go hSb).cell hlt; clear hSb); go_simp; (try with_reducible rfl))
                    try simp only [Act.put, List.getElem_toArray, List.getElem_cons_zero, List.getElem_cons_succ, List.setIfInBounds_toArray, List.set_cons_zero, List.set_cons_succ]
                    refine wpAnyH_take (i := 9) (v := ?_) rfl (by kernel_rfl) (by kernel_rfl) (by kernel_rfl) (fun _ _ _ h => h) (Or.inl ⟨by rfl, ?_⟩) (by assumption) ?_
                    rotate_left
                    · (intro w hSw; (have hSb := hSw; clear hSw; have c0 := (HSD.out.go hSb).c0; have c1 := (HSD.out.go hSb).c1; have c2 := (HSD.out.go hSb).c2; have c3 := (HSD.out.go hSb).c3; have c4 := (HSD.out.go hSb).c4; simp only at c0 c1 c2 c3 c4; have kk := (HRD.out.go hSb).cell hlt; clear hSb); go_simp; (try with_reducible rfl))
                    try simp only [Act.put, List.getElem_toArray, List.getElem_cons_zero, List.getElem_cons_succ, List.setIfInBounds_toArray, List.set_cons_zero, List.set_cons_succ]
                    refine wpAnyH_ready (rs := [10]) (by kernel_rfl) (by simp) ?_
                    refine AllReadyH.cons rfl (fun K hK => ?_) AllReadyH.nil
                    rw [if_pos (by rfl)]
                    go_simp
                    refine hK.out _ _ ?_ (fun hHeld => ?_)
                    · exact HB3.out.alloc HB3.out.size _
                    clear hK K
                    try simp only [Act.put, List.getElem_toArray, List.getElem_cons_zero, List.getElem_cons_succ, List.setIfInBounds_toArray, List.set_cons_zero, List.set_cons_succ]
                    refine wpAnyH_ready (rs := [11]) (by kernel_rfl) (by simp) ?_
                    refine AllReadyH.cons rfl (fun K hK => ?_) AllReadyH.nil
                    rw [if_pos (by rfl)]
                    go_simp
                    refine hK.out _ _ ?_ (fun hHeld => ?_)
                    · exact HB3.out.alloc HB3.out.size _
                    clear hK K
                    try simp only [Act.put, List.getElem_toArray, List.getElem_cons_zero, List.getElem_cons_succ, List.setIfInBounds_toArray, List.set_cons_zero, List.set_cons_succ]
                    refine wpAnyH_take (i := 12) (v := ?_) rfl (by kernel_rfl) (by kernel_rfl) (by kernel_rfl) (fun _ _ _ h => h) (Or.inl ⟨by rfl, ?_⟩) (by assumption) ?_
                    rotate_left
                    · (intro w hSw; (have hSb := hSw; clear hSw; have c0 := (HSD.out.go hSb).c0; have c1 := (HSD.out.go hSb).c1; have c2 := (HSD.out.go hSb).c2; have c3 := (HSD.out.go hSb).c3; have c4 := (HSD.out.go hSb).c4; simp only at c0 c1 c2 c3 c4; have kk := (HRD.out.go hSb).cell hlt; clear hSb); go_simp; (try with_reducible rfl))
                    try simp only [Act.put, List.getElem_toArray, List.getElem_cons_zero, List.getElem_cons_succ, List.setIfInBounds_toArray, List.set_cons_zero, List.set_cons_succ]
                    refine wpAnyH_done (by kernel_rfl) (NoPanic.normal ?_) _
                    go_wp2_with fail
                    go_meet
                    case rel => exact ⟨_, _, ⟨l', f', t', o', i'⟩, rfl, rfl, ⟨heap_alloc_new w3 _, HR3.out.go ((Below.refl _ _).alloc (Nat.le_refl _) _), HNB.out⟩, ⟨_, HP.out⟩, HQ.out, hHd.out.trans hHeld⟩
                  · rw [if_pos (by rfl)]
                    go_simp
                    refine hK.out _ _ ?_ (fun hHeld => ?_)
                    · exact (Below.refl wr.drew.heap.size wr.drew).alloc (Nat.le_refl _) _
                    clear hK K
                    try simp only [Act.put, List.getElem_toArray, List.getElem_cons_zero, List.getElem_cons_succ, List.setIfInBounds_toArray, List.set_cons_zero, List.set_cons_succ]
                    refine wpAnyH_ready (rs := [6]) (by kernel_rfl) (by simp) ?_
                    refine AllReadyH.cons rfl (fun K hK => ?_) AllReadyH.nil
                    rw [if_pos (by rfl)]
                    go_simp
                    refine (KG.out (wr.drew.alloc (.cells #[.slice none 0 0, .int .u64 0, .int .i64 0, .int .i64 0, .int .i64 0] 28)) (HSD.out.rd.go ((Below.refl _ _).alloc (Nat.le_refl _) _))).mono ?_
                    rintro e w3 ⟨u, s', l1, rfl, hG, hr, hq, hb⟩
                    obtain ⟨ua, uc, rfl, _⟩ := id hr
                    obtain ⟨l', f', t', o', i'⟩ := s'
                    try simp only at hr
                    try simp only at hq
                    obtain ⟨un, hun⟩ : ∃ n, l'.length = n := ⟨_, rfl⟩
                    rw [hun] at hr hq
                    try simp only [hun]
                    have HP := Lib.hid hG
                    have HQ : Hid (∀ q, Blk (.slice ua un uc) q → wr.heap.size ≤ q) := Lib.hid (fun q h => Nat.le_trans (by simp) (hq q h))
                    clear hun hG
                    have HR3 := Lib.hid hr
                    have HB3 := Lib.hid (next ((Below.refl wr.drew.heap.size wr.drew).alloc (Nat.le_refl _) (.cells #[.slice none 0 0, .int .u64 0, .int .i64 0, .int .i64 0, .int .i64 0] 28)) hb)
                    have HZ : Hid (Zb w3 wr.heap.size 28) := Lib.hid (Zb.go (heap_alloc_new wr.drew (.cells #[.slice none 0 0, .int .u64 0, .int .i64 0, .int .i64 0, .int .i64 0] 28)) hb)
                    have HNB : Hid (¬ Blk (.slice ua un uc) wr.heap.size) := Lib.hid (fun h => by have h5 := hq _ h; rw [World.size_alloc] at h5; exact absurd h5 (Nat.not_succ_le_self _))
                    have z0 : w3.cell? ⟨wr.heap.size, 0, none⟩ = _ := Lib.cell_of_heap HZ.out 0
                    have z1 : w3.cell? ⟨wr.heap.size, 1, none⟩ = _ := Lib.cell_of_heap HZ.out 1
                    have z2 : w3.cell? ⟨wr.heap.size, 2, none⟩ = _ := Lib.cell_of_heap HZ.out 2
                    have z3 : w3.cell? ⟨wr.heap.size, 3, none⟩ = _ := Lib.cell_of_heap HZ.out 3
                    have z4 : w3.cell? ⟨wr.heap.size, 4, none⟩ = _ := Lib.cell_of_heap HZ.out 4
                    have zf : ∀ k, w3.frozen? ⟨wr.heap.size, k, none⟩ = false := fun k => Lib.frozen_of_heap HZ.out k
                    clear hr hq hb
                    refine hK.out _ _ ?_ (fun hHeld => ?_)
                    · exact HB3.out
                    clear hK K
                    try simp only [Act.put, List.getElem_toArray, List.getElem_cons_zero, List.getElem_cons_succ, List.setIfInBounds_toArray, List.set_cons_zero, List.set_cons_succ]
                    refine wpAnyH_take (i := 7) (v := ?_) rfl (by kernel_rfl) (by kernel_rfl) (by kernel_rfl) (fun _ _ _ h => h) (Or.inl ⟨by rfl, ?_⟩) (by assumption) ?_
                    rotate_left
                    · (intro w hSw; (have hSb := hSw; clear hSw; have c0 := (HSD.out.go hSb).c0; have c1 := (HSD.out.go hSb).c1; have c2 := (HSD.out.go hSb).c2; have c3 := (HSD.out.go hSb).c3; have c4 := (HSD.out.go hSb).c4; simp only at c0 c1 c2 c3 c4; have kk := (HRD.out.go hSb).cell hlt; clear hSb); go_simp; (try with_reducible rfl))
                    try simp only [Act.put, List.getElem_toArray, List.getElem_cons_zero, List.getElem_cons_succ, List.setIfInBounds_toArray, List.set_cons_zero, List.set_cons_succ]
                    refine wpAnyH_take (i := 8) (v := ?_) rfl (by kernel_rfl) (by kernel_rfl) (by kernel_rfl) (fun _ _ _ h => h) (Or.inl ⟨by rfl, ?_⟩) (by assumption) ?_
                    rotate_left
                    · (intro w hSw; (have hSb := hSw; clear hSw; have c0 := (HSD.out.go hSb).c0; have c1 := (HSD.out.go hSb).c1; have c2 := (HSD.out.go hSb).c2; have c3 := (HSD.out.go hSb).c3; have c4 := (HSD.out.go hSb).c4; simp only at c0 c1 c2 c3 c4; have kk := (HRD.out.go hSb).cell hlt; clear hSb); go_simp; (try with_reducible rfl))
                    try simp only [Act.put, List.getElem_toArray, List.getElem_cons_zero, List.getElem_cons_succ, List.setIfInBounds_toArray, List.set_cons_zero, List.set_cons_succ]
                    refine wpAnyH_take (i := 9) (v := ?_) rfl (by kernel_rfl) (by kernel_rfl) (by kernel_rfl) (fun _ _ _ h => h) (Or.inl ⟨by rfl, ?_⟩) (by assumption) ?_
                    rotate_left
                    · (intro w hSw; (have hSb := hSw; clear hSw; have c0 := (HSD.out.go hSb).c0; have c1 := (HSD.out.go hSb).c1; have c2 := (HSD.out.go hSb).c2; have c3 := (HSD.out.go hSb).c3; have c4 := (HSD.out.go hSb).c4; simp only at c0 c1 c2 c3 c4; have kk := (HRD.out.go hSb).cell hlt; clear hSb); go_simp; (try with_reducible rfl))
                    try simp only [Act.put, List.getElem_toArray, List.getElem_cons_zero, List.getElem_cons_succ, List.setIfInBounds_toArray, List.set_cons_zero, List.set_cons_succ]
                    refine wpAnyH_ready (rs := [11]) (by kernel_rfl) (by simp) ?_
                    refine AllReadyH.cons rfl (fun K hK => ?_) AllReadyH.nil
                    rw [if_pos (by rfl)]
                    go_simp
                    refine hK.out _ _ ?_ (fun hHeld => ?_)
                    · exact below_five HB3.out (b := wr.heap.size) (Nat.le_refl _) (.slice ua un uc) (.int .u64 f') (.int .i64 t') (.int .i64 o') (.int .i64 i')
                    clear hK K
                    try simp only [Act.put, List.getElem_toArray, List.getElem_cons_zero, List.getElem_cons_succ, List.setIfInBounds_toArray, List.set_cons_zero, List.set_cons_succ]
                    refine wpAnyH_take (i := 12) (v := ?_) rfl (by kernel_rfl) (by kernel_rfl) (by kernel_rfl) (fun _ _ _ h => h) (Or.inl ⟨by rfl, ?_⟩) (by assumption) ?_
                    rotate_left
                    · (intro w hSw; (have hSb := hSw; clear hSw; have c0 := (HSD.out.go hSb).c0; have c1 := (HSD.out.go hSb).c1; have c2 := (HSD.out.go hSb).c2; have c3 := (HSD.out.go hSb).c3; have c4 := (HSD.out.go hSb).c4; simp only at c0 c1 c2 c3 c4; have kk := (HRD.out.go hSb).cell hlt; clear hSb); go_simp; (try with_reducible rfl))
                    try simp only [Act.put, List.getElem_toArray, List.getElem_cons_zero, List.getElem_cons_succ, List.setIfInBounds_toArray, List.set_cons_zero, List.set_cons_succ]
                    refine wpAnyH_done (by kernel_rfl) (NoPanic.normal ?_) _
                    go_wp2_with fail
                    go_meet
                    case rel => exact ⟨_, _, ⟨l', f', t', o', i'⟩, rfl, rfl, ⟨five_put HZ.out (.slice ua un uc) (.int .u64 f') (.int .i64 t') (.int .i64 o') (.int .i64 i'), rd_five HR3.out HNB.out (.slice ua un uc) (.int .u64 f') (.int .i64 t') (.int .i64 o') (.int .i64 i'), HNB.out⟩, ⟨_, HP.out⟩, HQ.out, hHd.out.trans hHeld⟩
                case rest =>
                  obtain ⟨b, u, s1, rfl, rfl, hsb, ⟨l1, hG⟩, hq, hb⟩ := hcut
                  have HA2 : Hid (AllI k L (j + 1) s1) := Lib.hid (HSTEP.out _ _ hG)
                  obtain ⟨ua, uc, rfl, _⟩ := id hsb.rd
                  obtain ⟨un, hun⟩ : ∃ n, s1.l.length = n := ⟨_, rfl⟩
                  rw [hun] at hsb hq
                  have HSG := Lib.hid (HSB.out.go hb)
                  have HR1 := Lib.hid (HRW.out.go hb)
                  have HB1 := Lib.hid (HBB.out.trans (hb.mono HBB.out.size))
                  obtain ⟨l', f', t', o', i'⟩ := s1
                  have HSN : Hid (Sb wc b (.slice ua un uc) ⟨l', f', t', o', i'⟩) := Lib.hid hsb
                  have HNG : Hid (¬ Blk (.slice ua un uc) g) := Lib.hid (fun h => by have := hq g h; omega)
                  clear hsb hq hb hG hun KG HSD HRD HSTEP HXC
                  have y0 := HSN.out.c0
                  have y1 := HSN.out.c1
                  have y2 := HSN.out.c2
                  have y3 := HSN.out.c3
                  have y4 := HSN.out.c4
                  simp only at y0 y1 y2 y3 y4
                  have z0 := HSG.out.c0
                  have z1 := HSG.out.c1
                  have z2 := HSG.out.c2
                  have z3 := HSG.out.c3
                  have z4 := HSG.out.c4
                  simp only at z0 z1 z2 z3 z4
                  have zf : ∀ k, wc.frozen? ⟨g, k, none⟩ = false := HSG.out.fz
                  have HSF : Hid (Sb ((((((wc).setCell ⟨g, 0, none⟩ (.slice ua un uc)).setCell ⟨g, 1, none⟩ (.int .u64 f')).setCell ⟨g, 2, none⟩ (.int .i64 t')).setCell ⟨g, 3, none⟩ (.int .i64 o')).setCell ⟨g, 4, none⟩ (.int .i64 i')) g (.slice ua un uc) ⟨l', f', t', o', i'⟩) := Lib.hid ⟨five_put HSG.out.hb (.slice ua un uc) (.int .u64 f') (.int .i64 t') (.int .i64 o') (.int .i64 i'), rd_five HSN.out.rd HNG.out (.slice ua un uc) (.int .u64 f') (.int .i64 t') (.int .i64 o') (.int .i64 i'), HNG.out⟩
                  have HBF := Lib.hid (below_five HB1.out (b := g) hgw (.slice ua un uc) (.int .u64 f') (.int .i64 t') (.int .i64 o') (.int .i64 i'))
                  have HRF : Hid (RowN ((((((wc).setCell ⟨g, 0, none⟩ (.slice ua un uc)).setCell ⟨g, 1, none⟩ (.int .u64 f')).setCell ⟨g, 2, none⟩ (.int .i64 t')).setCell ⟨g, 3, none⟩ (.int .i64 o')).setCell ⟨g, 4, none⟩ (.int .i64 i')) B k (fun j => ((outN k L j : Nat) : Int))) := Lib.hid (HR1.out.same (by
                    have hB : B ≠ g := by omega
                    exact (Below.heap_setCell _ ⟨g, 4, none⟩ _ B hB).trans ((Below.heap_setCell _ ⟨g, 3, none⟩ _ B hB).trans ((Below.heap_setCell _ ⟨g, 2, none⟩ _ B hB).trans ((Below.heap_setCell _ ⟨g, 1, none⟩ _ B hB).trans (Below.heap_setCell _ ⟨g, 0, none⟩ _ B hB))))))
                  go_wp2_with fail
                  go_roundw
                  case rel => exact ⟨j + 1, _, _, by omega, by go_num, HA2.out, HSF.out, HRF.out, HBF.out⟩
                  case measure => simp [intOf]; omega
              · have hnlt : ¬ (j : Int) < (k : Int) := by omega
                obtain rfl : j = k := by omega
                have hl := hall.done (by omega)
                have hfl := hall.fl
                have ht0 := hall.tp0
                have ht1 := hall.tp1
                obtain ⟨l, fl, tp, ow, si⟩ := s
                try simp only at hl
                try simp only at hfl
                try simp only at ht0
                try simp only at ht1
                try simp only at how
                subst hl
                subst hfl
                subst how
                have hm1 : m' = 1 := by rw [← hm]; rfl
                subst hm1
                obtain ⟨N, hN⟩ : ∃ N, (j : Int) - 1 = N := ⟨_, rfl⟩
                have KF := Lib.hid (fun W h => frame_any a 1 c' ⟨[(0, N)], 0, tp, (j : Int), si⟩ (j : Int) W rfl (by decide) h (by simp) ht0 (by show tp ≤ _; omega) (by omega) (by omega))
                rw [hN] at HSB
                try simp only at KF
                obtain ⟨D, hD⟩ : ∃ D, max ((j : Int) - tp) 0 = D := ⟨_, rfl⟩
                rw [hD] at KF
                have hD0 : 0 ≤ D := by omega
                have hD1 : D ≤ 1000 := by omega
                have hN0 : 0 ≤ N := by omega
                have hN1 : N ≤ 1000 := by omega
                have CT := Lib.hid (fun W h => set13_any (.slice (some ⟨0, 0, none⟩) 1 1) [(0, N)] W (by simp) h)
                have y0 := HSB.out.c0
                have y1 := HSB.out.c1
                have y2 := HSB.out.c2
                have y3 := HSB.out.c3
                have y4 := HSB.out.c4
                simp only at y0 y1 y2 y3 y4
                clear hD hall hsb hrw hbb hcan hm HAL HRW
                go_wp2_with fail
                with_reducible refine (KF.out _ HSB.out.rd).mono ?_
                rintro e w4 ⟨f, rfl, hr, hq, hb⟩
                obtain ⟨fa, fc, rfl, _⟩ := id hr
                have hr : Rd w4 (.slice fa 1 fc) [(0, N)] := hr
                obtain ⟨_, _, e5, hfc, hfrow⟩ := id hr
                cases e5
                obtain ⟨fb, fo, rfl, hfcell⟩ := hfrow (by simp)
                have hfc1 : 1 ≤ fc := hfc
                obtain ⟨g1, g2⟩ := hfcell 0 (by simp)
                have g1 : w4.cell? ⟨fb, fo, none⟩ = some (.int .u64 0) := g1
                have g2 : w4.cell? ⟨fb, fo + 1, none⟩ = some (.int .u64 N) := g2
                have hfl : fb < w4.heap.size := World.block_lt_of_cell? w4 _ g1
                have hbf : Below w4.heap.size w4 (w4.alloc (.cells #[.int .u64 2, .int .u64 0, .int .u64 0, .int .u64 0, .int .u64 0, .int .u64 0, .int .u64 0, .int .u64 D, .bool false, .string ⟨#[]⟩, .string ⟨#[]⟩, .string ⟨#[]⟩, .slice (some ⟨fb, fo, none⟩) 1 fc] 40)) := (Below.refl _ _).alloc (Nat.le_refl _) _
                have HS4 := Lib.hid (HSB.out.go (next hb hbf))
                have HB4 := Lib.hid (HBB.out.trans ((next hb hbf).mono HBB.out.size))
                have HROWF : Hid ((w4.alloc (.cells #[.int .u64 2, .int .u64 0, .int .u64 0, .int .u64 0, .int .u64 0, .int .u64 0, .int .u64 0, .int .u64 D, .bool false, .string ⟨#[]⟩, .string ⟨#[]⟩, .string ⟨#[]⟩, .slice (some ⟨fb, fo, none⟩) 1 fc] 40)).cell? ⟨fb, fo, none⟩ = some (.int .u64 0) ∧ (w4.alloc (.cells #[.int .u64 2, .int .u64 0, .int .u64 0, .int .u64 0, .int .u64 0, .int .u64 0, .int .u64 0, .int .u64 D, .bool false, .string ⟨#[]⟩, .string ⟨#[]⟩, .string ⟨#[]⟩, .slice (some ⟨fb, fo, none⟩) 1 fc] 40)).cell? ⟨fb, fo + 1, none⟩ = some (.int .u64 N) ∧ fb < (w4.alloc (.cells #[.int .u64 2, .int .u64 0, .int .u64 0, .int .u64 0, .int .u64 0, .int .u64 0, .int .u64 0, .int .u64 D, .bool false, .string ⟨#[]⟩, .string ⟨#[]⟩, .string ⟨#[]⟩, .slice (some ⟨fb, fo, none⟩) 1 fc] 40)).heap.size) := Lib.hid ⟨cell_below hbf g1 hfl, cell_below hbf g2 hfl, by simp; omega⟩
                have HFD : Hid ((w4.alloc (.cells #[.int .u64 2, .int .u64 0, .int .u64 0, .int .u64 0, .int .u64 0, .int .u64 0, .int .u64 0, .int .u64 D, .bool false, .string ⟨#[]⟩, .string ⟨#[]⟩, .string ⟨#[]⟩, .slice (some ⟨fb, fo, none⟩) 1 fc] 40)).drew.heap[w4.heap.size]? = some (.cells #[.int .u64 2, .int .u64 0, .int .u64 0, .int .u64 0, .int .u64 0, .int .u64 0, .int .u64 0, .int .u64 D, .bool false, .string ⟨#[]⟩, .string ⟨#[]⟩, .string ⟨#[]⟩, .slice (some ⟨fb, fo, none⟩) 1 fc] 40 (0, 0))) := Lib.hid (heap_alloc_new w4 _)
                have HFL : Hid (w4.heap.size < (w4.alloc (.cells #[.int .u64 2, .int .u64 0, .int .u64 0, .int .u64 0, .int .u64 0, .int .u64 0, .int .u64 0, .int .u64 D, .bool false, .string ⟨#[]⟩, .string ⟨#[]⟩, .string ⟨#[]⟩, .slice (some ⟨fb, fo, none⟩) 1 fc] 40)).drew.heap.size) := Lib.hid (by show w4.heap.size < (w4.alloc _).heap.size; simp)
                have HRF4 : Hid (Rd (w4.alloc (.cells #[.int .u64 2, .int .u64 0, .int .u64 0, .int .u64 0, .int .u64 0, .int .u64 0, .int .u64 0, .int .u64 D, .bool false, .string ⟨#[]⟩, .string ⟨#[]⟩, .string ⟨#[]⟩, .slice (some ⟨fb, fo, none⟩) 1 fc] 40)).drew (.slice (some ⟨fb, fo, none⟩) 1 fc) [(0, N)]) := Lib.hid ((hr.go hbf).go (Below.refl _ _).drew)
                replace CT := Lib.hid (fun W h => set13_any (.slice (some ⟨fb, fo, none⟩) 1 fc) [(0, N)] W (by simp) h)
                clear hr hq hb hfrow hfcell g1 g2 hfl hbf hfc y0 y1 y2 y3 y4 KF HSB HBB
                go_wp2_with fail
                generalize w4.alloc (.cells #[.int .u64 2, .int .u64 0, .int .u64 0, .int .u64 0, .int .u64 0, .int .u64 0, .int .u64 0, .int .u64 D, .bool false, .string ⟨#[]⟩, .string ⟨#[]⟩, .string ⟨#[]⟩, .slice (some ⟨fb, fo, none⟩) 1 fc] 40) = W4 at *
                generalize w4.heap.size = FB at *
                refine wp_region_noPanic ?_
                refine wp_region_held_drew (S := fun W : World => Below W4.drew.heap.size W4.drew W) (by kernel_rfl) ?_ (fun hHeld => ?_)
                · exact Below.refl W4.drew.heap.size W4.drew
                refine wpAnyH_take (i := 0) (v := ?_) rfl (by kernel_rfl) (by kernel_rfl) (by kernel_rfl) (fun _ _ _ h => h) (Or.inl ⟨by rfl, ?_⟩) (by assumption) ?_
                rotate_left
                · (intro w hSw; (have hSb := hSw; clear hSw; have hFF := (hSb.block FB HFL.out).trans HFD.out; have k7 := Lib.cell_of_heap hFF 7; have k12 := Lib.cell_of_heap hFF 12; simp only [List.getElem?_toArray, List.getElem?_cons_succ, List.getElem?_cons_zero] at k7 k12; clear hSb hFF); go_simp; (try with_reducible rfl))
                try simp only [Act.put, List.getElem_toArray, List.getElem_cons_zero, List.getElem_cons_succ, List.setIfInBounds_toArray, List.set_cons_zero, List.set_cons_succ]
                refine wpAnyH_take (i := 1) (v := ?_) rfl (by kernel_rfl) (by kernel_rfl) (by kernel_rfl) (fun _ _ _ h => h) (Or.inl ⟨by rfl, ?_⟩) (by assumption) ?_
                rotate_left
                · (intro w hSw; (have hSb := hSw; clear hSw; have hFF := (hSb.block FB HFL.out).trans HFD.out; have k7 := Lib.cell_of_heap hFF 7; have k12 := Lib.cell_of_heap hFF 12; simp only [List.getElem?_toArray, List.getElem?_cons_succ, List.getElem?_cons_zero] at k7 k12; clear hSb hFF); go_simp; (try with_reducible rfl))
                try simp only [Act.put, List.getElem_toArray, List.getElem_cons_zero, List.getElem_cons_succ, List.setIfInBounds_toArray, List.set_cons_zero, List.set_cons_succ]
                refine wpAnyH_take (i := 3) (v := ?_) rfl (by kernel_rfl) (by kernel_rfl) (by kernel_rfl) (fun _ _ _ h => h) (Or.inl ⟨by rfl, ?_⟩) (by assumption) ?_
                rotate_left
                · (intro w hSw; (have hSb := hSw; clear hSw; have hFF := (hSb.block FB HFL.out).trans HFD.out; have k7 := Lib.cell_of_heap hFF 7; have k12 := Lib.cell_of_heap hFF 12; simp only [List.getElem?_toArray, List.getElem?_cons_succ, List.getElem?_cons_zero] at k7 k12; clear hSb hFF); go_simp; (try with_reducible rfl))
                try simp only [Act.put, List.getElem_toArray, List.getElem_cons_zero, List.getElem_cons_succ, List.setIfInBounds_toArray, List.set_cons_zero, List.set_cons_succ]
                refine wpAnyH_take (i := 4) (v := ?_) rfl (by kernel_rfl) (by kernel_rfl) (by kernel_rfl) (fun _ _ _ h => h) (Or.inl ⟨by rfl, ?_⟩) (by assumption) ?_
                rotate_left
                · (intro w hSw; (have hSb := hSw; clear hSw; have hFF := (hSb.block FB HFL.out).trans HFD.out; have k7 := Lib.cell_of_heap hFF 7; have k12 := Lib.cell_of_heap hFF 12; simp only [List.getElem?_toArray, List.getElem?_cons_succ, List.getElem?_cons_zero] at k7 k12; clear hSb hFF); go_simp; (try with_reducible rfl))
                try simp only [Act.put, List.getElem_toArray, List.getElem_cons_zero, List.getElem_cons_succ, List.setIfInBounds_toArray, List.set_cons_zero, List.set_cons_succ]
                refine wpAnyH_ready (rs := [2]) (by kernel_rfl) (by simp) ?_
                refine AllReadyH.cons rfl (fun K hK => ?_) AllReadyH.nil
                rw [if_pos (by rfl)]
                go_simp
                refine (CT.out _ HRF4.out).mono ?_
                rintro e u1 ⟨z, rfl, hr, hb⟩
                obtain ⟨za, zc, rfl, _⟩ := id hr
                have hr : Rd u1 (.slice za 1 zc) [(0, N)] := hr
                obtain ⟨_, _, e5, hzc, hzrow⟩ := id hr
                cases e5
                obtain ⟨zb, zo, rfl, hzcell⟩ := hzrow (by simp)
                have hzc1 : 1 ≤ zc := hzc
                obtain ⟨g1, g2⟩ := hzcell 0 (by simp)
                have g1 : u1.cell? ⟨zb, zo, none⟩ = some (.int .u64 0) := g1
                have g2 : u1.cell? ⟨zb, zo + 1, none⟩ = some (.int .u64 N) := g2
                have HU1 := Lib.hid hb
                have HPUT := Lib.hid (put_one zb zo zc N D u1 hzc1 hN0 (by omega) hD0 (by omega) g1 g2)
                clear hr hb hzrow hzcell g1 g2 hzc hzc1
                refine hK.out _ _ ?_ (fun hHeld => ?_)
                · exact HU1.out
                clear hK K
                try simp only [Act.put, List.getElem_toArray, List.getElem_cons_zero, List.getElem_cons_succ, List.setIfInBounds_toArray, List.set_cons_zero, List.set_cons_succ]
                refine wpAnyH_take (i := 5) (v := ?_) rfl (by kernel_rfl) (by kernel_rfl) (by kernel_rfl) (fun _ _ _ h => h) (Or.inl ⟨by rfl, ?_⟩) (by assumption) ?_
                rotate_left
                · (intro w hSw; (have hSb := hSw; clear hSw; have hFF := (hSb.block FB HFL.out).trans HFD.out; have k7 := Lib.cell_of_heap hFF 7; have k12 := Lib.cell_of_heap hFF 12; simp only [List.getElem?_toArray, List.getElem?_cons_succ, List.getElem?_cons_zero] at k7 k12; clear hSb hFF); go_simp; (try with_reducible rfl))
                try simp only [Act.put, List.getElem_toArray, List.getElem_cons_zero, List.getElem_cons_succ, List.setIfInBounds_toArray, List.set_cons_zero, List.set_cons_succ]
                refine wpAnyH_ready (rs := [6]) (by kernel_rfl) (by simp) ?_
                refine AllReadyH.cons rfl (fun K hK => ?_) AllReadyH.nil
                rw [if_pos (by rfl)]
                go_simp
                refine HPUT.out.mono ?_
                rintro e u2 ⟨sx, rfl, hb⟩
                have HU2 := Lib.hid (HU1.out.trans (hb.mono HU1.out.size))
                clear hb
                refine hK.out _ _ ?_ (fun hHeld => ?_)
                · exact HU2.out
                clear hK K
                try simp only [Act.put, List.getElem_toArray, List.getElem_cons_zero, List.getElem_cons_succ, List.setIfInBounds_toArray, List.set_cons_zero, List.set_cons_succ]
                refine wpAnyH_take (i := 7) (v := ?_) rfl (by kernel_rfl) (by kernel_rfl) (by kernel_rfl) (fun _ _ _ h => h) (Or.inl ⟨by rfl, ?_⟩) (by assumption) ?_
                rotate_left
                · (intro w hSw; (have hSb := hSw; clear hSw; have hFF := (hSb.block FB HFL.out).trans HFD.out; have k7 := Lib.cell_of_heap hFF 7; have k12 := Lib.cell_of_heap hFF 12; simp only [List.getElem?_toArray, List.getElem?_cons_succ, List.getElem?_cons_zero] at k7 k12; clear hSb hFF); go_simp; (try with_reducible rfl))
                try simp only [Act.put, List.getElem_toArray, List.getElem_cons_zero, List.getElem_cons_succ, List.setIfInBounds_toArray, List.set_cons_zero, List.set_cons_succ]
                refine wpAnyH_take (i := 8) (v := ?_) rfl (by kernel_rfl) (by kernel_rfl) (by kernel_rfl) (fun _ _ _ h => h) (Or.inl ⟨by rfl, ?_⟩) (by assumption) ?_
                rotate_left
                · (intro w hSw; (have hSb := hSw; clear hSw; have hFF := (hSb.block FB HFL.out).trans HFD.out; have k7 := Lib.cell_of_heap hFF 7; have k12 := Lib.cell_of_heap hFF 12; simp only [List.getElem?_toArray, List.getElem?_cons_succ, List.getElem?_cons_zero] at k7 k12; clear hSb hFF); go_simp; (try with_reducible rfl))
                try simp only [Act.put, List.getElem_toArray, List.getElem_cons_zero, List.getElem_cons_succ, List.setIfInBounds_toArray, List.set_cons_zero, List.set_cons_succ]
                refine wpAnyH_take (i := 9) (v := ?_) rfl (by kernel_rfl) (by kernel_rfl) (by kernel_rfl) (fun _ _ _ h => h) (Or.inl ⟨by rfl, ?_⟩) (by assumption) ?_
                rotate_left
                · (intro w hSw; (have hSb := hSw; clear hSw; have hFF := (hSb.block FB HFL.out).trans HFD.out; have k7 := Lib.cell_of_heap hFF 7; have k12 := Lib.cell_of_heap hFF 12; simp only [List.getElem?_toArray, List.getElem?_cons_succ, List.getElem?_cons_zero] at k7 k12; clear hSb hFF); go_simp; (try with_reducible rfl))
                try simp only [Act.put, List.getElem_toArray, List.getElem_cons_zero, List.getElem_cons_succ, List.setIfInBounds_toArray, List.set_cons_zero, List.set_cons_succ]
                refine wpAnyH_take (i := 10) (v := ?_) rfl (by kernel_rfl) (by kernel_rfl) (by kernel_rfl) (fun _ _ _ h => h) (Or.inl ⟨by rfl, ?_⟩) (by assumption) ?_
                rotate_left
                · (intro w hSw; (have hSb := hSw; clear hSw; have hFF := (hSb.block FB HFL.out).trans HFD.out; have k7 := Lib.cell_of_heap hFF 7; have k12 := Lib.cell_of_heap hFF 12; simp only [List.getElem?_toArray, List.getElem?_cons_succ, List.getElem?_cons_zero] at k7 k12; clear hSb hFF); go_simp; (try with_reducible rfl))
                try simp only [Act.put, List.getElem_toArray, List.getElem_cons_zero, List.getElem_cons_succ, List.setIfInBounds_toArray, List.set_cons_zero, List.set_cons_succ]
                refine wpAnyH_take (i := 11) (v := ?_) rfl (by kernel_rfl) (by kernel_rfl) (by kernel_rfl) (fun _ _ _ h => h) (Or.inl ⟨by rfl, ?_⟩) (by assumption) ?_
                rotate_left
                · (intro w hSw; (have hSb := hSw; clear hSw; have hFF := (hSb.block FB HFL.out).trans HFD.out; have k7 := Lib.cell_of_heap hFF 7; have k12 := Lib.cell_of_heap hFF 12; simp only [List.getElem?_toArray, List.getElem?_cons_succ, List.getElem?_cons_zero] at k7 k12; clear hSb hFF); go_simp; (try with_reducible rfl))
                try simp only [Act.put, List.getElem_toArray, List.getElem_cons_zero, List.getElem_cons_succ, List.setIfInBounds_toArray, List.set_cons_zero, List.set_cons_succ]
                refine wpAnyH_done (by kernel_rfl) (NoPanic.normal ?_) _
                have HB9 := Lib.hid (HB4.out.trans ((Below.refl _ _).drew.mono HB4.out.size |>.trans (HU2.out.mono HB4.out.size)))
                have hBd : Below W4.heap.size W4 u2 := (Below.refl _ _).drew.trans HU2.out
                have hFF := (HU2.out.block FB HFL.out).trans HFD.out
                have k12 : u2.cell? ⟨FB, 12, none⟩ = _ := Lib.cell_of_heap hFF 12
                have HS9 := Lib.hid (HS4.out.go hBd)
                have kf0 := cell_below hBd HROWF.out.1 HROWF.out.2.2
                have kf1 := cell_below hBd HROWF.out.2.1 HROWF.out.2.2
                have y0 := HS9.out.c0
                have y1 := HS9.out.c1
                have y2 := HS9.out.c2
                have y3 := HS9.out.c3
                have y4 := HS9.out.c4
                simp only at y0 y1 y2 y3 y4
                clear hFF hBd HS4 HRF4 HFD
                go_wp2_with fail
                with_reducible refine (CS.out _).mono ?_
                rintro e u3 ⟨rfl, hb⟩
                have HB10 := Lib.hid (HB9.out.trans (hb.mono HB9.out.size))
                clear hb
                go_wp2_with fail
                go_ret
                exact ⟨rfl, HB10.out⟩
theorem law_all (q : Int) (a : Option Addr) (n c : Nat) (z : List Int) (w : World) (w0 : (Lit.int .u8 q).wf = true) (hr : IsRow .u8 w a n c z) :
    Calls Try.prog 4 #[.int .u8 q, .slice a n c] w fun e w' => e = .returned (.bool true) ∧ Below w.heap.size w w' := by
  simp only [Lit.wf, Bool.and_eq_true, decide_eq_true_eq] at w0
  have qa : 0 ≤ q.tmod 100 := Int.tmod_nonneg _ w0.1
  have hm : n ≤ maxLen := by
    rcases hr with ⟨_, rfl, _⟩ | ⟨ad, _, h1, h2, _⟩
    · exact Nat.zero_le _
    · omega
  exact all_law q a n c (1 + q.tmod 100).toNat z w hm (ri_of hr) w0.1 w0.2 (by omega)
end Go.Proofs.Ytliakeiaeakliaa.Rg
