/- The walks of layer 7: Sum of rows; Hex; Xor; what is shown. · The walks of layer 7: Xor; what is shown. · The walks of layer 9: a text cut, or filled up; the words of a key and a nonce; a counter among them · The walks of layer 9: the bytes that the words are mixed to; Block -/
import Derived.Test.YtagbkmoahflfdaaGreatDoorJa05
import Derived.Deep.RegionWith
import Derived.Test.YtagbkmoahflfdaaGreatDoorJa03
import Derived.Deep.WholeRow
import Derived.Great.Ranges
import Derived.Great.Walk
namespace Go.Proofs.YtagbkmoahflfdaaGreatDoor.Dg
set_option maxRecDepth 20000
open Go.RowKit
set_option linter.unusedVariables false
set_option linter.unusedSimpArgs false

def cat (xs : List ByteArray) : List UInt8 := (xs.map (·.data.toList)).flatten
theorem join_cat (l : List (List UInt8)) : Lib.join l [] = l.flatten := by
  unfold Lib.join List.intercalate
  induction l with
  | nil => rfl
  | cons a t ih =>
    cases t with
    | nil => simp
    | cons b t => simp only [List.intersperse_cons_cons, List.flatten_cons, ih, List.nil_append]
/-- Texts that are read. -/
def RowS (w : World) (b o : Nat) (xs : List ByteArray) : Prop := b < w.heap.size ∧ ∀ (j : Nat) x, xs[j]? = some x → w.cell? ⟨b, o + j, none⟩ = some (.string x)
theorem RowS.below {w w' : World} {b o B : Nat} {xs : List ByteArray} (h : RowS w b o xs) (hb : Below B w w') (hB : b < B) : RowS w' b o xs :=
  ⟨Nat.lt_of_lt_of_le h.1 hb.size, fun j x hj => (hb.cell (p := ⟨b, o + j, none⟩) hB).trans (h.2 j x hj)⟩
theorem sum_row (b o c : Nat) (xs : List ByteArray) (w : World) (hr : RowS w b o xs) (hn : xs.length ≤ 100000) (hc : xs.length ≤ c) (hl : (cat xs).length ≤ 100000) :
    Calls Tryz.prog 108 #[.slice (some ⟨b, o, none⟩) xs.length c] w fun e w' => e = .returned (.string ⟨(sha (cat xs)).toArray⟩) ∧ Below w.heap.size w w' :=
  sum_of _ (cat xs) w hl (Lib.hid fun W hW => by
    have hj : Lib.join (xs.map (·.data.toList)) (⟨#[]⟩ : ByteArray).data.toList = cat xs := join_cat _
    have h := Tryz.strings_Join b o c xs ⟨#[]⟩ W (hr.below hW hr.1).2 (Nat.lt_of_lt_of_le hr.1 hW.size) (by omega) hc (by rw [hj]; omega)
    rw [hj] at h
    exact h)
def dg (k : Nat) : UInt8 := ([48, 49, 50, 51, 52, 53, 54, 55, 56, 57, 97, 98, 99, 100, 101, 102] : List UInt8).getD k 0
def hexL (l : List UInt8) : List UInt8 := l.flatMap fun c => [dg (c.toNat / 16), dg (c.toNat % 16)]
theorem hexL_step (l : List UInt8) (k : Nat) (c : UInt8) (hk : l[k]? = some c) : hexL (l.take (k + 1)) = hexL (l.take k) ++ [dg (c.toNat / 16), dg (c.toNat % 16)] := by
  obtain ⟨h, hc⟩ := List.getElem?_eq_some_iff.1 hk
  unfold hexL
  rw [List.take_succ_eq_append_getElem h, hc]
  simp only [List.flatMap_append, List.flatMap_cons, List.flatMap_nil, List.append_nil]
theorem hexL_len (l : List UInt8) : (hexL l).length = 2 * l.length := by
  induction l with
  | nil => rfl
  | cons x l ih =>
    have : hexL (x :: l) = [dg (x.toNat / 16), dg (x.toNat % 16)] ++ hexL l := by simp [hexL]
    rw [this, List.length_append, ih, List.length_cons, List.length_cons, List.length_cons, List.length_nil]; omega
theorem index_dig (k : Nat) (hk : k < 16) (w : World) : (Instr.index 9 (.string ⟨#[48, 49, 50, 51, 52, 53, 54, 55, 56, 57, 97, 98, 99, 100, 101, 102]⟩) (.int .u8 (k : Nat))).run Tryz.prog w = .ok (.int .u8 ((dg k).toNat : Nat)) w := by
  have : k = 0 ∨ k = 1 ∨ k = 2 ∨ k = 3 ∨ k = 4 ∨ k = 5 ∨ k = 6 ∨ k = 7 ∨ k = 8 ∨ k = 9 ∨ k = 10 ∨ k = 11 ∨ k = 12 ∨ k = 13 ∨ k = 14 ∨ k = 15 := by omega
  rcases this with rfl | rfl | rfl | rfl | rfl | rfl | rfl | rfl | rfl | rfl | rfl | rfl | rfl | rfl | rfl | rfl <;> (show _ = _; kernel_rfl)
theorem and15 (c : Nat) (hc : c < 256) : bits .and .u8 (c : Int) 15 = ((c % 16 : Nat) : Int) := by
  have h1 : (BitVec.ofInt 8 (c : Int)).toNat = c := by
    rw [BitVec.ofInt_natCast, BitVec.toNat_ofNat]; exact Nat.mod_eq_of_lt (by omega)
  have h2 : (BitVec.ofInt 8 (15 : Int)).toNat = 15 := by decide
  show IntKind.u8.wrap ((BitVec.ofInt 8 (c : Int) &&& BitVec.ofInt 8 (15 : Int)).toNat : Int) = _
  rw [BitVec.toNat_and, h1, h2, IntKind.wrap_u8]
  have h3 : c &&& 15 = c % 16 := Nat.and_two_pow_sub_one_eq_mod c 4
  rw [h3]
  omega
theorem byteCells_two (a b : UInt8) : Lib.byteCells [a, b] = [.int .u8 a.toNat, .int .u8 b.toNat] := rfl

set_option maxHeartbeats 4000000 in
theorem hex_any (s : ByteArray) (w : World) (hs : s.size ≤ 100000) :
    Calls Tryz.prog 31 #[.string s] w fun e w' => e = .returned (.string ⟨(hexL s.data.toList).toArray⟩) ∧ Below w.heap.size w w' := by
  have HB := Lib.hid (Lib.fresh_isBuilder 68 5 w)
  have hls : s.data.toList.length = s.size := by simp
  have HLS := Lib.hid hls
  clear hls
  go_enter Tryz.func31, Tryz.ntmps31
  go_wp2
  go_loopw [7] (fun iv wr => ∃ k : Nat, k ≤ s.size ∧ iv = .int .i64 k ∧ IB w.heap.size (Lib.byteCells (hexL (s.data.toList.take k))) wr ∧ Below w.heap.size w wr) (fun iv _ => s.size - (intOf iv).toNat)
  case atStart => exact ⟨0, Nat.zero_le _, rfl, HB.out, (Below.refl _ _).alloc (Nat.le_refl _) _⟩
  case round =>
    obtain ⟨k, hk, rfl, hI, hb⟩ := hrel
    have HI := Lib.hid hI
    clear hI
    have hsz := hb.size
    have HBr := Lib.hid hb
    clear hb
    by_cases hlt : k < s.size
    · obtain ⟨c, hc⟩ : ∃ c, s[k] = c := ⟨_, rfl⟩
      have hget : s.data.toList[k]? = some c := by
        rw [List.getElem?_eq_getElem (by rw [HLS.out]; exact hlt), ← hc]; rfl
      have HS : Hid (Lib.byteCells (hexL (s.data.toList.take (k + 1))) = Lib.byteCells (hexL (s.data.toList.take k)) ++ [.int .u8 (dg (c.toNat / 16)).toNat, .int .u8 (dg (c.toNat % 16)).toNat]) := Lib.hid (by rw [hexL_step _ _ _ hget, byteCells_app, byteCells_two])
      have hlen : (Lib.byteCells (hexL (s.data.toList.take k))).length ≤ 200000 := by
        rw [byteCells_len, hexL_len, List.length_take]; omega
      generalize hbs : Lib.byteCells (hexL (s.data.toList.take k)) = bs at HI HS hlen
      have HBS := Lib.hid hbs
      have hc8 := c.toNat_lt
      have i1 := index_dig (c.toNat / 16) (by omega)
      have i2 := index_dig (c.toNat % 16) (by omega)
      have e2 := and15 c.toNat (by omega)
      obtain ⟨h, hh⟩ : ∃ h, c.toNat / 16 = h := ⟨_, rfl⟩
      obtain ⟨l, hl⟩ : ∃ l, c.toNat % 16 = l := ⟨_, rfl⟩
      have e1 : (c.toNat : Int) / 16 = (h : Int) := by omega
      rw [hh] at i1 HS
      rw [hl] at i2 HS e2
      clear hbs hget hh hl
      go_wp2_with fail
      refine (Bld.writeByte _ _ _ _ _ HI.out (by omega) hsz).mono ?_
      rintro e w1 ⟨rfl, h1, hb1⟩
      have H1 := Lib.hid h1
      have hs1 : w.heap.size ≤ w1.heap.size := Nat.le_trans hsz hb1.size
      have HB1 := Lib.hid (HBr.out.trans hb1)
      clear h1 hb1
      go_wp2_with fail
      refine (Bld.writeByte _ _ _ _ _ H1.out (by simp; omega) hs1).mono ?_
      rintro e w2 ⟨rfl, h1, hb1⟩
      have H2 : Hid (IB w.heap.size (Lib.byteCells (hexL (s.data.toList.take (k + 1)))) w2) := Lib.hid (by rw [HS.out]; simpa using h1)
      have HB2 := Lib.hid (HB1.out.trans hb1)
      clear h1 hb1
      go_wp2
      go_roundw
      case rel => exact ⟨k + 1, by omega, by go_num, H2.out, HB2.out⟩
      case measure => simp [intOf]; omega
    · obtain rfl : k = s.size := by omega
      rw [List.take_of_length_le (by rw [HLS.out]; exact Nat.le_refl _)] at HI
      go_wp2_with fail
      refine (Tryz.Builder_String_any w.heap.size w.heap.size _ _ HI.out hsz).mono ?_
      rintro e w1 ⟨rfl, hb1⟩
      have HB1 := Lib.hid (HBr.out.trans hb1)
      clear hb1
      go_wp2
      go_ret
      exact ⟨rfl, HB1.out⟩
end Go.Proofs.YtagbkmoahflfdaaGreatDoor.Dg
namespace Go.Proofs.YtagbkmoahflfdaaGreatDoor.Dg
set_option maxRecDepth 20000
open Go.RowKit
set_option linter.unusedVariables false
set_option linter.unusedSimpArgs false

def xorL (a b : List UInt8) : List UInt8 := List.zipWith (· ^^^ ·) a b
theorem xorL_len (a b : List UInt8) : (xorL a b).length = min a.length b.length := by simp [xorL]
theorem xorL_step (a b : List UInt8) (k : Nat) (x y : UInt8) (hx : a[k]? = some x) (hy : b[k]? = some y) : (xorL a b).take (k + 1) = (xorL a b).take k ++ [x ^^^ y] := by
  obtain ⟨h1, e1⟩ := List.getElem?_eq_some_iff.1 hx
  obtain ⟨h2, e2⟩ := List.getElem?_eq_some_iff.1 hy
  have h : k < (xorL a b).length := by rw [xorL_len]; omega
  rw [List.take_succ_eq_append_getElem h]
  congr 1
  simp [xorL, e1, e2]
theorem xor8 (x y : UInt8) : bits .xor .u8 (x.toNat : Int) (y.toNat : Int) = ((x.toNat ^^^ y.toNat : Nat) : Int) := by
  have hx := x.toNat_lt
  have hy := y.toNat_lt
  have h1 : (BitVec.ofInt 8 (x.toNat : Int)).toNat = x.toNat := by
    rw [BitVec.ofInt_natCast, BitVec.toNat_ofNat]; exact Nat.mod_eq_of_lt (by omega)
  have h2 : (BitVec.ofInt 8 (y.toNat : Int)).toNat = y.toNat := by
    rw [BitVec.ofInt_natCast, BitVec.toNat_ofNat]; exact Nat.mod_eq_of_lt (by omega)
  have h3 : x.toNat ^^^ y.toNat < 2 ^ 8 := Nat.xor_lt_two_pow (by omega) (by omega)
  show IntKind.u8.wrap ((BitVec.ofInt 8 (x.toNat : Int) ^^^ BitVec.ofInt 8 (y.toNat : Int)).toNat : Int) = _
  rw [BitVec.toNat_xor, h1, h2, IntKind.wrap_u8]
  omega
theorem min_run (x y z : Int) (h : min x y = z) (ts : Array TypeId) (t : TypeId) (w : World) : (Builtin.min_ ts t #[.int .i64 x, .int .i64 y]).run Tryz.prog w = .ok (.int .i64 z) w := by
  rw [run_min_int2, ← h]
  by_cases h : y < x
  · rw [if_pos h, show min x y = y by omega]
  · rw [if_neg h, show min x y = x by omega]

set_option maxHeartbeats 4000000 in
theorem xor_any (a b : ByteArray) (w : World) (ha : a.size ≤ 100000) (hb : b.size ≤ 100000) :
    Calls Tryz.prog 33 #[.string a, .string b] w fun e w' => e = .returned (.string ⟨(xorL a.data.toList b.data.toList).toArray⟩) ∧ Below w.heap.size w w' := by
  have HB := Lib.hid (Lib.fresh_isBuilder 68 5 w)
  have hla : a.data.toList.length = a.size := by simp
  have hlb : b.data.toList.length = b.size := by simp
  obtain ⟨M, hM⟩ : ∃ M, min a.size b.size = M := ⟨_, rfl⟩
  have hrun := min_run (a.size : Nat) (b.size : Nat) (M : Nat) (by omega)
  have hMa : M ≤ a.size := by omega
  have hMb : M ≤ b.size := by omega
  obtain ⟨X, hX⟩ : ∃ X, xorL a.data.toList b.data.toList = X := ⟨_, rfl⟩
  have hXl : X.length = M := by rw [← hX, xorL_len, hla, hlb, hM]
  rw [hX]
  have HX := Lib.hid hX
  have HLA := Lib.hid hla
  have HLB := Lib.hid hlb
  clear hla hlb hX hM
  go_enter Tryz.func33, Tryz.ntmps33
  go_wp2
  go_loopw [12] (fun iv wr => ∃ k : Nat, k ≤ M ∧ iv = .int .i64 k ∧ IB w.heap.size (Lib.byteCells (X.take k)) wr ∧ Below w.heap.size w wr) (fun iv _ => M - (intOf iv).toNat)
  case atStart => exact ⟨0, Nat.zero_le _, rfl, HB.out, (Below.refl _ _).alloc (Nat.le_refl _) _⟩
  case round =>
    obtain ⟨k, hk, rfl, hI, hb⟩ := hrel
    have HI := Lib.hid hI
    clear hI
    have hsz := hb.size
    have HBr := Lib.hid hb
    clear hb
    by_cases hlt : k < M
    · have hka : k < a.size := by omega
      have hkb : k < b.size := by omega
      obtain ⟨x, hx⟩ : ∃ x, a[k] = x := ⟨_, rfl⟩
      obtain ⟨y, hy⟩ : ∃ y, b[k] = y := ⟨_, rfl⟩
      have hgx : a.data.toList[k]? = some x := by
        rw [List.getElem?_eq_getElem (by rw [HLA.out]; exact hka), ← hx]; rfl
      have hgy : b.data.toList[k]? = some y := by
        rw [List.getElem?_eq_getElem (by rw [HLB.out]; exact hkb), ← hy]; rfl
      have HS : Hid (Lib.byteCells (X.take (k + 1)) = Lib.byteCells (X.take k) ++ [.int .u8 (x ^^^ y).toNat]) := Lib.hid (by rw [← HX.out, xorL_step _ _ _ _ _ hgx hgy, byteCells_app]; rfl)
      have hlen : (Lib.byteCells (X.take k)).length ≤ 200000 := by
        rw [byteCells_len, List.length_take]; omega
      generalize hbs : Lib.byteCells (X.take k) = bs at HI HS hlen
      have HBS := Lib.hid hbs
      have ex := xor8 x y
      have CW : Hid (Calls Tryz.prog 69 #[.pointer (some ⟨w.heap.size, 0, none⟩), .int .u8 ((x.toNat ^^^ y.toNat : Nat) : Int)] wr.drew fun e w' => e = .returned .nilIface ∧ IB w.heap.size (Lib.byteCells (X.take (k + 1))) w' ∧ Below w.heap.size w w') := Lib.hid (by
        refine (Bld.writeByte w.heap.size w.heap.size bs ((x.toNat ^^^ y.toNat : Nat) : Int) wr.drew (show IB w.heap.size bs wr.drew from (show IB w.heap.size bs wr from HI.out)) (by omega) hsz).mono ?_
        rintro e w1 ⟨h0, h1, hb1⟩
        refine ⟨h0, ?_, (below_drew HBr.out).trans hb1⟩
        rw [HS.out, UInt8.toNat_xor]
        exact h1)
      clear hbs hgx hgy
      go_wp2_with fail
      go_region_with (go_at_call 69; (with_reducible refine CW.out.mono ?_); rintro e w1 ⟨rfl, h1, hb1⟩; have H1 := Lib.hid h1; have HB1 := Lib.hid hb1; clear h1 hb1)
      all_goals
        go_wp2
        go_roundw
        case rel => exact ⟨k + 1, by omega, by go_num, H1.out, HB1.out⟩
        case measure => simp [intOf]; omega
    · obtain rfl : k = M := by omega
      rw [List.take_of_length_le (by omega)] at HI
      go_wp2_with fail
      refine (Tryz.Builder_String_any w.heap.size w.heap.size _ _ HI.out hsz).mono ?_
      rintro e w1 ⟨rfl, hb1⟩
      have HB1 := Lib.hid (HBr.out.trans hb1)
      clear hb1
      go_wp2
      go_ret
      exact ⟨rfl, HB1.out⟩
theorem rows_made (w : World) (cs : Array Value) (xs : List ByteArray) (h : cs = (xs.map Value.string).toArray) (T : TypeId) : RowS (w.alloc (.cells cs T)) w.heap.size 0 xs := ⟨by simp, fun j x hj => by
  rw [cell_of_row _ _ _ _ _ _ (heap_alloc_new w _), h]
  simp [hj]⟩
end Go.Proofs.YtagbkmoahflfdaaGreatDoor.Dg
namespace Go.Proofs.YtagbkmoahflfdaaGreatDoor.Se
set_option maxRecDepth 20000
open Go.RowKit Vm Dg
set_option linter.unusedVariables false
set_option linter.unusedSimpArgs false

theorem fit_short (s : ByteArray) (n : Nat) (h : n ≤ s.size) : s.extract 0 n = ⟨(fit s.data.toList n).toArray⟩ := by
  have hl : s.data.toList.length = s.size := by simp
  apply ByteArray.ext
  apply Array.ext'
  unfold fit
  rw [if_pos (by omega)]
  simp only [ByteArray.data_extract, Array.toList_extract, List.extract_eq_take_drop]
  simp
theorem fit_far (s : ByteArray) (n : Nat) (h : ¬ n ≤ s.size) : s ++ ⟨(List.replicate (n - s.size) (0 : UInt8)).toArray⟩ = ⟨(fit s.data.toList n).toArray⟩ := by
  have hl : s.data.toList.length = s.size := by simp
  apply ByteArray.ext
  apply Array.ext'
  unfold fit
  rw [if_neg (by omega), ByteArray.data_append, Array.toList_append, hl]
set_option maxHeartbeats 1000000 in
theorem fitted_any (s : ByteArray) (n : Nat) (w : World) (hn : n ≤ 1000) (hs : s.size ≤ 100000) : Calls Tryz.prog 70 #[.string s, .int .i64 n] w fun e w' => e = .returned (.string ⟨(fit s.data.toList n).toArray⟩) ∧ Below w.heap.size w w' := by
  by_cases h : n ≤ s.size
  · have hI : (s.size : Int) ≥ (n : Int) := by omega
    have e := fit_short s n h
    generalize fit s.data.toList n = F at e ⊢
    have hnI : (n : Int) ≤ 1000 := by omega
    clear h
    go_enter Tryz.func70, Tryz.ntmps70
    go_wp2
    go_ret
    exact ⟨rfl, Below.refl _ _⟩
  · have hI : ¬ (s.size : Int) ≥ (n : Int) := by omega
    have e := fit_far s n h
    obtain ⟨Z, hZ⟩ : ∃ Z, n - s.size = Z := ⟨_, rfl⟩
    rw [hZ] at e
    have hZI : (n : Int) - (s.size : Int) = (Z : Int) := by omega
    have CR := Lib.hid (fun W => rep_any Z W (by omega))
    generalize fit s.data.toList n = F at e ⊢
    obtain ⟨R, hR⟩ : ∃ R : ByteArray, ⟨(List.replicate Z (0 : UInt8)).toArray⟩ = R := ⟨_, rfl⟩
    rw [hR] at CR e
    have hnI : (n : Int) ≤ 1000 := by omega
    have hRs : R.size = Z := by rw [← hR]; show (List.replicate Z (0 : UInt8)).toArray.size = Z; simp
    have hsI : (s.size : Int) ≤ 100000 := by omega
    clear h hZ hR
    go_enter Tryz.func70, Tryz.ntmps70
    go_wp2_with fail
    with_reducible refine (CR.out _).mono ?_
    rintro e1 w1 ⟨rfl, hb⟩
    have HB1 := Lib.hid hb
    clear hb
    go_wp2_with fail
    go_ret
    exact ⟨by first | rfl | (rw [← e]; rfl), HB1.out⟩
/-- The words, of which k are laid. -/
def lay (T : List UInt8) (k : Nat) : List Nat := (List.range 16).map fun j => if j < k then lw T j else 0
theorem lay_len (T : List UInt8) (k : Nat) : (lay T k).length = 16 := by simp [lay]
theorem lay_zero (T : List UInt8) : lay T 0 = List.replicate 16 0 := by
  apply List.ext_getElem
  · simp [lay]
  · intro i h1 h2
    rw [List.getElem_replicate]
    simp [lay]
theorem lay_all (T : List UInt8) : lay T 16 = (List.range 16).map (lw T) := by
  apply List.ext_getElem
  · simp [lay]
  · intro i h1 h2
    have hi : i < 16 := by simpa [lay] using h1
    simp [lay, hi]
theorem lay_set (T : List UInt8) (k : Nat) (hk : k < 16) : (lay T k).set k (lw T k) = lay T (k + 1) := by
  apply List.ext_getElem
  · simp [lay]
  · intro i h1 h2
    simp only [lay, List.getElem_set, List.getElem_map, List.getElem_range]
    by_cases hij : k = i
    · subst hij
      rw [if_pos rfl, if_pos (by omega)]
    · rw [if_neg hij]
      by_cases h : i < k
      · rw [if_pos h, if_pos (by omega)]
      · rw [if_neg h, if_neg (by omega)]
theorem lw_cut (S : ByteArray) (k : Nat) (h : 4 * k + 4 ≤ S.size) : lw (S.extract (4 * k) (4 * k + 4)).data.toList 0 = lw S.data.toList k := by
  have hl : S.data.toList.length = S.size := by simp
  have e : (S.extract (4 * k) (4 * k + 4)).data.toList = (S.data.toList.drop (4 * k)).take 4 := by
    simp only [ByteArray.data_extract, Array.toList_extract, List.extract_eq_take_drop]
    congr 1
    omega
  have g : ∀ i, i < 4 → ((S.data.toList.drop (4 * k)).take 4).getD i 0 = S.data.toList.getD (4 * k + i) 0 := by
    intro i hi
    rw [List.getD_eq_getElem?_getD, List.getD_eq_getElem?_getD, List.getElem?_take_of_lt hi, List.getElem?_drop]
  rw [e]
  unfold lw
  rw [g 0 (by decide), g 1 (by decide), g 2 (by decide), g 3 (by decide)]
  rfl
theorem lw_cut' (S : ByteArray) (k : Nat) (h : 4 * k + 4 ≤ S.size) : lw (S.extract (k * 4) ((k + 1) * 4)).data.toList 0 = lw S.data.toList k := by
  rw [show k * 4 = 4 * k by omega, show (k + 1) * 4 = 4 * k + 4 by omega]; exact lw_cut S k h
theorem cut_size' (S : ByteArray) (k : Nat) (h : 4 * k + 4 ≤ S.size) : (S.extract (k * 4) ((k + 1) * 4)).size = 4 := by
  rw [ByteArray.size_extract]; omega
theorem inf_words : (Tryz.prog.info? 63).map (·.size) = some 16 := by kernel_rfl
def wv (l : List Nat) : Value := .agg (l.map fun x : Nat => Value.int .u32 x).toArray
set_option maxHeartbeats 4000000 in
theorem wordsOf_any (key nonce : ByteArray) (w : World) (hk : key.size ≤ 100000) (hn : nonce.size ≤ 100000) :
    Calls Tryz.prog 32 #[.string key, .string nonce] w fun e w' => e = .returned (wv (ini key.data.toList nonce.data.toList 0)) ∧ Below w.heap.size w w' := by
  have CK : Hid (∀ W : World, Calls Tryz.prog 70 #[.string key, .int .i64 32] W fun e w' => e = .returned (.string ⟨(fit key.data.toList 32).toArray⟩) ∧ Below W.heap.size W w') := Lib.hid (fun W => fitted_any key 32 W (by decide) hk)
  have CZ : Hid (∀ W : World, Calls Tryz.prog 70 #[.string ⟨#[]⟩, .int .i64 4] W fun e w' => e = .returned (.string ⟨(fit [] 4).toArray⟩) ∧ Below W.heap.size W w') := Lib.hid (fun W => fitted_any ⟨#[]⟩ 4 W (by decide) (by decide))
  have CN : Hid (∀ W : World, Calls Tryz.prog 70 #[.string nonce, .int .i64 12] W fun e w' => e = .returned (.string ⟨(fit nonce.data.toList 12).toArray⟩) ∧ Below W.heap.size W w') := Lib.hid (fun W => fitted_any nonce 12 W (by decide) hn)
  have hS : (((⟨#[101, 120, 112, 97, 110, 100, 32, 51, 50, 45, 98, 121, 116, 101, 32, 107]⟩ : ByteArray) ++ (⟨(fit key.data.toList 32).toArray⟩ : ByteArray)) ++ (⟨(fit [] 4).toArray⟩ : ByteArray)) ++ (⟨(fit nonce.data.toList 12).toArray⟩ : ByteArray) = ⟨(txt key.data.toList nonce.data.toList).toArray⟩ := by
    apply ByteArray.ext
    apply Array.ext'
    simp only [ByteArray.data_append, Array.toList_append]
    rfl
  have hW := txt_words key.data.toList nonce.data.toList
  have hlen := txt_len key.data.toList nonce.data.toList
  generalize ini key.data.toList nonce.data.toList 0 = I at hW ⊢
  generalize txt key.data.toList nonce.data.toList = X at *
  have s1 : (⟨(fit key.data.toList 32).toArray⟩ : ByteArray).size = 32 := by show (fit key.data.toList 32).toArray.size = 32; simp [fit_len]
  have s2 : (⟨(fit [] 4).toArray⟩ : ByteArray).size = 4 := by show (fit [] 4).toArray.size = 4; simp [fit_len]
  have s3 : (⟨(fit nonce.data.toList 12).toArray⟩ : ByteArray).size = 12 := by show (fit nonce.data.toList 12).toArray.size = 12; simp [fit_len]
  generalize (⟨(fit key.data.toList 32).toArray⟩ : ByteArray) = A at *
  generalize (⟨(fit [] 4).toArray⟩ : ByteArray) = Z at *
  generalize (⟨(fit nonce.data.toList 12).toArray⟩ : ByteArray) = N at *
  obtain ⟨S, hSX⟩ : ∃ S : ByteArray, ⟨X.toArray⟩ = S := ⟨_, rfl⟩
  rw [hSX] at hS
  have hXS : X = S.data.toList := by rw [← hSX]
  have hS64 : S.size = 64 := by rw [← hSX]; show X.toArray.size = 64; simp [hlen]
  subst hXS
  have HW := Lib.hid hW
  have CNB := Lib.hid (fun (k : Nat) (h : k < 16) (W : World) => number_any (S.extract (k * 4) ((k + 1) * 4)) W (cut_size' S k (by omega)))
  have HCUT := Lib.hid (fun (k : Nat) (h : k < 16) => lw_cut' S k (by omega))
  have h64 : (S.size : Int) = 64 := by omega
  have H64 := Lib.hid hS64
  clear hW hlen hSX hS64
  go_enter Tryz.func32, Tryz.ntmps32
  go_wp2_with fail
  with_reducible refine (CK.out _).mono ?_
  rintro e1 w1 ⟨rfl, hb⟩
  have HR1 : Hid (WB 63 w1 w.heap.size (List.replicate 16 0)) := Lib.hid ((hb.block w.heap.size (by simp)).trans (heap_alloc_new w _))
  have HB1 := Lib.hid (((Below.refl w.heap.size w).alloc (Nat.le_refl _) _).trans (hb.mono (by simp)))
  clear hb
  go_wp2_with fail
  with_reducible refine (CZ.out _).mono ?_
  rintro e2 w2 ⟨rfl, hb⟩
  have HR2 := Lib.hid (HR1.out.keep hb HR1.out.lt)
  have HB2 := Lib.hid (HB1.out.trans (hb.mono HB1.out.size))
  clear hb
  go_wp2_with fail
  with_reducible refine (CN.out _).mono ?_
  rintro e3 w3 ⟨rfl, hb⟩
  have HR3 := Lib.hid (HR2.out.keep hb HR2.out.lt)
  have HB3 := Lib.hid (HB2.out.trans (hb.mono HB2.out.size))
  clear hb
  go_wp2_with fail
  have hs3 := HB3.out.size
  have hlt3 := HR3.out.lt
  go_loopw [16] (fun iv wr => ∃ k : Nat, k ≤ 16 ∧ iv = .int .i64 k ∧ WB 63 wr w.heap.size (List.replicate 16 0) ∧ WB 63 wr w3.heap.size (lay S.data.toList k) ∧ Below w.heap.size w wr) (fun iv _ => 16 - (intOf iv).toNat)
  case atStart => exact ⟨0, by omega, rfl, HR3.out.keep ((Below.refl _ _).alloc (Nat.le_refl _) _) hlt3, by rw [lay_zero]; exact heap_alloc_new _ _, HB3.out.alloc hs3 _⟩
  case round =>
    obtain ⟨k, hk, rfl, hr, hl, hb⟩ := hrel
    have HR := Lib.hid hr
    have HL := Lib.hid hl
    have HB := Lib.hid hb
    clear hr hl hb
    by_cases hlt : k < 16
    · have hkI : (k : Int) < 16 := by omega
      have CB := Lib.hid (CNB.out k hlt)
      have HQ := Lib.hid (HCUT.out k hlt)
      have HT := Lib.hid (lay_set S.data.toList k hlt)
      rw [HQ.out] at CB
      have HN := Lib.hid (HL.out.set k (lw S.data.toList k))
      have hc := HL.out.cell k (by rw [lay_len]; omega)
      have hf := HL.out.fz k
      generalize lw S.data.toList k = x at CB HT HN
      go_wp2_with fail
      with_reducible refine (CB.out _).mono ?_
      rintro e4 w4 ⟨rfl, rfl⟩
      go_wp2_with fail
      go_roundw
      case rel => exact ⟨k + 1, by omega, by go_num, HR.out.other (by omega) _ _, by rw [← HT.out]; exact HN.out, HB.out.setCell (p := ⟨w3.heap.size, k, none⟩) (by omega) _⟩
      case measure => simp only [intOf]; omega
    · obtain rfl : k = 16 := by omega
      have HI : Hid (WB 63 wr w3.heap.size I) := Lib.hid (by have h := HL.out; rw [lay_all, HW.out] at h; exact h)
      have hIl : I.length = 16 := by rw [← HW.out]; simp
      go_upto_region 8 with (fail)
      refine wp_region_lit ?_
      refine wpList_load_row rfl _ _ rfl w3.heap.size rfl _ _ _ _ HI.out Tryz.underlying63 rfl (by rw [inf_words]; simp [hIl]) ?_
      refine wpList_store_row rfl _ _ _ rfl w.heap.size _ rfl rfl _ _ HR.out (by rw [inf_words]; simp [hIl]) (by simp [hIl]) (all_words _) ?_
      have HRW : Hid (WB 63 (wr.setRow w.heap.size (I.map fun x : Nat => Value.int .u32 x).toArray) w.heap.size I) := Lib.hid (setRow_heap wr w.heap.size _ _ _ _ HR.out)
      have HBW := Lib.hid (below_setRow HB.out (Nat.le_refl _) (I.map fun x : Nat => Value.int .u32 x).toArray)
      generalize wr.setRow w.heap.size (I.map fun x : Nat => Value.int .u32 x).toArray = W at *
      go_wp2
      exact bodyPost_ret (v := wv I) (results_cell_row Tryz.results32 _ W w.heap.size _ _ _ _ rfl HRW.out Tryz.underlying63 rfl (by rw [inf_words]; simp [hIl])) rfl ⟨rfl, HBW.out⟩
set_option maxHeartbeats 4000000 in
theorem at_any (l : List Nat) (c : Nat) (w : World) (hl : l.length = 16) (hc : c < 4294967296) :
    Calls Tryz.prog 34 #[wv l, .int .u32 c] w fun e w' => e = .returned (wv (l.set 12 c)) ∧ Below w.heap.size w w' := by
  unfold wv
  have hcI : (c : Int) < 4294967296 := by omega
  have hL : (l.set 12 c).length = 16 := by simp [hl]
  have HM0 := Lib.hid (heap_alloc_new w (.cells (l.map fun x : Nat => Value.int .u32 x).toArray 63))
  go_enter Tryz.func34, Tryz.ntmps34
  go_upto_region 0 with (fail)
  refine wp_region_lit ?_
  refine Go.Great.wpList_boxTo rfl _ _ rfl (some 2) rfl w.heap.size rfl _ rfl ?_
  go_upto_region 1 with (fail)
  have HX : Hid (WB 63 ((w.alloc (.cells (l.map fun x : Nat => Value.int .u32 x).toArray 63)).alloc (.cells ((List.replicate 16 0).map fun x : Nat => Value.int .u32 x).toArray 63)) w.heap.size l) := Lib.hid ((Below.heap_alloc _ _ w.heap.size (by simp)).trans HM0.out)
  have HZ : Hid (WB 63 ((w.alloc (.cells (l.map fun x : Nat => Value.int .u32 x).toArray 63)).alloc (.cells ((List.replicate 16 0).map fun x : Nat => Value.int .u32 x).toArray 63)) (w.heap.size + 1) (List.replicate 16 0)) := Lib.hid (by
    have h := heap_alloc_new (w.alloc (.cells (l.map fun x : Nat => Value.int .u32 x).toArray 63)) (.cells ((List.replicate 16 0).map fun x : Nat => Value.int .u32 x).toArray 63)
    rwa [World.size_alloc] at h)
  have HB := Lib.hid (((Below.refl w.heap.size w).alloc (Nat.le_refl _) (.cells (l.map fun x : Nat => Value.int .u32 x).toArray 63)).alloc (by simp) (.cells ((List.replicate 16 0).map fun x : Nat => Value.int .u32 x).toArray 63))
  have HG : ((w.alloc (.cells (l.map fun x : Nat => Value.int .u32 x).toArray 63)).alloc (.cells ((List.replicate 16 0).map fun x : Nat => Value.int .u32 x).toArray 63)) = ((w.alloc (.cells (l.map fun x : Nat => Value.int .u32 x).toArray 63)).alloc (.cells #[.int .u32 0, .int .u32 0, .int .u32 0, .int .u32 0, .int .u32 0, .int .u32 0, .int .u32 0, .int .u32 0, .int .u32 0, .int .u32 0, .int .u32 0, .int .u32 0, .int .u32 0, .int .u32 0, .int .u32 0, .int .u32 0] 63)) := rfl
  rw [HG] at HX HZ HB
  clear HG
  generalize ((w.alloc (.cells (l.map fun x : Nat => Value.int .u32 x).toArray 63)).alloc (.cells #[.int .u32 0, .int .u32 0, .int .u32 0, .int .u32 0, .int .u32 0, .int .u32 0, .int .u32 0, .int .u32 0, .int .u32 0, .int .u32 0, .int .u32 0, .int .u32 0, .int .u32 0, .int .u32 0, .int .u32 0, .int .u32 0] 63)) = W0 at HX HZ HB ⊢
  have hc := HX.out.cell 12 (by omega)
  have hf := HX.out.fz 12
  have HX2 := Lib.hid (HX.out.set 12 c)
  have HZ2 := Lib.hid (HZ.out.other (show w.heap.size + 1 ≠ w.heap.size by omega) 12 (.int .u32 (c : Int)))
  have HB2 := Lib.hid (HB.out.setCell (p := ⟨w.heap.size, 12, none⟩) (Nat.le_refl _) (.int .u32 (c : Int)))
  go_upto_region 2 with (fail)
  generalize W0.setCell ⟨w.heap.size, 12, none⟩ (.int .u32 (c : Int)) = W1 at HX2 HZ2 HB2 ⊢
  refine wp_region_lit ?_
  refine wpList_load_row rfl _ _ rfl w.heap.size rfl _ _ _ _ HX2.out Tryz.underlying63 rfl (by rw [inf_words]; simp [hl]) ?_
  refine wpList_store_row rfl _ _ _ rfl (w.heap.size + 1) _ rfl rfl _ _ HZ2.out (by rw [inf_words]; simp [hl]) (by simp [hl]) (all_words _) ?_
  have HRW : Hid (WB 63 (W1.setRow (w.heap.size + 1) ((l.set 12 c).map fun x : Nat => Value.int .u32 x).toArray) (w.heap.size + 1) (l.set 12 c)) := Lib.hid (setRow_heap W1 (w.heap.size + 1) _ _ _ _ HZ2.out)
  have HBW := Lib.hid (below_setRow HB2.out (show w.heap.size ≤ w.heap.size + 1 by omega) ((l.set 12 c).map fun x : Nat => Value.int .u32 x).toArray)
  generalize W1.setRow (w.heap.size + 1) ((l.set 12 c).map fun x : Nat => Value.int .u32 x).toArray = W at *
  go_wp2
  exact bodyPost_ret (v := .agg ((l.set 12 c).map fun x : Nat => Value.int .u32 x).toArray) (results_cell_row Tryz.results34 _ W (w.heap.size + 1) _ _ _ _ rfl HRW.out Tryz.underlying63 rfl (by rw [inf_words]; simp [hl])) rfl ⟨rfl, HBW.out⟩
end Go.Proofs.YtagbkmoahflfdaaGreatDoor.Se
namespace Go.Proofs.YtagbkmoahflfdaaGreatDoor.Se
set_option maxRecDepth 20000
open Go.RowKit Vm Dg
set_option linter.unusedVariables false
set_option linter.unusedSimpArgs false

theorem le_cells (x : Nat) (hx : x < 4294967296) : Lib.byteCells (le4 x) = [.int .u8 ((x : Int) % 256), .int .u8 ((x : Int) / 256 % 256), .int .u8 ((x : Int) / 256 / 256 % 256), .int .u8 ((x : Int) / 256 / 256 / 256)] := by
  simp [Lib.byteCells, le4, UInt8.toNat_ofNat']
  omega
theorem les_step (l : List Nat) (k : Nat) (hk : k < l.length) : les (l.take (k + 1)) = les (l.take k) ++ le4 (l.getD k 0) := by
  have e : l.getD k 0 = l[k] := by simp [List.getD, hk]
  unfold les
  rw [List.take_succ_eq_append_getElem hk, e]
  simp only [List.flatMap_append, List.flatMap_cons, List.flatMap_nil, List.append_nil]
theorem sum_get (a b : List Nat) (k : Nat) (ha : k < a.length) (hb : k < b.length) : (sumW a b).getD k 0 = (a.getD k 0 + b.getD k 0) % 4294967296 := by
  unfold sumW
  rw [List.getD_eq_getElem?_getD, List.getD_eq_getElem?_getD, List.getD_eq_getElem?_getD, List.getElem?_eq_getElem (by simp; omega), List.getElem?_eq_getElem ha, List.getElem?_eq_getElem hb]
  simp
theorem alloc_w (w : World) : (Instr.alloc 63 true (.tuple #[])).run Tryz.prog w = .ok (.pointer (some ⟨w.heap.size, 0, none⟩)) (w.alloc (.cells ((List.replicate 16 0).map fun x : Nat => Value.int .u32 x).toArray 63)) := by
  show _ = _
  kernel_rfl
theorem wpList_allocW {P : Program} {ops : Array Oper} {rest : List Oper} {op : Oper} {a : Act} {w : World} {Q : Exit → Act → World → Prop} (hgd : op.guard = none) (t : TypeId) (ho : op.op = .alloc t)
    (c : Array Value) (hrun : ∀ w : World, (Instr.alloc t true (.tuple #[])).run P w = .ok (.pointer (some ⟨w.heap.size, 0, none⟩)) (w.alloc (.cells c t)))
    (h : wpList P ops Q rest (a.put op.dst (.pointer (some ⟨w.heap.size, 0, none⟩))) (w.alloc (.cells c t))) : wpList P ops Q (op :: rest) a w :=
  wpList_plain hgd fun _ hK => by
    unfold Oper.wp execOp
    simp only [ho, hrun, Sem.run_bind, Sem.run_pure, Result.andThen_ok]
    exact hK _ _ h
set_option maxHeartbeats 8000000 in
theorem block_any (l : List Nat) (w : World) (hl : l.length = 16) (h32 : W32 l) :
    Calls Tryz.prog 35 #[wv l] w fun e w' => e = .returned (.string ⟨(les (sumW (Se.rounds 10 l) l)).toArray⟩) ∧ Below w.heap.size w w' := by
  unfold wv
  have CT := Lib.hid (fun (k : Nat) (b : Nat) (W : World) (h : WB 63 W b (Se.rounds k l)) => twice_any 63 b (Se.rounds k l) W ((rounds_len k l).trans hl) (h32.rounds k) h)
  have HM0 := Lib.hid (heap_alloc_new w (.cells (l.map fun x : Nat => Value.int .u32 x).toArray 63))
  obtain ⟨M, hM⟩ : ∃ M, Se.rounds 10 l = M := ⟨_, rfl⟩
  rw [hM]
  have HMM := Lib.hid hM
  have hML : M.length = l.length := by rw [← hM]; exact rounds_len 10 l
  clear hM
  go_enter Tryz.func35, Tryz.ntmps35
  go_upto_region 0 with (fail)
  refine wp_region_lit ?_
  refine Go.Great.wpList_boxTo rfl _ _ rfl (some 1) rfl w.heap.size rfl _ rfl ?_
  go_upto_region 1 with (fail)
  have HX : Hid (WB 63 (w.alloc (.cells (l.map fun x : Nat => Value.int .u32 x).toArray 63)) w.heap.size l) := Lib.hid HM0.out
  have HB := Lib.hid ((Below.refl w.heap.size w).alloc (Nat.le_refl _) (.cells (l.map fun x : Nat => Value.int .u32 x).toArray 63))
  have hsz : (w.alloc (.cells (l.map fun x : Nat => Value.int .u32 x).toArray 63)).heap.size = w.heap.size + 1 := World.size_alloc _ _
  generalize w.alloc (.cells (l.map fun x : Nat => Value.int .u32 x).toArray 63) = W0 at HX HB hsz ⊢
  refine wp_region_lit ?_
  refine wpList_load_row rfl _ _ rfl w.heap.size rfl _ _ _ _ HX.out Tryz.underlying63 rfl (by rw [inf_words]; simp [hl]) ?_
  refine wpList_allocW rfl _ rfl _ alloc_w ?_
  have hA0 := heap_alloc_new W0 (.cells ((List.replicate 16 0).map fun x : Nat => Value.int .u32 x).toArray 63)
  rw [hsz] at hA0 ⊢
  have HX1 := Lib.hid (HX.out.keep ((Below.refl _ _).alloc (Nat.le_refl _) (.cells ((List.replicate 16 0).map fun x : Nat => Value.int .u32 x).toArray 63)) (show w.heap.size < W0.heap.size by omega))
  have HB1 := Lib.hid (HB.out.alloc (by omega) (.cells ((List.replicate 16 0).map fun x : Nat => Value.int .u32 x).toArray 63))
  generalize W0.alloc (.cells ((List.replicate 16 0).map fun x : Nat => Value.int .u32 x).toArray 63) = W1 at hA0 HX1 HB1 ⊢
  refine wpList_store_row rfl _ _ _ rfl (w.heap.size + 1) _ rfl rfl _ _ hA0 (by rw [inf_words]; simp [hl]) (by simp [hl]) (all_words _) ?_
  have HRW : Hid (WB 63 (W1.setRow (w.heap.size + 1) (l.map fun x : Nat => Value.int .u32 x).toArray) (w.heap.size + 1) l) := Lib.hid (setRow_heap W1 (w.heap.size + 1) _ _ _ _ hA0)
  have HBW := Lib.hid (below_setRow HB1.out (show w.heap.size ≤ w.heap.size + 1 by omega) (l.map fun x : Nat => Value.int .u32 x).toArray)
  have HXW := Lib.hid (HX1.out.keep (below_setRow (Below.refl (w.heap.size + 1) W1) (Nat.le_refl _) (l.map fun x : Nat => Value.int .u32 x).toArray) (by omega))
  generalize W1.setRow (w.heap.size + 1) (l.map fun x : Nat => Value.int .u32 x).toArray = W at HRW HBW HXW ⊢
  clear hA0 HX1 HB1 HX HB hsz HM0
  go_wp2_with fail
  go_loopw [8] (fun iv wr => ∃ k : Nat, k ≤ 10 ∧ iv = .int .i64 k ∧ WB 63 wr (w.heap.size + 1) (Se.rounds k l) ∧ WB 63 wr w.heap.size l ∧ Below w.heap.size w wr) (fun iv _ => 10 - (intOf iv).toNat)
  case atStart => exact ⟨0, by omega, rfl, HRW.out, HXW.out, HBW.out⟩
  case round =>
    clear HRW HXW HBW
    obtain ⟨k, hk, rfl, hm, hx, hb⟩ := hrel
    have HM := Lib.hid hm
    have HX := Lib.hid hx
    have HB := Lib.hid hb
    clear hm hx hb
    by_cases hlt : k < 10
    · have hkI : (k : Int) < 10 := by omega
      go_wp2_with fail
      with_reducible refine (CT.out k _ _ HM.out).mono ?_
      rintro e1 w1 ⟨rfl, hx⟩
      have HM1 := Lib.hid hx
      clear hx
      go_wp2_with fail
      go_roundw
      case rel => exact ⟨k + 1, by omega, by go_num, HM1.out.wb, HX.out.only HM1.out.only (by omega), HB.out.trans (HM1.out.only.below HB.out.size (fun i hi => by omega))⟩
      case measure => simp only [intOf]; omega
    · obtain rfl : k = 10 := by omega
      rw [show ((10 : Nat) : Int) = 10 from rfl]
      rw [HMM.out] at HM
      clear CT
      rw [hl] at hML
      have hsr := HM.out.lt
      have HI := Lib.hid (Lib.fresh_isBuilder 68 5 wr)
      have HBB := Lib.hid (HB.out.alloc HB.out.size (.cells #[.pointer none, .slice none 0 0] 68))
      have HMB := Lib.hid (HM.out.keep ((Below.refl _ _).alloc (Nat.le_refl _) (.cells #[.pointer none, .slice none 0 0] 68)) HM.out.lt)
      have HXB := Lib.hid (HX.out.keep ((Below.refl _ _).alloc (Nat.le_refl _) (.cells #[.pointer none, .slice none 0 0] 68)) HX.out.lt)
      have hsB : wr.heap.size ≤ (wr.alloc (.cells #[.pointer none, .slice none 0 0] 68)).heap.size := by simp
      have hSL : (sumW M l).length = 16 := by rw [sumW_len]; omega
      go_wp2_with fail
      generalize wr.alloc (.cells #[.pointer none, .slice none 0 0] 68) = WZ at *
      generalize wr.heap.size = bb at *
      go_loopw [12] (fun iv wx => ∃ i : Nat, i ≤ 16 ∧ iv = .int .i64 i ∧ IB bb (Lib.byteCells (les ((sumW M l).take i))) wx ∧ WB 63 wx (w.heap.size + 1) M ∧ WB 63 wx w.heap.size l ∧ Below w.heap.size w wx ∧ bb ≤ wx.heap.size) (fun iv _ => 16 - (intOf iv).toNat)
      case atStart => exact ⟨0, by omega, rfl, HI.out, HMB.out, HXB.out, HBB.out, hsB⟩
      case round =>
        clear HM HX HB HI HBB HMB HXB hsB
        obtain ⟨i, hi, rfl, hib, hm, hx, hb, hsz⟩ := hrel
        have HI := Lib.hid hib
        have HM := Lib.hid hm
        have HX := Lib.hid hx
        have HB := Lib.hid hb
        clear hib hm hx hb
        by_cases hlt : i < 16
        · have hiI : (i : Int) < 16 := by omega
          have c1 := HM.out.cell i (by omega)
          have c2 := HX.out.cell i (by omega)
          have HS : Hid (Lib.byteCells (les ((sumW M l).take (i + 1))) = Lib.byteCells (les ((sumW M l).take i)) ++ Lib.byteCells (le4 ((sumW M l).getD i 0))) := Lib.hid (by rw [les_step _ i (by omega), byteCells_app])
          rw [sum_get M l i (by omega) (by omega), le_cells _ (Nat.mod_lt _ (by decide))] at HS
          have hlen : (Lib.byteCells (les ((sumW M l).take i))).length ≤ 64 := by
            rw [byteCells_len, les_len, List.length_take]; omega
          have hxx : (M.getD i 0 + l.getD i 0) % 4294967296 < 4294967296 := Nat.mod_lt _ (by decide)
          have e1 : ((M.getD i 0 : Nat) : Int) + ((l.getD i 0 : Nat) : Int) = ((M.getD i 0 + l.getD i 0 : Nat) : Int) := by omega
          have e2 : (((M.getD i 0 + l.getD i 0 : Nat) : Int)) % 4294967296 = (((M.getD i 0 + l.getD i 0) % 4294967296 : Nat) : Int) := by omega
          have e3 : (((M.getD i 0 : Nat) : Int) + ((l.getD i 0 : Nat) : Int)) % 4294967296 = (((M.getD i 0 + l.getD i 0) % 4294967296 : Nat) : Int) := by omega
          have e4 : IntKind.u32.wrap (((M.getD i 0 : Nat) : Int) + ((l.getD i 0 : Nat) : Int)) = (((M.getD i 0 + l.getD i 0) % 4294967296 : Nat) : Int) := by rw [IntKind.wrap_u32]; omega
          clear e1 e2
          generalize (M.getD i 0 + l.getD i 0) % 4294967296 = x at *
          generalize M.getD i 0 = m0 at *
          generalize l.getD i 0 = l0 at *
          generalize hbs : Lib.byteCells (les ((sumW M l).take i)) = bs at HI HS hlen
          have HBS := Lib.hid hbs
          have hxI : (x : Int) < 4294967296 := by omega
          have hxI0 : (0 : Int) ≤ (x : Int) := by omega
          clear hbs hxx
          go_wp2_with fail
          go_region
          go_wp2_with fail
          refine wp_loop_rounds 5 ?_
          rw [rounds_succ]
          go_wp2_with fail
          have hszd : bb ≤ wr.drew.heap.size := hsz
          have HID : Hid (IB bb bs wr.drew) := Lib.hid HI.out
          with_reducible refine (Bld.writeByte _ _ _ _ _ HID.out (by omega) hszd).mono ?_
          rintro e w1 ⟨rfl, h1, hb1⟩
          have H1 := Lib.hid h1
          have hs1 : bb ≤ w1.heap.size := Nat.le_trans hsz hb1.size
          have HB1 : Hid (Below bb wr w1) := Lib.hid ((Below.refl _ _).drew.trans hb1)
          clear h1 hb1
          go_wp2_with fail
          rw [rounds_succ]
          go_wp2_with fail
          with_reducible refine (Bld.writeByte _ _ _ _ _ H1.out (by simp; omega) hs1).mono ?_
          rintro e w2 ⟨rfl, h1, hb1⟩
          have H2 := Lib.hid h1
          have hs2 : bb ≤ w2.heap.size := Nat.le_trans hs1 hb1.size
          have HB2 := Lib.hid (HB1.out.trans hb1)
          clear h1 hb1
          go_wp2_with fail
          rw [rounds_succ]
          go_wp2_with fail
          with_reducible refine (Bld.writeByte _ _ _ _ _ H2.out (by simp; omega) hs2).mono ?_
          rintro e w3 ⟨rfl, h1, hb1⟩
          have H3 := Lib.hid h1
          have hs3 : bb ≤ w3.heap.size := Nat.le_trans hs2 hb1.size
          have HB3 := Lib.hid (HB2.out.trans hb1)
          clear h1 hb1
          go_wp2_with fail
          rw [rounds_succ]
          go_wp2_with fail
          with_reducible refine (Bld.writeByte _ _ _ _ _ H3.out (by simp; omega) hs3).mono ?_
          rintro e w4 ⟨rfl, h1, hb1⟩
          have H4 : Hid (IB bb (Lib.byteCells (les ((sumW M l).take (i + 1)))) w4) := Lib.hid (by rw [HS.out]; simpa using h1)
          have hs4 : bb ≤ w4.heap.size := Nat.le_trans hs3 hb1.size
          have HB4 := Lib.hid (HB3.out.trans hb1)
          clear h1 hb1
          go_wp2_with fail
          rw [rounds_succ]
          go_wp2_with fail
          go_roundw
          case rel => exact ⟨i + 1, by omega, by go_num, H4.out, HM.out.keep HB4.out (by omega), HX.out.keep HB4.out (by omega), HB.out.trans (HB4.out.mono (by omega)), hs4⟩
          case measure => simp only [intOf]; omega
        · obtain rfl : i = 16 := by omega
          rw [List.take_of_length_le (by omega)] at HI
          go_wp2_with fail
          have CST := Lib.hid (Tryz.Builder_String_any bb bb (les (sumW M l)) wr HI.out hsz)
          with_reducible refine CST.out.mono ?_
          rintro e w1 ⟨rfl, hb1⟩
          have HB1 := Lib.hid (HB.out.trans (hb1.mono (by omega)))
          clear hb1
          go_wp2_with fail
          go_ret
          exact ⟨rfl, HB1.out⟩
set_option maxHeartbeats 1000000 in
theorem block_call (key nonce : ByteArray) (c : Nat) (w : World) (hk : key.size ≤ 100000) (hn : nonce.size ≤ 100000) (hc : c < 4294967296) :
    Calls Tryz.prog 11 #[.string key, .string nonce, .int .u32 c] w fun e w' => e = .returned (.string ⟨(blk key.data.toList nonce.data.toList c).toArray⟩) ∧ Below w.heap.size w w' := by
  have hI : (ini key.data.toList nonce.data.toList 0).length = 16 := rfl
  have hset : (ini key.data.toList nonce.data.toList 0).set 12 c = ini key.data.toList nonce.data.toList c := rfl
  have CW := Lib.hid (fun W => wordsOf_any key nonce W hk hn)
  have CA := Lib.hid (fun W => at_any (ini key.data.toList nonce.data.toList 0) c W hI hc)
  have CB := Lib.hid (fun W => block_any (ini key.data.toList nonce.data.toList c) W rfl (ini_32 _ _ _ hc))
  rw [hset] at CA
  have hB : les (sumW (Se.rounds 10 (ini key.data.toList nonce.data.toList c)) (ini key.data.toList nonce.data.toList c)) = blk key.data.toList nonce.data.toList c := rfl
  rw [hB] at CB
  generalize blk key.data.toList nonce.data.toList c = R at CB ⊢
  generalize wv (ini key.data.toList nonce.data.toList 0) = V0 at *
  generalize wv (ini key.data.toList nonce.data.toList c) = V1 at *
  clear hset hI hB
  go_enter Tryz.func11, Tryz.ntmps11
  go_wp2_with fail
  with_reducible refine (CW.out _).mono ?_
  rintro e1 w1 ⟨rfl, hb⟩
  have HB1 := Lib.hid hb
  clear hb
  go_wp2_with fail
  with_reducible refine (CA.out _).mono ?_
  rintro e2 w2 ⟨rfl, hb⟩
  have HB2 := Lib.hid (HB1.out.trans (hb.mono HB1.out.size))
  clear hb
  go_wp2_with fail
  with_reducible refine (CB.out _).mono ?_
  rintro e3 w3 ⟨rfl, hb⟩
  have HB3 := Lib.hid (HB2.out.trans (hb.mono HB2.out.size))
  clear hb
  go_wp2_with fail
  go_ret
  exact ⟨rfl, HB3.out⟩
end Go.Proofs.YtagbkmoahflfdaaGreatDoor.Se
