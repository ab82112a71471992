/- The walks of layer 7: Xor; what is shown. -/
import Derived.Test.YthjphechdhbenaaDgK
namespace Go.Proofs.Ythjphechdhbenaa.Dg
set_option maxRecDepth 20000
open Go.RowKit
set_option linter.unusedVariables false
set_option linter.unusedSimpArgs false

def xorL (a b : List UInt8) : List UInt8 := List.zipWith (· ^^^ ·) a b
theorem xorL_len (a b : List UInt8) : (xorL a b).length = min a.length b.length := by simp [xorL]
theorem xorL_step (a b : List UInt8) (k : Nat) (x y : UInt8) (hx : a[k]? = some x) (hy : b[k]? = some y) : (xorL a b).take (k + 1) = (xorL a b).take k ++ [x ^^^ y] := by
  obtain ⟨h1, e1⟩ := List.getElem?_eq_some_iff.1 hx
  obtain ⟨h2, e2⟩ := List.getElem?_eq_some_iff.1 hy
  have h : k < (xorL a b).length := by rw [xorL_len]; omega
  rw [List.take_succ_eq_append_getElem h]
  congr 1
  simp [xorL, e1, e2]
theorem xor8 (x y : UInt8) : bits .xor .u8 (x.toNat : Int) (y.toNat : Int) = ((x.toNat ^^^ y.toNat : Nat) : Int) := by
  have hx := x.toNat_lt
  have hy := y.toNat_lt
  have h1 : (BitVec.ofInt 8 (x.toNat : Int)).toNat = x.toNat := by
    rw [BitVec.ofInt_natCast, BitVec.toNat_ofNat]; exact Nat.mod_eq_of_lt (by omega)
  have h2 : (BitVec.ofInt 8 (y.toNat : Int)).toNat = y.toNat := by
    rw [BitVec.ofInt_natCast, BitVec.toNat_ofNat]; exact Nat.mod_eq_of_lt (by omega)
  have h3 : x.toNat ^^^ y.toNat < 2 ^ 8 := Nat.xor_lt_two_pow (by omega) (by omega)
  show IntKind.u8.wrap ((BitVec.ofInt 8 (x.toNat : Int) ^^^ BitVec.ofInt 8 (y.toNat : Int)).toNat : Int) = _
  rw [BitVec.toNat_xor, h1, h2, IntKind.wrap_u8]
  omega
theorem min_run (x y z : Int) (h : min x y = z) (ts : Array TypeId) (t : TypeId) (w : World) : (Builtin.min_ ts t #[.int .i64 x, .int .i64 y]).run Try.prog w = .ok (.int .i64 z) w := by
  rw [run_min_int2, ← h]
  by_cases h : y < x
  · rw [if_pos h, show min x y = y by omega]
  · rw [if_neg h, show min x y = x by omega]

set_option maxHeartbeats 4000000 in
theorem xor_any (a b : ByteArray) (w : World) (ha : a.size ≤ 100000) (hb : b.size ≤ 100000) :
    Calls Try.prog 34 #[.string a, .string b] w fun e w' => e = .returned (.string ⟨(xorL a.data.toList b.data.toList).toArray⟩) ∧ Below w.heap.size w w' := by
  have HB := Lib.hid (Lib.fresh_isBuilder 77 5 w)
  have hla : a.data.toList.length = a.size := by simp
  have hlb : b.data.toList.length = b.size := by simp
  obtain ⟨M, hM⟩ : ∃ M, min a.size b.size = M := ⟨_, rfl⟩
  have hrun := min_run (a.size : Nat) (b.size : Nat) (M : Nat) (by omega)
  have hMa : M ≤ a.size := by omega
  have hMb : M ≤ b.size := by omega
  obtain ⟨X, hX⟩ : ∃ X, xorL a.data.toList b.data.toList = X := ⟨_, rfl⟩
  have hXl : X.length = M := by rw [← hX, xorL_len, hla, hlb, hM]
  rw [hX]
  have HX := Lib.hid hX
  have HLA := Lib.hid hla
  have HLB := Lib.hid hlb
  clear hla hlb hX hM
  go_enter Try.func34, Try.ntmps34
  go_wp2
  go_loopw [12] (fun iv wr => ∃ k : Nat, k ≤ M ∧ iv = .int .i64 k ∧ IB w.heap.size (Lib.byteCells (X.take k)) wr ∧ Below w.heap.size w wr) (fun iv _ => M - (intOf iv).toNat)
  case atStart => exact ⟨0, Nat.zero_le _, rfl, HB.out, (Below.refl _ _).alloc (Nat.le_refl _) _⟩
  case round =>
    obtain ⟨k, hk, rfl, hI, hb⟩ := hrel
    have HI := Lib.hid hI
    clear hI
    have hsz := hb.size
    have HBr := Lib.hid hb
    clear hb
    by_cases hlt : k < M
    · have hka : k < a.size := by omega
      have hkb : k < b.size := by omega
      obtain ⟨x, hx⟩ : ∃ x, a[k] = x := ⟨_, rfl⟩
      obtain ⟨y, hy⟩ : ∃ y, b[k] = y := ⟨_, rfl⟩
      have hgx : a.data.toList[k]? = some x := by
        rw [List.getElem?_eq_getElem (by rw [HLA.out]; exact hka), ← hx]; rfl
      have hgy : b.data.toList[k]? = some y := by
        rw [List.getElem?_eq_getElem (by rw [HLB.out]; exact hkb), ← hy]; rfl
      have HS : Hid (Lib.byteCells (X.take (k + 1)) = Lib.byteCells (X.take k) ++ [.int .u8 (x ^^^ y).toNat]) := Lib.hid (by rw [← HX.out, xorL_step _ _ _ _ _ hgx hgy, byteCells_app]; rfl)
      have hlen : (Lib.byteCells (X.take k)).length ≤ 200000 := by
        rw [byteCells_len, List.length_take]; omega
      generalize hbs : Lib.byteCells (X.take k) = bs at HI HS hlen
      have HBS := Lib.hid hbs
      have ex := xor8 x y
      have CW : Hid (Calls Try.prog 52 #[.pointer (some ⟨w.heap.size, 0, none⟩), .int .u8 ((x.toNat ^^^ y.toNat : Nat) : Int)] wr.drew fun e w' => e = .returned .nilIface ∧ IB w.heap.size (Lib.byteCells (X.take (k + 1))) w' ∧ Below w.heap.size w w') := Lib.hid (by
        refine (Bld.writeByte w.heap.size w.heap.size bs ((x.toNat ^^^ y.toNat : Nat) : Int) wr.drew (show IB w.heap.size bs wr.drew from (show IB w.heap.size bs wr from HI.out)) (by omega) hsz).mono ?_
        rintro e w1 ⟨h0, h1, hb1⟩
        refine ⟨h0, ?_, (below_drew HBr.out).trans hb1⟩
        rw [HS.out, UInt8.toNat_xor]
        exact h1)
      clear hbs hgx hgy
      go_wp2_with fail
      go_region_with (go_at_call 52; (with_reducible refine CW.out.mono ?_); rintro e w1 ⟨rfl, h1, hb1⟩; have H1 := Lib.hid h1; have HB1 := Lib.hid hb1; clear h1 hb1)
      all_goals
        go_wp2
        go_roundw
        case rel => exact ⟨k + 1, by omega, by go_num, H1.out, HB1.out⟩
        case measure => simp [intOf]; omega
    · obtain rfl : k = M := by omega
      rw [List.take_of_length_le (by omega)] at HI
      go_wp2_with fail
      refine (Try.Builder_String_any w.heap.size w.heap.size _ _ HI.out hsz).mono ?_
      rintro e w1 ⟨rfl, hb1⟩
      have HB1 := Lib.hid (HBr.out.trans hb1)
      clear hb1
      go_wp2
      go_ret
      exact ⟨rfl, HB1.out⟩
theorem rows_made (w : World) (cs : Array Value) (xs : List ByteArray) (h : cs = (xs.map Value.string).toArray) (T : TypeId) : RowS (w.alloc (.cells cs T)) w.heap.size 0 xs := ⟨by simp, fun j x hj => by
  rw [cell_of_row _ _ _ _ _ _ (heap_alloc_new w _), h]
  simp [hj]⟩
set_option maxHeartbeats 4000000 in
theorem shown_any (w : World) : Calls Try.prog 11 #[] w fun e w' => e = .returned (.bool true) ∧ Below w.heap.size w w' := by
  have CS : Hid (Calls Try.prog 12 #[.slice (some ⟨w.heap.size, 0, none⟩) 2 2] (w.alloc (.cells #[.string ⟨#[97]⟩, .string ⟨#[98, 99]⟩] 9)) fun e w' => e = .returned (.string ⟨#[186, 120, 22, 191, 143, 1, 207, 234, 65, 65, 64, 222, 93, 174, 34, 35, 176, 3, 97, 163, 150, 23, 122, 156, 180, 16, 255, 97, 242, 0, 21, 173]⟩) ∧ Below w.heap.size w w') := Lib.hid (by
    have h := sum_row w.heap.size 0 2 [⟨#[97]⟩, ⟨#[98, 99]⟩] _ (rows_made w _ _ rfl 9) (by decide) (by decide) (by decide)
    have e : cat [⟨#[97]⟩, ⟨#[98, 99]⟩] = [97, 98, 99] := rfl
    rw [e, abc] at h
    exact h.mono (by rintro e w' ⟨h1, h2⟩; exact ⟨h1, ((Below.refl _ _).alloc (Nat.le_refl _) _).trans (h2.mono (by simp))⟩))
  have CH : Hid (∀ W : World, Calls Try.prog 33 #[.string ⟨#[186, 120, 22, 191, 143, 1, 207, 234, 65, 65, 64, 222, 93, 174, 34, 35, 176, 3, 97, 163, 150, 23, 122, 156, 180, 16, 255, 97, 242, 0, 21, 173]⟩] W fun e w' => e = .returned (.string ⟨#[98, 97, 55, 56, 49, 54, 98, 102, 56, 102, 48, 49, 99, 102, 101, 97, 52, 49, 52, 49, 52, 48, 100, 101, 53, 100, 97, 101, 50, 50, 50, 51, 98, 48, 48, 51, 54, 49, 97, 51, 57, 54, 49, 55, 55, 97, 57, 99, 98, 52, 49, 48, 102, 102, 54, 49, 102, 50, 48, 48, 49, 53, 97, 100]⟩) ∧ Below W.heap.size W w') := Lib.hid (fun W => hex_any _ W (by decide))
  have CX : Hid (∀ W : World, Calls Try.prog 34 #[.string ⟨#[97, 98]⟩, .string ⟨#[98]⟩] W fun e w' => e = .returned (.string ⟨#[3]⟩) ∧ Below W.heap.size W w') := Lib.hid (fun W => xor_any _ _ W (by decide) (by decide))
  go_enter Try.func11, Try.ntmps11
  go_wp2_with fail
  refine CS.out.mono ?_
  rintro e w1 ⟨rfl, hb1⟩
  have hs1 := hb1.size
  have HB1 := Lib.hid hb1
  clear hb1
  go_wp2_with fail
  refine (CH.out _).mono ?_
  rintro e w2 ⟨rfl, hb2⟩
  have hs2 := hb2.size
  have HB2 := Lib.hid (HB1.out.trans (hb2.mono hs1))
  clear hb2
  go_wp2_with fail
  refine (CX.out _).mono ?_
  rintro e w3 ⟨rfl, hb3⟩
  have HB3 := Lib.hid (HB2.out.trans (hb3.mono (by omega)))
  clear hb3
  go_wp2
  go_ret
  exact ⟨rfl, HB3.out⟩
end Go.Proofs.Ythjphechdhbenaa.Dg
