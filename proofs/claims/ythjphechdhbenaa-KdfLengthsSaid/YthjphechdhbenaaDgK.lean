/- The walks of layer 7: Sum of rows; Hex; Xor; what is shown. -/
import Derived.Test.YthjphechdhbenaaDgJ
import Derived.Deep.RegionWith
namespace Go.Proofs.Ythjphechdhbenaa.Dg
set_option maxRecDepth 20000
open Go.RowKit
set_option linter.unusedVariables false
set_option linter.unusedSimpArgs false

def cat (xs : List ByteArray) : List UInt8 := (xs.map (·.data.toList)).flatten
theorem join_cat (l : List (List UInt8)) : Lib.join l [] = l.flatten := by
  unfold Lib.join List.intercalate
  induction l with
  | nil => rfl
  | cons a t ih =>
    cases t with
    | nil => simp
    | cons b t => simp only [List.intersperse_cons_cons, List.flatten_cons, ih, List.nil_append]
/-- Texts that are read. -/
def RowS (w : World) (b o : Nat) (xs : List ByteArray) : Prop := b < w.heap.size ∧ ∀ (j : Nat) x, xs[j]? = some x → w.cell? ⟨b, o + j, none⟩ = some (.string x)
theorem RowS.below {w w' : World} {b o B : Nat} {xs : List ByteArray} (h : RowS w b o xs) (hb : Below B w w') (hB : b < B) : RowS w' b o xs :=
  ⟨Nat.lt_of_lt_of_le h.1 hb.size, fun j x hj => (hb.cell (p := ⟨b, o + j, none⟩) hB).trans (h.2 j x hj)⟩
theorem sum_row (b o c : Nat) (xs : List ByteArray) (w : World) (hr : RowS w b o xs) (hn : xs.length ≤ 100000) (hc : xs.length ≤ c) (hl : (cat xs).length ≤ 100000) :
    Calls Try.prog 12 #[.slice (some ⟨b, o, none⟩) xs.length c] w fun e w' => e = .returned (.string ⟨(sha (cat xs)).toArray⟩) ∧ Below w.heap.size w w' :=
  sum_of _ (cat xs) w hl (Lib.hid fun W hW => by
    have hj : Lib.join (xs.map (·.data.toList)) (⟨#[]⟩ : ByteArray).data.toList = cat xs := join_cat _
    have h := Try.strings_Join b o c xs ⟨#[]⟩ W (hr.below hW hr.1).2 (Nat.lt_of_lt_of_le hr.1 hW.size) (by omega) hc (by rw [hj]; omega)
    rw [hj] at h
    exact h)
theorem sum_nil (a : Option Addr) (c : Nat) (w : World) :
    Calls Try.prog 12 #[.slice a 0 c] w fun e w' => e = .returned (.string ⟨(sha []).toArray⟩) ∧ Below w.heap.size w w' :=
  sum_of _ [] w (by decide) (Lib.hid fun W hW => (Try.strings_Join_none a c ⟨#[]⟩ W).mono (by rintro e w' ⟨h1, rfl⟩; exact ⟨h1, Below.refl _ _⟩))

def dg (k : Nat) : UInt8 := ([48, 49, 50, 51, 52, 53, 54, 55, 56, 57, 97, 98, 99, 100, 101, 102] : List UInt8).getD k 0
def hexL (l : List UInt8) : List UInt8 := l.flatMap fun c => [dg (c.toNat / 16), dg (c.toNat % 16)]
theorem hexL_step (l : List UInt8) (k : Nat) (c : UInt8) (hk : l[k]? = some c) : hexL (l.take (k + 1)) = hexL (l.take k) ++ [dg (c.toNat / 16), dg (c.toNat % 16)] := by
  obtain ⟨h, hc⟩ := List.getElem?_eq_some_iff.1 hk
  unfold hexL
  rw [List.take_succ_eq_append_getElem h, hc]
  simp only [List.flatMap_append, List.flatMap_cons, List.flatMap_nil, List.append_nil]
theorem hexL_len (l : List UInt8) : (hexL l).length = 2 * l.length := by
  induction l with
  | nil => rfl
  | cons x l ih =>
    have : hexL (x :: l) = [dg (x.toNat / 16), dg (x.toNat % 16)] ++ hexL l := by simp [hexL]
    rw [this, List.length_append, ih, List.length_cons, List.length_cons, List.length_cons, List.length_nil]; omega
theorem index_dig (k : Nat) (hk : k < 16) (w : World) : (Instr.index 9 (.string ⟨#[48, 49, 50, 51, 52, 53, 54, 55, 56, 57, 97, 98, 99, 100, 101, 102]⟩) (.int .u8 (k : Nat))).run Try.prog w = .ok (.int .u8 ((dg k).toNat : Nat)) w := by
  have : k = 0 ∨ k = 1 ∨ k = 2 ∨ k = 3 ∨ k = 4 ∨ k = 5 ∨ k = 6 ∨ k = 7 ∨ k = 8 ∨ k = 9 ∨ k = 10 ∨ k = 11 ∨ k = 12 ∨ k = 13 ∨ k = 14 ∨ k = 15 := by omega
  rcases this with rfl | rfl | rfl | rfl | rfl | rfl | rfl | rfl | rfl | rfl | rfl | rfl | rfl | rfl | rfl | rfl <;> (show _ = _; kernel_rfl)
theorem and15 (c : Nat) (hc : c < 256) : bits .and .u8 (c : Int) 15 = ((c % 16 : Nat) : Int) := by
  have h1 : (BitVec.ofInt 8 (c : Int)).toNat = c := by
    rw [BitVec.ofInt_natCast, BitVec.toNat_ofNat]; exact Nat.mod_eq_of_lt (by omega)
  have h2 : (BitVec.ofInt 8 (15 : Int)).toNat = 15 := by decide
  show IntKind.u8.wrap ((BitVec.ofInt 8 (c : Int) &&& BitVec.ofInt 8 (15 : Int)).toNat : Int) = _
  rw [BitVec.toNat_and, h1, h2, IntKind.wrap_u8]
  have h3 : c &&& 15 = c % 16 := Nat.and_two_pow_sub_one_eq_mod c 4
  rw [h3]
  omega
theorem byteCells_two (a b : UInt8) : Lib.byteCells [a, b] = [.int .u8 a.toNat, .int .u8 b.toNat] := rfl

set_option maxHeartbeats 4000000 in
theorem hex_any (s : ByteArray) (w : World) (hs : s.size ≤ 100000) :
    Calls Try.prog 33 #[.string s] w fun e w' => e = .returned (.string ⟨(hexL s.data.toList).toArray⟩) ∧ Below w.heap.size w w' := by
  have HB := Lib.hid (Lib.fresh_isBuilder 77 5 w)
  have hls : s.data.toList.length = s.size := by simp
  have HLS := Lib.hid hls
  clear hls
  go_enter Try.func33, Try.ntmps33
  go_wp2
  go_loopw [7] (fun iv wr => ∃ k : Nat, k ≤ s.size ∧ iv = .int .i64 k ∧ IB w.heap.size (Lib.byteCells (hexL (s.data.toList.take k))) wr ∧ Below w.heap.size w wr) (fun iv _ => s.size - (intOf iv).toNat)
  case atStart => exact ⟨0, Nat.zero_le _, rfl, HB.out, (Below.refl _ _).alloc (Nat.le_refl _) _⟩
  case round =>
    obtain ⟨k, hk, rfl, hI, hb⟩ := hrel
    have HI := Lib.hid hI
    clear hI
    have hsz := hb.size
    have HBr := Lib.hid hb
    clear hb
    by_cases hlt : k < s.size
    · obtain ⟨c, hc⟩ : ∃ c, s[k] = c := ⟨_, rfl⟩
      have hget : s.data.toList[k]? = some c := by
        rw [List.getElem?_eq_getElem (by rw [HLS.out]; exact hlt), ← hc]; rfl
      have HS : Hid (Lib.byteCells (hexL (s.data.toList.take (k + 1))) = Lib.byteCells (hexL (s.data.toList.take k)) ++ [.int .u8 (dg (c.toNat / 16)).toNat, .int .u8 (dg (c.toNat % 16)).toNat]) := Lib.hid (by rw [hexL_step _ _ _ hget, byteCells_app, byteCells_two])
      have hlen : (Lib.byteCells (hexL (s.data.toList.take k))).length ≤ 200000 := by
        rw [byteCells_len, hexL_len, List.length_take]; omega
      generalize hbs : Lib.byteCells (hexL (s.data.toList.take k)) = bs at HI HS hlen
      have HBS := Lib.hid hbs
      have hc8 := c.toNat_lt
      have i1 := index_dig (c.toNat / 16) (by omega)
      have i2 := index_dig (c.toNat % 16) (by omega)
      have e2 := and15 c.toNat (by omega)
      obtain ⟨h, hh⟩ : ∃ h, c.toNat / 16 = h := ⟨_, rfl⟩
      obtain ⟨l, hl⟩ : ∃ l, c.toNat % 16 = l := ⟨_, rfl⟩
      have e1 : (c.toNat : Int) / 16 = (h : Int) := by omega
      rw [hh] at i1 HS
      rw [hl] at i2 HS e2
      clear hbs hget hh hl
      go_wp2_with fail
      refine (Bld.writeByte _ _ _ _ _ HI.out (by omega) hsz).mono ?_
      rintro e w1 ⟨rfl, h1, hb1⟩
      have H1 := Lib.hid h1
      have hs1 : w.heap.size ≤ w1.heap.size := Nat.le_trans hsz hb1.size
      have HB1 := Lib.hid (HBr.out.trans hb1)
      clear h1 hb1
      go_wp2_with fail
      refine (Bld.writeByte _ _ _ _ _ H1.out (by simp; omega) hs1).mono ?_
      rintro e w2 ⟨rfl, h1, hb1⟩
      have H2 : Hid (IB w.heap.size (Lib.byteCells (hexL (s.data.toList.take (k + 1)))) w2) := Lib.hid (by rw [HS.out]; simpa using h1)
      have HB2 := Lib.hid (HB1.out.trans hb1)
      clear h1 hb1
      go_wp2
      go_roundw
      case rel => exact ⟨k + 1, by omega, by go_num, H2.out, HB2.out⟩
      case measure => simp [intOf]; omega
    · obtain rfl : k = s.size := by omega
      rw [List.take_of_length_le (by rw [HLS.out]; exact Nat.le_refl _)] at HI
      go_wp2_with fail
      refine (Try.Builder_String_any w.heap.size w.heap.size _ _ HI.out hsz).mono ?_
      rintro e w1 ⟨rfl, hb1⟩
      have HB1 := Lib.hid (HBr.out.trans hb1)
      clear hb1
      go_wp2
      go_ret
      exact ⟨rfl, HB1.out⟩
end Go.Proofs.Ythjphechdhbenaa.Dg
