/- The walks of layer 7: Xor; what is shown. · The walks of layer 9: a text cut, or filled up; the words of a key and a nonce; a counter among them -/
import Derived.Test.YtojoalmldapboaaGreatDoorJa10
import Derived.Test.YtojoalmldapboaaGreatDoorJa05
import Derived.Deep.WholeRow
import Derived.Great.Ranges
namespace Go.Proofs.YtojoalmldapboaaGreatDoor.Dg
set_option maxRecDepth 20000
open Go.RowKit
set_option linter.unusedVariables false
set_option linter.unusedSimpArgs false

def xorL (a b : List UInt8) : List UInt8 := List.zipWith (· ^^^ ·) a b
theorem xorL_len (a b : List UInt8) : (xorL a b).length = min a.length b.length := by simp [xorL]
theorem xorL_step (a b : List UInt8) (k : Nat) (x y : UInt8) (hx : a[k]? = some x) (hy : b[k]? = some y) : (xorL a b).take (k + 1) = (xorL a b).take k ++ [x ^^^ y] := by
  obtain ⟨h1, e1⟩ := List.getElem?_eq_some_iff.1 hx
  obtain ⟨h2, e2⟩ := List.getElem?_eq_some_iff.1 hy
  have h : k < (xorL a b).length := by rw [xorL_len]; omega
  rw [List.take_succ_eq_append_getElem h]
  congr 1
  simp [xorL, e1, e2]
theorem xor8 (x y : UInt8) : bits .xor .u8 (x.toNat : Int) (y.toNat : Int) = ((x.toNat ^^^ y.toNat : Nat) : Int) := by
  have hx := x.toNat_lt
  have hy := y.toNat_lt
  have h1 : (BitVec.ofInt 8 (x.toNat : Int)).toNat = x.toNat := by
    rw [BitVec.ofInt_natCast, BitVec.toNat_ofNat]; exact Nat.mod_eq_of_lt (by omega)
  have h2 : (BitVec.ofInt 8 (y.toNat : Int)).toNat = y.toNat := by
    rw [BitVec.ofInt_natCast, BitVec.toNat_ofNat]; exact Nat.mod_eq_of_lt (by omega)
  have h3 : x.toNat ^^^ y.toNat < 2 ^ 8 := Nat.xor_lt_two_pow (by omega) (by omega)
  show IntKind.u8.wrap ((BitVec.ofInt 8 (x.toNat : Int) ^^^ BitVec.ofInt 8 (y.toNat : Int)).toNat : Int) = _
  rw [BitVec.toNat_xor, h1, h2, IntKind.wrap_u8]
  omega
theorem min_run (x y z : Int) (h : min x y = z) (ts : Array TypeId) (t : TypeId) (w : World) : (Builtin.min_ ts t #[.int .i64 x, .int .i64 y]).run Tryz.prog w = .ok (.int .i64 z) w := by
  rw [run_min_int2, ← h]
  by_cases h : y < x
  · rw [if_pos h, show min x y = y by omega]
  · rw [if_neg h, show min x y = x by omega]

set_option maxHeartbeats 4000000 in
theorem xor_any (a b : ByteArray) (w : World) (ha : a.size ≤ 100000) (hb : b.size ≤ 100000) :
    Calls Tryz.prog 33 #[.string a, .string b] w fun e w' => e = .returned (.string ⟨(xorL a.data.toList b.data.toList).toArray⟩) ∧ Below w.heap.size w w' := by
  have HB := Lib.hid (Lib.fresh_isBuilder 68 5 w)
  have hla : a.data.toList.length = a.size := by simp
  have hlb : b.data.toList.length = b.size := by simp
  obtain ⟨M, hM⟩ : ∃ M, min a.size b.size = M := ⟨_, rfl⟩
  have hrun := min_run (a.size : Nat) (b.size : Nat) (M : Nat) (by omega)
  have hMa : M ≤ a.size := by omega
  have hMb : M ≤ b.size := by omega
  obtain ⟨X, hX⟩ : ∃ X, xorL a.data.toList b.data.toList = X := ⟨_, rfl⟩
  have hXl : X.length = M := by rw [← hX, xorL_len, hla, hlb, hM]
  rw [hX]
  have HX := Lib.hid hX
  have HLA := Lib.hid hla
  have HLB := Lib.hid hlb
  clear hla hlb hX hM
  go_enter Tryz.func33, Tryz.ntmps33
  go_wp2
  go_loopw [12] (fun iv wr => ∃ k : Nat, k ≤ M ∧ iv = .int .i64 k ∧ IB w.heap.size (Lib.byteCells (X.take k)) wr ∧ Below w.heap.size w wr) (fun iv _ => M - (intOf iv).toNat)
  case atStart => exact ⟨0, Nat.zero_le _, rfl, HB.out, (Below.refl _ _).alloc (Nat.le_refl _) _⟩
  case round =>
    obtain ⟨k, hk, rfl, hI, hb⟩ := hrel
    have HI := Lib.hid hI
    clear hI
    have hsz := hb.size
    have HBr := Lib.hid hb
    clear hb
    by_cases hlt : k < M
    · have hka : k < a.size := by omega
      have hkb : k < b.size := by omega
      obtain ⟨x, hx⟩ : ∃ x, a[k] = x := ⟨_, rfl⟩
      obtain ⟨y, hy⟩ : ∃ y, b[k] = y := ⟨_, rfl⟩
      have hgx : a.data.toList[k]? = some x := by
        rw [List.getElem?_eq_getElem (by rw [HLA.out]; exact hka), ← hx]; rfl
      have hgy : b.data.toList[k]? = some y := by
        rw [List.getElem?_eq_getElem (by rw [HLB.out]; exact hkb), ← hy]; rfl
      have HS : Hid (Lib.byteCells (X.take (k + 1)) = Lib.byteCells (X.take k) ++ [.int .u8 (x ^^^ y).toNat]) := Lib.hid (by rw [← HX.out, xorL_step _ _ _ _ _ hgx hgy, byteCells_app]; rfl)
      have hlen : (Lib.byteCells (X.take k)).length ≤ 200000 := by
        rw [byteCells_len, List.length_take]; omega
      generalize hbs : Lib.byteCells (X.take k) = bs at HI HS hlen
      have HBS := Lib.hid hbs
      have ex := xor8 x y
      have CW : Hid (Calls Tryz.prog 69 #[.pointer (some ⟨w.heap.size, 0, none⟩), .int .u8 ((x.toNat ^^^ y.toNat : Nat) : Int)] wr.drew fun e w' => e = .returned .nilIface ∧ IB w.heap.size (Lib.byteCells (X.take (k + 1))) w' ∧ Below w.heap.size w w') := Lib.hid (by
        refine (Bld.writeByte w.heap.size w.heap.size bs ((x.toNat ^^^ y.toNat : Nat) : Int) wr.drew (show IB w.heap.size bs wr.drew from (show IB w.heap.size bs wr from HI.out)) (by omega) hsz).mono ?_
        rintro e w1 ⟨h0, h1, hb1⟩
        refine ⟨h0, ?_, (below_drew HBr.out).trans hb1⟩
        rw [HS.out, UInt8.toNat_xor]
        exact h1)
      clear hbs hgx hgy
      go_wp2_with fail
      go_region_with (go_at_call 69; (with_reducible refine CW.out.mono ?_); rintro e w1 ⟨rfl, h1, hb1⟩; have H1 := Lib.hid h1; have HB1 := Lib.hid hb1; clear h1 hb1)
      all_goals
        go_wp2
        go_roundw
        case rel => exact ⟨k + 1, by omega, by go_num, H1.out, HB1.out⟩
        case measure => simp [intOf]; omega
    · obtain rfl : k = M := by omega
      rw [List.take_of_length_le (by omega)] at HI
      go_wp2_with fail
      refine (Tryz.Builder_String_any w.heap.size w.heap.size _ _ HI.out hsz).mono ?_
      rintro e w1 ⟨rfl, hb1⟩
      have HB1 := Lib.hid (HBr.out.trans hb1)
      clear hb1
      go_wp2
      go_ret
      exact ⟨rfl, HB1.out⟩
theorem rows_made (w : World) (cs : Array Value) (xs : List ByteArray) (h : cs = (xs.map Value.string).toArray) (T : TypeId) : RowS (w.alloc (.cells cs T)) w.heap.size 0 xs := ⟨by simp, fun j x hj => by
  rw [cell_of_row _ _ _ _ _ _ (heap_alloc_new w _), h]
  simp [hj]⟩
end Go.Proofs.YtojoalmldapboaaGreatDoor.Dg
namespace Go.Proofs.YtojoalmldapboaaGreatDoor.Se
set_option maxRecDepth 20000
open Go.RowKit Vm Dg
set_option linter.unusedVariables false
set_option linter.unusedSimpArgs false

theorem fit_short (s : ByteArray) (n : Nat) (h : n ≤ s.size) : s.extract 0 n = ⟨(fit s.data.toList n).toArray⟩ := by
  have hl : s.data.toList.length = s.size := by simp
  apply ByteArray.ext
  apply Array.ext'
  unfold fit
  rw [if_pos (by omega)]
  simp only [ByteArray.data_extract, Array.toList_extract, List.extract_eq_take_drop]
  simp
theorem fit_far (s : ByteArray) (n : Nat) (h : ¬ n ≤ s.size) : s ++ ⟨(List.replicate (n - s.size) (0 : UInt8)).toArray⟩ = ⟨(fit s.data.toList n).toArray⟩ := by
  have hl : s.data.toList.length = s.size := by simp
  apply ByteArray.ext
  apply Array.ext'
  unfold fit
  rw [if_neg (by omega), ByteArray.data_append, Array.toList_append, hl]
set_option maxHeartbeats 1000000 in
theorem fitted_any (s : ByteArray) (n : Nat) (w : World) (hn : n ≤ 1000) (hs : s.size ≤ 100000) : Calls Tryz.prog 70 #[.string s, .int .i64 n] w fun e w' => e = .returned (.string ⟨(fit s.data.toList n).toArray⟩) ∧ Below w.heap.size w w' := by
  by_cases h : n ≤ s.size
  · have hI : (s.size : Int) ≥ (n : Int) := by omega
    have e := fit_short s n h
    generalize fit s.data.toList n = F at e ⊢
    have hnI : (n : Int) ≤ 1000 := by omega
    clear h
    go_enter Tryz.func70, Tryz.ntmps70
    go_wp2
    go_ret
    exact ⟨rfl, Below.refl _ _⟩
  · have hI : ¬ (s.size : Int) ≥ (n : Int) := by omega
    have e := fit_far s n h
    obtain ⟨Z, hZ⟩ : ∃ Z, n - s.size = Z := ⟨_, rfl⟩
    rw [hZ] at e
    have hZI : (n : Int) - (s.size : Int) = (Z : Int) := by omega
    have CR := Lib.hid (fun W => rep_any Z W (by omega))
    generalize fit s.data.toList n = F at e ⊢
    obtain ⟨R, hR⟩ : ∃ R : ByteArray, ⟨(List.replicate Z (0 : UInt8)).toArray⟩ = R := ⟨_, rfl⟩
    rw [hR] at CR e
    have hnI : (n : Int) ≤ 1000 := by omega
    have hRs : R.size = Z := by rw [← hR]; show (List.replicate Z (0 : UInt8)).toArray.size = Z; simp
    have hsI : (s.size : Int) ≤ 100000 := by omega
    clear h hZ hR
    go_enter Tryz.func70, Tryz.ntmps70
    go_wp2_with fail
    with_reducible refine (CR.out _).mono ?_
    rintro e1 w1 ⟨rfl, hb⟩
    have HB1 := Lib.hid hb
    clear hb
    go_wp2_with fail
    go_ret
    exact ⟨by first | rfl | (rw [← e]; rfl), HB1.out⟩
/-- The words, of which k are laid. -/
def lay (T : List UInt8) (k : Nat) : List Nat := (List.range 16).map fun j => if j < k then lw T j else 0
theorem lay_len (T : List UInt8) (k : Nat) : (lay T k).length = 16 := by simp [lay]
theorem lay_zero (T : List UInt8) : lay T 0 = List.replicate 16 0 := by
  apply List.ext_getElem
  · simp [lay]
  · intro i h1 h2
    rw [List.getElem_replicate]
    simp [lay]
theorem lay_all (T : List UInt8) : lay T 16 = (List.range 16).map (lw T) := by
  apply List.ext_getElem
  · simp [lay]
  · intro i h1 h2
    have hi : i < 16 := by simpa [lay] using h1
    simp [lay, hi]
theorem lay_set (T : List UInt8) (k : Nat) (hk : k < 16) : (lay T k).set k (lw T k) = lay T (k + 1) := by
  apply List.ext_getElem
  · simp [lay]
  · intro i h1 h2
    simp only [lay, List.getElem_set, List.getElem_map, List.getElem_range]
    by_cases hij : k = i
    · subst hij
      rw [if_pos rfl, if_pos (by omega)]
    · rw [if_neg hij]
      by_cases h : i < k
      · rw [if_pos h, if_pos (by omega)]
      · rw [if_neg h, if_neg (by omega)]
theorem lw_cut (S : ByteArray) (k : Nat) (h : 4 * k + 4 ≤ S.size) : lw (S.extract (4 * k) (4 * k + 4)).data.toList 0 = lw S.data.toList k := by
  have hl : S.data.toList.length = S.size := by simp
  have e : (S.extract (4 * k) (4 * k + 4)).data.toList = (S.data.toList.drop (4 * k)).take 4 := by
    simp only [ByteArray.data_extract, Array.toList_extract, List.extract_eq_take_drop]
    congr 1
    omega
  have g : ∀ i, i < 4 → ((S.data.toList.drop (4 * k)).take 4).getD i 0 = S.data.toList.getD (4 * k + i) 0 := by
    intro i hi
    rw [List.getD_eq_getElem?_getD, List.getD_eq_getElem?_getD, List.getElem?_take_of_lt hi, List.getElem?_drop]
  rw [e]
  unfold lw
  rw [g 0 (by decide), g 1 (by decide), g 2 (by decide), g 3 (by decide)]
  rfl
theorem lw_cut' (S : ByteArray) (k : Nat) (h : 4 * k + 4 ≤ S.size) : lw (S.extract (k * 4) ((k + 1) * 4)).data.toList 0 = lw S.data.toList k := by
  rw [show k * 4 = 4 * k by omega, show (k + 1) * 4 = 4 * k + 4 by omega]; exact lw_cut S k h
theorem cut_size' (S : ByteArray) (k : Nat) (h : 4 * k + 4 ≤ S.size) : (S.extract (k * 4) ((k + 1) * 4)).size = 4 := by
  rw [ByteArray.size_extract]; omega
theorem inf_words : (Tryz.prog.info? 63).map (·.size) = some 16 := by kernel_rfl
def wv (l : List Nat) : Value := .agg (l.map fun x : Nat => Value.int .u32 x).toArray
set_option maxHeartbeats 4000000 in
theorem wordsOf_any (key nonce : ByteArray) (w : World) (hk : key.size ≤ 100000) (hn : nonce.size ≤ 100000) :
    Calls Tryz.prog 32 #[.string key, .string nonce] w fun e w' => e = .returned (wv (ini key.data.toList nonce.data.toList 0)) ∧ Below w.heap.size w w' := by
  have CK : Hid (∀ W : World, Calls Tryz.prog 70 #[.string key, .int .i64 32] W fun e w' => e = .returned (.string ⟨(fit key.data.toList 32).toArray⟩) ∧ Below W.heap.size W w') := Lib.hid (fun W => fitted_any key 32 W (by decide) hk)
  have CZ : Hid (∀ W : World, Calls Tryz.prog 70 #[.string ⟨#[]⟩, .int .i64 4] W fun e w' => e = .returned (.string ⟨(fit [] 4).toArray⟩) ∧ Below W.heap.size W w') := Lib.hid (fun W => fitted_any ⟨#[]⟩ 4 W (by decide) (by decide))
  have CN : Hid (∀ W : World, Calls Tryz.prog 70 #[.string nonce, .int .i64 12] W fun e w' => e = .returned (.string ⟨(fit nonce.data.toList 12).toArray⟩) ∧ Below W.heap.size W w') := Lib.hid (fun W => fitted_any nonce 12 W (by decide) hn)
  have hS : (((⟨#[101, 120, 112, 97, 110, 100, 32, 51, 50, 45, 98, 121, 116, 101, 32, 107]⟩ : ByteArray) ++ (⟨(fit key.data.toList 32).toArray⟩ : ByteArray)) ++ (⟨(fit [] 4).toArray⟩ : ByteArray)) ++ (⟨(fit nonce.data.toList 12).toArray⟩ : ByteArray) = ⟨(txt key.data.toList nonce.data.toList).toArray⟩ := by
    apply ByteArray.ext
    apply Array.ext'
    simp only [ByteArray.data_append, Array.toList_append]
    rfl
  have hW := txt_words key.data.toList nonce.data.toList
  have hlen := txt_len key.data.toList nonce.data.toList
  generalize ini key.data.toList nonce.data.toList 0 = I at hW ⊢
  generalize txt key.data.toList nonce.data.toList = X at *
  have s1 : (⟨(fit key.data.toList 32).toArray⟩ : ByteArray).size = 32 := by show (fit key.data.toList 32).toArray.size = 32; simp [fit_len]
  have s2 : (⟨(fit [] 4).toArray⟩ : ByteArray).size = 4 := by show (fit [] 4).toArray.size = 4; simp [fit_len]
  have s3 : (⟨(fit nonce.data.toList 12).toArray⟩ : ByteArray).size = 12 := by show (fit nonce.data.toList 12).toArray.size = 12; simp [fit_len]
  generalize (⟨(fit key.data.toList 32).toArray⟩ : ByteArray) = A at *
  generalize (⟨(fit [] 4).toArray⟩ : ByteArray) = Z at *
  generalize (⟨(fit nonce.data.toList 12).toArray⟩ : ByteArray) = N at *
  obtain ⟨S, hSX⟩ : ∃ S : ByteArray, ⟨X.toArray⟩ = S := ⟨_, rfl⟩
  rw [hSX] at hS
  have hXS : X = S.data.toList := by rw [← hSX]
  have hS64 : S.size = 64 := by rw [← hSX]; show X.toArray.size = 64; simp [hlen]
  subst hXS
  have HW := Lib.hid hW
  have CNB := Lib.hid (fun (k : Nat) (h : k < 16) (W : World) => number_any (S.extract (k * 4) ((k + 1) * 4)) W (cut_size' S k (by omega)))
  have HCUT := Lib.hid (fun (k : Nat) (h : k < 16) => lw_cut' S k (by omega))
  have h64 : (S.size : Int) = 64 := by omega
  have H64 := Lib.hid hS64
  clear hW hlen hSX hS64
  go_enter Tryz.func32, Tryz.ntmps32
  go_wp2_with fail
  with_reducible refine (CK.out _).mono ?_
  rintro e1 w1 ⟨rfl, hb⟩
  have HR1 : Hid (WB 63 w1 w.heap.size (List.replicate 16 0)) := Lib.hid ((hb.block w.heap.size (by simp)).trans (heap_alloc_new w _))
  have HB1 := Lib.hid (((Below.refl w.heap.size w).alloc (Nat.le_refl _) _).trans (hb.mono (by simp)))
  clear hb
  go_wp2_with fail
  with_reducible refine (CZ.out _).mono ?_
  rintro e2 w2 ⟨rfl, hb⟩
  have HR2 := Lib.hid (HR1.out.keep hb HR1.out.lt)
  have HB2 := Lib.hid (HB1.out.trans (hb.mono HB1.out.size))
  clear hb
  go_wp2_with fail
  with_reducible refine (CN.out _).mono ?_
  rintro e3 w3 ⟨rfl, hb⟩
  have HR3 := Lib.hid (HR2.out.keep hb HR2.out.lt)
  have HB3 := Lib.hid (HB2.out.trans (hb.mono HB2.out.size))
  clear hb
  go_wp2_with fail
  have hs3 := HB3.out.size
  have hlt3 := HR3.out.lt
  go_loopw [16] (fun iv wr => ∃ k : Nat, k ≤ 16 ∧ iv = .int .i64 k ∧ WB 63 wr w.heap.size (List.replicate 16 0) ∧ WB 63 wr w3.heap.size (lay S.data.toList k) ∧ Below w.heap.size w wr) (fun iv _ => 16 - (intOf iv).toNat)
  case atStart => exact ⟨0, by omega, rfl, HR3.out.keep ((Below.refl _ _).alloc (Nat.le_refl _) _) hlt3, by rw [lay_zero]; exact heap_alloc_new _ _, HB3.out.alloc hs3 _⟩
  case round =>
    obtain ⟨k, hk, rfl, hr, hl, hb⟩ := hrel
    have HR := Lib.hid hr
    have HL := Lib.hid hl
    have HB := Lib.hid hb
    clear hr hl hb
    by_cases hlt : k < 16
    · have hkI : (k : Int) < 16 := by omega
      have CB := Lib.hid (CNB.out k hlt)
      have HQ := Lib.hid (HCUT.out k hlt)
      have HT := Lib.hid (lay_set S.data.toList k hlt)
      rw [HQ.out] at CB
      have HN := Lib.hid (HL.out.set k (lw S.data.toList k))
      have hc := HL.out.cell k (by rw [lay_len]; omega)
      have hf := HL.out.fz k
      generalize lw S.data.toList k = x at CB HT HN
      go_wp2_with fail
      with_reducible refine (CB.out _).mono ?_
      rintro e4 w4 ⟨rfl, rfl⟩
      go_wp2_with fail
      go_roundw
      case rel => exact ⟨k + 1, by omega, by go_num, HR.out.other (by omega) _ _, by rw [← HT.out]; exact HN.out, HB.out.setCell (p := ⟨w3.heap.size, k, none⟩) (by omega) _⟩
      case measure => simp only [intOf]; omega
    · obtain rfl : k = 16 := by omega
      have HI : Hid (WB 63 wr w3.heap.size I) := Lib.hid (by have h := HL.out; rw [lay_all, HW.out] at h; exact h)
      have hIl : I.length = 16 := by rw [← HW.out]; simp
      go_upto_region 8 with (fail)
      refine wp_region_lit ?_
      refine wpList_load_row rfl _ _ rfl w3.heap.size rfl _ _ _ _ HI.out Tryz.underlying63 rfl (by rw [inf_words]; simp [hIl]) ?_
      refine wpList_store_row rfl _ _ _ rfl w.heap.size _ rfl rfl _ _ HR.out (by rw [inf_words]; simp [hIl]) (by simp [hIl]) (all_words _) ?_
      have HRW : Hid (WB 63 (wr.setRow w.heap.size (I.map fun x : Nat => Value.int .u32 x).toArray) w.heap.size I) := Lib.hid (setRow_heap wr w.heap.size _ _ _ _ HR.out)
      have HBW := Lib.hid (below_setRow HB.out (Nat.le_refl _) (I.map fun x : Nat => Value.int .u32 x).toArray)
      generalize wr.setRow w.heap.size (I.map fun x : Nat => Value.int .u32 x).toArray = W at *
      go_wp2
      exact bodyPost_ret (v := wv I) (results_cell_row Tryz.results32 _ W w.heap.size _ _ _ _ rfl HRW.out Tryz.underlying63 rfl (by rw [inf_words]; simp [hIl])) rfl ⟨rfl, HBW.out⟩
set_option maxHeartbeats 4000000 in
theorem at_any (l : List Nat) (c : Nat) (w : World) (hl : l.length = 16) (hc : c < 4294967296) :
    Calls Tryz.prog 34 #[wv l, .int .u32 c] w fun e w' => e = .returned (wv (l.set 12 c)) ∧ Below w.heap.size w w' := by
  unfold wv
  have hcI : (c : Int) < 4294967296 := by omega
  have hL : (l.set 12 c).length = 16 := by simp [hl]
  have HM0 := Lib.hid (heap_alloc_new w (.cells (l.map fun x : Nat => Value.int .u32 x).toArray 63))
  go_enter Tryz.func34, Tryz.ntmps34
  go_upto_region 0 with (fail)
  refine wp_region_lit ?_
  refine Go.Great.wpList_boxTo rfl _ _ rfl (some 2) rfl w.heap.size rfl _ rfl ?_
  go_upto_region 1 with (fail)
  have HX : Hid (WB 63 ((w.alloc (.cells (l.map fun x : Nat => Value.int .u32 x).toArray 63)).alloc (.cells ((List.replicate 16 0).map fun x : Nat => Value.int .u32 x).toArray 63)) w.heap.size l) := Lib.hid ((Below.heap_alloc _ _ w.heap.size (by simp)).trans HM0.out)
  have HZ : Hid (WB 63 ((w.alloc (.cells (l.map fun x : Nat => Value.int .u32 x).toArray 63)).alloc (.cells ((List.replicate 16 0).map fun x : Nat => Value.int .u32 x).toArray 63)) (w.heap.size + 1) (List.replicate 16 0)) := Lib.hid (by
    have h := heap_alloc_new (w.alloc (.cells (l.map fun x : Nat => Value.int .u32 x).toArray 63)) (.cells ((List.replicate 16 0).map fun x : Nat => Value.int .u32 x).toArray 63)
    rwa [World.size_alloc] at h)
  have HB := Lib.hid (((Below.refl w.heap.size w).alloc (Nat.le_refl _) (.cells (l.map fun x : Nat => Value.int .u32 x).toArray 63)).alloc (by simp) (.cells ((List.replicate 16 0).map fun x : Nat => Value.int .u32 x).toArray 63))
  have HG : ((w.alloc (.cells (l.map fun x : Nat => Value.int .u32 x).toArray 63)).alloc (.cells ((List.replicate 16 0).map fun x : Nat => Value.int .u32 x).toArray 63)) = ((w.alloc (.cells (l.map fun x : Nat => Value.int .u32 x).toArray 63)).alloc (.cells #[.int .u32 0, .int .u32 0, .int .u32 0, .int .u32 0, .int .u32 0, .int .u32 0, .int .u32 0, .int .u32 0, .int .u32 0, .int .u32 0, .int .u32 0, .int .u32 0, .int .u32 0, .int .u32 0, .int .u32 0, .int .u32 0] 63)) := rfl
  rw [HG] at HX HZ HB
  clear HG
  generalize ((w.alloc (.cells (l.map fun x : Nat => Value.int .u32 x).toArray 63)).alloc (.cells #[.int .u32 0, .int .u32 0, .int .u32 0, .int .u32 0, .int .u32 0, .int .u32 0, .int .u32 0, .int .u32 0, .int .u32 0, .int .u32 0, .int .u32 0, .int .u32 0, .int .u32 0, .int .u32 0, .int .u32 0, .int .u32 0] 63)) = W0 at HX HZ HB ⊢
  have hc := HX.out.cell 12 (by omega)
  have hf := HX.out.fz 12
  have HX2 := Lib.hid (HX.out.set 12 c)
  have HZ2 := Lib.hid (HZ.out.other (show w.heap.size + 1 ≠ w.heap.size by omega) 12 (.int .u32 (c : Int)))
  have HB2 := Lib.hid (HB.out.setCell (p := ⟨w.heap.size, 12, none⟩) (Nat.le_refl _) (.int .u32 (c : Int)))
  go_upto_region 2 with (fail)
  generalize W0.setCell ⟨w.heap.size, 12, none⟩ (.int .u32 (c : Int)) = W1 at HX2 HZ2 HB2 ⊢
  refine wp_region_lit ?_
  refine wpList_load_row rfl _ _ rfl w.heap.size rfl _ _ _ _ HX2.out Tryz.underlying63 rfl (by rw [inf_words]; simp [hl]) ?_
  refine wpList_store_row rfl _ _ _ rfl (w.heap.size + 1) _ rfl rfl _ _ HZ2.out (by rw [inf_words]; simp [hl]) (by simp [hl]) (all_words _) ?_
  have HRW : Hid (WB 63 (W1.setRow (w.heap.size + 1) ((l.set 12 c).map fun x : Nat => Value.int .u32 x).toArray) (w.heap.size + 1) (l.set 12 c)) := Lib.hid (setRow_heap W1 (w.heap.size + 1) _ _ _ _ HZ2.out)
  have HBW := Lib.hid (below_setRow HB2.out (show w.heap.size ≤ w.heap.size + 1 by omega) ((l.set 12 c).map fun x : Nat => Value.int .u32 x).toArray)
  generalize W1.setRow (w.heap.size + 1) ((l.set 12 c).map fun x : Nat => Value.int .u32 x).toArray = W at *
  go_wp2
  exact bodyPost_ret (v := .agg ((l.set 12 c).map fun x : Nat => Value.int .u32 x).toArray) (results_cell_row Tryz.results34 _ W (w.heap.size + 1) _ _ _ _ rfl HRW.out Tryz.underlying63 rfl (by rw [inf_words]; simp [hl])) rfl ⟨rfl, HBW.out⟩
end Go.Proofs.YtojoalmldapboaaGreatDoor.Se
