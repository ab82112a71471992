/- The walks of layer 7: bytes of words; a text with what stands behind it · The walks of layer 7: Sum. · The walks of layer 7: Sum of rows; Hex; Xor; what is shown. -/
import Derived.Test.YtojoalmldapboaaGreatDoorJa09
import Derived.Deep.RegionWith
namespace Go.Proofs.YtojoalmldapboaaGreatDoor.Dg
set_option maxRecDepth 20000
open Go.RowKit
set_option linter.unusedVariables false
set_option linter.unusedSimpArgs false

/-- Words that are read. -/
def Row32 (w : World) (b : Nat) (l : List Nat) : Prop := b < w.heap.size ∧ ∀ j, j < l.length → w.cell? ⟨b, j, none⟩ = some (.int .u32 (l.getD j 0 : Nat))
theorem Row32.below {w w' : World} {b B : Nat} {l : List Nat} (h : Row32 w b l) (hb : Below B w w') (hB : b < B) : Row32 w' b l :=
  ⟨Nat.lt_of_lt_of_le h.1 hb.size, fun j hj => (hb.cell (p := ⟨b, j, none⟩) hB).trans (h.2 j hj)⟩
theorem be_cells (x : Nat) : Lib.byteCells (be x) = [.int .u8 ((x : Int) / 16777216 % 256), .int .u8 ((x : Int) / 65536 % 256), .int .u8 ((x : Int) / 256 % 256), .int .u8 ((x : Int) % 256)] := by
  simp [Lib.byteCells, be, UInt8.toNat_ofNat']
theorem bes_step (l : List Nat) (k : Nat) (hk : k < l.length) : bes (l.take (k + 1)) = bes (l.take k) ++ be (l.getD k 0) := by
  have e : l.getD k 0 = l[k] := by simp [List.getD, hk]
  unfold bes
  rw [List.take_succ_eq_append_getElem hk, e]
  simp only [List.flatMap_append, List.flatMap_cons, List.flatMap_nil, List.append_nil]
theorem be_len (x : Nat) : (be x).length = 4 := rfl
theorem bes_len (l : List Nat) : (bes l).length = 4 * l.length := by
  induction l with
  | nil => rfl
  | cons x l ih =>
    have : bes (x :: l) = be x ++ bes l := by simp [bes]
    rw [this, List.length_append, ih, be_len, List.length_cons]; omega
theorem byteCells_app (a b : List UInt8) : Lib.byteCells (a ++ b) = Lib.byteCells a ++ Lib.byteCells b := by simp [Lib.byteCells]
theorem byteCells_len (a : List UInt8) : (Lib.byteCells a).length = a.length := by simp [Lib.byteCells]
/-- A builder of the call's own. -/
abbrev IB (B : Nat) (bs : List Value) (w : World) : Prop := Lib.IsBuilder 68 5 B B bs w

set_option maxHeartbeats 8000000 in
theorem written_any (b c : Nat) (l : List Nat) (w : World) (hr : Row32 w b l) (hl : l.length ≤ 100) :
    Calls Tryz.prog 144 #[.slice (some ⟨b, 0, none⟩) l.length c] w fun e w' => e = .returned (.string ⟨(bes l).toArray⟩) ∧ Below w.heap.size w w' := by
  have hblt := hr.1
  have HR := Lib.hid hr
  clear hr
  have HB := Lib.hid (Lib.fresh_isBuilder 68 5 w)
  go_enter Tryz.func144, Tryz.ntmps144
  go_wp2
  go_loopw [9] (fun iv wr => ∃ k : Nat, k ≤ l.length ∧ iv = .int .i64 k ∧ IB w.heap.size (Lib.byteCells (bes (l.take k))) wr ∧ Below w.heap.size w wr) (fun iv _ => l.length - (intOf iv).toNat)
  case atStart => exact ⟨0, Nat.zero_le _, rfl, HB.out, (Below.refl _ _).alloc (Nat.le_refl _) _⟩
  case round =>
    obtain ⟨k, hk, rfl, hI, hb⟩ := hrel
    have HI := Lib.hid hI
    clear hI
    have hsz := hb.size
    have HBr := Lib.hid hb
    have HRr := Lib.hid (HR.out.below hb hblt)
    clear hb
    by_cases hlt : k < l.length
    · have hc := HRr.out.2 k hlt
      have HS : Hid (Lib.byteCells (bes (l.take (k + 1))) = Lib.byteCells (bes (l.take k)) ++ Lib.byteCells (be (l.getD k 0))) := Lib.hid (by rw [bes_step l k hlt, byteCells_app])
      rw [be_cells] at HS
      have hlen : (Lib.byteCells (bes (l.take k))).length ≤ 400 := by
        rw [byteCells_len, bes_len, List.length_take]; omega
      generalize l.getD k 0 = x at hc HS
      generalize hbs : Lib.byteCells (bes (l.take k)) = bs at HI HS hlen
      have HBS := Lib.hid hbs
      clear hbs
      go_wp2
      refine wp_loop_rounds 5 ?_
      rw [rounds_succ]
      go_wp2_with fail
      refine (Bld.writeByte _ _ _ _ _ HI.out (by omega) hsz).mono ?_
      rintro e w1 ⟨rfl, h1, hb1⟩
      have H1 := Lib.hid h1
      have hs1 : w.heap.size ≤ w1.heap.size := Nat.le_trans hsz hb1.size
      have HB1 := Lib.hid (HBr.out.trans hb1)
      clear h1 hb1
      go_wp2_with fail
      rw [rounds_succ]
      go_wp2_with fail
      refine (Bld.writeByte _ _ _ _ _ H1.out (by simp; omega) hs1).mono ?_
      rintro e w2 ⟨rfl, h1, hb1⟩
      have H2 := Lib.hid h1
      have hs2 : w.heap.size ≤ w2.heap.size := Nat.le_trans hs1 hb1.size
      have HB2 := Lib.hid (HB1.out.trans hb1)
      clear h1 hb1
      go_wp2_with fail
      rw [rounds_succ]
      go_wp2_with fail
      refine (Bld.writeByte _ _ _ _ _ H2.out (by simp; omega) hs2).mono ?_
      rintro e w3 ⟨rfl, h1, hb1⟩
      have H3 := Lib.hid h1
      have hs3 : w.heap.size ≤ w3.heap.size := Nat.le_trans hs2 hb1.size
      have HB3 := Lib.hid (HB2.out.trans hb1)
      clear h1 hb1
      go_wp2_with fail
      rw [rounds_succ]
      go_wp2_with fail
      refine (Bld.writeByte _ _ _ _ _ H3.out (by simp; omega) hs3).mono ?_
      rintro e w4 ⟨rfl, h1, hb1⟩
      have H4 : Hid (IB w.heap.size (Lib.byteCells (bes (l.take (k + 1)))) w4) := Lib.hid (by rw [HS.out]; simpa using h1)
      have HB4 := Lib.hid (HB3.out.trans hb1)
      clear h1 hb1
      go_wp2_with fail
      rw [rounds_succ]
      go_wp2
      go_roundw
      case rel => exact ⟨k + 1, by omega, by go_num, H4.out, HB4.out⟩
      case measure => simp [intOf]; omega
    · obtain rfl : k = l.length := by omega
      rw [List.take_length] at HI
      go_wp2_with fail
      refine (Tryz.Builder_String_any w.heap.size w.heap.size (bes l) _ HI.out hsz).mono ?_
      rintro e w1 ⟨rfl, hb1⟩
      have HB1 := Lib.hid (HBr.out.trans hb1)
      clear hb1
      go_wp2
      go_ret
      exact ⟨rfl, HB1.out⟩
theorem app_two (l m : List UInt8) : ((⟨l.toArray⟩ : ByteArray) ++ (⟨m.toArray⟩ : ByteArray)) = ⟨(l ++ m).toArray⟩ := by
  apply ByteArray.ext
  simp
theorem rep0 (n : Nat) : Lib.repeatL [0] n = List.replicate n 0 := by
  induction n with
  | zero => rfl
  | succ n ih => rw [Lib.repeatL, ih, List.replicate_succ]; rfl
theorem rep_any (Z : Nat) (w : World) (hZ : Z ≤ 1000) : Calls Tryz.prog 105 #[.string ⟨#[0]⟩, .int .i64 Z] w fun e w' => e = .returned (.string ⟨(List.replicate Z (0 : UInt8)).toArray⟩) ∧ Below w.heap.size w w' := by
  have h := Tryz.strings_Repeat ⟨#[0]⟩ Z w (by omega) (by show 1 * Z ≤ _; omega)
  rw [show (⟨#[0]⟩ : ByteArray).data.toList = [0] from rfl, rep0] at h
  exact h
theorem two_made (w : World) (x y : Nat) : Row32 (w.alloc (.cells #[.int .u32 x, .int .u32 y] 22)) w.heap.size [x, y] := ⟨by simp, fun j hj => by
  have : j = 0 ∨ j = 1 := by simp at hj; omega
  rcases this with rfl | rfl <;> simp [go_sem]⟩
set_option maxHeartbeats 4000000 in
theorem filled_any (l : List UInt8) (w : World) (hl : l.length ≤ 100000) :
    Calls Tryz.prog 141 #[.string ⟨l.toArray⟩] w fun e w' => e = .returned (.string ⟨(pad l).toArray⟩) ∧ Below w.heap.size w w' := by
  obtain ⟨n, hn⟩ : ∃ n, l.length = n := ⟨_, rfl⟩
  have hsz : (⟨l.toArray⟩ : ByteArray).size = n := by rw [← hn]; rfl
  obtain ⟨O, hO⟩ : ∃ O, (n + 9) % 64 = O := ⟨_, rfl⟩
  obtain ⟨Z, hZ⟩ : ∃ Z, (64 - O) % 64 = Z := ⟨_, rfl⟩
  have hO1 : O < 64 := by omega
  have hZ1 : Z < 64 := by omega
  have e1 : ((n : Int) + 1 + 8) % 64 = (O : Int) := by omega
  have e1' : ((n : Int) + 9) % 64 = (O : Int) := by omega
  have e2 : ((64 : Int) - (O : Int)) % 64 = (Z : Int) := by omega
  have hn1 : n ≤ 100000 := by omega
  obtain ⟨H, hH⟩ : ∃ H, 8 * n / 4294967296 = H := ⟨_, rfl⟩
  obtain ⟨L, hL⟩ : ∃ L, 8 * n % 4294967296 = L := ⟨_, rfl⟩
  have e5 : 8 * (n : Int) = (L : Int) := by omega
  have e3 : (L : Int) / 4294967296 % 4294967296 = (H : Int) := by omega
  have e3' : (L : Int) / 4294967296 = (H : Int) := by omega
  have e4 : (L : Int) % 4294967296 = (L : Int) := by omega
  have hH1 : (H : Int) ≤ 1 := by omega
  have HP : Hid (pad l = l ++ [128] ++ List.replicate Z 0 ++ bes [H, L]) := Lib.hid (by unfold pad zs; rw [hn, hO, hZ, hH, hL])
  obtain ⟨zl, hzl⟩ : ∃ zl, List.replicate Z (0 : UInt8) = zl := ⟨_, rfl⟩
  have CR := Lib.hid (fun w => rep_any Z w (by omega))
  rw [hzl] at HP CR
  have hbl : (bes [H, L]).length = 8 := rfl
  have hrl : zl.length = Z := by rw [← hzl]; simp
  clear hn hO hzl hZ hH hL
  go_enter Tryz.func141, Tryz.ntmps141
  go_wp2_with fail
  refine (CR.out _).mono ?_
  rintro e w1 ⟨rfl, hb1⟩
  have HB1 := Lib.hid hb1
  have hs1 := hb1.size
  clear hb1
  go_wp2_with fail
  refine (written_any _ 2 [H, L] _ (two_made _ H L) (by simp)).mono ?_
  rintro e w2 ⟨rfl, hb2⟩
  have HB2 := Lib.hid ((HB1.out.alloc hs1 _).trans (hb2.mono (by simp; omega)))
  clear hb2
  go_wp2
  go_ret
  exact ⟨by rw [HP.out, app_two, app_two, app_two]; rfl, HB2.out⟩
end Go.Proofs.YtojoalmldapboaaGreatDoor.Dg
namespace Go.Proofs.YtojoalmldapboaaGreatDoor.Dg
set_option maxRecDepth 20000
open Go.RowKit
set_option linter.unusedVariables false
set_option linter.unusedSimpArgs false

theorem sv_to (l : List UInt8) (n : Nat) : (⟨l.toArray⟩ : ByteArray).extract 0 n = ⟨(l.take n).toArray⟩ := by
  apply ByteArray.ext
  simp
theorem sv_from (l : List UInt8) (n : Nat) : (⟨l.toArray⟩ : ByteArray).extract n l.length = ⟨(l.drop n).toArray⟩ := by
  apply ByteArray.ext
  apply Array.toList_inj.1
  rw [Lib.extract_data]
  simp [List.take_of_length_le]
def slen : Value → Nat
  | .string s => s.size
  | _ => 0
theorem plus_ok (v u : V) : (plus v u).ok := ⟨m32_lt _, m32_lt _, m32_lt _, m32_lt _, m32_lt _, m32_lt _, m32_lt _, m32_lt _⟩
theorem H0_ok : H0.ok := by unfold V.ok H0; decide
theorem K0_len : K0.length = 64 := rfl
theorem pad_len (l : List UInt8) : ∃ n, (pad l).length = 64 * n := by
  refine ⟨(l.length + 9 + zs l.length) / 64, ?_⟩
  have e : (pad l).length = l.length + 9 + zs l.length := by
    simp only [pad, List.length_append, List.length_replicate, bes_len, List.length_cons, List.length_nil]; omega
  rw [e]
  unfold zs
  omega
theorem sb_row {w : World} {b : Nat} {v : V} {ks : List Nat} (h : SB w b v ks) : Row32 w b v.toL := ⟨h.lt, fun j hj => by
  have hj8 : j < 8 := hj
  have e : (v.toL ++ ks)[j]? = some (v.toL.getD j 0) := by
    rw [List.getElem?_append_left hj, List.getElem?_eq_getElem hj]; simp [List.getD, List.getElem?_eq_getElem hj]
  rw [Lib.cell_of_heap h]
  simp only [List.map_append, List.getElem?_toArray, ← List.map_append, List.getElem?_map, e, Option.map_some]⟩
/-- What the loop bears. -/
structure SmR (F : V) (w : World) (b n : Nat) (l : List UInt8) (v : V) (wr : World) : Prop where
  len : l.length = 64 * n
  ok : v.ok
  st : SB wr b v K0
  res : blocks n l v = F
  bel : Below w.heap.size w wr
theorem SmR.step {F : V} {w wr w2 : World} {b n : Nat} {l : List UInt8} {v : V} (h : SmR F w b (n + 1) l v wr) (hb : w.heap.size ≤ b) (ht : Took wr b v K0 (ws (l.take 64) 48) w2) : SmR F w b n (l.drop 64) (take1 v (l.take 64)) w2 :=
  ⟨by rw [List.length_drop, h.len]; omega, plus_ok _ _, ht.1, by rw [← blocks_step]; exact h.res, h.bel.trans (It.Only.below ht.2 h.bel.size (fun k hk => by rw [hk]; exact hb))⟩

set_option maxHeartbeats 8000000 in
theorem sum_of (vs : Value) (l : List UInt8) (w : World) (hl : l.length ≤ 100000)
    (CJ : Hid (∀ W : World, Below w.heap.size w W → Calls Tryz.prog 142 #[vs, .string ⟨#[]⟩] W fun e w' => e = .returned (.string ⟨l.toArray⟩) ∧ Below W.heap.size W w')) :
    Calls Tryz.prog 108 #[vs] w fun e w' => e = .returned (.string ⟨(sha l).toArray⟩) ∧ Below w.heap.size w w' := by
  have hz := (zero_of_info (P := Tryz.prog) zero_state).1
  go_enter Tryz.func108, Tryz.ntmps108
  go_wp2_with fail
  refine (begun_any _).mono ?_
  rintro e w1 ⟨rfl, hb1⟩
  have HB1 := Lib.hid hb1
  have hs1 := hb1.size
  clear hb1
  have hst : (storeCells ⟨w1.heap.size, 0, none⟩ (words (H0.toL ++ K0))).run Tryz.prog (w1.alloc (.cells z72.toArray 188)) = .ok () (w1.alloc (.cells (words (H0.toL ++ K0)).toArray 188)) := by
    have h := run_storeCells_new (P := Tryz.prog) w1 188 z72.toArray (words (H0.toL ++ K0)).toArray (by rw [inf_state]; decide) (by decide) (all_oneCell_toArray (words_one _))
    rw [List.toList_toArray] at h
    exact h
  go_wp2_with fail
  have HW1 : Hid (Below w.heap.size w (w1.alloc (.cells (words (H0.toL ++ K0)).toArray 188))) := Lib.hid (HB1.out.alloc hs1 _)
  have HS1 : Hid (SB (w1.alloc (.cells (words (H0.toL ++ K0)).toArray 188)) w1.heap.size H0 K0) := Lib.hid (heap_alloc_new w1 _)
  refine (CJ.out _ HW1.out).mono ?_
  rintro e w2 ⟨rfl, hb2⟩
  have HB2 := Lib.hid (HW1.out.trans (hb2.mono HW1.out.size))
  have HS2 : Hid (SB w2 w1.heap.size H0 K0) := Lib.hid (HS1.out.keep fun k hk => by subst hk; exact hb2.block _ (by simp))
  clear hb2 hst
  go_wp2_with fail
  refine (filled_any l _ hl).mono ?_
  rintro e w3 ⟨rfl, hb3⟩
  have hlt2 := HS2.out.lt
  have HB3 := Lib.hid (HB2.out.trans (hb3.mono HB2.out.size))
  have HS3 : Hid (SB w3 w1.heap.size H0 K0) := Lib.hid (HS2.out.keep fun k hk => by subst hk; exact hb3.block _ hlt2)
  obtain ⟨N, hN⟩ := pad_len l
  have HF : Hid (sha l = bes (blocks N (pad l) H0).toL) := Lib.hid (by unfold sha; rw [hN, Nat.mul_div_cancel_left N (by decide)])
  have HPL : Hid ((pad l).length = 64 * N) := Lib.hid hN
  clear hb3 hN hlt2 hl
  obtain ⟨F, hF⟩ : ∃ F, blocks N (pad l) H0 = F := ⟨_, rfl⟩
  rw [hF] at HF
  have HSR : Hid (SmR F w w1.heap.size N (pad l) H0 w3) := Lib.hid ⟨HPL.out, H0_ok, HS3.out, hF, HB3.out⟩
  clear HPL HS3 HB3 hF HB2 HS2 HW1 HS1
  generalize pad l = p at HSR ⊢
  go_wp2
  go_loopw [4] (fun sv wr => ∃ (n : Nat) (q : List UInt8) (v : V), sv = .string ⟨q.toArray⟩ ∧ SmR F w w1.heap.size n q v wr) (fun sv _ => slen sv)
  case atStart => exact ⟨N, p, H0, rfl, HSR.out⟩
  case round =>
    clear HSR
    obtain ⟨n, q, v, rfl, hr⟩ := hrel
    have hlen := hr.len
    have hb := hr.st.lt
    have HR := Lib.hid hr
    clear hr
    cases n with
    | zero =>
      obtain rfl : q = [] := List.eq_nil_of_length_eq_zero (by omega)
      have hv : v = F := by rw [← HR.out.res, blocks_none]
      subst hv
      have HRow := Lib.hid (sb_row HR.out.st)
      have HBr := Lib.hid HR.out.bel
      have hsz := HR.out.bel.size
      clear HR hlen
      go_wp2_with fail
      refine (written_any w1.heap.size 8 v.toL _ HRow.out (by rw [toL_len]; decide)).mono ?_
      rintro e w4 ⟨rfl, hb4⟩
      have HB4 := Lib.hid (HBr.out.trans (hb4.mono hsz))
      clear hb4
      go_wp2
      go_ret
      exact ⟨by rw [HF.out]; rfl, HB4.out⟩
    | succ n =>
      have h64 : 64 ≤ q.length := by omega
      have hne : ¬ q = [] := by intro h; rw [h] at h64; simp at h64
      have hemp : q.isEmpty = false := by simpa using hne
      have HST : Hid (∀ w2, Took wr w1.heap.size v K0 (ws (q.take 64) 48) w2 → SmR F w w1.heap.size n (q.drop 64) (take1 v (q.take 64)) w2) := Lib.hid fun w2 ht => HR.out.step hs1 ht
      have CT : Hid (Calls Tryz.prog 143 #[.pointer (some ⟨w1.heap.size, 0, none⟩), .string ((⟨q.toArray⟩ : ByteArray).extract 0 64)] wr fun e w' => e = .returned (.tuple #[]) ∧ Took wr w1.heap.size v K0 (ws (q.take 64) 48) w') := Lib.hid (by
        rw [sv_to]
        exact take_any w1.heap.size v K0 ⟨(q.take 64).toArray⟩ wr HR.out.ok K0_len (by show (q.take 64).length = 64; simp; omega) HR.out.st)
      have E2 := Lib.hid (sv_from q 64)
      have i1 : (64 : Int) ≤ (q.length : Int) := by omega
      have hm : (q.drop 64).length < q.length := by rw [List.length_drop]; omega
      have HM := Lib.hid hm
      clear hm hlen HR
      go_wp2_with fail
      refine CT.out.mono ?_
      rintro e w2 ⟨rfl, ht⟩
      have HT := Lib.hid (HST.out _ ht)
      clear ht
      go_wp2
      go_roundw
      case rel =>
        refine ⟨n, q.drop 64, _, ?_, HT.out⟩
        rw [← E2.out]
      case measure =>
        show slen _ < slen _
        rw [E2.out]
        exact HM.out
end Go.Proofs.YtojoalmldapboaaGreatDoor.Dg
namespace Go.Proofs.YtojoalmldapboaaGreatDoor.Dg
set_option maxRecDepth 20000
open Go.RowKit
set_option linter.unusedVariables false
set_option linter.unusedSimpArgs false

def cat (xs : List ByteArray) : List UInt8 := (xs.map (·.data.toList)).flatten
theorem join_cat (l : List (List UInt8)) : Lib.join l [] = l.flatten := by
  unfold Lib.join List.intercalate
  induction l with
  | nil => rfl
  | cons a t ih =>
    cases t with
    | nil => simp
    | cons b t => simp only [List.intersperse_cons_cons, List.flatten_cons, ih, List.nil_append]
/-- Texts that are read. -/
def RowS (w : World) (b o : Nat) (xs : List ByteArray) : Prop := b < w.heap.size ∧ ∀ (j : Nat) x, xs[j]? = some x → w.cell? ⟨b, o + j, none⟩ = some (.string x)
theorem RowS.below {w w' : World} {b o B : Nat} {xs : List ByteArray} (h : RowS w b o xs) (hb : Below B w w') (hB : b < B) : RowS w' b o xs :=
  ⟨Nat.lt_of_lt_of_le h.1 hb.size, fun j x hj => (hb.cell (p := ⟨b, o + j, none⟩) hB).trans (h.2 j x hj)⟩
theorem sum_row (b o c : Nat) (xs : List ByteArray) (w : World) (hr : RowS w b o xs) (hn : xs.length ≤ 100000) (hc : xs.length ≤ c) (hl : (cat xs).length ≤ 100000) :
    Calls Tryz.prog 108 #[.slice (some ⟨b, o, none⟩) xs.length c] w fun e w' => e = .returned (.string ⟨(sha (cat xs)).toArray⟩) ∧ Below w.heap.size w w' :=
  sum_of _ (cat xs) w hl (Lib.hid fun W hW => by
    have hj : Lib.join (xs.map (·.data.toList)) (⟨#[]⟩ : ByteArray).data.toList = cat xs := join_cat _
    have h := Tryz.strings_Join b o c xs ⟨#[]⟩ W (hr.below hW hr.1).2 (Nat.lt_of_lt_of_le hr.1 hW.size) (by omega) hc (by rw [hj]; omega)
    rw [hj] at h
    exact h)
def dg (k : Nat) : UInt8 := ([48, 49, 50, 51, 52, 53, 54, 55, 56, 57, 97, 98, 99, 100, 101, 102] : List UInt8).getD k 0
def hexL (l : List UInt8) : List UInt8 := l.flatMap fun c => [dg (c.toNat / 16), dg (c.toNat % 16)]
theorem hexL_step (l : List UInt8) (k : Nat) (c : UInt8) (hk : l[k]? = some c) : hexL (l.take (k + 1)) = hexL (l.take k) ++ [dg (c.toNat / 16), dg (c.toNat % 16)] := by
  obtain ⟨h, hc⟩ := List.getElem?_eq_some_iff.1 hk
  unfold hexL
  rw [List.take_succ_eq_append_getElem h, hc]
  simp only [List.flatMap_append, List.flatMap_cons, List.flatMap_nil, List.append_nil]
theorem hexL_len (l : List UInt8) : (hexL l).length = 2 * l.length := by
  induction l with
  | nil => rfl
  | cons x l ih =>
    have : hexL (x :: l) = [dg (x.toNat / 16), dg (x.toNat % 16)] ++ hexL l := by simp [hexL]
    rw [this, List.length_append, ih, List.length_cons, List.length_cons, List.length_cons, List.length_nil]; omega
theorem index_dig (k : Nat) (hk : k < 16) (w : World) : (Instr.index 9 (.string ⟨#[48, 49, 50, 51, 52, 53, 54, 55, 56, 57, 97, 98, 99, 100, 101, 102]⟩) (.int .u8 (k : Nat))).run Tryz.prog w = .ok (.int .u8 ((dg k).toNat : Nat)) w := by
  have : k = 0 ∨ k = 1 ∨ k = 2 ∨ k = 3 ∨ k = 4 ∨ k = 5 ∨ k = 6 ∨ k = 7 ∨ k = 8 ∨ k = 9 ∨ k = 10 ∨ k = 11 ∨ k = 12 ∨ k = 13 ∨ k = 14 ∨ k = 15 := by omega
  rcases this with rfl | rfl | rfl | rfl | rfl | rfl | rfl | rfl | rfl | rfl | rfl | rfl | rfl | rfl | rfl | rfl <;> (show _ = _; kernel_rfl)
theorem and15 (c : Nat) (hc : c < 256) : bits .and .u8 (c : Int) 15 = ((c % 16 : Nat) : Int) := by
  have h1 : (BitVec.ofInt 8 (c : Int)).toNat = c := by
    rw [BitVec.ofInt_natCast, BitVec.toNat_ofNat]; exact Nat.mod_eq_of_lt (by omega)
  have h2 : (BitVec.ofInt 8 (15 : Int)).toNat = 15 := by decide
  show IntKind.u8.wrap ((BitVec.ofInt 8 (c : Int) &&& BitVec.ofInt 8 (15 : Int)).toNat : Int) = _
  rw [BitVec.toNat_and, h1, h2, IntKind.wrap_u8]
  have h3 : c &&& 15 = c % 16 := Nat.and_two_pow_sub_one_eq_mod c 4
  rw [h3]
  omega
theorem byteCells_two (a b : UInt8) : Lib.byteCells [a, b] = [.int .u8 a.toNat, .int .u8 b.toNat] := rfl

set_option maxHeartbeats 4000000 in
theorem hex_any (s : ByteArray) (w : World) (hs : s.size ≤ 100000) :
    Calls Tryz.prog 31 #[.string s] w fun e w' => e = .returned (.string ⟨(hexL s.data.toList).toArray⟩) ∧ Below w.heap.size w w' := by
  have HB := Lib.hid (Lib.fresh_isBuilder 68 5 w)
  have hls : s.data.toList.length = s.size := by simp
  have HLS := Lib.hid hls
  clear hls
  go_enter Tryz.func31, Tryz.ntmps31
  go_wp2
  go_loopw [7] (fun iv wr => ∃ k : Nat, k ≤ s.size ∧ iv = .int .i64 k ∧ IB w.heap.size (Lib.byteCells (hexL (s.data.toList.take k))) wr ∧ Below w.heap.size w wr) (fun iv _ => s.size - (intOf iv).toNat)
  case atStart => exact ⟨0, Nat.zero_le _, rfl, HB.out, (Below.refl _ _).alloc (Nat.le_refl _) _⟩
  case round =>
    obtain ⟨k, hk, rfl, hI, hb⟩ := hrel
    have HI := Lib.hid hI
    clear hI
    have hsz := hb.size
    have HBr := Lib.hid hb
    clear hb
    by_cases hlt : k < s.size
    · obtain ⟨c, hc⟩ : ∃ c, s[k] = c := ⟨_, rfl⟩
      have hget : s.data.toList[k]? = some c := by
        rw [List.getElem?_eq_getElem (by rw [HLS.out]; exact hlt), ← hc]; rfl
      have HS : Hid (Lib.byteCells (hexL (s.data.toList.take (k + 1))) = Lib.byteCells (hexL (s.data.toList.take k)) ++ [.int .u8 (dg (c.toNat / 16)).toNat, .int .u8 (dg (c.toNat % 16)).toNat]) := Lib.hid (by rw [hexL_step _ _ _ hget, byteCells_app, byteCells_two])
      have hlen : (Lib.byteCells (hexL (s.data.toList.take k))).length ≤ 200000 := by
        rw [byteCells_len, hexL_len, List.length_take]; omega
      generalize hbs : Lib.byteCells (hexL (s.data.toList.take k)) = bs at HI HS hlen
      have HBS := Lib.hid hbs
      have hc8 := c.toNat_lt
      have i1 := index_dig (c.toNat / 16) (by omega)
      have i2 := index_dig (c.toNat % 16) (by omega)
      have e2 := and15 c.toNat (by omega)
      obtain ⟨h, hh⟩ : ∃ h, c.toNat / 16 = h := ⟨_, rfl⟩
      obtain ⟨l, hl⟩ : ∃ l, c.toNat % 16 = l := ⟨_, rfl⟩
      have e1 : (c.toNat : Int) / 16 = (h : Int) := by omega
      rw [hh] at i1 HS
      rw [hl] at i2 HS e2
      clear hbs hget hh hl
      go_wp2_with fail
      refine (Bld.writeByte _ _ _ _ _ HI.out (by omega) hsz).mono ?_
      rintro e w1 ⟨rfl, h1, hb1⟩
      have H1 := Lib.hid h1
      have hs1 : w.heap.size ≤ w1.heap.size := Nat.le_trans hsz hb1.size
      have HB1 := Lib.hid (HBr.out.trans hb1)
      clear h1 hb1
      go_wp2_with fail
      refine (Bld.writeByte _ _ _ _ _ H1.out (by simp; omega) hs1).mono ?_
      rintro e w2 ⟨rfl, h1, hb1⟩
      have H2 : Hid (IB w.heap.size (Lib.byteCells (hexL (s.data.toList.take (k + 1)))) w2) := Lib.hid (by rw [HS.out]; simpa using h1)
      have HB2 := Lib.hid (HB1.out.trans hb1)
      clear h1 hb1
      go_wp2
      go_roundw
      case rel => exact ⟨k + 1, by omega, by go_num, H2.out, HB2.out⟩
      case measure => simp [intOf]; omega
    · obtain rfl : k = s.size := by omega
      rw [List.take_of_length_le (by rw [HLS.out]; exact Nat.le_refl _)] at HI
      go_wp2_with fail
      refine (Tryz.Builder_String_any w.heap.size w.heap.size _ _ HI.out hsz).mono ?_
      rintro e w1 ⟨rfl, hb1⟩
      have HB1 := Lib.hid (HBr.out.trans hb1)
      clear hb1
      go_wp2
      go_ret
      exact ⟨rfl, HB1.out⟩
end Go.Proofs.YtojoalmldapboaaGreatDoor.Dg
