/- The walks of layer 7: bytes of words; a text with what stands behind it. By tools/gen-digest-i.py. -/
import Derived.Test.YthjphechdhbenaaDgH
import Derived.Test.YthjphechdhbenaaBld2
namespace Go.Proofs.Ythjphechdhbenaa.Dg
set_option maxRecDepth 20000
open Go.RowKit
set_option linter.unusedVariables false
set_option linter.unusedSimpArgs false

/-- Words that are read. -/
def Row32 (w : World) (b : Nat) (l : List Nat) : Prop := b < w.heap.size ∧ ∀ j, j < l.length → w.cell? ⟨b, j, none⟩ = some (.int .u32 (l.getD j 0 : Nat))
theorem Row32.below {w w' : World} {b B : Nat} {l : List Nat} (h : Row32 w b l) (hb : Below B w w') (hB : b < B) : Row32 w' b l :=
  ⟨Nat.lt_of_lt_of_le h.1 hb.size, fun j hj => (hb.cell (p := ⟨b, j, none⟩) hB).trans (h.2 j hj)⟩
theorem be_cells (x : Nat) : Lib.byteCells (be x) = [.int .u8 ((x : Int) / 16777216 % 256), .int .u8 ((x : Int) / 65536 % 256), .int .u8 ((x : Int) / 256 % 256), .int .u8 ((x : Int) % 256)] := by
  simp [Lib.byteCells, be, UInt8.toNat_ofNat']
theorem bes_step (l : List Nat) (k : Nat) (hk : k < l.length) : bes (l.take (k + 1)) = bes (l.take k) ++ be (l.getD k 0) := by
  have e : l.getD k 0 = l[k] := by simp [List.getD, hk]
  unfold bes
  rw [List.take_succ_eq_append_getElem hk, e]
  simp only [List.flatMap_append, List.flatMap_cons, List.flatMap_nil, List.append_nil]
theorem be_len (x : Nat) : (be x).length = 4 := rfl
theorem bes_len (l : List Nat) : (bes l).length = 4 * l.length := by
  induction l with
  | nil => rfl
  | cons x l ih =>
    have : bes (x :: l) = be x ++ bes l := by simp [bes]
    rw [this, List.length_append, ih, be_len, List.length_cons]; omega
theorem byteCells_app (a b : List UInt8) : Lib.byteCells (a ++ b) = Lib.byteCells a ++ Lib.byteCells b := by simp [Lib.byteCells]
theorem byteCells_len (a : List UInt8) : (Lib.byteCells a).length = a.length := by simp [Lib.byteCells]
/-- A builder of the call's own. -/
abbrev IB (B : Nat) (bs : List Value) (w : World) : Prop := Lib.IsBuilder 77 5 B B bs w

set_option maxHeartbeats 8000000 in
theorem written_any (b c : Nat) (l : List Nat) (w : World) (hr : Row32 w b l) (hl : l.length ≤ 100) :
    Calls Try.prog 39 #[.slice (some ⟨b, 0, none⟩) l.length c] w fun e w' => e = .returned (.string ⟨(bes l).toArray⟩) ∧ Below w.heap.size w w' := by
  have hblt := hr.1
  have HR := Lib.hid hr
  clear hr
  have HB := Lib.hid (Lib.fresh_isBuilder 77 5 w)
  go_enter Try.func39, Try.ntmps39
  go_wp2
  go_loopw [9] (fun iv wr => ∃ k : Nat, k ≤ l.length ∧ iv = .int .i64 k ∧ IB w.heap.size (Lib.byteCells (bes (l.take k))) wr ∧ Below w.heap.size w wr) (fun iv _ => l.length - (intOf iv).toNat)
  case atStart => exact ⟨0, Nat.zero_le _, rfl, HB.out, (Below.refl _ _).alloc (Nat.le_refl _) _⟩
  case round =>
    obtain ⟨k, hk, rfl, hI, hb⟩ := hrel
    have HI := Lib.hid hI
    clear hI
    have hsz := hb.size
    have HBr := Lib.hid hb
    have HRr := Lib.hid (HR.out.below hb hblt)
    clear hb
    by_cases hlt : k < l.length
    · have hc := HRr.out.2 k hlt
      have HS : Hid (Lib.byteCells (bes (l.take (k + 1))) = Lib.byteCells (bes (l.take k)) ++ Lib.byteCells (be (l.getD k 0))) := Lib.hid (by rw [bes_step l k hlt, byteCells_app])
      rw [be_cells] at HS
      have hlen : (Lib.byteCells (bes (l.take k))).length ≤ 400 := by
        rw [byteCells_len, bes_len, List.length_take]; omega
      generalize l.getD k 0 = x at hc HS
      generalize hbs : Lib.byteCells (bes (l.take k)) = bs at HI HS hlen
      have HBS := Lib.hid hbs
      clear hbs
      go_wp2
      refine wp_loop_rounds 5 ?_
      rw [rounds_succ]
      go_wp2_with fail
      refine (Bld.writeByte _ _ _ _ _ HI.out (by omega) hsz).mono ?_
      rintro e w1 ⟨rfl, h1, hb1⟩
      have H1 := Lib.hid h1
      have hs1 : w.heap.size ≤ w1.heap.size := Nat.le_trans hsz hb1.size
      have HB1 := Lib.hid (HBr.out.trans hb1)
      clear h1 hb1
      go_wp2_with fail
      rw [rounds_succ]
      go_wp2_with fail
      refine (Bld.writeByte _ _ _ _ _ H1.out (by simp; omega) hs1).mono ?_
      rintro e w2 ⟨rfl, h1, hb1⟩
      have H2 := Lib.hid h1
      have hs2 : w.heap.size ≤ w2.heap.size := Nat.le_trans hs1 hb1.size
      have HB2 := Lib.hid (HB1.out.trans hb1)
      clear h1 hb1
      go_wp2_with fail
      rw [rounds_succ]
      go_wp2_with fail
      refine (Bld.writeByte _ _ _ _ _ H2.out (by simp; omega) hs2).mono ?_
      rintro e w3 ⟨rfl, h1, hb1⟩
      have H3 := Lib.hid h1
      have hs3 : w.heap.size ≤ w3.heap.size := Nat.le_trans hs2 hb1.size
      have HB3 := Lib.hid (HB2.out.trans hb1)
      clear h1 hb1
      go_wp2_with fail
      rw [rounds_succ]
      go_wp2_with fail
      refine (Bld.writeByte _ _ _ _ _ H3.out (by simp; omega) hs3).mono ?_
      rintro e w4 ⟨rfl, h1, hb1⟩
      have H4 : Hid (IB w.heap.size (Lib.byteCells (bes (l.take (k + 1)))) w4) := Lib.hid (by rw [HS.out]; simpa using h1)
      have HB4 := Lib.hid (HB3.out.trans hb1)
      clear h1 hb1
      go_wp2_with fail
      rw [rounds_succ]
      go_wp2
      go_roundw
      case rel => exact ⟨k + 1, by omega, by go_num, H4.out, HB4.out⟩
      case measure => simp [intOf]; omega
    · obtain rfl : k = l.length := by omega
      rw [List.take_length] at HI
      go_wp2_with fail
      refine (Try.Builder_String_any w.heap.size w.heap.size (bes l) _ HI.out hsz).mono ?_
      rintro e w1 ⟨rfl, hb1⟩
      have HB1 := Lib.hid (HBr.out.trans hb1)
      clear hb1
      go_wp2
      go_ret
      exact ⟨rfl, HB1.out⟩
theorem app_two (l m : List UInt8) : ((⟨l.toArray⟩ : ByteArray) ++ (⟨m.toArray⟩ : ByteArray)) = ⟨(l ++ m).toArray⟩ := by
  apply ByteArray.ext
  simp
theorem rep0 (n : Nat) : Lib.repeatL [0] n = List.replicate n 0 := by
  induction n with
  | zero => rfl
  | succ n ih => rw [Lib.repeatL, ih, List.replicate_succ]; rfl
theorem rep_any (Z : Nat) (w : World) (hZ : Z ≤ 1000) : Calls Try.prog 59 #[.string ⟨#[0]⟩, .int .i64 Z] w fun e w' => e = .returned (.string ⟨(List.replicate Z (0 : UInt8)).toArray⟩) ∧ Below w.heap.size w w' := by
  have h := Try.strings_Repeat ⟨#[0]⟩ Z w (by omega) (by show 1 * Z ≤ _; omega)
  rw [show (⟨#[0]⟩ : ByteArray).data.toList = [0] from rfl, rep0] at h
  exact h
theorem two_made (w : World) (x y : Nat) : Row32 (w.alloc (.cells #[.int .u32 x, .int .u32 y] 47)) w.heap.size [x, y] := ⟨by simp, fun j hj => by
  have : j = 0 ∨ j = 1 := by simp at hj; omega
  rcases this with rfl | rfl <;> simp [go_sem]⟩
set_option maxHeartbeats 4000000 in
theorem filled_any (l : List UInt8) (w : World) (hl : l.length ≤ 100000) :
    Calls Try.prog 36 #[.string ⟨l.toArray⟩] w fun e w' => e = .returned (.string ⟨(pad l).toArray⟩) ∧ Below w.heap.size w w' := by
  obtain ⟨n, hn⟩ : ∃ n, l.length = n := ⟨_, rfl⟩
  have hsz : (⟨l.toArray⟩ : ByteArray).size = n := by rw [← hn]; rfl
  obtain ⟨O, hO⟩ : ∃ O, (n + 9) % 64 = O := ⟨_, rfl⟩
  obtain ⟨Z, hZ⟩ : ∃ Z, (64 - O) % 64 = Z := ⟨_, rfl⟩
  have hO1 : O < 64 := by omega
  have hZ1 : Z < 64 := by omega
  have e1 : ((n : Int) + 1 + 8) % 64 = (O : Int) := by omega
  have e1' : ((n : Int) + 9) % 64 = (O : Int) := by omega
  have e2 : ((64 : Int) - (O : Int)) % 64 = (Z : Int) := by omega
  have hn1 : n ≤ 100000 := by omega
  obtain ⟨H, hH⟩ : ∃ H, 8 * n / 4294967296 = H := ⟨_, rfl⟩
  obtain ⟨L, hL⟩ : ∃ L, 8 * n % 4294967296 = L := ⟨_, rfl⟩
  have e5 : 8 * (n : Int) = (L : Int) := by omega
  have e3 : (L : Int) / 4294967296 % 4294967296 = (H : Int) := by omega
  have e3' : (L : Int) / 4294967296 = (H : Int) := by omega
  have e4 : (L : Int) % 4294967296 = (L : Int) := by omega
  have hH1 : (H : Int) ≤ 1 := by omega
  have HP : Hid (pad l = l ++ [128] ++ List.replicate Z 0 ++ bes [H, L]) := Lib.hid (by unfold pad zs; rw [hn, hO, hZ, hH, hL])
  obtain ⟨zl, hzl⟩ : ∃ zl, List.replicate Z (0 : UInt8) = zl := ⟨_, rfl⟩
  have CR := Lib.hid (fun w => rep_any Z w (by omega))
  rw [hzl] at HP CR
  have hbl : (bes [H, L]).length = 8 := rfl
  have hrl : zl.length = Z := by rw [← hzl]; simp
  clear hn hO hzl hZ hH hL
  go_enter Try.func36, Try.ntmps36
  go_wp2_with fail
  refine (CR.out _).mono ?_
  rintro e w1 ⟨rfl, hb1⟩
  have HB1 := Lib.hid hb1
  have hs1 := hb1.size
  clear hb1
  go_wp2_with fail
  refine (written_any _ 2 [H, L] _ (two_made _ H L) (by simp)).mono ?_
  rintro e w2 ⟨rfl, hb2⟩
  have HB2 := Lib.hid ((HB1.out.alloc hs1 _).trans (hb2.mono (by simp; omega)))
  clear hb2
  go_wp2
  go_ret
  exact ⟨by rw [HP.out, app_two, app_two, app_two]; rfl, HB2.out⟩
end Go.Proofs.Ythjphechdhbenaa.Dg
