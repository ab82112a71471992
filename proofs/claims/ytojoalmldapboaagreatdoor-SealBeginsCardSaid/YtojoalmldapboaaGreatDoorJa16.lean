/- The walks of layer 9: a text laid on blocks · Layer 8's plain mathematics: HMAC, HKDF, labels on bytes. -/
import Derived.Test.YtojoalmldapboaaGreatDoorJa12
import Derived.Test.YtojoalmldapboaaGreatDoorJa15
import Derived.Test.YtojoalmldapboaaGreatDoorJa11
import Derived.Test.YtojoalmldapboaaGreatDoorJa01
namespace Go.Proofs.YtojoalmldapboaaGreatDoor.Se
set_option maxRecDepth 20000
open Go.RowKit Vm Dg
set_option linter.unusedVariables false
set_option linter.unusedSimpArgs false

def sl (v : Value) : Nat := match v with | .string b => b.size | _ => 0
theorem W16.cells {W : World} {b : Nat} {x0 x1 x2 x3 x4 x5 x6 x7 x8 x9 x10 x11 x12 x13 x14 x15 : Nat} (h : W.heap[b]? = some (.cells #[.int .u32 (x0 : Nat), .int .u32 (x1 : Nat), .int .u32 (x2 : Nat), .int .u32 (x3 : Nat), .int .u32 (x4 : Nat), .int .u32 (x5 : Nat), .int .u32 (x6 : Nat), .int .u32 (x7 : Nat), .int .u32 (x8 : Nat), .int .u32 (x9 : Nat), .int .u32 (x10 : Nat), .int .u32 (x11 : Nat), .int .u32 (x12 : Nat), .int .u32 (x13 : Nat), .int .u32 (x14 : Nat), .int .u32 (x15 : Nat)] 63 (0, 0))) : W.cell? ⟨b, 0, none⟩ = some (.int .u32 (x0 : Nat)) ∧ W.cell? ⟨b, 1, none⟩ = some (.int .u32 (x1 : Nat)) ∧ W.cell? ⟨b, 2, none⟩ = some (.int .u32 (x2 : Nat)) ∧ W.cell? ⟨b, 3, none⟩ = some (.int .u32 (x3 : Nat)) ∧ W.cell? ⟨b, 4, none⟩ = some (.int .u32 (x4 : Nat)) ∧ W.cell? ⟨b, 5, none⟩ = some (.int .u32 (x5 : Nat)) ∧ W.cell? ⟨b, 6, none⟩ = some (.int .u32 (x6 : Nat)) ∧ W.cell? ⟨b, 7, none⟩ = some (.int .u32 (x7 : Nat)) ∧ W.cell? ⟨b, 8, none⟩ = some (.int .u32 (x8 : Nat)) ∧ W.cell? ⟨b, 9, none⟩ = some (.int .u32 (x9 : Nat)) ∧ W.cell? ⟨b, 10, none⟩ = some (.int .u32 (x10 : Nat)) ∧ W.cell? ⟨b, 11, none⟩ = some (.int .u32 (x11 : Nat)) ∧ W.cell? ⟨b, 12, none⟩ = some (.int .u32 (x12 : Nat)) ∧ W.cell? ⟨b, 13, none⟩ = some (.int .u32 (x13 : Nat)) ∧ W.cell? ⟨b, 14, none⟩ = some (.int .u32 (x14 : Nat)) ∧ W.cell? ⟨b, 15, none⟩ = some (.int .u32 (x15 : Nat)) :=
  ⟨Lib.cell_of_heap h 0, Lib.cell_of_heap h 1, Lib.cell_of_heap h 2, Lib.cell_of_heap h 3, Lib.cell_of_heap h 4, Lib.cell_of_heap h 5, Lib.cell_of_heap h 6, Lib.cell_of_heap h 7, Lib.cell_of_heap h 8, Lib.cell_of_heap h 9, Lib.cell_of_heap h 10, Lib.cell_of_heap h 11, Lib.cell_of_heap h 12, Lib.cell_of_heap h 13, Lib.cell_of_heap h 14, Lib.cell_of_heap h 15⟩
theorem xor_call (a b : List UInt8) (w : World) (ha : a.length ≤ 100000) (hb : b.length ≤ 100000) :
    Calls Tryz.prog 33 #[.string ⟨a.toArray⟩, .string ⟨b.toArray⟩] w fun e w' => e = .returned (.string ⟨(xr a b).toArray⟩) ∧ Below w.heap.size w w' := by
  have h := xor_any ⟨a.toArray⟩ ⟨b.toArray⟩ w (by show a.toArray.size ≤ _; simp; omega) (by show b.toArray.size ≤ _; simp; omega)
  exact h
theorem drop_cut (l : List UInt8) (p : Nat) (h : p = min l.length 64) : (⟨l.toArray⟩ : ByteArray).extract p l.length = ⟨(l.drop 64).toArray⟩ := by
  apply ByteArray.ext
  apply Array.ext'
  simp only [ByteArray.data_extract, Array.toList_extract, List.extract_eq_take_drop]
  rw [List.take_of_length_le (by rw [List.length_drop]; omega)]
  by_cases h64 : 64 ≤ l.length
  · rw [h, Nat.min_eq_right h64]
  · rw [h, Nat.min_eq_left (by omega), List.drop_of_length_le (by simp), List.drop_of_length_le (by omega)]
set_option maxHeartbeats 8000000 in
theorem stream_any (key nonce : ByteArray) (c : Nat) (s : ByteArray) (w : World) (hk : key.size ≤ 100000) (hn : nonce.size ≤ 100000) (hc : c < 4294967296) (hs : s.size ≤ 100000) :
    Calls Tryz.prog 10 #[.string key, .string nonce, .int .u32 c, .string s] w fun e w' => e = .returned (.string ⟨(stream key.data.toList nonce.data.toList c s.data.toList).toArray⟩) ∧ Below w.heap.size w w' := by
  have CW := Lib.hid (fun W => wordsOf_any key nonce W hk hn)
  have CA := Lib.hid (fun (d : Nat) (hd : d < 4294967296) W => at_any (ini key.data.toList nonce.data.toList 0) d W rfl hd)
  have CB := Lib.hid (fun (d : Nat) (hd : d < 4294967296) W => block_any (ini key.data.toList nonce.data.toList d) W rfl (ini_32 _ _ _ hd))
  have STEP := Lib.hid (stream_step key.data.toList nonce.data.toList)
  have BL := Lib.hid (blk_len key.data.toList nonce.data.toList)
  have CB : Hid (∀ (d : Nat), d < 4294967296 → ∀ W : World, Calls Tryz.prog 35 #[wv (ini key.data.toList nonce.data.toList d)] W fun e w' => e = .returned (.string ⟨(blk key.data.toList nonce.data.toList d).toArray⟩) ∧ Below W.heap.size W w') := CB
  have CA : Hid (∀ (d : Nat), d < 4294967296 → ∀ W : World, Calls Tryz.prog 34 #[wv (ini key.data.toList nonce.data.toList 0), .int .u32 d] W fun e w' => e = .returned (wv (ini key.data.toList nonce.data.toList d)) ∧ Below W.heap.size W w') := CA
  have NIL := Lib.hid (stream_nil key.data.toList nonce.data.toList)
  obtain ⟨R, hR⟩ : ∃ R, stream key.data.toList nonce.data.toList c s.data.toList = R := ⟨_, rfl⟩
  have hRl : R.length = s.size := by rw [← hR, stream_length]; simp
  rw [hR]
  have HR := Lib.hid hR
  clear hR
  obtain ⟨x0, x1, x2, x3, x4, x5, x6, x7, x8, x9, x10, x11, x12, x13, x14, x15, hX⟩ : ∃ x0 x1 x2 x3 x4 x5 x6 x7 x8 x9 x10 x11 x12 x13 x14 x15 : Nat, ini key.data.toList nonce.data.toList 0 = [x0, x1, x2, x3, x4, x5, x6, x7, x8, x9, x10, x11, x12, x13, x14, x15] := ⟨_, _, _, _, _, _, _, _, _, _, _, _, _, _, _, _, rfl⟩
  have hV : wv (ini key.data.toList nonce.data.toList 0) = .agg #[.int .u32 (x0 : Nat), .int .u32 (x1 : Nat), .int .u32 (x2 : Nat), .int .u32 (x3 : Nat), .int .u32 (x4 : Nat), .int .u32 (x5 : Nat), .int .u32 (x6 : Nat), .int .u32 (x7 : Nat), .int .u32 (x8 : Nat), .int .u32 (x9 : Nat), .int .u32 (x10 : Nat), .int .u32 (x11 : Nat), .int .u32 (x12 : Nat), .int .u32 (x13 : Nat), .int .u32 (x14 : Nat), .int .u32 (x15 : Nat)] := by rw [hX]; rfl
  rw [hV] at CW
  rw [hV] at CA
  clear hV hX
  go_enter Tryz.func10, Tryz.ntmps10
  go_wp2_with fail
  with_reducible refine (CW.out _).mono ?_
  rintro e1 w1 ⟨rfl, hb⟩
  have HB1 := Lib.hid hb
  clear hb
  have hs1 := HB1.out.size
  have HA1 : Hid ((w1.alloc (.cells #[.int .u32 (x0 : Nat), .int .u32 (x1 : Nat), .int .u32 (x2 : Nat), .int .u32 (x3 : Nat), .int .u32 (x4 : Nat), .int .u32 (x5 : Nat), .int .u32 (x6 : Nat), .int .u32 (x7 : Nat), .int .u32 (x8 : Nat), .int .u32 (x9 : Nat), .int .u32 (x10 : Nat), .int .u32 (x11 : Nat), .int .u32 (x12 : Nat), .int .u32 (x13 : Nat), .int .u32 (x14 : Nat), .int .u32 (x15 : Nat)] 63)).heap[w1.heap.size]? = some (.cells #[.int .u32 (x0 : Nat), .int .u32 (x1 : Nat), .int .u32 (x2 : Nat), .int .u32 (x3 : Nat), .int .u32 (x4 : Nat), .int .u32 (x5 : Nat), .int .u32 (x6 : Nat), .int .u32 (x7 : Nat), .int .u32 (x8 : Nat), .int .u32 (x9 : Nat), .int .u32 (x10 : Nat), .int .u32 (x11 : Nat), .int .u32 (x12 : Nat), .int .u32 (x13 : Nat), .int .u32 (x14 : Nat), .int .u32 (x15 : Nat)] 63 (0, 0))) := Lib.hid (heap_alloc_new w1 _)
  have HBA := Lib.hid (HB1.out.alloc hs1 (.cells #[.int .u32 (x0 : Nat), .int .u32 (x1 : Nat), .int .u32 (x2 : Nat), .int .u32 (x3 : Nat), .int .u32 (x4 : Nat), .int .u32 (x5 : Nat), .int .u32 (x6 : Nat), .int .u32 (x7 : Nat), .int .u32 (x8 : Nat), .int .u32 (x9 : Nat), .int .u32 (x10 : Nat), .int .u32 (x11 : Nat), .int .u32 (x12 : Nat), .int .u32 (x13 : Nat), .int .u32 (x14 : Nat), .int .u32 (x15 : Nat)] 63))
  have HI0 := Lib.hid (Lib.fresh_isBuilder 68 5 (w1.alloc (.cells #[.int .u32 (x0 : Nat), .int .u32 (x1 : Nat), .int .u32 (x2 : Nat), .int .u32 (x3 : Nat), .int .u32 (x4 : Nat), .int .u32 (x5 : Nat), .int .u32 (x6 : Nat), .int .u32 (x7 : Nat), .int .u32 (x8 : Nat), .int .u32 (x9 : Nat), .int .u32 (x10 : Nat), .int .u32 (x11 : Nat), .int .u32 (x12 : Nat), .int .u32 (x13 : Nat), .int .u32 (x14 : Nat), .int .u32 (x15 : Nat)] 63)))
  have HB0 := Lib.hid (HBA.out.alloc HBA.out.size (.cells #[.pointer none, .slice none 0 0] 68))
  have HA0 := Lib.hid ((Below.heap_alloc _ (.cells #[.pointer none, .slice none 0 0] 68) _ (show w1.heap.size < (w1.alloc (.cells #[.int .u32 (x0 : Nat), .int .u32 (x1 : Nat), .int .u32 (x2 : Nat), .int .u32 (x3 : Nat), .int .u32 (x4 : Nat), .int .u32 (x5 : Nat), .int .u32 (x6 : Nat), .int .u32 (x7 : Nat), .int .u32 (x8 : Nat), .int .u32 (x9 : Nat), .int .u32 (x10 : Nat), .int .u32 (x11 : Nat), .int .u32 (x12 : Nat), .int .u32 (x13 : Nat), .int .u32 (x14 : Nat), .int .u32 (x15 : Nat)] 63)).heap.size by simp)).trans HA1.out)
  have hsz0 : w1.heap.size + 1 ≤ ((w1.alloc (.cells #[.int .u32 (x0 : Nat), .int .u32 (x1 : Nat), .int .u32 (x2 : Nat), .int .u32 (x3 : Nat), .int .u32 (x4 : Nat), .int .u32 (x5 : Nat), .int .u32 (x6 : Nat), .int .u32 (x7 : Nat), .int .u32 (x8 : Nat), .int .u32 (x9 : Nat), .int .u32 (x10 : Nat), .int .u32 (x11 : Nat), .int .u32 (x12 : Nat), .int .u32 (x13 : Nat), .int .u32 (x14 : Nat), .int .u32 (x15 : Nat)] 63)).alloc (.cells #[.pointer none, .slice none 0 0] 68)).heap.size := by simp
  go_wp2_with fail
  rw [World.size_alloc] at HI0
  generalize (w1.alloc (.cells #[.int .u32 (x0 : Nat), .int .u32 (x1 : Nat), .int .u32 (x2 : Nat), .int .u32 (x3 : Nat), .int .u32 (x4 : Nat), .int .u32 (x5 : Nat), .int .u32 (x6 : Nat), .int .u32 (x7 : Nat), .int .u32 (x8 : Nat), .int .u32 (x9 : Nat), .int .u32 (x10 : Nat), .int .u32 (x11 : Nat), .int .u32 (x12 : Nat), .int .u32 (x13 : Nat), .int .u32 (x14 : Nat), .int .u32 (x15 : Nat)] 63)).alloc (.cells #[.pointer none, .slice none 0 0] 68) = W0 at *
  clear HB1 HBA HA1
  generalize hwb : w1.heap.size = wb at *
  have hbb : w.heap.size < wb + 1 := by omega
  clear hwb
  go_loopw [2, 11] (fun cv lv wr => ∃ (d : Nat) (l O : List UInt8), d < 4294967296 ∧ cv = .int .u32 d ∧ lv = .string ⟨l.toArray⟩ ∧ O ++ stream key.data.toList nonce.data.toList d l = R ∧ l.length ≤ s.size ∧ IB (wb + 1) (Lib.byteCells O) wr ∧ wr.heap[wb]? = some (.cells #[.int .u32 (x0 : Nat), .int .u32 (x1 : Nat), .int .u32 (x2 : Nat), .int .u32 (x3 : Nat), .int .u32 (x4 : Nat), .int .u32 (x5 : Nat), .int .u32 (x6 : Nat), .int .u32 (x7 : Nat), .int .u32 (x8 : Nat), .int .u32 (x9 : Nat), .int .u32 (x10 : Nat), .int .u32 (x11 : Nat), .int .u32 (x12 : Nat), .int .u32 (x13 : Nat), .int .u32 (x14 : Nat), .int .u32 (x15 : Nat)] 63 (0, 0)) ∧ Below w.heap.size w wr ∧ wb + 1 ≤ wr.heap.size) (fun _ lv _ => sl lv)
  case atStart => exact ⟨c, s.data.toList, [], hc, rfl, rfl, by rw [List.nil_append]; exact HR.out, by simp, HI0.out, HA0.out, HB0.out, hsz0⟩
  case round =>
    clear HI0 HA0 HB0 hsz0
    obtain ⟨d, l, O, hd, rfl, rfl, ho, hl, hib, ha, hb, hsz⟩ := hrel
    have HO := Lib.hid ho
    have HI := Lib.hid hib
    have HA := Lib.hid ha
    have HB := Lib.hid hb
    have hdI : (d : Int) < 4294967296 := by omega
    have hdI0 : (0 : Int) ≤ (d : Int) := by omega
    obtain ⟨c0, c1, c2, c3, c4, c5, c6, c7, c8, c9, c10, c11, c12, c13, c14, c15⟩ := W16.cells ha
    clear ho hib ha hb
    by_cases hne : l = []
    · subst hne
      have hRO : O = R := by have h := HO.out; rw [NIL.out, List.append_nil] at h; exact h
      subst hRO
      have he : ([] : List UInt8).isEmpty = true := rfl
      have CST := Lib.hid (Tryz.Builder_String_any (wb + 1) (wb + 1) O wr HI.out hsz)
      go_wp2_with fail
      with_reducible refine CST.out.mono ?_
      rintro e2 w2 ⟨rfl, hb⟩
      have HB2 := Lib.hid (HB.out.trans (hb.mono (by omega)))
      clear hb
      go_wp2_with fail
      go_ret
      exact ⟨rfl, HB2.out⟩
    · have he : l.isEmpty = false := by cases l with | nil => exact absurd rfl hne | cons x l => rfl
      have CA1 := Lib.hid (CA.out d hd)
      have CB1 := Lib.hid (CB.out d hd)
      have hbl := BL.out d
      have hst := STEP.out d l hne
      have CX : Hid (∀ W : World, Calls Tryz.prog 33 #[.string ⟨l.toArray⟩, .string ⟨(blk key.data.toList nonce.data.toList d).toArray⟩] W fun e w' => e = .returned (.string ⟨(xr l (blk key.data.toList nonce.data.toList d)).toArray⟩) ∧ Below W.heap.size W w') := Lib.hid (fun W => xor_call l _ W (by omega) (by rw [hbl]; decide))
      have hxl : (xr l (blk key.data.toList nonce.data.toList d)).length = min l.length 64 := by rw [xr_len, hbl]
      rw [hst, ← List.append_assoc] at HO
      generalize wv (ini key.data.toList nonce.data.toList d) = V1 at CA1 CB1
      generalize blk key.data.toList nonce.data.toList d = BB at *
      generalize xr l BB = P at *
      have HDC := Lib.hid (drop_cut l P.length hxl)
      have HXL := Lib.hid hxl
      have hOl : O.length + P.length ≤ 100000 := by
        have h := congrArg List.length HO.out
        rw [List.length_append, List.length_append] at h
        omega
      have hPl : (P.length : Int) ≤ (l.length : Int) := by omega
      clear hst hxl hbl
      go_wp2_with fail
      with_reducible refine (CA1.out _).mono ?_
      rintro e2 w2 ⟨rfl, hb⟩
      have HB2 := Lib.hid hb
      clear hb
      go_wp2_with fail
      with_reducible refine (CB1.out _).mono ?_
      rintro e3 w3 ⟨rfl, hb⟩
      have HB3 := Lib.hid (HB2.out.trans (hb.mono HB2.out.size))
      clear hb
      go_wp2_with fail
      with_reducible refine (CX.out _).mono ?_
      rintro e4 w4 ⟨rfl, hb⟩
      have HB4 := Lib.hid (HB3.out.trans (hb.mono HB3.out.size))
      clear hb
      have HI4 := Lib.hid (builder_below HI.out HB4.out)
      have hs4 : wb + 1 ≤ w4.heap.size := Nat.le_trans hsz HB4.out.size
      have CWS := Lib.hid (Bld.writeString (wb + 1) (wb + 1) (Lib.byteCells O) ⟨P.toArray⟩ w4 HI4.out (by rw [byteCells_len]; show O.length + P.toArray.size ≤ _; simp; omega) hs4)
      go_wp2_with fail
      with_reducible refine CWS.out.mono ?_
      rintro e5 w5 ⟨rfl, h5, hb⟩
      have HI5 : Hid (IB (wb + 1) (Lib.byteCells (O ++ P)) w5) := Lib.hid (by rw [byteCells_app]; exact h5)
      have hs5 : wb + 1 ≤ w5.heap.size := Nat.le_trans hs4 hb.size
      have HB5 : Hid (Below (wb + 1) wr w5) := Lib.hid ((HB4.out.mono hsz).trans hb)
      clear hb h5
      go_wp2_with fail
      go_roundw
      case rel => exact ⟨(d + 1) % 4294967296, l.drop 64, O ++ P, Nat.mod_lt _ (by decide), by first | rfl | (congr 1; push_cast; rfl) | (congr 1; omega), by rw [← HDC.out], HO.out, by rw [List.length_drop]; omega, HI5.out, (HB5.out.block wb (by omega)).trans HA.out, HB.out.trans (HB5.out.mono (by omega)), hs5⟩
      case measure =>
        have hpos : 0 < l.length := List.length_pos_iff.2 hne
        rw [HDC.out]
        show (l.drop 64).toArray.size < l.toArray.size
        simp only [List.size_toArray, List.length_drop]
        omega
end Go.Proofs.YtojoalmldapboaaGreatDoor.Se
namespace Go.Proofs.YtojoalmldapboaaGreatDoor.Kd
set_option maxRecDepth 20000
open Go.Proofs.YtojoalmldapboaaGreatDoor.Dg
open Go.Proofs.YtojoalmldapboaaGreatDoor.Vm (fx fx_length)

def kl (k : List UInt8) : List UInt8 := if 64 < k.length then sha k else k
def kb (k : List UInt8) : List UInt8 := kl k ++ List.replicate (64 - (kl k).length) 0
def ko (k : List UInt8) : List UInt8 := xorL (kb k) (List.replicate 64 92)
def ki (k : List UInt8) : List UInt8 := xorL (kb k) (List.replicate 64 54)
def hm (O I s : List UInt8) : List UInt8 := sha (O ++ sha (I ++ s))
def mac (k s : List UInt8) : List UInt8 := hm (ko k) (ki k) s
def tk (O I info : List UInt8) : Nat → List UInt8
  | 0 => []
  | i + 1 => hm O I (tk O I info i ++ info ++ fx (i + 1) 1)
def outs (O I info : List UInt8) : Nat → List UInt8
  | 0 => []
  | i + 1 => outs O I info i ++ tk O I info (i + 1)
def exq (O I info : List UInt8) (n : Nat) : List UInt8 := (outs O I info ((n + 31) / 32)).take n
def tls : List UInt8 := [116, 108, 115, 49, 51, 32]
def cnt (s : List UInt8) : List UInt8 := fx s.length 1 ++ s
def inf (label ctx : List UInt8) (n : Nat) : List UInt8 := fx n 2 ++ cnt (tls ++ label) ++ cnt ctx
def lab (O I label ctx : List UInt8) (n : Nat) : List UInt8 := exq O I (inf label ctx n) n
theorem kl_len (k : List UInt8) : (kl k).length ≤ 64 := by
  unfold kl
  split
  · rw [sha_len]; decide
  · omega
theorem kb_len (k : List UInt8) : (kb k).length = 64 := by
  have := kl_len k
  unfold kb
  rw [List.length_append, List.length_replicate]
  omega
theorem ko_len (k : List UInt8) : (ko k).length = 64 := by
  unfold ko
  rw [xorL_len, kb_len, List.length_replicate]
  rfl
theorem ki_len (k : List UInt8) : (ki k).length = 64 := by
  unfold ki
  rw [xorL_len, kb_len, List.length_replicate]
  rfl
theorem hm_len (O I s : List UInt8) : (hm O I s).length = 32 := sha_len _
theorem mac_len (k s : List UInt8) : (mac k s).length = 32 := sha_len _
theorem tk_len (O I info : List UInt8) (i : Nat) : (tk O I info i).length ≤ 32 := by
  cases i with
  | zero => exact Nat.zero_le _
  | succ i => exact Nat.le_of_eq (hm_len _ _ _)
theorem outs_len (O I info : List UInt8) (i : Nat) : (outs O I info i).length = 32 * i := by
  induction i with
  | zero => rfl
  | succ i ih =>
    have h : (tk O I info (i + 1)).length = 32 := hm_len _ _ _
    rw [outs, List.length_append, ih, h]
    omega
theorem exq_len (O I info : List UInt8) (n : Nat) : (exq O I info n).length = n := by
  unfold exq
  rw [List.length_take, outs_len]
  omega
theorem cnt_len (s : List UInt8) : (cnt s).length = 1 + s.length := by
  unfold cnt
  rw [List.length_append, fx_length]
theorem inf_len (label ctx : List UInt8) (n : Nat) : (inf label ctx n).length = label.length + ctx.length + 10 := by
  unfold inf
  rw [List.length_append, List.length_append, fx_length, cnt_len, cnt_len, List.length_append]
  have : tls.length = 6 := rfl
  omega
theorem lab_len (O I label ctx : List UInt8) (n : Nat) : (lab O I label ctx n).length = n := exq_len _ _ _ _
end Go.Proofs.YtojoalmldapboaaGreatDoor.Kd
