/- Layer 6: the law FrameTail, walked. By hand. -/
import Derived.Test.YteelcihgbjhnbaaDoorFmSc
import Derived.Lib.ConvBytes
namespace Go.Proofs.YteelcihgbjhnbaaDoor.Fm
set_option maxRecDepth 20000
open Go.RowKit Vm
set_option linter.unusedVariables false
set_option linter.unusedSimpArgs false

def tlF (id : Nat) (data : List UInt8) (fin : Bool) : Frm := { frZ with kind := 8, id := (id : Nat), fin := fin, data := data }
def tlK (fin : Bool) : Nat := if fin = true then 9 else 8
theorem tl_fil (id : Nat) (data : List UInt8) (fin : Bool) : filN (tlF id data fin) &&& 1155 = filN (tlF id data fin) := by
  have e : filN (tlF id data fin) = (if id = 0 then 0 else 1) + (if data = [] then 0 else 128) + (if fin = true then 1024 else 0) := by
    unfold filN
    simp only [fT, fN, txF, nm, tlF, frZ]
    by_cases h1 : data = [] <;> cases fin <;> simp [h1]
  rw [e]
  split <;> split <;> split <;> decide
theorem tl_nm (id : Nat) (data : List UInt8) (fin : Bool) (hid : id < 64) (j : Nat) : 0 ≤ nm (tlF id data fin) j ∧ nm (tlF id data fin) j ≤ 4611686018427387903 := by
  unfold nm tlF frZ
  split <;> simp only <;> omega
theorem tl_may (id : Nat) (data : List UInt8) (fin : Bool) (hid : id < 64) (hd : data.length ≤ 1200) : mayF 8 (tlF id data fin) [] = true := by
  unfold mayF
  rw [show (partsN 8).getD 0 = 1155 from rfl, decide_eq_true (tl_fil id data fin)]
  have h1 : numB (tlF id data fin) = true := by
    unfold numB
    rw [List.all_eq_true]
    intro j hj
    exact decide_eq_true (tl_nm id data fin hid j).2
  have h2 : kndB (tlF id data fin) [] = true := by
    have : kndB (tlF id data fin) [] = (decide (data.length ≤ 1200) && decide ((0 : Int) + data.length ≤ 4611686018427387903)) := rfl
    rw [this, decide_eq_true hd, decide_eq_true (by omega)]
    rfl
  unfold bndB
  rw [h1, h2]
  rfl
theorem tl_get (id : Nat) (data : List UInt8) (fin : Bool) (hid : id < 64) (hd : data.length ≤ 1200) : getN (UInt8.ofNat (tlK fin) :: UInt8.ofNat id :: data) = some (tlF id data fin, [], []) := by
  have e0 : UInt8.ofNat id :: data = pcat [(id : Int)] ++ data := by
    have hpl : pl id = 0 := by unfold pl; rw [if_pos hid]
    rw [pcat_1, Int.toNat_natCast]
    unfold pt
    rw [hpl]
    simp [wd, fx]
    rw [Nat.mod_eq_of_lt (show id < 256 by omega)]
  have hn : ∀ p, p = 4097 ∨ p = 5121 → numsN p (UInt8.ofNat id :: data) { frZ with kind := 8 } 7 = some (data, { frZ with kind := 8, id := (id : Nat) }) := by
    intro p hp
    have h1 := nums_back (tlF id data fin) { frZ with kind := 8 } p (fun j _ => tl_nm id data fin hid j) 7 (by decide) data
    have e1 : chN p (tlF id data fin) 7 = [(id : Int)] := by rcases hp with rfl | rfl <;> rfl
    have e2 : stTo (tlF id data fin) { frZ with kind := 8 } p 7 = { frZ with kind := 8, id := (id : Nat) } := by rcases hp with rfl | rfl <;> rfl
    rw [e1, e2, ← e0] at h1
    exact h1
  have hf : frmN (UInt8.ofNat (tlK fin) :: UInt8.ofNat id :: data) = some (tlF id data fin, [], []) := by
    rw [frmN_cons]
    cases fin with
    | false =>
      rw [if_pos (by decide), if_neg (by decide)]
      unfold plainN
      rw [show toldP (UInt8.ofNat (tlK false)).toNat = 4097 from rfl, show toldK (UInt8.ofNat (tlK false)).toNat = 8 from rfl]
      have := hn 4097 (.inl rfl)
      rw [show (((8 : Nat) : Int)) = 8 from rfl, this]
      rfl
    | true =>
      rw [if_pos (by decide), if_neg (by decide)]
      unfold plainN
      rw [show toldP (UInt8.ofNat (tlK true)).toNat = 5121 from rfl, show toldK (UInt8.ofNat (tlK true)).toNat = 8 from rfl]
      have := hn 5121 (.inr rfl)
      rw [show (((8 : Nat) : Int)) = 8 from rfl, this]
      rfl
  unfold getN
  rw [hf]
  simp only
  rw [if_pos]
  exact tl_may id data fin hid hd
theorem conv_row (W : World) (l : List UInt8) (cap g : Nat) (h : ∀ (j : Nat) (hj : j < l.length), W.cell? ⟨g, j, none⟩ = some (.int .u8 (l[j].toNat : Int))) :
    (convert 55 9 (.slice (some ⟨g, 0, none⟩) l.length cap)).run Tryd.prog W = .ok (.string ⟨l.toArray⟩) W := by
  refine run_convert_bytes_back (P := Tryd.prog) W 55 9 5 _ cap l Tryd.underlying55 Tryd.underlying5 Tryd.underlying9 ?_
  intro j hj
  have e : (⟨g, 0, none⟩ : Addr).add j = ⟨g, j, none⟩ := by unfold Addr.add; split <;> simp_all
  rw [e, h j hj]
theorem conv_2 (W : World) (k : Int) (kb : UInt8) (id : Nat) (hk : (kb.toNat : Int) = k) (hid : id < 256) : (convert 55 9 (.slice (some ⟨W.heap.size, 0, none⟩) 2 2)).run Tryd.prog (W.alloc (.cells #[.int .u8 k, .int .u8 (id : Nat)] 5)) = .ok (.string ⟨#[kb, UInt8.ofNat id]⟩) (W.alloc (.cells #[.int .u8 k, .int .u8 (id : Nat)] 5)) := by
  refine conv_row _ [kb, UInt8.ofNat id] 2 W.heap.size (fun j hj => ?_)
  have h := World.alloc_heap_new W (.cells #[.int .u8 k, .int .u8 (id : Nat)] 5)
  have e2 : (UInt8.ofNat id).toNat = id := by rw [UInt8.toNat_ofNat']; omega
  have hj2 : j = 0 ∨ j = 1 := by simp at hj; omega
  rcases hj2 with rfl | rfl
  · rw [Lib.cell_of_heap h 0]; simp [hk]
  · rw [Lib.cell_of_heap h 1]; simp [e2]
/-- Where a law lets go. -/
theorem tail_out (id : Int) (data : List UInt8) (fin : Bool) (w : World) (ht : Tab w) (h0 : 0 ≤ id) (hs : (data.length : Int) ≤ 9223372036854775807) (h : ¬ ((data.length : Int) ≤ 1200 ∧ id < 64)) :
    Calls Tryd.prog 8 #[.int .u64 id, .string ⟨data.toArray⟩, .bool fin] w fun e w' => e = .returned (.bool true) ∧ Below w.heap.size w w' := by
  have CS := Lib.hid (shown_any w ht)
  clear ht
  by_cases h1 : (data.length : Int) ≤ 1200
  · have h2 : ¬ id < 64 := fun h2 => h ⟨h1, h2⟩
    clear h
    go_enter Tryd.func8, Tryd.ntmps8
    go_wp2_with fail
    refine CS.out.mono ?_
    rintro e w1 ⟨rfl, hb⟩
    go_wp2
    go_ret
    exact ⟨rfl, hb⟩
  · clear h
    go_enter Tryd.func8, Tryd.ntmps8
    go_wp2_with fail
    refine CS.out.mono ?_
    rintro e w1 ⟨rfl, hb⟩
    go_wp2
    go_ret
    exact ⟨rfl, hb⟩
theorem tail_true (id : Nat) (data : List UInt8) (w : World) (ht : Tab w) (h1 : (data.length : Int) ≤ 1200) (h2 : (id : Int) < 64) :
    Calls Tryd.prog 8 #[.int .u64 (id : Nat), .string ⟨data.toArray⟩, .bool true] w fun e w' => e = .returned (.bool true) ∧ Below w.heap.size w w' := by
  have CS := Lib.hid (shown_any w ht)
  have hid : IntKind.u8.wrap (id : Int) = (id : Int) := by rw [IntKind.wrap_u8]; omega
  have HTF := Lib.hid ht
  have hi0 : (0 : Int) ≤ (id : Int) := by omega
  have hcat : (⟨#[9, UInt8.ofNat id]⟩ : ByteArray) ++ ⟨data.toArray⟩ = ⟨(9 :: UInt8.ofNat id :: data).toArray⟩ := by apply ByteArray.ext; simp
  have CG : Hid (∀ W, Tab W → Calls Tryd.prog 21 #[.string ⟨(9 :: UInt8.ofNat id :: data).toArray⟩] W fun e w' => Below W.heap.size W w' ∧ ∃ (sa : Option Addr) (sc : Nat), Rd w' (.slice sa 0 sc) [] ∧ e = .returned (.tuple #[.agg #[.int .u64 8, .int .u64 (id : Nat), .int .u64 0, .int .u64 0, .int .u64 0, .int .u64 0, .int .u64 0, .int .u64 0, .bool true, .string ⟨data.toArray⟩, .string ⟨#[]⟩, .string ⟨#[]⟩, .slice sa 0 sc], .string ⟨#[]⟩, .int .i64 0])) := Lib.hid (fun W ht => by
    have h := get_any (9 :: UInt8.ofNat id :: data) W ht (by simp; omega)
    rw [show (9 : UInt8) = UInt8.ofNat (tlK true) from rfl, tl_get id data true (by omega) (by omega)] at h
    refine h.mono ?_
    rintro e w' ⟨h1, ⟨sa, sn, sc⟩, h2, h3, h4, h5⟩
    have h2 : sn = 0 := h2
    subst h2
    exact ⟨h1, sa, sc, h3, h5⟩)
  have CSM : Hid (∀ (sa : Option Addr) (sc : Nat) W, Rd W (.slice sa 0 sc) [] → Calls Tryd.prog 28 #[.agg #[.int .u64 8, .int .u64 (id : Nat), .int .u64 0, .int .u64 0, .int .u64 0, .int .u64 0, .int .u64 0, .int .u64 0, .bool true, .string ⟨data.toArray⟩, .string ⟨#[]⟩, .string ⟨#[]⟩, .slice sa 0 sc], .agg #[.int .u64 8, .int .u64 (id : Nat), .int .u64 0, .int .u64 0, .int .u64 0, .int .u64 0, .int .u64 0, .int .u64 0, .bool true, .string ⟨data.toArray⟩, .string ⟨#[]⟩, .string ⟨#[]⟩, .slice none 0 0]] W fun e w' => e = .returned (.bool true) ∧ Below W.heap.size W w') := Lib.hid (fun sa sc W h => by
    have h := same_any { tlF id data true with set := ⟨sa, 0, sc⟩ } { tlF id data true with set := ⟨none, 0, 0⟩ } [] [] W (by decide) (by decide) h (rd_none W)
    rw [show sameF { tlF id data true with set := ⟨sa, 0, sc⟩ } { tlF id data true with set := ⟨none, 0, 0⟩ } [] [] = true by unfold sameF; simp [numE, txtE]] at h
    exact h)
  go_enter Tryd.func8, Tryd.ntmps8
  go_wp2_with fail
  refine CS.out.mono ?_
  rintro e w1 ⟨rfl, hb⟩
  have HB1 := Lib.hid hb
  have HT1 := Lib.hid (ht.below hb ht.lt)
  have HCV := conv_2 w1 9 9 id (by decide) (by omega)
  have HBA : Hid (Below w1.heap.size w1 (w1.alloc (.cells #[.int .u8 9, .int .u8 (id : Nat)] 5))) := Lib.hid ((Below.refl _ _).alloc (Nat.le_refl _) _)
  have HT2 := Lib.hid (HT1.out.below HBA.out HT1.out.lt)
  have HB2 := Lib.hid (HB1.out.trans (HBA.out.mono HB1.out.size))
  clear hb ht
  go_wp2_with fail
  with_reducible refine (CG.out _ HT2.out).mono ?_
  rintro e w2 ⟨hb, sa, sc, hrd, rfl⟩
  have HB3 := Lib.hid (HB2.out.trans (hb.mono HB2.out.size))
  have HBB : Hid (Below w2.heap.size w2 (w2.alloc (.cells #[.int .u64 8, .int .u64 (id : Nat), .int .u64 0, .int .u64 0, .int .u64 0, .int .u64 0, .int .u64 0, .int .u64 0, .bool true, .string ⟨data.toArray⟩, .string ⟨#[]⟩, .string ⟨#[]⟩, .slice sa 0 sc] 26))) := Lib.hid ((Below.refl _ _).alloc (Nat.le_refl _) _)
  have HR3 := Lib.hid (hrd.below HBB.out)
  have HB4 := Lib.hid (HB3.out.trans (HBB.out.mono HB3.out.size))
  clear hb hrd
  go_wp2_with fail
  with_reducible refine (CSM.out sa sc _ HR3.out).mono ?_
  rintro e w3 ⟨rfl, hb⟩
  have HB5 := Lib.hid (HB4.out.trans (hb.mono HB4.out.size))
  clear hb
  go_wp2
  go_ret
  exact ⟨rfl, HB5.out⟩
theorem tail_false (id : Nat) (data : List UInt8) (w : World) (ht : Tab w) (h1 : (data.length : Int) ≤ 1200) (h2 : (id : Int) < 64) :
    Calls Tryd.prog 8 #[.int .u64 (id : Nat), .string ⟨data.toArray⟩, .bool false] w fun e w' => e = .returned (.bool true) ∧ Below w.heap.size w w' := by
  have CS := Lib.hid (shown_any w ht)
  have hid : IntKind.u8.wrap (id : Int) = (id : Int) := by rw [IntKind.wrap_u8]; omega
  have HTF := Lib.hid ht
  have hi0 : (0 : Int) ≤ (id : Int) := by omega
  have hcat : (⟨#[8, UInt8.ofNat id]⟩ : ByteArray) ++ ⟨data.toArray⟩ = ⟨(8 :: UInt8.ofNat id :: data).toArray⟩ := by apply ByteArray.ext; simp
  have CG : Hid (∀ W, Tab W → Calls Tryd.prog 21 #[.string ⟨(8 :: UInt8.ofNat id :: data).toArray⟩] W fun e w' => Below W.heap.size W w' ∧ ∃ (sa : Option Addr) (sc : Nat), Rd w' (.slice sa 0 sc) [] ∧ e = .returned (.tuple #[.agg #[.int .u64 8, .int .u64 (id : Nat), .int .u64 0, .int .u64 0, .int .u64 0, .int .u64 0, .int .u64 0, .int .u64 0, .bool false, .string ⟨data.toArray⟩, .string ⟨#[]⟩, .string ⟨#[]⟩, .slice sa 0 sc], .string ⟨#[]⟩, .int .i64 0])) := Lib.hid (fun W ht => by
    have h := get_any (8 :: UInt8.ofNat id :: data) W ht (by simp; omega)
    rw [show (8 : UInt8) = UInt8.ofNat (tlK false) from rfl, tl_get id data false (by omega) (by omega)] at h
    refine h.mono ?_
    rintro e w' ⟨h1, ⟨sa, sn, sc⟩, h2, h3, h4, h5⟩
    have h2 : sn = 0 := h2
    subst h2
    exact ⟨h1, sa, sc, h3, h5⟩)
  have CSM : Hid (∀ (sa : Option Addr) (sc : Nat) W, Rd W (.slice sa 0 sc) [] → Calls Tryd.prog 28 #[.agg #[.int .u64 8, .int .u64 (id : Nat), .int .u64 0, .int .u64 0, .int .u64 0, .int .u64 0, .int .u64 0, .int .u64 0, .bool false, .string ⟨data.toArray⟩, .string ⟨#[]⟩, .string ⟨#[]⟩, .slice sa 0 sc], .agg #[.int .u64 8, .int .u64 (id : Nat), .int .u64 0, .int .u64 0, .int .u64 0, .int .u64 0, .int .u64 0, .int .u64 0, .bool false, .string ⟨data.toArray⟩, .string ⟨#[]⟩, .string ⟨#[]⟩, .slice none 0 0]] W fun e w' => e = .returned (.bool true) ∧ Below W.heap.size W w') := Lib.hid (fun sa sc W h => by
    have h := same_any { tlF id data false with set := ⟨sa, 0, sc⟩ } { tlF id data false with set := ⟨none, 0, 0⟩ } [] [] W (by decide) (by decide) h (rd_none W)
    rw [show sameF { tlF id data false with set := ⟨sa, 0, sc⟩ } { tlF id data false with set := ⟨none, 0, 0⟩ } [] [] = true by unfold sameF; simp [numE, txtE]] at h
    exact h)
  go_enter Tryd.func8, Tryd.ntmps8
  go_wp2_with fail
  refine CS.out.mono ?_
  rintro e w1 ⟨rfl, hb⟩
  have HB1 := Lib.hid hb
  have HT1 := Lib.hid (ht.below hb ht.lt)
  have HCV := conv_2 w1 8 8 id (by decide) (by omega)
  have HBA : Hid (Below w1.heap.size w1 (w1.alloc (.cells #[.int .u8 8, .int .u8 (id : Nat)] 5))) := Lib.hid ((Below.refl _ _).alloc (Nat.le_refl _) _)
  have HT2 := Lib.hid (HT1.out.below HBA.out HT1.out.lt)
  have HB2 := Lib.hid (HB1.out.trans (HBA.out.mono HB1.out.size))
  clear hb ht
  go_wp2_with fail
  with_reducible refine (CG.out _ HT2.out).mono ?_
  rintro e w2 ⟨hb, sa, sc, hrd, rfl⟩
  have HB3 := Lib.hid (HB2.out.trans (hb.mono HB2.out.size))
  have HBB : Hid (Below w2.heap.size w2 (w2.alloc (.cells #[.int .u64 8, .int .u64 (id : Nat), .int .u64 0, .int .u64 0, .int .u64 0, .int .u64 0, .int .u64 0, .int .u64 0, .bool false, .string ⟨data.toArray⟩, .string ⟨#[]⟩, .string ⟨#[]⟩, .slice sa 0 sc] 26))) := Lib.hid ((Below.refl _ _).alloc (Nat.le_refl _) _)
  have HR3 := Lib.hid (hrd.below HBB.out)
  have HB4 := Lib.hid (HB3.out.trans (HBB.out.mono HB3.out.size))
  clear hb hrd
  go_wp2_with fail
  with_reducible refine (CSM.out sa sc _ HR3.out).mono ?_
  rintro e w3 ⟨rfl, hb⟩
  have HB5 := Lib.hid (HB4.out.trans (hb.mono HB4.out.size))
  clear hb
  go_wp2
  go_ret
  exact ⟨rfl, HB5.out⟩
theorem law_tail (id : Int) (data : List UInt8) (fin : Bool) (w : World) (ht : Tab w) (w1 : (Lit.int .u64 id).wf = true) (w2 : (⟨data.toArray⟩ : ByteArray).size ≤ maxLen) :
    Calls Tryd.prog 8 #[.int .u64 id, .string ⟨data.toArray⟩, .bool fin] w fun e w' => e = .returned (.bool true) ∧ Below w.heap.size w w' := by
  obtain ⟨h0, _⟩ := bounds_u64 w1
  have hs : (data.length : Int) ≤ 9223372036854775807 := by
    have : data.length ≤ maxLen := w2
    unfold maxLen at this
    omega
  by_cases h : (data.length : Int) ≤ 1200 ∧ id < 64
  · obtain ⟨n, rfl⟩ : ∃ n : Nat, id = (n : Int) := ⟨id.toNat, by omega⟩
    cases fin
    · exact tail_false n data w ht h.1 h.2
    · exact tail_true n data w ht h.1 h.2
  · exact tail_out id data fin w ht h0 hs h
end Go.Proofs.YteelcihgbjhnbaaDoor.Fm
