/- The walks of layer 10: what the laws show of a small box. By hand. -/
import Derived.Test.YtffjnfoleofffaaIdI
namespace Go.Proofs.Ytffjnfoleofffaa.Id
open Go.RowKit Vm
set_option linter.unusedVariables false
set_option linter.unusedSimpArgs false

theorem cid_seal (sd nx : Nat) (cid plain : ByteArray) (h : cid.size = 8) : cidS (sealS sd nx cid plain) = cid := by
  unfold cidS
  rw [if_neg (by rw [sealS_size]; omega)]
  have hl : cid.data.toList.length = 8 := h
  unfold sealS
  generalize drawN (baseN sd nx) (plain.size + 20) = D
  apply ByteArray.ext
  apply Array.ext'
  simp only [ByteArray.data_extract, ByteArray.data_append, Array.toList_extract, List.extract_eq_take_drop, Array.toList_append]
  simp [hl]
theorem opn_one (to fr : Int) (num : Nat) (s p : ByteArray) (h : fr ≠ to) : opnV (opn to s [⟨fr, num, s, p⟩]) = .tuple #[.int .u64 num, .string p, .bool true] := by
  simp [opn, opnV, sel, h]
theorem opn_own (to : Int) (num : Nat) (s p : ByteArray) : opnV (opn to s [⟨to, num, s, p⟩]) = .tuple #[.int .u64 0, .string ⟨#[]⟩, .bool false] := by
  simp [opn, opnV, sel]
set_option maxHeartbeats 4000000 in
theorem shown_any (w : World) : Calls Try.prog 9 #[] w fun e w' => e = .returned (.bool true) ∧ Below w.heap.size w w' := by
  obtain ⟨SS, hSS⟩ : ∃ s : ByteArray, sealS 7 0 ⟨#[49, 50, 51, 52, 53, 54, 55, 56]⟩ ⟨#[104, 101, 108, 108, 111]⟩ = s := ⟨_, rfl⟩
  have hsz := sealS_size 7 0 ⟨#[49, 50, 51, 52, 53, 54, 55, 56]⟩ ⟨#[104, 101, 108, 108, 111]⟩
  have hcd := cid_seal 7 0 ⟨#[49, 50, 51, 52, 53, 54, 55, 56]⟩ ⟨#[104, 101, 108, 108, 111]⟩ rfl
  rw [hSS] at hsz hcd
  have hs34 : SS.size = 34 := hsz
  have CN := Lib.hid (new_any 7)
  have CS : Hid (∀ W : World, Calls Try.prog 17 #[.agg #[.int .u64 7, .int .u64 0, .slice none 0 0], .int .i64 0, .int .u64 5, .string ⟨#[49, 50, 51, 52, 53, 54, 55, 56]⟩, .string ⟨#[104, 101, 108, 108, 111]⟩] W fun e w' => ∃ a c, e = .returned (.tuple #[.agg #[.int .u64 7, .int .u64 1, .slice a 1 c], .string SS]) ∧ RowE w' (.slice a 1 c) [⟨0, 5, SS, ⟨#[104, 101, 108, 108, 111]⟩⟩] ∧ Below W.heap.size W w') := Lib.hid (fun W => by
    have h := seal_any 7 0 (.slice none 0 0) [] 0 5 ⟨#[49, 50, 51, 52, 53, 54, 55, 56]⟩ ⟨#[104, 101, 108, 108, 111]⟩ W (RowE.nil W) (by simp) (by decide) (by decide)
    unfold SealTo at h
    rw [hSS] at h
    exact h.mono fun e w' ⟨a, c, h1, h2, h3⟩ => ⟨a, c, h1, h2.row, h3⟩)
  have CO1 : Hid (∀ (a : Option Addr) (c : Nat) (W : World), RowE W (.slice a 1 c) [⟨0, 5, SS, ⟨#[104, 101, 108, 108, 111]⟩⟩] → Calls Try.prog 23 #[.agg #[.int .u64 7, .int .u64 1, .slice a 1 c], .int .i64 1, .string SS] W fun e w' => e = .returned (.tuple #[.int .u64 5, .string ⟨#[104, 101, 108, 108, 111]⟩, .bool true]) ∧ Below W.heap.size W w') := Lib.hid (fun a c W h => by
    have h2 := open_any 7 1 (.slice a 1 c) _ 1 SS W h (by simp)
    rwa [opn_one _ _ _ _ _ (by decide)] at h2)
  have CO0 : Hid (∀ (a : Option Addr) (c : Nat) (W : World), RowE W (.slice a 1 c) [⟨0, 5, SS, ⟨#[104, 101, 108, 108, 111]⟩⟩] → Calls Try.prog 23 #[.agg #[.int .u64 7, .int .u64 1, .slice a 1 c], .int .i64 0, .string SS] W fun e w' => e = .returned (.tuple #[.int .u64 0, .string ⟨#[]⟩, .bool false]) ∧ Below W.heap.size W w') := Lib.hid (fun a c W h => by
    have h2 := open_any 7 1 (.slice a 1 c) _ 0 SS W h (by simp)
    rwa [opn_own] at h2)
  have CC : Hid (∀ W : World, Calls Try.prog 21 #[.string SS] W fun e w' => e = .returned (.string ⟨#[49, 50, 51, 52, 53, 54, 55, 56]⟩) ∧ W = w') := Lib.hid (fun W => by
    have h := cid_any SS W (by omega)
    rwa [hcd] at h)
  have CI2 := Lib.hid (id_any 1 2)
  have CI3 := Lib.hid (id_any 1 3)
  have hne : (⟨(idN 1 2).toArray⟩ : ByteArray) ≠ ⟨(idN 1 3).toArray⟩ := fun h => by
    have h2 := (idN_inj 1 2 3 (by decide) (by decide)).1 (by simpa using h)
    omega
  obtain ⟨D2, hD2⟩ : ∃ s : ByteArray, ⟨(idN 1 2).toArray⟩ = s := ⟨_, rfl⟩
  obtain ⟨D3, hD3⟩ : ∃ s : ByteArray, ⟨(idN 1 3).toArray⟩ = s := ⟨_, rfl⟩
  rw [hD2] at CI2 hne
  rw [hD3] at CI3 hne
  have CI2' : Hid (∀ W : World, Calls Try.prog 12 #[.int .u64 1, .int .u64 2] W fun e w' => e = .returned (.string D2) ∧ Below W.heap.size W w') := CI2
  have CI3' : Hid (∀ W : World, Calls Try.prog 12 #[.int .u64 1, .int .u64 3] W fun e w' => e = .returned (.string D3) ∧ Below W.heap.size W w') := CI3
  have CN' : Hid (∀ W : World, Calls Try.prog 15 #[.int .u64 7] W fun e w' => e = .returned (.agg #[.int .u64 7, .int .u64 0, .slice none 0 0]) ∧ Below W.heap.size W w') := CN
  have hneB : (D2.toList == D3.toList) = false := toList_ne hne
  clear hSS hsz hcd CI2 CI3 hD2 hD3 hne CN
  go_enter Try.func9, Try.ntmps9
  go_wp2_with fail
  with_reducible refine (CN'.out _).mono ?_
  rintro e w1 ⟨rfl, hb⟩
  have HB1 := Lib.hid hb
  clear hb
  go_wp2_with fail
  with_reducible refine (CS.out _).mono ?_
  rintro e w2 ⟨a, c, rfl, hr, hb⟩
  have HB2 := Lib.hid (HB1.out.trans (hb.mono HB1.out.size))
  have HR2 := Lib.hid hr
  clear hr hb
  go_wp2_with fail
  with_reducible refine (CO1.out a c _ (HR2.out.go ((Below.refl _ _).alloc (Nat.le_refl _) _))).mono ?_
  rintro e w3 ⟨rfl, hb⟩
  have HX := Lib.hid ((hb.block w2.heap.size (by simp)).trans (heap_alloc_new w2 (.cells #[.int .u64 7, .int .u64 1, .slice a 1 c] 31)))
  have HR3 := Lib.hid (HR2.out.go (((Below.refl w2.heap.size w2).alloc (Nat.le_refl _) (.cells #[.int .u64 7, .int .u64 1, .slice a 1 c] 31)).trans (hb.mono (by simp))))
  have HB3 := Lib.hid ((HB2.out.alloc HB2.out.size (.cells #[.int .u64 7, .int .u64 1, .slice a 1 c] 31)).trans (hb.mono (by have := HB2.out.size; simp; omega)))
  have x0 : w3.cell? ⟨w2.heap.size, 0, none⟩ = _ := Lib.cell_of_heap HX.out 0
  have x1 : w3.cell? ⟨w2.heap.size, 1, none⟩ = _ := Lib.cell_of_heap HX.out 1
  have x2 : w3.cell? ⟨w2.heap.size, 2, none⟩ = _ := Lib.cell_of_heap HX.out 2
  clear hb
  go_wp2_with fail
  with_reducible refine (CO0.out a c _ HR3.out).mono ?_
  rintro e w4 ⟨rfl, hb⟩
  have HB4 := Lib.hid (HB3.out.trans (hb.mono HB3.out.size))
  clear hb
  go_wp2_with fail
  with_reducible refine (CC.out _).mono ?_
  rintro e w5 ⟨rfl, rfl⟩
  go_wp2_with fail
  with_reducible refine (CI2'.out _).mono ?_
  rintro e w5 ⟨rfl, hb⟩
  have HB5 := Lib.hid (HB4.out.trans (hb.mono HB4.out.size))
  clear hb
  go_wp2_with fail
  with_reducible refine (CI3'.out _).mono ?_
  rintro e w6 ⟨rfl, hb⟩
  have HB6 := Lib.hid (HB5.out.trans (hb.mono HB5.out.size))
  clear hb
  go_wp2_with fail
  go_ret
  exact ⟨rfl, HB6.out⟩
end Go.Proofs.Ytffjnfoleofffaa.Id
