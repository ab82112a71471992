/- Layer 14: the walks of Ready, and of what is shown. By tools/gen-gather-8.py. -/
import Derived.Test.YtndnlpohdimgaaaGaH
namespace Go.Proofs.Ytndnlpohdimgaaa.Rg
set_option maxRecDepth 20000
open Go.RowKit Go.Shelf
set_option linter.unusedVariables false
set_option linter.unusedSimpArgs false

set_option maxHeartbeats 1000000 in
theorem Ready_any (T : ByteArray) (s : GS) (a : Option Addr) (cn c : Nat) (w : World) (hok : GsOk T s) (hT : T.size ≤ 900) (hr : RowG w (.slice a cn c) T s.l) :
    Calls Try.prog 10 #[.agg #[.int .u64 s.rd, .slice a cn c, .int .u64 s.fin, .bool s.kn]] w fun e w' => e = .returned (.tuple #[.int .i64 (rdy s), .bool (s.kn && decide (s.fin = s.rd + rdy s))]) ∧ Below w.heap.size w w' := by
  have hz := rdB_size hok
  have hrr := rdy_range hok
  have r0 := hok.r0
  have CR := Lib.hid (fun W h => ready_any T s (.slice a cn c) W h)
  have CE := Lib.hid (fun W => endsAt_any s (.slice a cn c) (s.rd + rdy s) W)
  obtain ⟨rd, l, fin, kn⟩ := s
  simp only at CR CE hr hrr r0 ⊢
  obtain ⟨R, hR⟩ : ∃ R, rdy ⟨rd, l, fin, kn⟩ = R := ⟨_, rfl⟩
  obtain ⟨K, hK⟩ : ∃ K, rdB T ⟨rd, l, fin, kn⟩ = K := ⟨_, rfl⟩
  rw [hK] at CR hz
  rw [hR] at CE hz hrr ⊢
  have HB0 := Lib.hid ((Below.refl w.heap.size w).alloc (Nat.le_refl _) (.cells #[.int .u64 rd, .slice a cn c, .int .u64 fin, .bool kn] 28))
  have HG0 := Lib.hid (gb_made w 28 ⟨rd, l, fin, kn⟩ (.slice a cn c))
  have HR0 := Lib.hid (hr.go HB0.out)
  have v1 : IntKind.u64.wrap R = R := IntWalk.u64_in _ (by omega)
  have v2 : IntKind.u64.wrap (rd + R) = rd + R := IntWalk.u64_in _ (by omega)
  clear hr hok hK hR
  go_enter Try.func10, Try.ntmps10
  go_wp2_with fail
  with_reducible refine (CR.out _ HR0.out).mono ?_
  rintro e w1 ⟨rfl, hb⟩
  have HG1 := Lib.hid (HG0.out.go hb)
  have HB1 := Lib.hid (nextG HB0.out hb)
  have y0 := HG1.out.c0
  have y1 := HG1.out.c1
  have y2 := HG1.out.c2
  have y3 := HG1.out.c3
  simp only at y0 y2 y3
  clear hb
  go_wp2_with fail
  with_reducible refine (CE.out _).mono ?_
  rintro e w2 ⟨rfl, hb⟩
  have HB2 := Lib.hid (nextG HB1.out hb)
  clear hb y0 y1 y2 y3
  go_wp2_with fail
  go_ret2
  exact ⟨rfl, HB2.out⟩

/-- What is put is the text's. -/
theorem piece_of {T d : ByteArray} {off : Int} (h0 : 0 ≤ off) (hd : T.extract off.toNat (off.toNat + d.size) = d) {r : Ran} (h1 : off ≤ r.1) (h2 : r.1 ≤ r.2) (h3 : r.2 < off + (d.size : Int)) : d.extract (r.1 - off).toNat (r.2 - off + 1).toNat = bt T r := by
  conv => lhs; rw [← hd]
  unfold bt
  rw [ByteArray.extract_extract, show off.toNat + (r.1 - off).toNat = r.1.toNat by omega, show min (off.toNat + (r.2 - off + 1).toNat) (off.toNat + d.size) = (r.2 + 1).toNat by omega]
def abcd : ByteArray := ⟨#[97, 98, 99, 100]⟩
theorem can_is {l : List Ran} {a b : Int} (h : Can l) (ha : 0 ≤ a) (hab : a ≤ b) (hb : b < 1000) (hm : ∀ k, mem l k ↔ a ≤ k ∧ k ≤ b) : l = [(a, b)] :=
  can_ext h (Can.single ⟨ha, hab, by simp only; omega⟩) (fun k => by rw [hm, mem_single]; rfl)
theorem can_none {l : List Ran} (h : Can l) (hm : ∀ k, ¬ mem l k) : l = [] :=
  can_ext h Can.nil (fun k => ⟨fun h => absurd h (hm k), fun h => absurd h (mem_nil k)⟩)
theorem put_1 (W : World) : Calls Try.prog 6 #[.agg #[.int .u64 0, .slice none 0 0, .int .u64 0, .bool false], .int .u64 2, .string ⟨#[99, 100]⟩, .bool true] W fun e w' => ∃ a c, e = .returned (.tuple #[.agg #[.int .u64 0, .slice a 1 c, .int .u64 4, .bool true], .int .i64 0]) ∧ RowG w' (.slice a 1 c) abcd [(2, 3)] ∧ (∀ q, Blk (.slice a 1 c) q → W.heap.size ≤ q) ∧ Below W.heap.size W w' := by
  refine (put_ok abcd ⟨0, [], 0, false⟩ none 0 0 2 ⟨#[99, 100]⟩ true 4 W (gs_zero _) (by decide) rfl (RowG.nil W abcd) (by decide) rfl (by decide) (fun _ => rfl) (fun r h1 h2 h3 _ => piece_of (by decide) (by decide) h1 h2 h3)).mono ?_
  rintro e w' ⟨a, c, l, rfl, h1, h2, h3, h5, h4⟩
  obtain rfl : l = [(2, 3)] := can_is h1.can (by decide) (by decide) (by decide) (fun k => by
    rw [h2]
    exact ⟨fun h => h.elim (fun h => absurd h (mem_nil k)) (fun h => by simp only at h; omega), fun h => .inr (by simp only; omega)⟩)
  exact ⟨a, c, rfl, h3, h5, h4⟩
theorem put_2 (a : Option Addr) (c : Nat) (W : World) (hr : RowG W (.slice a 1 c) abcd [(2, 3)]) : Calls Try.prog 6 #[.agg #[.int .u64 0, .slice a 1 c, .int .u64 4, .bool true], .int .u64 0, .string ⟨#[97, 98]⟩, .bool false] W fun e w' => ∃ a c, e = .returned (.tuple #[.agg #[.int .u64 0, .slice a 1 c, .int .u64 4, .bool true], .int .i64 0]) ∧ RowG w' (.slice a 1 c) abcd [(0, 3)] ∧ (∀ q, Blk (.slice a 1 c) q → W.heap.size ≤ q) ∧ Below W.heap.size W w' := by
  refine (put_ok abcd ⟨0, [(2, 3)], 4, true⟩ a 1 c 0 ⟨#[97, 98]⟩ false 2 W ⟨Can.single (by decide), by decide, by decide, fun x hx => (by rw [List.mem_singleton.1 hx]; decide), by decide, by decide, fun _ => rfl⟩ (by decide) rfl hr (by decide) rfl (by decide) (fun h => by cases h) (fun r h1 h2 h3 _ => piece_of (by decide) (by decide) h1 h2 h3)).mono ?_
  rintro e w' ⟨a, c, l, rfl, h1, h2, h3, h5, h4⟩
  obtain rfl : l = [(0, 3)] := can_is h1.can (by decide) (by decide) (by decide) (fun k => by
    rw [h2, mem_single]
    unfold inn
    simp only
    omega)
  exact ⟨a, c, rfl, h3, h5, h4⟩
theorem take_1 (a : Option Addr) (c : Nat) (W : World) (hr : RowG W (.slice a 1 c) abcd [(0, 3)]) : Calls Try.prog 7 #[.agg #[.int .u64 0, .slice a 1 c, .int .u64 4, .bool true], .int .i64 9] W fun e w' => ∃ a c, e = .returned (.tuple #[.agg #[.int .u64 4, .slice a 0 c, .int .u64 4, .bool true], .string ⟨#[97, 98, 99, 100]⟩, .bool true]) ∧ RowG w' (.slice a 0 c) abcd [] ∧ (∀ q, Blk (.slice a 0 c) q → W.heap.size ≤ q) ∧ Below W.heap.size W w' := by
  refine (take_any abcd ⟨0, [(0, 3)], 4, true⟩ a 1 c 9 W ⟨Can.single (by decide), by decide, by decide, fun x hx => (by rw [List.mem_singleton.1 hx]; decide), by decide, by decide, fun _ => rfl⟩ (by decide) rfl hr).mono ?_
  rintro e w' ⟨a, c, rfl, h3, h5, h4⟩
  exact ⟨a, c, rfl, h3, h5, h4⟩
set_option maxHeartbeats 4000000 in
theorem shown14_any (w : World) : Calls Try.prog 5 #[] w fun e w' => e = .returned (.bool true) ∧ Below w.heap.size w w' := by
  have P1 := Lib.hid put_1
  have P2 := Lib.hid put_2
  have P3 := Lib.hid take_1
  have hok4 : GsOk abcd ⟨4, [], 4, true⟩ := ⟨Can.nil, by decide, by decide, fun x h => (by cases h), by decide, by decide, fun _ => rfl⟩
  have P4 := Lib.hid (fun (a : Option Addr) (c : Nat) W h => put_final abcd ⟨4, [], 4, true⟩ a 0 c 4 ⟨#[120]⟩ false 5 W (by decide) rfl h (by decide) (by decide) (by decide) rfl rfl (by decide))
  have P5 := Lib.hid (fun (rd fin x : Int) (kn : Bool) (D : ByteArray) (b off c : Nat) W hc hD h1 h2 => held_one rd fin kn D x b off c W hc hD h1 h2)
  have P6 := Lib.hid (fun (a : Option Addr) (c : Nat) W h => Highest_any abcd ⟨4, [], 4, true⟩ a 0 c W hok4 (by decide) h)
  have e6 : hiS ⟨4, [], 4, true⟩ = 4 := rfl
  rw [e6] at P6
  simp only at P4 P6
  clear hok4 e6
  go_enter Try.func5, Try.ntmps5
  go_wp2_with fail
  with_reducible refine (P1.out _).mono ?_
  rintro e w1 ⟨a1, c1, rfl, r1, f1, b1⟩
  have hA := (Below.refl w1.heap.size w1).alloc (Nat.le_refl _) (.cells #[.int .u64 0, .slice a1 1 c1, .int .u64 4, .bool true] 28)
  have R1 := Lib.hid (r1.go hA)
  have B1 := Lib.hid (nextG b1 hA)
  have G1 := Lib.hid (gb_made w1 28 ⟨0, [], 4, true⟩ (.slice a1 1 c1))
  have Z1 := Lib.hid b1.size
  clear r1 b1 hA P1 f1
  go_wp2_with fail
  with_reducible refine (P2.out _ _ _ R1.out).mono ?_
  rintro e w2 ⟨a2, c2, rfl, r2, f2, b2⟩
  have G2 := Lib.hid (G1.out.go b2)
  have B2 := Lib.hid (nextG B1.out b2)
  have N2 : Hid (¬ Blk (.slice a2 1 c2) w1.heap.size) := Lib.hid (fun h => by have := f2 _ h; rw [World.size_alloc] at this; omega)
  have R3 := Lib.hid (r2.put4 N2.out (.int .u64 0) (.slice a2 1 c2) (.int .u64 4) (.bool true))
  have hbl : w1.heap.size < w2.heap.size := G2.out.lt
  have y0 := G2.out.c0
  have y1 := G2.out.c1
  have y2 := G2.out.c2
  have y3 := G2.out.c3
  simp only at y0 y2 y3
  have yf := G2.out.fz
  have G3 := Lib.hid (G2.out.put ⟨0, [], 4, true⟩ (.slice a2 1 c2))
  have B3 := Lib.hid (below_put4 B2.out (g := w1.heap.size) Z1.out (.int .u64 0) (.slice a2 1 c2) (.int .u64 4) (.bool true))
  clear r2 f2 b2 P2 G1 B1 R1 G2 B2
  simp only at G3
  go_wp2_with fail
  generalize ((((w2.setCell ⟨w1.heap.size, 0, none⟩ (.int .u64 0)).setCell ⟨w1.heap.size, 1, none⟩ (.slice a2 1 c2)).setCell ⟨w1.heap.size, 2, none⟩ (.int .u64 4)).setCell ⟨w1.heap.size, 3, none⟩ (.bool true)) = w3 at *
  clear y0 y1 y2 y3 yf hbl
  with_reducible refine (P3.out _ _ _ R3.out).mono ?_
  rintro e w4 ⟨a4, c4, rfl, r4, f4, b4⟩
  have hA := (Below.refl w4.heap.size w4).alloc (Nat.le_refl _) (.cells #[.int .u64 4, .slice a4 0 c4, .int .u64 4, .bool true] 28)
  have R4 := Lib.hid (r4.go hA)
  have G5 := Lib.hid ((G3.out.go b4).go hA)
  have RS5 := Lib.hid ((R3.out.go b4).go hA)
  have B4 := Lib.hid (nextG (nextG B3.out b4) hA)
  have G4 := Lib.hid (gb_made w4 28 ⟨4, [], 4, true⟩ (.slice a4 0 c4))
  clear r4 f4 b4 hA P3 G3 B3 R3
  go_wp2_with fail
  with_reducible refine (P4.out _ _ _ R4.out).mono ?_
  rintro e w5 ⟨a5, c5, rfl, r5, f5, b5⟩
  have hA := (Below.refl w5.heap.size w5).alloc (Nat.le_refl _) (.cells #[.int .u64 4, .slice a5 0 c5, .int .u64 4, .bool true] 28)
  have G6 := Lib.hid ((G5.out.go b5).go hA)
  have G7 := Lib.hid ((G4.out.go b5).go hA)
  have RS6 := Lib.hid ((RS5.out.go b5).go hA)
  have R6 := Lib.hid ((R4.out.go b5).go hA)
  have B6 := Lib.hid (nextG (nextG B4.out b5) hA)
  clear r5 f5 b5 hA P4 G5 RS5 B4 G4 R4
  have x0 := G6.out.c0
  have x1 := G6.out.c1
  have x2 := G6.out.c2
  have x3 := G6.out.c3
  simp only at x0 x2 x3
  have hrow := RS6.out
  obtain ⟨a', c', e, hcc, hrow⟩ := hrow
  obtain ⟨b, off, e1, hb, hcell⟩ := hrow (by simp)
  obtain ⟨rfl, rfl⟩ : a2 = a' ∧ c2 = c' := by injection e with h1 h2 h3; exact ⟨h1, h3⟩
  subst e1
  have k0 := hcell 0 (by simp) 0 (by decide)
  have k1 := hcell 0 (by simp) 1 (by decide)
  simp only [gcs, Nat.zero_mul, Nat.zero_add, Nat.add_zero] at k0 k1
  have hz : (bt abcd (0, 3)).size = 4 := by decide
  have CH := Lib.hid (held_one 0 4 true (bt abcd (0, 3)) 0 b off c2 _ hcc (by omega) k0 k1)
  rw [hz] at CH
  clear hrow e hcell k0 k1 hz hcc
  go_wp2_with fail
  with_reducible refine CH.out.mono ?_
  rintro e w7 ⟨rfl, b7⟩
  have G8 := Lib.hid (G7.out.go b7)
  have R8 := Lib.hid (R6.out.go b7)
  have B8 := Lib.hid (nextG B6.out b7)
  have j0 := G8.out.c0
  have j1 := G8.out.c1
  have j2 := G8.out.c2
  have j3 := G8.out.c3
  simp only at j0 j2 j3
  clear x0 x1 x2 x3 b7 CH
  go_wp2_with fail
  with_reducible refine (P6.out _ _ _ R8.out).mono ?_
  rintro e w8 ⟨rfl, b8⟩
  have B9 := Lib.hid (nextG B8.out b8)
  clear b8
  go_wp2_with fail
  go_ret
  exact ⟨rfl, B9.out⟩
end Go.Proofs.Ytndnlpohdimgaaa.Rg
