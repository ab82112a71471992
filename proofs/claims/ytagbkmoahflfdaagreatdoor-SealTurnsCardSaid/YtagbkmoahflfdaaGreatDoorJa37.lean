/- The walks of layer 8: the document's Label, Extract, and what they make. · The walks of layer 8: the document's Extract, of, Of, Next, Shared, Reset. -/
import Derived.Test.YtagbkmoahflfdaaGreatDoorJa36
namespace Go.Proofs.YtagbkmoahflfdaaGreatDoor.Kd
set_option maxRecDepth 20000
open Go.RowKit
open Go.Proofs.YtagbkmoahflfdaaGreatDoor.Dg
open Go.Proofs.YtagbkmoahflfdaaGreatDoor.Vm (fx fx_length vfixed)
set_option linter.unusedVariables false
set_option linter.unusedSimpArgs false

theorem fx_two (n : Nat) : fx (n / 256) 1 ++ fx (n % 256) 1 = fx n 2 := by
  have e : ∀ x, UInt8.ofNat (x % 256 % 256) = UInt8.ofNat (x % 256) := by intro x; rw [Nat.mod_mod]
  simp [fx]
theorem inf_parts (label ctx : List UInt8) (n : Nat) : fx (n / 256) 1 ++ fx (n % 256) 1 ++ fx (label.length + 6) 1 ++ tls ++ label ++ fx ctx.length 1 ++ ctx = inf label ctx n := by
  have e : (tls ++ label).length = label.length + 6 := by rw [List.length_append, Nat.add_comm]; rfl
  rw [fx_two]
  unfold inf cnt
  rw [e]
  simp only [List.append_assoc]
theorem app7 (a b c d e f g : List UInt8) : (⟨a.toArray⟩ : ByteArray) ++ ⟨b.toArray⟩ ++ ⟨c.toArray⟩ ++ ⟨d.toArray⟩ ++ ⟨e.toArray⟩ ++ ⟨f.toArray⟩ ++ ⟨g.toArray⟩ = ⟨(a ++ b ++ c ++ d ++ e ++ f ++ g).toArray⟩ := by rw [app_two, app_two, app_two, app_two, app_two, app_two]
set_option maxHeartbeats 8000000 in
theorem label_ref (k label ctx : List UInt8) (n : Int) (w : World) (hk : k.length ≤ 100000) (hl : label.length ≤ 4000000) (hc : ctx.length ≤ 4000000) :
    Calls Tryz.prog 77 #[.string ⟨k.toArray⟩, .string ⟨label.toArray⟩, .string ⟨ctx.toArray⟩, .int .i64 n] w fun e w' => e = lbP k label ctx n ∧ Below w.heap.size w w' := by
  obtain ⟨ks, hks0⟩ : ∃ ks : ByteArray, ⟨k.toArray⟩ = ks := ⟨_, rfl⟩
  obtain ⟨ls, hls0⟩ : ∃ ls : ByteArray, ⟨label.toArray⟩ = ls := ⟨_, rfl⟩
  obtain ⟨cs, hcs0⟩ : ∃ cs : ByteArray, ⟨ctx.toArray⟩ = cs := ⟨_, rfl⟩
  have hls : ls.size = label.length := by rw [← hls0]; rfl
  have hcs : cs.size = ctx.length := by rw [← hcs0]; rfl
  by_cases hg : (0 ≤ n ∧ n ≤ 8160) ∧ label.length ≤ 249 ∧ ctx.length ≤ 255
  · obtain ⟨hn, hl2, hc2⟩ := hg
    obtain ⟨m, rfl⟩ : ∃ m : Nat, n = (m : Int) := ⟨n.toNat, by omega⟩
    have hm : m ≤ 8160 := by omega
    have hmi : (m : Int) ≤ 8160 := by omega
    have hm0 : (0 : Int) ≤ (m : Int) := by omega
    have i1 : (label.length : Int) ≤ 249 := by omega
    have i2 : (ctx.length : Int) ≤ 255 := by omega
    have hil := inf_len label ctx m
    have HE : Hid (lbP k label ctx m = exP k (inf label ctx m) m) := Lib.hid (by rw [lbP_yes k label ctx m hm hl2 hc2, exP_yes k _ m hm]; rfl)
    have CE := Lib.hid (fun W => expand_ref k (inf label ctx m) m W hk (by omega))
    rw [← inf_parts, ← app7, hks0, hls0, hcs0] at CE
    rw [HE.out, ← inf_parts, exP_yes k _ m hm]
    rw [exP_yes k _ m hm] at CE
    generalize exq (ko k) (ki k) (fx (m / 256) 1 ++ fx (m % 256) 1 ++ fx (label.length + 6) 1 ++ tls ++ label ++ fx ctx.length 1 ++ ctx) m = X at *
    obtain ⟨q, hq⟩ : ∃ q, m / 256 = q := ⟨_, rfl⟩
    obtain ⟨r, hr⟩ : ∃ r, m % 256 = r := ⟨_, rfl⟩
    obtain ⟨p, hp⟩ : ∃ p, label.length + 6 = p := ⟨_, rfl⟩
    rw [hq, hr, hp] at CE
    have e1 : (m : Int) / 256 = (q : Int) := by omega
    have e1' : (m : Int).tdiv 256 = (q : Int) := by rw [Int.tdiv_eq_ediv_of_nonneg (by omega)]; exact e1
    have e2 : (m : Int) % 256 = (r : Int) := by omega
    have e2' : (m : Int).tmod 256 = (r : Int) := by rw [Int.tmod_eq_emod_of_nonneg (by omega)]; exact e2
    have e3 : (label.length : Int) + 6 = (p : Int) := by omega
    have B1 := Lib.hid (fun W => byteOf_ref q W (by omega))
    have B2 := Lib.hid (fun W => byteOf_ref r W (by omega))
    have B3 := Lib.hid (fun W => byteOf_ref p W (by omega))
    have B4 := Lib.hid (fun W => byteOf_ref ctx.length W (by omega))
    have f1 : (fx q 1).length = 1 := fx_length _ _
    have f2 : (fx r 1).length = 1 := fx_length _ _
    have f3 : (fx p 1).length = 1 := fx_length _ _
    have f4 : (fx ctx.length 1).length = 1 := fx_length _ _
    obtain ⟨s1, h1⟩ : ∃ s : ByteArray, ⟨(fx q 1).toArray⟩ = s := ⟨_, rfl⟩
    obtain ⟨s2, h2⟩ : ∃ s : ByteArray, ⟨(fx r 1).toArray⟩ = s := ⟨_, rfl⟩
    obtain ⟨s3, h3⟩ : ∃ s : ByteArray, ⟨(fx p 1).toArray⟩ = s := ⟨_, rfl⟩
    obtain ⟨s4, h4⟩ : ∃ s : ByteArray, ⟨(fx ctx.length 1).toArray⟩ = s := ⟨_, rfl⟩
    have z1 : s1.size = 1 := by rw [← h1]; exact f1
    have z2 : s2.size = 1 := by rw [← h2]; exact f2
    have z3 : s3.size = 1 := by rw [← h3]; exact f3
    have z4 : s4.size = 1 := by rw [← h4]; exact f4
    rw [h1, h2, h3, h4] at CE
    rw [h1] at B1
    rw [h2] at B2
    rw [h3] at B3
    rw [h4] at B4
    have CE2 : Hid (∀ W : World, Calls Tryz.prog 111 #[.string ks, .string (s1 ++ s2 ++ s3 ++ ⟨#[116, 108, 115, 49, 51, 32]⟩ ++ ls ++ s4 ++ cs), .int .i64 m] W fun e w' => e = .returned (.tuple #[.string ⟨X.toArray⟩, .int .i64 0]) ∧ Below W.heap.size W w') := CE
    have g1 : ¬ 9223372036854775807 < 9 + label.length := by omega
    have g2 : ¬ 9223372036854775807 < 9 + label.length + 1 := by omega
    have g3 : ¬ 9223372036854775807 < 9 + label.length + 1 + ctx.length := by omega
    rw [hks0, hls0, hcs0]
    clear CE HE h1 h2 h3 h4 f1 f2 f3 f4 hq hr hp hil hks0 hls0 hcs0 hn hl2 hc2
    go_enter Tryz.func77, Tryz.ntmps77
    go_wp2_with fail
    with_reducible refine (B1.out _).mono ?_
    rintro e w1 ⟨rfl, hb⟩
    have HB1 := Lib.hid hb
    clear hb
    go_wp2_with fail
    with_reducible refine (B2.out _).mono ?_
    rintro e w2 ⟨rfl, hb⟩
    have HB2 := Lib.hid (HB1.out.trans (hb.mono HB1.out.size))
    clear hb
    go_wp2_with fail
    with_reducible refine (B3.out _).mono ?_
    rintro e w3 ⟨rfl, hb⟩
    have HB3 := Lib.hid (HB2.out.trans (hb.mono HB2.out.size))
    clear hb
    go_wp2_with fail
    with_reducible refine (B4.out _).mono ?_
    rintro e w4 ⟨rfl, hb⟩
    have HB4 := Lib.hid (HB3.out.trans (hb.mono HB3.out.size))
    clear hb
    go_wp2_with fail
    with_reducible refine (CE2.out _).mono ?_
    rintro e w5 ⟨rfl, hb⟩
    have HB5 := Lib.hid (HB4.out.trans (hb.mono HB4.out.size))
    clear hb
    go_wp2
    go_ret2
    exact ⟨rfl, HB5.out⟩
  · rw [lbP_no k label ctx n hg, hks0, hls0, hcs0]
    clear hks0 hls0 hcs0
    by_cases h0 : 0 ≤ n
    · by_cases h8 : n ≤ 8160
      · by_cases hl2 : label.length ≤ 249
        · have i1 : (label.length : Int) ≤ 249 := by omega
          have i2 : ¬ (ctx.length : Int) ≤ 255 := by omega
          clear hg
          go_enter Tryz.func77, Tryz.ntmps77
          go_wp2
          go_ret2
          exact ⟨rfl, Below.refl _ _⟩
        · have i1 : ¬ (label.length : Int) ≤ 249 := by omega
          clear hg
          go_enter Tryz.func77, Tryz.ntmps77
          go_wp2
          go_ret2
          exact ⟨rfl, Below.refl _ _⟩
      · clear hg
        go_enter Tryz.func77, Tryz.ntmps77
        go_wp2
        go_ret2
        exact ⟨rfl, Below.refl _ _⟩
    · clear hg
      go_enter Tryz.func77, Tryz.ntmps77
      go_wp2
      go_ret2
      exact ⟨rfl, Below.refl _ _⟩
end Go.Proofs.YtagbkmoahflfdaaGreatDoor.Kd
namespace Go.Proofs.YtagbkmoahflfdaaGreatDoor.Kd
set_option maxRecDepth 20000
open Go.RowKit
open Go.Proofs.YtagbkmoahflfdaaGreatDoor.Dg
open Go.Proofs.YtagbkmoahflfdaaGreatDoor.Vm (fx fx_length vfixed)
set_option linter.unusedVariables false
set_option linter.unusedSimpArgs false

set_option maxHeartbeats 2000000 in
theorem of_ref (k label ctx : List UInt8) (n : Nat) (w : World) (hk : k.length ≤ 100000) (hl : label.length ≤ 249) (hc : ctx.length ≤ 255) (hn : n ≤ 8160) :
    Calls Tryz.prog 43 #[.string ⟨k.toArray⟩, .string ⟨label.toArray⟩, .string ⟨ctx.toArray⟩, .int .i64 n] w fun e w' => e = .returned (.string ⟨(lab (ko k) (ki k) label ctx n).toArray⟩) ∧ Below w.heap.size w w' := by
  have CL := Lib.hid (fun W => label_ref k label ctx n W hk (by omega) (by omega))
  rw [lbP_yes k label ctx n hn hl hc] at CL
  generalize lab (ko k) (ki k) label ctx n = X at *
  go_enter Tryz.func43, Tryz.ntmps43
  go_wp2_with fail
  with_reducible refine (CL.out _).mono ?_
  rintro e w1 ⟨rfl, hb⟩
  have HB1 := Lib.hid hb
  clear hb
  go_wp2
  go_ret
  exact ⟨rfl, HB1.out⟩
theorem inf_keysr : (Tryz.prog.info? 31).map (·.size) = some 3 := by kernel_rfl
set_option maxHeartbeats 4000000 in
theorem ofs_ref (k : List UInt8) (w : World) (hk : k.length ≤ 100000) :
    Calls Tryz.prog 15 #[.string ⟨k.toArray⟩] w fun e w' => e = .returned (.agg #[.string ⟨(kKey k).toArray⟩, .string ⟨(kIv k).toArray⟩, .string ⟨(kMask k).toArray⟩]) ∧ Below w.heap.size w w' := by
  have L1 : Hid (∀ W : World, Calls Tryz.prog 43 #[.string ⟨k.toArray⟩, .string ⟨#[113, 117, 105, 99, 32, 107, 101, 121]⟩, .string ⟨#[]⟩, .int .i64 32] W fun e w' => e = .returned (.string ⟨(kKey k).toArray⟩) ∧ Below W.heap.size W w') := Lib.hid (fun W => of_ref k [113, 117, 105, 99, 32, 107, 101, 121] [] 32 W hk (by decide) (by decide) (by decide))
  have L2 : Hid (∀ W : World, Calls Tryz.prog 43 #[.string ⟨k.toArray⟩, .string ⟨#[113, 117, 105, 99, 32, 105, 118]⟩, .string ⟨#[]⟩, .int .i64 12] W fun e w' => e = .returned (.string ⟨(kIv k).toArray⟩) ∧ Below W.heap.size W w') := Lib.hid (fun W => of_ref k [113, 117, 105, 99, 32, 105, 118] [] 12 W hk (by decide) (by decide) (by decide))
  have L3 : Hid (∀ W : World, Calls Tryz.prog 43 #[.string ⟨k.toArray⟩, .string ⟨#[113, 117, 105, 99, 32, 104, 112]⟩, .string ⟨#[]⟩, .int .i64 32] W fun e w' => e = .returned (.string ⟨(kMask k).toArray⟩) ∧ Below W.heap.size W w') := Lib.hid (fun W => of_ref k [113, 117, 105, 99, 32, 104, 112] [] 32 W hk (by decide) (by decide) (by decide))
  generalize kKey k = K1 at *
  generalize kIv k = K2 at *
  generalize kMask k = K3 at *
  go_enter Tryz.func15, Tryz.ntmps15
  go_wp2_with fail
  with_reducible refine (L1.out _).mono ?_
  rintro e w1 ⟨rfl, hb⟩
  have HZ1 : Hid (w1.heap[w.heap.size]? = some (.cells #[.string ⟨#[]⟩, .string ⟨#[]⟩, .string ⟨#[]⟩] 31 (0, 0))) := Lib.hid ((hb.block w.heap.size (by simp)).trans (heap_alloc_new w _))
  have HB1 := Lib.hid (((Below.refl w.heap.size w).alloc (Nat.le_refl _) (.cells #[.string ⟨#[]⟩, .string ⟨#[]⟩, .string ⟨#[]⟩] 31)).trans (hb.mono (by simp)))
  have hlt1 : w.heap.size < w1.heap.size := by have := hb.size; simp at this; omega
  clear hb
  go_wp2_with fail
  with_reducible refine (L2.out _).mono ?_
  rintro e w2 ⟨rfl, hb⟩
  have HZ2 := Lib.hid ((hb.block w.heap.size hlt1).trans HZ1.out)
  have HB2 := Lib.hid (HB1.out.trans (hb.mono HB1.out.size))
  have hlt2 : w.heap.size < w2.heap.size := Nat.lt_of_lt_of_le hlt1 hb.size
  clear hb
  go_wp2_with fail
  with_reducible refine (L3.out _).mono ?_
  rintro e w3 ⟨rfl, hb⟩
  have HZ3 := Lib.hid ((hb.block w.heap.size hlt2).trans HZ2.out)
  have HB3 := Lib.hid (HB2.out.trans (hb.mono HB2.out.size))
  have hz0 : w3.cell? ⟨w.heap.size, 0, none⟩ = some (.string ⟨#[]⟩) := by rw [Lib.cell_of_heap HZ3.out]; rfl
  have hz1 : w3.cell? ⟨w.heap.size, 1, none⟩ = some (.string ⟨#[]⟩) := by rw [Lib.cell_of_heap HZ3.out]; rfl
  have hz2 : w3.cell? ⟨w.heap.size, 2, none⟩ = some (.string ⟨#[]⟩) := by rw [Lib.cell_of_heap HZ3.out]; rfl
  have hf : ∀ j, w3.frozen? ⟨w.heap.size, j, none⟩ = false := fun j => Lib.frozen_of_heap HZ3.out j
  clear hb
  go_wp2_with fail
  exact bodyPost_ret (v := .agg #[.string ⟨K1.toArray⟩, .string ⟨K2.toArray⟩, .string ⟨K3.toArray⟩]) (results_cell_row Tryz.results15 _ _ w.heap.size _ _ _ _ rfl (three_put HZ3.out) Tryz.underlying31 rfl inf_keysr) rfl ⟨rfl, below_put (below_put (below_put HB3.out (Nat.le_refl _) _ _) (Nat.le_refl _) _ _) (Nat.le_refl _) _ _⟩
set_option maxHeartbeats 2000000 in
theorem next_ref (k : List UInt8) (w : World) (hk : k.length ≤ 100000) :
    Calls Tryz.prog 51 #[.string ⟨k.toArray⟩] w fun e w' => e = .returned (.string ⟨(nxt k).toArray⟩) ∧ Below w.heap.size w w' := by
  have L1 : Hid (∀ W : World, Calls Tryz.prog 43 #[.string ⟨k.toArray⟩, .string ⟨#[113, 117, 105, 99, 32, 107, 117]⟩, .string ⟨#[]⟩, .int .i64 32] W fun e w' => e = .returned (.string ⟨(nxt k).toArray⟩) ∧ Below W.heap.size W w') := Lib.hid (fun W => of_ref k [113, 117, 105, 99, 32, 107, 117] [] 32 W hk (by decide) (by decide) (by decide))
  generalize nxt k = X at *
  go_enter Tryz.func51, Tryz.ntmps51
  go_wp2_with fail
  with_reducible refine (L1.out _).mono ?_
  rintro e w1 ⟨rfl, hb⟩
  have HB1 := Lib.hid hb
  clear hb
  go_wp2
  go_ret
  exact ⟨rfl, HB1.out⟩
end Go.Proofs.YtagbkmoahflfdaaGreatDoor.Kd
