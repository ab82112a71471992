/- The walks of layer 7: the document's text with what stands behind it. -/
import Derived.Test.YthjphechdhbenaaDgW
namespace Go.Proofs.Ythjphechdhbenaa.Dg
set_option maxRecDepth 20000
open Go.RowKit
set_option linter.unusedVariables false
set_option linter.unusedSimpArgs false

def l8 (n : Nat) : List UInt8 := bes [8 * n / 4294967296, 8 * n % 4294967296]
theorem l8_step (n j : Nat) (hn : n ≤ 100000) (hj : j < 8) : (l8 n).take (j + 1) = (l8 n).take j ++ [UInt8.ofNat (8 * n / 2 ^ (8 * (7 - j)) % 256)] := by
  have h0 : 8 * n / 4294967296 = 0 := by omega
  have h1 : 8 * n % 4294967296 = 8 * n := by omega
  unfold l8
  rw [h0, h1]
  have e : ∀ x, UInt8.ofNat (x % 256) = UInt8.ofNat x := by
    intro x
    apply UInt8.toNat_inj.1
    simp [UInt8.toNat_ofNat']
  have : j = 0 ∨ j = 1 ∨ j = 2 ∨ j = 3 ∨ j = 4 ∨ j = 5 ∨ j = 6 ∨ j = 7 := by omega
  have g : ∀ k, 32 ≤ k → 8 * n / 2 ^ k = 0 := by
    intro k hk
    apply Nat.div_eq_of_lt
    have : 2 ^ 32 ≤ 2 ^ k := Nat.pow_le_pow_right (by decide) hk
    omega
  rcases this with rfl | rfl | rfl | rfl | rfl | rfl | rfl | rfl <;> rw [e] <;> first | (rw [g _ (by decide)]; rfl) | rfl | (simp [bes, be])
theorem l8_len (n : Nat) : (l8 n).length = 8 := rfl
theorem zs_stop (n k : Nat) (hk : k ≤ zs n) : ((n + 1 + k) % 64 = 56 ↔ k = zs n) := by
  unfold zs at *
  omega
theorem pad_eq (l : List UInt8) : pad l = l ++ [128] ++ List.replicate (zs l.length) 0 ++ l8 l.length := rfl
theorem rep_step (l : List UInt8) (k : Nat) : l ++ [128] ++ List.replicate (k + 1) 0 = (l ++ [128] ++ List.replicate k 0) ++ [0] := by
  rw [List.replicate_succ', List.append_assoc, List.append_assoc, List.append_assoc]
theorem one_cell (W : World) (x : UInt8) : ∀ j u, (Lib.byteCells [x])[j]? = some u → (W.alloc (.cells #[.int .u8 (x.toNat : Nat)] 5)).cell? ((⟨W.heap.size, 0, none⟩ : Addr).add j) = some u := by
  intro j u hu
  cases j with
  | zero =>
    simp only [Lib.byteCells, List.map_cons, List.map_nil, List.getElem?_cons_zero, Option.some.injEq] at hu
    subst hu
    simp [Addr.add, go_sem]
  | succ j => simp [Lib.byteCells] at hu
theorem OwnM.alloc {w : World} {B : Nat} {v : Value} {l : List UInt8} (h : OwnM w B v l) (o : Obj) : OwnM (w.alloc o) B v l := h.keep ((Below.refl _ _).alloc (Nat.le_refl _) _)
def slLen : Value → Nat
  | .slice _ n _ => n
  | _ => 0
/-- One byte more. -/
theorem push_M (w : World) (B : Nat) (ty : TypeId) (g n c : Nat) (l : List UInt8) (x : UInt8) (hn : n = l.length) (h : OwnM w B (.slice (some ⟨g, 0, none⟩) n c) l) (hl : l.length ≤ 900000) (hbase : B ≤ w.heap.size) :
    ∃ g' c' w', (Builtin.append_ #[60, 60] ty #[.slice (some ⟨g, 0, none⟩) n c, .slice (some ⟨w.heap.size, 0, none⟩) 1 1]).run Try.prog (w.alloc (.cells #[.int .u8 (x.toNat : Nat)] 5)) = .ok (.slice (some ⟨g', 0, none⟩) (n + 1) c') w' ∧
      OwnM w' B (.slice (some ⟨g', 0, none⟩) (n + 1) c') (l ++ [x]) ∧ Below B w w' := by
  obtain ⟨i0, hi, hz0, hz1, hz2⟩ := info_parts Bld.infoB
  have hlt : B ≤ g := by subst hn; exact h.lt.1
  obtain ⟨g', c', w', h1, h2, h3⟩ := run_append_M (w.alloc (.cells #[.int .u8 (x.toNat : Nat)] 5)) B i0 ty hi hz0 hz1 hz2 g n c l [x] hn (h.alloc _) ⟨w.heap.size, 0, none⟩ 1 1 rfl (one_cell w x) (by simp; omega) (by simp; omega)
  rw [List.length_append, ← hn] at h1 h2
  refine ⟨g', c', w', h1, h2, ((Below.refl _ _).alloc hbase _).grown h3 (by simp; omega) (fun k hk => by cases hk; exact hlt)⟩

set_option maxHeartbeats 4000000 in
theorem filled_ref (s : ByteArray) (w : World) (hs : s.size ≤ 100000) :
    Calls Try.prog 40 #[.string s] w fun e w' => e = .returned (.string ⟨(pad s.data.toList).toArray⟩) ∧ Below w.heap.size w w' := by
  have hls : s.data.toList.length = s.size := by simp
  obtain ⟨c0, w1, hconv, hb1, ho1⟩ := bytes_own w s (by omega)
  obtain ⟨Z, hZ⟩ : ∃ Z, zs s.size = Z := ⟨_, rfl⟩
  have hZ64 : Z ≤ 63 := by rw [← hZ]; unfold zs; omega
  have HST := Lib.hid (fun k hk => zs_stop s.size k hk)
  have HP := Lib.hid (pad_eq s.data.toList)
  rw [hls, hZ] at HP
  rw [hZ] at HST
  have HL8 := Lib.hid (fun j hj => l8_step s.size j hs hj)
  have HLS := Lib.hid hls
  have hsi : (s.size : Int) ≤ 100000 := by omega
  obtain ⟨g1, c1, w2, ha, ho2, hb2⟩ := push_M w1 w.heap.size 60 w.heap.size s.size c0 s.data.toList 128 hls.symm ho1 (by omega) hb1.size
  have HA := Lib.hid ha
  have HO2 := Lib.hid ho2
  have HB2 := Lib.hid (hb1.trans hb2)
  have hs2 := (hb1.trans hb2).size
  clear ha ho2 hb1 hb2 ho1 hZ hls
  go_enter Try.func40, Try.ntmps40
  go_wp2_with (at_builtin; refine Lib.wpList_append_run _ rfl _ _ _ _ rfl _ _ rfl rfl _ _ HA.out ?_)
  go_loopw [3] (fun bv wr => ∃ (k g c : Nat), k ≤ Z ∧ bv = .slice (some ⟨g, 0, none⟩) (s.size + 1 + k) c ∧ OwnM wr w.heap.size (.slice (some ⟨g, 0, none⟩) (s.size + 1 + k) c) (s.data.toList ++ [128] ++ List.replicate k 0) ∧ Below w.heap.size w wr) (fun bv _ => s.size + 1 + Z - slLen bv)
  case atStart => exact ⟨0, g1, c1, Nat.zero_le _, rfl, by simpa using HO2.out, HB2.out⟩
  case round =>
    clear HO2 HB2 HA hs2
    obtain ⟨k, g, c, hk, rfl, hO, hB⟩ := hrel
    have HO := Lib.hid hO
    have HB := Lib.hid hB
    have hsz := hB.size
    have hstop := HST.out k hk
    clear hO hB
    obtain ⟨n, hn⟩ : ∃ n, s.size + 1 + k = n := ⟨_, rfl⟩
    rw [hn] at HO hstop
    rw [hn]
    have hn1 : n ≤ 200000 := by omega
    have HN := Lib.hid hn
    clear hn
    by_cases hlt : k < Z
    · have hne : ¬ ((n : Int) % 64 = 56) := by omega
      obtain ⟨g2, c2, w3, ha, ho3, hb3⟩ := push_M wr w.heap.size 60 g n c _ 0 (by have := HN.out; have := HLS.out; simp only [List.length_append, List.length_replicate, List.length_cons, List.length_nil]; omega) HO.out (by have := HN.out; have := HLS.out; simp only [List.length_append, List.length_replicate, List.length_cons, List.length_nil]; omega) hsz
      have HA := Lib.hid ha
      have HO3 := Lib.hid ho3
      have HB3 := Lib.hid (HB.out.trans hb3)
      clear ha ho3 hb3 hstop HB
      go_wp2_with (at_builtin; refine Lib.wpList_append_run _ rfl _ _ _ _ rfl _ _ rfl rfl _ _ HA.out ?_)
      go_roundw
      case rel => exact ⟨k + 1, g2, c2, by omega, by rw [← HN.out, Nat.add_assoc], by rw [rep_step, ← Nat.add_assoc, HN.out]; exact HO3.out, HB3.out⟩
      case measure => have := HN.out; simp [slLen]; omega
    · obtain rfl : k = Z := by omega
      have heq : (n : Int) % 64 = 56 := by omega
      obtain ⟨X, hX⟩ : ∃ X, s.data.toList ++ [128] ++ List.replicate k 0 = X := ⟨_, rfl⟩
      rw [hX] at HO HP
      have hXl : X.length = n := by have := HN.out; have := HLS.out; rw [← hX]; simp only [List.length_append, List.length_replicate, List.length_cons, List.length_nil]; omega
      have HXL := Lib.hid hXl
      clear hX hXl hstop
      go_wp2
      go_loopw [3, 4] (fun bv iv wx => ∃ (j g c : Nat), j ≤ 8 ∧ iv = .int .i64 (7 - (j : Int)) ∧ bv = .slice (some ⟨g, 0, none⟩) (n + j) c ∧ OwnM wx w.heap.size (.slice (some ⟨g, 0, none⟩) (n + j) c) (X ++ (l8 s.size).take j) ∧ Below w.heap.size w wx) (fun _ iv _ => (intOf iv + 1).toNat)
      case atStart => exact ⟨0, g, c, Nat.zero_le _, rfl, rfl, by simpa using HO.out, HB.out⟩
      case round =>
        clear HO HB hsz
        obtain ⟨j, g, c, hj, rfl, rfl, hO, hB⟩ := hrel
        have HO := Lib.hid hO
        have HB := Lib.hid hB
        have hsz := hB.size
        clear hO hB
        by_cases hj8 : j < 8
        · obtain ⟨m, hm⟩ : ∃ m, 7 - j = m := ⟨_, rfl⟩
          have him : 7 - (j : Int) = (m : Int) := by omega
          have HS := Lib.hid (HL8.out j hj8)
          rw [hm] at HS
          obtain ⟨E, hE⟩ : ∃ E, 8 * m = E := ⟨_, rfl⟩
          rw [hE] at HS
          have hE1 : E ≤ 56 := by omega
          have CP := Lib.hid (fun w => power_ref E w (by omega))
          have e1 : (8 : Int) * (m : Int) = (E : Int) := by omega
          have e1' : IntKind.i64.wrap (E : Int) = (E : Int) := by rw [IntWalk.i64_in _ (by omega)]
          have hp0 : 1 ≤ 2 ^ E := Nat.one_le_two_pow
          obtain ⟨P, hP⟩ : ∃ P, 2 ^ E = P := ⟨_, rfl⟩
          rw [hP] at HS CP hp0
          obtain ⟨M, hM⟩ : ∃ M, 8 * s.size = M := ⟨_, rfl⟩
          rw [hM] at HS
          have hM1 : M ≤ 800000 := by omega
          have e2 : IntKind.u64.wrap (s.size : Int) = (s.size : Int) := by rw [IntKind.wrap_u64]; omega
          have e3 : (s.size : Int) * 8 = (M : Int) := by omega
          have e3' : IntKind.u64.wrap (M : Int) = (M : Int) := by rw [IntKind.wrap_u64]; omega
          obtain ⟨D, hD⟩ : ∃ D, M / P = D := ⟨_, rfl⟩
          rw [hD] at HS
          have hD1 : D ≤ 800000 := by have := Nat.div_le_self M P; omega
          have e4 : (M : Int) / (P : Int) = (D : Int) := by rw [← hD]; push_cast; rfl
          have e4' : (M : Int).tdiv (P : Int) = (D : Int) := by rw [Int.tdiv_eq_ediv_of_nonneg (by omega)]; exact e4
          have e4'' : IntKind.u64.wrap (D : Int) = (D : Int) := by rw [IntKind.wrap_u64]; omega
          obtain ⟨R, hR⟩ : ∃ R, D % 256 = R := ⟨_, rfl⟩
          rw [hR] at HS
          have hR1 : R < 256 := by omega
          have e5 : (D : Int) % 256 = (R : Int) := by omega
          have e5' : (D : Int).tmod 256 = (R : Int) := by rw [Int.tmod_eq_emod_of_nonneg (by omega)]; exact e5
          have e6 : IntKind.u8.wrap (R : Int) = (R : Int) := by rw [IntKind.wrap_u8]; omega
          have e6' : (R : Int) % 256 = (R : Int) := by omega
          have e7 : (UInt8.ofNat R).toNat = R := by rw [UInt8.toNat_ofNat', Nat.mod_eq_of_lt (by omega)]
          have hPne : ((P : Int) == 0) = false := by rw [beq_eq_false_iff_ne]; omega
          have hXj : n + j = (X ++ (l8 s.size).take j).length := by rw [List.length_append, HXL.out, List.length_take, l8_len]; omega
          obtain ⟨g2, c2, w3, ha, ho3, hb3⟩ := push_M wr w.heap.size 60 g (n + j) c _ (UInt8.ofNat R) hXj HO.out (by omega) hsz
          rw [e7] at ha
          rw [List.append_assoc, ← HS.out] at ho3
          have HA := Lib.hid ha
          have HO3 := Lib.hid ho3
          have HB3 := Lib.hid (HB.out.trans hb3)
          have HM := Lib.hid hm
          clear ha ho3 hb3 HB hXj e7 hE hD hM hP hR hm HS heq
          rw [him]
          go_wp2_with (first | (go_at_call 42; (with_reducible refine (CP.out _).mono ?_); rintro e w4 ⟨rfl, rfl⟩) | (at_builtin; refine Lib.wpList_append_run _ rfl _ _ _ _ rfl _ _ rfl rfl _ _ HA.out ?_))
          go_roundw
          case rel => exact ⟨j + 1, g2, c2, by omega, by have := HM.out; go_num, rfl, HO3.out, HB3.out⟩
          case measure => have := HM.out; simp [intOf]
        · obtain rfl : j = 8 := by omega
          have hc : (convert 60 9 (.slice (some ⟨g, 0, none⟩) (n + 8) c)).run Try.prog wr = .ok (.string ⟨(pad s.data.toList).toArray⟩) wr := by
            rw [HP.out]
            have h := HO.out
            rw [List.take_of_length_le (by rw [l8_len]; exact Nat.le_refl _)] at h
            exact conv_ownM _ (by rw [List.length_append, HXL.out, l8_len]) h
          clear HO
          go_wp2
          go_ret
          exact ⟨rfl, HB.out⟩
end Go.Proofs.Ythjphechdhbenaa.Dg
