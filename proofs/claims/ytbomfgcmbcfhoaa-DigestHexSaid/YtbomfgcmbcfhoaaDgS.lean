/- The walks of layer 7: Unhex. -/
import Derived.Test.YtbomfgcmbcfhoaaDgR
namespace Go.Proofs.Ytbomfgcmbcfhoaa.Dg
open Go.RowKit
set_option linter.unusedVariables false
set_option linter.unusedSimpArgs false

def ix (c : UInt8) : Int := Lib.indexByte [48, 49, 50, 51, 52, 53, 54, 55, 56, 57, 97, 98, 99, 100, 101, 102] c
def ux1 (a b : UInt8) : Option UInt8 := if ix a < 0 ∨ ix b < 0 then none else some (UInt8.ofNat ((ix a).toNat * 16 + (ix b).toNat))
def uxL : List UInt8 → Option (List UInt8)
  | [] => some []
  | [_] => none
  | a :: b :: t => (ux1 a b).bind fun c => (uxL t).map (c :: ·)
theorem ix_range (c : UInt8) : -1 ≤ ix c ∧ ix c ≤ 15 := by
  have h : ∀ n : Fin 256, -1 ≤ ix (UInt8.ofNat n.val) ∧ ix (UInt8.ofNat n.val) ≤ 15 := by decide +kernel
  have := h ⟨c.toNat, c.toNat_lt⟩
  simpa using this
theorem or16 : ∀ P : Fin 16, ∀ Q : Fin 16, bits .or .i64 ((P.val : Int) * 16) (Q.val : Int) = ((P.val * 16 + Q.val : Nat) : Int) := by decide +kernel
theorem index_ix (c : UInt8) (w : World) : Calls Try.prog 27 #[.string ⟨#[48, 49, 50, 51, 52, 53, 54, 55, 56, 57, 97, 98, 99, 100, 101, 102]⟩, .int .u8 (c.toNat : Nat)] w fun e w' => e = .returned (.int .i64 (ix c)) ∧ w' = w := by
  have h := Try.strings_IndexByte ⟨#[48, 49, 50, 51, 52, 53, 54, 55, 56, 57, 97, 98, 99, 100, 101, 102]⟩ ((c.toNat : Nat) : Int) w
  have e : (((c.toNat : Nat) : Int).toNat).toUInt8 = c := by simp
  rw [e] at h
  exact h
def UxPost (l : List UInt8) (w : World) (e : Ending) (w' : World) : Prop :=
  ((∃ X, uxL l = some X ∧ e = .returned (.tuple #[.string ⟨X.toArray⟩, .bool true])) ∨ (uxL l = none ∧ e = .returned (.tuple #[.string ⟨#[]⟩, .bool false]))) ∧ Below w.heap.size w w'
theorem ux_odd (l : List UInt8) : l.length % 2 = 1 → uxL l = none := by
  match l with
  | [] => intro h; simp at h
  | [_] => intro _; rfl
  | a :: b :: t =>
    intro h
    have ih := ux_odd t (by simp at h; omega)
    rw [uxL, ih]
    cases ux1 a b <;> rfl
theorem ux_cut (l : List UInt8) (k : Nat) (x y : UInt8) (hx : l[k]? = some x) (hy : l[k + 1]? = some y) : uxL (l.drop k) = (ux1 x y).bind fun c => (uxL (l.drop (k + 2))).map (c :: ·) := by
  obtain ⟨h1, e1⟩ := List.getElem?_eq_some_iff.1 hx
  obtain ⟨h2, e2⟩ := List.getElem?_eq_some_iff.1 hy
  rw [List.drop_eq_getElem_cons h1, List.drop_eq_getElem_cons h2, e1, e2, uxL]
set_option maxRecDepth 20000 in
set_option maxHeartbeats 4000000 in
theorem unhex_any (s : ByteArray) (w : World) (hs : s.size ≤ 100000) : Calls Try.prog 13 #[.string s] w (UxPost s.data.toList w) := by
  have hls : s.data.toList.length = s.size := by simp
  have HLS := Lib.hid hls
  have HS0 := Lib.hid hs
  have hsi : (s.size : Int) ≤ 100000 := by omega
  by_cases hodd : s.size % 2 = 1
  · have e1 : (s.size : Int) % 2 = 1 := by omega
    have HU := Lib.hid (ux_odd s.data.toList (by rw [hls]; exact hodd))
    clear hls hs hodd
    go_enter Try.func13, Try.ntmps13
    go_wp2
    go_ret2
    exact ⟨.inr ⟨HU.out, rfl⟩, Below.refl _ _⟩
  · obtain ⟨n, hn⟩ : ∃ n, s.size = 2 * n := ⟨s.size / 2, by omega⟩
    have e1 : (s.size : Int) % 2 = 0 := by omega
    have HB := Lib.hid (Lib.fresh_isBuilder 52 5 w)
    have hn1 : (s.size : Int) = 2 * (n : Int) := by omega
    have HN := Lib.hid hn
    clear hls hs hodd hn1 hn
    go_enter Try.func13, Try.ntmps13
    go_wp2
    clear e1
    go_loopw [5] (fun iv wr => ∃ (k : Nat) (X : List UInt8), k ≤ n ∧ iv = .int .i64 (2 * k : Nat) ∧ X.length = k ∧ IB w.heap.size (Lib.byteCells X) wr ∧ uxL s.data.toList = (uxL (s.data.toList.drop (2 * k))).map (X ++ ·) ∧ Below w.heap.size w wr) (fun iv _ => s.size - (intOf iv).toNat)
    case atStart => exact ⟨0, [], Nat.zero_le _, rfl, rfl, HB.out, by simp, (Below.refl _ _).alloc (Nat.le_refl _) _⟩
    case round =>
      obtain ⟨k, X, hk, rfl, hXl, hI, hU, hb⟩ := hrel
      have HI := Lib.hid hI
      have HU := Lib.hid hU
      have hsz := hb.size
      have HBr := Lib.hid hb
      clear hI hU hb
      by_cases hlt : k < n
      · have hn := HN.out
        obtain ⟨i, hi⟩ : ∃ i, 2 * k = i := ⟨_, rfl⟩
        have h0 : i < s.size := by omega
        have h1 : i + 1 < s.size := by omega
        obtain ⟨x, hx⟩ : ∃ x, s[i] = x := ⟨_, rfl⟩
        obtain ⟨y, hy⟩ : ∃ y, s[i + 1] = y := ⟨_, rfl⟩
        have hgx : s.data.toList[i]? = some x := by
          rw [List.getElem?_eq_getElem (by rw [HLS.out]; exact h0), ← hx]; rfl
        have hgy : s.data.toList[i + 1]? = some y := by
          rw [List.getElem?_eq_getElem (by rw [HLS.out]; exact h1), ← hy]; rfl
        have HC := Lib.hid (ux_cut s.data.toList i x y hgx hgy)
        have hrx := ix_range x
        have hry := ix_range y
        have CX := Lib.hid (fun W => index_ix x W)
        have CY := Lib.hid (fun W => index_ix y W)
        have HUX : Hid (ux1 x y = if ix x < 0 ∨ ix y < 0 then none else some (UInt8.ofNat ((ix x).toNat * 16 + (ix y).toNat))) := Lib.hid rfl
        rw [hi]
        have HIK := Lib.hid hi
        have b1 : (0 : Int) ≤ (i : Int) := by omega
        have b2 : (i : Int) < (s.size : Int) := by omega
        have b3 : IntKind.i64.wrap ((i : Int) + 1) = (i : Int) + 1 := by rw [IntWalk.i64_in _ (by omega)]
        have b4 : (i : Int) + 1 < (s.size : Int) := by omega
        have b5 : ((i : Int) + 1).toNat = i + 1 := by omega
        clear hgx hgy
        clear hn hi
        generalize ix x = p at hrx CX HUX
        generalize ix y = q at hry CY HUX
        go_wp2
        go_quiet (first | (go_at_call 27; exact Calls.quiet_of_same (CX.out _)) | (go_at_call 27; exact Calls.quiet_of_same (CY.out _)))
        have HIw : Hid (IB w.heap.size (Lib.byteCells X) (wr.drewN nq)) := Lib.hid (show IB w.heap.size (Lib.byteCells X) wr from HI.out)
        have HBw := Lib.hid (below_drewN HBr.out nq)
        have hsw : w.heap.size ≤ (wr.drewN nq).heap.size := hsz
        generalize wr.drewN nq = W at HIw HBw hsw ⊢
        by_cases hp : p < 0
        · have HF : Hid (uxL s.data.toList = none) := Lib.hid (by rw [HU.out, HIK.out, HC.out, HUX.out, if_pos (.inl hp)]; rfl)
          go_wp2
          go_ret2
          exact ⟨.inr ⟨HF.out, rfl⟩, HBw.out⟩
        · by_cases hq : q < 0
          · have HF : Hid (uxL s.data.toList = none) := Lib.hid (by rw [HU.out, HIK.out, HC.out, HUX.out, if_pos (.inr hq)]; rfl)
            go_wp2
            go_ret2
            exact ⟨.inr ⟨HF.out, rfl⟩, HBw.out⟩
          · obtain ⟨P, rfl⟩ := Int.eq_ofNat_of_zero_le (show 0 ≤ p by omega)
            obtain ⟨Q, rfl⟩ := Int.eq_ofNat_of_zero_le (show 0 ≤ q by omega)
            have hP : P < 16 := by omega
            have hQ : Q < 16 := by omega
            have eo := or16 ⟨P, hP⟩ ⟨Q, hQ⟩
            simp only at eo
            obtain ⟨N, hN⟩ : ∃ N, P * 16 + Q = N := ⟨_, rfl⟩
            rw [hN] at eo
            have hN1 : N < 256 := by omega
            have ec : (N : Int) % 256 = (N : Int) := by omega
            have HU2 : Hid (uxL s.data.toList = (uxL (s.data.toList.drop (2 * (k + 1)))).map ((X ++ [UInt8.ofNat N]) ++ ·)) := Lib.hid (by
              rw [HU.out, HIK.out, HC.out, HUX.out, if_neg (by omega), Option.bind_some]
              simp only [Int.toNat_natCast]
              rw [hN, show 2 * (k + 1) = i + 2 by have := HIK.out; omega, Option.map_map]
              congr 1
              funext l
              simp)
            have hbc : Lib.byteCells [UInt8.ofNat N] = [.int .u8 (N : Nat)] := by
              simp [Lib.byteCells, UInt8.toNat_ofNat']; omega
            have HBC := Lib.hid hbc
            have hXX : X.length ≤ 100000 := by have := HS0.out; have := HN.out; omega
            clear hbc hN
            go_wp2_with fail
            refine (Bld.writeByte _ _ _ _ _ HIw.out (by rw [byteCells_len]; omega) hsw).mono ?_
            rintro e w1 ⟨rfl, h1, hb1⟩
            have H1 : Hid (IB w.heap.size (Lib.byteCells (X ++ [UInt8.ofNat N])) w1) := Lib.hid (by rw [byteCells_app, HBC.out]; exact h1)
            have HB1 := Lib.hid (HBw.out.trans hb1)
            clear h1 hb1
            go_wp2
            go_roundw
            case rel => exact ⟨k + 1, X ++ [UInt8.ofNat N], by omega, by have := HIK.out; subst this; go_num, by simp; omega, H1.out, HU2.out, HB1.out⟩
            case measure => have := HIK.out; simp [intOf]; omega
      · obtain rfl : k = n := by omega
        have hn := HN.out
        have HF : Hid (uxL s.data.toList = some X) := Lib.hid (by
          rw [HU.out, List.drop_of_length_le (by rw [HLS.out]; omega)]
          simp [uxL])
        obtain ⟨i, hi⟩ : ∃ i, 2 * k = i := ⟨_, rfl⟩
        rw [hi]
        have b1 : (s.size : Int) ≤ (i : Int) := by omega
        clear hn hi
        go_wp2_with fail
        refine (Try.Builder_String_any w.heap.size w.heap.size _ _ HI.out hsz).mono ?_
        rintro e w1 ⟨rfl, hb1⟩
        have HB1 := Lib.hid (HBr.out.trans hb1)
        clear hb1
        go_wp2
        go_ret2
        exact ⟨.inl ⟨X, HF.out, rfl⟩, HB1.out⟩
end Go.Proofs.Ytbomfgcmbcfhoaa.Dg
