/- The walks of layer 7: the document's Xor. -/
import Derived.Test.YtbomfgcmbcfhoaaDgL
import Derived.Laws.OwnMore
import Derived.Laws.BytesArg
import Derived.Lib.ConvBytes
import Derived.Laws.IdiomStrings
import Derived.Laws.Bits64
namespace Go.Proofs.Ytbomfgcmbcfhoaa.Dg
open Go.RowKit
set_option linter.unusedVariables false
set_option linter.unusedSimpArgs false

/-- A slice of bytes of the call's own. -/
def Own8 (w : World) (B : Nat) (v : Value) (l : List UInt8) : Prop := w.ownsRow B 5 1 v l.length (Lib.byteCells l)
theorem Own8.form {w : World} {B : Nat} {v : Value} {l : List UInt8} (h : Own8 w B v l) : ∃ a c, v = .slice a l.length c := by
  rcases h.2 with ⟨hv, hl⟩ | ⟨g, cap, cur, hv, _⟩
  · exact ⟨none, 0, by rw [hv, hl]⟩
  · exact ⟨_, _, hv⟩
theorem Own8.of {w : World} {B : Nat} {v : Value} {l m : List UInt8} {n : Nat} (hn : n = l.length + m.length) (h : w.ownsRow B 5 1 v n (Lib.byteCells l ++ Lib.byteCells m)) : Own8 w B v (l ++ m) := by
  unfold Own8
  rw [byteCells_app, List.length_append, ← hn]
  exact h
theorem bit_step (x y j : Nat) : (x ^^^ y) % 2 ^ (j + 1) = (x ^^^ y) % 2 ^ j + (if x / 2 ^ j % 2 = y / 2 ^ j % 2 then 0 else 2 ^ j) := by
  rw [Nat.mod_pow_succ]
  have h : (x ^^^ y) / 2 ^ j % 2 = if x / 2 ^ j % 2 = y / 2 ^ j % 2 then 0 else 1 := by
    have e : (x ^^^ y).testBit j = (x.testBit j ^^ y.testBit j) := Nat.testBit_xor ..
    rw [Nat.testBit_eq_decide_div_mod_eq, Nat.testBit_eq_decide_div_mod_eq, Nat.testBit_eq_decide_div_mod_eq] at e
    have h1 := Nat.mod_two_eq_zero_or_one ((x ^^^ y) / 2 ^ j)
    have h2 := Nat.mod_two_eq_zero_or_one (x / 2 ^ j)
    have h3 := Nat.mod_two_eq_zero_or_one (y / 2 ^ j)
    rcases h1 with h1 | h1 <;> rcases h2 with h2 | h2 <;> rcases h3 with h3 | h3 <;> simp [h1, h2, h3] at e ⊢
  rw [h]
  split <;> simp
theorem conv_owned {wr : World} {B : Nat} {v : Value} (l : List UInt8) (h : wr.ownsRow B 5 1 v l.length (l.map fun b => .int .u8 (b.toNat : Int))) :
    (convert 48 9 v).run Try.prog wr = .ok (.string ⟨l.toArray⟩) wr := by
  have h0 := h
  obtain ⟨hlen, ⟨rfl, hn⟩ | ⟨g, cap, cur, rfl, hb, hg, hnc, hcm, hcs, ht⟩⟩ := h
  · have : l = [] := List.eq_nil_of_length_eq_zero hn
    subst this
    rw [run_convert_bytes_nil (P := Try.prog) wr 48 5 Try.underlying48 Try.underlying5 0 0 9 Try.underlying9]
    rfl
  · refine run_convert_bytes_back (P := Try.prog) wr 48 9 5 _ cap l Try.underlying48 Try.underlying5 Try.underlying9 ?_
    intro j hj
    have := h0.cellAt j (by omega)
    have e : (⟨g, 0, none⟩ : Addr).add j = ⟨g, j, none⟩ := by unfold Addr.add; split <;> simp_all
    rw [e, this]
    simp [List.getElem?_eq_getElem hj]
def XrR (Z : Nat) (wr : World) (xv kv : Value) (wx : World) : Prop := ∃ j m : Nat, j ≤ 8 ∧ kv = .int .i64 (2 ^ j : Nat) ∧ xv = .int .i64 (Z % 2 ^ j : Nat) ∧ wx = wr.drewN m

set_option maxRecDepth 20000 in
set_option maxHeartbeats 4000000 in
theorem xor_ref (a b : ByteArray) (w : World) (ha : a.size ≤ 100000) (hb : b.size ≤ 100000) :
    Calls Try.prog 18 #[.string a, .string b] w fun e w' => e = .returned (.string ⟨(xorL a.data.toList b.data.toList).toArray⟩) ∧ Below w.heap.size w w' := by
  obtain ⟨i0, hi, hz0, hz1, hz2⟩ := info_parts Bld.infoB
  have hi := Lib.hid hi; have hz0 := Lib.hid hz0; have hz1 := Lib.hid hz1; have hz2 := Lib.hid hz2
  have hla : a.data.toList.length = a.size := by simp
  have hlb : b.data.toList.length = b.size := by simp
  obtain ⟨M, hM⟩ : ∃ M, min a.size b.size = M := ⟨_, rfl⟩
  have hMa : M ≤ a.size := by omega
  have hMb : M ≤ b.size := by omega
  have hMM : a.size ≤ M ∨ (M < a.size ∧ b.size ≤ M) := by omega
  obtain ⟨X, hX⟩ : ∃ X, xorL a.data.toList b.data.toList = X := ⟨_, rfl⟩
  have hXl : X.length = M := by rw [← hX, xorL_len, hla, hlb, hM]
  rw [hX]
  have HX := Lib.hid hX
  have HLA := Lib.hid hla
  have HLB := Lib.hid hlb
  have ha' : (a.size : Int) ≤ 100000 := by omega
  have hb' : (b.size : Int) ≤ 100000 := by omega
  have hM1 : M ≤ 100000 := by omega
  have HM1 := Lib.hid hM1
  clear hla hlb hX hM ha hb hM1
  go_enter Try.func18, Try.ntmps18
  go_wp2
  go_loopw [5, 6] (fun tv iv wr => ∃ (k : Nat) (ad : Option Addr) (c : Nat), k ≤ M ∧ iv = .int .i64 k ∧ tv = .slice ad k c ∧ Own8 wr w.heap.size (.slice ad k c) (X.take k) ∧ Below w.heap.size w wr) (fun _ iv _ => M - (intOf iv).toNat)
  case atStart =>
    refine ⟨0, some ⟨w.heap.size, 0, none⟩, 0, Nat.zero_le _, rfl, rfl, ?_, (Below.refl _ _).alloc (Nat.le_refl _) _⟩
    exact World.ownsRow_lit (e := 5) (size := 1) w #[] 0 (Nat.le_refl _) (by decide) rfl
  case round =>
    obtain ⟨k, ad, c, hk, rfl, rfl, hO, hb⟩ := hrel
    have HO := Lib.hid hO
    have hsz := hb.size
    have HBr := Lib.hid hb
    clear hb hO
    by_cases hlt : k < M
    · have hka : k < a.size := by omega
      have hkb : k < b.size := by omega
      obtain ⟨x, hx⟩ : ∃ x, a[k] = x := ⟨_, rfl⟩
      obtain ⟨y, hy⟩ : ∃ y, b[k] = y := ⟨_, rfl⟩
      have hgx : a.data.toList[k]? = some x := by
        rw [List.getElem?_eq_getElem (by rw [HLA.out]; exact hka), ← hx]; rfl
      have hgy : b.data.toList[k]? = some y := by
        rw [List.getElem?_eq_getElem (by rw [HLB.out]; exact hkb), ← hy]; rfl
      have HS : Hid (X.take (k + 1) = X.take k ++ [x ^^^ y]) := Lib.hid (by rw [← HX.out, xorL_step _ _ _ _ _ hgx hgy])
      obtain ⟨Z, hZ⟩ : ∃ Z, x.toNat ^^^ y.toNat = Z := ⟨_, rfl⟩
      have hZ1 : Z < 256 := by rw [← hZ]; exact Nat.xor_lt_two_pow (n := 8) x.toNat_lt y.toNat_lt
      have HZ := Lib.hid hZ
      have hx8 := x.toNat_lt
      have hy8 := y.toNat_lt
      clear hgx hgy hZ
      go_wp2
      go_loopw [7, 8] (fun xv kv wx => XrR Z wr xv kv wx) (fun _ kv _ => 256 - (intOf kv).toNat)
      case atStart => exact ⟨0, 0, by omega, rfl, by simp, rfl⟩
      case round =>
        obtain ⟨j, m, hj, rfl, rfl, rfl⟩ := hrel
        by_cases hj8 : j < 8
        · have hK1 : 2 ^ j ≤ 2 ^ 7 := Nat.pow_le_pow_right (by decide) (by omega)
          have hK0 : 1 ≤ 2 ^ j := Nat.one_le_two_pow
          have HK2 : Hid (2 ^ (j + 1) = 2 * 2 ^ j) := Lib.hid (by rw [Nat.pow_succ]; omega)
          have hBS := bit_step x.toNat y.toNat j
          rw [HZ.out] at hBS
          have hT : Z % 2 ^ j < 2 ^ j := Nat.mod_lt _ (by omega)
          have HBS := Lib.hid hBS
          clear hBS
          obtain ⟨N, hN⟩ : ∃ N, Z % 2 ^ (j + 1) = N := ⟨_, rfl⟩
          have HN := Lib.hid hN
          rw [hN] at HBS
          clear hN
          generalize Z % 2 ^ j = T at *
          obtain ⟨K, hK⟩ : ∃ K, 2 ^ j = K := ⟨_, rfl⟩
          rw [hK] at hK1 hK0 HK2 hT HBS
          rw [hK]
          clear hK
          obtain ⟨P, hP⟩ : ∃ P, x.toNat / K = P := ⟨_, rfl⟩
          obtain ⟨Q, hQ⟩ : ∃ Q, y.toNat / K = Q := ⟨_, rfl⟩
          have eP : (x.toNat : Int) / (K : Int) = (P : Int) := by rw [← hP]; push_cast; rfl
          have eQ : (y.toNat : Int) / (K : Int) = (Q : Int) := by rw [← hQ]; push_cast; rfl
          have eP2 : (x.toNat : Int).tdiv (K : Int) = (P : Int) := by rw [Int.tdiv_eq_ediv_of_nonneg (by omega)]; exact eP
          have eQ2 : (y.toNat : Int).tdiv (K : Int) = (Q : Int) := by rw [Int.tdiv_eq_ediv_of_nonneg (by omega)]; exact eQ
          have hP1 : (P : Int) ≤ 255 := by have := Nat.div_le_self x.toNat K; omega
          have hQ1 : (Q : Int) ≤ 255 := by have := Nat.div_le_self y.toNat K; omega
          rw [hP, hQ] at HBS
          have hKne : ((K : Int) == 0) = false := by rw [beq_eq_false_iff_ne]; omega
          have k1 : (K : Int) ≤ 128 := by omega
          have k2 : (1 : Int) ≤ (K : Int) := by omega
          clear hP hQ
          obtain ⟨p, hp⟩ : ∃ p, P % 2 = p := ⟨_, rfl⟩
          obtain ⟨q, hq⟩ : ∃ q, Q % 2 = q := ⟨_, rfl⟩
          have ep : (P : Int) % 2 = (p : Int) := by omega
          have eq : (Q : Int) % 2 = (q : Int) := by omega
          rw [hp, hq] at HBS
          clear hp hq
          have HKS := Lib.hid hKne
          clear hx8 hy8 hZ1
          have q1 : (x.toNat : Int) ≤ 255 := by have := x.toNat_lt; omega
          have q2 : (y.toNat : Int) ≤ 255 := by have := y.toNat_lt; omega
          by_cases hpq : p = q
          · subst hpq
            rw [if_pos rfl] at HBS
            have HNT : Hid (N = T) := Lib.hid (by have := HBS.out; omega)
            go_wp2
            go_quiet (fail)
            all_goals
              go_wp2
              go_roundw
              case rel => exact ⟨j + 1, _, by omega, by rw [HK2.out]; go_num, by rw [HN.out, HNT.out], rfl⟩
              case measure => simp [intOf]; omega
          · rw [if_neg hpq] at HBS
            have HNT : Hid (N = T + K) := Lib.hid (by have := HBS.out; omega)
            go_wp2
            go_quiet (fail)
            all_goals
              go_wp2
              go_roundw
              case rel => exact ⟨j + 1, _, by omega, by rw [HK2.out]; go_num, by rw [HN.out, HNT.out]; go_num, rfl⟩
              case measure => simp [intOf]; omega
        · obtain rfl : j = 8 := by omega
          have hz8 : Z % 2 ^ 8 = Z := Nat.mod_eq_of_lt hZ1
          rw [hz8, show (2 : Nat) ^ 8 = 256 from rfl]
          have hcv : (Z : Int) % 256 = (Z : Int) := by omega
          have HO2 : Hid ((wr.drewN m).ownsRow w.heap.size 5 1 (.slice ad k c) k (Lib.byteCells (X.take k))) := Lib.hid (show wr.ownsRow w.heap.size 5 1 (.slice ad k c) k (Lib.byteCells (X.take k)) from (by
            have h1 := HO.out
            unfold Own8 at h1
            rw [List.length_take, Nat.min_eq_left (by omega)] at h1
            exact h1))
          have HBm := Lib.hid (below_drewN HBr.out m)
          have hszm : w.heap.size ≤ (wr.drewN m).heap.size := hsz
          generalize wr.drewN m = Wm at HO2 HBm hszm ⊢
          have HNW : Hid (∀ (j : Nat) (u : Value), ([.int .u8 Z] : List Value)[j]? = some u → (Wm.alloc (.cells #[.int .u8 Z] 5)).cell? ((⟨Wm.heap.size, 0, none⟩ : Addr).add j) = some u) := Lib.hid (by
            intro j u hj
            cases j with
            | zero =>
              simp only [List.getElem?_cons_zero, Option.some.injEq] at hj
              subst hj
              simp [Addr.add, go_sem]
            | succ j => simp at hj)
          have HZc : Hid (Lib.byteCells [x ^^^ y] = [.int .u8 (Z : Nat)]) := Lib.hid (by rw [← HZ.out, ← UInt8.toNat_xor]; rfl)
          have HO3 := Lib.hid (World.ownsRow.alloc HO2.out (.cells #[.int .u8 Z] 5))
          go_wp2_with (at_builtin; refine wpList_append_own _ rfl _ _ 48 rfl w.heap.size 5 i0 (.int .u8 0) 1 1 Try.underlying48 hi.out hz0.out hz1.out hz2.out rfl (by decide) _ _ _ rfl HO3.out ⟨Wm.heap.size, 0, none⟩ 1 1 [.int .u8 Z] rfl rfl HNW.out ?c2 ?c3 ?c4 ?c5 ?_)
          case c2 => first | rfl | (intro u hu; rw [List.mem_singleton.1 hu]; rfl)
          case c3 => have := HM1.out; unfold maxLen; omega
          case c4 => have := HM1.out; omega
          case c5 => simp; omega
          intro v' w2 hown' hgrow _
          have hO8 : Own8 w2 w.heap.size v' (X.take (k + 1)) := by
            rw [HS.out]
            exact Own8.of (by rw [List.length_take, Nat.min_eq_left (by omega)]) (by rw [HZc.out]; exact hown')
          obtain ⟨a2, c2, rfl⟩ := hO8.form
          rw [List.length_take, Nat.min_eq_left (by omega)] at hO8 ⊢
          have HO8 := Lib.hid hO8
          have HB8 : Hid (Below w.heap.size w w2) := Lib.hid ((HBm.out.alloc hszm _).grown hgrow (by simp; omega) (fun i hi => (HO2.out.lt i hi).1))
          clear hown' hgrow hO8
          go_wp2
          go_roundw
          case rel => exact ⟨k + 1, a2, c2, by omega, by go_num, rfl, HO8.out, HB8.out⟩
          case measure => simp [intOf]; omega
    · obtain rfl : k = M := by omega
      have HO2 : Hid (wr.ownsRow w.heap.size 5 1 (.slice ad X.length c) X.length (Lib.byteCells X)) := Lib.hid (by
        have h1 := HO.out
        unfold Own8 at h1
        rw [List.take_of_length_le (by omega)] at h1
        rw [hXl] at h1 ⊢
        exact h1)
      have HC : Hid ((convert 48 9 (.slice ad X.length c)).run Try.prog wr = .ok (.string ⟨X.toArray⟩) wr) := Lib.hid (conv_owned X HO2.out)
      rw [hXl] at HC
      have hconv := HC.out
      rcases hMM with hMM | ⟨hMM1, hMM⟩
      all_goals
        go_wp2
        go_ret
        exact ⟨rfl, HBr.out⟩
end Go.Proofs.Ytbomfgcmbcfhoaa.Dg
