/- The walks of layer 7: the document's Unhex. By tools/gen-digest-t.py. -/
import Derived.Test.YtbomfgcmbcfhoaaDgS
namespace Go.Proofs.Ytbomfgcmbcfhoaa.Dg
open Go.RowKit
set_option linter.unusedVariables false
set_option linter.unusedSimpArgs false

def fnd (x y : UInt8) : Nat → Int
  | 0 => -1
  | m + 1 => if dg (m / 16) = x ∧ dg (m % 16) = y then (m : Int) else fnd x y m
theorem dg_ix (x : UInt8) (h : Nat) (hh : h < 16) : dg h = x ↔ ix x = (h : Int) := by
  have k : ∀ n : Fin 256, ∀ h : Fin 16, dg h.val = UInt8.ofNat n.val ↔ ix (UInt8.ofNat n.val) = (h.val : Int) := by decide +kernel
  have := k ⟨x.toNat, x.toNat_lt⟩ ⟨h, hh⟩
  simpa using this
theorem fnd_no (x y : UInt8) (h : ix x < 0 ∨ ix y < 0) (m : Nat) (hm : m ≤ 256) : fnd x y m = -1 := by
  induction m with
  | zero => rfl
  | succ m ih =>
    rw [fnd, if_neg, ih (by omega)]
    rintro ⟨h1, h2⟩
    rw [dg_ix _ _ (by omega)] at h1 h2
    omega
theorem fnd_yes (x y : UInt8) (P Q : Nat) (hp : ix x = (P : Int)) (hq : ix y = (Q : Int)) (hP : P < 16) (hQ : Q < 16) (m : Nat) (hm : m ≤ 256) : fnd x y m = if P * 16 + Q < m then ((P * 16 + Q : Nat) : Int) else -1 := by
  induction m with
  | zero => rfl
  | succ m ih =>
    rw [fnd, ih (by omega)]
    by_cases h : m = P * 16 + Q
    · rw [if_pos ⟨(dg_ix _ _ (by omega)).2 (by rw [hp]; omega), (dg_ix _ _ (by omega)).2 (by rw [hq]; omega)⟩, if_pos (by omega), h]
    · rw [if_neg]
      · by_cases h2 : P * 16 + Q < m
        · rw [if_pos h2, if_pos (by omega)]
        · rw [if_neg h2, if_neg (by omega)]
      · rintro ⟨h1, h2⟩
        rw [dg_ix _ _ (by omega), hp] at h1
        rw [dg_ix _ _ (by omega), hq] at h2
        omega
theorem own8_keep {w w' : World} {B : Nat} {v : Value} {l : List UInt8} (h : Own8 w B v l) (hb : Below w.heap.size w w') : Own8 w' B v l :=
  h.kept (row := none) ⟨hb.os, hb.tape, hb.output, hb.size, fun k hk _ => hb.block k hk⟩ (by
    cases hv : v.ownBlock with
    | none => exact .inl rfl
    | some g => exact .inr (by intro e; cases e))
theorem ext_two (s : ByteArray) (i : Nat) (x y : UInt8) (hx : s.data.toList[i]? = some x) (hy : s.data.toList[i + 1]? = some y) : s.extract i (i + 2) = ⟨#[x, y]⟩ := by
  obtain ⟨h1, e1⟩ := List.getElem?_eq_some_iff.1 hx
  obtain ⟨h2, e2⟩ := List.getElem?_eq_some_iff.1 hy
  apply ByteArray.ext
  apply Array.toList_inj.1
  rw [Lib.extract_data, show i + 2 - i = 2 by omega, List.drop_eq_getElem_cons h1, List.drop_eq_getElem_cons h2, e1, e2]
  rfl
theorem conv_made (W : World) (m : Nat) (hm : m < 256) : (convert 48 9 (.slice (some ⟨W.heap.size, 0, none⟩) 1 1)).run Try.prog (W.alloc (.cells #[.int .u8 m] 5)).drew = .ok (.string ⟨#[UInt8.ofNat m]⟩) (W.alloc (.cells #[.int .u8 m] 5)).drew := by
  have h : (W.alloc (.cells #[.int .u8 m] 5)).ownsRow 0 5 1 (.slice (some ⟨W.heap.size, 0, none⟩) 1 1) 1 [.int .u8 m] := World.ownsRow_lit (e := 5) (size := 1) W #[.int .u8 m] 1 (Nat.zero_le _) (by decide) rfl
  have e : ([UInt8.ofNat m].map fun b => Value.int .u8 (b.toNat : Int)) = [.int .u8 m] := by simp [UInt8.toNat_ofNat']; omega
  exact conv_owned (wr := (W.alloc (.cells #[.int .u8 m] 5)).drew) (B := 0) [UInt8.ofNat m] (by rw [e]; exact h)
theorem hex_made (m : Nat) (hm : m < 256) (W : World) : Calls Try.prog 16 #[.string ⟨#[UInt8.ofNat m]⟩] W fun e w' => e = .returned (.string ⟨#[dg (m / 16), dg (m % 16)]⟩) ∧ Below W.heap.size W w' := by
  have h := hex_ref ⟨#[UInt8.ofNat m]⟩ W (by show 1 ≤ 100000; decide)
  have e : hexL (⟨#[UInt8.ofNat m]⟩ : ByteArray).data.toList = [dg (m / 16), dg (m % 16)] := by
    show [dg ((UInt8.ofNat m).toNat / 16), dg ((UInt8.ofNat m).toNat % 16)] = _
    rw [UInt8.toNat_ofNat', Nat.mod_eq_of_lt (by omega)]
  rw [e] at h
  exact h
theorem two_ne {a b x y : UInt8} (h : ¬ (a = x ∧ b = y)) : ¬ ((⟨#[a, b]⟩ : ByteArray) = ⟨#[x, y]⟩) := by
  intro e
  apply h
  have e2 : [a, b] = [x, y] := congrArg (fun s : ByteArray => s.data.toList) e
  simpa using e2
/-- What the search bears. -/
def FnR (x y : UInt8) (w : World) (a : Option Addr) (k c : Nat) (X : List UInt8) (nv kv : Value) (wx : World) : Prop :=
  ∃ m : Nat, m ≤ 256 ∧ kv = .int .i64 m ∧ nv = .int .i64 (fnd x y m) ∧ Own8 wx w.heap.size (.slice a k c) X ∧ Below w.heap.size w wx
set_option maxRecDepth 20000 in
set_option maxHeartbeats 8000000 in
theorem unhex_ref (s : ByteArray) (w : World) (hs : s.size ≤ 100000) : Calls Try.prog 14 #[.string s] w (UxPost s.data.toList w) := by
  obtain ⟨i0, hi, hz0, hz1, hz2⟩ := info_parts Bld.infoB
  have hi0 := Lib.hid hi; have hz0 := Lib.hid hz0; have hz1 := Lib.hid hz1; have hz2 := Lib.hid hz2
  clear hi
  have hls : s.data.toList.length = s.size := by simp
  have HLS := Lib.hid hls
  have HS0 := Lib.hid hs
  have hsi : (s.size : Int) ≤ 100000 := by omega
  by_cases hodd : s.size % 2 = 1
  · have e1 : (s.size : Int) % 2 = 1 := by omega
    have HU := Lib.hid (ux_odd s.data.toList (by rw [hls]; exact hodd))
    clear hls hs hodd
    go_enter Try.func14, Try.ntmps14
    go_wp2
    go_ret2
    exact ⟨.inr ⟨HU.out, rfl⟩, Below.refl _ _⟩
  · obtain ⟨n, hn⟩ : ∃ n, s.size = 2 * n := ⟨s.size / 2, by omega⟩
    have e1 : (s.size : Int) % 2 = 0 := by omega
    have HN := Lib.hid hn
    clear hls hs hodd hn
    go_enter Try.func14, Try.ntmps14
    go_wp2
    clear e1
    go_loopw [4, 5] (fun bv iv wr => ∃ (k : Nat) (X : List UInt8) (a : Option Addr) (c : Nat), k ≤ n ∧ iv = .int .i64 (2 * k : Nat) ∧ X.length = k ∧ bv = .slice a k c ∧ Own8 wr w.heap.size (.slice a k c) X ∧ uxL s.data.toList = (uxL (s.data.toList.drop (2 * k))).map (X ++ ·) ∧ Below w.heap.size w wr) (fun _ iv _ => s.size - (intOf iv).toNat)
    case atStart =>
      refine ⟨0, [], some ⟨w.heap.size, 0, none⟩, 0, Nat.zero_le _, rfl, rfl, rfl, ?_, by simp, (Below.refl _ _).alloc (Nat.le_refl _) _⟩
      exact World.ownsRow_lit (e := 5) (size := 1) w #[] 0 (Nat.le_refl _) (by decide) rfl
    case round =>
      obtain ⟨k, X, a, c, hk, rfl, hXl, rfl, hO, hU, hb⟩ := hrel
      have HO := Lib.hid hO
      have HU := Lib.hid hU
      have hsz := hb.size
      have HBr := Lib.hid hb
      clear hO hU hb
      by_cases hlt : k < n
      · have hn := HN.out
        obtain ⟨i, hi⟩ : ∃ i, 2 * k = i := ⟨_, rfl⟩
        have h0 : i < s.size := by omega
        have h1 : i + 1 < s.size := by omega
        obtain ⟨x, hgx⟩ : ∃ x, s.data.toList[i]? = some x := ⟨_, List.getElem?_eq_getElem (by rw [HLS.out]; exact h0)⟩
        obtain ⟨y, hgy⟩ : ∃ y, s.data.toList[i + 1]? = some y := ⟨_, List.getElem?_eq_getElem (by rw [HLS.out]; exact h1)⟩
        have HC := Lib.hid (ux_cut s.data.toList i x y hgx hgy)
        have HE := Lib.hid (ext_two s i x y hgx hgy)
        rw [hi]
        have HIK := Lib.hid hi
        have b1 : (0 : Int) ≤ (i : Int) := by omega
        have b2 : (i : Int) < (s.size : Int) := by omega
        have b3 : IntKind.i64.wrap ((i : Int) + 2) = (i : Int) + 2 := by rw [IntWalk.i64_in _ (by omega)]
        have b4 : (i : Int) + 2 ≤ (s.size : Int) := by omega
        have b5 : ((i : Int) + 2).toNat = i + 2 := by omega
        have b6 : (i : Int) ≤ (i : Int) + 2 := by omega
        clear hgx hgy
        clear hn hi
        go_wp2
        go_loopw [6, 7] (fun nv kv wx => FnR x y w a k c X nv kv wx) (fun _ kv _ => 256 - (intOf kv).toNat)
        case atStart => exact ⟨0, by omega, rfl, rfl, HO.out, HBr.out⟩
        case round =>
          obtain ⟨m, hm, rfl, rfl, hO, hb⟩ := hrel
          by_cases hm8 : m < 256
          · have hf : fnd x y (m + 1) = if dg (m / 16) = x ∧ dg (m % 16) = y then (m : Int) else fnd x y m := rfl
            have HF := Lib.hid hf
            have hszx := hb.size
            have HCV := Lib.hid (conv_made wr m hm8)
            have CH := Lib.hid ((hex_made m hm8 (wr.alloc (.cells #[.int .u8 m] 5)).drew).mono (R' := fun e w' => e = .returned (.string ⟨#[dg (m / 16), dg (m % 16)]⟩) ∧ (Own8 w' w.heap.size (.slice a k c) X ∧ Below w.heap.size w w')) (by
              rintro e w' ⟨h1, h2⟩
              have h3 : Below wr.heap.size wr w' := ((Below.refl _ _).alloc (Nat.le_refl _) (.cells #[.int .u8 m] 5)).trans ((show Below (wr.alloc (.cells #[.int .u8 m] 5)).heap.size (wr.alloc (.cells #[.int .u8 m] 5)) w' from ⟨h2.os, h2.tape, h2.output, h2.size, h2.block⟩).mono (by simp))
              exact ⟨h1, own8_keep hO h3, hb.trans (h3.mono hszx)⟩))
            have ec : (m : Int) % 256 = (m : Int) := by omega
            have ec2 : IntKind.u8.wrap (m : Int) = (m : Int) := by rw [IntKind.wrap_u8]; omega
            have hE := HE.out
            clear hf hO hb
            have hnev : ¬ (dg (m / 16) = x ∧ dg (m % 16) = y) → ¬ ((⟨#[dg (m / 16), dg (m % 16)]⟩ : ByteArray) = ⟨#[x, y]⟩) := two_ne
            obtain ⟨T, hT⟩ : ∃ T : ByteArray, ⟨#[dg (m / 16), dg (m % 16)]⟩ = T := ⟨_, rfl⟩
            obtain ⟨U, hU2⟩ : ∃ U : ByteArray, ⟨#[x, y]⟩ = U := ⟨_, rfl⟩
            rw [hT] at CH
            rw [hU2] at hE
            rw [hT, hU2] at hnev
            by_cases hd : dg (m / 16) = x ∧ dg (m % 16) = y
            · have hTU : T = U := by rw [← hT, ← hU2, hd.1, hd.2]
              subst hTU
              have HF2 : Hid (fnd x y (m + 1) = (m : Int)) := Lib.hid (by rw [HF.out, if_pos hd])
              clear hd hnev hT hU2 HF HE
              go_wp2
              refine wp_region_noPanic ?_
              refine wp_region_held_drew (S := fun _ => True) (by kernel_rfl) ?_ (fun hHeld => ?_)
              · exact trivial
              refine wpAnyH_take (i := 0) (v := ?_) rfl (by kernel_rfl) (by kernel_rfl) (by kernel_rfl) (fun _ _ _ h => h) (Or.inl ⟨by rfl, ?_⟩) (by assumption) ?_
              rotate_left
              · (intro w hSw; (try dsimp only at hSw); go_simp; (try with_reducible rfl))
              try simp only [Act.put, List.getElem_toArray, List.getElem_cons_zero, List.getElem_cons_succ, List.setIfInBounds_toArray, List.set_cons_zero, List.set_cons_succ]
              refine wpAnyH_take (i := 1) (v := ?_) rfl (by kernel_rfl) (by kernel_rfl) (by kernel_rfl) (fun _ _ _ h => h) (Or.inl ⟨by rfl, ?_⟩) (by assumption) ?_
              rotate_left
              · (intro w hSw; (try dsimp only at hSw); go_simp; (try with_reducible rfl))
              try simp only [Act.put, List.getElem_toArray, List.getElem_cons_zero, List.getElem_cons_succ, List.setIfInBounds_toArray, List.set_cons_zero, List.set_cons_succ]
              refine wpAnyH_take (i := 5) (v := ?_) rfl (by kernel_rfl) (by kernel_rfl) (by kernel_rfl) (fun _ _ _ h => h) (Or.inl ⟨by rfl, ?_⟩) (by assumption) ?_
              rotate_left
              · (intro w hSw; (try dsimp only at hSw); go_simp; (try with_reducible rfl))
              try simp only [Act.put, List.getElem_toArray, List.getElem_cons_zero, List.getElem_cons_succ, List.setIfInBounds_toArray, List.set_cons_zero, List.set_cons_succ]
              refine wpAnyH_take (i := 6) (v := ?_) rfl (by kernel_rfl) (by kernel_rfl) (by kernel_rfl) (fun _ _ _ h => h) (Or.inl ⟨by rfl, ?_⟩) (by assumption) ?_
              rotate_left
              · (intro w hSw; (try dsimp only at hSw); go_simp; (try with_reducible rfl))
              try simp only [Act.put, List.getElem_toArray, List.getElem_cons_zero, List.getElem_cons_succ, List.setIfInBounds_toArray, List.set_cons_zero, List.set_cons_succ]
              refine wpAnyH_take (i := 7) (v := ?_) rfl (by kernel_rfl) (by kernel_rfl) (by kernel_rfl) (fun _ _ _ h => h) (Or.inl ⟨by rfl, ?_⟩) (by assumption) ?_
              rotate_left
              · (intro w hSw; (try dsimp only at hSw); go_simp; (try with_reducible rfl))
              try simp only [Act.put, List.getElem_toArray, List.getElem_cons_zero, List.getElem_cons_succ, List.setIfInBounds_toArray, List.set_cons_zero, List.set_cons_succ]
              refine wpAnyH_take (i := 8) (v := ?_) rfl (by kernel_rfl) (by kernel_rfl) (by kernel_rfl) (fun _ _ _ h => h) (Or.inl ⟨by rfl, ?_⟩) (by assumption) ?_
              rotate_left
              · (intro w hSw; (try dsimp only at hSw); go_simp; (try with_reducible rfl))
              try simp only [Act.put, List.getElem_toArray, List.getElem_cons_zero, List.getElem_cons_succ, List.setIfInBounds_toArray, List.set_cons_zero, List.set_cons_succ]
              refine wpAnyH_take (i := 9) (v := ?_) rfl (by kernel_rfl) (by kernel_rfl) (by kernel_rfl) (fun _ _ _ h => h) (Or.inl ⟨by rfl, ?_⟩) (by assumption) ?_
              rotate_left
              · (intro w hSw; (try dsimp only at hSw); go_simp; (try with_reducible rfl))
              try simp only [Act.put, List.getElem_toArray, List.getElem_cons_zero, List.getElem_cons_succ, List.setIfInBounds_toArray, List.set_cons_zero, List.set_cons_succ]
              refine wpAnyH_ready (rs := [2]) (by kernel_rfl) (by simp) ?_
              refine AllReadyH.cons rfl (fun K hK => ?_) AllReadyH.nil
              rw [if_pos (by rfl)]
              go_simp
              refine hK.out _ _ ?_ (fun hHeld => ?_)
              · exact trivial
              clear hK K
              try simp only [Act.put, List.getElem_toArray, List.getElem_cons_zero, List.getElem_cons_succ, List.setIfInBounds_toArray, List.set_cons_zero, List.set_cons_succ]
              refine wpAnyH_ready (rs := [3]) (by kernel_rfl) (by simp) ?_
              refine AllReadyH.cons rfl (fun K hK => ?_) AllReadyH.nil
              rw [if_pos (by rfl)]
              go_simp
              rw [HCV.out]
              go_simp
              refine hK.out _ _ ?_ (fun hHeld => ?_)
              · exact trivial
              clear hK K
              try simp only [Act.put, List.getElem_toArray, List.getElem_cons_zero, List.getElem_cons_succ, List.setIfInBounds_toArray, List.set_cons_zero, List.set_cons_succ]
              refine wpAnyH_ready (rs := [4]) (by kernel_rfl) (by simp) ?_
              refine AllReadyH.cons rfl (fun K hK => ?_) AllReadyH.nil
              rw [if_pos (by rfl)]
              go_simp
              refine CH.out.mono ?_
              rintro e w1 ⟨rfl, hb1⟩
              have HB1 := Lib.hid hb1
              clear hb1
              refine hK.out _ _ ?_ (fun hHeld => ?_)
              · exact trivial
              clear hK K
              try simp only [Act.put, List.getElem_toArray, List.getElem_cons_zero, List.getElem_cons_succ, List.setIfInBounds_toArray, List.set_cons_zero, List.set_cons_succ]
              refine wpAnyH_take (i := 10) (v := ?_) rfl (by kernel_rfl) (by kernel_rfl) (by kernel_rfl) (fun _ _ _ h => h) (Or.inl ⟨by rfl, ?_⟩) (by assumption) ?_
              rotate_left
              · (intro w hSw; (try dsimp only at hSw); go_simp; (try with_reducible rfl))
              try simp only [Act.put, List.getElem_toArray, List.getElem_cons_zero, List.getElem_cons_succ, List.setIfInBounds_toArray, List.set_cons_zero, List.set_cons_succ]
              refine wpAnyH_done (by kernel_rfl) (NoPanic.normal ?_) _
              skip
              go_wp2
              go_roundw
              case rel => exact ⟨m + 1, by omega, by go_num, by rw [HF2.out], HB1.out.1, HB1.out.2⟩
              case measure => simp [intOf]; omega
            · have hne := hnev hd
              have hne2 : (T.toList == U.toList) = false := by
                rw [beq_eq_false_iff_ne]
                intro e
                apply hne
                apply ByteArray.ext
                apply Array.toList_inj.1
                rw [← ByteArray.toList_eq, ← ByteArray.toList_eq]
                exact e
              have HF2 : Hid (fnd x y (m + 1) = fnd x y m) := Lib.hid (by rw [HF.out, if_neg hd])
              clear hd hnev hT hU2 HF HE
              go_wp2
              refine wp_region_noPanic ?_
              refine wp_region_held_drew (S := fun _ => True) (by kernel_rfl) ?_ (fun hHeld => ?_)
              · exact trivial
              refine wpAnyH_take (i := 0) (v := ?_) rfl (by kernel_rfl) (by kernel_rfl) (by kernel_rfl) (fun _ _ _ h => h) (Or.inl ⟨by rfl, ?_⟩) (by assumption) ?_
              rotate_left
              · (intro w hSw; (try dsimp only at hSw); go_simp; (try with_reducible rfl))
              try simp only [Act.put, List.getElem_toArray, List.getElem_cons_zero, List.getElem_cons_succ, List.setIfInBounds_toArray, List.set_cons_zero, List.set_cons_succ]
              refine wpAnyH_take (i := 1) (v := ?_) rfl (by kernel_rfl) (by kernel_rfl) (by kernel_rfl) (fun _ _ _ h => h) (Or.inl ⟨by rfl, ?_⟩) (by assumption) ?_
              rotate_left
              · (intro w hSw; (try dsimp only at hSw); go_simp; (try with_reducible rfl))
              try simp only [Act.put, List.getElem_toArray, List.getElem_cons_zero, List.getElem_cons_succ, List.setIfInBounds_toArray, List.set_cons_zero, List.set_cons_succ]
              refine wpAnyH_take (i := 5) (v := ?_) rfl (by kernel_rfl) (by kernel_rfl) (by kernel_rfl) (fun _ _ _ h => h) (Or.inl ⟨by rfl, ?_⟩) (by assumption) ?_
              rotate_left
              · (intro w hSw; (try dsimp only at hSw); go_simp; (try with_reducible rfl))
              try simp only [Act.put, List.getElem_toArray, List.getElem_cons_zero, List.getElem_cons_succ, List.setIfInBounds_toArray, List.set_cons_zero, List.set_cons_succ]
              refine wpAnyH_take (i := 6) (v := ?_) rfl (by kernel_rfl) (by kernel_rfl) (by kernel_rfl) (fun _ _ _ h => h) (Or.inl ⟨by rfl, ?_⟩) (by assumption) ?_
              rotate_left
              · (intro w hSw; (try dsimp only at hSw); go_simp; (try with_reducible rfl))
              try simp only [Act.put, List.getElem_toArray, List.getElem_cons_zero, List.getElem_cons_succ, List.setIfInBounds_toArray, List.set_cons_zero, List.set_cons_succ]
              refine wpAnyH_take (i := 7) (v := ?_) rfl (by kernel_rfl) (by kernel_rfl) (by kernel_rfl) (fun _ _ _ h => h) (Or.inl ⟨by rfl, ?_⟩) (by assumption) ?_
              rotate_left
              · (intro w hSw; (try dsimp only at hSw); go_simp; (try with_reducible rfl))
              try simp only [Act.put, List.getElem_toArray, List.getElem_cons_zero, List.getElem_cons_succ, List.setIfInBounds_toArray, List.set_cons_zero, List.set_cons_succ]
              refine wpAnyH_take (i := 8) (v := ?_) rfl (by kernel_rfl) (by kernel_rfl) (by kernel_rfl) (fun _ _ _ h => h) (Or.inl ⟨by rfl, ?_⟩) (by assumption) ?_
              rotate_left
              · (intro w hSw; (try dsimp only at hSw); go_simp; (try with_reducible rfl))
              try simp only [Act.put, List.getElem_toArray, List.getElem_cons_zero, List.getElem_cons_succ, List.setIfInBounds_toArray, List.set_cons_zero, List.set_cons_succ]
              refine wpAnyH_take (i := 9) (v := ?_) rfl (by kernel_rfl) (by kernel_rfl) (by kernel_rfl) (fun _ _ _ h => h) (Or.inl ⟨by rfl, ?_⟩) (by assumption) ?_
              rotate_left
              · (intro w hSw; (try dsimp only at hSw); go_simp; (try with_reducible rfl))
              try simp only [Act.put, List.getElem_toArray, List.getElem_cons_zero, List.getElem_cons_succ, List.setIfInBounds_toArray, List.set_cons_zero, List.set_cons_succ]
              refine wpAnyH_ready (rs := [2]) (by kernel_rfl) (by simp) ?_
              refine AllReadyH.cons rfl (fun K hK => ?_) AllReadyH.nil
              rw [if_pos (by rfl)]
              go_simp
              refine hK.out _ _ ?_ (fun hHeld => ?_)
              · exact trivial
              clear hK K
              try simp only [Act.put, List.getElem_toArray, List.getElem_cons_zero, List.getElem_cons_succ, List.setIfInBounds_toArray, List.set_cons_zero, List.set_cons_succ]
              refine wpAnyH_ready (rs := [3]) (by kernel_rfl) (by simp) ?_
              refine AllReadyH.cons rfl (fun K hK => ?_) AllReadyH.nil
              rw [if_pos (by rfl)]
              go_simp
              rw [HCV.out]
              go_simp
              refine hK.out _ _ ?_ (fun hHeld => ?_)
              · exact trivial
              clear hK K
              try simp only [Act.put, List.getElem_toArray, List.getElem_cons_zero, List.getElem_cons_succ, List.setIfInBounds_toArray, List.set_cons_zero, List.set_cons_succ]
              refine wpAnyH_ready (rs := [4]) (by kernel_rfl) (by simp) ?_
              refine AllReadyH.cons rfl (fun K hK => ?_) AllReadyH.nil
              rw [if_pos (by rfl)]
              go_simp
              refine CH.out.mono ?_
              rintro e w1 ⟨rfl, hb1⟩
              have HB1 := Lib.hid hb1
              clear hb1
              refine hK.out _ _ ?_ (fun hHeld => ?_)
              · exact trivial
              clear hK K
              try simp only [Act.put, List.getElem_toArray, List.getElem_cons_zero, List.getElem_cons_succ, List.setIfInBounds_toArray, List.set_cons_zero, List.set_cons_succ]
              refine wpAnyH_take (i := 10) (v := ?_) rfl (by kernel_rfl) (by kernel_rfl) (by kernel_rfl) (fun _ _ _ h => h) (Or.inl ⟨by rfl, ?_⟩) (by assumption) ?_
              rotate_left
              · (intro w hSw; (try dsimp only at hSw); go_simp; (try with_reducible rfl))
              try simp only [Act.put, List.getElem_toArray, List.getElem_cons_zero, List.getElem_cons_succ, List.setIfInBounds_toArray, List.set_cons_zero, List.set_cons_succ]
              refine wpAnyH_done (by kernel_rfl) (NoPanic.normal ?_) _
              skip
              go_wp2
              go_roundw
              case rel => exact ⟨m + 1, by omega, by go_num, by rw [HF2.out], HB1.out.1, HB1.out.2⟩
              case measure => simp [intOf]; omega
          · obtain rfl : m = 256 := by omega
            have HOm := Lib.hid hO
            have HBm := Lib.hid hb
            have hszm := hb.size
            have hrx := ix_range x
            have hry := ix_range y
            have HUX : Hid (ux1 x y = if ix x < 0 ∨ ix y < 0 then none else some (UInt8.ofNat ((ix x).toNat * 16 + (ix y).toNat))) := Lib.hid rfl
            clear hO hb
            by_cases hneg : ix x < 0 ∨ ix y < 0
            · have hF := fnd_no x y hneg 256 (by omega)
              have HF : Hid (uxL s.data.toList = none) := Lib.hid (by rw [HU.out, HIK.out, HC.out, HUX.out, if_pos hneg]; rfl)
              rw [hF]
              clear hneg hF hrx hry HE
              go_wp2
              go_ret2
              exact ⟨.inr ⟨HF.out, rfl⟩, HBm.out⟩
            · obtain ⟨P, hP⟩ := Int.eq_ofNat_of_zero_le (show 0 ≤ ix x by omega)
              obtain ⟨Q, hQ⟩ := Int.eq_ofNat_of_zero_le (show 0 ≤ ix y by omega)
              have hP1 : P < 16 := by omega
              have hQ1 : Q < 16 := by omega
              have hF := fnd_yes x y P Q hP hQ hP1 hQ1 256 (by omega)
              rw [if_pos (by omega)] at hF
              obtain ⟨N, hN⟩ : ∃ N, P * 16 + Q = N := ⟨_, rfl⟩
              rw [hN] at hF
              rw [hF]
              have hN1 : N < 256 := by omega
              have HU2 : Hid (uxL s.data.toList = (uxL (s.data.toList.drop (2 * (k + 1)))).map ((X ++ [UInt8.ofNat N]) ++ ·)) := Lib.hid (by
                rw [HU.out, HIK.out, HC.out, HUX.out, if_neg hneg, Option.bind_some, hP, hQ]
                simp only [Int.toNat_natCast]
                rw [hN, show 2 * (k + 1) = i + 2 by have := HIK.out; omega, Option.map_map]
                congr 1
                funext l
                simp)
              have ec : (N : Int) % 256 = (N : Int) := by omega
              have HBC : Hid (Lib.byteCells [UInt8.ofNat N] = [.int .u8 (N : Nat)]) := Lib.hid (by simp [Lib.byteCells, UInt8.toNat_ofNat'] <;> omega)
              have HXX : Hid (X.length ≤ 100000) := Lib.hid (by have := HS0.out; have := HN.out; omega)
              have HO2 : Hid (wr.ownsRow w.heap.size 5 1 (.slice a k c) k (Lib.byteCells X)) := Lib.hid (by
                have h1 := HOm.out
                unfold Own8 at h1
                rw [hXl] at h1
                exact h1)
              have HO3 := Lib.hid (World.ownsRow.alloc HO2.out (.cells #[.int .u8 N] 5))
              have HNW : Hid (∀ (j : Nat) (u : Value), ([.int .u8 N] : List Value)[j]? = some u → (wr.alloc (.cells #[.int .u8 N] 5)).cell? ((⟨wr.heap.size, 0, none⟩ : Addr).add j) = some u) := Lib.hid (by
                intro j u hj
                rw [Addr.add_mid, cell_of_row _ _ _ _ _ _ (heap_alloc_new wr _), Nat.zero_add, ← hj]
                simp)
              have HXl := Lib.hid hXl
              clear hneg hF hrx hry HE hP hQ hN
              go_wp2_with (at_builtin; refine wpList_append_own _ rfl _ _ 48 rfl w.heap.size 5 i0 (.int .u8 0) 1 1 Try.underlying48 hi0.out hz0.out hz1.out hz2.out rfl (by decide) _ _ _ rfl HO3.out ⟨wr.heap.size, 0, none⟩ 1 1 [.int .u8 N] rfl rfl HNW.out ?c2 ?c3 ?c4 ?c5 ?_)
              case c2 => first | rfl | (intro u hu; rw [List.mem_singleton.1 hu]; rfl)
              case c3 => have := HXX.out; have := HXl.out; unfold maxLen; omega
              case c4 => have := HXX.out; have := HXl.out; omega
              case c5 => simp; omega
              intro v' w2 hown' hgrow _
              have hO8 : Own8 w2 w.heap.size v' (X ++ [UInt8.ofNat N]) := Own8.of (by rw [HXl.out]) (by rw [HBC.out]; exact hown')
              obtain ⟨a2, c2, rfl⟩ := hO8.form
              have hl2 : (X ++ [UInt8.ofNat N]).length = k + 1 := by rw [List.length_append, HXl.out]; simp
              rw [hl2] at hO8 ⊢
              have HL2 := Lib.hid hl2
              have HO8 := Lib.hid hO8
              have HB8 : Hid (Below w.heap.size w w2) := Lib.hid ((HBm.out.alloc hszm _).grown hgrow (by simp; omega) (fun i hi => (HO2.out.lt i hi).1))
              clear hown' hgrow hO8 hl2
              go_wp2
              go_roundw
              case rel => exact ⟨k + 1, X ++ [UInt8.ofNat N], a2, c2, by omega, by have := HIK.out; subst this; go_num, HL2.out, rfl, HO8.out, HU2.out, HB8.out⟩
              case measure => have := HIK.out; simp [intOf]; omega
      · obtain rfl : k = n := by omega
        have hn := HN.out
        have HF : Hid (uxL s.data.toList = some X) := Lib.hid (by
          rw [HU.out, List.drop_of_length_le (by rw [HLS.out]; omega)]
          simp [uxL])
        have HO2 : Hid (wr.ownsRow w.heap.size 5 1 (.slice a X.length c) X.length (Lib.byteCells X)) := Lib.hid (by
          have h1 := HO.out
          unfold Own8 at h1
          rw [hXl] at h1 ⊢
          exact h1)
        have HCV : Hid ((convert 48 9 (.slice a X.length c)).run Try.prog wr = .ok (.string ⟨X.toArray⟩) wr) := Lib.hid (conv_owned X HO2.out)
        rw [hXl] at HCV
        have hconv := HCV.out
        obtain ⟨i, hi⟩ : ∃ i, 2 * k = i := ⟨_, rfl⟩
        rw [hi]
        have b1 : (s.size : Int) ≤ (i : Int) := by omega
        clear hn hi
        go_wp2
        go_ret2
        exact ⟨.inl ⟨X, HF.out, rfl⟩, HBr.out⟩
end Go.Proofs.Ytbomfgcmbcfhoaa.Dg
