/- The walks of layer 8: labelled, Expand, Label, Next. By tools/gen-kdf-3.py. -/
import Derived.Test.YthjphechdhbenaaKdD
import Derived.Deep.RegionHeld3
namespace Go.Proofs.Ythjphechdhbenaa.Kd
set_option maxRecDepth 20000
open Go.RowKit
open Go.Proofs.Ythjphechdhbenaa.Dg
open Go.Proofs.Ythjphechdhbenaa.Vm (fx fx_length vfixed)
set_option linter.unusedVariables false
set_option linter.unusedSimpArgs false

set_option maxHeartbeats 8000000 in
theorem labelled_of (O I label ctx : List UInt8) (n : Nat) (w : World) (hO : O.length ≤ 100) (hI : I.length ≤ 100) (hl : label.length ≤ 1000) (hc : ctx.length ≤ 1000) (hn : n ≤ 8160) :
    Calls Try.prog 49 #[.agg #[.string ⟨O.toArray⟩, .string ⟨I.toArray⟩], .string ⟨label.toArray⟩, .string ⟨ctx.toArray⟩, .int .i64 n] w fun e w' => e = .returned (.string ⟨(lab O I label ctx n).toArray⟩) ∧ Below w.heap.size w w' := by
  have HB0 : Hid (Below w.heap.size w (w.alloc (.cells #[.string ⟨O.toArray⟩, .string ⟨I.toArray⟩] 67)).drew) := Lib.hid (below_drew ((Below.refl _ _).alloc (Nat.le_refl _) _))
  have HT0 : Hid ((w.alloc (.cells #[.string ⟨O.toArray⟩, .string ⟨I.toArray⟩] 67)).drew.cell? ⟨w.heap.size, 0, none⟩ = some (.string ⟨O.toArray⟩) ∧ (w.alloc (.cells #[.string ⟨O.toArray⟩, .string ⟨I.toArray⟩] 67)).drew.cell? ⟨w.heap.size, 1, none⟩ = some (.string ⟨I.toArray⟩)) := Lib.hid (by constructor <;> simp [go_sem])
  have CF : Hid (∀ W : World, Calls Try.prog 67 #[.int .u64 n, .int .i64 2] W fun e w' => e = .returned (.string ⟨(fx n 2).toArray⟩) ∧ Below W.heap.size W w') := Lib.hid (fun W => vfixed n 2 W (by omega) (by decide) (by decide))
  have hw : IntKind.u64.wrap (n : Int) = (n : Int) := by rw [IntKind.wrap_u64]; omega
  have htl : (tls ++ label).length = 6 + label.length := by rw [List.length_append]; rfl
  have CC1 := Lib.hid (fun W => counted_any (tls ++ label) W (by rw [htl]; omega))
  have CC2 := Lib.hid (fun W => counted_any ctx W (by omega))
  have hil := inf_len label ctx n
  have CX : Hid (∀ W : World, Calls Try.prog 47 #[.agg #[.string ⟨O.toArray⟩, .string ⟨I.toArray⟩], .int .i64 n, .slice (some ⟨W.heap.size, 0, none⟩) 3 3] (W.alloc (.cells #[.string ⟨(fx n 2).toArray⟩, .string ⟨(cnt (tls ++ label)).toArray⟩, .string ⟨(cnt ctx).toArray⟩] 9)) fun e w' => e = .returned (.string ⟨(lab O I label ctx n).toArray⟩) ∧ Below W.heap.size W w') := Lib.hid (fun W => by
    refine (expanded_of O I (inf label ctx n) n _ _ hO hI (by omega) hn (Lib.hid fun W' hW' => join_new [⟨(fx n 2).toArray⟩, ⟨(cnt (tls ++ label)).toArray⟩, ⟨(cnt ctx).toArray⟩] _ rfl 3 rfl (by omega) _ (cat_3 _ _ _) (by show (inf label ctx n).length ≤ _; omega) W W' W.heap.size rfl hW')).mono ?_
    rintro e w' ⟨h1, h2⟩
    exact ⟨h1, ((Below.refl _ _).alloc (Nat.le_refl _) _).trans (h2.mono (by simp))⟩)
  have hcat : (⟨#[116, 108, 115, 49, 51, 32]⟩ : ByteArray) ++ ⟨label.toArray⟩ = ⟨(tls ++ label).toArray⟩ := app_two tls label
  have hls : (⟨label.toArray⟩ : ByteArray).size = label.length := rfl
  have g1 : ¬ 9223372036854775807 < 6 + label.length := by omega
  generalize lab O I label ctx n = X at *
  generalize tls ++ label = TL at *
  generalize cnt TL = C1 at *
  generalize cnt ctx = C2 at *
  generalize fx n 2 = F at *
  clear hil htl
  go_enter Try.func49, Try.ntmps49
  go_wp2
  refine wp_region_noPanic ?_
  refine wp_region_held_drew (S := fun w' : World => w'.cell? ⟨w.heap.size, 0, none⟩ = some (.string ⟨O.toArray⟩) ∧ w'.cell? ⟨w.heap.size, 1, none⟩ = some (.string ⟨I.toArray⟩)) (by kernel_rfl) ?_ (fun hHeld => ?_)
  · exact HT0.out
  refine wpAnyH_take (i := 0) (v := ?_) rfl (by kernel_rfl) (by kernel_rfl) (by kernel_rfl) (fun _ _ _ h => h) (Or.inl ⟨by rfl, ?_⟩) (by assumption) ?_
  rotate_left
  · (intro w hSw; (obtain ⟨hS0, hS1⟩ := hSw); go_simp; (try with_reducible rfl))
  try simp only [Act.put, List.getElem_toArray, List.getElem_cons_zero, List.getElem_cons_succ, List.setIfInBounds_toArray, List.set_cons_zero, List.set_cons_succ]
  refine wpAnyH_take (i := 1) (v := ?_) rfl (by kernel_rfl) (by kernel_rfl) (by kernel_rfl) (fun _ _ _ h => h) (Or.inl ⟨by rfl, ?_⟩) (by assumption) ?_
  rotate_left
  · (intro w hSw; (obtain ⟨hS0, hS1⟩ := hSw); go_simp; (try with_reducible rfl))
  try simp only [Act.put, List.getElem_toArray, List.getElem_cons_zero, List.getElem_cons_succ, List.setIfInBounds_toArray, List.set_cons_zero, List.set_cons_succ]
  refine wpAnyH_take (i := 2) (v := ?_) rfl (by kernel_rfl) (by kernel_rfl) (by kernel_rfl) (fun _ _ _ h => h) (Or.inl ⟨by rfl, ?_⟩) (by assumption) ?_
  rotate_left
  · (intro w hSw; (obtain ⟨hS0, hS1⟩ := hSw); go_simp; (try with_reducible rfl))
  try simp only [Act.put, List.getElem_toArray, List.getElem_cons_zero, List.getElem_cons_succ, List.setIfInBounds_toArray, List.set_cons_zero, List.set_cons_succ]
  refine wpAnyH_take (i := 3) (v := ?_) rfl (by kernel_rfl) (by kernel_rfl) (by kernel_rfl) (fun _ _ _ h => h) (Or.inl ⟨by rfl, ?_⟩) (by assumption) ?_
  rotate_left
  · (intro w hSw; (obtain ⟨hS0, hS1⟩ := hSw); go_simp; (try with_reducible rfl))
  try simp only [Act.put, List.getElem_toArray, List.getElem_cons_zero, List.getElem_cons_succ, List.setIfInBounds_toArray, List.set_cons_zero, List.set_cons_succ]
  refine wpAnyH_take (i := 5) (v := ?_) rfl (by kernel_rfl) (by kernel_rfl) (by kernel_rfl) (fun _ _ _ h => h) (Or.inl ⟨by rfl, ?_⟩) (by assumption) ?_
  rotate_left
  · (intro w hSw; (obtain ⟨hS0, hS1⟩ := hSw); go_simp; (try with_reducible rfl))
  try simp only [Act.put, List.getElem_toArray, List.getElem_cons_zero, List.getElem_cons_succ, List.setIfInBounds_toArray, List.set_cons_zero, List.set_cons_succ]
  refine wpAnyH_take (i := 6) (v := ?_) rfl (by kernel_rfl) (by kernel_rfl) (by kernel_rfl) (fun _ _ _ h => h) (Or.inl ⟨by rfl, ?_⟩) (by assumption) ?_
  rotate_left
  · (intro w hSw; (obtain ⟨hS0, hS1⟩ := hSw); go_simp; (try with_reducible rfl))
  try simp only [Act.put, List.getElem_toArray, List.getElem_cons_zero, List.getElem_cons_succ, List.setIfInBounds_toArray, List.set_cons_zero, List.set_cons_succ]
  refine wpAnyH_take (i := 8) (v := ?_) rfl (by kernel_rfl) (by kernel_rfl) (by kernel_rfl) (fun _ _ _ h => h) (Or.inl ⟨by rfl, ?_⟩) (by assumption) ?_
  rotate_left
  · (intro w hSw; (obtain ⟨hS0, hS1⟩ := hSw); go_simp; (try with_reducible rfl))
  try simp only [Act.put, List.getElem_toArray, List.getElem_cons_zero, List.getElem_cons_succ, List.setIfInBounds_toArray, List.set_cons_zero, List.set_cons_succ]
  refine wpAnyH_ready (rs := [4]) (by kernel_rfl) (by simp) ?_
  refine AllReadyH.cons rfl (fun K hK => ?_) AllReadyH.nil
  rw [if_pos (by rfl)]
  go_simp
  with_reducible refine (CF.out _).mono ?_
  rintro e w1 ⟨rfl, hb1⟩
  have HT1 := Lib.hid (two_call HT0.out hb1)
  have HB1 := Lib.hid (HB0.out.trans (hb1.mono HB0.out.size))
  clear hb1
  refine hK.out _ _ ?_ (fun hHeld => ?_)
  · exact HT1.out
  clear hK K
  try simp only [Act.put, List.getElem_toArray, List.getElem_cons_zero, List.getElem_cons_succ, List.setIfInBounds_toArray, List.set_cons_zero, List.set_cons_succ]
  refine wpAnyH_ready (rs := [7]) (by kernel_rfl) (by simp) ?_
  refine AllReadyH.cons rfl (fun K hK => ?_) AllReadyH.nil
  rw [if_pos (by rfl)]
  go_simp
  with_reducible refine (CC1.out _).mono ?_
  rintro e w2 ⟨rfl, hb2⟩
  have HT2 := Lib.hid (two_call HT1.out hb2)
  have HB2 := Lib.hid (HB1.out.trans (hb2.mono HB1.out.size))
  clear hb2
  refine hK.out _ _ ?_ (fun hHeld => ?_)
  · exact HT2.out
  clear hK K
  try simp only [Act.put, List.getElem_toArray, List.getElem_cons_zero, List.getElem_cons_succ, List.setIfInBounds_toArray, List.set_cons_zero, List.set_cons_succ]
  refine wpAnyH_ready (rs := [9]) (by kernel_rfl) (by simp) ?_
  refine AllReadyH.cons rfl (fun K hK => ?_) AllReadyH.nil
  rw [if_pos (by rfl)]
  go_simp
  with_reducible refine (CC2.out _).mono ?_
  rintro e w3 ⟨rfl, hb3⟩
  have HT3 := Lib.hid (two_call HT2.out hb3)
  have HB3 := Lib.hid (HB2.out.trans (hb3.mono HB2.out.size))
  clear hb3
  refine hK.out _ _ ?_ (fun hHeld => ?_)
  · exact HT3.out
  clear hK K
  try simp only [Act.put, List.getElem_toArray, List.getElem_cons_zero, List.getElem_cons_succ, List.setIfInBounds_toArray, List.set_cons_zero, List.set_cons_succ]
  refine wpAnyH_ready (rs := [10]) (by kernel_rfl) (by simp) ?_
  refine AllReadyH.cons rfl (fun K hK => ?_) AllReadyH.nil
  rw [if_pos (by rfl)]
  go_simp
  refine hK.out _ _ ?_ (fun hHeld => ?_)
  · exact two_alloc HT3.out _
  clear hK K
  try simp only [Act.put, List.getElem_toArray, List.getElem_cons_zero, List.getElem_cons_succ, List.setIfInBounds_toArray, List.set_cons_zero, List.set_cons_succ]
  refine wpAnyH_ready (rs := [11]) (by kernel_rfl) (by simp) ?_
  refine AllReadyH.cons rfl (fun K hK => ?_) AllReadyH.nil
  rw [if_pos (by rfl)]
  go_simp
  with_reducible refine (CX.out w3).mono ?_
  rintro e w4 ⟨rfl, hb4⟩
  have HT4 := Lib.hid (two_call HT3.out hb4)
  have HB4 := Lib.hid (HB3.out.trans (hb4.mono HB3.out.size))
  clear hb4
  refine hK.out _ _ ?_ (fun hHeld => ?_)
  · exact HT4.out
  clear hK K
  try simp only [Act.put, List.getElem_toArray, List.getElem_cons_zero, List.getElem_cons_succ, List.setIfInBounds_toArray, List.set_cons_zero, List.set_cons_succ]
  refine wpAnyH_take (i := 12) (v := ?_) rfl (by kernel_rfl) (by kernel_rfl) (by kernel_rfl) (fun _ _ _ h => h) (Or.inl ⟨by rfl, ?_⟩) (by assumption) ?_
  rotate_left
  · (intro w hSw; (obtain ⟨hS0, hS1⟩ := hSw); go_simp; (try with_reducible rfl))
  try simp only [Act.put, List.getElem_toArray, List.getElem_cons_zero, List.getElem_cons_succ, List.setIfInBounds_toArray, List.set_cons_zero, List.set_cons_succ]
  refine wpAnyH_done (by kernel_rfl) (NoPanic.normal ?_) _
  go_wp2
  go_ret
  exact ⟨rfl, HB4.out⟩
theorem labelled_key (k label ctx : List UInt8) (n : Nat) (w : World) (hl : label.length ≤ 1000) (hc : ctx.length ≤ 1000) (hn : n ≤ 8160) :
    Calls Try.prog 49 #[.agg #[.string ⟨(ko k).toArray⟩, .string ⟨(ki k).toArray⟩], .string ⟨label.toArray⟩, .string ⟨ctx.toArray⟩, .int .i64 n] w fun e w' => e = .returned (.string ⟨(lab (ko k) (ki k) label ctx n).toArray⟩) ∧ Below w.heap.size w w' :=
  labelled_of (ko k) (ki k) label ctx n w (by rw [ko_len]; omega) (by rw [ki_len]; omega) hl hc hn
/-- What Expand answers. -/
def exP (k info : List UInt8) (n : Int) : Ending := if 0 ≤ n ∧ n ≤ 8160 then .returned (.tuple #[.string ⟨(exq (ko k) (ki k) info n.toNat).toArray⟩, .int .i64 0]) else .returned (.tuple #[.string ⟨#[]⟩, .int .i64 1])
set_option maxHeartbeats 2000000 in
theorem expand_any (k info : List UInt8) (n : Int) (w : World) (hk : k.length ≤ 100000) (hi : info.length ≤ 10000) :
    Calls Try.prog 21 #[.string ⟨k.toArray⟩, .string ⟨info.toArray⟩, .int .i64 n] w fun e w' => e = exP k info n ∧ Below w.heap.size w w' := by
  have CE := Lib.hid (fun W => expands_any n W)
  by_cases hn : 0 ≤ n ∧ n ≤ 8160
  · obtain ⟨m, rfl⟩ : ∃ m : Nat, n = (m : Int) := ⟨n.toNat, by omega⟩
    have hm : m ≤ 8160 := by omega
    have HE : Hid (exP k info m = .returned (.tuple #[.string ⟨(exq (ko k) (ki k) info m).toArray⟩, .int .i64 0])) := Lib.hid (by unfold exP; rw [if_pos hn]; rfl)
    have C1 := Lib.hid (fun W => secretOf_any k W hk)
    have C2 : Hid (∀ W : World, Calls Try.prog 47 #[.agg #[.string ⟨(ko k).toArray⟩, .string ⟨(ki k).toArray⟩], .int .i64 m, .slice (some ⟨W.heap.size, 0, none⟩) 1 1] (W.alloc (.cells #[.string ⟨info.toArray⟩] 9)) fun e w' => e = .returned (.string ⟨(exq (ko k) (ki k) info m).toArray⟩) ∧ Below W.heap.size W w') := Lib.hid (fun W => by
      refine (expanded_of (ko k) (ki k) info m _ _ (by rw [ko_len]; omega) (by rw [ki_len]; omega) hi hm (Lib.hid fun W' hW' => join_new [⟨info.toArray⟩] _ rfl 1 rfl (by omega) _ (cat_1 _) (by omega) W W' W.heap.size rfl hW')).mono ?_
      rintro e w' ⟨h1, h2⟩
      exact ⟨h1, ((Below.refl _ _).alloc (Nat.le_refl _) _).trans (h2.mono (by simp))⟩)
    rw [decide_eq_true hn] at CE
    generalize exq (ko k) (ki k) info m = X at *
    generalize ko k = KO at *
    generalize ki k = KI at *
    go_enter Try.func21, Try.ntmps21
    go_wp2_with fail
    with_reducible refine (CE.out _).mono ?_
    rintro e w1 ⟨rfl, rfl⟩
    go_wp2_with fail
    with_reducible refine (C1.out _).mono ?_
    rintro e w2 ⟨rfl, hb⟩
    have HB2 := Lib.hid hb
    clear hb
    go_wp2_with fail
    with_reducible refine (C2.out _).mono ?_
    rintro e w3 ⟨rfl, hb⟩
    have HB3 := Lib.hid (HB2.out.trans (hb.mono HB2.out.size))
    clear hb
    go_wp2
    go_ret2
    exact ⟨HE.out.symm, HB3.out⟩
  · have HE : Hid (exP k info n = .returned (.tuple #[.string ⟨#[]⟩, .int .i64 1])) := Lib.hid (by unfold exP; rw [if_neg hn])
    rw [decide_eq_false hn] at CE
    go_enter Try.func21, Try.ntmps21
    go_wp2_with fail
    with_reducible refine (CE.out _).mono ?_
    rintro e w1 ⟨rfl, rfl⟩
    go_wp2
    go_ret2
    exact ⟨HE.out.symm, Below.refl _ _⟩
/-- What Label answers. -/
def lbP (k label ctx : List UInt8) (n : Int) : Ending := if (0 ≤ n ∧ n ≤ 8160) ∧ label.length ≤ 249 ∧ ctx.length ≤ 255 then .returned (.tuple #[.string ⟨(lab (ko k) (ki k) label ctx n.toNat).toArray⟩, .int .i64 0]) else .returned (.tuple #[.string ⟨#[]⟩, .int .i64 1])
set_option maxHeartbeats 2000000 in
theorem label_any (k label ctx : List UInt8) (n : Int) (w : World) (hk : k.length ≤ 100000) (hl : label.length ≤ 4000000) (hc : ctx.length ≤ 4000000) :
    Calls Try.prog 23 #[.string ⟨k.toArray⟩, .string ⟨label.toArray⟩, .string ⟨ctx.toArray⟩, .int .i64 n] w fun e w' => e = lbP k label ctx n ∧ Below w.heap.size w w' := by
  have CE := Lib.hid (fun W => expands_any n W)
  have hls : (⟨label.toArray⟩ : ByteArray).size = label.length := rfl
  have hcs : (⟨ctx.toArray⟩ : ByteArray).size = ctx.length := rfl
  by_cases hg : (0 ≤ n ∧ n ≤ 8160) ∧ label.length ≤ 249 ∧ ctx.length ≤ 255
  · obtain ⟨hn, hl2, hc2⟩ := hg
    obtain ⟨m, rfl⟩ : ∃ m : Nat, n = (m : Int) := ⟨n.toNat, by omega⟩
    have hm : m ≤ 8160 := by omega
    have HE : Hid (lbP k label ctx m = .returned (.tuple #[.string ⟨(lab (ko k) (ki k) label ctx m).toArray⟩, .int .i64 0])) := Lib.hid (by unfold lbP; rw [if_pos ⟨hn, hl2, hc2⟩]; rfl)
    have C1 := Lib.hid (fun W => secretOf_any k W hk)
    have C2 := Lib.hid (fun W => labelled_key k label ctx m W (by omega) (by omega) hm)
    rw [decide_eq_true hn] at CE
    generalize lab (ko k) (ki k) label ctx m = X at *
    generalize ko k = KO at *
    generalize ki k = KI at *
    have i1 : (label.length : Int) ≤ 249 := by omega
    have i2 : (ctx.length : Int) ≤ 255 := by omega
    go_enter Try.func23, Try.ntmps23
    go_wp2_with fail
    with_reducible refine (CE.out _).mono ?_
    rintro e w1 ⟨rfl, rfl⟩
    go_wp2_with fail
    with_reducible refine (C1.out _).mono ?_
    rintro e w2 ⟨rfl, hb⟩
    have HB2 := Lib.hid hb
    clear hb
    go_wp2_with fail
    with_reducible refine (C2.out _).mono ?_
    rintro e w3 ⟨rfl, hb⟩
    have HB3 := Lib.hid (HB2.out.trans (hb.mono HB2.out.size))
    clear hb
    go_wp2
    go_ret2
    exact ⟨HE.out.symm, HB3.out⟩
  · have HE : Hid (lbP k label ctx n = .returned (.tuple #[.string ⟨#[]⟩, .int .i64 1])) := Lib.hid (by unfold lbP; rw [if_neg hg])
    by_cases hn : 0 ≤ n ∧ n ≤ 8160
    · rw [decide_eq_true hn] at CE
      by_cases hl2 : label.length ≤ 249
      · have hc2 : ¬ (ctx.length : Int) ≤ 255 := by
          intro h
          exact hg ⟨hn, hl2, by omega⟩
        have i1 : (label.length : Int) ≤ 249 := by omega
        go_enter Try.func23, Try.ntmps23
        go_wp2_with fail
        with_reducible refine (CE.out _).mono ?_
        rintro e w1 ⟨rfl, rfl⟩
        go_wp2
        go_ret2
        exact ⟨HE.out.symm, Below.refl _ _⟩
      · have i1 : ¬ (label.length : Int) ≤ 249 := by omega
        go_enter Try.func23, Try.ntmps23
        go_wp2_with fail
        with_reducible refine (CE.out _).mono ?_
        rintro e w1 ⟨rfl, rfl⟩
        go_wp2
        go_ret2
        exact ⟨HE.out.symm, Below.refl _ _⟩
    · rw [decide_eq_false hn] at CE
      go_enter Try.func23, Try.ntmps23
      go_wp2_with fail
      with_reducible refine (CE.out _).mono ?_
      rintro e w1 ⟨rfl, rfl⟩
      go_wp2
      go_ret2
      exact ⟨HE.out.symm, Below.refl _ _⟩
def nxt (k : List UInt8) : List UInt8 := lab (ko k) (ki k) [113, 117, 105, 99, 32, 107, 117] [] 32
set_option maxHeartbeats 2000000 in
theorem next_any (k : List UInt8) (w : World) (hk : k.length ≤ 100000) :
    Calls Try.prog 29 #[.string ⟨k.toArray⟩] w fun e w' => e = .returned (.string ⟨(nxt k).toArray⟩) ∧ Below w.heap.size w w' := by
  have C1 := Lib.hid (fun W => secretOf_any k W hk)
  have C2 : Hid (∀ W : World, Calls Try.prog 49 #[.agg #[.string ⟨(ko k).toArray⟩, .string ⟨(ki k).toArray⟩], .string ⟨#[113, 117, 105, 99, 32, 107, 117]⟩, .string ⟨#[]⟩, .int .i64 32] W fun e w' => e = .returned (.string ⟨(nxt k).toArray⟩) ∧ Below W.heap.size W w') := Lib.hid (fun W => labelled_key k [113, 117, 105, 99, 32, 107, 117] [] 32 W (by decide) (by decide) (by decide))
  generalize nxt k = X at *
  generalize ko k = KO at *
  generalize ki k = KI at *
  go_enter Try.func29, Try.ntmps29
  go_wp2_with fail
  with_reducible refine (C1.out _).mono ?_
  rintro e w2 ⟨rfl, hb⟩
  have HB2 := Lib.hid hb
  clear hb
  go_wp2_with fail
  with_reducible refine (C2.out _).mono ?_
  rintro e w3 ⟨rfl, hb⟩
  have HB3 := Lib.hid (HB2.out.trans (hb.mono HB2.out.size))
  clear hb
  go_wp2
  go_ret
  exact ⟨rfl, HB3.out⟩
end Go.Proofs.Ythjphechdhbenaa.Kd
