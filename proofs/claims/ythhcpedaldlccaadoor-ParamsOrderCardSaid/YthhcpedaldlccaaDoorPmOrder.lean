/- The walk of the law ParamsOrder. -/
import Derived.Test.YthhcpedaldlccaaDoorPmNone
import Derived.Lib.ConvBytes
namespace Go.Proofs.YthhcpedaldlccaaDoor.Pm
open Go.RowKit Vm
set_option linter.unusedVariables false
set_option linter.unusedSimpArgs false

/-- The parameters that the law puts. -/
def pX (x y : Int) : Prm := { usual with size := x, idle := y }
theorem chk_pX (x y : Int) (h1 : 1200 ≤ x) (h2 : x < 4611686018427387904) (h3 : 0 ≤ y) (h4 : y < 4611686018427387904) : chkB (pX x y) = true := by
  have e : ∀ n, n < 15 → okAt (pX x y) n = true := by
    intro n hn
    match n, hn with
    | 1, _ => exact decide_eq_true ⟨h3, by show y ≤ 4611686018427387903; omega⟩
    | 3, _ => exact decide_eq_true ⟨h1, by show x ≤ 4611686018427387903; omega⟩
    | 0, _ | 2, _ | 4, _ | 5, _ | 6, _ | 7, _ | 8, _ | 9, _ | 10, _ | 11, _ | 12, _ | 13, _ | 14, _ => rfl
  unfold chkB
  rw [Bool.and_eq_true, List.all_eq_true]
  exact ⟨fun n hn => e n (by simpa using hn), rfl⟩
theorem wf_pX (x y : Int) (h1 : 1200 ≤ x) (h2 : x < 4611686018427387904) (h3 : 0 ≤ y) (h4 : y < 4611686018427387904) : Wf (pX x y) := ⟨⟨h3, by show y ≤ _; omega⟩, ⟨by show 0 ≤ x; omega, by show x ≤ _; omega⟩, usual_wf.data, usual_wf.bl, usual_wf.br, usual_wf.uni, usual_wf.bidis, usual_wf.unis, usual_wf.expo, usual_wf.delay, usual_wf.ids, usual_wf.tok⟩
theorem pairsN_x (x : Int) : pairsN (pX x 0) 15 = if ps x.toNat = ps 65527 then [] else [(3, ps x.toNat)] := by
  have e : ∀ k, k ≠ 3 → valL (pX x 0) k = valL usual k := by
    intro k hk
    match k with
    | 3 => exact absurd rfl hk
    | 0 | 1 | 2 | 4 | 5 | 6 | 7 | 8 | 9 | 10 | 11 | 12 | 13 | 14 => rfl
    | k + 15 => rfl
  have e3 : valL (pX x 0) 3 = ps x.toNat := rfl
  have u3 : valL usual 3 = ps 65527 := rfl
  simp only [pairsN, List.nil_append, e 0 (by decide), e 1 (by decide), e 2 (by decide), e 4 (by decide), e 5 (by decide), e 6 (by decide), e 7 (by decide), e 8 (by decide), e 9 (by decide), e 10 (by decide), e 11 (by decide), e 12 (by decide), e 13 (by decide), e 14 (by decide), if_true, List.append_nil, e3, u3]
theorem pairsN_y (y : Int) : pairsN (pX 65527 y) 15 = if ps y.toNat = ps 0 then [] else [(1, ps y.toNat)] := by
  have e : ∀ k, k ≠ 1 → valL (pX 65527 y) k = valL usual k := by
    intro k hk
    match k with
    | 1 => exact absurd rfl hk
    | 0 | 3 | 2 | 4 | 5 | 6 | 7 | 8 | 9 | 10 | 11 | 12 | 13 | 14 => rfl
    | k + 15 => rfl
  have e3 : valL (pX 65527 y) 1 = ps y.toNat := rfl
  have u3 : valL usual 1 = ps 0 := rfl
  simp only [pairsN, List.nil_append, e 0 (by decide), e 3 (by decide), e 2 (by decide), e 4 (by decide), e 5 (by decide), e 6 (by decide), e 7 (by decide), e 8 (by decide), e 9 (by decide), e 10 (by decide), e 11 (by decide), e 12 (by decide), e 13 (by decide), e 14 (by decide), if_true, List.append_nil, e3, u3]
/-- What stands between: a pair of a number that there is not. -/
def midL (o : List UInt8) : List UInt8 := [64, 255] ++ [UInt8.ofNat o.length] ++ o
theorem mid_pair (o : List UInt8) (h : o.length ≤ 60) : midL o = pairL (255 : Nat) o := by
  unfold midL pairL
  have h1 : ps ((255 : Nat) : Int).toNat = [64, 255] := by decide
  have h2 : ps o.length = [UInt8.ofNat o.length] := by
    rw [(ps_ok (pl_fit (by omega))).1]
    have := pt_0 o.length (by omega)
    rw [← this]
    show [UInt8.ofNat (o.length / 256 ^ 0 % 256)] = _
    rw [Nat.pow_zero, Nat.div_one, Nat.mod_eq_of_lt (by omega)]
  rw [h1, h2]
/-- Pairs, one behind the other, taken. -/
theorem get_cat (P : List (Nat × List UInt8)) (h : ∀ x ∈ P, x.1 < 4611686018427387904 ∧ x.2.length < 4611686018427387904) :
    getO ((P.map fun x => pairL (x.1 : Nat) x.2).flatten) = match goG (P.map some) with
      | some (p, _) => if chkB p = true then some p else none
      | none => none := by
  have h2 := prs_cat P [] h
  rw [List.append_nil, prs_nil, List.append_nil] at h2
  unfold getO
  rw [h2]
  rfl
theorem st3 (q : Prm) (cs : List Nat) (x : Int) (h0 : 0 ≤ x) (h : x < 4611686018427387904) (hc : 3 ∉ cs) : stepG (some (q, cs)) (some (3, ps x.toNat)) = some ({ q with size := x }, 3 :: cs) := by
  have hb := back_ps (a := x.toNat) (by omega)
  rw [step_some, if_neg hc, if_pos (show tkB q 3 (ps x.toNat) = true from hb.2)]
  show some (({ q with size := ((gN (ps x.toNat) : Nat) : Int) } : Prm), 3 :: cs) = _
  rw [hb.1, Int.toNat_of_nonneg h0]
theorem st1 (q : Prm) (cs : List Nat) (x : Int) (h0 : 0 ≤ x) (h : x < 4611686018427387904) (hc : 1 ∉ cs) : stepG (some (q, cs)) (some (1, ps x.toNat)) = some ({ q with idle := x }, 1 :: cs) := by
  have hb := back_ps (a := x.toNat) (by omega)
  rw [step_some, if_neg hc, if_pos (show tkB q 1 (ps x.toNat) = true from hb.2)]
  show some (({ q with idle := ((gN (ps x.toNat) : Nat) : Int) } : Prm), 1 :: cs) = _
  rw [hb.1, Int.toNat_of_nonneg h0]
theorem st255 (q : Prm) (cs : List Nat) (o : List UInt8) (hc : 255 ∉ cs) : stepG (some (q, cs)) (some (255, o)) = some (q, 255 :: cs) := by
  rw [step_some, if_neg hc, if_pos (show tkB q 255 o = true from rfl)]; rfl
theorem st255n (q : Prm) (cs : List Nat) (o : List UInt8) (hc : 255 ∈ cs) : stepG (some (q, cs)) (some (255, o)) = none := by
  rw [step_some, if_pos hc]
theorem ps_eq {a : Int} (ha : 0 ≤ a) (ha2 : a < 4611686018427387904) (b' : Nat) (hb' : b' < 4611686018427387904) (h : ps a.toNat = ps b') : a = b' := by
  have := ps_inj (a := a.toNat) (b := b') (by omega) hb' h
  omega
/-- Each number that was taken is among those that came. -/
theorem foldG_came : ∀ (xs : List (Option (Nat × List UInt8))) (q : Prm) (ds : List Nat) (p : Prm) (cs : List Nat), xs.foldl stepG (some (q, ds)) = some (p, cs) → (∀ n ∈ ds, n ∈ cs) ∧ ∀ x, some x ∈ xs → x.1 ∈ cs
  | [], q, ds, p, cs, h => by
    simp only [List.foldl_nil, Option.some.injEq, Prod.mk.injEq] at h
    obtain ⟨_, rfl⟩ := h
    exact ⟨fun n hn => hn, fun x hx => by cases hx⟩
  | none :: xs, q, ds, p, cs, h => by
    rw [List.foldl_cons, show stepG (some (q, ds)) none = none from rfl, foldG_none] at h; cases h
  | some (n, v) :: xs, q, ds, p, cs, h => by
    rw [List.foldl_cons, step_some] at h
    split at h
    · rw [foldG_none] at h; cases h
    · split at h
      · have ih := foldG_came xs _ _ p cs h
        refine ⟨fun m hm => ih.1 m (List.mem_cons_of_mem _ hm), fun x hx => ?_⟩
        rcases List.mem_cons.1 hx with hx | hx
        · cases hx; exact ih.1 n (List.mem_cons_self ..)
        · exact ih.2 x hx
      · rw [foldG_none] at h; cases h
theorem goG_came (P : List (Nat × List UInt8)) (q : Prm) (cs : List Nat) (h : goG (P.map some) = some (q, cs)) (x : Nat × List UInt8) (hx : x ∈ P) : x.1 ∈ cs :=
  (foldG_came _ _ _ _ _ h).2 x (List.mem_map.2 ⟨x, hx, rfl⟩)
theorem order_ok (x y : Int) (o : List UInt8) (ho : o.length ≤ 60) (h1 : 1200 ≤ x) (h2 : x < 4611686018427387904) (h3 : 0 ≤ y) (h4 : y < 4611686018427387904) : getO (putL (pX x 0) ++ midL o ++ putL (pX 65527 y)) = some (pX x y) := by
  have hg := get_cat (pairsN (pX x 0) 15 ++ [(255, o)] ++ pairsN (pX 65527 y) 15) (by
    intro z hz
    rw [List.mem_append, List.mem_append] at hz
    rcases hz with (hz | hz) | hz
    · exact pairsN_bound (pX x 0) usual_wf.tok 15 (Nat.le_refl _) z hz
    · rw [List.mem_singleton] at hz; subst hz; exact ⟨by show 255 < _; omega, by show o.length < _; omega⟩
    · exact pairsN_bound (pX 65527 y) usual_wf.tok 15 (Nat.le_refl _) z hz)
  rw [List.map_append, List.map_append, List.flatten_append, List.flatten_append, ← putN_pairs, ← putN_pairs] at hg
  have hm : (List.map (fun x : Nat × List UInt8 => pairL ((x.1 : Nat) : Int) x.2) [(255, o)]).flatten = midL o := by rw [mid_pair o ho]; simp
  rw [hm] at hg
  show getO (putN (pX x 0) 15 ++ midL o ++ putN (pX 65527 y) 15) = _
  rw [hg, pairsN_x, pairsN_y]
  have hf : ∃ cs, goG (List.map some ((if ps x.toNat = ps 65527 then [] else [(3, ps x.toNat)]) ++ [(255, o)] ++ (if ps y.toNat = ps 0 then [] else [(1, ps y.toNat)]))) = some (pX x y, cs) := by
    by_cases hx : ps x.toNat = ps 65527
    · have ex := ps_eq (by omega) h2 65527 (by decide) hx
      by_cases hy : ps y.toNat = ps 0
      · have ey := ps_eq h3 h4 0 (by decide) hy
        subst ex ey
        rw [if_pos hx, if_pos hy]
        refine ⟨[255], ?_⟩
        show stepG (some (usual, [])) (some (255, o)) = _
        exact st255 usual [] o (by decide)
      · subst ex
        rw [if_pos hx, if_neg hy]
        refine ⟨[1, 255], ?_⟩
        show stepG (stepG (some (usual, [])) (some (255, o))) (some (1, ps y.toNat)) = _
        rw [st255 _ _ _ (by decide), st1 _ _ _ h3 h4 (by decide)]
        rfl
    · by_cases hy : ps y.toNat = ps 0
      · have ey := ps_eq h3 h4 0 (by decide) hy
        subst ey
        rw [if_neg hx, if_pos hy]
        refine ⟨[255, 3], ?_⟩
        show stepG (stepG (some (usual, [])) (some (3, ps x.toNat))) (some (255, o)) = _
        rw [st3 _ _ _ (by omega) h2 (by decide), st255 _ _ _ (by decide)]
        rfl
      · rw [if_neg hx, if_neg hy]
        refine ⟨[1, 255, 3], ?_⟩
        show stepG (stepG (stepG (some (usual, [])) (some (3, ps x.toNat))) (some (255, o))) (some (1, ps y.toNat)) = _
        rw [st3 _ _ _ (by omega) h2 (by decide), st255 _ _ _ (by decide), st1 _ _ _ h3 h4 (by decide)]
        rfl
  obtain ⟨cs, hf⟩ := hf
  rw [hf]
  simp only
  rw [if_pos (chk_pX x y h1 h2 h3 h4)]
theorem order_no (x y : Int) (o : List UInt8) (ho : o.length ≤ 60) : getO (midL o ++ putL (pX x 0) ++ putL (pX 65527 y) ++ midL o) = none := by
  have hg := get_cat ([(255, o)] ++ pairsN (pX x 0) 15 ++ pairsN (pX 65527 y) 15 ++ [(255, o)]) (by
    intro z hz
    rw [List.mem_append, List.mem_append, List.mem_append] at hz
    rcases hz with ((hz | hz) | hz) | hz
    · rw [List.mem_singleton] at hz; subst hz; exact ⟨by show 255 < _; omega, by show o.length < _; omega⟩
    · exact pairsN_bound (pX x 0) usual_wf.tok 15 (Nat.le_refl _) z hz
    · exact pairsN_bound (pX 65527 y) usual_wf.tok 15 (Nat.le_refl _) z hz
    · rw [List.mem_singleton] at hz; subst hz; exact ⟨by show 255 < _; omega, by show o.length < _; omega⟩)
  have hm : (List.map (fun x : Nat × List UInt8 => pairL ((x.1 : Nat) : Int) x.2) [(255, o)]).flatten = midL o := by rw [mid_pair o ho]; simp
  rw [List.map_append, List.map_append, List.map_append, List.flatten_append, List.flatten_append, List.flatten_append, ← putN_pairs, ← putN_pairs, hm] at hg
  show getO (midL o ++ putN (pX x 0) 15 ++ putN (pX 65527 y) 15 ++ midL o) = _
  rw [hg]
  have hd : goG (List.map some ([(255, o)] ++ pairsN (pX x 0) 15 ++ pairsN (pX 65527 y) 15 ++ [(255, o)])) = none := by
    rw [List.map_append]
    show goG (List.map some ([(255, o)] ++ pairsN (pX x 0) 15 ++ pairsN (pX 65527 y) 15) ++ [some (255, o)]) = none
    rw [goG_snoc]
    rcases hr : goG (List.map some ([(255, o)] ++ pairsN (pX x 0) 15 ++ pairsN (pX 65527 y) 15)) with _ | ⟨q, cs⟩
    · rfl
    · refine st255n q cs o ?_
      refine goG_came _ _ _ hr (255, o) ?_
      simp
  rw [hd]
theorem conv1 (n : Nat) (W : World) (g : Nat) (h : W.cell? ⟨g, 0, none⟩ = some (.int .u8 n)) :
    (convert 40 9 (.slice (some ⟨g, 0, none⟩) 1 1)).run Tryd.prog W = .ok (.string ⟨#[UInt8.ofNat n]⟩) W := by
  have := run_convert_bytes_arg (P := Tryd.prog) W 40 5 Tryd.underlying40 Tryd.underlying5 g 0 1 1 [(n : Int)] (by simp) (fun i hi => by
    have : i = 0 := by omega
    subst this
    simpa using h) 9 Tryd.underlying9
  rw [this]
  congr 2
set_option maxHeartbeats 8000000 in
theorem order_long (a b : Int) (o : List UInt8) (w : World) (ht : Tabs w) (h : (60 : Int) < (o.length : Nat)) : Calls Tryd.prog 5 #[.int .u64 a, .int .u64 b, .string ⟨o.toArray⟩] w fun e w' => e = .returned (.bool true) ∧ Below w.heap.size w w' := by
  have CS : Hid (∀ w, Tabs w → Calls Tryd.prog 8 #[] w fun e w' => e = .returned (.bool true) ∧ Below w.heap.size w w') := Lib.hid shown_any
  have HT := Lib.hid ht
  clear ht
  go_enter Tryd.func5, Tryd.ntmps5
  go_wp2_with fail
  refine (CS.out _ HT.out).mono ?_
  rintro e w1 ⟨rfl, hb⟩
  have H1 := Lib.hid hb
  clear hb
  go_wp2
  go_ret
  exact ⟨rfl, H1.out⟩
set_option maxHeartbeats 8000000 in
theorem order_short (a b x y : Int) (o : List UInt8) (w : World) (ht : Tabs w) (h : ¬ (60 : Int) < (o.length : Nat)) (ha : 0 ≤ a) (hb0 : 0 ≤ b) (m : Int) (hm : a.tmod 60000 = m) (hx : 1200 + m = x) (hy : b.tmod 4000000000 = y) : Calls Tryd.prog 5 #[.int .u64 a, .int .u64 b, .string ⟨o.toArray⟩] w fun e w' => e = .returned (.bool true) ∧ Below w.heap.size w w' := by
  have bm : 0 ≤ m ∧ m < 60000 := by rw [← hm, Int.tmod_eq_emod_of_nonneg ha]; omega
  have bx : 1200 ≤ x ∧ x < 100000 := by omega
  have by0 : 0 ≤ y ∧ y < 4000000000 := by rw [← hy, Int.tmod_eq_emod_of_nonneg hb0]; omega
  have cx := chk_pX x 0 bx.1 (by omega) (by decide) (by decide)
  have cy := chk_pX 65527 y (by decide) (by decide) by0.1 (by omega)
  have fx := wf_pX x 0 bx.1 (by omega) (by decide) (by decide)
  have fy := wf_pX 65527 y (by decide) (by decide) by0.1 (by omega)
  have lx : (putL (pX x 0)).length ≤ 600 := Nat.le_trans (putN_few _ (by show 0 ≤ 16; decide) 15) (by decide)
  have ly : (putL (pX 65527 y)).length ≤ 600 := Nat.le_trans (putN_few _ (by show 0 ≤ 16; decide) 15) (by decide)
  have ok := order_ok x y o (by omega) bx.1 (by omega) by0.1 (by omega)
  have no := order_no x y o (by omega)
  obtain ⟨s, Es⟩ : ∃ s, putL (pX x 0) = s := ⟨_, rfl⟩
  obtain ⟨t, Et⟩ : ∃ t, putL (pX 65527 y) = t := ⟨_, rfl⟩
  have CX : Hid (∀ w, Tabs w → Calls Tryd.prog 9 #[(.agg #[.int .u64 0, .int .u64 x, .int .u64 0, .int .u64 0, .int .u64 0, .int .u64 0, .int .u64 0, .int .u64 0, .int .u64 3, .int .u64 25, .int .u64 2, .string ⟨#[]⟩])] w fun e w' => e = .returned (.tuple #[.string ⟨s.toArray⟩, .int .i64 0]) ∧ Below w.heap.size w w') := Lib.hid (fun w ht => by
    have := put_some cx w fx ht
    rw [Es] at this
    exact this)
  have CY : Hid (∀ w, Tabs w → Calls Tryd.prog 9 #[(.agg #[.int .u64 y, .int .u64 65527, .int .u64 0, .int .u64 0, .int .u64 0, .int .u64 0, .int .u64 0, .int .u64 0, .int .u64 3, .int .u64 25, .int .u64 2, .string ⟨#[]⟩])] w fun e w' => e = .returned (.tuple #[.string ⟨t.toArray⟩, .int .i64 0]) ∧ Below w.heap.size w w') := Lib.hid (fun w ht => by
    have := put_some cy w fy ht
    rw [Et] at this
    exact this)
  rw [Es, Et] at ok no
  rw [Es] at lx
  rw [Et] at ly
  have lm : (midL o).length = o.length + 3 := by simp [midL]
  have CG : Hid (∀ w, Tabs w → Calls Tryd.prog 11 #[.string ⟨(s ++ midL o ++ t).toArray⟩] w fun e w' => e = .returned (.tuple #[(.agg #[.int .u64 y, .int .u64 x, .int .u64 0, .int .u64 0, .int .u64 0, .int .u64 0, .int .u64 0, .int .u64 0, .int .u64 3, .int .u64 25, .int .u64 2, .string ⟨#[]⟩]), .int .i64 0]) ∧ Below w.heap.size w w') := Lib.hid (fun w ht => get_some ok w (by simp only [List.length_append]; omega) ht)
  have CN : Hid (∀ w, Tabs w → Calls Tryd.prog 11 #[.string ⟨(midL o ++ s ++ t ++ midL o).toArray⟩] w fun e w' => e = .returned (.tuple #[(.agg #[.int .u64 0, .int .u64 0, .int .u64 0, .int .u64 0, .int .u64 0, .int .u64 0, .int .u64 0, .int .u64 0, .int .u64 0, .int .u64 0, .int .u64 0, .string ⟨#[]⟩]), .int .i64 50]) ∧ Below w.heap.size w w') := Lib.hid (fun w ht => get_none no w (by simp only [List.length_append]; omega) ht)
  have CS : Hid (∀ w, Tabs w → Calls Tryd.prog 8 #[] w fun e w' => e = .returned (.bool true) ∧ Below w.heap.size w w') := Lib.hid shown_any
  have HT := Lib.hid ht
  have hlo : IntKind.u8.wrap ((o.length : Nat) : Int) = ((o.length : Nat) : Int) := by rw [IntKind.wrap_u8]; omega
  have CV := Lib.hid (conv1 o.length)
  clear ht ha hb0 cx cy fx fy ok no Es Et lm
  go_enter Tryd.func5, Tryd.ntmps5
  go_wp2_with fail
  refine (CS.out _ HT.out).mono ?_
  rintro e w1 ⟨rfl, hb⟩
  have H1 := Lib.hid hb
  clear hb
  go_wp2_with fail
  refine (default_any _).mono ?_
  rintro e w2 ⟨rfl, hb⟩
  have H2 := Lib.hid (H1.out.trans (hb.mono H1.out.size))
  clear hb
  go_wp2_with fail
  refine (CX.out _ (HT.out.below (H2.out.alloc H2.out.size _) (Nat.le_refl _))).mono ?_
  rintro e w3 ⟨rfl, hb⟩
  have HP3 : Hid (PBk w2.heap.size (pX x y) w3) := Lib.hid ((PBk.made w2 (pX x y)).keep hb)
  have H3 := Lib.hid ((H2.out.alloc H2.out.size _).trans (hb.mono (by have := H2.out.size; simp; omega)))
  clear hb
  go_wp2_with fail
  refine (CY.out _ (HT.out.below H3.out (Nat.le_refl _))).mono ?_
  rintro e w4 ⟨rfl, hb⟩
  have HP4 := Lib.hid (HP3.out.keep hb)
  have H4 := Lib.hid (H3.out.trans (hb.mono H3.out.size))
  have CV4 := CV.out (w4.alloc (.cells #[.int .u8 ((o.length : Nat) : Int)] 5)) w4.heap.size (by simp [go_sem])
  clear hb HP3
  go_wp2_with fail
  have EG : ((⟨s.toArray⟩ : ByteArray) ++ (⟨#[64, 255]⟩ ++ ⟨#[UInt8.ofNat o.length]⟩ ++ ⟨o.toArray⟩) ++ ⟨t.toArray⟩) = ⟨(s ++ midL o ++ t).toArray⟩ := by
    apply ByteArray.ext
    simp [midL]
  rw [EG]
  refine (CG.out _ (HT.out.below (H4.out.alloc H4.out.size _) (Nat.le_refl _))).mono ?_
  rintro e w5 ⟨rfl, hb⟩
  have HP5 := Lib.hid ((HP4.out.keep ((Below.refl _ _).alloc (Nat.le_refl _) _)).keep hb)
  have H5 := Lib.hid ((H4.out.alloc H4.out.size _).trans (hb.mono (by have := H4.out.size; simp; omega)))
  clear hb HP4 CV4
  go_wp2_with fail
  have EN : ((⟨#[64, 255]⟩ : ByteArray) ++ ⟨#[UInt8.ofNat o.length]⟩ ++ ⟨o.toArray⟩ ++ ⟨s.toArray⟩ ++ ⟨t.toArray⟩ ++ (⟨#[64, 255]⟩ ++ ⟨#[UInt8.ofNat o.length]⟩ ++ ⟨o.toArray⟩)) = ⟨(midL o ++ s ++ t ++ midL o).toArray⟩ := by
    apply ByteArray.ext
    simp [midL]
  rw [EN]
  refine (CN.out _ (HT.out.below (H5.out.alloc H5.out.size _) (Nat.le_refl _))).mono ?_
  rintro e w6 ⟨rfl, hb⟩
  have HP6 := Lib.hid ((HP5.out.keep ((Below.refl _ _).alloc (Nat.le_refl _) _)).keep hb)
  have HR6 : Hid (PBk w5.heap.size (pX x y) w6) := Lib.hid ((PBk.made w5 (pX x y)).keep hb)
  have H6 := Lib.hid ((H5.out.alloc H5.out.size _).trans (hb.mono (by have := H5.out.size; simp; omega)))
  clear hb HP5
  have hlP := HP6.out.lt
  have hlR := HR6.out.lt
  obtain ⟨p0, p1, p2, p3, p4, p5, p6, p7, p8, p9, p10, p11⟩ := pcells (v0 := y) (v1 := x) (v2 := 0) (v3 := 0) (v4 := 0) (v5 := 0) (v6 := 0) (v7 := 0) (v8 := 3) (v9 := 25) (v10 := 2) (v11 := #[]) HP6.out rfl
  obtain ⟨r0, r1, r2, r3, r4, r5, r6, r7, r8, r9, r10, r11⟩ := pcells (v0 := y) (v1 := x) (v2 := 0) (v3 := 0) (v4 := 0) (v5 := 0) (v6 := 0) (v7 := 0) (v8 := 3) (v9 := 25) (v10 := 2) (v11 := #[]) HR6.out rfl
  clear EG EN
  go_wp2
  go_ret
  exact ⟨rfl, H6.out.alloc H6.out.size _⟩
theorem order_any (a b : Int) (o : List UInt8) (w : World) (ht : Tabs w) (w0 : (Lit.int .u64 a).wf = true) (w1 : (Lit.int .u64 b).wf = true) (w2 : (⟨o.toArray⟩ : ByteArray).size ≤ maxLen) : Calls Tryd.prog 5 #[.int .u64 a, .int .u64 b, .string ⟨o.toArray⟩] w fun e w' => e = .returned (.bool true) ∧ Below w.heap.size w w' := by
  by_cases h : (60 : Int) < (o.length : Nat)
  · exact order_long a b o w ht h
  · exact order_short a b _ _ o w ht h (bounds_u64 w0).1 (bounds_u64 w1).1 _ rfl rfl rfl
end Go.Proofs.YthhcpedaldlccaaDoor.Pm
