/- The walks of layer 3: without, and its iterator. -/
import Derived.Test.YtoblmhpjendbfaaGreatDoorJb03
namespace Go.Proofs.YtoblmhpjendbfaaGreatDoor.Rg
set_option maxRecDepth 20000
open Go.RowKit Go.Shelf
set_option linter.unusedVariables false

/-- The gaps ahead of each, and where the last one begins. -/
def gpre : Int → List Ran → List Ran
  | _, [] => []
  | lo, x :: l => (if lo < x.1 then [(lo, x.1 - 1)] else []) ++ gpre (x.2 + 1) l
def glast : Int → List Ran → Int
  | lo, [] => lo
  | _, x :: l => glast (x.2 + 1) l
theorem gaps_eq : ∀ (l : List Ran) (lo hi : Int), gaps lo hi l = gpre lo l ++ (if glast lo l ≤ hi then [(glast lo l, hi)] else [])
  | [], lo, hi => by rw [gaps, gpre, glast, List.nil_append]
  | x :: l, lo, hi => by rw [gaps, gpre, glast, gaps_eq l, List.append_assoc]
theorem glast_snoc : ∀ (l : List Ran) (lo : Int) (x : Ran), glast lo (l ++ [x]) = x.2 + 1
  | [], lo, x => rfl
  | y :: l, lo, x => glast_snoc l (y.2 + 1) x
theorem gpre_snoc : ∀ (l : List Ran) (lo : Int) (x : Ran), gpre lo (l ++ [x]) = gpre lo l ++ (if glast lo l < x.1 then [(glast lo l, x.1 - 1)] else [])
  | [], lo, x => by rw [List.nil_append, gpre, gpre, gpre, glast, List.nil_append, List.append_nil]
  | y :: l, lo, x => by rw [List.cons_append, gpre, gpre, glast, gpre_snoc l, List.append_assoc]
theorem gpre_append : ∀ (l m : List Ran) (lo : Int), gpre lo (l ++ m) = gpre lo l ++ gpre (glast lo l) m
  | [], m, lo => rfl
  | y :: l, m, lo => by rw [List.cons_append, gpre, gpre, glast, gpre_append l, List.append_assoc]
theorem gpre_prefix {l m : List Ran} (h : l <+: m) (lo hi : Int) : gpre lo l <+: gaps lo hi m := by
  obtain ⟨t, rfl⟩ := h
  rw [gaps_eq, gpre_append]
  exact ⟨gpre (glast lo l) t ++ _, by rw [List.append_assoc]⟩
theorem glast_ge : ∀ (l : List Ran) (lo : Int), 0 ≤ lo → (∀ x ∈ l, 0 ≤ x.2) → 0 ≤ glast lo l
  | [], lo, h, _ => h
  | x :: l, lo, h, hl => glast_ge l (x.2 + 1) (by have := hl x (List.mem_cons_self ..); omega) (fun y hy => hl y (List.mem_cons_of_mem _ hy))

set_option maxHeartbeats 400000 in
theorem without_any (a : Option Addr) (n cap : Nat) (lo hi : Int) (w : World) : Calls Tryz.prog 167 #[.slice a n cap, .agg #[.int .u64 lo, .int .u64 hi]] w fun e w' =>
    e = .returned (.func (.func 193) #[] #[.pointer (some ⟨w.heap.size + 1, 0, none⟩), .pointer (some ⟨w.heap.size, 0, none⟩)]) ∧ w' = (w.alloc (.cells #[.slice a n cap] 28)).alloc (.cells #[.int .u64 lo, .int .u64 hi] 153) := by
  go_enter Tryz.func167, Tryz.ntmps167
  go_wp2
  go_ret
  exact ⟨rfl, rfl⟩

/-- Between two rounds of without's loop. -/
def OutI (J : List Ran → (Nat → Prop) → World → Prop) (lo hi : Int) (lp Y N : Nat) (own R : Nat → Prop) (W : World) (pre : List Ran) (O : Nat → Prop) (A : World) : Prop :=
  J (gpre lo pre) (fun q => O q ∨ own q) A ∧ (∀ q, O q → N ≤ q) ∧ N ≤ A.heap.size ∧ A.heap[Y]? = some (.cells #[.func (.yield lp) #[] #[]] 249 (0, 0)) ∧
    A.heap[Y + 1]? = some (.cells #[.int .u64 (glast lo pre), .int .u64 hi] 153 (0, 0)) ∧ ∀ q, R q → A.heap[q]? = W.heap[q]?
/-- Where a round has left it. -/
def OutX (Jx : List Ran → (Nat → Prop) → World → Prop) (l : List Ran) (N : Nat) (own : Nat → Prop) (c : Code) (pre : List Ran) (O : Nat → Prop) (A : World) : Prop :=
  c = .ret ∧ (∃ p, p <+: l ∧ Jx p (fun q => O q ∨ own q) A) ∧ (∀ q, O q → N ≤ q) ∧ N ≤ A.heap.size
theorem outI_stable {J : List Ran → (Nat → Prop) → World → Prop} (hJ : Stable J) {lo hi : Int} {lp Y N : Nat} {own R : Nat → Prop} {W : World} (hY : Y + 1 < N) (hR : ∀ q, R q → q < N) : Stable (OutI J lo hi lp Y N own R W) := by
  rintro pre O O' A B ⟨h1, h2, h3, h4, h6, h5⟩ ho g2
  have hn : ∀ q, q < N → ¬ O q := fun q hq h => by have := h2 q h; omega
  exact ⟨stab_own hJ own h1 ho g2, grow_ge h2 h3 g2, Nat.le_trans h3 ho.size, ho.heap h4 (hn Y (by omega)), ho.heap h6 (hn _ hY), fun q hq => (ho.block q (by have := hR q hq; omega) (hn q (hR q hq))).trans (h5 q hq)⟩
theorem outX_stable {Jx : List Ran → (Nat → Prop) → World → Prop} (hJx : Stable Jx) {l : List Ran} {N : Nat} {own : Nat → Prop} (c : Code) : Stable (OutX Jx l N own c) := by
  rintro pre O O' A B ⟨h1, ⟨p, hp, h2⟩, h3, h4⟩ ho g2
  exact ⟨h1, ⟨p, hp, stab_own hJx own h2 ho g2⟩, grow_ge h3 h4 g2, Nat.le_trans h4 ho.size⟩
theorem two_cells {A : World} {B : Nat} {u v : Value} {t : TypeId} (h : A.heap[B]? = some (.cells #[u, v] t (0, 0))) : A.cell? ⟨B, 0, none⟩ = some u ∧ A.cell? ⟨B, 1, none⟩ = some v ∧ A.frozen? ⟨B, 0, none⟩ = false ∧ A.frozen? ⟨B, 1, none⟩ = false := by
  simp [World.cell?, World.frozen?, h]

theorem set_first {A : World} {B : Nat} {u v : Value} {t : TypeId} (h : A.heap[B]? = some (.cells #[u, v] t (0, 0))) (u' : Value) : (A.setCell ⟨B, 0, none⟩ u').heap[B]? = some (.cells #[u', v] t (0, 0)) := by
  obtain ⟨hlt, hk⟩ := Array.getElem?_eq_some_iff.1 h
  show (A.heap.modify B _)[B]? = _
  rw [Array.getElem?_eq_getElem (by rw [Array.size_modify]; exact hlt), Array.getElem_modify_self, hk]
  rfl
attribute [local go_sem] Oper.semAt_some
set_option maxHeartbeats 2000000 in
/-- The iterator that without tells. -/
theorem without_iter (Br Bs : Nat) (v : Value) (l : List Ran) (lo hi : Int) (w : World) (hl : l.length ≤ 1000) (hcan : Can l) (h0 : 0 ≤ lo) (h1 : hi < 9223372036854775808) (hBs : w.cell? ⟨Bs, 0, none⟩ = some v) (hrd : Rd w v l)
    (hB1 : w.cell? ⟨Br, 0, none⟩ = some (.int .u64 lo)) (hB2 : w.cell? ⟨Br, 1, none⟩ = some (.int .u64 hi)) :
    Iter Tryz.prog 193 #[.pointer (some ⟨Br, 0, none⟩), .pointer (some ⟨Bs, 0, none⟩)] (lack l (lo, hi)) (fun k => k = Br ∨ k = Bs ∨ Blk v k) w := by
  intro lp J Jx W hR hsz hJ hJx hY hj0
  have hs : W.cell? ⟨Bs, 0, none⟩ = some v := (World.cell?_of_block (a := ⟨Bs, 0, none⟩) (hR Bs (.inr (.inl rfl)))).trans hBs
  have hr1 : W.cell? ⟨Br, 0, none⟩ = some (.int .u64 lo) := (World.cell?_of_block (a := ⟨Br, 0, none⟩) (hR Br (.inl rfl))).trans hB1
  have hr2 : W.cell? ⟨Br, 1, none⟩ = some (.int .u64 hi) := (World.cell?_of_block (a := ⟨Br, 1, none⟩) (hR Br (.inl rfl))).trans hB2
  have hrd' : Rd W v l := hrd.keep (fun k hk => hR k (.inr (.inr hk)))
  have hBsl : Bs < W.heap.size := World.block_lt_of_cell? W _ hs
  have hBrl : Br < W.heap.size := World.block_lt_of_cell? W _ hr1
  obtain ⟨a, cap, rfl, hcap, -⟩ := id hrd'
  have HRD := Lib.hid hrd'
  clear hrd hBs hB1 hB2 hrd'
  have HY := Lib.hid hY
  have HJ := Lib.hid hJ
  have HJx := Lib.hid hJx
  have H0 := Lib.hid hj0
  clear hY hJ hJx hj0 hR
  have hRN : Hid (∀ q, (q = Br ∨ q = Bs ∨ Blk (.slice a l.length cap) q) → q < W.heap.size) := Lib.hid (fun q hq => by rcases hq with rfl | rfl | hq; (exact hBrl); (exact hBsl); (exact HRD.out.blk hq))
  have hPC := Lib.hid (parts_can hcan (lo, hi))
  refine callsIn_of_wp_marks Tryz.func193 rfl trivial ?_ rfl
  simp only [Tryz.ntmps193, List.size_toArray, List.length_cons, List.length_nil, Nat.reduceAdd, Nat.reduceSub, Array.replicate_succ, Array.replicate_zero, List.push_toArray, List.append_toArray, List.nil_append, List.cons_append]
  have hBsl1 : Bs < W.heap.size + 1 := by omega
  have hBrl1 : Br < W.heap.size + 1 := by omega
  gi_wp2_with fail
  refine ⟨trivial, rfl, (callsIn_wide.2 (within_any _ _ _ _ _ _)).mono ?_⟩
  rintro e w3 ⟨rfl, rfl⟩
  gi_wp2_with fail
  have old : ∀ q, q < W.heap.size → ((((W.alloc (.cells #[.func (.yield lp) #[] #[]] 249)).alloc (.cells #[.int .u64 lo, .int .u64 hi] 153)).alloc (.cells #[.slice a l.length cap] 28)).alloc (.cells #[.int .u64 lo, .int .u64 hi] 153)).heap[q]? = W.heap[q]? := fun q hq => by
    rw [Below.heap_alloc _ _ _ (by simp <;> omega), Below.heap_alloc _ _ _ (by simp <;> omega), Below.heap_alloc _ _ _ (by simp <;> omega), Below.heap_alloc _ _ _ (by omega)]
  have b0 : ((((W.alloc (.cells #[.func (.yield lp) #[] #[]] 249)).alloc (.cells #[.int .u64 lo, .int .u64 hi] 153)).alloc (.cells #[.slice a l.length cap] 28)).alloc (.cells #[.int .u64 lo, .int .u64 hi] 153)).heap[W.heap.size]? = some (.cells #[.func (.yield lp) #[] #[]] 249 (0, 0)) := by
    rw [Below.heap_alloc _ _ _ (by simp <;> omega), Below.heap_alloc _ _ _ (by simp <;> omega), Below.heap_alloc _ _ _ (by simp)]
    exact World.alloc_heap_new W _
  have b1 : ((((W.alloc (.cells #[.func (.yield lp) #[] #[]] 249)).alloc (.cells #[.int .u64 lo, .int .u64 hi] 153)).alloc (.cells #[.slice a l.length cap] 28)).alloc (.cells #[.int .u64 lo, .int .u64 hi] 153)).heap[W.heap.size + 1]? = some (.cells #[.int .u64 lo, .int .u64 hi] 153 (0, 0)) := by
    rw [Below.heap_alloc _ _ _ (by simp <;> omega), Below.heap_alloc _ _ _ (by simp)]
    have := World.alloc_heap_new (W.alloc (.cells #[.func (.yield lp) #[] #[]] 249)) (.cells #[.int .u64 lo, .int .u64 hi] 153)
    rwa [World.size_alloc] at this
  have c2 : ((((W.alloc (.cells #[.func (.yield lp) #[] #[]] 249)).alloc (.cells #[.int .u64 lo, .int .u64 hi] 153)).alloc (.cells #[.slice a l.length cap] 28)).alloc (.cells #[.int .u64 lo, .int .u64 hi] 153)).cell? ⟨W.heap.size + 1 + 1, 0, none⟩ = some (.slice a l.length cap) := by simp [go_sem]
  have c30 : ((((W.alloc (.cells #[.func (.yield lp) #[] #[]] 249)).alloc (.cells #[.int .u64 lo, .int .u64 hi] 153)).alloc (.cells #[.slice a l.length cap] 28)).alloc (.cells #[.int .u64 lo, .int .u64 hi] 153)).cell? ⟨W.heap.size + 1 + 1 + 1, 0, none⟩ = some (.int .u64 lo) := by simp [go_sem]
  have c31 : ((((W.alloc (.cells #[.func (.yield lp) #[] #[]] 249)).alloc (.cells #[.int .u64 lo, .int .u64 hi] 153)).alloc (.cells #[.slice a l.length cap] 28)).alloc (.cells #[.int .u64 lo, .int .u64 hi] 153)).cell? ⟨W.heap.size + 1 + 1 + 1, 1, none⟩ = some (.int .u64 hi) := by simp [go_sem]
  have o3 : Only (fun _ => False) W ((((W.alloc (.cells #[.func (.yield lp) #[] #[]] 249)).alloc (.cells #[.int .u64 lo, .int .u64 hi] 153)).alloc (.cells #[.slice a l.length cap] 28)).alloc (.cells #[.int .u64 lo, .int .u64 hi] 153)) :=
    (((Only.alloc _ _ _).trans (Only.alloc _ _ _)).trans (Only.alloc _ _ _)).trans (Only.alloc _ _ _)
  have z3 : ((((W.alloc (.cells #[.func (.yield lp) #[] #[]] 249)).alloc (.cells #[.int .u64 lo, .int .u64 hi] 153)).alloc (.cells #[.slice a l.length cap] 28)).alloc (.cells #[.int .u64 lo, .int .u64 hi] 153)).heap.size = W.heap.size + 4 := by simp
  generalize ((((W.alloc (.cells #[.func (.yield lp) #[] #[]] 249)).alloc (.cells #[.int .u64 lo, .int .u64 hi] 153)).alloc (.cells #[.slice a l.length cap] 28)).alloc (.cells #[.int .u64 lo, .int .u64 hi] 153)) = W3 at *
  have hit := within_iter (W.heap.size + 1 + 1) (W.heap.size + 1 + 1 + 1) (.slice a l.length cap) l lo hi W3 hl hcan c2 (HRD.out.keep (fun q hq => old q (hRN.out q (.inr (.inr hq))))) c30 c31
  have Z3 := Lib.hid z3
  have OLD := Lib.hid old
  clear c2 c30 c31 z3 old hs hr1 hr2
  refine wp_range rfl (enters_of Tryz.func213 (by kernel_rfl) rfl) hit (fun q hq => ⟨?_, rfl⟩) (Nat.le_refl _) rfl
    (OutI J lo hi lp W.heap.size (W.heap.size + 4) (fun q => W.heap.size ≤ q ∧ q < W.heap.size + 4) (fun q => q = Br ∨ q = Bs ∨ Blk (.slice a l.length cap) q) W)
    (OutX Jx (lack l (lo, hi)) (W.heap.size + 4) (fun q => W.heap.size ≤ q ∧ q < W.heap.size + 4))
    (outI_stable HJ.out (by omega) (fun q hq => by have := hRN.out q hq; omega)) (fun c => outX_stable HJx.out c) ?h0 ?round ?done ?stop
  case round =>
    rintro lq pre ⟨x1, x2⟩ O A hpx hw hOl ⟨hi1, hi2, hi3, hi4, hi6, hi5⟩
    have hA1 := hw.1
    have hz := Z3.out
    simp only [enc]
    gi_wp2_with fail
    refine ⟨Only.alloc _ _ _, ?_⟩
    intro A2 ho2 hsz2
    have hx1 : A2.cell? ⟨A.heap.size, 0, none⟩ = some (.int .u64 x1) := ho2.cell (by simp [go_sem]) (fun h => by have := (hw.2 _ h).2; simp only at this; omega)
    have hx2 : A2.cell? ⟨A.heap.size, 1, none⟩ = some (.int .u64 x2) := ho2.cell (by simp [go_sem]) (fun h => by have := (hw.2 _ h).2; simp only at this; omega)
    have old : ∀ q, q < W.heap.size + 4 → A2.heap[q]? = A.heap[q]? := fun q hq =>
      (ho2.block q (by simp; omega) (fun h => by have := hi2 q h; omega)).trans (Below.heap_alloc A _ q (by omega))
    have hyb := (old W.heap.size (by omega)).trans hi4
    have hlf := (old (W.heap.size + 1) (by omega)).trans hi6
    have hxg := hPC.out.good (x1, x2) (List.IsPrefix.mem (List.mem_append.2 (.inr (List.mem_singleton.2 rfl))) hpx)
    have hg1 := hxg.1
    have hg2 := hxg.2.1
    have hg3 := hxg.2.2
    simp only at hg1 hg2 hg3
    have hg0 : 0 ≤ glast lo pre := glast_ge pre lo h0 (fun y hy => by have := hPC.out.good y (List.IsPrefix.mem (List.mem_append.2 (.inl hy)) hpx); omega)
    have HR5 : Hid (∀ q, (q = Br ∨ q = Bs ∨ Blk (.slice a l.length cap) q) → A2.heap[q]? = W.heap[q]?) := Lib.hid (fun q hq => (old q (by have := hRN.out q hq; omega)).trans (hi5 q hq))
    have HI2 := Lib.hid hi2
    have HO2 := Lib.hid ho2
    have HI1 := Lib.hid hi1
    have HW := Lib.hid hw
    have HPX := Lib.hid hpx
    have HSZ2 := Lib.hid hsz2
    have HYB := Lib.hid hyb
    have HLF := Lib.hid hlf
    have hyc : A2.cell? ⟨W.heap.size, 0, none⟩ = some (.func (.yield lp) #[] #[]) := by simp [World.cell?, hyb]
    obtain ⟨hl1, hl2, hl3, hl4⟩ := two_cells hlf
    clear old ho2 hi1 hi2 hi4 hi5 hi6 hw hpx hsz2 hyb hlf hxg
    have HGS := Lib.hid (gpre_snoc pre lo (x1, x2))
    have HGL := Lib.hid (glast_snoc pre lo (x1, x2))
    have HPRE := Lib.hid (gpre_prefix HPX.out lo hi)
    have HA2 : Hid (Only O A A2) := Lib.hid ((Only.alloc O A _).trans HO2.out)
    have hAA : A.heap.size < A2.heap.size := by have := HSZ2.out; omega
    have hA0 : W.heap.size + 4 ≤ A.heap.size := by omega
    have hjx := Lib.hid (HJ.out _ _ (fun q => (O q ∨ (W.heap.size ≤ q ∧ q < W.heap.size + 4)) ∨ q = A.heap.size) _ A2 HI1.out (HA2.out.mono (fun _ h => .inl h)) (fun q hq => by
      rcases hq with hq | rfl
      · exact .inl hq
      · exact .inr ⟨Nat.le_refl _, hAA⟩))
    have hwx : Hid (Within W (fun q => (O q ∨ (W.heap.size ≤ q ∧ q < W.heap.size + 4)) ∨ q = A.heap.size) A2) := Lib.hid ⟨by omega, fun q hq => by
      rcases hq with (hq | hq) | rfl
      · have := HI2.out q hq; have := (HW.out.2 q hq).2; omega
      · omega
      · omega⟩
    generalize glast lo pre = g at *
    by_cases hgx : g < x1
    · have d1 : decide (g < x1) = true := decide_eq_true hgx
      have hpp : Hid (gpre lo (pre ++ [(x1, x2)]) = gpre lo pre ++ [(g, x1 - 1)]) := Lib.hid (by rw [HGS.out, if_pos hgx])
      obtain ⟨fn, tmps, assign, body, hy, hR⟩ := HY.out _ (g, x1 - 1) _ A2 (by rw [← hpp.out]; exact HPRE.out) hwx.out hjx.out
      have hy : (Instr.yield lp #[.agg #[.int .u64 g, .int .u64 (x1 - 1)]]).run Tryz.prog A2 = .ok (.round lp fn tmps assign body) A2 := hy
      gi_wp2_with fail
      refine ⟨rfl, (round_in lq hR).mono ?_⟩
      rintro e B ⟨ho5, h5⟩
      have HO5 := Lib.hid ho5
      have hz5 := ho5.size
      have bx1 : B.cell? ⟨A.heap.size, 1, none⟩ = some (.int .u64 x2) := ho5.cell hx2 (fun h => h.1 (.inr rfl))
      have blf := ho5.heap HLF.out (fun h => h.1 (.inl (.inr (by omega))))
      obtain ⟨bl1, bl2, bl3, bl4⟩ := two_cells blf
      have BLF := Lib.hid blf
      have HO6 : Hid (Only (Not O fun k => k = W.heap.size + 1 + 1 ∨ k = W.heap.size + 1 + 1 + 1 ∨ Blk (.slice a l.length cap) k) A2 B) := Lib.hid (ho5.mono (fun q hq => ⟨fun h => hq.1 (.inl (.inl h)), fun h => (by
        rcases h with rfl | rfl | h
        · exact hq.1 (.inl (.inr (by omega)))
        · exact hq.1 (.inl (.inr (by omega)))
        · exact hq.2 (.inr (.inr h)))⟩))
      clear ho5 hl1 hl2 hl3 hl4 hx1 hx2 blf hyc
      rcases h5 with ⟨rfl, h5⟩ | ⟨rfl, h5⟩
      · have H5 := Lib.hid h5
        clear h5
        gi_wp2_with fail
        refine ⟨HO6.out.trans (Only.setCell ⟨fun h => (by have := HI2.out _ h; simp only at this; omega), fun h => (by
          rcases h with h | h | h
          · simp only at h; omega
          · simp only at h; omega
          · have := hRN.out _ (.inr (.inr h)); simp only at this; omega)⟩ _ _), ?_, HI2.out, by simp; omega, ?_, by rw [HGL.out]; exact set_first BLF.out _, fun q hq => ?_⟩
        · rw [hpp.out]
          exact HJ.out _ _ _ _ _ H5.out (Only.setCell (.inl (.inr ⟨by simp only; omega, by simp only; omega⟩)) _ _) (fun _ h => .inl (.inl h))
        · refine (Below.heap_setCell _ _ _ _ (by simp)).trans (HO5.out.heap HYB.out (fun h => h.1 (.inl (.inr (by omega)))))
        · have := hRN.out q hq
          exact (Below.heap_setCell _ _ _ _ (by simp only; omega)).trans ((HO5.out.block q (by omega) (fun h => h.2 hq)).trans (HR5.out q hq))
      · have H5 := Lib.hid h5
        clear h5
        gi_wp2_with fail
        exact ⟨HO6.out, rfl, ⟨_, by rw [← hpp.out]; exact HPRE.out, HJx.out _ _ _ _ _ H5.out (Only.refl _ _) (fun _ h => .inl (.inl h))⟩, HI2.out, by omega⟩
    · have d1 : decide (g < x1) = false := decide_eq_false hgx
      have hpp : Hid (gpre lo (pre ++ [(x1, x2)]) = gpre lo pre) := Lib.hid (by rw [HGS.out, if_neg hgx, List.append_nil])
      gi_wp2_with fail
      refine ⟨fun _ h => (by cases h), ?_⟩
      gi_wp2_with fail
      have HJ2 := Lib.hid (HJ.out _ _ (fun q => O q ∨ (W.heap.size ≤ q ∧ q < W.heap.size + 4)) _ _ hjx.out (Only.refl _ _) (fun _ h => .inl (.inl h)))
      refine ⟨Only.setCell ⟨fun h => (by have := HI2.out _ h; simp only at this; omega), fun h => (by
        rcases h with h | h | h
        · simp only at h; omega
        · simp only at h; omega
        · have := hRN.out _ (.inr (.inr h)); simp only at this; omega)⟩ _ _, ?_, HI2.out, by simp; omega, ?_, by rw [HGL.out]; exact set_first HLF.out _, fun q hq => ?_⟩
      · rw [hpp.out]
        exact HJ.out _ _ _ _ _ HJ2.out (Only.setCell (.inr ⟨by simp only; omega, by simp only; omega⟩) _ _) (fun _ h => .inl h)
      · exact (Below.heap_setCell _ _ _ _ (by simp)).trans HYB.out
      · have := hRN.out q hq
        exact (Below.heap_setCell _ _ _ _ (by simp only; omega)).trans (HR5.out q hq)
  case done =>
    rintro D O B hw hOD hD ⟨hi1, hi2, hi3, hi4, hi6, hi5⟩
    have hw1 := hw.1
    have hz := Z3.out
    have hyc : B.cell? ⟨W.heap.size, 0, none⟩ = some (.func (.yield lp) #[] #[]) := by simp [World.cell?, hi4]
    obtain ⟨hl1, hl2, hl3, hl4⟩ := two_cells hi6
    have HG := Lib.hid (gaps_eq (parts l (lo, hi)) lo hi)
    have HI1 := Lib.hid hi1
    have HI2 := Lib.hid hi2
    have HW := Lib.hid hw
    have hys : W.heap.size < B.heap.size := by omega
    have hls : W.heap.size + 1 < B.heap.size := by omega
    clear hi1 hi2 hi5 hi6 hi4 hw
    generalize glast lo (parts l (lo, hi)) = g at *
    gi_wp2_with fail
    refine ⟨trivial, rfl, (callsIn_wide.2 (none_any g hi _)).mono ?_⟩
    rintro e w4 ⟨rfl, hb4⟩
    have hz4 := hb4.size
    have kyc := cell_below hb4 hyc hys
    have kl1 := cell_below hb4 hl1 hls
    have kl2 := cell_below hb4 hl2 hls
    have HD4 : Hid (w4.heap[D]? = some (.deferred (some []))) := Lib.hid ((hb4.block D (HW.out.2 D hOD).2).trans hD)
    have hj4 := Lib.hid (stab_own HJ.out (fun q => W.heap.size ≤ q ∧ q < W.heap.size + 4) HI1.out (Only.of_all hb4 O) (fun _ h => .inl h))
    have hw4 : Hid (Within W (fun q => O q ∨ (W.heap.size ≤ q ∧ q < W.heap.size + 4)) w4) := Lib.hid ⟨by omega, fun q hq => by
      rcases hq with hq | hq
      · have := HI2.out q hq; have := (HW.out.2 q hq).2; omega
      · omega⟩
    clear hb4 hyc hl1 hl2 hl3 hl4
    by_cases hgx : g ≤ hi
    · have d1 : decide (hi < g) = false := decide_eq_false (by omega)
      have hpp : Hid (lack l (lo, hi) = gpre lo (parts l (lo, hi)) ++ [(g, hi)]) := Lib.hid (by show gaps lo hi _ = _; rw [HG.out, if_pos hgx])
      obtain ⟨fn, tmps, assign, body, hy, hR⟩ := HY.out _ (g, hi) _ w4 (by rw [← hpp.out]; exact List.prefix_refl _) hw4.out hj4.out
      have hy : (Instr.yield lp #[.agg #[.int .u64 g, .int .u64 hi]]).run Tryz.prog w4 = .ok (.round lp fn tmps assign body) w4 := hy
      gi_wp2_with fail
      refine ⟨rfl, hR.mono ?_⟩
      rintro e B5 ⟨ho5, h5⟩
      have hD5 := ho5.heap HD4.out (fun h => h.1 (.inl hOD))
      have hz5 := ho5.size
      have hw5 : Hid (Within W (fun q => O q ∨ (W.heap.size ≤ q ∧ q < W.heap.size + 4)) B5) := Lib.hid ⟨by omega, fun q hq => by have := hw4.out.2 q hq; omega⟩
      clear ho5 kyc kl1 kl2
      rcases h5 with ⟨rfl, h5⟩ | ⟨rfl, h5⟩
      · have H5 := Lib.hid h5
        have HD5 := Lib.hid hD5
        clear h5 hD5
        gi_wp2_with fail
        refine ⟨by simp, .inl ⟨_, _, rfl, run_takeDeferred HD5.out, ?_⟩⟩
        refine ⟨_, results_none rfl _ _ _, ⟨_, rfl⟩, _, ⟨by simp; omega, fun q hq => by have := hw5.out.2 q hq; simpa using this⟩, .inl ?_⟩
        rw [hpp.out]
        exact HJ.out _ _ _ _ _ H5.out (Only.putObj (.inl hOD) _ _) (fun _ h => .inl h)
      · have H5 := Lib.hid h5
        have HD5 := Lib.hid hD5
        clear h5 hD5
        gi_wp2_with fail
        refine ⟨by simp, .inl ⟨_, _, rfl, run_takeDeferred HD5.out, ?_⟩⟩
        refine ⟨_, results_none rfl _ _ _, ⟨_, rfl⟩, _, ⟨by simp; omega, fun q hq => by have := hw5.out.2 q hq; simpa using this⟩, .inr ⟨_, by rw [hpp.out]; exact List.prefix_refl _, ?_⟩⟩
        exact HJx.out _ _ _ _ _ H5.out (Only.putObj (.inl hOD) _ _) (fun _ h => .inl h)
    · have d1 : decide (hi < g) = true := decide_eq_true (by omega)
      have hpp : Hid (lack l (lo, hi) = gpre lo (parts l (lo, hi))) := Lib.hid (by show gaps lo hi _ = _; rw [HG.out, if_neg hgx, List.append_nil])
      clear kyc kl1 kl2
      gi_wp2_with fail
      refine ⟨by simp, .inl ⟨_, _, rfl, run_takeDeferred HD4.out, ?_⟩⟩
      refine ⟨_, results_none rfl _ _ _, ⟨_, rfl⟩, _, ⟨by simp; omega, fun q hq => by have := hw4.out.2 q hq; simpa using this⟩, .inl ?_⟩
      rw [hpp.out]
      exact HJ.out _ _ _ _ _ hj4.out (Only.putObj (.inl hOD) _ _) (fun _ h => .inl h)
  case stop =>
    rintro D c pre O B hw hOD hD hpre ⟨rfl, ⟨p, hp, hx⟩, hx2, hx3⟩
    gi_wp2_with fail
    refine ⟨by simp, .inl ⟨_, _, rfl, run_takeDeferred hD, ?_⟩⟩
    refine ⟨_, results_none rfl _ _ _, ⟨_, rfl⟩, fun q => O q ∨ (W.heap.size ≤ q ∧ q < W.heap.size + 4), ⟨by simp; omega, fun q hq => ?_⟩, .inr ⟨p, hp, stab_own HJx.out _ hx (Only.putObj hOD _ _) (fun _ h => .inl h)⟩⟩
    rcases hq with hq | hq
    · have := hx2 q hq; have := (hw.2 q hq).2; simp; omega
    · simp; omega
  case h0 =>
    have hz := Z3.out
    refine ⟨HJ.out _ _ _ W _ H0.out o3 (fun q hq => .inr ?_), fun _ h => h.elim, by omega, b0, b1, fun q hq => OLD.out q (hRN.out q hq)⟩
    rcases hq with hq | hq
    · exact hq.elim
    · omega
  · have hz := Z3.out
    rcases hq with rfl | rfl | hq
    · omega
    · omega
    · have := hRN.out q (.inr (.inr hq)); omega
end Go.Proofs.YtoblmhpjendbfaaGreatDoor.Rg
