/- Layer 14: the walk of parts that are laid among others -/
import Derived.Test.YtoblmhpjendbfaaGreatDoorJb09
namespace Go.Proofs.YtoblmhpjendbfaaGreatDoor.Rg.Gt
set_option maxRecDepth 20000
open Go.RowKit Go.Shelf
set_option linter.unusedVariables false
set_option linter.unusedSimpArgs false

theorem step_appendG {P : Program} {ops : Array Oper} {o : Oper} {a : Act} {w : World} {K : Act → World → Prop} {Q : Exit → Act → World → Prop} {E : Prop} (hg : o.guard = none) (s x : Operand) (ts tx : TypeId)
    (hop : o.op = .call { callee := .builtin .append, args := #[s, x], argTypes := #[ts, tx] }) (vs vx : Value) (hs : a.eval s = vs) (hx : a.eval x = vx) {v' : Value} {w' : World}
    (hr : (Builtin.append_ #[ts, tx] o.type #[vs, vx]).run P w = .ok v' w') (hK : K (a.put o.dst v') w') :
    if Region.wanted o (yielded ops a.tmps) = true then Oper.wp P o a w K Q else E := by
  have hw : Region.wanted o (yielded ops a.tmps) = true := by simp [Region.wanted, hg]
  rw [if_pos hw]
  unfold Oper.wp
  simp [execOp, hop, resolve, invoke, builtin, hs, hx, hr, Result.andThen]
  exact hK
/-- Within a round of lay: the cursor, what was laid, what is laid, the part at hand. -/
structure LayS (w : World) (b : Nat) (rd fin : Int) (kn : Bool) (T : ByteArray) (B : Nat) (u : Value) (F : List Ran) (vv : Value) (S : List Ran) (N : Nat) (lo : Int) (D : ByteArray) (W : World) : Prop where
  hs : Gb W b 160 ⟨rd, F, fin, kn⟩ u
  ho : OwnG 137 W B u T F
  hr : RowG W vv T S
  hp : Bk2 W N 137 (.int .u64 lo) (.string D)
  hb : Only (· = b) w W
  hz : B ≤ W.heap.size
theorem LayS.go {w : World} {b : Nat} {rd fin : Int} {kn : Bool} {T : ByteArray} {B : Nat} {u : Value} {F : List Ran} {vv : Value} {S : List Ran} {N : Nat} {lo : Int} {D : ByteArray} {W W' : World} (h : LayS w b rd fin kn T B u F vv S N lo D W) (k : Below W.heap.size W W') : LayS w b rd fin kn T B u F vv S N lo D W' :=
  ⟨h.hs.go k, h.ho.go k, h.hr.go k, h.hp.go k, h.hb.trans (only_belowG k), Nat.le_trans h.hz k.size⟩
def LayRel (w : World) (b : Nat) (rd fin : Int) (kn : Bool) (T : ByteArray) (B : Nat) (vv : Value) (S : List Ran) (m : Nat) (iv : Value) (wr : World) : Prop :=
  ∃ k u, k ≤ m ∧ iv = .int .i64 (k : Nat) ∧ Gb wr b 160 ⟨rd, (S.take k).foldl join [], fin, kn⟩ u ∧ OwnG 137 wr B u T ((S.take k).foldl join []) ∧ RowG wr vv T S ∧ Only (· = b) w wr ∧ B ≤ wr.heap.size
theorem owns_setG {w : World} {base g n cap : Nat} {T : ByteArray} {t : List Ran} {y : Ran} {hi : Int} (h : OwnG 137 w base (.slice (some ⟨g, 0, none⟩) n cap) T (t ++ [y])) (hn : n = t.length + 1) (hy : 0 ≤ y.1) (hy1 : y.1 ≤ y.2) (hi1 : y.2 + 1 ≤ hi) :
    OwnG 137 (w.setCell ⟨g, t.length * 2 + 1, none⟩ (.string (bt T y ++ bt T (y.2 + 1, hi)))) base (.slice (some ⟨g, 0, none⟩) n cap) T (t ++ [(y.1, hi)]) := by
  have h1 : (w.setCell ⟨g, t.length * 2 + 1, none⟩ (.string (bt T y ++ bt T (y.2 + 1, hi)))).ownsRow base 137 2 (.slice (some ⟨g, 0, none⟩) n cap) n ((flatG T (t ++ [y])).set (t.length * 2 + 1) (.string (bt T y ++ bt T (y.2 + 1, hi)))) :=
    owns_set (by have := h; unfold OwnG at this; rwa [show (t ++ [y]).length = n by simp [hn]] at this) (by omega) _
  have e : (flatG T (t ++ [y])).set (t.length * 2 + 1) (.string (bt T y ++ bt T (y.2 + 1, hi))) = flatG T (t ++ [(y.1, hi)]) := by
    rw [flatG_app, flatG_app, List.set_append_right _ _ (by rw [flatG_len]; omega), flatG_len, show t.length * 2 + 1 - t.length * 2 = 1 by omega]
    rw [show (y : Ran) = (y.1, y.2) from rfl, bt_join hy hy1 rfl hi1]
    rfl
  rw [e] at h1
  unfold OwnG
  rw [show (t ++ [(y.1, hi)]).length = n by simp [hn]]
  exact h1
theorem lastG {w : World} {base g n cap : Nat} {T : ByteArray} {t : List Ran} {y : Ran} (h : OwnG 137 w base (.slice (some ⟨g, 0, none⟩) n cap) T (t ++ [y])) :
    w.cell? ⟨g, t.length * 2, none⟩ = some (.int .u64 y.1) ∧ w.cell? ⟨g, t.length * 2 + 1, none⟩ = some (.string (bt T y)) ∧ w.frozen? ⟨g, t.length * 2 + 1, none⟩ = false ∧ base ≤ g ∧ g < w.heap.size ∧ n = t.length + 1 ∧ n ≤ cap := by
  have h0 := h
  rcases h.2 with ⟨hv, _⟩ | ⟨g', cap', cur, he, hb, hg, hnc, _⟩
  · cases hv
  · cases he
    have g1 := flatG_get T (t ++ [y]) t.length 0 (by simp) (by decide)
    have g2 := flatG_get T (t ++ [y]) t.length 1 (by simp) (by decide)
    have e : (t ++ [y]).getD t.length (0, 0) = y := by simp [List.getD]
    rw [e] at g1 g2
    refine ⟨(World.ownsRow.cellAt h0 (t.length * 2) (by first | (simp; done) | (simp; omega))).trans (by simpa [gcs] using g1), (World.ownsRow.cellAt h0 (t.length * 2 + 1) (by first | (simp; done) | (simp; omega))).trans (by simpa [gcs] using g2), by simp [World.frozen?, hg], hb, (Array.getElem?_eq_some_iff.1 hg).1, by simp, hnc⟩
set_option maxHeartbeats 4000000 in
theorem lay_any (T : ByteArray) (s : GS) (a : Option Addr) (n c b : Nat) (pa : Option Addr) (pn pc : Nat) (G : List Ran) (w : World) (hT : (T.size : Int) ≤ 4611686018427387903) (hln : s.l.length ≤ 250) (hlg : G.length ≤ 252) (hg : Gb w b 160 s (.slice a n c)) (hn : s.l.length = n) (hrow : RowG w (.slice a n c) T s.l)
    (hG : G.length = pn) (hp : RowG w (.slice pa pn pc) T G) (hcl : Can s.l) (hcg : Can G) (hil : ∀ x ∈ s.l, Inn T x) (hig : ∀ x ∈ G, Inn T x) (hdis : ∀ k, mem G k → ¬ mem s.l k) :
    Calls Tryz.prog 95 #[.pointer (some ⟨b, 0, none⟩), .slice pa pn pc] w fun e w' => e = .returned (.tuple #[]) ∧ ∃ u l', Can l' ∧ (∀ k, mem l' k ↔ mem s.l k ∨ mem G k) ∧ Gb w' b 160 ⟨s.rd, l', s.fin, s.kn⟩ u ∧ OwnG 137 w' w.heap.size u T l' ∧ Only (· = b) w w' := by
  obtain ⟨rd, l, fin, kn⟩ := s
  simp only at hg hn hrow hcl hil hdis hln ⊢
  have HDIS := Lib.hid (dis_of hcl hcg hdis)
  have HT0 := Lib.hid hT
  have HII : Hid (∀ x ∈ l ++ G, Inn T x) := Lib.hid (fun x hx => (List.mem_append.1 hx).elim (hil x) (hig x))
  have hlen0 : (l ++ G).length ≤ 502 := by rw [List.length_append]; omega
  have HLEN := Lib.hid hlen0
  have y1 := hg.c1
  have hblt := hg.lt
  have hA := (Below.refl w.heap.size w).alloc (Nat.le_refl _) (.cells #[.slice a n c, .slice pa pn pc] 31)
  have HG0 := Lib.hid (hg.go hA)
  have HBL : Hid (b < w.heap.size) := Lib.hid hblt
  have HR0 := Lib.hid (hrow.go hA)
  have HP0 := Lib.hid (hp.go hA)
  have HB0 := Lib.hid hA
  have CC := Lib.hid (concatG_any T w.heap.size a c l pa pc G (w.alloc (.cells #[.slice a n c, .slice pa pn pc] 31)) (by simp) (by rw [hn]; simp [go_sem]) (by rw [hG]; simp [go_sem]) (by rw [hn]; exact HR0.out) (by rw [hG]; exact HP0.out) (by omega) (by omega))
  clear hg hn hrow hp hcl hcg hil hig hdis hln hlg hlen0 hA hT
  go_enter Tryz.func95, Tryz.ntmps95
  go_wp2_with fail
  refine CC.out.mono ?_
  rintro e w1 ⟨v, rfl, o1, b1⟩
  obtain ⟨a1, c1, rfl⟩ := o1.form
  have HO1 := Lib.hid o1
  have HB1 := Lib.hid (nextG HB0.out b1)
  have HG1 := Lib.hid (HG0.out.go b1)
  have CS := Lib.hid (sortG_any T _ (l ++ G) (w.heap.size + 1) w1 (by rw [World.size_alloc] at o1; exact o1) (by have := b1.size; rw [World.size_alloc] at this; exact this) (by have := HLEN.out; omega))
  obtain ⟨m, hm⟩ : ∃ m, (l ++ G).length = m := ⟨_, rfl⟩
  rw [hm] at HO1 CS HLEN ⊢
  have HM := Lib.hid hm
  clear o1 b1 y1 hm CC HR0 HP0
  go_wp2_with fail
  refine CS.out.mono ?_
  rintro e w2 ⟨rfl, ⟨S, p1, p2, p3⟩, b2⟩
  have HSM : Hid (S.length = m) := Lib.hid (by rw [p1.length_eq]; exact HM.out)
  have hg2 : Gb w2 b 160 ⟨rd, l, fin, kn⟩ (.slice a n c) := (b2.block b (by have := HBL.out; omega)).trans HG1.out
  have HB2 := Lib.hid (HB1.out.trans (b2.mono (by omega)))
  have HSI : Hid (∀ x ∈ S, Inn T x) := Lib.hid (fun x hx => HII.out x (p1.mem_iff.1 hx))
  have HP1 := Lib.hid p1
  have HP2 := Lib.hid p2
  have HP3 := Lib.hid (rise_of p1 HDIS.out p2 (fun x hx => (HSI.out x hx).2.1))
  have HVB : Hid (∀ q, Blk (.slice a1 m c1) q → q < w2.heap.size ∧ q ≠ b) := Lib.hid (fun q hq => ⟨p3.blk hq, fun e => by
    have h1 := (HO1.out.blk hq).2
    have := HBL.out
    rw [World.size_alloc] at h1
    omega⟩)
  have k1 := hg2.c1
  have f1 := hg2.fz 1
  have HG3 := Lib.hid (hg2.s1 [] (.slice none 0 0))
  have HO3 := Lib.hid ((Only.of_all HB2.out (· = b)).trans (only_atG b 1 w2 (.slice none 0 0)))
  have HR3 := Lib.hid (p3.keep (W' := w2.setCell ⟨b, 1, none⟩ (.slice none 0 0)) (by simp) (fun q hq => Below.heap_setCell w2 ⟨b, 1, none⟩ _ q (HVB.out q hq).2))
  have HZ3 : Hid (w.heap.size ≤ w2.heap.size ∧ w2.heap.size ≤ (w2.setCell ⟨b, 1, none⟩ (.slice none 0 0)).heap.size) := Lib.hid ⟨HB2.out.size, by simp⟩
  have hm0 : (m : Int) ≤ 502 := by have := HLEN.out; omega
  clear p1 p2 p3 b2 hg2 CS HG1 HG0
  go_wp2_with fail
  generalize w2.setCell ⟨b, 1, none⟩ (.slice none 0 0) = w3 at *
  clear k1 f1
  generalize hBB : w2.heap.size = B at *
  have HBz := Lib.hid hBB
  clear hBB
  go_loopw [6, 7, 24] (fun _ _ iv wr => LayRel w b rd fin kn T B (.slice a1 m c1) S m iv wr) (fun _ _ iv _ => m - (intOf iv).toNat)
  case atStart => exact ⟨0, _, Nat.zero_le _, rfl, HG3.out, OwnG.nil _ _ _ _, HR3.out, HO3.out, HZ3.out.2⟩
  case round =>
    obtain ⟨k, u, hk, rfl, hgb, hown, hrs, hon, hsz⟩ := hrel
    by_cases hlt : k < m
    · obtain ⟨a1', c1', e, hnc, hrow⟩ := id hrs
      obtain ⟨rfl, rfl⟩ : a1 = a1' ∧ c1 = c1' := by injection e with h1 h2 h3; exact ⟨h1, h3⟩
      obtain ⟨sb, soff, rfl, hsb, hc⟩ := hrow (fun h => by have := HSM.out; rw [h] at this; simp at this; omega)
      have hc1 := hc k (by have := HSM.out; omega) 0 (by decide)
      have hc2 := hc k (by have := HSM.out; omega) 1 (by decide)
      have HT := Lib.hid (take_succ_getD S (0, 0) (by have := HSM.out; omega : k < S.length))
      have HGX : Hid (Inn T (S.getD k (0, 0))) := Lib.hid (HSI.out _ (by rw [getD_get (by have := HSM.out; omega)]; exact List.getElem_mem _))
      have HFL : Hid (∀ t y, (S.take k).foldl join [] = t ++ [y] → y.2 < (S.getD k (0, 0)).1) := Lib.hid (fun t y h => fold_last (by have := HSM.out; omega) (fun r hr => by have := HSI.out r hr; have := HT0.out; unfold Inn at *; omega) HP3.out h)
      have HFI : Hid (∀ y ∈ (S.take k).foldl join [], Inn T y) := Lib.hid (fold_inn HSI.out (by have := HT0.out; omega) HP2.out k)
      obtain ⟨F, hF⟩ : ∃ F, (S.take k).foldl join [] = F := ⟨_, rfl⟩
      have HF2 : Hid ((S.take (k + 1)).foldl join [] = join F (S.getD k (0, 0))) := Lib.hid (by rw [HT.out, List.foldl_append, hF]; rfl)
      rw [hF] at hgb hown HFI HFL
      generalize S.getD k (0, 0) = x at *
      obtain ⟨lo, hj⟩ := x
      generalize hD : bt T (lo, hj) = D at *
      have z1 : wr.cell? ⟨sb, soff + k * 2, none⟩ = some (.int .u64 lo) := by simpa [gcs] using hc1
      have z2 : wr.cell? ⟨sb, soff + k * 2 + 1, none⟩ = some (.string D) := by rw [Nat.add_assoc]; simpa [gcs, hD] using hc2
      have HDD := Lib.hid hD
      have hA := (Below.refl wr.heap.size wr).alloc (Nat.le_refl _) (.cells #[.int .u64 lo, .string D] 137)
      have HL1 : Hid (LayS w b rd fin kn T B u F (.slice (some ⟨sb, soff, none⟩) m c1) S wr.heap.size lo D (wr.alloc (.cells #[.int .u64 lo, .string D] 137))) := Lib.hid ⟨hgb.go hA, hown.go hA, hrs.go hA, bk2_made _ _ _ _, hon.trans (only_belowG hA), by have := hA.size; omega⟩
      rw [HSM.out] at hnc
      have HLX : Hid (F.length ≤ 502) := Lib.hid (by
        have h1 := joins_len (S.take k) []
        rw [hF] at h1
        have := HLEN.out
        simp at h1
        omega)
      clear hc hrow e hc1 hc2 hA hgb hown hrs hon hD hF
      rcases List.eq_nil_or_concat F with rfl | ⟨t, y, rfl⟩
      · obtain ⟨a3, c3, rfl⟩ := HL1.out.ho.form
        rw [List.length_nil] at HL1
        have y1 := HL1.out.hs.c1
        have HL2 := Lib.hid (HL1.out.go (Below.refl _ _).drew)
        clear HFI HFL
        go_wp2_with fail
        refine wp_region_noPanic ?_
        refine wp_region_held_drew (S := fun W : World => LayS w b rd fin kn T B (.slice a3 0 c3) [] (.slice (some ⟨sb, soff, none⟩) m c1) S wr.heap.size lo D W) (by kernel_rfl) ?_ (fun hHeld => ?_)
        · exact HL2.out
        refine wpAnyH_take (i := 0) (v := ?_) rfl (by kernel_rfl) (by kernel_rfl) (by kernel_rfl) (fun _ _ _ h => h) (Or.inl ⟨by rfl, ?_⟩) (by assumption) ?_
        rotate_left
        · (intro w hSw; (have c1 := hSw.hs.c1; have e0 := hSw.hp.c0; have e1 := hSw.hp.c1); go_simp; (try with_reducible rfl))
        try simp only [Act.put, List.getElem_toArray, List.getElem_cons_zero, List.getElem_cons_succ, List.setIfInBounds_toArray, List.set_cons_zero, List.set_cons_succ]
        refine wpAnyH_take (i := 1) (v := ?_) rfl (by kernel_rfl) (by kernel_rfl) (by kernel_rfl) (fun _ _ _ h => h) (Or.inl ⟨by rfl, ?_⟩) (by assumption) ?_
        rotate_left
        · (intro w hSw; (have c1 := hSw.hs.c1; have e0 := hSw.hp.c0; have e1 := hSw.hp.c1); go_simp; (try with_reducible rfl))
        try simp only [Act.put, List.getElem_toArray, List.getElem_cons_zero, List.getElem_cons_succ, List.setIfInBounds_toArray, List.set_cons_zero, List.set_cons_succ]
        refine wpAnyH_take (i := 2) (v := ?_) rfl (by kernel_rfl) (by kernel_rfl) (by kernel_rfl) (fun _ _ _ h => h) (Or.inl ⟨by rfl, ?_⟩) (by assumption) ?_
        rotate_left
        · (intro w hSw; (have c1 := hSw.hs.c1; have e0 := hSw.hp.c0; have e1 := hSw.hp.c1); go_simp; (try with_reducible rfl))
        try simp only [Act.put, List.getElem_toArray, List.getElem_cons_zero, List.getElem_cons_succ, List.setIfInBounds_toArray, List.set_cons_zero, List.set_cons_succ]
        refine wpAnyH_take (i := 3) (v := undef) rfl (by kernel_rfl) (by kernel_rfl) (by kernel_rfl) (fun _ _ _ h => h) (Or.inr ⟨by rfl, rfl⟩) (by assumption) ?_
        try simp only [Act.put, List.getElem_toArray, List.getElem_cons_zero, List.getElem_cons_succ, List.setIfInBounds_toArray, List.set_cons_zero, List.set_cons_succ]
        refine wpAnyH_take (i := 4) (v := undef) rfl (by kernel_rfl) (by kernel_rfl) (by kernel_rfl) (fun _ _ _ h => h) (Or.inr ⟨by rfl, rfl⟩) (by assumption) ?_
        try simp only [Act.put, List.getElem_toArray, List.getElem_cons_zero, List.getElem_cons_succ, List.setIfInBounds_toArray, List.set_cons_zero, List.set_cons_succ]
        refine wpAnyH_take (i := 5) (v := undef) rfl (by kernel_rfl) (by kernel_rfl) (by kernel_rfl) (fun _ _ _ h => h) (Or.inr ⟨by rfl, rfl⟩) (by assumption) ?_
        try simp only [Act.put, List.getElem_toArray, List.getElem_cons_zero, List.getElem_cons_succ, List.setIfInBounds_toArray, List.set_cons_zero, List.set_cons_succ]
        refine wpAnyH_take (i := 6) (v := undef) rfl (by kernel_rfl) (by kernel_rfl) (by kernel_rfl) (fun _ _ _ h => h) (Or.inr ⟨by rfl, rfl⟩) (by assumption) ?_
        try simp only [Act.put, List.getElem_toArray, List.getElem_cons_zero, List.getElem_cons_succ, List.setIfInBounds_toArray, List.set_cons_zero, List.set_cons_succ]
        refine wpAnyH_take (i := 7) (v := undef) rfl (by kernel_rfl) (by kernel_rfl) (by kernel_rfl) (fun _ _ _ h => h) (Or.inr ⟨by rfl, rfl⟩) (by assumption) ?_
        try simp only [Act.put, List.getElem_toArray, List.getElem_cons_zero, List.getElem_cons_succ, List.setIfInBounds_toArray, List.set_cons_zero, List.set_cons_succ]
        refine wpAnyH_take (i := 8) (v := undef) rfl (by kernel_rfl) (by kernel_rfl) (by kernel_rfl) (fun _ _ _ h => h) (Or.inr ⟨by rfl, rfl⟩) (by assumption) ?_
        try simp only [Act.put, List.getElem_toArray, List.getElem_cons_zero, List.getElem_cons_succ, List.setIfInBounds_toArray, List.set_cons_zero, List.set_cons_succ]
        refine wpAnyH_take (i := 9) (v := undef) rfl (by kernel_rfl) (by kernel_rfl) (by kernel_rfl) (fun _ _ _ h => h) (Or.inr ⟨by rfl, rfl⟩) (by assumption) ?_
        try simp only [Act.put, List.getElem_toArray, List.getElem_cons_zero, List.getElem_cons_succ, List.setIfInBounds_toArray, List.set_cons_zero, List.set_cons_succ]
        refine wpAnyH_take (i := 10) (v := undef) rfl (by kernel_rfl) (by kernel_rfl) (by kernel_rfl) (fun _ _ _ h => h) (Or.inr ⟨by rfl, rfl⟩) (by assumption) ?_
        try simp only [Act.put, List.getElem_toArray, List.getElem_cons_zero, List.getElem_cons_succ, List.setIfInBounds_toArray, List.set_cons_zero, List.set_cons_succ]
        refine wpAnyH_take (i := 11) (v := undef) rfl (by kernel_rfl) (by kernel_rfl) (by kernel_rfl) (fun _ _ _ h => h) (Or.inr ⟨by rfl, rfl⟩) (by assumption) ?_
        try simp only [Act.put, List.getElem_toArray, List.getElem_cons_zero, List.getElem_cons_succ, List.setIfInBounds_toArray, List.set_cons_zero, List.set_cons_succ]
        refine wpAnyH_take (i := 12) (v := undef) rfl (by kernel_rfl) (by kernel_rfl) (by kernel_rfl) (fun _ _ _ h => h) (Or.inr ⟨by rfl, rfl⟩) (by assumption) ?_
        try simp only [Act.put, List.getElem_toArray, List.getElem_cons_zero, List.getElem_cons_succ, List.setIfInBounds_toArray, List.set_cons_zero, List.set_cons_succ]
        refine wpAnyH_take (i := 13) (v := undef) rfl (by kernel_rfl) (by kernel_rfl) (by kernel_rfl) (fun _ _ _ h => h) (Or.inr ⟨by rfl, rfl⟩) (by assumption) ?_
        try simp only [Act.put, List.getElem_toArray, List.getElem_cons_zero, List.getElem_cons_succ, List.setIfInBounds_toArray, List.set_cons_zero, List.set_cons_succ]
        refine wpAnyH_take (i := 14) (v := undef) rfl (by kernel_rfl) (by kernel_rfl) (by kernel_rfl) (fun _ _ _ h => h) (Or.inr ⟨by rfl, rfl⟩) (by assumption) ?_
        try simp only [Act.put, List.getElem_toArray, List.getElem_cons_zero, List.getElem_cons_succ, List.setIfInBounds_toArray, List.set_cons_zero, List.set_cons_succ]
        refine wpAnyH_take (i := 15) (v := ?_) rfl (by kernel_rfl) (by kernel_rfl) (by kernel_rfl) (fun _ _ _ h => h) (Or.inl ⟨by rfl, ?_⟩) (by assumption) ?_
        rotate_left
        · (intro w hSw; (have c1 := hSw.hs.c1; have e0 := hSw.hp.c0; have e1 := hSw.hp.c1); go_simp; (try with_reducible rfl))
        try simp only [Act.put, List.getElem_toArray, List.getElem_cons_zero, List.getElem_cons_succ, List.setIfInBounds_toArray, List.set_cons_zero, List.set_cons_succ]
        refine wpAnyH_done (by kernel_rfl) (NoPanic.normal ?_) _
        go_wp2_with fail
        generalize (wr.alloc (.cells #[.int .u64 lo, .string D] 137)).drew = W2 at *
        have HJ : Hid ((S.take (k + 1)).foldl join [] = [] ++ [(lo, hj)]) := Lib.hid HF2.out
        clear HL1 HF2 z1 z2
        have y1 := HL2.out.hs.c1
        have e0 := HL2.out.hp.c0
        have e1 := HL2.out.hp.c1
        have hbW := HL2.out.hs.lt
        have hpW := HL2.out.hp.lt
        have HRX : Hid (RowG (W2.alloc (.cells #[.int .u64 lo, .string D] 137)).drew (.slice (some ⟨W2.heap.size, 0, none⟩) 1 1) T [(lo, hj)]) := Lib.hid (by
          have h := (rowG_one W2 137 T (lo, hj)).go (Below.refl _ _).drew
          rw [HDD.out] at h
          exact h)
        obtain ⟨v', w', HA, ho', hgr, hwh⟩ := run_append_G tyG T (W2.alloc (.cells #[.int .u64 lo, .string D] 137)).drew B 31 (.slice a3 0 c3) ([]) ((HL2.out.ho.go ((Below.refl _ _).alloc (Nat.le_refl _) _)).go (Below.refl _ _).drew) (.slice (some ⟨W2.heap.size, 0, none⟩) 1 1) [(lo, hj)] HRX.out (by have := HLX.out; first | omega | (simp at *; omega) | (simp; done)) (by have := HL2.out.hz; simp; omega)
        obtain ⟨va, vc, rfl⟩ := ho'.form
        have hb' : Below B W2 w' := (((Below.refl _ _).alloc HL2.out.hz _).drew).grown hgr (by have := HL2.out.hz; simp; omega) (fun q hq => (HL2.out.ho.lt hq).1)
        have hbB : b < B := by have := HBL.out; have := HZ3.out.1; omega
        have hG := (hb'.block b hbB).trans HL2.out.hs
        have p1 : w'.cell? ⟨b, 1, none⟩ = _ := Lib.cell_of_heap hG 1
        have pf1 : w'.frozen? ⟨b, 1, none⟩ = false := Lib.frozen_of_heap hG 1
        have hN : Only (fun q => q = b) w w' := HL2.out.hb.trans' (Only.of_below hb' (O := fun q => B ≤ q) (fun q _ h => h)) (fun i h1 h2 => by have := HZ3.out.1; omega)
        have HREL : Hid (LayRel w b rd fin kn T B (.slice (some ⟨sb, soff, none⟩) m c1) S m (.int .i64 (k + 1 : Nat)) (w'.setCell ⟨b, 1, none⟩ (.slice va ([] ++ [(lo, hj)]).length vc))) := Lib.hid (by
          refine ⟨k + 1, .slice va ([] ++ [(lo, hj)]).length vc, by omega, rfl, ?_, ?_, ?_, ?_, ?_⟩
          rotate_left 1
          · rw [HJ.out]
            exact OwnG.only ho' (only_atG b 1 w' _) (fun q hq h => by have := (World.ownsRow.lt ho' q hq).1; omega)
          · exact HL2.out.hr.keep (by have := hb'.size; simp; omega) (fun q hq => (Below.heap_setCell w' ⟨b, 1, none⟩ _ q (HVB.out q hq).2).trans (hb'.block q (HVB.out q hq).1))
          · exact hN.trans (only_atG b 1 w' _)
          · have := hb'.size; have := HL2.out.hz; simp; omega
          · rw [HJ.out]
            exact Gb.s1 hG ([] ++ [(lo, hj)]) _)
        generalize ([] ++ [(lo, hj)]).length = vn at *
        clear ho' hgr hwh hb' hbB hG hN HRX HJ
        go_region_law (refine step_appendG rfl _ _ _ _ rfl _ _ rfl rfl HA ?_)
        all_goals
          go_wp2
          go_roundw
          case rel =>
            obtain ⟨k', u', e1, e2, e3⟩ := HREL.out
            exact ⟨k', u', e1, by first | exact e2 | (rw [← e2]; go_num), e3⟩
          case measure => simp [intOf]; omega
      · rw [List.concat_eq_append] at *
        obtain ⟨g, c3, rfl⟩ : ∃ g c3, u = .slice (some ⟨g, 0, none⟩) (t ++ [y]).length c3 := by
          rcases HL1.out.ho.2 with ⟨_, hn⟩ | ⟨g, cap3, cur, rfl, _⟩
          · simp at hn
          · exact ⟨g, cap3, rfl⟩
        have hyi := HFI.out y (by simp)
        have hyl := HFL.out t y rfl
        have hyz := bt_size hyi
        have hT00 := HT0.out
        obtain ⟨q, hq⟩ : ∃ q, t.length = q := ⟨_, rfl⟩
        have HQ := Lib.hid hq
        rw [List.length_append, List.length_singleton, hq] at HL1
        obtain ⟨l0, l1, l2, l3, l4, l5, l6⟩ := lastG HL1.out.ho
        have hq500 : q + 1 ≤ 503 := by have := HLX.out; rw [List.length_append, hq] at this; simp at this; omega
        have HC6 := Lib.hid l6
        have CE := Lib.hid (fun W => end_any y.1 (bt T y) W hyi.1 (by have := hyi.2.1; have := hyi.2.2; omega) (by have := hyi.1; have := hyi.2.1; have := hyi.2.2; omega))
        rw [show y.1 + ((bt T y).size : Int) = y.2 + 1 by omega] at CE
        have HYI := Lib.hid hyi
        have HYL := Lib.hid hyl
        have v1 : IntKind.i64.wrap (((q + 1 : Nat) : Int) - 1) = q := by rw [show ((q + 1 : Nat) : Int) - 1 = q by omega]; exact IntWalk.i64_in _ (by omega)
        have d0 : decide ((0 : Int) ≤ (q : Int)) = true := decide_eq_true (by omega)
        have d00 : (q : Int) < (q : Int) + 1 := by omega
        have d01 : (0 : Int) ≤ (q : Int) := by omega
        rw [hq] at l0 l1 l2
        have y1 := HL1.out.hs.c1
        have HL2 := Lib.hid (HL1.out.go (Below.refl _ _).drew)
        have HOPN : Hid (∀ W, LayS w b rd fin kn T B (.slice (some ⟨g, 0, none⟩) (q + 1) c3) (t ++ [y]) (.slice (some ⟨sb, soff, none⟩) m c1) S wr.heap.size lo D W → W.cell? ⟨g, q * 2, none⟩ = some (.int .u64 y.1) ∧ W.cell? ⟨g, q * 2 + 1, none⟩ = some (.string (bt T y)) ∧ W.frozen? ⟨g, q * 2 + 1, none⟩ = false) := Lib.hid (fun W h => by have := lastG h.ho; rw [HQ.out] at this; exact ⟨this.1, this.2.1, this.2.2.1⟩)
        obtain ⟨ya, yb⟩ := y
        generalize hDy : bt T (ya, yb) = Dy at *
        have HDy := Lib.hid hDy
        simp only at CE l0 l1 HOPN
        clear hDy hq hyi hyl hyz l3 l4 l5
        by_cases hj2 : lo = yb + 1
        · have d1 : (lo == yb + 1) = true := by rw [hj2]; exact beq_self_eq_true _
          have HJ2 := Lib.hid hj2
          clear hj2
          go_wp2_with fail
          refine wp_region_noPanic ?_
          refine wp_region_held_drew (S := fun W : World => LayS w b rd fin kn T B (.slice (some ⟨g, 0, none⟩) (q + 1) c3) (t ++ [(ya, yb)]) (.slice (some ⟨sb, soff, none⟩) m c1) S wr.heap.size lo D W) (by kernel_rfl) ?_ (fun hHeld => ?_)
          · exact HL2.out
          refine wpAnyH_take (i := 0) (v := ?_) rfl (by kernel_rfl) (by kernel_rfl) (by kernel_rfl) (fun _ _ _ h => h) (Or.inl ⟨by rfl, ?_⟩) (by assumption) ?_
          rotate_left
          · (intro w hSw; (have c1 := hSw.hs.c1; have e0 := hSw.hp.c0; have e1 := hSw.hp.c1; obtain ⟨l0, l1, -⟩ := HOPN.out _ hSw); go_simp; (try with_reducible rfl))
          try simp only [Act.put, List.getElem_toArray, List.getElem_cons_zero, List.getElem_cons_succ, List.setIfInBounds_toArray, List.set_cons_zero, List.set_cons_succ]
          refine wpAnyH_take (i := 1) (v := ?_) rfl (by kernel_rfl) (by kernel_rfl) (by kernel_rfl) (fun _ _ _ h => h) (Or.inl ⟨by rfl, ?_⟩) (by assumption) ?_
          rotate_left
          · (intro w hSw; (have c1 := hSw.hs.c1; have e0 := hSw.hp.c0; have e1 := hSw.hp.c1; obtain ⟨l0, l1, -⟩ := HOPN.out _ hSw); go_simp; (try with_reducible rfl))
          try simp only [Act.put, List.getElem_toArray, List.getElem_cons_zero, List.getElem_cons_succ, List.setIfInBounds_toArray, List.set_cons_zero, List.set_cons_succ]
          refine wpAnyH_take (i := 2) (v := ?_) rfl (by kernel_rfl) (by kernel_rfl) (by kernel_rfl) (fun _ _ _ h => h) (Or.inl ⟨by rfl, ?_⟩) (by assumption) ?_
          rotate_left
          · (intro w hSw; (have c1 := hSw.hs.c1; have e0 := hSw.hp.c0; have e1 := hSw.hp.c1; obtain ⟨l0, l1, -⟩ := HOPN.out _ hSw); go_simp; (try with_reducible rfl))
          try simp only [Act.put, List.getElem_toArray, List.getElem_cons_zero, List.getElem_cons_succ, List.setIfInBounds_toArray, List.set_cons_zero, List.set_cons_succ]
          refine wpAnyH_take (i := 3) (v := ?_) rfl (by kernel_rfl) (by kernel_rfl) (by kernel_rfl) (fun _ _ _ h => h) (Or.inl ⟨by rfl, ?_⟩) (by assumption) ?_
          rotate_left
          · (intro w hSw; (have c1 := hSw.hs.c1; have e0 := hSw.hp.c0; have e1 := hSw.hp.c1; obtain ⟨l0, l1, -⟩ := HOPN.out _ hSw); go_simp; (try with_reducible rfl))
          try simp only [Act.put, List.getElem_toArray, List.getElem_cons_zero, List.getElem_cons_succ, List.setIfInBounds_toArray, List.set_cons_zero, List.set_cons_succ]
          refine wpAnyH_take (i := 4) (v := ?_) rfl (by kernel_rfl) (by kernel_rfl) (by kernel_rfl) (fun _ _ _ h => h) (Or.inl ⟨by rfl, ?_⟩) (by assumption) ?_
          rotate_left
          · (intro w hSw; (have c1 := hSw.hs.c1; have e0 := hSw.hp.c0; have e1 := hSw.hp.c1; obtain ⟨l0, l1, -⟩ := HOPN.out _ hSw); go_simp; (try with_reducible rfl))
          try simp only [Act.put, List.getElem_toArray, List.getElem_cons_zero, List.getElem_cons_succ, List.setIfInBounds_toArray, List.set_cons_zero, List.set_cons_succ]
          refine wpAnyH_take (i := 5) (v := ?_) rfl (by kernel_rfl) (by kernel_rfl) (by kernel_rfl) (fun _ _ _ h => h) (Or.inl ⟨by rfl, ?_⟩) (by assumption) ?_
          rotate_left
          · (intro w hSw; (have c1 := hSw.hs.c1; have e0 := hSw.hp.c0; have e1 := hSw.hp.c1; obtain ⟨l0, l1, -⟩ := HOPN.out _ hSw); go_simp; (try with_reducible rfl))
          try simp only [Act.put, List.getElem_toArray, List.getElem_cons_zero, List.getElem_cons_succ, List.setIfInBounds_toArray, List.set_cons_zero, List.set_cons_succ]
          refine wpAnyH_take (i := 6) (v := ?_) rfl (by kernel_rfl) (by kernel_rfl) (by kernel_rfl) (fun _ _ _ h => h) (Or.inl ⟨by rfl, ?_⟩) (by assumption) ?_
          rotate_left
          · (intro w hSw; (have c1 := hSw.hs.c1; have e0 := hSw.hp.c0; have e1 := hSw.hp.c1; obtain ⟨l0, l1, -⟩ := HOPN.out _ hSw); go_simp; (try with_reducible rfl))
          try simp only [Act.put, List.getElem_toArray, List.getElem_cons_zero, List.getElem_cons_succ, List.setIfInBounds_toArray, List.set_cons_zero, List.set_cons_succ]
          refine wpAnyH_take (i := 7) (v := ?_) rfl (by kernel_rfl) (by kernel_rfl) (by kernel_rfl) (fun _ _ _ h => h) (Or.inl ⟨by rfl, ?_⟩) (by assumption) ?_
          rotate_left
          · (intro w hSw; (have c1 := hSw.hs.c1; have e0 := hSw.hp.c0; have e1 := hSw.hp.c1; obtain ⟨l0, l1, -⟩ := HOPN.out _ hSw); go_simp; (try with_reducible rfl))
          try simp only [Act.put, List.getElem_toArray, List.getElem_cons_zero, List.getElem_cons_succ, List.setIfInBounds_toArray, List.set_cons_zero, List.set_cons_succ]
          refine wpAnyH_take (i := 8) (v := ?_) rfl (by kernel_rfl) (by kernel_rfl) (by kernel_rfl) (fun _ _ _ h => h) (Or.inl ⟨by rfl, ?_⟩) (by assumption) ?_
          rotate_left
          · (intro w hSw; (have c1 := hSw.hs.c1; have e0 := hSw.hp.c0; have e1 := hSw.hp.c1; obtain ⟨l0, l1, -⟩ := HOPN.out _ hSw); go_simp; (try with_reducible rfl))
          try simp only [Act.put, List.getElem_toArray, List.getElem_cons_zero, List.getElem_cons_succ, List.setIfInBounds_toArray, List.set_cons_zero, List.set_cons_succ]
          refine wpAnyH_take (i := 9) (v := ?_) rfl (by kernel_rfl) (by kernel_rfl) (by kernel_rfl) (fun _ _ _ h => h) (Or.inl ⟨by rfl, ?_⟩) (by assumption) ?_
          rotate_left
          · (intro w hSw; (have c1 := hSw.hs.c1; have e0 := hSw.hp.c0; have e1 := hSw.hp.c1; obtain ⟨l0, l1, -⟩ := HOPN.out _ hSw); go_simp; (try with_reducible rfl))
          try simp only [Act.put, List.getElem_toArray, List.getElem_cons_zero, List.getElem_cons_succ, List.setIfInBounds_toArray, List.set_cons_zero, List.set_cons_succ]
          refine wpAnyH_take (i := 10) (v := ?_) rfl (by kernel_rfl) (by kernel_rfl) (by kernel_rfl) (fun _ _ _ h => h) (Or.inl ⟨by rfl, ?_⟩) (by assumption) ?_
          rotate_left
          · (intro w hSw; (have c1 := hSw.hs.c1; have e0 := hSw.hp.c0; have e1 := hSw.hp.c1; obtain ⟨l0, l1, -⟩ := HOPN.out _ hSw); go_simp; (try with_reducible rfl))
          try simp only [Act.put, List.getElem_toArray, List.getElem_cons_zero, List.getElem_cons_succ, List.setIfInBounds_toArray, List.set_cons_zero, List.set_cons_succ]
          refine wpAnyH_take (i := 11) (v := ?_) rfl (by kernel_rfl) (by kernel_rfl) (by kernel_rfl) (fun _ _ _ h => h) (Or.inl ⟨by rfl, ?_⟩) (by assumption) ?_
          rotate_left
          · (intro w hSw; (have c1 := hSw.hs.c1; have e0 := hSw.hp.c0; have e1 := hSw.hp.c1; obtain ⟨l0, l1, -⟩ := HOPN.out _ hSw); go_simp; (try with_reducible rfl))
          try simp only [Act.put, List.getElem_toArray, List.getElem_cons_zero, List.getElem_cons_succ, List.setIfInBounds_toArray, List.set_cons_zero, List.set_cons_succ]
          refine wpAnyH_take (i := 12) (v := ?_) rfl (by kernel_rfl) (by kernel_rfl) (by kernel_rfl) (fun _ _ _ h => h) (Or.inl ⟨by rfl, ?_⟩) (by assumption) ?_
          rotate_left
          · (intro w hSw; (have c1 := hSw.hs.c1; have e0 := hSw.hp.c0; have e1 := hSw.hp.c1; obtain ⟨l0, l1, -⟩ := HOPN.out _ hSw); go_simp; (try with_reducible rfl))
          try simp only [Act.put, List.getElem_toArray, List.getElem_cons_zero, List.getElem_cons_succ, List.setIfInBounds_toArray, List.set_cons_zero, List.set_cons_succ]
          refine wpAnyH_ready (rs := [13]) (by kernel_rfl) (by simp) ?_
          refine AllReadyH.cons rfl (fun K hK => ?_) AllReadyH.nil
          rw [if_pos (by rfl)]
          go_simp
          refine (CE.out _).mono ?_
          rintro e w4 ⟨rfl, hb⟩
          have HL4 := Lib.hid (HL2.out.go hb)
          clear hb
          refine hK.out _ _ ?_ (fun hHeld => ?_)
          · exact HL4.out
          clear hK K
          try simp only [Act.put, List.getElem_toArray, List.getElem_cons_zero, List.getElem_cons_succ, List.setIfInBounds_toArray, List.set_cons_zero, List.set_cons_succ]
          refine wpAnyH_take (i := 14) (v := ?_) rfl (by kernel_rfl) (by kernel_rfl) (by kernel_rfl) (fun _ _ _ h => h) (Or.inl ⟨by rfl, ?_⟩) (by assumption) ?_
          rotate_left
          · (intro w hSw; (have c1 := hSw.hs.c1; have e0 := hSw.hp.c0; have e1 := hSw.hp.c1; obtain ⟨l0, l1, -⟩ := HOPN.out _ hSw); go_simp; (try with_reducible rfl))
          try simp only [Act.put, List.getElem_toArray, List.getElem_cons_zero, List.getElem_cons_succ, List.setIfInBounds_toArray, List.set_cons_zero, List.set_cons_succ]
          refine wpAnyH_take (i := 15) (v := ?_) rfl (by kernel_rfl) (by kernel_rfl) (by kernel_rfl) (fun _ _ _ h => h) (Or.inl ⟨by rfl, ?_⟩) (by assumption) ?_
          rotate_left
          · (intro w hSw; (have c1 := hSw.hs.c1; have e0 := hSw.hp.c0; have e1 := hSw.hp.c1; obtain ⟨l0, l1, -⟩ := HOPN.out _ hSw); go_simp; (try with_reducible rfl))
          try simp only [Act.put, List.getElem_toArray, List.getElem_cons_zero, List.getElem_cons_succ, List.setIfInBounds_toArray, List.set_cons_zero, List.set_cons_succ]
          refine wpAnyH_done (by kernel_rfl) (NoPanic.normal ?_) _
          go_wp2_with fail
          have HJ : Hid ((S.take (k + 1)).foldl join [] = t ++ [(ya, hj)]) := Lib.hid (by
            rw [HF2.out, join_snoc, if_pos (by have := HJ2.out; simp only; omega), show max (ya, yb).2 (lo, hj).2 = hj by have := HJ2.out; have := HGX.out.2.1; simp only at *; omega])
          have y1 := HL4.out.hs.c1
          have e0 := HL4.out.hp.c0
          have e1 := HL4.out.hp.c1
          obtain ⟨l0, l1, l2⟩ := HOPN.out _ HL4.out
          have l3 : B ≤ g := by have := HL4.out.ho.lt (k := g) rfl; exact this.1
          have hbB : b < B := by have := HBL.out; have := HZ3.out.1; omega
          have hwB : w.heap.size ≤ B := HZ3.out.1
          have l4 : g < w4.heap.size := block_lt_of_cell l0
          have HREL : Hid (LayRel w b rd fin kn T B (.slice (some ⟨sb, soff, none⟩) m c1) S m (.int .i64 (k + 1 : Nat)) (w4.drew.setCell ⟨g, q * 2 + 1, none⟩ (.string (Dy ++ D)))) := Lib.hid (by
            have hL := HL4.out.go (Below.refl _ _).drew
            refine ⟨k + 1, .slice (some ⟨g, 0, none⟩) (q + 1) c3, by omega, rfl, (hL.hs.other (by omega) _).l _, ?_, ?_, ?_, ?_⟩
            · rw [HJ.out]
              have h := owns_setG (hi := hj) hL.ho (by rw [HQ.out]) HYI.out.1 HYI.out.2.1 (by have := HJ2.out; have := HGX.out.2.1; simp only at *; omega)
              rw [HQ.out, HDy.out] at h
              rw [show bt T ((ya, yb).2 + 1, hj) = D by rw [← HDD.out]; have := HJ2.out; simp only at *; rw [← this]] at h
              exact h
            · exact hL.hr.keep (by simp) (fun z hz => Below.heap_setCell _ ⟨g, q * 2 + 1, none⟩ _ z (by have := (HVB.out z hz).1; show z ≠ g; omega))
            · exact hL.hb.trans' (Only.setCell (O := (· = g)) (p := ⟨g, q * 2 + 1, none⟩) rfl _ _) (fun z h1 h2 => by omega)
            · have := hL.hz; simpa using this)
          have d03 : (q : Int) + 1 ≤ 503 := by omega
          have d04 : ¬ 9223372036854775807 < Dy.size + D.size := by
            have h1 := bt_size HYI.out
            have h2 := bt_size HGX.out
            have h3 := HYI.out.1
            have h4 := HYI.out.2.2
            have h5 := HGX.out.1
            have h6 := HGX.out.2.2
            rw [HDy.out] at h1
            rw [HDD.out] at h2
            simp only at h1 h2 h3 h4 h5 h6
            omega
          clear HJ HL1 HL2 HF2 HFI HOPN HYI HYL l3 hbB hwB z1 z2
          go_region
          all_goals
            go_wp2
            go_roundw
            case rel =>
              obtain ⟨k', u', e1, e2, e3⟩ := HREL.out
              exact ⟨k', u', e1, by first | exact e2 | (rw [← e2]; go_num), e3⟩
            case measure => simp [intOf]; omega
        · have d1 : (lo == yb + 1) = false := beq_eq_false_iff_ne.2 hj2
          have HJ2 := Lib.hid hj2
          clear hj2
          go_wp2_with fail
          refine wp_region_noPanic ?_
          refine wp_region_held_drew (S := fun W : World => LayS w b rd fin kn T B (.slice (some ⟨g, 0, none⟩) (q + 1) c3) (t ++ [(ya, yb)]) (.slice (some ⟨sb, soff, none⟩) m c1) S wr.heap.size lo D W) (by kernel_rfl) ?_ (fun hHeld => ?_)
          · exact HL2.out
          refine wpAnyH_take (i := 0) (v := ?_) rfl (by kernel_rfl) (by kernel_rfl) (by kernel_rfl) (fun _ _ _ h => h) (Or.inl ⟨by rfl, ?_⟩) (by assumption) ?_
          rotate_left
          · (intro w hSw; (have c1 := hSw.hs.c1; have e0 := hSw.hp.c0; have e1 := hSw.hp.c1; obtain ⟨l0, l1, -⟩ := HOPN.out _ hSw); go_simp; (try with_reducible rfl))
          try simp only [Act.put, List.getElem_toArray, List.getElem_cons_zero, List.getElem_cons_succ, List.setIfInBounds_toArray, List.set_cons_zero, List.set_cons_succ]
          refine wpAnyH_take (i := 1) (v := ?_) rfl (by kernel_rfl) (by kernel_rfl) (by kernel_rfl) (fun _ _ _ h => h) (Or.inl ⟨by rfl, ?_⟩) (by assumption) ?_
          rotate_left
          · (intro w hSw; (have c1 := hSw.hs.c1; have e0 := hSw.hp.c0; have e1 := hSw.hp.c1; obtain ⟨l0, l1, -⟩ := HOPN.out _ hSw); go_simp; (try with_reducible rfl))
          try simp only [Act.put, List.getElem_toArray, List.getElem_cons_zero, List.getElem_cons_succ, List.setIfInBounds_toArray, List.set_cons_zero, List.set_cons_succ]
          refine wpAnyH_take (i := 2) (v := ?_) rfl (by kernel_rfl) (by kernel_rfl) (by kernel_rfl) (fun _ _ _ h => h) (Or.inl ⟨by rfl, ?_⟩) (by assumption) ?_
          rotate_left
          · (intro w hSw; (have c1 := hSw.hs.c1; have e0 := hSw.hp.c0; have e1 := hSw.hp.c1; obtain ⟨l0, l1, -⟩ := HOPN.out _ hSw); go_simp; (try with_reducible rfl))
          try simp only [Act.put, List.getElem_toArray, List.getElem_cons_zero, List.getElem_cons_succ, List.setIfInBounds_toArray, List.set_cons_zero, List.set_cons_succ]
          refine wpAnyH_take (i := 3) (v := ?_) rfl (by kernel_rfl) (by kernel_rfl) (by kernel_rfl) (fun _ _ _ h => h) (Or.inl ⟨by rfl, ?_⟩) (by assumption) ?_
          rotate_left
          · (intro w hSw; (have c1 := hSw.hs.c1; have e0 := hSw.hp.c0; have e1 := hSw.hp.c1; obtain ⟨l0, l1, -⟩ := HOPN.out _ hSw); go_simp; (try with_reducible rfl))
          try simp only [Act.put, List.getElem_toArray, List.getElem_cons_zero, List.getElem_cons_succ, List.setIfInBounds_toArray, List.set_cons_zero, List.set_cons_succ]
          refine wpAnyH_take (i := 4) (v := ?_) rfl (by kernel_rfl) (by kernel_rfl) (by kernel_rfl) (fun _ _ _ h => h) (Or.inl ⟨by rfl, ?_⟩) (by assumption) ?_
          rotate_left
          · (intro w hSw; (have c1 := hSw.hs.c1; have e0 := hSw.hp.c0; have e1 := hSw.hp.c1; obtain ⟨l0, l1, -⟩ := HOPN.out _ hSw); go_simp; (try with_reducible rfl))
          try simp only [Act.put, List.getElem_toArray, List.getElem_cons_zero, List.getElem_cons_succ, List.setIfInBounds_toArray, List.set_cons_zero, List.set_cons_succ]
          refine wpAnyH_take (i := 5) (v := ?_) rfl (by kernel_rfl) (by kernel_rfl) (by kernel_rfl) (fun _ _ _ h => h) (Or.inl ⟨by rfl, ?_⟩) (by assumption) ?_
          rotate_left
          · (intro w hSw; (have c1 := hSw.hs.c1; have e0 := hSw.hp.c0; have e1 := hSw.hp.c1; obtain ⟨l0, l1, -⟩ := HOPN.out _ hSw); go_simp; (try with_reducible rfl))
          try simp only [Act.put, List.getElem_toArray, List.getElem_cons_zero, List.getElem_cons_succ, List.setIfInBounds_toArray, List.set_cons_zero, List.set_cons_succ]
          refine wpAnyH_take (i := 6) (v := ?_) rfl (by kernel_rfl) (by kernel_rfl) (by kernel_rfl) (fun _ _ _ h => h) (Or.inl ⟨by rfl, ?_⟩) (by assumption) ?_
          rotate_left
          · (intro w hSw; (have c1 := hSw.hs.c1; have e0 := hSw.hp.c0; have e1 := hSw.hp.c1; obtain ⟨l0, l1, -⟩ := HOPN.out _ hSw); go_simp; (try with_reducible rfl))
          try simp only [Act.put, List.getElem_toArray, List.getElem_cons_zero, List.getElem_cons_succ, List.setIfInBounds_toArray, List.set_cons_zero, List.set_cons_succ]
          refine wpAnyH_take (i := 7) (v := ?_) rfl (by kernel_rfl) (by kernel_rfl) (by kernel_rfl) (fun _ _ _ h => h) (Or.inl ⟨by rfl, ?_⟩) (by assumption) ?_
          rotate_left
          · (intro w hSw; (have c1 := hSw.hs.c1; have e0 := hSw.hp.c0; have e1 := hSw.hp.c1; obtain ⟨l0, l1, -⟩ := HOPN.out _ hSw); go_simp; (try with_reducible rfl))
          try simp only [Act.put, List.getElem_toArray, List.getElem_cons_zero, List.getElem_cons_succ, List.setIfInBounds_toArray, List.set_cons_zero, List.set_cons_succ]
          refine wpAnyH_take (i := 8) (v := ?_) rfl (by kernel_rfl) (by kernel_rfl) (by kernel_rfl) (fun _ _ _ h => h) (Or.inl ⟨by rfl, ?_⟩) (by assumption) ?_
          rotate_left
          · (intro w hSw; (have c1 := hSw.hs.c1; have e0 := hSw.hp.c0; have e1 := hSw.hp.c1; obtain ⟨l0, l1, -⟩ := HOPN.out _ hSw); go_simp; (try with_reducible rfl))
          try simp only [Act.put, List.getElem_toArray, List.getElem_cons_zero, List.getElem_cons_succ, List.setIfInBounds_toArray, List.set_cons_zero, List.set_cons_succ]
          refine wpAnyH_take (i := 9) (v := ?_) rfl (by kernel_rfl) (by kernel_rfl) (by kernel_rfl) (fun _ _ _ h => h) (Or.inl ⟨by rfl, ?_⟩) (by assumption) ?_
          rotate_left
          · (intro w hSw; (have c1 := hSw.hs.c1; have e0 := hSw.hp.c0; have e1 := hSw.hp.c1; obtain ⟨l0, l1, -⟩ := HOPN.out _ hSw); go_simp; (try with_reducible rfl))
          try simp only [Act.put, List.getElem_toArray, List.getElem_cons_zero, List.getElem_cons_succ, List.setIfInBounds_toArray, List.set_cons_zero, List.set_cons_succ]
          refine wpAnyH_take (i := 10) (v := ?_) rfl (by kernel_rfl) (by kernel_rfl) (by kernel_rfl) (fun _ _ _ h => h) (Or.inl ⟨by rfl, ?_⟩) (by assumption) ?_
          rotate_left
          · (intro w hSw; (have c1 := hSw.hs.c1; have e0 := hSw.hp.c0; have e1 := hSw.hp.c1; obtain ⟨l0, l1, -⟩ := HOPN.out _ hSw); go_simp; (try with_reducible rfl))
          try simp only [Act.put, List.getElem_toArray, List.getElem_cons_zero, List.getElem_cons_succ, List.setIfInBounds_toArray, List.set_cons_zero, List.set_cons_succ]
          refine wpAnyH_take (i := 11) (v := ?_) rfl (by kernel_rfl) (by kernel_rfl) (by kernel_rfl) (fun _ _ _ h => h) (Or.inl ⟨by rfl, ?_⟩) (by assumption) ?_
          rotate_left
          · (intro w hSw; (have c1 := hSw.hs.c1; have e0 := hSw.hp.c0; have e1 := hSw.hp.c1; obtain ⟨l0, l1, -⟩ := HOPN.out _ hSw); go_simp; (try with_reducible rfl))
          try simp only [Act.put, List.getElem_toArray, List.getElem_cons_zero, List.getElem_cons_succ, List.setIfInBounds_toArray, List.set_cons_zero, List.set_cons_succ]
          refine wpAnyH_take (i := 12) (v := ?_) rfl (by kernel_rfl) (by kernel_rfl) (by kernel_rfl) (fun _ _ _ h => h) (Or.inl ⟨by rfl, ?_⟩) (by assumption) ?_
          rotate_left
          · (intro w hSw; (have c1 := hSw.hs.c1; have e0 := hSw.hp.c0; have e1 := hSw.hp.c1; obtain ⟨l0, l1, -⟩ := HOPN.out _ hSw); go_simp; (try with_reducible rfl))
          try simp only [Act.put, List.getElem_toArray, List.getElem_cons_zero, List.getElem_cons_succ, List.setIfInBounds_toArray, List.set_cons_zero, List.set_cons_succ]
          refine wpAnyH_ready (rs := [13]) (by kernel_rfl) (by simp) ?_
          refine AllReadyH.cons rfl (fun K hK => ?_) AllReadyH.nil
          rw [if_pos (by rfl)]
          go_simp
          refine (CE.out _).mono ?_
          rintro e w4 ⟨rfl, hb⟩
          have HL4 := Lib.hid (HL2.out.go hb)
          clear hb
          refine hK.out _ _ ?_ (fun hHeld => ?_)
          · exact HL4.out
          clear hK K
          try simp only [Act.put, List.getElem_toArray, List.getElem_cons_zero, List.getElem_cons_succ, List.setIfInBounds_toArray, List.set_cons_zero, List.set_cons_succ]
          refine wpAnyH_take (i := 14) (v := ?_) rfl (by kernel_rfl) (by kernel_rfl) (by kernel_rfl) (fun _ _ _ h => h) (Or.inl ⟨by rfl, ?_⟩) (by assumption) ?_
          rotate_left
          · (intro w hSw; (have c1 := hSw.hs.c1; have e0 := hSw.hp.c0; have e1 := hSw.hp.c1; obtain ⟨l0, l1, -⟩ := HOPN.out _ hSw); go_simp; (try with_reducible rfl))
          try simp only [Act.put, List.getElem_toArray, List.getElem_cons_zero, List.getElem_cons_succ, List.setIfInBounds_toArray, List.set_cons_zero, List.set_cons_succ]
          refine wpAnyH_take (i := 15) (v := ?_) rfl (by kernel_rfl) (by kernel_rfl) (by kernel_rfl) (fun _ _ _ h => h) (Or.inl ⟨by rfl, ?_⟩) (by assumption) ?_
          rotate_left
          · (intro w hSw; (have c1 := hSw.hs.c1; have e0 := hSw.hp.c0; have e1 := hSw.hp.c1; obtain ⟨l0, l1, -⟩ := HOPN.out _ hSw); go_simp; (try with_reducible rfl))
          try simp only [Act.put, List.getElem_toArray, List.getElem_cons_zero, List.getElem_cons_succ, List.setIfInBounds_toArray, List.set_cons_zero, List.set_cons_succ]
          refine wpAnyH_done (by kernel_rfl) (NoPanic.normal ?_) _
          go_wp2_with fail
          have HL5 := HL4
          clear HL2
          have HL2 := HL5
          clear HL4 HL5
          generalize w4 = W2 at *
          have HJ : Hid ((S.take (k + 1)).foldl join [] = t ++ [(ya, yb)] ++ [(lo, hj)]) := Lib.hid (by
            rw [HF2.out, join_snoc, if_neg (by have := HJ2.out; have := HYL.out; simp only at *; omega)])
          clear HL1 HF2 z1 z2 HFI HYI HYL
          have y1 := HL2.out.hs.c1
          have e0 := HL2.out.hp.c0
          have e1 := HL2.out.hp.c1
          have hbW := HL2.out.hs.lt
          have hpW := HL2.out.hp.lt
          have HRX : Hid (RowG (W2.alloc (.cells #[.int .u64 lo, .string D] 137)).drew (.slice (some ⟨W2.heap.size, 0, none⟩) 1 1) T [(lo, hj)]) := Lib.hid (by
            have h := (rowG_one W2 137 T (lo, hj)).go (Below.refl _ _).drew
            rw [HDD.out] at h
            exact h)
          obtain ⟨v', w', HA, ho', hgr, hwh⟩ := run_append_G tyG T (W2.alloc (.cells #[.int .u64 lo, .string D] 137)).drew B 31 (.slice (some ⟨g, 0, none⟩) (q + 1) c3) (t ++ [(ya, yb)]) ((HL2.out.ho.go ((Below.refl _ _).alloc (Nat.le_refl _) _)).go (Below.refl _ _).drew) (.slice (some ⟨W2.heap.size, 0, none⟩) 1 1) [(lo, hj)] HRX.out (by have := HLX.out; first | omega | (simp at *; omega) | (simp; done)) (by have := HL2.out.hz; simp; omega)
          obtain ⟨va, vc, rfl⟩ := ho'.form
          have hb' : Below B W2 w' := (((Below.refl _ _).alloc HL2.out.hz _).drew).grown hgr (by have := HL2.out.hz; simp; omega) (fun q hq => (HL2.out.ho.lt hq).1)
          have hbB : b < B := by have := HBL.out; have := HZ3.out.1; omega
          have hG := (hb'.block b hbB).trans HL2.out.hs
          have p1 : w'.cell? ⟨b, 1, none⟩ = _ := Lib.cell_of_heap hG 1
          have pf1 : w'.frozen? ⟨b, 1, none⟩ = false := Lib.frozen_of_heap hG 1
          have hN : Only (fun q => q = b) w w' := HL2.out.hb.trans' (Only.of_below hb' (O := fun q => B ≤ q) (fun q _ h => h)) (fun i h1 h2 => by have := HZ3.out.1; omega)
          have HREL : Hid (LayRel w b rd fin kn T B (.slice (some ⟨sb, soff, none⟩) m c1) S m (.int .i64 (k + 1 : Nat)) (w'.setCell ⟨b, 1, none⟩ (.slice va (t ++ [(ya, yb)] ++ [(lo, hj)]).length vc))) := Lib.hid (by
            refine ⟨k + 1, .slice va (t ++ [(ya, yb)] ++ [(lo, hj)]).length vc, by omega, rfl, ?_, ?_, ?_, ?_, ?_⟩
            rotate_left 1
            · rw [HJ.out]
              exact OwnG.only ho' (only_atG b 1 w' _) (fun q hq h => by have := (World.ownsRow.lt ho' q hq).1; omega)
            · exact HL2.out.hr.keep (by have := hb'.size; simp; omega) (fun q hq => (Below.heap_setCell w' ⟨b, 1, none⟩ _ q (HVB.out q hq).2).trans (hb'.block q (HVB.out q hq).1))
            · exact hN.trans (only_atG b 1 w' _)
            · have := hb'.size; have := HL2.out.hz; simp; omega
            · rw [HJ.out]
              exact Gb.s1 hG (t ++ [(ya, yb)] ++ [(lo, hj)]) _)
          generalize (t ++ [(ya, yb)] ++ [(lo, hj)]).length = vn at *
          clear ho' hgr hwh hb' hbB hG hN HRX HJ
          go_region_law (refine step_appendG rfl _ _ _ _ rfl _ _ rfl rfl HA ?_)
          all_goals
            go_wp2
            go_roundw
            case rel =>
              obtain ⟨k', u', e1, e2, e3⟩ := HREL.out
              exact ⟨k', u', e1, by first | exact e2 | (rw [← e2]; go_num), e3⟩
            case measure => simp [intOf]; omega
    · obtain rfl : k = m := by omega
      have hz := HSM.out
      have hjc := joins_can S [] Can.nil (fun r hr => by have := HSI.out r hr; have := HT0.out; unfold Inn at *; omega) HP2.out (fun x hx => by cases hx)
      rw [List.take_of_length_le (by omega)] at hgb hown
      have HJC := Lib.hid hjc
      have HGB := Lib.hid hgb
      have HOW := Lib.hid (hown.mono HZ3.out.1)
      have HON := Lib.hid hon
      clear hjc hgb hown hon hrs
      go_wp2_with fail
      go_end0
      refine ⟨rfl, u, _, HJC.out.1, fun x => ?_, HGB.out, HOW.out, HON.out⟩
      rw [HJC.out.2, mem_perm (fun y => HP1.out.mem_iff) x, mem_append]
      exact ⟨fun h => h.resolve_left (mem_nil x), .inr⟩
end Go.Proofs.YtoblmhpjendbfaaGreatDoor.Rg.Gt
