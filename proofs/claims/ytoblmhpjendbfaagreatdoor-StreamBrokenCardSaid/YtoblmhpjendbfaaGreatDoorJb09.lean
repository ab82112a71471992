/- Layer 14: the walks of what is lacking, and refused; a cursor · GtE -/
import Derived.Test.YtoblmhpjendbfaaGreatDoorJb08
import Derived.Test.YtoblmhpjendbfaaGreatDoorJb01
namespace Go.Proofs.YtoblmhpjendbfaaGreatDoor.Rg.Gt
set_option maxRecDepth 20000
open Go.RowKit Go.Shelf
set_option linter.unusedVariables false
set_option linter.unusedSimpArgs false

/-- A state and a part in their boxes, with the state's row. -/
structure SP (w : World) (g k : Nat) (s : GS) (v : Value) (T : ByteArray) (off : Int) (d : ByteArray) (W : World) : Prop where
  hs : Gb W g 33 s v
  hp : Bk2 W k 137 (.int .u64 off) (.string d)
  hr : RowG W v T s.l
  hb : Below w.heap.size w W
theorem SP.go {w W W' : World} {g k : Nat} {s : GS} {v : Value} {T : ByteArray} {off : Int} {d : ByteArray} (h : SP w g k s v T off d W) (hb : Below W.heap.size W W') : SP w g k s v T off d W' := ⟨h.hs.go hb, h.hp.go hb, h.hr.go hb, nextG h.hb hb⟩
theorem SP.go' {w W W' : World} {g k B : Nat} {s : GS} {v : Value} {T : ByteArray} {off : Int} {d : ByteArray} (h : SP w g k s v T off d W) (hb : Below B W W') (hg : g < B) (hk : k < B) (hv : ∀ q, Blk v q → q < B) (hw : w.heap.size ≤ g := by exact Nat.le_refl _) : SP w g k s v T off d W' :=
  ⟨(hb.block g hg).trans h.hs, (hb.block k hk).trans h.hp, h.hr.keep hb.size (fun q hq => hb.block q (hv q hq)), h.hb.trans (hb.mono (by omega))⟩
theorem sp_made (w : World) (s : GS) (v : Value) (T : ByteArray) (off : Int) (d : ByteArray) (hr : RowG w v T s.l) :
    SP w w.heap.size (w.heap.size + 1) s v T off d ((w.alloc (.cells #[.int .u64 s.rd, v, .int .u64 s.fin, .bool s.kn] 33)).alloc (.cells #[.int .u64 off, .string d] 137)) := by
  have b1 : Below w.heap.size w (w.alloc (.cells #[.int .u64 s.rd, v, .int .u64 s.fin, .bool s.kn] 33)) := (Below.refl _ _).alloc (Nat.le_refl _) _
  have b2 := (Below.refl (w.alloc (.cells #[.int .u64 s.rd, v, .int .u64 s.fin, .bool s.kn] 33)).heap.size (w.alloc (.cells #[.int .u64 s.rd, v, .int .u64 s.fin, .bool s.kn] 33))).alloc (Nat.le_refl _) (.cells #[.int .u64 off, .string d] 137)
  refine ⟨(gb_made w _ s v).go b2, ?_, hr.go (nextG b1 b2), nextG b1 b2⟩
  have := bk2_made (w.alloc (.cells #[.int .u64 s.rd, v, .int .u64 s.fin, .bool s.kn] 33)) 137 (.int .u64 off) (.string d)
  rwa [World.size_alloc] at this

def LackRel (w : World) (g k : Nat) (s : GS) (v0 : Value) (T : ByteArray) (off : Int) (d : ByteArray) (G : List Ran) (B n : Nat) (vr : Value) (sv iv : Value) (wr : World) : Prop :=
  ∃ i : Nat, i ≤ n ∧ iv = .int .i64 i ∧ OwnG 137 wr B sv T (G.take i) ∧ SP w g k s v0 T off d wr ∧ Rd wr vr G ∧ B ≤ wr.heap.size ∧ (∀ q, Blk vr q → q < B)
set_option maxHeartbeats 4000000 in
theorem lacking_any (T : ByteArray) (s : GS) (a : Option Addr) (n c : Nat) (off : Int) (d : ByteArray) (w : World) (hok : GsOk T s) (hT : (T.size : Int) ≤ 4611686018427387903) (hL : s.l.length ≤ 900) (hn : s.l.length = n) (hr : RowG w (.slice a n c) T s.l)
    (h0 : 0 ≤ off) (h1 : off ≤ 4611686018427387903) (h2 : (d.size : Int) ≤ 4611686018427387903)
    (hD : ∀ r : Ran, off ≤ r.1 → r.1 ≤ r.2 → r.2 < off + (d.size : Int) → (∀ k, inn r k → s.rd ≤ k ∧ ¬ mem s.l k) → d.extract (r.1 - off).toNat (r.2 - off + 1).toNat = bt T r) :
    Calls Tryz.prog 96 #[.agg #[.int .u64 s.rd, .slice a n c, .int .u64 s.fin, .bool s.kn], .agg #[.int .u64 off, .string d]] w fun e w' =>
      ∃ u G, e = .returned u ∧ Can G ∧ (∀ k, mem G k ↔ (off ≤ k ∧ k < off + (d.size : Int)) ∧ s.rd ≤ k ∧ ¬ mem s.l k) ∧ G.length ≤ n + 2 ∧ RowG w' u T G ∧ Below w.heap.size w w' := by
  have hlen : (s.l.length : Int) ≤ 900 := by omega
  have r0 := hok.r0
  have hn0 : (n : Int) ≤ 900 := by omega
  have CH := Lib.hid (fun W h => had_any T s a n c W hok hT hL hn h)
  have CP := Lib.hid (fun W => places_any off d W h0 (by omega) (by omega))
  have CPC := Lib.hid (fun lo hi D W a1 a2 a3 hd => piece_any off lo hi d D W h0 a1 a2 a3 (by omega) (by omega) hd)
  obtain ⟨r, hrr⟩ : ∃ r, spn off (off + (d.size : Int)) = r := ⟨_, rfl⟩
  have hgr := spn_good (a := off) (b := off + (d.size : Int)) h0 (by omega)
  have hin := fun k => inn_spn (a := off) (b := off + (d.size : Int)) (n := k)
  rw [hrr] at CP hgr hin
  have HIN := Lib.hid hin
  have CG := Lib.hid (fun (a : Option Addr) (m c : Nat) (H : List Ran) W hl hcan h => gaps_any a m c H r.1 r.2 W hl hcan hgr.1 hgr.2 h)
  have LC := Lib.hid (fun (H : List Ran) (hcan : Can H) => lack_can hcan r hgr.1 hgr.2)
  have HS := Lib.hid ((sp_made w s (.slice a n c) T off d hr).go (Below.refl _ _).drew)
  have HD := Lib.hid hD
  have HR0 := Lib.hid (And.intro r0 (And.intro h0 (And.intro h1 h2)))
  obtain ⟨rl, rh⟩ := r
  simp only at CP CG
  clear hlen hr h0 h1 h2 hD hrr hgr hin r0 hok
  go_enter Tryz.func96, Tryz.ntmps96
  go_wp2_with fail
  refine wp_region_noPanic ?_
  refine wp_region_held_drew (S := fun W : World => SP w w.heap.size (w.heap.size + 1) s (.slice a n c) T off d W) (by kernel_rfl) ?_ (fun hHeld => ?_)
  · exact HS.out
  refine wpAnyH_take (i := 0) (v := ?_) rfl (by kernel_rfl) (by kernel_rfl) (by kernel_rfl) (fun _ _ _ h => h) (Or.inl ⟨by rfl, ?_⟩) (by assumption) ?_
  rotate_left
  · (intro w hSw; (have c0 := hSw.hs.c0; have c1 := hSw.hs.c1; have c2 := hSw.hs.c2; have c3 := hSw.hs.c3; have e0 := hSw.hp.c0; have e1 := hSw.hp.c1); go_simp; (try with_reducible rfl))
  try simp only [Act.put, List.getElem_toArray, List.getElem_cons_zero, List.getElem_cons_succ, List.setIfInBounds_toArray, List.set_cons_zero, List.set_cons_succ]
  refine wpAnyH_take (i := 2) (v := ?_) rfl (by kernel_rfl) (by kernel_rfl) (by kernel_rfl) (fun _ _ _ h => h) (Or.inl ⟨by rfl, ?_⟩) (by assumption) ?_
  rotate_left
  · (intro w hSw; (have c0 := hSw.hs.c0; have c1 := hSw.hs.c1; have c2 := hSw.hs.c2; have c3 := hSw.hs.c3; have e0 := hSw.hp.c0; have e1 := hSw.hp.c1); go_simp; (try with_reducible rfl))
  try simp only [Act.put, List.getElem_toArray, List.getElem_cons_zero, List.getElem_cons_succ, List.setIfInBounds_toArray, List.set_cons_zero, List.set_cons_succ]
  refine wpAnyH_take (i := 6) (v := ?_) rfl (by kernel_rfl) (by kernel_rfl) (by kernel_rfl) (fun _ _ _ h => h) (Or.inl ⟨by rfl, ?_⟩) (by assumption) ?_
  rotate_left
  · (intro w hSw; (have c0 := hSw.hs.c0; have c1 := hSw.hs.c1; have c2 := hSw.hs.c2; have c3 := hSw.hs.c3; have e0 := hSw.hp.c0; have e1 := hSw.hp.c1); go_simp; (try with_reducible rfl))
  try simp only [Act.put, List.getElem_toArray, List.getElem_cons_zero, List.getElem_cons_succ, List.setIfInBounds_toArray, List.set_cons_zero, List.set_cons_succ]
  refine wpAnyH_ready (rs := [1]) (by kernel_rfl) (by simp) ?_
  refine AllReadyH.cons rfl (fun K hK => ?_) AllReadyH.nil
  rw [if_pos (by rfl)]
  go_simp
  refine (CH.out _ HS.out.hr).mono ?_
  rintro e w1 ⟨u, H, rfl, q1, q2, q3, q4, hb⟩
  have HS1 := Lib.hid (HS.out.go hb)
  have Q1 := Lib.hid q1
  have Q2 := Lib.hid q2
  have Q3 := Lib.hid q3
  obtain ⟨ua, uc, rfl, -⟩ := id q4
  obtain ⟨un, hun⟩ : ∃ m, H.length = m := ⟨_, rfl⟩
  rw [hun] at q4 Q3 ⊢
  have HUN := Lib.hid hun
  have Q4 := Lib.hid q4
  clear hb q1 q2 q3 q4 hun
  refine hK.out _ _ ?_ (fun hHeld => ?_)
  · exact HS1.out
  clear hK K
  try simp only [Act.put, List.getElem_toArray, List.getElem_cons_zero, List.getElem_cons_succ, List.setIfInBounds_toArray, List.set_cons_zero, List.set_cons_succ]
  refine wpAnyH_ready (rs := [3]) (by kernel_rfl) (by simp) ?_
  refine AllReadyH.cons rfl (fun K hK => ?_) AllReadyH.nil
  rw [if_pos (by rfl)]
  go_simp
  refine (CP.out _).mono ?_
  rintro e w2 ⟨rfl, hb⟩
  have HS2 := Lib.hid (HS1.out.go hb)
  have Q5 := Lib.hid (Q4.out.below hb (Nat.le_refl _))
  clear hb
  refine hK.out _ _ ?_ (fun hHeld => ?_)
  · exact HS2.out
  clear hK K
  try simp only [Act.put, List.getElem_toArray, List.getElem_cons_zero, List.getElem_cons_succ, List.setIfInBounds_toArray, List.set_cons_zero, List.set_cons_succ]
  refine wpAnyH_ready (rs := [4]) (by kernel_rfl) (by simp) ?_
  refine AllReadyH.cons rfl (fun K hK => ?_) AllReadyH.nil
  rw [if_pos (by rfl)]
  go_simp
  refine (CG.out ua un uc H _ (by have := Q3.out; have := HUN.out; omega) Q1.out Q5.out).mono ?_
  rintro e w3 ⟨x, rfl, q6, hb⟩
  have HS3 := Lib.hid (HS2.out.go hb)
  obtain ⟨xa, xc, rfl, -⟩ := id q6
  obtain ⟨xn, hxn⟩ : ∃ m, (lack H (rl, rh)).length = m := ⟨_, rfl⟩
  rw [hxn] at q6 ⊢
  have HXN := Lib.hid hxn
  have Q6 := Lib.hid q6
  clear hb q6 hxn
  refine hK.out _ _ ?_ (fun hHeld => ?_)
  · exact HS3.out
  clear hK K
  try simp only [Act.put, List.getElem_toArray, List.getElem_cons_zero, List.getElem_cons_succ, List.setIfInBounds_toArray, List.set_cons_zero, List.set_cons_succ]
  refine wpAnyH_take (i := 5) (v := ?_) rfl (by kernel_rfl) (by kernel_rfl) (by kernel_rfl) (fun _ _ _ h => h) (Or.inl ⟨by rfl, ?_⟩) (by assumption) ?_
  rotate_left
  · (intro w hSw; (have c0 := hSw.hs.c0; have c1 := hSw.hs.c1; have c2 := hSw.hs.c2; have c3 := hSw.hs.c3; have e0 := hSw.hp.c0; have e1 := hSw.hp.c1); go_simp; (try with_reducible rfl))
  try simp only [Act.put, List.getElem_toArray, List.getElem_cons_zero, List.getElem_cons_succ, List.setIfInBounds_toArray, List.set_cons_zero, List.set_cons_succ]
  refine wpAnyH_done (by kernel_rfl) (NoPanic.normal ?_) _
  clear CH CP CG HS HS1 HS2 Q4 Q5
  have LL := Lib.hid (lack_len H (rl, rh))
  have LH := Lib.hid (LC.out H Q1.out)
  clear LC
  generalize lack H (rl, rh) = G at *
  have hxn0 : (xn : Int) ≤ 902 := by have := LL.out; have := Q3.out; have := HUN.out; have := HXN.out; omega
  go_wp2_with fail
  have HLOW : Hid (w.heap.size < w3.heap.size ∧ w.heap.size + 1 < w3.heap.size ∧ ∀ q, Blk (.slice a n c) q → q < w3.heap.size) := Lib.hid ⟨HS3.out.hs.lt, HS3.out.hp.lt, fun q hq => HS3.out.hr.blk hq⟩
  go_loopw [5, 7, 14] (fun sv _ iv wr => LackRel w w.heap.size (w.heap.size + 1) s (.slice a n c) T off d G w3.heap.size xn (.slice xa xn xc) sv iv wr) (fun _ _ iv _ => xn - (intOf iv).toNat)
  case atStart => exact ⟨0, Nat.zero_le _, rfl, OwnG.nil _ _ _ _, HS3.out, Q6.out, Nat.le_refl _, fun q hq => Q6.out.blk hq⟩
  case round =>
    obtain ⟨k, hk, rfl, hown, hsp, hrd, hsw, hbq⟩ := hrel
    have HOW := Lib.hid hown
    have HSP := Lib.hid hsp
    have HSR := Lib.hid hsw
    have HBQ := Lib.hid hbq
    have HRD := Lib.hid hrd
    obtain ⟨a3, cap3, rfl⟩ := hown.form
    rw [show (G.take k).length = k by have := HXN.out; simp; omega] at HOW ⊢
    clear hown hsp hsw hbq
    by_cases hlt : k < xn
    · obtain ⟨xa', xc', e, hnc, hrow⟩ := hrd
      obtain ⟨rfl, rfl⟩ : xa = xa' ∧ xc = xc' := by injection e with h1 h2 h3; exact ⟨h1, h3⟩
      obtain ⟨b, off2, rfl, hc⟩ := hrow (fun h => by have := HXN.out; rw [h] at this; simp at this; omega)
      rw [HXN.out] at hnc
      obtain ⟨hc1, hc2⟩ := hc k (by have := HXN.out; omega)
      have HT := Lib.hid (take_succ_getD G (0, 0) (by have := HXN.out; omega : k < G.length))
      have HGX : Hid (G.getD k (0, 0) ∈ G) := Lib.hid (by rw [getD_get (by have := HXN.out; omega)]; exact List.getElem_mem _)
      clear hc hrow e
      generalize G.getD k (0, 0) = x at *
      obtain ⟨lo, hj⟩ := x
      simp only at hc1 hc2
      have hh := LH.out.1.good _ HGX.out
      have hmm := fun q (hq : inn (lo, hj) q) => (LH.out.2.2 q).1 ⟨_, HGX.out, hq⟩
      have m1 := (HIN.out lo).1 (hmm lo ⟨Int.le_refl _, hh.2.1⟩).1
      have m2 := (HIN.out hj).1 (hmm hj ⟨hh.2.1, Int.le_refl _⟩).1
      have hD := HD.out (lo, hj) m1.1 hh.2.1 m2.2 (fun q hq => by
        have h1 := (hmm q hq).2
        rw [Q2.out] at h1
        have h2 : 0 ≤ q := by have := hq.1; have := hh.1; simp only at *; omega
        exact ⟨by apply Classical.byContradiction; intro h3; exact h1 (.inl ⟨h2, by omega⟩), fun h3 => h1 (.inr h3)⟩)
      have CPk := Lib.hid (fun W => CPC.out lo hj (bt T (lo, hj)) W m1.1 (by have := hh.2.1; simp only at *; omega) (by have := m2.2; omega) hD)
      clear hh hmm m1 m2 hD
      generalize hDD : bt T (lo, hj) = D at *
      have HDD := Lib.hid hDD
      clear hDD
      have HSA := Lib.hid (HSP.out.go ((Below.refl _ _).alloc (Nat.le_refl _) (.cells #[.int .u64 lo, .int .u64 hj] 153)))
      have e0 := HSA.out.hp.c0
      have e1 := HSA.out.hp.c1
      go_wp2_with fail
      refine (CPk.out _).mono ?_
      rintro e w4 ⟨rfl, hb⟩
      have HS4 := Lib.hid (HSA.out.go hb)
      have HOW4 := Lib.hid (HOW.out.go (nextG ((Below.refl _ _).alloc (Nat.le_refl _) (.cells #[.int .u64 lo, .int .u64 hj] 153)) hb))
      have HRD4 := Lib.hid (HRD.out.below (nextG ((Below.refl _ _).alloc (Nat.le_refl _) (.cells #[.int .u64 lo, .int .u64 hj] 153)) hb) (Nat.le_refl _))
      have HSW : Hid (w3.heap.size ≤ w4.heap.size) := Lib.hid (by have h1 := hb.size; have h2 := HSR.out; rw [World.size_alloc] at h1; omega)
      have hA := (Below.refl w4.heap.size w4).alloc (Nat.le_refl _) (.cells #[.int .u64 lo, .string D] 137)
      have HOWx := Lib.hid (HOW4.out.go hA)
      have HRX : Hid (RowG (w4.alloc (.cells #[.int .u64 lo, .string D] 137)) (.slice (some ⟨w4.heap.size, 0, none⟩) 1 1) T [(lo, hj)]) := Lib.hid (by have := rowG_one w4 137 T (lo, hj); rw [HDD.out] at this; exact this)
      have HSX := Lib.hid (HS4.out.go hA)
      have HRDX := Lib.hid (HRD4.out.below hA (Nat.le_refl _))
      have HL : Hid ((G.take k).length + [(lo, hj)].length ≤ 100000) := Lib.hid (by simp; omega)
      clear hb hA e0 e1 hc1 hc2
      go_wp2_with (at_builtin; refine wpList_append_G tyG T _ rfl _ _ rfl w3.heap.size (.slice a3 k cap3) rfl (G.take k) HOWx.out (.slice (some ⟨w4.heap.size, 0, none⟩) 1 1) rfl [(lo, hj)] HRX.out HL.out (by have := HSW.out; simp; omega) ?_)
      intro a5 n5 c5 w5 o5 g5 _
      have O5 : Hid (OwnG 137 w5 w3.heap.size (.slice a5 n5 c5) T (G.take (k + 1))) := Lib.hid (by rw [HT.out]; exact o5)
      have hB5 : Below w3.heap.size (w4.alloc (.cells #[.int .u64 lo, .string D] 137)) w5 := (Below.refl _ _).grown g5 (by have := HSW.out; simp; omega) (fun q hq => (HOWx.out.lt hq).1)
      have S5 : Hid (SP w w.heap.size (w.heap.size + 1) s (.slice a n c) T off d w5) := Lib.hid (HSX.out.go' hB5 HLOW.out.1 HLOW.out.2.1 HLOW.out.2.2)
      have R5 : Hid (Rd w5 (.slice (some ⟨b, off2, none⟩) xn xc) G) := Lib.hid (HRDX.out.keep (fun q hq => hB5.block q (HBQ.out q hq)))
      have Z5 : Hid (w3.heap.size ≤ w5.heap.size) := Lib.hid (by have h1 := hB5.size; have h2 := HSW.out; rw [World.size_alloc] at h1; omega)
      clear o5 g5 hB5
      go_wp2_with fail
      go_roundw
      case rel => exact ⟨k + 1, by omega, by go_num, O5.out, S5.out, R5.out, Z5.out, HBQ.out⟩
      case measure => simp [intOf]; omega
    · obtain rfl : k = xn := by omega
      have HOF : Hid (OwnG 137 wr w3.heap.size (.slice a3 k cap3) T G) := Lib.hid (by
        have h := HOW.out
        rw [List.take_of_length_le (by have := HXN.out; omega)] at h
        exact h)
      have HRF := Lib.hid HOF.out.row
      clear hrd
      go_wp2_with fail
      go_ret
      refine ⟨_, G, rfl, LH.out.1, fun q => ?_, ?_, HRF.out, HSP.out.hb⟩
      · rw [LH.out.2.2, HIN.out, Q2.out]
        have := HR0.out.2.1
        constructor
        · rintro ⟨h1, h2⟩
          exact ⟨h1, by apply Classical.byContradiction; intro h3; exact h2 (.inl ⟨by omega, by omega⟩), fun h3 => h2 (.inr h3)⟩
        · rintro ⟨h1, h2, h3⟩
          exact ⟨h1, fun h4 => by rcases h4 with h4 | h4; omega; exact h3 h4⟩
      · have := LL.out; have := Q3.out; have := HUN.out; omega
end Go.Proofs.YtoblmhpjendbfaaGreatDoor.Rg.Gt
namespace Go.Proofs.YtoblmhpjendbfaaGreatDoor.Rg.Gt
set_option maxHeartbeats 4000000
set_option maxRecDepth 20000
open Tk
open Go.RowKit Go.Shelf
set_option linter.unusedVariables false
set_option linter.unusedSimpArgs false
def rfS (s:GS) (f:Bool) (E:Int):Int:=if (s.kn=true∧s.fin<E)∨(f=true∧E<hiS s) then 140 else 0
theorem refuses_any(T:ByteArray)(s:GS)(a:Option Addr)(n c:Nat)(off:Int)(d:ByteArray)(f:Bool)(E:Int)(w:World)(hok:GsOk T s)(hT:(T.size:Int)≤4611686018427387903)(hL:s.l.length≤900)(hr:RowG w (.slice a n c) T s.l)
 (h0:0≤off)(h1:off≤4611686018427387903)(h2:(d.size:Int)≤4611686018427387903)(hE:off+(d.size:Int)=E)(hEm:E≤4611686018427387903) :
 Calls Tryz.prog 94 #[.agg #[.int .u64 s.rd,.slice a n c,.int .u64 s.fin,.bool s.kn],.agg #[.int .u64 off,.string d],.bool f] w fun e w'=>e=.returned (.int .i64 (rfS s f E))∧Below w.heap.size w w':=by
 obtain⟨rd,l,fin,kn⟩:=s;have CE:=zh (fun W=>end_any off d W h0 h1 h2);have HS0:=zh (sp_made w ⟨rd,l,fin,kn⟩ (.slice a n c) T off d hr);have gE0:E≤4611686018427387903:=hEm;have gO0:off≤4611686018427387903:=h1;rw[hE]at CE;have CHH:=zh (fun W h=>highest_any T ⟨rd,l,fin,kn⟩ (.slice a n c) W hok hT hL h);obtain⟨HH,hHH⟩:∃x,hiS ⟨rd,l,fin,kn⟩=x:=⟨_,rfl⟩;unfold rfS;rw[hHH]at CHH ⊢;simp only at CHH ⊢;clear hr hok h0 h1 h2 hE hT hHH hEm
 cases kn with
 | true=>
  by_cases hq:fin<E
  ·have d1:decide (fin<E)=true:=decide_eq_true hq
   rw[if_pos (.inl ⟨rfl,hq⟩)];clear hq;go_enter Tryz.func94,Tryz.ntmps94;go_wp2_with fail
   refine (CE.out _).mono ?_;rintro e w1 ⟨rfl,hb⟩;have HS1:=zh ((HS0.out.go hb).go (Below.refl _ _).drew);clear hb;go_wp2_with fail
   refine wp_region_noPanic ?_;refine wp_region_held_drew (S:=fun W:World=>SP w w.heap.size (w.heap.size+1) ⟨rd,l,fin,true⟩ (.slice a n c) T off d W) (by kernel_rfl) ?_ (fun hHeld=>?_)
   ·exact HS1.out
   iterate 6
    refine zqb [0,1,2,3,5,6] rfl rfl ?_ ?_ ?_;rotate_left
    ·(intro w hSw;(have c0:=hSw.hs.c0;have c1:=hSw.hs.c1;have c2:=hSw.hs.c2;have c3:=hSw.hs.c3;have e0:=hSw.hp.c0;have e1:=hSw.hp.c1;simp only at c0 c2 c3);go_simp;(try with_reducible rfl))
    try simp only[Act.put,J1,J2,J3,J4,J5,J6]
   refine zqf [4] (AllReadyH.cons rfl (fun K hK=>?_) AllReadyH.nil);rw[if_pos (by rfl)];go_simp;refine (CE.out _).mono ?_;rintro e wx1 ⟨rfl,hb⟩;have HX1:=zh (HS1.out.go hb);clear hb;refine hK.out _ _ ?_ (fun hHeld=>?_)
   ·exact HX1.out
   clear hK K
   try simp only[Act.put,J1,J2,J3,J4,J5,J6]
   iterate 3
    refine zqb [7,8,9] rfl rfl ?_ ?_ ?_;rotate_left
    ·(intro w hSw;(have c0:=hSw.hs.c0;have c1:=hSw.hs.c1;have c2:=hSw.hs.c2;have c3:=hSw.hs.c3;have e0:=hSw.hp.c0;have e1:=hSw.hp.c1;simp only at c0 c2 c3);go_simp;(try with_reducible rfl))
    try simp only[Act.put,J1,J2,J3,J4,J5,J6]
   refine zqc 10 rfl ?_
   try simp only[Act.put,J1,J2,J3,J4,J5,J6]
   refine zqc 11 rfl ?_
   try simp only[Act.put,J1,J2,J3,J4,J5,J6]
   refine zqc 12 rfl ?_
   try simp only[Act.put,J1,J2,J3,J4,J5,J6]
   refine zqc 13 rfl ?_
   try simp only[Act.put,J1,J2,J3,J4,J5,J6]
   refine zqc 14 rfl ?_
   try simp only[Act.put,J1,J2,J3,J4,J5,J6]
   refine zqc 15 rfl ?_
   try simp only[Act.put,J1,J2,J3,J4,J5,J6]
   refine zqc 16 rfl ?_
   try simp only[Act.put,J1,J2,J3,J4,J5,J6]
   refine zqc 17 rfl ?_
   try simp only[Act.put,J1,J2,J3,J4,J5,J6]
   refine zqa 18 rfl ?_ ?_ ?_;rotate_left
   ·(intro w hSw;(have c0:=hSw.hs.c0;have c1:=hSw.hs.c1;have c2:=hSw.hs.c2;have c3:=hSw.hs.c3;have e0:=hSw.hp.c0;have e1:=hSw.hp.c1;simp only at c0 c2 c3);go_simp;(try with_reducible rfl))
   try simp only[Act.put,J1,J2,J3,J4,J5,J6]
   refine zqe (NoPanic.normal ?_);go_wp2_with fail
   go_ret
   exact⟨rfl,hHeld.hb⟩
  ·have d1:decide (fin<E)=false:=decide_eq_false hq
   cases f with
   | true=>
    by_cases hp:E<HH
    ·have d2:decide (E<HH)=true:=decide_eq_true hp
     rw[if_pos (.inr ⟨rfl,hp⟩)];clear hq hp;go_enter Tryz.func94,Tryz.ntmps94;go_wp2_with fail
     refine (CE.out _).mono ?_;rintro e w1 ⟨rfl,hb⟩;have HS1:=zh ((HS0.out.go hb).go (Below.refl _ _).drew);clear hb;go_wp2_with fail
     refine wp_region_noPanic ?_;refine wp_region_held_drew (S:=fun W:World=>SP w w.heap.size (w.heap.size+1) ⟨rd,l,fin,true⟩ (.slice a n c) T off d W) (by kernel_rfl) ?_ (fun hHeld=>?_)
     ·exact HS1.out
     iterate 6
      refine zqb [0,1,2,3,5,6] rfl rfl ?_ ?_ ?_;rotate_left
      ·(intro w hSw;(have c0:=hSw.hs.c0;have c1:=hSw.hs.c1;have c2:=hSw.hs.c2;have c3:=hSw.hs.c3;have e0:=hSw.hp.c0;have e1:=hSw.hp.c1;simp only at c0 c2 c3);go_simp;(try with_reducible rfl))
      try simp only[Act.put,J1,J2,J3,J4,J5,J6]
     refine zqf [4] (AllReadyH.cons rfl (fun K hK=>?_) AllReadyH.nil);rw[if_pos (by rfl)];go_simp;refine (CE.out _).mono ?_;rintro e wx1 ⟨rfl,hb⟩;have HX1:=zh (HS1.out.go hb);clear hb;refine hK.out _ _ ?_ (fun hHeld=>?_)
     ·exact HX1.out
     clear hK K
     try simp only[Act.put,J1,J2,J3,J4,J5,J6]
     iterate 7
      refine zqb [7,8,9,10,11,12,14] rfl rfl ?_ ?_ ?_;rotate_left
      ·(intro w hSw;(have c0:=hSw.hs.c0;have c1:=hSw.hs.c1;have c2:=hSw.hs.c2;have c3:=hSw.hs.c3;have e0:=hSw.hp.c0;have e1:=hSw.hp.c1;simp only at c0 c2 c3);go_simp;(try with_reducible rfl))
      try simp only[Act.put,J1,J2,J3,J4,J5,J6]
     refine zqf [13] (AllReadyH.cons rfl (fun K hK=>?_) AllReadyH.nil);rw[if_pos (by rfl)];go_simp;refine (CE.out _).mono ?_;rintro e wx2 ⟨rfl,hb⟩;have HX2:=zh (HX1.out.go hb);clear hb;refine hK.out _ _ ?_ (fun hHeld=>?_)
     ·exact HX2.out
     clear hK K
     try simp only[Act.put,J1,J2,J3,J4,J5,J6]
     refine zqf [15] (AllReadyH.cons rfl (fun K hK=>?_) AllReadyH.nil);rw[if_pos (by rfl)];go_simp;refine (CHH.out _ HX2.out.hr).mono ?_;rintro e wx3 ⟨rfl,hb⟩;have HX3:=zh (HX2.out.go hb);clear hb;refine hK.out _ _ ?_ (fun hHeld=>?_)
     ·exact HX3.out
     clear hK K
     try simp only[Act.put,J1,J2,J3,J4,J5,J6]
     iterate 3
      refine zqb [16,17,18] rfl rfl ?_ ?_ ?_;rotate_left
      ·(intro w hSw;(have c0:=hSw.hs.c0;have c1:=hSw.hs.c1;have c2:=hSw.hs.c2;have c3:=hSw.hs.c3;have e0:=hSw.hp.c0;have e1:=hSw.hp.c1;simp only at c0 c2 c3);go_simp;(try with_reducible rfl))
      try simp only[Act.put,J1,J2,J3,J4,J5,J6]
     refine zqe (NoPanic.normal ?_);go_wp2_with fail
     go_ret
     exact⟨rfl,hHeld.hb⟩
    ·have d2:decide (E<HH)=false:=decide_eq_false hp
     rw[if_neg (by rintro (⟨_,h⟩|⟨_,h⟩)<;>omega)]
     clear hq hp;go_enter Tryz.func94,Tryz.ntmps94;go_wp2_with fail
     refine (CE.out _).mono ?_;rintro e w1 ⟨rfl,hb⟩;have HS1:=zh ((HS0.out.go hb).go (Below.refl _ _).drew);clear hb;go_wp2_with fail
     refine wp_region_noPanic ?_;refine wp_region_held_drew (S:=fun W:World=>SP w w.heap.size (w.heap.size+1) ⟨rd,l,fin,true⟩ (.slice a n c) T off d W) (by kernel_rfl) ?_ (fun hHeld=>?_)
     ·exact HS1.out
     iterate 6
      refine zqb [0,1,2,3,5,6] rfl rfl ?_ ?_ ?_;rotate_left
      ·(intro w hSw;(have c0:=hSw.hs.c0;have c1:=hSw.hs.c1;have c2:=hSw.hs.c2;have c3:=hSw.hs.c3;have e0:=hSw.hp.c0;have e1:=hSw.hp.c1;simp only at c0 c2 c3);go_simp;(try with_reducible rfl))
      try simp only[Act.put,J1,J2,J3,J4,J5,J6]
     refine zqf [4] (AllReadyH.cons rfl (fun K hK=>?_) AllReadyH.nil);rw[if_pos (by rfl)];go_simp;refine (CE.out _).mono ?_;rintro e wx1 ⟨rfl,hb⟩;have HX1:=zh (HS1.out.go hb);clear hb;refine hK.out _ _ ?_ (fun hHeld=>?_)
     ·exact HX1.out
     clear hK K
     try simp only[Act.put,J1,J2,J3,J4,J5,J6]
     iterate 7
      refine zqb [7,8,9,10,11,12,14] rfl rfl ?_ ?_ ?_;rotate_left
      ·(intro w hSw;(have c0:=hSw.hs.c0;have c1:=hSw.hs.c1;have c2:=hSw.hs.c2;have c3:=hSw.hs.c3;have e0:=hSw.hp.c0;have e1:=hSw.hp.c1;simp only at c0 c2 c3);go_simp;(try with_reducible rfl))
      try simp only[Act.put,J1,J2,J3,J4,J5,J6]
     refine zqf [13] (AllReadyH.cons rfl (fun K hK=>?_) AllReadyH.nil);rw[if_pos (by rfl)];go_simp;refine (CE.out _).mono ?_;rintro e wx2 ⟨rfl,hb⟩;have HX2:=zh (HX1.out.go hb);clear hb;refine hK.out _ _ ?_ (fun hHeld=>?_)
     ·exact HX2.out
     clear hK K
     try simp only[Act.put,J1,J2,J3,J4,J5,J6]
     refine zqf [15] (AllReadyH.cons rfl (fun K hK=>?_) AllReadyH.nil);rw[if_pos (by rfl)];go_simp;refine (CHH.out _ HX2.out.hr).mono ?_;rintro e wx3 ⟨rfl,hb⟩;have HX3:=zh (HX2.out.go hb);clear hb;refine hK.out _ _ ?_ (fun hHeld=>?_)
     ·exact HX3.out
     clear hK K
     try simp only[Act.put,J1,J2,J3,J4,J5,J6]
     iterate 3
      refine zqb [16,17,18] rfl rfl ?_ ?_ ?_;rotate_left
      ·(intro w hSw;(have c0:=hSw.hs.c0;have c1:=hSw.hs.c1;have c2:=hSw.hs.c2;have c3:=hSw.hs.c3;have e0:=hSw.hp.c0;have e1:=hSw.hp.c1;simp only at c0 c2 c3);go_simp;(try with_reducible rfl))
      try simp only[Act.put,J1,J2,J3,J4,J5,J6]
     refine zqe (NoPanic.normal ?_);go_wp2_with fail
     go_ret
     exact⟨rfl,hHeld.hb⟩
   | false=>
    rw[if_neg (by rintro (⟨_,h⟩|⟨h,_⟩);exact hq h;cases h)];clear hq;go_enter Tryz.func94,Tryz.ntmps94;go_wp2_with fail
    refine (CE.out _).mono ?_;rintro e w1 ⟨rfl,hb⟩;have HS1:=zh ((HS0.out.go hb).go (Below.refl _ _).drew);clear hb;go_wp2_with fail
    refine wp_region_noPanic ?_;refine wp_region_held_drew (S:=fun W:World=>SP w w.heap.size (w.heap.size+1) ⟨rd,l,fin,true⟩ (.slice a n c) T off d W) (by kernel_rfl) ?_ (fun hHeld=>?_)
    ·exact HS1.out
    iterate 6
     refine zqb [0,1,2,3,5,6] rfl rfl ?_ ?_ ?_;rotate_left
     ·(intro w hSw;(have c0:=hSw.hs.c0;have c1:=hSw.hs.c1;have c2:=hSw.hs.c2;have c3:=hSw.hs.c3;have e0:=hSw.hp.c0;have e1:=hSw.hp.c1;simp only at c0 c2 c3);go_simp;(try with_reducible rfl))
     try simp only[Act.put,J1,J2,J3,J4,J5,J6]
    refine zqf [4] (AllReadyH.cons rfl (fun K hK=>?_) AllReadyH.nil);rw[if_pos (by rfl)];go_simp;refine (CE.out _).mono ?_;rintro e wx1 ⟨rfl,hb⟩;have HX1:=zh (HS1.out.go hb);clear hb;refine hK.out _ _ ?_ (fun hHeld=>?_)
    ·exact HX1.out
    clear hK K
    try simp only[Act.put,J1,J2,J3,J4,J5,J6]
    iterate 5
     refine zqb [7,8,9,10,11] rfl rfl ?_ ?_ ?_;rotate_left
     ·(intro w hSw;(have c0:=hSw.hs.c0;have c1:=hSw.hs.c1;have c2:=hSw.hs.c2;have c3:=hSw.hs.c3;have e0:=hSw.hp.c0;have e1:=hSw.hp.c1;simp only at c0 c2 c3);go_simp;(try with_reducible rfl))
     try simp only[Act.put,J1,J2,J3,J4,J5,J6]
    refine zqc 12 rfl ?_
    try simp only[Act.put,J1,J2,J3,J4,J5,J6]
    refine zqc 13 rfl ?_
    try simp only[Act.put,J1,J2,J3,J4,J5,J6]
    refine zqc 14 rfl ?_
    try simp only[Act.put,J1,J2,J3,J4,J5,J6]
    refine zqc 15 rfl ?_
    try simp only[Act.put,J1,J2,J3,J4,J5,J6]
    refine zqc 16 rfl ?_
    try simp only[Act.put,J1,J2,J3,J4,J5,J6]
    iterate 2
     refine zqb [17,18] rfl rfl ?_ ?_ ?_;rotate_left
     ·(intro w hSw;(have c0:=hSw.hs.c0;have c1:=hSw.hs.c1;have c2:=hSw.hs.c2;have c3:=hSw.hs.c3;have e0:=hSw.hp.c0;have e1:=hSw.hp.c1;simp only at c0 c2 c3);go_simp;(try with_reducible rfl))
     try simp only[Act.put,J1,J2,J3,J4,J5,J6]
    refine zqe (NoPanic.normal ?_);go_wp2_with fail
    go_ret
    exact⟨rfl,hHeld.hb⟩
 | false=>
  cases f with
  | true=>
   by_cases hp:E<HH
   ·have d2:decide (E<HH)=true:=decide_eq_true hp
    rw[if_pos (.inr ⟨rfl,hp⟩)];clear hp;go_enter Tryz.func94,Tryz.ntmps94;go_wp2_with fail
    refine (CE.out _).mono ?_;rintro e w1 ⟨rfl,hb⟩;have HS1:=zh ((HS0.out.go hb).go (Below.refl _ _).drew);clear hb;go_wp2_with fail
    refine wp_region_noPanic ?_;refine wp_region_held_drew (S:=fun W:World=>SP w w.heap.size (w.heap.size+1) ⟨rd,l,fin,false⟩ (.slice a n c) T off d W) (by kernel_rfl) ?_ (fun hHeld=>?_)
    ·exact HS1.out
    iterate 3
     refine zqb [0,1,2] rfl rfl ?_ ?_ ?_;rotate_left
     ·(intro w hSw;(have c0:=hSw.hs.c0;have c1:=hSw.hs.c1;have c2:=hSw.hs.c2;have c3:=hSw.hs.c3;have e0:=hSw.hp.c0;have e1:=hSw.hp.c1;simp only at c0 c2 c3);go_simp;(try with_reducible rfl))
     try simp only[Act.put,J1,J2,J3,J4,J5,J6]
    refine zqc 3 rfl ?_
    try simp only[Act.put,J1,J2,J3,J4,J5,J6]
    refine zqc 4 rfl ?_
    try simp only[Act.put,J1,J2,J3,J4,J5,J6]
    refine zqc 5 rfl ?_
    try simp only[Act.put,J1,J2,J3,J4,J5,J6]
    refine zqc 6 rfl ?_
    try simp only[Act.put,J1,J2,J3,J4,J5,J6]
    refine zqc 7 rfl ?_
    try simp only[Act.put,J1,J2,J3,J4,J5,J6]
    iterate 6
     refine zqb [8,9,10,11,12,14] rfl rfl ?_ ?_ ?_;rotate_left
     ·(intro w hSw;(have c0:=hSw.hs.c0;have c1:=hSw.hs.c1;have c2:=hSw.hs.c2;have c3:=hSw.hs.c3;have e0:=hSw.hp.c0;have e1:=hSw.hp.c1;simp only at c0 c2 c3);go_simp;(try with_reducible rfl))
     try simp only[Act.put,J1,J2,J3,J4,J5,J6]
    refine zqf [13] (AllReadyH.cons rfl (fun K hK=>?_) AllReadyH.nil);rw[if_pos (by rfl)];go_simp;refine (CE.out _).mono ?_;rintro e wx1 ⟨rfl,hb⟩;have HX1:=zh (HS1.out.go hb);clear hb;refine hK.out _ _ ?_ (fun hHeld=>?_)
    ·exact HX1.out
    clear hK K
    try simp only[Act.put,J1,J2,J3,J4,J5,J6]
    refine zqf [15] (AllReadyH.cons rfl (fun K hK=>?_) AllReadyH.nil);rw[if_pos (by rfl)];go_simp;refine (CHH.out _ HX1.out.hr).mono ?_;rintro e wx2 ⟨rfl,hb⟩;have HX2:=zh (HX1.out.go hb);clear hb;refine hK.out _ _ ?_ (fun hHeld=>?_)
    ·exact HX2.out
    clear hK K
    try simp only[Act.put,J1,J2,J3,J4,J5,J6]
    iterate 3
     refine zqb [16,17,18] rfl rfl ?_ ?_ ?_;rotate_left
     ·(intro w hSw;(have c0:=hSw.hs.c0;have c1:=hSw.hs.c1;have c2:=hSw.hs.c2;have c3:=hSw.hs.c3;have e0:=hSw.hp.c0;have e1:=hSw.hp.c1;simp only at c0 c2 c3);go_simp;(try with_reducible rfl))
     try simp only[Act.put,J1,J2,J3,J4,J5,J6]
    refine zqe (NoPanic.normal ?_);go_wp2_with fail
    go_ret
    exact⟨rfl,hHeld.hb⟩
   ·have d2:decide (E<HH)=false:=decide_eq_false hp
    rw[if_neg (by rintro (⟨h,_⟩|⟨_,h⟩);cases h;omega)];clear hp;go_enter Tryz.func94,Tryz.ntmps94;go_wp2_with fail
    refine (CE.out _).mono ?_;rintro e w1 ⟨rfl,hb⟩;have HS1:=zh ((HS0.out.go hb).go (Below.refl _ _).drew);clear hb;go_wp2_with fail
    refine wp_region_noPanic ?_;refine wp_region_held_drew (S:=fun W:World=>SP w w.heap.size (w.heap.size+1) ⟨rd,l,fin,false⟩ (.slice a n c) T off d W) (by kernel_rfl) ?_ (fun hHeld=>?_)
    ·exact HS1.out
    iterate 3
     refine zqb [0,1,2] rfl rfl ?_ ?_ ?_;rotate_left
     ·(intro w hSw;(have c0:=hSw.hs.c0;have c1:=hSw.hs.c1;have c2:=hSw.hs.c2;have c3:=hSw.hs.c3;have e0:=hSw.hp.c0;have e1:=hSw.hp.c1;simp only at c0 c2 c3);go_simp;(try with_reducible rfl))
     try simp only[Act.put,J1,J2,J3,J4,J5,J6]
    refine zqc 3 rfl ?_
    try simp only[Act.put,J1,J2,J3,J4,J5,J6]
    refine zqc 4 rfl ?_
    try simp only[Act.put,J1,J2,J3,J4,J5,J6]
    refine zqc 5 rfl ?_
    try simp only[Act.put,J1,J2,J3,J4,J5,J6]
    refine zqc 6 rfl ?_
    try simp only[Act.put,J1,J2,J3,J4,J5,J6]
    refine zqc 7 rfl ?_
    try simp only[Act.put,J1,J2,J3,J4,J5,J6]
    iterate 6
     refine zqb [8,9,10,11,12,14] rfl rfl ?_ ?_ ?_;rotate_left
     ·(intro w hSw;(have c0:=hSw.hs.c0;have c1:=hSw.hs.c1;have c2:=hSw.hs.c2;have c3:=hSw.hs.c3;have e0:=hSw.hp.c0;have e1:=hSw.hp.c1;simp only at c0 c2 c3);go_simp;(try with_reducible rfl))
     try simp only[Act.put,J1,J2,J3,J4,J5,J6]
    refine zqf [13] (AllReadyH.cons rfl (fun K hK=>?_) AllReadyH.nil);rw[if_pos (by rfl)];go_simp;refine (CE.out _).mono ?_;rintro e wx1 ⟨rfl,hb⟩;have HX1:=zh (HS1.out.go hb);clear hb;refine hK.out _ _ ?_ (fun hHeld=>?_)
    ·exact HX1.out
    clear hK K
    try simp only[Act.put,J1,J2,J3,J4,J5,J6]
    refine zqf [15] (AllReadyH.cons rfl (fun K hK=>?_) AllReadyH.nil);rw[if_pos (by rfl)];go_simp;refine (CHH.out _ HX1.out.hr).mono ?_;rintro e wx2 ⟨rfl,hb⟩;have HX2:=zh (HX1.out.go hb);clear hb;refine hK.out _ _ ?_ (fun hHeld=>?_)
    ·exact HX2.out
    clear hK K
    try simp only[Act.put,J1,J2,J3,J4,J5,J6]
    iterate 3
     refine zqb [16,17,18] rfl rfl ?_ ?_ ?_;rotate_left
     ·(intro w hSw;(have c0:=hSw.hs.c0;have c1:=hSw.hs.c1;have c2:=hSw.hs.c2;have c3:=hSw.hs.c3;have e0:=hSw.hp.c0;have e1:=hSw.hp.c1;simp only at c0 c2 c3);go_simp;(try with_reducible rfl))
     try simp only[Act.put,J1,J2,J3,J4,J5,J6]
    refine zqe (NoPanic.normal ?_);go_wp2_with fail
    go_ret
    exact⟨rfl,hHeld.hb⟩
  | false=>
   rw[if_neg (by rintro (⟨h,_⟩|⟨h,_⟩)<;>cases h)]
   go_enter Tryz.func94,Tryz.ntmps94;go_wp2_with fail
   refine (CE.out _).mono ?_;rintro e w1 ⟨rfl,hb⟩;have HS1:=zh ((HS0.out.go hb).go (Below.refl _ _).drew);clear hb;go_wp2_with fail
   refine wp_region_noPanic ?_;refine wp_region_held_drew (S:=fun W:World=>SP w w.heap.size (w.heap.size+1) ⟨rd,l,fin,false⟩ (.slice a n c) T off d W) (by kernel_rfl) ?_ (fun hHeld=>?_)
   ·exact HS1.out
   iterate 3
    refine zqb [0,1,2] rfl rfl ?_ ?_ ?_;rotate_left
    ·(intro w hSw;(have c0:=hSw.hs.c0;have c1:=hSw.hs.c1;have c2:=hSw.hs.c2;have c3:=hSw.hs.c3;have e0:=hSw.hp.c0;have e1:=hSw.hp.c1;simp only at c0 c2 c3);go_simp;(try with_reducible rfl))
    try simp only[Act.put,J1,J2,J3,J4,J5,J6]
   refine zqc 3 rfl ?_
   try simp only[Act.put,J1,J2,J3,J4,J5,J6]
   refine zqc 4 rfl ?_
   try simp only[Act.put,J1,J2,J3,J4,J5,J6]
   refine zqc 5 rfl ?_
   try simp only[Act.put,J1,J2,J3,J4,J5,J6]
   refine zqc 6 rfl ?_
   try simp only[Act.put,J1,J2,J3,J4,J5,J6]
   refine zqc 7 rfl ?_
   try simp only[Act.put,J1,J2,J3,J4,J5,J6]
   iterate 4
    refine zqb [8,9,10,11] rfl rfl ?_ ?_ ?_;rotate_left
    ·(intro w hSw;(have c0:=hSw.hs.c0;have c1:=hSw.hs.c1;have c2:=hSw.hs.c2;have c3:=hSw.hs.c3;have e0:=hSw.hp.c0;have e1:=hSw.hp.c1;simp only at c0 c2 c3);go_simp;(try with_reducible rfl))
    try simp only[Act.put,J1,J2,J3,J4,J5,J6]
   refine zqc 12 rfl ?_
   try simp only[Act.put,J1,J2,J3,J4,J5,J6]
   refine zqc 13 rfl ?_
   try simp only[Act.put,J1,J2,J3,J4,J5,J6]
   refine zqc 14 rfl ?_
   try simp only[Act.put,J1,J2,J3,J4,J5,J6]
   refine zqc 15 rfl ?_
   try simp only[Act.put,J1,J2,J3,J4,J5,J6]
   refine zqc 16 rfl ?_
   try simp only[Act.put,J1,J2,J3,J4,J5,J6]
   iterate 2
    refine zqb [17,18] rfl rfl ?_ ?_ ?_;rotate_left
    ·(intro w hSw;(have c0:=hSw.hs.c0;have c1:=hSw.hs.c1;have c2:=hSw.hs.c2;have c3:=hSw.hs.c3;have e0:=hSw.hp.c0;have e1:=hSw.hp.c1;simp only at c0 c2 c3);go_simp;(try with_reducible rfl))
    try simp only[Act.put,J1,J2,J3,J4,J5,J6]
   refine zqe (NoPanic.normal ?_);go_wp2_with fail
   go_ret
   exact⟨rfl,hHeld.hb⟩
theorem ofG_any(T:ByteArray)(s:GS)(a:Option Addr)(n c:Nat)(w:World)(hn:s.l.length=n)(hl:n≤1000)(hr:RowG w (.slice a n c) T s.l) :
 Calls Tryz.prog 93 #[.agg #[.int .u64 s.rd,.slice a n c,.int .u64 s.fin,.bool s.kn]] w fun e w'=>∃u B,e=.returned (.pointer (some ⟨B,0,none⟩))∧w.heap.size≤B∧Gb w' B 160 s u∧OwnG 137 w' w.heap.size u T s.l∧u.ownBlock≠some B∧Below w.heap.size w w':=by
 obtain⟨rd,l,fin,kn⟩:=s;simp only at hn hr ⊢;have HB0:=zh ((Below.refl w.heap.size w).alloc zle (.cells #[.int .u64 rd,.slice a n c,.int .u64 fin,.bool kn] 33));have HG0:=zh (gb_made w 33 ⟨rd,l,fin,kn⟩ (.slice a n c));have HR0:=zh (hr.go HB0.out);have CC:=zh (fun W (h:RowG W (.slice a n c) T l)=>cloneG_any T a n c l W hn hl h);clear hr;go_enter Tryz.func93,Tryz.ntmps93;go_wp2_with fail
 refine (CC.out _ HR0.out).mono ?_;rintro e w1 ⟨u,rfl,q1,q2⟩;obtain⟨a1,c1,rfl⟩:=q1.form;rw[hn]at q1 ⊢;have HG1:=zh (HG0.out.go q2);have HB1:=zh (nextG HB0.out q2);have QF:Hid (∀k,(Value.slice a1 n c1).ownBlock=some k→w.heap.size+1≤k∧k<w1.heap.size):=zh (fun k hk=>by have:=q1.lt hk;rw[World.size_alloc]at this;exact this);have HG2:=zh (HG1.out.s1 l (.slice a1 n c1));have HO2:=zh (q1.only (Only.setCell (O:=(·=w.heap.size)) (p:=⟨w.heap.size,1,none⟩) rfl w1 (.slice a1 n c1)) (fun k hk h=>by have:=(QF.out k hk).1;omega));have HB2:Hid (Below w.heap.size w (w1.setCell ⟨w.heap.size,1,none⟩ (.slice a1 n c1))):=zh (Below.setCell HB1.out (p:=⟨w.heap.size,1,none⟩) zle _);have f1:=HG1.out.fz 1;have z0:=HG1.out.c0;have z1:=HG1.out.c1;have z2:=HG1.out.c2;have z3:=HG1.out.c3;simp only at z0 z1 z2 z3;clear q1 q2;go_wp2_with fail
 go_ret
 refine⟨_,(w1.setCell ⟨w.heap.size,1,none⟩ (.slice a1 n c1)).heap.size,by simp,by have:=HB2.out.size;simpa using this,gb_made _ 160 ⟨rd,l,fin,kn⟩ (.slice a1 n c1),(HO2.out.go ((Below.refl _ _).alloc zle _)).mono (by simp),fun h=>?_,HB2.out.alloc HB2.out.size _⟩;have:=(QF.out _ h).2;simp at this
theorem only_atG(b k:Nat)(w:World)(u:Value):Only (·=b) w (w.setCell ⟨b,k,none⟩ u):=Only.setCell (O:=(·=b)) (p:=⟨b,k,none⟩) rfl w u
theorem only_belowG{b:Nat}{A B:World}(h:Below A.heap.size A B):Only (·=b) A B:=Only.of_all h _
theorem finish_any(s:GS)(a:Option Addr)(n c b:Nat)(p:Int)(w:World)(h:Gb w b 160 s (.slice a n c)) :
 Calls Tryz.prog 97 #[.pointer (some ⟨b,0,none⟩),.int .u64 p] w fun e w'=>e=.returned (.tuple #[])∧Gb w' b 160 ⟨s.rd,s.l,p,true⟩ (.slice a n c)∧Only (·=b) w w':=by
 have f2:=h.fz 2;have f3:=h.fz 3;have z2:=h.c2;have z3:=h.c3;have H1:=zh ((h.s2 p).s3 true);have H2:=zh ((only_atG b 2 w (.int .u64 p)).trans (only_atG b 3 _ (.bool true)));clear h;go_enter Tryz.func97,Tryz.ntmps97;go_wp2_with fail
 go_end0
 exact⟨rfl,H1.out,H2.out⟩
end Go.Proofs.YtoblmhpjendbfaaGreatDoor.Rg.Gt
