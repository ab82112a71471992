/- Layer 15: the walks of Lost, Acked, Write · Layer 15: a state in a law's block; what is shown · Layer 15: a call beside an alloc; mathematics of the law of writes -/
import Derived.Test.YtoblmhpjendbfaaGreatDoorJb29
import Derived.Test.YtoblmhpjendbfaaGreatDoorJb14
namespace Go.Proofs.YtoblmhpjendbfaaGreatDoor.Rg
set_option maxRecDepth 20000
open Go.RowKit Go.Shelf
set_option linter.unusedVariables false
set_option linter.unusedSimpArgs false

theorem unP_len : ∀ (s : List Ran) (r : Ran), (unP s r true).length ≤ s.length ∧ (unP s r false).length ≤ s.length + 1
  | [], r => by simp [unP]
  | x :: s, r => by
    obtain ⟨h1, h2⟩ := unP_len s r
    obtain ⟨h3, h4⟩ := unP_len s (min r.1 x.1, max r.2 x.2)
    rw [unP, unP]
    split
    · simp; omega
    · split
      · simp; omega
      · simp; omega
theorem unL_len (l : List Ran) (r : Ran) : (unL l r).length ≤ l.length + 1 := by
  unfold unL
  split
  · exact (unP_len l r).2
  · omega
theorem FR.al {w W : World} {B : Nat} {u v : Value} {s : SS} (h : FR w W B u v s) (o : Obj) : FR w (W.alloc o) B u v s := h.go ((Below.refl _ _).alloc (Nat.le_refl _) o)
/-- What Write gives. -/
def GvN (w : World) (s : SS) (N : Int) (e : Ending) (w' : World) : Prop := ∃ a1 n1 d1 a2 n2 d2, e = .returned (.tuple #[.agg #[.int .u64 s.ba, .int .u64 s.tp, .string s.d, .slice a1 n1 d1, .slice a2 n2 d2, .bool s.fin, .bool s.ft, .bool s.fa], .int .i64 N]) ∧
  Rd w' (.slice a1 n1 d1) s.ak ∧ Rd w' (.slice a2 n2 d2) s.td ∧ (∀ k, Blk (.slice a1 n1 d1) k → w.heap.size ≤ k) ∧ (∀ k, Blk (.slice a2 n2 d2) k → w.heap.size ≤ k) ∧ Below w.heap.size w w'
theorem results_wr (tmps : Array Value) (g : Nat) (x0 x1 : Int) (x2 : ByteArray) (u v : Value) (x5 x6 x7 : Bool) (N : Int) (w : World) (hp : tmps.getD 6 undef = .pointer (some ⟨g, 0, none⟩)) (hu : tmps.getD 7 undef = .int .i64 N) (hc : w.heap[g]? = some (.cells #[.int .u64 x0, .int .u64 x1, .string x2, u, v, .bool x5, .bool x6, .bool x7] 30 (0, 0))) :
    (results Tryz.f32 tmps).run Tryz.prog w = .ok (.tuple #[.agg #[.int .u64 x0, .int .u64 x1, .string x2, u, v, .bool x5, .bool x6, .bool x7], .int .i64 N]) w := by
  have c0 : w.cell? ⟨g, 0, none⟩ = some (.int .u64 x0) := Lib.cell_of_heap hc 0
  have c1 : w.cell? ⟨g, 1, none⟩ = some (.int .u64 x1) := Lib.cell_of_heap hc 1
  have c2 : w.cell? ⟨g, 2, none⟩ = some (.string x2) := Lib.cell_of_heap hc 2
  have c3 : w.cell? ⟨g, 3, none⟩ = some (u) := Lib.cell_of_heap hc 3
  have c4 : w.cell? ⟨g, 4, none⟩ = some (v) := Lib.cell_of_heap hc 4
  have c5 : w.cell? ⟨g, 5, none⟩ = some (.bool x5) := Lib.cell_of_heap hc 5
  have c6 : w.cell? ⟨g, 6, none⟩ = some (.bool x6) := Lib.cell_of_heap hc 6
  have c7 : w.cell? ⟨g, 7, none⟩ = some (.bool x7) := Lib.cell_of_heap hc 7
  rw [results_cell_tmp Tryz.results32]
  simp only [hp, hu]
  go_simp
set_option maxHeartbeats 8000000 in
theorem write_any (s : SS) (a1 : Option Addr) (n1 c1 : Nat) (a2 : Option Addr) (n2 c2 : Nat) (D : ByteArray) (room : Int) (w : World) (hs : SsOk s) (hd : en s + (D.size : Int) ≤ 1000000) (hr : room < 9223372036854775808) (hl1 : n1 ≤ 100) (hl2 : n2 ≤ 100) (ha : Rd w (.slice a1 n1 c1) s.ak) (ht : Rd w (.slice a2 n2 c2) s.td) :
    Calls Tryz.prog 32 #[.agg #[.int .u64 s.ba, .int .u64 s.tp, .string s.d, .slice a1 n1 c1, .slice a2 n2 c2, .bool s.fin, .bool s.ft, .bool s.fa], .string D, .int .i64 room] w (GvN w (wrS s D room) (wrN s D room)) := by
  have hm1 := rd_len ha
  have hm2 := rd_len ht
  have CO := Lib.hid (fun W (k1 : Rd W (.slice a1 n1 c1) s.ak) (k2 : Rd W (.slice a2 n2 c2) s.td) => ofq_any s a1 n1 c1 a2 n2 c2 W (by omega) (by omega) k1 k2)
  rw [← hm1, ← hm2] at CO
  have HB0 : Hid (Below w.heap.size w ((w.alloc (.cells #[.int .u64 s.ba, .int .u64 s.tp, .string s.d, .slice a1 n1 c1, .slice a2 n2 c2, .bool s.fin, .bool s.ft, .bool s.fa] 30)).alloc (.cells #[.int .u64 0, .int .u64 0, .string ⟨#[]⟩, .slice none 0 0, .slice none 0 0, .bool false, .bool false, .bool false] 30))) := Lib.hid (((Below.refl _ w).alloc (Nat.le_refl _) _).alloc (by simp) _)
  have HZ : Hid (Z8 ((w.alloc (.cells #[.int .u64 s.ba, .int .u64 s.tp, .string s.d, .slice a1 n1 c1, .slice a2 n2 c2, .bool s.fin, .bool s.ft, .bool s.fa] 30)).alloc (.cells #[.int .u64 0, .int .u64 0, .string ⟨#[]⟩, .slice none 0 0, .slice none 0 0, .bool false, .bool false, .bool false] 30)) (w.heap.size + 1)) := Lib.hid (by
    have h := heap_alloc_new (w.alloc (.cells #[.int .u64 s.ba, .int .u64 s.tp, .string s.d, .slice a1 n1 c1, .slice a2 n2 c2, .bool s.fin, .bool s.ft, .bool s.fa] 30)) (.cells #[.int .u64 0, .int .u64 0, .string ⟨#[]⟩, .slice none 0 0, .slice none 0 0, .bool false, .bool false, .bool false] 30)
    rw [World.size_alloc] at h
    exact h)
  have HA0 := Lib.hid (ha.go HB0.out)
  have HT0 := Lib.hid (ht.go HB0.out)
  have hrg := wrN_range (s := s) (D := D) (room := room)
  have CR := Lib.hid (fun (b1 : Option Addr) (d1 : Nat) (b2 : Option Addr) (d2 : Nat) W => free_any s (.slice b1 n1 d1) (.slice b2 n2 d2) room W hs.b0 hs.b1 hr)
  have CL := Lib.hid (fun (B : Nat) (b1 : Option Addr) (d1 : Nat) (b2 : Option Addr) (d2 : Nat) W (h : Qb 121 W B (.slice b1 n1 d1) (.slice b2 n2 d2) s) => lay_any B s b1 n1 d1 b2 n2 d2 (D.extract 0 (wrN s D room).toNat) W hs (by rw [ext_size (by omega)]; omega) (by omega) h)
  rcases wr_cases s D room with ⟨hf, e1, e2⟩ | ⟨hf, e1, e2, e3⟩
  · rw [e1, e2]
    clear hl1 hl2 ha ht hm1 hm2 hs hd hr hrg CR CL e1 e2
    obtain ⟨ba, tp, d, ak, td, fin, ft, fa⟩ := s
    simp only at CO HB0 HZ HA0 HT0 hf ⊢
    subst hf
    go_enter Tryz.func32, Tryz.ntmps32
    go_wp2_with fail
    refine (CO.out _ HA0.out HT0.out).mono ?_
    rintro e w1 ⟨b1, d1, b2, d2, B, rfl, hB, hq, k1, k2, hb⟩
    have HF1 : Hid (FR w w1 B (.slice b1 n1 d1) (.slice b2 n2 d2) ⟨ba, tp, d, ak, td, true, ft, fa⟩) := Lib.hid ⟨hq, HZ.out.go hb, nextG HB0.out hb, by simp at hB; omega, fun k hk => by have := k1 k hk; simp at this; omega, fun k hk => by have := k2 k hk; simp at this; omega⟩
    clear hB hq k1 k2 hb HB0 HZ HA0 HT0 CO
    have y0 := HF1.out.q.c0
    have y1 := HF1.out.q.c1
    have y2 := HF1.out.q.c2
    have y3 := HF1.out.q.c3
    have y4 := HF1.out.q.c4
    have y5 := HF1.out.q.c5
    have y6 := HF1.out.q.c6
    have y7 := HF1.out.q.c7
    simp only at y0 y1 y2 y5 y6 y7
    have yf := HF1.out.q.fz
    have q0 : w1.cell? ⟨w.heap.size + 1, 0, none⟩ = _ := Lib.cell_of_heap HF1.out.z 0
    have q1 : w1.cell? ⟨w.heap.size + 1, 1, none⟩ = _ := Lib.cell_of_heap HF1.out.z 1
    have q2 : w1.cell? ⟨w.heap.size + 1, 2, none⟩ = _ := Lib.cell_of_heap HF1.out.z 2
    have q3 : w1.cell? ⟨w.heap.size + 1, 3, none⟩ = _ := Lib.cell_of_heap HF1.out.z 3
    have q4 : w1.cell? ⟨w.heap.size + 1, 4, none⟩ = _ := Lib.cell_of_heap HF1.out.z 4
    have q5 : w1.cell? ⟨w.heap.size + 1, 5, none⟩ = _ := Lib.cell_of_heap HF1.out.z 5
    have q6 : w1.cell? ⟨w.heap.size + 1, 6, none⟩ = _ := Lib.cell_of_heap HF1.out.z 6
    have q7 : w1.cell? ⟨w.heap.size + 1, 7, none⟩ = _ := Lib.cell_of_heap HF1.out.z 7
    have qf : ∀ k, w1.frozen? ⟨w.heap.size + 1, k, none⟩ = false := fun k => Lib.frozen_of_heap HF1.out.z k
    have hne : ¬ B = w.heap.size + 1 := by have := HF1.out.hB; omega
    have hne' : ¬ w.heap.size + 1 = B := by omega
    have HL := Lib.hid HF1.out.laid
    go_wp2_with fail
    exact bodyPost_ret (results_wr _ (w.heap.size + 1) (ba) (tp) d (.slice b1 n1 d1) (.slice b2 n2 d2) true ft fa (0) _ rfl rfl HL.out.1) rfl ⟨_, _, _, _, _, _, rfl, HL.out.2.1, HL.out.2.2.1, fun k hk => by have := HF1.out.fu k hk; omega, fun k hk => by have := HF1.out.fv k hk; omega, HL.out.2.2.2⟩
  · rw [e1]
    obtain ⟨FR', hFR⟩ : ∃ x, frS s room = x := ⟨_, rfl⟩
    rw [hFR] at CR e3
    obtain ⟨N, hN⟩ : ∃ x, wrN s D room = x := ⟨_, rfl⟩
    rw [hN] at CL hrg e3 ⊢
    obtain ⟨DD, hDD⟩ : ∃ x, D.extract 0 N.toNat = x := ⟨_, rfl⟩
    rw [hDD] at CL ⊢
    have hmn := min_run64 (D.size : Int) FR' N e3.symm
    have s1 : 0 ≤ N := hrg.1
    have s2 : N ≤ (D.size : Int) := hrg.2
    obtain ⟨G, hG⟩ : ∃ g, layS s DD = g := ⟨_, rfl⟩
    rw [hG] at CL ⊢
    replace hDD := Lib.hid hDD
    clear hl1 hl2 ha ht hm1 hm2 hs hd hr hrg e1 e2 e3 hFR hN hG
    obtain ⟨gb, gt, gd, ga, gtd, gf, gft, gfa⟩ := G
    obtain ⟨ba, tp, d, ak, td, fin, ft, fa⟩ := s
    simp only at CO HB0 HZ HA0 HT0 CR CL hf ⊢
    subst hf
    obtain ⟨gn, hgn⟩ : ∃ n, gtd.length = n := ⟨_, rfl⟩
    rw [hgn] at CL
    clear hgn
    go_enter Tryz.func32, Tryz.ntmps32
    go_wp2_with fail
    refine (CO.out _ HA0.out HT0.out).mono ?_
    rintro e w1 ⟨b1, d1, b2, d2, B, rfl, hB, hq, k1, k2, hb⟩
    have HF1 : Hid (FR w w1 B (.slice b1 n1 d1) (.slice b2 n2 d2) ⟨ba, tp, d, ak, td, false, ft, fa⟩) := Lib.hid ⟨hq, HZ.out.go hb, nextG HB0.out hb, by simp at hB; omega, fun k hk => by have := k1 k hk; simp at this; omega, fun k hk => by have := k2 k hk; simp at this; omega⟩
    clear hB hq k1 k2 hb HB0 HZ HA0 HT0 CO
    have y0 := HF1.out.q.c0
    have y1 := HF1.out.q.c1
    have y2 := HF1.out.q.c2
    have y3 := HF1.out.q.c3
    have y4 := HF1.out.q.c4
    have y5 := HF1.out.q.c5
    have y6 := HF1.out.q.c6
    have y7 := HF1.out.q.c7
    simp only at y0 y1 y2 y5 y6 y7
    have yf := HF1.out.q.fz
    go_wp2_with fail
    refine (CR.out _ _ _ _ _).mono ?_
    rintro e w2 ⟨rfl, hb⟩
    have HF2 := Lib.hid (HF1.out.go hb)
    clear hb y0 y1 y2 y3 y4 y5 y6 y7 yf
    go_wp2_with fail
    rw [hDD.out]
    refine (CL.out _ _ _ _ _ _ HF2.out.q).mono ?_
    rintro e w3 ⟨rfl, b3, d3, hq, hk⟩
    have HF3 := Lib.hid (HF2.out.only hq HF2.out.fu (fun k hk' => by have := hk k hk'; have := HF2.out.hB; have := HF2.out.q.lt; omega))
    clear hq hk
    have y0 := HF3.out.q.c0
    have y1 := HF3.out.q.c1
    have y2 := HF3.out.q.c2
    have y3 := HF3.out.q.c3
    have y4 := HF3.out.q.c4
    have y5 := HF3.out.q.c5
    have y6 := HF3.out.q.c6
    have y7 := HF3.out.q.c7
    simp only at y0 y1 y2 y5 y6 y7
    have yf := HF3.out.q.fz
    have q0 : w3.cell? ⟨w.heap.size + 1, 0, none⟩ = _ := Lib.cell_of_heap HF3.out.z 0
    have q1 : w3.cell? ⟨w.heap.size + 1, 1, none⟩ = _ := Lib.cell_of_heap HF3.out.z 1
    have q2 : w3.cell? ⟨w.heap.size + 1, 2, none⟩ = _ := Lib.cell_of_heap HF3.out.z 2
    have q3 : w3.cell? ⟨w.heap.size + 1, 3, none⟩ = _ := Lib.cell_of_heap HF3.out.z 3
    have q4 : w3.cell? ⟨w.heap.size + 1, 4, none⟩ = _ := Lib.cell_of_heap HF3.out.z 4
    have q5 : w3.cell? ⟨w.heap.size + 1, 5, none⟩ = _ := Lib.cell_of_heap HF3.out.z 5
    have q6 : w3.cell? ⟨w.heap.size + 1, 6, none⟩ = _ := Lib.cell_of_heap HF3.out.z 6
    have q7 : w3.cell? ⟨w.heap.size + 1, 7, none⟩ = _ := Lib.cell_of_heap HF3.out.z 7
    have qf : ∀ k, w3.frozen? ⟨w.heap.size + 1, k, none⟩ = false := fun k => Lib.frozen_of_heap HF3.out.z k
    have hne : ¬ B = w.heap.size + 1 := by have := HF3.out.hB; omega
    have hne' : ¬ w.heap.size + 1 = B := by omega
    have HL := Lib.hid HF3.out.laid
    go_wp2_with fail
    exact bodyPost_ret (results_wr _ (w.heap.size + 1) (gb) (gt) gd (.slice b1 n1 d1) (.slice b3 gn d3) gf gft gfa (N) _ rfl rfl HL.out.1) rfl ⟨_, _, _, _, _, _, rfl, HL.out.2.1, HL.out.2.2.1, fun k hk => by have := HF3.out.fu k hk; omega, fun k hk => by have := HF3.out.fv k hk; omega, HL.out.2.2.2⟩
end Go.Proofs.YtoblmhpjendbfaaGreatDoor.Rg
namespace Go.Proofs.YtoblmhpjendbfaaGreatDoor.Rg
set_option maxRecDepth 20000
open Go.RowKit Go.Shelf
set_option linter.unusedVariables false
set_option linter.unusedSimpArgs false

/-- A law's state, in a block of its own. -/
structure LS (w W : World) (g : Nat) (u v : Value) (s : SS) : Prop where
  q : Qb 30 W g u v s
  bl : Below w.heap.size w W
  hg : w.heap.size ≤ g
theorem LS.go {w W W' : World} {g : Nat} {u v : Value} {s : SS} (h : LS w W g u v s) (hb : Below W.heap.size W W') : LS w W' g u v s := ⟨h.q.go hb, nextG h.bl hb, h.hg⟩
theorem LS.dr {w W : World} {g : Nat} {u v : Value} {s : SS} (h : LS w W g u v s) : LS w W.drew g u v s := h.go (Below.refl _ _).drew
theorem LS.al {w W : World} {g : Nat} {u v : Value} {s : SS} (h : LS w W g u v s) (o : Obj) : LS w (W.alloc o) g u v s := h.go ((Below.refl _ _).alloc (Nat.le_refl _) o)
theorem LS.lt {w W : World} {g : Nat} {u v : Value} {s : SS} (h : LS w W g u v s) : g < W.heap.size := h.q.lt
theorem LS.set {w W W1 : World} {g : Nat} {u v u' v' : Value} {s s' : SS} (h : LS w W g u v s) (hb : Below W.heap.size W W1) (ra : Rd W1 u' s'.ak) (rt : Rd W1 v' s'.td) (ka : ∀ k, Blk u' k → W.heap.size ≤ k) (kt : ∀ k, Blk v' k → W.heap.size ≤ k) :
    LS w ((((((((W1.setCell ⟨g, 0, none⟩ (.int .u64 s'.ba)).setCell ⟨g, 1, none⟩ (.int .u64 s'.tp)).setCell ⟨g, 2, none⟩ (.string s'.d)).setCell ⟨g, 3, none⟩ u').setCell ⟨g, 4, none⟩ v').setCell ⟨g, 5, none⟩ (.bool s'.fin)).setCell ⟨g, 6, none⟩ (.bool s'.ft)).setCell ⟨g, 7, none⟩ (.bool s'.fa)) g u' v' s' := by
  have hl := h.q.lt
  have na : ¬ Blk u' g := fun hk => by have := ka _ hk; omega
  have nt : ¬ Blk v' g := fun hk => by have := kt _ hk; omega
  exact ⟨⟨eight_put (h.q.go hb).hb _ _ _ _ _ _ _ _, rd_eight ra na _ _ _ _ _ _ _ _, rd_eight rt nt _ _ _ _ _ _ _ _, na, nt⟩, below_eight (nextG h.bl hb) h.hg _ _ _ _ _ _ _ _, h.hg⟩
def abc : ByteArray := ⟨#[97, 98, 99]⟩
end Go.Proofs.YtoblmhpjendbfaaGreatDoor.Rg
namespace Go.Proofs.YtoblmhpjendbfaaGreatDoor.Rg
set_option maxRecDepth 20000
open Go.RowKit Go.Shelf
set_option linter.unusedVariables false
set_option linter.unusedSimpArgs false

section
variable {P : Program} {ops : Array Oper} {Q : Exit → Act → World → Prop} {md : Region.Mode} {S : World → Prop} {E : Nat → Bool}
/-- Two may come next: behind each S holds. -/
theorem wpAnyE_two {i j : Nat} {o p : Oper} {fuel : Nat} {listed : Array Bool} {a : Act} {w : World} (hr : Region.ready md ops listed = [i, j]) (ho : ops[i]? = some o) (hp : ops[j]? = some p)
    (hw : Region.wanted o (yielded ops a.tmps) = true) (hv : Region.wanted p (yielded ops a.tmps) = true)
    (h1 : ∀ K' : Act → World → Prop, Shut (∀ a w, S w → (S w → wpAnyE P md ops Q S E fuel (listed.setIfInBounds i true) a w) → K' a w) → Oper.wp P o a w K' Q)
    (h2 : ∀ K' : Act → World → Prop, Shut (∀ a w, S w → (S w → wpAnyE P md ops Q S E fuel (listed.setIfInBounds j true) a w) → K' a w) → Oper.wp P p a w K' Q) :
    wpAnyE P md ops Q S E (fuel + 1) listed a w := by
  refine ⟨fun h0 => (by rw [hr] at h0; cases h0), fun k hk => ?_⟩
  rw [hr] at hk
  rcases List.mem_cons.1 hk with rfl | hk
  · exact wpOp_step ho (fun K' hK => by rw [if_pos hw]; exact h1 K' (fun a w hS hW => hK a w ⟨fun _ _ => hS, hW hS⟩))
  · obtain rfl := List.mem_singleton.1 hk
    exact wpOp_step hp (fun K' hK => by rw [if_pos hv]; exact h2 K' (fun a w hS hW => hK a w ⟨fun _ _ => hS, hW hS⟩))
end
theorem LS.put {w W : World} {g : Nat} {u v u' v' : Value} {s s' : SS} (h : LS w W g u v s) (ra : Rd W u' s'.ak) (rt : Rd W v' s'.td) (na : ¬ Blk u' g) (nt : ¬ Blk v' g) :
    LS w ((((((((W.setCell ⟨g, 0, none⟩ (.int .u64 s'.ba)).setCell ⟨g, 1, none⟩ (.int .u64 s'.tp)).setCell ⟨g, 2, none⟩ (.string s'.d)).setCell ⟨g, 3, none⟩ u').setCell ⟨g, 4, none⟩ v').setCell ⟨g, 5, none⟩ (.bool s'.fin)).setCell ⟨g, 6, none⟩ (.bool s'.ft)).setCell ⟨g, 7, none⟩ (.bool s'.fa)) g u' v' s' :=
  ⟨⟨eight_put h.q.hb _ _ _ _ _ _ _ _, rd_eight ra na _ _ _ _ _ _ _ _, rd_eight rt nt _ _ _ _ _ _ _ _, na, nt⟩, below_eight h.bl h.hg _ _ _ _ _ _ _ _, h.hg⟩
/-! ### Mathematics of the law of writes -/
/-- What holds of a state when i texts were written, of which A was taken; the end comes ahead of text e. -/
structure WrI (A : ByteArray) (e : Int) (s : SS) (i : Nat) : Prop where
  ok : SsOk s
  ba : s.ba = 0
  ak : s.ak = []
  td : ∀ x, mem s.td x ↔ 0 ≤ x ∧ x < (A.size : Int)
  d : s.d = A
  fn : s.fin = decide (e < (i : Int))
  sz : A.size ≤ 200 * i
theorem append_none (A D : ByteArray) : A ++ D.extract 0 0 = A := by
  have h : D.extract 0 0 = ⟨#[]⟩ := by
    apply ByteArray.ext
    apply Array.eq_empty_of_size_eq_zero
    show (D.extract 0 0).size = 0
    rw [ByteArray.size_extract]; omega
  rw [h]
  exact ByteArray.append_empty
/-- The end, where it comes. -/
def midS (s : SS) (e : Int) (i : Nat) : SS := if (i : Int) = e then finS s else s
theorem WrI.mid {A : ByteArray} {e : Int} {s : SS} {i : Nat} (h : WrI A e s i) : SsOk (midS s e i) ∧ (midS s e i).ba = 0 ∧ (midS s e i).ak = [] ∧ (∀ x, mem (midS s e i).td x ↔ 0 ≤ x ∧ x < (A.size : Int)) ∧ (midS s e i).d = A ∧ (midS s e i).fin = decide (e ≤ (i : Int)) := by
  unfold midS
  by_cases hi : (i : Int) = e
  · rw [if_pos hi]
    have e2 : ∀ {α : Type} (f : SS → α), (f { s with fin := true, ft := true } = f s) → s.fin = false → f (finS s) = f s := by
      intro α f hf hn
      unfold finS
      rw [hn]
      exact hf
    have hn : s.fin = false := by rw [h.fn]; exact decide_eq_false (by omega)
    refine ⟨fin_ok h.ok, (e2 (·.ba) rfl hn).trans h.ba, (e2 (·.ak) rfl hn).trans h.ak, fun x => ?_, (e2 (·.d) rfl hn).trans h.d, ?_⟩
    · rw [e2 (·.td) rfl hn]; exact h.td x
    · unfold finS; rw [hn]; exact (decide_eq_true (by omega)).symm
  · rw [if_neg hi]
    exact ⟨h.ok, h.ba, h.ak, h.td, h.d, by rw [h.fn]; exact decide_eq_decide.2 (by omega)⟩
def wantN (A D : ByteArray) (room e : Int) (i : Nat) : Int := if e ≤ (i : Int) then 0 else min (D.size : Int) (max (max room 0 - (A.size : Int)) 0)
theorem WrI.step {A : ByteArray} {e : Int} {s : SS} {i : Nat} (h : WrI A e s i) (hi : i < 20) {D : ByteArray} (hD : D.size ≤ 200) (room : Int) :
    wrN (midS s e i) D room = wantN A D room e i ∧ WrI (A ++ D.extract 0 (wantN A D room e i).toNat) e (wrS (midS s e i) D room) (i + 1) := by
  obtain ⟨m1, m2, m3, m4, m5, m6⟩ := h.mid
  have hsz := h.sz
  have hen : en (midS s e i) = (A.size : Int) := by unfold en; rw [m2, m5]; omega
  have hw : wrN (midS s e i) D room = wantN A D room e i := by
    unfold wrN wantN frS
    rw [m6, m5]
    by_cases hq : e ≤ (i : Int)
    · rw [if_pos (decide_eq_true hq), if_pos hq]
    · rw [if_neg (by rw [decide_eq_false hq]; simp), if_neg hq]; omega
  refine ⟨hw, ?_⟩
  have hr := wrN_range (s := midS s e i) (D := D) (room := room)
  have hok := wr_ok m1 (D := D) (room := room) (by rw [hen]; omega)
  have hsz2 : (A ++ D.extract 0 (wantN A D room e i).toNat).size ≤ 200 * (i + 1) := by
    rw [ByteArray.size_append, ByteArray.size_extract]; omega
  rcases wr_cases (midS s e i) D room with ⟨q1, q2, q3⟩ | ⟨q1, q2, q3, _⟩
  · rw [q2] at hok ⊢
    rw [← hw, q3]
    rw [show (0 : Int).toNat = 0 from rfl, append_none]
    have hle : e ≤ (i : Int) := by rw [m6] at q1; exact of_decide_eq_true q1
    exact ⟨m1, m2, m3, m4, m5, by rw [m6]; exact decide_eq_decide.2 (by constructor <;> intro _ <;> omega), by omega⟩
  · have hnl : ¬ e ≤ (i : Int) := by rw [m6] at q1; exact of_decide_eq_false q1
    rw [q2] at hok ⊢
    rw [← hw]
    rw [← hw] at hsz2
    have hl := lay_td m1 (D := D.extract 0 (wrN (midS s e i) D room).toNat) (by have h5 := q3; have h6 := hen; have h7 := hr.2; omega)
    rw [q3] at hl
    refine ⟨hok, m2, m3, fun x => ?_, ?_, ?_, hsz2⟩
    · rw [hl.2 x, m4, hen, ByteArray.size_append]
      have : ((A.size + (D.extract 0 (wrN (midS s e i) D room).toNat).size : Nat) : Int) = (A.size : Int) + wrN (midS s e i) D room := by have h5 := q3; omega
      rw [this]
      omega
    · show (midS s e i).d ++ _ = _
      rw [m5]
    · show (midS s e i).fin = _
      rw [m6]
      exact decide_eq_decide.2 (by constructor <;> intro _ <;> omega)
theorem WrI.count {A : ByteArray} {e : Int} {s : SS} {i : Nat} (h : WrI A e s i) (hi : i ≤ 20) : size s.td = (A.size : Int) ∧ en s = (A.size : Int) := by
  have hsz := h.sz
  have e1 := is_fromL (a := 0) (b := (A.size : Int)) (by omega) (by omega) h.ok.ct h.td
  refine ⟨?_, by unfold en; rw [h.ba, h.d]; omega⟩
  rw [e1]
  unfold fromL
  split
  · simp only [size]; omega
  · simp only [size]; omega
end Go.Proofs.YtoblmhpjendbfaaGreatDoor.Rg
