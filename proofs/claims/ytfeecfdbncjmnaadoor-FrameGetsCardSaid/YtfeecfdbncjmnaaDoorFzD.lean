/- Layer 6: FgC, FgD, FgE, FgF, FgG, joined by tools/pack.py. -/
import Derived.Test.YtfeecfdbncjmnaaDoorFzC
import Derived.Deep.QuietTactic
import Derived.BigQuiet
import Derived.Deep.CutRange
namespace Go.Proofs.YtfeecfdbncjmnaaDoor.Fm
set_option maxRecDepth 20000
open Go.RowKit Vm
set_option linter.unusedVariables false
set_option linter.unusedSimpArgs false
section
theorem FrD.lt {b : Nat} {f : Frm} {w : World} (h : FrD b f w) : b < w.heap.size := (Array.getElem?_eq_some_iff.1 h).1
theorem FrD.stay {b : Nat} {f : Frm} {w w' : World} (h : FrD b f w) (hb : Below w.heap.size w w') : FrD b f w' := (hb.block b h.lt).trans h
theorem FrD.fz {b : Nat} {f : Frm} {w : World} (h : FrD b f w) (k : Nat) : w.frozen? ⟨b, k, none⟩ = false := Lib.frozen_of_heap h k
theorem FrD.ats {b : Nat} {f : Frm} {w : World} (h : FrD b f w) : w.cell? ⟨b, 0, none⟩ = some (.int .u64 f.kind) ∧ w.cell? ⟨b, 1, none⟩ = some (.int .u64 f.id) ∧ w.cell? ⟨b, 2, none⟩ = some (.int .u64 f.off) ∧ w.cell? ⟨b, 3, none⟩ = some (.int .u64 f.max) ∧ w.cell? ⟨b, 4, none⟩ = some (.int .u64 f.code) ∧ w.cell? ⟨b, 5, none⟩ = some (.int .u64 f.seq) ∧ w.cell? ⟨b, 6, none⟩ = some (.int .u64 f.prior) ∧ w.cell? ⟨b, 7, none⟩ = some (.int .u64 f.delay) ∧ w.cell? ⟨b, 8, none⟩ = some (.bool f.fin) ∧ w.cell? ⟨b, 9, none⟩ = some (.string ⟨f.data.toArray⟩) ∧ w.cell? ⟨b, 10, none⟩ = some (.string ⟨f.cid.toArray⟩) ∧ w.cell? ⟨b, 11, none⟩ = some (.string ⟨f.token.toArray⟩) ∧ w.cell? ⟨b, 12, none⟩ = some (.slice f.set.a f.set.n f.set.c) :=
  ⟨Lib.cell_of_heap h 0, Lib.cell_of_heap h 1, Lib.cell_of_heap h 2, Lib.cell_of_heap h 3, Lib.cell_of_heap h 4, Lib.cell_of_heap h 5, Lib.cell_of_heap h 6, Lib.cell_of_heap h 7, Lib.cell_of_heap h 8, Lib.cell_of_heap h 9, Lib.cell_of_heap h 10, Lib.cell_of_heap h 11, Lib.cell_of_heap h 12⟩
theorem FrD.at0 {b : Nat} {f : Frm} {w : World} (h : FrD b f w) : w.cell? ⟨b, 0, none⟩ = some (.int .u64 f.kind) := Lib.cell_of_heap h 0
theorem FrD.at1 {b : Nat} {f : Frm} {w : World} (h : FrD b f w) : w.cell? ⟨b, 1, none⟩ = some (.int .u64 f.id) := Lib.cell_of_heap h 1
theorem FrD.at2 {b : Nat} {f : Frm} {w : World} (h : FrD b f w) : w.cell? ⟨b, 2, none⟩ = some (.int .u64 f.off) := Lib.cell_of_heap h 2
theorem FrD.at3 {b : Nat} {f : Frm} {w : World} (h : FrD b f w) : w.cell? ⟨b, 3, none⟩ = some (.int .u64 f.max) := Lib.cell_of_heap h 3
theorem FrD.at4 {b : Nat} {f : Frm} {w : World} (h : FrD b f w) : w.cell? ⟨b, 4, none⟩ = some (.int .u64 f.code) := Lib.cell_of_heap h 4
theorem FrD.at5 {b : Nat} {f : Frm} {w : World} (h : FrD b f w) : w.cell? ⟨b, 5, none⟩ = some (.int .u64 f.seq) := Lib.cell_of_heap h 5
theorem FrD.at6 {b : Nat} {f : Frm} {w : World} (h : FrD b f w) : w.cell? ⟨b, 6, none⟩ = some (.int .u64 f.prior) := Lib.cell_of_heap h 6
theorem FrD.at7 {b : Nat} {f : Frm} {w : World} (h : FrD b f w) : w.cell? ⟨b, 7, none⟩ = some (.int .u64 f.delay) := Lib.cell_of_heap h 7
theorem FrD.at8 {b : Nat} {f : Frm} {w : World} (h : FrD b f w) : w.cell? ⟨b, 8, none⟩ = some (.bool f.fin) := Lib.cell_of_heap h 8
theorem FrD.at9 {b : Nat} {f : Frm} {w : World} (h : FrD b f w) : w.cell? ⟨b, 9, none⟩ = some (.string ⟨f.data.toArray⟩) := Lib.cell_of_heap h 9
theorem FrD.at10 {b : Nat} {f : Frm} {w : World} (h : FrD b f w) : w.cell? ⟨b, 10, none⟩ = some (.string ⟨f.cid.toArray⟩) := Lib.cell_of_heap h 10
theorem FrD.at11 {b : Nat} {f : Frm} {w : World} (h : FrD b f w) : w.cell? ⟨b, 11, none⟩ = some (.string ⟨f.token.toArray⟩) := Lib.cell_of_heap h 11
theorem FrD.at12 {b : Nat} {f : Frm} {w : World} (h : FrD b f w) : w.cell? ⟨b, 12, none⟩ = some (.slice f.set.a f.set.n f.set.c) := Lib.cell_of_heap h 12
/-- The world in which a kind's parts are read: the result's box, the frame's. -/
structure PW (w : World) (f : Frm) (W : World) : Prop where
  r : FrD w.heap.size frZ W
  f : FrD (w.heap.size + 1) f W
  b : Below w.heap.size w W
theorem PW.start (k : Int) (w : World) : PW w { frZ with kind := k } (((w.alloc (.cells #[.int .u64 0, .int .u64 0, .int .u64 0, .int .u64 0, .int .u64 0, .int .u64 0, .int .u64 0, .int .u64 0, .bool false, .string ⟨#[]⟩, .string ⟨#[]⟩, .string ⟨#[]⟩, .slice none 0 0] 34)).alloc (.cells #[.int .u64 k, .int .u64 0, .int .u64 0, .int .u64 0, .int .u64 0, .int .u64 0, .int .u64 0, .int .u64 0, .bool false, .string ⟨#[]⟩, .string ⟨#[]⟩, .string ⟨#[]⟩, .slice none 0 0] 34)).alloc (.cells #[] 23)) := by
  refine ⟨?_, ?_, ?_⟩
  · exact (Below.heap_alloc _ _ _ (by simp; omega)).trans ((Below.heap_alloc _ _ _ (by simp)).trans (World.alloc_heap_new w _))
  · refine (Below.heap_alloc _ _ _ (by simp)).trans ?_
    have := World.alloc_heap_new (w.alloc (.cells #[.int .u64 0, .int .u64 0, .int .u64 0, .int .u64 0, .int .u64 0, .int .u64 0, .int .u64 0, .int .u64 0, .bool false, .string ⟨#[]⟩, .string ⟨#[]⟩, .string ⟨#[]⟩, .slice none 0 0] 34)) (.cells #[.int .u64 k, .int .u64 0, .int .u64 0, .int .u64 0, .int .u64 0, .int .u64 0, .int .u64 0, .int .u64 0, .bool false, .string ⟨#[]⟩, .string ⟨#[]⟩, .string ⟨#[]⟩, .slice none 0 0] 34)
    rwa [World.size_alloc] at this
  · exact (((Below.refl _ _).alloc (Nat.le_refl _) _).alloc (by simp) _).alloc (by simp; omega) _
theorem PW.go {w W W' : World} {f : Frm} (h : PW w f W) (hb : Below W.heap.size W W') : PW w f W' := ⟨h.r.stay hb, h.f.stay hb, h.b.trans (hb.mono h.b.size)⟩
theorem PW.put1 {w W : World} {f : Frm} (h : PW w f W) (v : Int) : PW w { f with id := v } (W.setCell ⟨w.heap.size + 1, 1, none⟩ (.int .u64 v)) := by
  have ho := It.Only.setCell (O := fun k => k = w.heap.size + 1) (p := ⟨w.heap.size + 1, 1, none⟩) rfl W (.int .u64 v)
  exact ⟨ho.heap h.r (by omega), h.f.set1 v, h.b.trans (ho.below h.b.size (fun k hk => by omega))⟩
theorem PW.put2 {w W : World} {f : Frm} (h : PW w f W) (v : Int) : PW w { f with off := v } (W.setCell ⟨w.heap.size + 1, 2, none⟩ (.int .u64 v)) := by
  have ho := It.Only.setCell (O := fun k => k = w.heap.size + 1) (p := ⟨w.heap.size + 1, 2, none⟩) rfl W (.int .u64 v)
  exact ⟨ho.heap h.r (by omega), h.f.set2 v, h.b.trans (ho.below h.b.size (fun k hk => by omega))⟩
theorem PW.put3 {w W : World} {f : Frm} (h : PW w f W) (v : Int) : PW w { f with max := v } (W.setCell ⟨w.heap.size + 1, 3, none⟩ (.int .u64 v)) := by
  have ho := It.Only.setCell (O := fun k => k = w.heap.size + 1) (p := ⟨w.heap.size + 1, 3, none⟩) rfl W (.int .u64 v)
  exact ⟨ho.heap h.r (by omega), h.f.set3 v, h.b.trans (ho.below h.b.size (fun k hk => by omega))⟩
theorem PW.put4 {w W : World} {f : Frm} (h : PW w f W) (v : Int) : PW w { f with code := v } (W.setCell ⟨w.heap.size + 1, 4, none⟩ (.int .u64 v)) := by
  have ho := It.Only.setCell (O := fun k => k = w.heap.size + 1) (p := ⟨w.heap.size + 1, 4, none⟩) rfl W (.int .u64 v)
  exact ⟨ho.heap h.r (by omega), h.f.set4 v, h.b.trans (ho.below h.b.size (fun k hk => by omega))⟩
theorem PW.put5 {w W : World} {f : Frm} (h : PW w f W) (v : Int) : PW w { f with seq := v } (W.setCell ⟨w.heap.size + 1, 5, none⟩ (.int .u64 v)) := by
  have ho := It.Only.setCell (O := fun k => k = w.heap.size + 1) (p := ⟨w.heap.size + 1, 5, none⟩) rfl W (.int .u64 v)
  exact ⟨ho.heap h.r (by omega), h.f.set5 v, h.b.trans (ho.below h.b.size (fun k hk => by omega))⟩
theorem PW.put6 {w W : World} {f : Frm} (h : PW w f W) (v : Int) : PW w { f with prior := v } (W.setCell ⟨w.heap.size + 1, 6, none⟩ (.int .u64 v)) := by
  have ho := It.Only.setCell (O := fun k => k = w.heap.size + 1) (p := ⟨w.heap.size + 1, 6, none⟩) rfl W (.int .u64 v)
  exact ⟨ho.heap h.r (by omega), h.f.set6 v, h.b.trans (ho.below h.b.size (fun k hk => by omega))⟩
theorem PW.put7 {w W : World} {f : Frm} (h : PW w f W) (v : Int) : PW w { f with delay := v } (W.setCell ⟨w.heap.size + 1, 7, none⟩ (.int .u64 v)) := by
  have ho := It.Only.setCell (O := fun k => k = w.heap.size + 1) (p := ⟨w.heap.size + 1, 7, none⟩) rfl W (.int .u64 v)
  exact ⟨ho.heap h.r (by omega), h.f.set7 v, h.b.trans (ho.below h.b.size (fun k hk => by omega))⟩
theorem PW.put9 {w W : World} {f : Frm} (h : PW w f W) (v : List UInt8) : PW w { f with data := v } (W.setCell ⟨w.heap.size + 1, 9, none⟩ (.string ⟨v.toArray⟩)) := by
  have ho := It.Only.setCell (O := fun k => k = w.heap.size + 1) (p := ⟨w.heap.size + 1, 9, none⟩) rfl W (.string ⟨v.toArray⟩)
  exact ⟨ho.heap h.r (by omega), h.f.set9 v, h.b.trans (ho.below h.b.size (fun k hk => by omega))⟩
theorem PW.put10 {w W : World} {f : Frm} (h : PW w f W) (v : List UInt8) : PW w { f with cid := v } (W.setCell ⟨w.heap.size + 1, 10, none⟩ (.string ⟨v.toArray⟩)) := by
  have ho := It.Only.setCell (O := fun k => k = w.heap.size + 1) (p := ⟨w.heap.size + 1, 10, none⟩) rfl W (.string ⟨v.toArray⟩)
  exact ⟨ho.heap h.r (by omega), h.f.set10 v, h.b.trans (ho.below h.b.size (fun k hk => by omega))⟩
theorem PW.put11 {w W : World} {f : Frm} (h : PW w f W) (v : List UInt8) : PW w { f with token := v } (W.setCell ⟨w.heap.size + 1, 11, none⟩ (.string ⟨v.toArray⟩)) := by
  have ho := It.Only.setCell (O := fun k => k = w.heap.size + 1) (p := ⟨w.heap.size + 1, 11, none⟩) rfl W (.string ⟨v.toArray⟩)
  exact ⟨ho.heap h.r (by omega), h.f.set11 v, h.b.trans (ho.below h.b.size (fun k hk => by omega))⟩
theorem PW.ends {w W : World} {f : Frm} (h : PW w f W) : FrD w.heap.size f (rstF w.heap.size f W) ∧ Below w.heap.size w (rstF w.heap.size f W) :=
  ⟨rstF_frd h.r f, h.b.trans ((rstF_only w.heap.size f W).below h.b.size (fun k hk => by omega))⟩
set_option maxHeartbeats 8000000 in
theorem rparts_4 (l : List UInt8) (w : World) (hl : l.length ≤ 4000) : Calls Tryd.prog 22 #[.int .u64 4, .string ⟨l.toArray⟩] w (PtTo (match gst l 3 with | some (acc, r) => some ({ frZ with kind := 4, id := ((acc.getD 0 0 : Nat) : Int), code := ((acc.getD 1 0 : Nat) : Int), max := ((acc.getD 2 0 : Nat) : Int) }, [], r) | none => none) w) := by
  have CN := Lib.hid (fun w => rnumbers l 3 w hl (by decide) (by decide))
  have HQ0 := Lib.hid (PW.start 4 w)
  clear hl
  match hg : gst l 3 with
  | none =>
    rw [hg] at CN
    clear hg
    go_enter Tryd.func22, Tryd.ntmps22
    go_wp2_with fail
    refine (CN.out _).mono ?_
    rintro e w1 ⟨hb, rfl⟩
    have HQ := Lib.hid (HQ0.out.go hb)
    clear hb
    obtain ⟨F, hF⟩ : ∃ F : Frm, ({ frZ with kind := 4 } : Frm) = F := ⟨_, rfl⟩
    rw [hF] at HQ
    have HFQ := Lib.hid hF
    clear hF
    obtain ⟨c0, c1, c2, c3, c4, c5, c6, c7, c8, c9, c10, c11, c12⟩ := HQ.out.f.ats
    obtain ⟨d0, d1, d2, d3, d4, d5, d6, d7, d8, d9, d10, d11, d12⟩ := HQ.out.r.ats
    have df := HQ.out.r.fz
    go_wp2
    have HE := Lib.hid (PW.ends (HQ.out))
    refine bodyPost_ret (v := .tuple #[.agg #[.int .u64 F.kind, .int .u64 F.id, .int .u64 F.off, .int .u64 F.max, .int .u64 F.code, .int .u64 F.seq, .int .u64 F.prior, .int .u64 F.delay, .bool F.fin, .string ⟨F.data.toArray⟩, .string ⟨F.cid.toArray⟩, .string ⟨F.token.toArray⟩, .slice F.set.a F.set.n F.set.c], .string ⟨([] : List UInt8).toArray⟩, .bool false]) (by
      change Sem.run Tryd.prog (results _ _) (rstF w.heap.size F w1) = Result.ok _ (rstF w.heap.size F w1)
      obtain ⟨y0, y1, y2, y3, y4, y5, y6, y7, y8, y9, y10, y11, y12⟩ := HE.out.1.ats
      generalize (rstF w.heap.size F w1) = X at y0 y1 y2 y3 y4 y5 y6 y7 y8 y9 y10 y11 y12 ⊢
      simp [results, Tryd.results22, go_sem, y0, y1, y2, y3, y4, y5, y6, y7, y8, y9, y10, y11, y12]) rfl ?_
    exact ⟨HE.out.2, F, [], rfl⟩
  | some (acc, r) =>
    rw [hg] at CN
    clear hg
    obtain ⟨a0, ha0⟩ : ∃ a : Int, ((acc.getD 0 0 : Nat) : Int) = a := ⟨_, rfl⟩
    obtain ⟨a1, ha1⟩ : ∃ a : Int, ((acc.getD 1 0 : Nat) : Int) = a := ⟨_, rfl⟩
    obtain ⟨a2, ha2⟩ : ∃ a : Int, ((acc.getD 2 0 : Nat) : Int) = a := ⟨_, rfl⟩
    show Calls _ _ _ _ (PtTo (some ({ frZ with kind := 4, id := ((acc.getD 0 0 : Nat) : Int), code := ((acc.getD 1 0 : Nat) : Int), max := ((acc.getD 2 0 : Nat) : Int) }, [], r)) w)
    rw [ha0, ha1, ha2]
    go_enter Tryd.func22, Tryd.ntmps22
    go_wp2_with fail
    refine (CN.out _).mono ?_
    rintro e w1 ⟨hb, g, c, rfl, h1, h2⟩
    have HQ1 := Lib.hid (HQ0.out.go hb)
    have hg1 : w.heap.size + 1 < g := by simp only [World.size_alloc] at h1; omega
    have hg2 : g ≠ w.heap.size + 1 := by omega
    have hg3 : w.heap.size + 1 ≠ g := by omega
    clear h1
    have g0 := h2 0 (by decide)
    rw [ha0] at g0
    have g1 := h2 1 (by decide)
    rw [ha1] at g1
    have g2 := h2 2 (by decide)
    rw [ha2] at g2
    have HQ := Lib.hid (((HQ1.out.put1 a0).put4 a1).put3 a2)
    clear hb h2 ha0 ha1 ha2
    obtain ⟨c0, c1, c2, c3, c4, c5, c6, c7, c8, c9, c10, c11, c12⟩ := HQ1.out.f.ats
    obtain ⟨d0, d1, d2, d3, d4, d5, d6, d7, d8, d9, d10, d11, d12⟩ := HQ1.out.r.ats
    have cf := HQ1.out.f.fz
    have df := HQ1.out.r.fz
    have hlt := HQ1.out.f.lt
    go_upto_region 66 with (fail)
    clear c0 d0 c1 d1 c2 d2 c3 d3 c4 d4 c5 d5 c6 d6 c7 d7 c8 d8 c9 d9 c10 d10 c11 d11 c12 d12 cf df hlt
    obtain ⟨F, hF⟩ : ∃ F : Frm, ({ frZ with kind := 4, id := a0, code := a1, max := a2 } : Frm) = F := ⟨_, rfl⟩
    have HQ : Hid (PW w F (((w1.setCell ⟨w.heap.size + 1, 1, none⟩ (.int .u64 a0)).setCell ⟨w.heap.size + 1, 4, none⟩ (.int .u64 a1)).setCell ⟨w.heap.size + 1, 3, none⟩ (.int .u64 a2))) := Lib.hid (by rw [← hF]; exact HQ.out)
    have HFQ := Lib.hid hF
    clear hF
    generalize (((w1.setCell ⟨w.heap.size + 1, 1, none⟩ (.int .u64 a0)).setCell ⟨w.heap.size + 1, 4, none⟩ (.int .u64 a1)).setCell ⟨w.heap.size + 1, 3, none⟩ (.int .u64 a2)) = Wt at HQ ⊢
    obtain ⟨c0, c1, c2, c3, c4, c5, c6, c7, c8, c9, c10, c11, c12⟩ := HQ.out.f.ats
    obtain ⟨d0, d1, d2, d3, d4, d5, d6, d7, d8, d9, d10, d11, d12⟩ := HQ.out.r.ats
    have df := HQ.out.r.fz
    go_wp2
    have HE := Lib.hid (PW.ends (HQ.out))
    refine bodyPost_ret (v := .tuple #[.agg #[.int .u64 F.kind, .int .u64 F.id, .int .u64 F.off, .int .u64 F.max, .int .u64 F.code, .int .u64 F.seq, .int .u64 F.prior, .int .u64 F.delay, .bool F.fin, .string ⟨F.data.toArray⟩, .string ⟨F.cid.toArray⟩, .string ⟨F.token.toArray⟩, .slice F.set.a F.set.n F.set.c], .string ⟨r.toArray⟩, .bool true]) (by
      change Sem.run Tryd.prog (results _ _) (rstF w.heap.size F Wt) = Result.ok _ (rstF w.heap.size F Wt)
      obtain ⟨y0, y1, y2, y3, y4, y5, y6, y7, y8, y9, y10, y11, y12⟩ := HE.out.1.ats
      generalize (rstF w.heap.size F Wt) = X at y0 y1 y2 y3 y4 y5 y6 y7 y8 y9 y10 y11 y12 ⊢
      simp [results, Tryd.results22, go_sem, y0, y1, y2, y3, y4, y5, y6, y7, y8, y9, y10, y11, y12]) rfl ?_
    exact ⟨HE.out.2, ⟨none, 0, 0⟩, rfl, rd_none _, (fun x hx => by cases hx), by rw [← HFQ.out]; rfl⟩
set_option maxHeartbeats 8000000 in
theorem rparts_5 (l : List UInt8) (w : World) (hl : l.length ≤ 4000) : Calls Tryd.prog 22 #[.int .u64 5, .string ⟨l.toArray⟩] w (PtTo (match gst l 2 with | some (acc, r) => some ({ frZ with kind := 5, id := ((acc.getD 0 0 : Nat) : Int), code := ((acc.getD 1 0 : Nat) : Int) }, [], r) | none => none) w) := by
  have CN := Lib.hid (fun w => rnumbers l 2 w hl (by decide) (by decide))
  have HQ0 := Lib.hid (PW.start 5 w)
  clear hl
  match hg : gst l 2 with
  | none =>
    rw [hg] at CN
    clear hg
    go_enter Tryd.func22, Tryd.ntmps22
    go_wp2_with fail
    refine (CN.out _).mono ?_
    rintro e w1 ⟨hb, rfl⟩
    have HQ := Lib.hid (HQ0.out.go hb)
    clear hb
    obtain ⟨F, hF⟩ : ∃ F : Frm, ({ frZ with kind := 5 } : Frm) = F := ⟨_, rfl⟩
    rw [hF] at HQ
    have HFQ := Lib.hid hF
    clear hF
    obtain ⟨c0, c1, c2, c3, c4, c5, c6, c7, c8, c9, c10, c11, c12⟩ := HQ.out.f.ats
    obtain ⟨d0, d1, d2, d3, d4, d5, d6, d7, d8, d9, d10, d11, d12⟩ := HQ.out.r.ats
    have df := HQ.out.r.fz
    go_wp2
    have HE := Lib.hid (PW.ends (HQ.out))
    refine bodyPost_ret (v := .tuple #[.agg #[.int .u64 F.kind, .int .u64 F.id, .int .u64 F.off, .int .u64 F.max, .int .u64 F.code, .int .u64 F.seq, .int .u64 F.prior, .int .u64 F.delay, .bool F.fin, .string ⟨F.data.toArray⟩, .string ⟨F.cid.toArray⟩, .string ⟨F.token.toArray⟩, .slice F.set.a F.set.n F.set.c], .string ⟨([] : List UInt8).toArray⟩, .bool false]) (by
      change Sem.run Tryd.prog (results _ _) (rstF w.heap.size F w1) = Result.ok _ (rstF w.heap.size F w1)
      obtain ⟨y0, y1, y2, y3, y4, y5, y6, y7, y8, y9, y10, y11, y12⟩ := HE.out.1.ats
      generalize (rstF w.heap.size F w1) = X at y0 y1 y2 y3 y4 y5 y6 y7 y8 y9 y10 y11 y12 ⊢
      simp [results, Tryd.results22, go_sem, y0, y1, y2, y3, y4, y5, y6, y7, y8, y9, y10, y11, y12]) rfl ?_
    exact ⟨HE.out.2, F, [], rfl⟩
  | some (acc, r) =>
    rw [hg] at CN
    clear hg
    obtain ⟨a0, ha0⟩ : ∃ a : Int, ((acc.getD 0 0 : Nat) : Int) = a := ⟨_, rfl⟩
    obtain ⟨a1, ha1⟩ : ∃ a : Int, ((acc.getD 1 0 : Nat) : Int) = a := ⟨_, rfl⟩
    show Calls _ _ _ _ (PtTo (some ({ frZ with kind := 5, id := ((acc.getD 0 0 : Nat) : Int), code := ((acc.getD 1 0 : Nat) : Int) }, [], r)) w)
    rw [ha0, ha1]
    go_enter Tryd.func22, Tryd.ntmps22
    go_wp2_with fail
    refine (CN.out _).mono ?_
    rintro e w1 ⟨hb, g, c, rfl, h1, h2⟩
    have HQ1 := Lib.hid (HQ0.out.go hb)
    have hg1 : w.heap.size + 1 < g := by simp only [World.size_alloc] at h1; omega
    have hg2 : g ≠ w.heap.size + 1 := by omega
    have hg3 : w.heap.size + 1 ≠ g := by omega
    clear h1
    have g0 := h2 0 (by decide)
    rw [ha0] at g0
    have g1 := h2 1 (by decide)
    rw [ha1] at g1
    have HQ := Lib.hid ((HQ1.out.put1 a0).put4 a1)
    clear hb h2 ha0 ha1
    obtain ⟨c0, c1, c2, c3, c4, c5, c6, c7, c8, c9, c10, c11, c12⟩ := HQ1.out.f.ats
    obtain ⟨d0, d1, d2, d3, d4, d5, d6, d7, d8, d9, d10, d11, d12⟩ := HQ1.out.r.ats
    have cf := HQ1.out.f.fz
    have df := HQ1.out.r.fz
    have hlt := HQ1.out.f.lt
    go_upto_region 66 with (fail)
    clear c0 d0 c1 d1 c2 d2 c3 d3 c4 d4 c5 d5 c6 d6 c7 d7 c8 d8 c9 d9 c10 d10 c11 d11 c12 d12 cf df hlt
    obtain ⟨F, hF⟩ : ∃ F : Frm, ({ frZ with kind := 5, id := a0, code := a1 } : Frm) = F := ⟨_, rfl⟩
    have HQ : Hid (PW w F ((w1.setCell ⟨w.heap.size + 1, 1, none⟩ (.int .u64 a0)).setCell ⟨w.heap.size + 1, 4, none⟩ (.int .u64 a1))) := Lib.hid (by rw [← hF]; exact HQ.out)
    have HFQ := Lib.hid hF
    clear hF
    generalize ((w1.setCell ⟨w.heap.size + 1, 1, none⟩ (.int .u64 a0)).setCell ⟨w.heap.size + 1, 4, none⟩ (.int .u64 a1)) = Wt at HQ ⊢
    obtain ⟨c0, c1, c2, c3, c4, c5, c6, c7, c8, c9, c10, c11, c12⟩ := HQ.out.f.ats
    obtain ⟨d0, d1, d2, d3, d4, d5, d6, d7, d8, d9, d10, d11, d12⟩ := HQ.out.r.ats
    have df := HQ.out.r.fz
    go_wp2
    have HE := Lib.hid (PW.ends (HQ.out))
    refine bodyPost_ret (v := .tuple #[.agg #[.int .u64 F.kind, .int .u64 F.id, .int .u64 F.off, .int .u64 F.max, .int .u64 F.code, .int .u64 F.seq, .int .u64 F.prior, .int .u64 F.delay, .bool F.fin, .string ⟨F.data.toArray⟩, .string ⟨F.cid.toArray⟩, .string ⟨F.token.toArray⟩, .slice F.set.a F.set.n F.set.c], .string ⟨r.toArray⟩, .bool true]) (by
      change Sem.run Tryd.prog (results _ _) (rstF w.heap.size F Wt) = Result.ok _ (rstF w.heap.size F Wt)
      obtain ⟨y0, y1, y2, y3, y4, y5, y6, y7, y8, y9, y10, y11, y12⟩ := HE.out.1.ats
      generalize (rstF w.heap.size F Wt) = X at y0 y1 y2 y3 y4 y5 y6 y7 y8 y9 y10 y11 y12 ⊢
      simp [results, Tryd.results22, go_sem, y0, y1, y2, y3, y4, y5, y6, y7, y8, y9, y10, y11, y12]) rfl ?_
    exact ⟨HE.out.2, ⟨none, 0, 0⟩, rfl, rd_none _, (fun x hx => by cases hx), by rw [← HFQ.out]; rfl⟩
set_option maxHeartbeats 8000000 in
theorem rparts_17 (l : List UInt8) (w : World) (hl : l.length ≤ 4000) : Calls Tryd.prog 22 #[.int .u64 17, .string ⟨l.toArray⟩] w (PtTo (match gst l 2 with | some (acc, r) => some ({ frZ with kind := 17, id := ((acc.getD 0 0 : Nat) : Int), max := ((acc.getD 1 0 : Nat) : Int) }, [], r) | none => none) w) := by
  have CN := Lib.hid (fun w => rnumbers l 2 w hl (by decide) (by decide))
  have HQ0 := Lib.hid (PW.start 17 w)
  have CSH := Lib.hid (fun w => shape_17 w)
  clear hl
  match hg : gst l 2 with
  | none =>
    rw [hg] at CN
    clear hg
    go_enter Tryd.func22, Tryd.ntmps22
    go_wp2_with fail
    refine (CSH.out _).mono ?_
    rintro e w1 ⟨rfl, rfl⟩
    go_wp2_with fail
    refine (CSH.out _).mono ?_
    rintro e w1 ⟨rfl, rfl⟩
    go_wp2_with fail
    refine (CN.out _).mono ?_
    rintro e w1 ⟨hb, rfl⟩
    have HQ := Lib.hid (HQ0.out.go hb)
    clear hb
    obtain ⟨F, hF⟩ : ∃ F : Frm, ({ frZ with kind := 17 } : Frm) = F := ⟨_, rfl⟩
    rw [hF] at HQ
    have HFQ := Lib.hid hF
    clear hF
    obtain ⟨c0, c1, c2, c3, c4, c5, c6, c7, c8, c9, c10, c11, c12⟩ := HQ.out.f.ats
    obtain ⟨d0, d1, d2, d3, d4, d5, d6, d7, d8, d9, d10, d11, d12⟩ := HQ.out.r.ats
    have df := HQ.out.r.fz
    go_wp2
    have HE := Lib.hid (PW.ends (HQ.out))
    refine bodyPost_ret (v := .tuple #[.agg #[.int .u64 F.kind, .int .u64 F.id, .int .u64 F.off, .int .u64 F.max, .int .u64 F.code, .int .u64 F.seq, .int .u64 F.prior, .int .u64 F.delay, .bool F.fin, .string ⟨F.data.toArray⟩, .string ⟨F.cid.toArray⟩, .string ⟨F.token.toArray⟩, .slice F.set.a F.set.n F.set.c], .string ⟨([] : List UInt8).toArray⟩, .bool false]) (by
      change Sem.run Tryd.prog (results _ _) (rstF w.heap.size F w1) = Result.ok _ (rstF w.heap.size F w1)
      obtain ⟨y0, y1, y2, y3, y4, y5, y6, y7, y8, y9, y10, y11, y12⟩ := HE.out.1.ats
      generalize (rstF w.heap.size F w1) = X at y0 y1 y2 y3 y4 y5 y6 y7 y8 y9 y10 y11 y12 ⊢
      simp [results, Tryd.results22, go_sem, y0, y1, y2, y3, y4, y5, y6, y7, y8, y9, y10, y11, y12]) rfl ?_
    exact ⟨HE.out.2, F, [], rfl⟩
  | some (acc, r) =>
    rw [hg] at CN
    clear hg
    obtain ⟨a0, ha0⟩ : ∃ a : Int, ((acc.getD 0 0 : Nat) : Int) = a := ⟨_, rfl⟩
    obtain ⟨a1, ha1⟩ : ∃ a : Int, ((acc.getD 1 0 : Nat) : Int) = a := ⟨_, rfl⟩
    show Calls _ _ _ _ (PtTo (some ({ frZ with kind := 17, id := ((acc.getD 0 0 : Nat) : Int), max := ((acc.getD 1 0 : Nat) : Int) }, [], r)) w)
    rw [ha0, ha1]
    go_enter Tryd.func22, Tryd.ntmps22
    go_wp2_with fail
    refine (CSH.out _).mono ?_
    rintro e w1 ⟨rfl, rfl⟩
    go_wp2_with fail
    refine (CSH.out _).mono ?_
    rintro e w1 ⟨rfl, rfl⟩
    go_wp2_with fail
    refine (CN.out _).mono ?_
    rintro e w1 ⟨hb, g, c, rfl, h1, h2⟩
    have HQ1 := Lib.hid (HQ0.out.go hb)
    have hg1 : w.heap.size + 1 < g := by simp only [World.size_alloc] at h1; omega
    have hg2 : g ≠ w.heap.size + 1 := by omega
    have hg3 : w.heap.size + 1 ≠ g := by omega
    clear h1
    have g0 := h2 0 (by decide)
    rw [ha0] at g0
    have g1 := h2 1 (by decide)
    rw [ha1] at g1
    have HQ := Lib.hid ((HQ1.out.put1 a0).put3 a1)
    clear hb h2 ha0 ha1
    obtain ⟨c0, c1, c2, c3, c4, c5, c6, c7, c8, c9, c10, c11, c12⟩ := HQ1.out.f.ats
    obtain ⟨d0, d1, d2, d3, d4, d5, d6, d7, d8, d9, d10, d11, d12⟩ := HQ1.out.r.ats
    have cf := HQ1.out.f.fz
    have df := HQ1.out.r.fz
    have hlt := HQ1.out.f.lt
    go_upto_region 66 with (fail)
    clear c0 d0 c1 d1 c2 d2 c3 d3 c4 d4 c5 d5 c6 d6 c7 d7 c8 d8 c9 d9 c10 d10 c11 d11 c12 d12 cf df hlt
    obtain ⟨F, hF⟩ : ∃ F : Frm, ({ frZ with kind := 17, id := a0, max := a1 } : Frm) = F := ⟨_, rfl⟩
    have HQ : Hid (PW w F ((w1.setCell ⟨w.heap.size + 1, 1, none⟩ (.int .u64 a0)).setCell ⟨w.heap.size + 1, 3, none⟩ (.int .u64 a1))) := Lib.hid (by rw [← hF]; exact HQ.out)
    have HFQ := Lib.hid hF
    clear hF
    generalize ((w1.setCell ⟨w.heap.size + 1, 1, none⟩ (.int .u64 a0)).setCell ⟨w.heap.size + 1, 3, none⟩ (.int .u64 a1)) = Wt at HQ ⊢
    obtain ⟨c0, c1, c2, c3, c4, c5, c6, c7, c8, c9, c10, c11, c12⟩ := HQ.out.f.ats
    obtain ⟨d0, d1, d2, d3, d4, d5, d6, d7, d8, d9, d10, d11, d12⟩ := HQ.out.r.ats
    have df := HQ.out.r.fz
    go_wp2
    have HE := Lib.hid (PW.ends (HQ.out))
    refine bodyPost_ret (v := .tuple #[.agg #[.int .u64 F.kind, .int .u64 F.id, .int .u64 F.off, .int .u64 F.max, .int .u64 F.code, .int .u64 F.seq, .int .u64 F.prior, .int .u64 F.delay, .bool F.fin, .string ⟨F.data.toArray⟩, .string ⟨F.cid.toArray⟩, .string ⟨F.token.toArray⟩, .slice F.set.a F.set.n F.set.c], .string ⟨r.toArray⟩, .bool true]) (by
      change Sem.run Tryd.prog (results _ _) (rstF w.heap.size F Wt) = Result.ok _ (rstF w.heap.size F Wt)
      obtain ⟨y0, y1, y2, y3, y4, y5, y6, y7, y8, y9, y10, y11, y12⟩ := HE.out.1.ats
      generalize (rstF w.heap.size F Wt) = X at y0 y1 y2 y3 y4 y5 y6 y7 y8 y9 y10 y11 y12 ⊢
      simp [results, Tryd.results22, go_sem, y0, y1, y2, y3, y4, y5, y6, y7, y8, y9, y10, y11, y12]) rfl ?_
    exact ⟨HE.out.2, ⟨none, 0, 0⟩, rfl, rd_none _, (fun x hx => by cases hx), by rw [← HFQ.out]; rfl⟩
set_option maxHeartbeats 8000000 in
theorem rparts_21 (l : List UInt8) (w : World) (hl : l.length ≤ 4000) : Calls Tryd.prog 22 #[.int .u64 21, .string ⟨l.toArray⟩] w (PtTo (match gst l 2 with | some (acc, r) => some ({ frZ with kind := 21, id := ((acc.getD 0 0 : Nat) : Int), max := ((acc.getD 1 0 : Nat) : Int) }, [], r) | none => none) w) := by
  have CN := Lib.hid (fun w => rnumbers l 2 w hl (by decide) (by decide))
  have HQ0 := Lib.hid (PW.start 21 w)
  have CSH := Lib.hid (fun w => shape_21 w)
  clear hl
  match hg : gst l 2 with
  | none =>
    rw [hg] at CN
    clear hg
    go_enter Tryd.func22, Tryd.ntmps22
    go_wp2_with fail
    refine (CSH.out _).mono ?_
    rintro e w1 ⟨rfl, rfl⟩
    go_wp2_with fail
    refine (CSH.out _).mono ?_
    rintro e w1 ⟨rfl, rfl⟩
    go_wp2_with fail
    refine (CN.out _).mono ?_
    rintro e w1 ⟨hb, rfl⟩
    have HQ := Lib.hid (HQ0.out.go hb)
    clear hb
    obtain ⟨F, hF⟩ : ∃ F : Frm, ({ frZ with kind := 21 } : Frm) = F := ⟨_, rfl⟩
    rw [hF] at HQ
    have HFQ := Lib.hid hF
    clear hF
    obtain ⟨c0, c1, c2, c3, c4, c5, c6, c7, c8, c9, c10, c11, c12⟩ := HQ.out.f.ats
    obtain ⟨d0, d1, d2, d3, d4, d5, d6, d7, d8, d9, d10, d11, d12⟩ := HQ.out.r.ats
    have df := HQ.out.r.fz
    go_wp2
    have HE := Lib.hid (PW.ends (HQ.out))
    refine bodyPost_ret (v := .tuple #[.agg #[.int .u64 F.kind, .int .u64 F.id, .int .u64 F.off, .int .u64 F.max, .int .u64 F.code, .int .u64 F.seq, .int .u64 F.prior, .int .u64 F.delay, .bool F.fin, .string ⟨F.data.toArray⟩, .string ⟨F.cid.toArray⟩, .string ⟨F.token.toArray⟩, .slice F.set.a F.set.n F.set.c], .string ⟨([] : List UInt8).toArray⟩, .bool false]) (by
      change Sem.run Tryd.prog (results _ _) (rstF w.heap.size F w1) = Result.ok _ (rstF w.heap.size F w1)
      obtain ⟨y0, y1, y2, y3, y4, y5, y6, y7, y8, y9, y10, y11, y12⟩ := HE.out.1.ats
      generalize (rstF w.heap.size F w1) = X at y0 y1 y2 y3 y4 y5 y6 y7 y8 y9 y10 y11 y12 ⊢
      simp [results, Tryd.results22, go_sem, y0, y1, y2, y3, y4, y5, y6, y7, y8, y9, y10, y11, y12]) rfl ?_
    exact ⟨HE.out.2, F, [], rfl⟩
  | some (acc, r) =>
    rw [hg] at CN
    clear hg
    obtain ⟨a0, ha0⟩ : ∃ a : Int, ((acc.getD 0 0 : Nat) : Int) = a := ⟨_, rfl⟩
    obtain ⟨a1, ha1⟩ : ∃ a : Int, ((acc.getD 1 0 : Nat) : Int) = a := ⟨_, rfl⟩
    show Calls _ _ _ _ (PtTo (some ({ frZ with kind := 21, id := ((acc.getD 0 0 : Nat) : Int), max := ((acc.getD 1 0 : Nat) : Int) }, [], r)) w)
    rw [ha0, ha1]
    go_enter Tryd.func22, Tryd.ntmps22
    go_wp2_with fail
    refine (CSH.out _).mono ?_
    rintro e w1 ⟨rfl, rfl⟩
    go_wp2_with fail
    refine (CSH.out _).mono ?_
    rintro e w1 ⟨rfl, rfl⟩
    go_wp2_with fail
    refine (CN.out _).mono ?_
    rintro e w1 ⟨hb, g, c, rfl, h1, h2⟩
    have HQ1 := Lib.hid (HQ0.out.go hb)
    have hg1 : w.heap.size + 1 < g := by simp only [World.size_alloc] at h1; omega
    have hg2 : g ≠ w.heap.size + 1 := by omega
    have hg3 : w.heap.size + 1 ≠ g := by omega
    clear h1
    have g0 := h2 0 (by decide)
    rw [ha0] at g0
    have g1 := h2 1 (by decide)
    rw [ha1] at g1
    have HQ := Lib.hid ((HQ1.out.put1 a0).put3 a1)
    clear hb h2 ha0 ha1
    obtain ⟨c0, c1, c2, c3, c4, c5, c6, c7, c8, c9, c10, c11, c12⟩ := HQ1.out.f.ats
    obtain ⟨d0, d1, d2, d3, d4, d5, d6, d7, d8, d9, d10, d11, d12⟩ := HQ1.out.r.ats
    have cf := HQ1.out.f.fz
    have df := HQ1.out.r.fz
    have hlt := HQ1.out.f.lt
    go_upto_region 66 with (fail)
    clear c0 d0 c1 d1 c2 d2 c3 d3 c4 d4 c5 d5 c6 d6 c7 d7 c8 d8 c9 d9 c10 d10 c11 d11 c12 d12 cf df hlt
    obtain ⟨F, hF⟩ : ∃ F : Frm, ({ frZ with kind := 21, id := a0, max := a1 } : Frm) = F := ⟨_, rfl⟩
    have HQ : Hid (PW w F ((w1.setCell ⟨w.heap.size + 1, 1, none⟩ (.int .u64 a0)).setCell ⟨w.heap.size + 1, 3, none⟩ (.int .u64 a1))) := Lib.hid (by rw [← hF]; exact HQ.out)
    have HFQ := Lib.hid hF
    clear hF
    generalize ((w1.setCell ⟨w.heap.size + 1, 1, none⟩ (.int .u64 a0)).setCell ⟨w.heap.size + 1, 3, none⟩ (.int .u64 a1)) = Wt at HQ ⊢
    obtain ⟨c0, c1, c2, c3, c4, c5, c6, c7, c8, c9, c10, c11, c12⟩ := HQ.out.f.ats
    obtain ⟨d0, d1, d2, d3, d4, d5, d6, d7, d8, d9, d10, d11, d12⟩ := HQ.out.r.ats
    have df := HQ.out.r.fz
    go_wp2
    have HE := Lib.hid (PW.ends (HQ.out))
    refine bodyPost_ret (v := .tuple #[.agg #[.int .u64 F.kind, .int .u64 F.id, .int .u64 F.off, .int .u64 F.max, .int .u64 F.code, .int .u64 F.seq, .int .u64 F.prior, .int .u64 F.delay, .bool F.fin, .string ⟨F.data.toArray⟩, .string ⟨F.cid.toArray⟩, .string ⟨F.token.toArray⟩, .slice F.set.a F.set.n F.set.c], .string ⟨r.toArray⟩, .bool true]) (by
      change Sem.run Tryd.prog (results _ _) (rstF w.heap.size F Wt) = Result.ok _ (rstF w.heap.size F Wt)
      obtain ⟨y0, y1, y2, y3, y4, y5, y6, y7, y8, y9, y10, y11, y12⟩ := HE.out.1.ats
      generalize (rstF w.heap.size F Wt) = X at y0 y1 y2 y3 y4 y5 y6 y7 y8 y9 y10 y11 y12 ⊢
      simp [results, Tryd.results22, go_sem, y0, y1, y2, y3, y4, y5, y6, y7, y8, y9, y10, y11, y12]) rfl ?_
    exact ⟨HE.out.2, ⟨none, 0, 0⟩, rfl, rd_none _, (fun x hx => by cases hx), by rw [← HFQ.out]; rfl⟩
end
section
set_option maxHeartbeats 8000000 in
theorem rparts_16 (l : List UInt8) (w : World) (hl : l.length ≤ 4000) : Calls Tryd.prog 22 #[.int .u64 16, .string ⟨l.toArray⟩] w (PtTo (if gk l ≤ l.length then some ({ frZ with kind := 16, max := (gN l : Nat) }, [], gR l) else none) w) := by
  have CN := Lib.hid (fun w => rnumber l w (by omega))
  have HQ0 := Lib.hid (PW.start 16 w)
  have CSH := Lib.hid (fun w => shape_16 w)
  clear hl
  obtain ⟨n, hn⟩ : ∃ n : Int, ((gN l : Nat) : Int) = n := ⟨_, rfl⟩
  obtain ⟨r, hr⟩ : ∃ r, gR l = r := ⟨_, rfl⟩
  rw [hn, hr] at CN ⊢
  clear hn hr
  by_cases h : gk l ≤ l.length
  · rw [decide_eq_true h] at CN
    rw [if_pos h]
    clear h
    go_enter Tryd.func22, Tryd.ntmps22
    go_wp2_with fail
    refine (CSH.out _).mono ?_
    rintro e w1 ⟨rfl, rfl⟩
    go_wp2_with fail
    refine (CN.out _).mono ?_
    rintro e w1 ⟨rfl, hb⟩
    have HQ1 := Lib.hid (HQ0.out.go hb)
    have HQ := Lib.hid (HQ1.out.put3 n)
    clear hb
    obtain ⟨c0, c1, c2, c3, c4, c5, c6, c7, c8, c9, c10, c11, c12⟩ := HQ1.out.f.ats
    obtain ⟨d0, d1, d2, d3, d4, d5, d6, d7, d8, d9, d10, d11, d12⟩ := HQ1.out.r.ats
    have cf := HQ1.out.f.fz
    have df := HQ1.out.r.fz
    have hlt := HQ1.out.f.lt
    go_upto_region 66 with (fail)
    clear c0 d0 c1 d1 c2 d2 c3 d3 c4 d4 c5 d5 c6 d6 c7 d7 c8 d8 c9 d9 c10 d10 c11 d11 c12 d12 cf df hlt
    obtain ⟨F, hF⟩ : ∃ F : Frm, ({ frZ with kind := 16, max := n } : Frm) = F := ⟨_, rfl⟩
    have HQ : Hid (PW w F (w1.setCell ⟨w.heap.size + 1, 3, none⟩ (.int .u64 n))) := Lib.hid (by rw [← hF]; exact HQ.out)
    have HFQ := Lib.hid hF
    clear hF
    generalize (w1.setCell ⟨w.heap.size + 1, 3, none⟩ (.int .u64 n)) = Wt at HQ ⊢
    obtain ⟨c0, c1, c2, c3, c4, c5, c6, c7, c8, c9, c10, c11, c12⟩ := HQ.out.f.ats
    obtain ⟨d0, d1, d2, d3, d4, d5, d6, d7, d8, d9, d10, d11, d12⟩ := HQ.out.r.ats
    have df := HQ.out.r.fz
    go_wp2
    have HE := Lib.hid (PW.ends (HQ.out))
    refine bodyPost_ret (v := .tuple #[.agg #[.int .u64 F.kind, .int .u64 F.id, .int .u64 F.off, .int .u64 F.max, .int .u64 F.code, .int .u64 F.seq, .int .u64 F.prior, .int .u64 F.delay, .bool F.fin, .string ⟨F.data.toArray⟩, .string ⟨F.cid.toArray⟩, .string ⟨F.token.toArray⟩, .slice F.set.a F.set.n F.set.c], .string ⟨r.toArray⟩, .bool true]) (by
      change Sem.run Tryd.prog (results _ _) (rstF w.heap.size F Wt) = Result.ok _ (rstF w.heap.size F Wt)
      obtain ⟨y0, y1, y2, y3, y4, y5, y6, y7, y8, y9, y10, y11, y12⟩ := HE.out.1.ats
      generalize (rstF w.heap.size F Wt) = X at y0 y1 y2 y3 y4 y5 y6 y7 y8 y9 y10 y11 y12 ⊢
      simp [results, Tryd.results22, go_sem, y0, y1, y2, y3, y4, y5, y6, y7, y8, y9, y10, y11, y12]) rfl ?_
    exact ⟨HE.out.2, ⟨none, 0, 0⟩, rfl, rd_none _, (fun x hx => by cases hx), by rw [← HFQ.out]; rfl⟩
  · rw [decide_eq_false h] at CN
    rw [if_neg h]
    clear h
    go_enter Tryd.func22, Tryd.ntmps22
    go_wp2_with fail
    refine (CSH.out _).mono ?_
    rintro e w1 ⟨rfl, rfl⟩
    go_wp2_with fail
    refine (CN.out _).mono ?_
    rintro e w1 ⟨rfl, hb⟩
    have HQ1 := Lib.hid (HQ0.out.go hb)
    have HQ := Lib.hid (HQ1.out.put3 n)
    clear hb
    obtain ⟨c0, c1, c2, c3, c4, c5, c6, c7, c8, c9, c10, c11, c12⟩ := HQ1.out.f.ats
    obtain ⟨d0, d1, d2, d3, d4, d5, d6, d7, d8, d9, d10, d11, d12⟩ := HQ1.out.r.ats
    have cf := HQ1.out.f.fz
    have df := HQ1.out.r.fz
    have hlt := HQ1.out.f.lt
    go_upto_region 66 with (fail)
    clear c0 d0 c1 d1 c2 d2 c3 d3 c4 d4 c5 d5 c6 d6 c7 d7 c8 d8 c9 d9 c10 d10 c11 d11 c12 d12 cf df hlt
    obtain ⟨F, hF⟩ : ∃ F : Frm, ({ frZ with kind := 16, max := n } : Frm) = F := ⟨_, rfl⟩
    have HQ : Hid (PW w F (w1.setCell ⟨w.heap.size + 1, 3, none⟩ (.int .u64 n))) := Lib.hid (by rw [← hF]; exact HQ.out)
    have HFQ := Lib.hid hF
    clear hF
    generalize (w1.setCell ⟨w.heap.size + 1, 3, none⟩ (.int .u64 n)) = Wt at HQ ⊢
    obtain ⟨c0, c1, c2, c3, c4, c5, c6, c7, c8, c9, c10, c11, c12⟩ := HQ.out.f.ats
    obtain ⟨d0, d1, d2, d3, d4, d5, d6, d7, d8, d9, d10, d11, d12⟩ := HQ.out.r.ats
    have df := HQ.out.r.fz
    go_wp2
    have HE := Lib.hid (PW.ends (HQ.out))
    refine bodyPost_ret (v := .tuple #[.agg #[.int .u64 F.kind, .int .u64 F.id, .int .u64 F.off, .int .u64 F.max, .int .u64 F.code, .int .u64 F.seq, .int .u64 F.prior, .int .u64 F.delay, .bool F.fin, .string ⟨F.data.toArray⟩, .string ⟨F.cid.toArray⟩, .string ⟨F.token.toArray⟩, .slice F.set.a F.set.n F.set.c], .string ⟨r.toArray⟩, .bool false]) (by
      change Sem.run Tryd.prog (results _ _) (rstF w.heap.size F Wt) = Result.ok _ (rstF w.heap.size F Wt)
      obtain ⟨y0, y1, y2, y3, y4, y5, y6, y7, y8, y9, y10, y11, y12⟩ := HE.out.1.ats
      generalize (rstF w.heap.size F Wt) = X at y0 y1 y2 y3 y4 y5 y6 y7 y8 y9 y10 y11 y12 ⊢
      simp [results, Tryd.results22, go_sem, y0, y1, y2, y3, y4, y5, y6, y7, y8, y9, y10, y11, y12]) rfl ?_
    exact ⟨HE.out.2, F, r, rfl⟩
set_option maxHeartbeats 8000000 in
theorem rparts_18 (l : List UInt8) (w : World) (hl : l.length ≤ 4000) : Calls Tryd.prog 22 #[.int .u64 18, .string ⟨l.toArray⟩] w (PtTo (if gk l ≤ l.length then some ({ frZ with kind := 18, max := (gN l : Nat) }, [], gR l) else none) w) := by
  have CN := Lib.hid (fun w => rnumber l w (by omega))
  have HQ0 := Lib.hid (PW.start 18 w)
  have CSH := Lib.hid (fun w => shape_18 w)
  clear hl
  obtain ⟨n, hn⟩ : ∃ n : Int, ((gN l : Nat) : Int) = n := ⟨_, rfl⟩
  obtain ⟨r, hr⟩ : ∃ r, gR l = r := ⟨_, rfl⟩
  rw [hn, hr] at CN ⊢
  clear hn hr
  by_cases h : gk l ≤ l.length
  · rw [decide_eq_true h] at CN
    rw [if_pos h]
    clear h
    go_enter Tryd.func22, Tryd.ntmps22
    go_wp2_with fail
    refine (CSH.out _).mono ?_
    rintro e w1 ⟨rfl, rfl⟩
    go_wp2_with fail
    refine (CN.out _).mono ?_
    rintro e w1 ⟨rfl, hb⟩
    have HQ1 := Lib.hid (HQ0.out.go hb)
    have HQ := Lib.hid (HQ1.out.put3 n)
    clear hb
    obtain ⟨c0, c1, c2, c3, c4, c5, c6, c7, c8, c9, c10, c11, c12⟩ := HQ1.out.f.ats
    obtain ⟨d0, d1, d2, d3, d4, d5, d6, d7, d8, d9, d10, d11, d12⟩ := HQ1.out.r.ats
    have cf := HQ1.out.f.fz
    have df := HQ1.out.r.fz
    have hlt := HQ1.out.f.lt
    go_upto_region 66 with (fail)
    clear c0 d0 c1 d1 c2 d2 c3 d3 c4 d4 c5 d5 c6 d6 c7 d7 c8 d8 c9 d9 c10 d10 c11 d11 c12 d12 cf df hlt
    obtain ⟨F, hF⟩ : ∃ F : Frm, ({ frZ with kind := 18, max := n } : Frm) = F := ⟨_, rfl⟩
    have HQ : Hid (PW w F (w1.setCell ⟨w.heap.size + 1, 3, none⟩ (.int .u64 n))) := Lib.hid (by rw [← hF]; exact HQ.out)
    have HFQ := Lib.hid hF
    clear hF
    generalize (w1.setCell ⟨w.heap.size + 1, 3, none⟩ (.int .u64 n)) = Wt at HQ ⊢
    obtain ⟨c0, c1, c2, c3, c4, c5, c6, c7, c8, c9, c10, c11, c12⟩ := HQ.out.f.ats
    obtain ⟨d0, d1, d2, d3, d4, d5, d6, d7, d8, d9, d10, d11, d12⟩ := HQ.out.r.ats
    have df := HQ.out.r.fz
    go_wp2
    have HE := Lib.hid (PW.ends (HQ.out))
    refine bodyPost_ret (v := .tuple #[.agg #[.int .u64 F.kind, .int .u64 F.id, .int .u64 F.off, .int .u64 F.max, .int .u64 F.code, .int .u64 F.seq, .int .u64 F.prior, .int .u64 F.delay, .bool F.fin, .string ⟨F.data.toArray⟩, .string ⟨F.cid.toArray⟩, .string ⟨F.token.toArray⟩, .slice F.set.a F.set.n F.set.c], .string ⟨r.toArray⟩, .bool true]) (by
      change Sem.run Tryd.prog (results _ _) (rstF w.heap.size F Wt) = Result.ok _ (rstF w.heap.size F Wt)
      obtain ⟨y0, y1, y2, y3, y4, y5, y6, y7, y8, y9, y10, y11, y12⟩ := HE.out.1.ats
      generalize (rstF w.heap.size F Wt) = X at y0 y1 y2 y3 y4 y5 y6 y7 y8 y9 y10 y11 y12 ⊢
      simp [results, Tryd.results22, go_sem, y0, y1, y2, y3, y4, y5, y6, y7, y8, y9, y10, y11, y12]) rfl ?_
    exact ⟨HE.out.2, ⟨none, 0, 0⟩, rfl, rd_none _, (fun x hx => by cases hx), by rw [← HFQ.out]; rfl⟩
  · rw [decide_eq_false h] at CN
    rw [if_neg h]
    clear h
    go_enter Tryd.func22, Tryd.ntmps22
    go_wp2_with fail
    refine (CSH.out _).mono ?_
    rintro e w1 ⟨rfl, rfl⟩
    go_wp2_with fail
    refine (CN.out _).mono ?_
    rintro e w1 ⟨rfl, hb⟩
    have HQ1 := Lib.hid (HQ0.out.go hb)
    have HQ := Lib.hid (HQ1.out.put3 n)
    clear hb
    obtain ⟨c0, c1, c2, c3, c4, c5, c6, c7, c8, c9, c10, c11, c12⟩ := HQ1.out.f.ats
    obtain ⟨d0, d1, d2, d3, d4, d5, d6, d7, d8, d9, d10, d11, d12⟩ := HQ1.out.r.ats
    have cf := HQ1.out.f.fz
    have df := HQ1.out.r.fz
    have hlt := HQ1.out.f.lt
    go_upto_region 66 with (fail)
    clear c0 d0 c1 d1 c2 d2 c3 d3 c4 d4 c5 d5 c6 d6 c7 d7 c8 d8 c9 d9 c10 d10 c11 d11 c12 d12 cf df hlt
    obtain ⟨F, hF⟩ : ∃ F : Frm, ({ frZ with kind := 18, max := n } : Frm) = F := ⟨_, rfl⟩
    have HQ : Hid (PW w F (w1.setCell ⟨w.heap.size + 1, 3, none⟩ (.int .u64 n))) := Lib.hid (by rw [← hF]; exact HQ.out)
    have HFQ := Lib.hid hF
    clear hF
    generalize (w1.setCell ⟨w.heap.size + 1, 3, none⟩ (.int .u64 n)) = Wt at HQ ⊢
    obtain ⟨c0, c1, c2, c3, c4, c5, c6, c7, c8, c9, c10, c11, c12⟩ := HQ.out.f.ats
    obtain ⟨d0, d1, d2, d3, d4, d5, d6, d7, d8, d9, d10, d11, d12⟩ := HQ.out.r.ats
    have df := HQ.out.r.fz
    go_wp2
    have HE := Lib.hid (PW.ends (HQ.out))
    refine bodyPost_ret (v := .tuple #[.agg #[.int .u64 F.kind, .int .u64 F.id, .int .u64 F.off, .int .u64 F.max, .int .u64 F.code, .int .u64 F.seq, .int .u64 F.prior, .int .u64 F.delay, .bool F.fin, .string ⟨F.data.toArray⟩, .string ⟨F.cid.toArray⟩, .string ⟨F.token.toArray⟩, .slice F.set.a F.set.n F.set.c], .string ⟨r.toArray⟩, .bool false]) (by
      change Sem.run Tryd.prog (results _ _) (rstF w.heap.size F Wt) = Result.ok _ (rstF w.heap.size F Wt)
      obtain ⟨y0, y1, y2, y3, y4, y5, y6, y7, y8, y9, y10, y11, y12⟩ := HE.out.1.ats
      generalize (rstF w.heap.size F Wt) = X at y0 y1 y2 y3 y4 y5 y6 y7 y8 y9 y10 y11 y12 ⊢
      simp [results, Tryd.results22, go_sem, y0, y1, y2, y3, y4, y5, y6, y7, y8, y9, y10, y11, y12]) rfl ?_
    exact ⟨HE.out.2, F, r, rfl⟩
set_option maxHeartbeats 8000000 in
theorem rparts_19 (l : List UInt8) (w : World) (hl : l.length ≤ 4000) : Calls Tryd.prog 22 #[.int .u64 19, .string ⟨l.toArray⟩] w (PtTo (if gk l ≤ l.length then some ({ frZ with kind := 19, max := (gN l : Nat) }, [], gR l) else none) w) := by
  have CN := Lib.hid (fun w => rnumber l w (by omega))
  have HQ0 := Lib.hid (PW.start 19 w)
  have CSH := Lib.hid (fun w => shape_19 w)
  clear hl
  obtain ⟨n, hn⟩ : ∃ n : Int, ((gN l : Nat) : Int) = n := ⟨_, rfl⟩
  obtain ⟨r, hr⟩ : ∃ r, gR l = r := ⟨_, rfl⟩
  rw [hn, hr] at CN ⊢
  clear hn hr
  by_cases h : gk l ≤ l.length
  · rw [decide_eq_true h] at CN
    rw [if_pos h]
    clear h
    go_enter Tryd.func22, Tryd.ntmps22
    go_wp2_with fail
    refine (CSH.out _).mono ?_
    rintro e w1 ⟨rfl, rfl⟩
    go_wp2_with fail
    refine (CN.out _).mono ?_
    rintro e w1 ⟨rfl, hb⟩
    have HQ1 := Lib.hid (HQ0.out.go hb)
    have HQ := Lib.hid (HQ1.out.put3 n)
    clear hb
    obtain ⟨c0, c1, c2, c3, c4, c5, c6, c7, c8, c9, c10, c11, c12⟩ := HQ1.out.f.ats
    obtain ⟨d0, d1, d2, d3, d4, d5, d6, d7, d8, d9, d10, d11, d12⟩ := HQ1.out.r.ats
    have cf := HQ1.out.f.fz
    have df := HQ1.out.r.fz
    have hlt := HQ1.out.f.lt
    go_upto_region 66 with (fail)
    clear c0 d0 c1 d1 c2 d2 c3 d3 c4 d4 c5 d5 c6 d6 c7 d7 c8 d8 c9 d9 c10 d10 c11 d11 c12 d12 cf df hlt
    obtain ⟨F, hF⟩ : ∃ F : Frm, ({ frZ with kind := 19, max := n } : Frm) = F := ⟨_, rfl⟩
    have HQ : Hid (PW w F (w1.setCell ⟨w.heap.size + 1, 3, none⟩ (.int .u64 n))) := Lib.hid (by rw [← hF]; exact HQ.out)
    have HFQ := Lib.hid hF
    clear hF
    generalize (w1.setCell ⟨w.heap.size + 1, 3, none⟩ (.int .u64 n)) = Wt at HQ ⊢
    obtain ⟨c0, c1, c2, c3, c4, c5, c6, c7, c8, c9, c10, c11, c12⟩ := HQ.out.f.ats
    obtain ⟨d0, d1, d2, d3, d4, d5, d6, d7, d8, d9, d10, d11, d12⟩ := HQ.out.r.ats
    have df := HQ.out.r.fz
    go_wp2
    have HE := Lib.hid (PW.ends (HQ.out))
    refine bodyPost_ret (v := .tuple #[.agg #[.int .u64 F.kind, .int .u64 F.id, .int .u64 F.off, .int .u64 F.max, .int .u64 F.code, .int .u64 F.seq, .int .u64 F.prior, .int .u64 F.delay, .bool F.fin, .string ⟨F.data.toArray⟩, .string ⟨F.cid.toArray⟩, .string ⟨F.token.toArray⟩, .slice F.set.a F.set.n F.set.c], .string ⟨r.toArray⟩, .bool true]) (by
      change Sem.run Tryd.prog (results _ _) (rstF w.heap.size F Wt) = Result.ok _ (rstF w.heap.size F Wt)
      obtain ⟨y0, y1, y2, y3, y4, y5, y6, y7, y8, y9, y10, y11, y12⟩ := HE.out.1.ats
      generalize (rstF w.heap.size F Wt) = X at y0 y1 y2 y3 y4 y5 y6 y7 y8 y9 y10 y11 y12 ⊢
      simp [results, Tryd.results22, go_sem, y0, y1, y2, y3, y4, y5, y6, y7, y8, y9, y10, y11, y12]) rfl ?_
    exact ⟨HE.out.2, ⟨none, 0, 0⟩, rfl, rd_none _, (fun x hx => by cases hx), by rw [← HFQ.out]; rfl⟩
  · rw [decide_eq_false h] at CN
    rw [if_neg h]
    clear h
    go_enter Tryd.func22, Tryd.ntmps22
    go_wp2_with fail
    refine (CSH.out _).mono ?_
    rintro e w1 ⟨rfl, rfl⟩
    go_wp2_with fail
    refine (CN.out _).mono ?_
    rintro e w1 ⟨rfl, hb⟩
    have HQ1 := Lib.hid (HQ0.out.go hb)
    have HQ := Lib.hid (HQ1.out.put3 n)
    clear hb
    obtain ⟨c0, c1, c2, c3, c4, c5, c6, c7, c8, c9, c10, c11, c12⟩ := HQ1.out.f.ats
    obtain ⟨d0, d1, d2, d3, d4, d5, d6, d7, d8, d9, d10, d11, d12⟩ := HQ1.out.r.ats
    have cf := HQ1.out.f.fz
    have df := HQ1.out.r.fz
    have hlt := HQ1.out.f.lt
    go_upto_region 66 with (fail)
    clear c0 d0 c1 d1 c2 d2 c3 d3 c4 d4 c5 d5 c6 d6 c7 d7 c8 d8 c9 d9 c10 d10 c11 d11 c12 d12 cf df hlt
    obtain ⟨F, hF⟩ : ∃ F : Frm, ({ frZ with kind := 19, max := n } : Frm) = F := ⟨_, rfl⟩
    have HQ : Hid (PW w F (w1.setCell ⟨w.heap.size + 1, 3, none⟩ (.int .u64 n))) := Lib.hid (by rw [← hF]; exact HQ.out)
    have HFQ := Lib.hid hF
    clear hF
    generalize (w1.setCell ⟨w.heap.size + 1, 3, none⟩ (.int .u64 n)) = Wt at HQ ⊢
    obtain ⟨c0, c1, c2, c3, c4, c5, c6, c7, c8, c9, c10, c11, c12⟩ := HQ.out.f.ats
    obtain ⟨d0, d1, d2, d3, d4, d5, d6, d7, d8, d9, d10, d11, d12⟩ := HQ.out.r.ats
    have df := HQ.out.r.fz
    go_wp2
    have HE := Lib.hid (PW.ends (HQ.out))
    refine bodyPost_ret (v := .tuple #[.agg #[.int .u64 F.kind, .int .u64 F.id, .int .u64 F.off, .int .u64 F.max, .int .u64 F.code, .int .u64 F.seq, .int .u64 F.prior, .int .u64 F.delay, .bool F.fin, .string ⟨F.data.toArray⟩, .string ⟨F.cid.toArray⟩, .string ⟨F.token.toArray⟩, .slice F.set.a F.set.n F.set.c], .string ⟨r.toArray⟩, .bool false]) (by
      change Sem.run Tryd.prog (results _ _) (rstF w.heap.size F Wt) = Result.ok _ (rstF w.heap.size F Wt)
      obtain ⟨y0, y1, y2, y3, y4, y5, y6, y7, y8, y9, y10, y11, y12⟩ := HE.out.1.ats
      generalize (rstF w.heap.size F Wt) = X at y0 y1 y2 y3 y4 y5 y6 y7 y8 y9 y10 y11 y12 ⊢
      simp [results, Tryd.results22, go_sem, y0, y1, y2, y3, y4, y5, y6, y7, y8, y9, y10, y11, y12]) rfl ?_
    exact ⟨HE.out.2, F, r, rfl⟩
set_option maxHeartbeats 8000000 in
theorem rparts_20 (l : List UInt8) (w : World) (hl : l.length ≤ 4000) : Calls Tryd.prog 22 #[.int .u64 20, .string ⟨l.toArray⟩] w (PtTo (if gk l ≤ l.length then some ({ frZ with kind := 20, max := (gN l : Nat) }, [], gR l) else none) w) := by
  have CN := Lib.hid (fun w => rnumber l w (by omega))
  have HQ0 := Lib.hid (PW.start 20 w)
  have CSH := Lib.hid (fun w => shape_20 w)
  clear hl
  obtain ⟨n, hn⟩ : ∃ n : Int, ((gN l : Nat) : Int) = n := ⟨_, rfl⟩
  obtain ⟨r, hr⟩ : ∃ r, gR l = r := ⟨_, rfl⟩
  rw [hn, hr] at CN ⊢
  clear hn hr
  by_cases h : gk l ≤ l.length
  · rw [decide_eq_true h] at CN
    rw [if_pos h]
    clear h
    go_enter Tryd.func22, Tryd.ntmps22
    go_wp2_with fail
    refine (CSH.out _).mono ?_
    rintro e w1 ⟨rfl, rfl⟩
    go_wp2_with fail
    refine (CN.out _).mono ?_
    rintro e w1 ⟨rfl, hb⟩
    have HQ1 := Lib.hid (HQ0.out.go hb)
    have HQ := Lib.hid (HQ1.out.put3 n)
    clear hb
    obtain ⟨c0, c1, c2, c3, c4, c5, c6, c7, c8, c9, c10, c11, c12⟩ := HQ1.out.f.ats
    obtain ⟨d0, d1, d2, d3, d4, d5, d6, d7, d8, d9, d10, d11, d12⟩ := HQ1.out.r.ats
    have cf := HQ1.out.f.fz
    have df := HQ1.out.r.fz
    have hlt := HQ1.out.f.lt
    go_upto_region 66 with (fail)
    clear c0 d0 c1 d1 c2 d2 c3 d3 c4 d4 c5 d5 c6 d6 c7 d7 c8 d8 c9 d9 c10 d10 c11 d11 c12 d12 cf df hlt
    obtain ⟨F, hF⟩ : ∃ F : Frm, ({ frZ with kind := 20, max := n } : Frm) = F := ⟨_, rfl⟩
    have HQ : Hid (PW w F (w1.setCell ⟨w.heap.size + 1, 3, none⟩ (.int .u64 n))) := Lib.hid (by rw [← hF]; exact HQ.out)
    have HFQ := Lib.hid hF
    clear hF
    generalize (w1.setCell ⟨w.heap.size + 1, 3, none⟩ (.int .u64 n)) = Wt at HQ ⊢
    obtain ⟨c0, c1, c2, c3, c4, c5, c6, c7, c8, c9, c10, c11, c12⟩ := HQ.out.f.ats
    obtain ⟨d0, d1, d2, d3, d4, d5, d6, d7, d8, d9, d10, d11, d12⟩ := HQ.out.r.ats
    have df := HQ.out.r.fz
    go_wp2
    have HE := Lib.hid (PW.ends (HQ.out))
    refine bodyPost_ret (v := .tuple #[.agg #[.int .u64 F.kind, .int .u64 F.id, .int .u64 F.off, .int .u64 F.max, .int .u64 F.code, .int .u64 F.seq, .int .u64 F.prior, .int .u64 F.delay, .bool F.fin, .string ⟨F.data.toArray⟩, .string ⟨F.cid.toArray⟩, .string ⟨F.token.toArray⟩, .slice F.set.a F.set.n F.set.c], .string ⟨r.toArray⟩, .bool true]) (by
      change Sem.run Tryd.prog (results _ _) (rstF w.heap.size F Wt) = Result.ok _ (rstF w.heap.size F Wt)
      obtain ⟨y0, y1, y2, y3, y4, y5, y6, y7, y8, y9, y10, y11, y12⟩ := HE.out.1.ats
      generalize (rstF w.heap.size F Wt) = X at y0 y1 y2 y3 y4 y5 y6 y7 y8 y9 y10 y11 y12 ⊢
      simp [results, Tryd.results22, go_sem, y0, y1, y2, y3, y4, y5, y6, y7, y8, y9, y10, y11, y12]) rfl ?_
    exact ⟨HE.out.2, ⟨none, 0, 0⟩, rfl, rd_none _, (fun x hx => by cases hx), by rw [← HFQ.out]; rfl⟩
  · rw [decide_eq_false h] at CN
    rw [if_neg h]
    clear h
    go_enter Tryd.func22, Tryd.ntmps22
    go_wp2_with fail
    refine (CSH.out _).mono ?_
    rintro e w1 ⟨rfl, rfl⟩
    go_wp2_with fail
    refine (CN.out _).mono ?_
    rintro e w1 ⟨rfl, hb⟩
    have HQ1 := Lib.hid (HQ0.out.go hb)
    have HQ := Lib.hid (HQ1.out.put3 n)
    clear hb
    obtain ⟨c0, c1, c2, c3, c4, c5, c6, c7, c8, c9, c10, c11, c12⟩ := HQ1.out.f.ats
    obtain ⟨d0, d1, d2, d3, d4, d5, d6, d7, d8, d9, d10, d11, d12⟩ := HQ1.out.r.ats
    have cf := HQ1.out.f.fz
    have df := HQ1.out.r.fz
    have hlt := HQ1.out.f.lt
    go_upto_region 66 with (fail)
    clear c0 d0 c1 d1 c2 d2 c3 d3 c4 d4 c5 d5 c6 d6 c7 d7 c8 d8 c9 d9 c10 d10 c11 d11 c12 d12 cf df hlt
    obtain ⟨F, hF⟩ : ∃ F : Frm, ({ frZ with kind := 20, max := n } : Frm) = F := ⟨_, rfl⟩
    have HQ : Hid (PW w F (w1.setCell ⟨w.heap.size + 1, 3, none⟩ (.int .u64 n))) := Lib.hid (by rw [← hF]; exact HQ.out)
    have HFQ := Lib.hid hF
    clear hF
    generalize (w1.setCell ⟨w.heap.size + 1, 3, none⟩ (.int .u64 n)) = Wt at HQ ⊢
    obtain ⟨c0, c1, c2, c3, c4, c5, c6, c7, c8, c9, c10, c11, c12⟩ := HQ.out.f.ats
    obtain ⟨d0, d1, d2, d3, d4, d5, d6, d7, d8, d9, d10, d11, d12⟩ := HQ.out.r.ats
    have df := HQ.out.r.fz
    go_wp2
    have HE := Lib.hid (PW.ends (HQ.out))
    refine bodyPost_ret (v := .tuple #[.agg #[.int .u64 F.kind, .int .u64 F.id, .int .u64 F.off, .int .u64 F.max, .int .u64 F.code, .int .u64 F.seq, .int .u64 F.prior, .int .u64 F.delay, .bool F.fin, .string ⟨F.data.toArray⟩, .string ⟨F.cid.toArray⟩, .string ⟨F.token.toArray⟩, .slice F.set.a F.set.n F.set.c], .string ⟨r.toArray⟩, .bool false]) (by
      change Sem.run Tryd.prog (results _ _) (rstF w.heap.size F Wt) = Result.ok _ (rstF w.heap.size F Wt)
      obtain ⟨y0, y1, y2, y3, y4, y5, y6, y7, y8, y9, y10, y11, y12⟩ := HE.out.1.ats
      generalize (rstF w.heap.size F Wt) = X at y0 y1 y2 y3 y4 y5 y6 y7 y8 y9 y10 y11 y12 ⊢
      simp [results, Tryd.results22, go_sem, y0, y1, y2, y3, y4, y5, y6, y7, y8, y9, y10, y11, y12]) rfl ?_
    exact ⟨HE.out.2, F, r, rfl⟩
set_option maxHeartbeats 8000000 in
theorem rparts_22 (l : List UInt8) (w : World) (hl : l.length ≤ 4000) : Calls Tryd.prog 22 #[.int .u64 22, .string ⟨l.toArray⟩] w (PtTo (if gk l ≤ l.length then some ({ frZ with kind := 22, max := (gN l : Nat) }, [], gR l) else none) w) := by
  have CN := Lib.hid (fun w => rnumber l w (by omega))
  have HQ0 := Lib.hid (PW.start 22 w)
  have CSH := Lib.hid (fun w => shape_22 w)
  clear hl
  obtain ⟨n, hn⟩ : ∃ n : Int, ((gN l : Nat) : Int) = n := ⟨_, rfl⟩
  obtain ⟨r, hr⟩ : ∃ r, gR l = r := ⟨_, rfl⟩
  rw [hn, hr] at CN ⊢
  clear hn hr
  by_cases h : gk l ≤ l.length
  · rw [decide_eq_true h] at CN
    rw [if_pos h]
    clear h
    go_enter Tryd.func22, Tryd.ntmps22
    go_wp2_with fail
    refine (CSH.out _).mono ?_
    rintro e w1 ⟨rfl, rfl⟩
    go_wp2_with fail
    refine (CN.out _).mono ?_
    rintro e w1 ⟨rfl, hb⟩
    have HQ1 := Lib.hid (HQ0.out.go hb)
    have HQ := Lib.hid (HQ1.out.put3 n)
    clear hb
    obtain ⟨c0, c1, c2, c3, c4, c5, c6, c7, c8, c9, c10, c11, c12⟩ := HQ1.out.f.ats
    obtain ⟨d0, d1, d2, d3, d4, d5, d6, d7, d8, d9, d10, d11, d12⟩ := HQ1.out.r.ats
    have cf := HQ1.out.f.fz
    have df := HQ1.out.r.fz
    have hlt := HQ1.out.f.lt
    go_upto_region 66 with (fail)
    clear c0 d0 c1 d1 c2 d2 c3 d3 c4 d4 c5 d5 c6 d6 c7 d7 c8 d8 c9 d9 c10 d10 c11 d11 c12 d12 cf df hlt
    obtain ⟨F, hF⟩ : ∃ F : Frm, ({ frZ with kind := 22, max := n } : Frm) = F := ⟨_, rfl⟩
    have HQ : Hid (PW w F (w1.setCell ⟨w.heap.size + 1, 3, none⟩ (.int .u64 n))) := Lib.hid (by rw [← hF]; exact HQ.out)
    have HFQ := Lib.hid hF
    clear hF
    generalize (w1.setCell ⟨w.heap.size + 1, 3, none⟩ (.int .u64 n)) = Wt at HQ ⊢
    obtain ⟨c0, c1, c2, c3, c4, c5, c6, c7, c8, c9, c10, c11, c12⟩ := HQ.out.f.ats
    obtain ⟨d0, d1, d2, d3, d4, d5, d6, d7, d8, d9, d10, d11, d12⟩ := HQ.out.r.ats
    have df := HQ.out.r.fz
    go_wp2
    have HE := Lib.hid (PW.ends (HQ.out))
    refine bodyPost_ret (v := .tuple #[.agg #[.int .u64 F.kind, .int .u64 F.id, .int .u64 F.off, .int .u64 F.max, .int .u64 F.code, .int .u64 F.seq, .int .u64 F.prior, .int .u64 F.delay, .bool F.fin, .string ⟨F.data.toArray⟩, .string ⟨F.cid.toArray⟩, .string ⟨F.token.toArray⟩, .slice F.set.a F.set.n F.set.c], .string ⟨r.toArray⟩, .bool true]) (by
      change Sem.run Tryd.prog (results _ _) (rstF w.heap.size F Wt) = Result.ok _ (rstF w.heap.size F Wt)
      obtain ⟨y0, y1, y2, y3, y4, y5, y6, y7, y8, y9, y10, y11, y12⟩ := HE.out.1.ats
      generalize (rstF w.heap.size F Wt) = X at y0 y1 y2 y3 y4 y5 y6 y7 y8 y9 y10 y11 y12 ⊢
      simp [results, Tryd.results22, go_sem, y0, y1, y2, y3, y4, y5, y6, y7, y8, y9, y10, y11, y12]) rfl ?_
    exact ⟨HE.out.2, ⟨none, 0, 0⟩, rfl, rd_none _, (fun x hx => by cases hx), by rw [← HFQ.out]; rfl⟩
  · rw [decide_eq_false h] at CN
    rw [if_neg h]
    clear h
    go_enter Tryd.func22, Tryd.ntmps22
    go_wp2_with fail
    refine (CSH.out _).mono ?_
    rintro e w1 ⟨rfl, rfl⟩
    go_wp2_with fail
    refine (CN.out _).mono ?_
    rintro e w1 ⟨rfl, hb⟩
    have HQ1 := Lib.hid (HQ0.out.go hb)
    have HQ := Lib.hid (HQ1.out.put3 n)
    clear hb
    obtain ⟨c0, c1, c2, c3, c4, c5, c6, c7, c8, c9, c10, c11, c12⟩ := HQ1.out.f.ats
    obtain ⟨d0, d1, d2, d3, d4, d5, d6, d7, d8, d9, d10, d11, d12⟩ := HQ1.out.r.ats
    have cf := HQ1.out.f.fz
    have df := HQ1.out.r.fz
    have hlt := HQ1.out.f.lt
    go_upto_region 66 with (fail)
    clear c0 d0 c1 d1 c2 d2 c3 d3 c4 d4 c5 d5 c6 d6 c7 d7 c8 d8 c9 d9 c10 d10 c11 d11 c12 d12 cf df hlt
    obtain ⟨F, hF⟩ : ∃ F : Frm, ({ frZ with kind := 22, max := n } : Frm) = F := ⟨_, rfl⟩
    have HQ : Hid (PW w F (w1.setCell ⟨w.heap.size + 1, 3, none⟩ (.int .u64 n))) := Lib.hid (by rw [← hF]; exact HQ.out)
    have HFQ := Lib.hid hF
    clear hF
    generalize (w1.setCell ⟨w.heap.size + 1, 3, none⟩ (.int .u64 n)) = Wt at HQ ⊢
    obtain ⟨c0, c1, c2, c3, c4, c5, c6, c7, c8, c9, c10, c11, c12⟩ := HQ.out.f.ats
    obtain ⟨d0, d1, d2, d3, d4, d5, d6, d7, d8, d9, d10, d11, d12⟩ := HQ.out.r.ats
    have df := HQ.out.r.fz
    go_wp2
    have HE := Lib.hid (PW.ends (HQ.out))
    refine bodyPost_ret (v := .tuple #[.agg #[.int .u64 F.kind, .int .u64 F.id, .int .u64 F.off, .int .u64 F.max, .int .u64 F.code, .int .u64 F.seq, .int .u64 F.prior, .int .u64 F.delay, .bool F.fin, .string ⟨F.data.toArray⟩, .string ⟨F.cid.toArray⟩, .string ⟨F.token.toArray⟩, .slice F.set.a F.set.n F.set.c], .string ⟨r.toArray⟩, .bool false]) (by
      change Sem.run Tryd.prog (results _ _) (rstF w.heap.size F Wt) = Result.ok _ (rstF w.heap.size F Wt)
      obtain ⟨y0, y1, y2, y3, y4, y5, y6, y7, y8, y9, y10, y11, y12⟩ := HE.out.1.ats
      generalize (rstF w.heap.size F Wt) = X at y0 y1 y2 y3 y4 y5 y6 y7 y8 y9 y10 y11 y12 ⊢
      simp [results, Tryd.results22, go_sem, y0, y1, y2, y3, y4, y5, y6, y7, y8, y9, y10, y11, y12]) rfl ?_
    exact ⟨HE.out.2, F, r, rfl⟩
set_option maxHeartbeats 8000000 in
theorem rparts_23 (l : List UInt8) (w : World) (hl : l.length ≤ 4000) : Calls Tryd.prog 22 #[.int .u64 23, .string ⟨l.toArray⟩] w (PtTo (if gk l ≤ l.length then some ({ frZ with kind := 23, max := (gN l : Nat) }, [], gR l) else none) w) := by
  have CN := Lib.hid (fun w => rnumber l w (by omega))
  have HQ0 := Lib.hid (PW.start 23 w)
  have CSH := Lib.hid (fun w => shape_23 w)
  clear hl
  obtain ⟨n, hn⟩ : ∃ n : Int, ((gN l : Nat) : Int) = n := ⟨_, rfl⟩
  obtain ⟨r, hr⟩ : ∃ r, gR l = r := ⟨_, rfl⟩
  rw [hn, hr] at CN ⊢
  clear hn hr
  by_cases h : gk l ≤ l.length
  · rw [decide_eq_true h] at CN
    rw [if_pos h]
    clear h
    go_enter Tryd.func22, Tryd.ntmps22
    go_wp2_with fail
    refine (CSH.out _).mono ?_
    rintro e w1 ⟨rfl, rfl⟩
    go_wp2_with fail
    refine (CN.out _).mono ?_
    rintro e w1 ⟨rfl, hb⟩
    have HQ1 := Lib.hid (HQ0.out.go hb)
    have HQ := Lib.hid (HQ1.out.put3 n)
    clear hb
    obtain ⟨c0, c1, c2, c3, c4, c5, c6, c7, c8, c9, c10, c11, c12⟩ := HQ1.out.f.ats
    obtain ⟨d0, d1, d2, d3, d4, d5, d6, d7, d8, d9, d10, d11, d12⟩ := HQ1.out.r.ats
    have cf := HQ1.out.f.fz
    have df := HQ1.out.r.fz
    have hlt := HQ1.out.f.lt
    go_upto_region 66 with (fail)
    clear c0 d0 c1 d1 c2 d2 c3 d3 c4 d4 c5 d5 c6 d6 c7 d7 c8 d8 c9 d9 c10 d10 c11 d11 c12 d12 cf df hlt
    obtain ⟨F, hF⟩ : ∃ F : Frm, ({ frZ with kind := 23, max := n } : Frm) = F := ⟨_, rfl⟩
    have HQ : Hid (PW w F (w1.setCell ⟨w.heap.size + 1, 3, none⟩ (.int .u64 n))) := Lib.hid (by rw [← hF]; exact HQ.out)
    have HFQ := Lib.hid hF
    clear hF
    generalize (w1.setCell ⟨w.heap.size + 1, 3, none⟩ (.int .u64 n)) = Wt at HQ ⊢
    obtain ⟨c0, c1, c2, c3, c4, c5, c6, c7, c8, c9, c10, c11, c12⟩ := HQ.out.f.ats
    obtain ⟨d0, d1, d2, d3, d4, d5, d6, d7, d8, d9, d10, d11, d12⟩ := HQ.out.r.ats
    have df := HQ.out.r.fz
    go_wp2
    have HE := Lib.hid (PW.ends (HQ.out))
    refine bodyPost_ret (v := .tuple #[.agg #[.int .u64 F.kind, .int .u64 F.id, .int .u64 F.off, .int .u64 F.max, .int .u64 F.code, .int .u64 F.seq, .int .u64 F.prior, .int .u64 F.delay, .bool F.fin, .string ⟨F.data.toArray⟩, .string ⟨F.cid.toArray⟩, .string ⟨F.token.toArray⟩, .slice F.set.a F.set.n F.set.c], .string ⟨r.toArray⟩, .bool true]) (by
      change Sem.run Tryd.prog (results _ _) (rstF w.heap.size F Wt) = Result.ok _ (rstF w.heap.size F Wt)
      obtain ⟨y0, y1, y2, y3, y4, y5, y6, y7, y8, y9, y10, y11, y12⟩ := HE.out.1.ats
      generalize (rstF w.heap.size F Wt) = X at y0 y1 y2 y3 y4 y5 y6 y7 y8 y9 y10 y11 y12 ⊢
      simp [results, Tryd.results22, go_sem, y0, y1, y2, y3, y4, y5, y6, y7, y8, y9, y10, y11, y12]) rfl ?_
    exact ⟨HE.out.2, ⟨none, 0, 0⟩, rfl, rd_none _, (fun x hx => by cases hx), by rw [← HFQ.out]; rfl⟩
  · rw [decide_eq_false h] at CN
    rw [if_neg h]
    clear h
    go_enter Tryd.func22, Tryd.ntmps22
    go_wp2_with fail
    refine (CSH.out _).mono ?_
    rintro e w1 ⟨rfl, rfl⟩
    go_wp2_with fail
    refine (CN.out _).mono ?_
    rintro e w1 ⟨rfl, hb⟩
    have HQ1 := Lib.hid (HQ0.out.go hb)
    have HQ := Lib.hid (HQ1.out.put3 n)
    clear hb
    obtain ⟨c0, c1, c2, c3, c4, c5, c6, c7, c8, c9, c10, c11, c12⟩ := HQ1.out.f.ats
    obtain ⟨d0, d1, d2, d3, d4, d5, d6, d7, d8, d9, d10, d11, d12⟩ := HQ1.out.r.ats
    have cf := HQ1.out.f.fz
    have df := HQ1.out.r.fz
    have hlt := HQ1.out.f.lt
    go_upto_region 66 with (fail)
    clear c0 d0 c1 d1 c2 d2 c3 d3 c4 d4 c5 d5 c6 d6 c7 d7 c8 d8 c9 d9 c10 d10 c11 d11 c12 d12 cf df hlt
    obtain ⟨F, hF⟩ : ∃ F : Frm, ({ frZ with kind := 23, max := n } : Frm) = F := ⟨_, rfl⟩
    have HQ : Hid (PW w F (w1.setCell ⟨w.heap.size + 1, 3, none⟩ (.int .u64 n))) := Lib.hid (by rw [← hF]; exact HQ.out)
    have HFQ := Lib.hid hF
    clear hF
    generalize (w1.setCell ⟨w.heap.size + 1, 3, none⟩ (.int .u64 n)) = Wt at HQ ⊢
    obtain ⟨c0, c1, c2, c3, c4, c5, c6, c7, c8, c9, c10, c11, c12⟩ := HQ.out.f.ats
    obtain ⟨d0, d1, d2, d3, d4, d5, d6, d7, d8, d9, d10, d11, d12⟩ := HQ.out.r.ats
    have df := HQ.out.r.fz
    go_wp2
    have HE := Lib.hid (PW.ends (HQ.out))
    refine bodyPost_ret (v := .tuple #[.agg #[.int .u64 F.kind, .int .u64 F.id, .int .u64 F.off, .int .u64 F.max, .int .u64 F.code, .int .u64 F.seq, .int .u64 F.prior, .int .u64 F.delay, .bool F.fin, .string ⟨F.data.toArray⟩, .string ⟨F.cid.toArray⟩, .string ⟨F.token.toArray⟩, .slice F.set.a F.set.n F.set.c], .string ⟨r.toArray⟩, .bool false]) (by
      change Sem.run Tryd.prog (results _ _) (rstF w.heap.size F Wt) = Result.ok _ (rstF w.heap.size F Wt)
      obtain ⟨y0, y1, y2, y3, y4, y5, y6, y7, y8, y9, y10, y11, y12⟩ := HE.out.1.ats
      generalize (rstF w.heap.size F Wt) = X at y0 y1 y2 y3 y4 y5 y6 y7 y8 y9 y10 y11 y12 ⊢
      simp [results, Tryd.results22, go_sem, y0, y1, y2, y3, y4, y5, y6, y7, y8, y9, y10, y11, y12]) rfl ?_
    exact ⟨HE.out.2, F, r, rfl⟩
set_option maxHeartbeats 8000000 in
theorem rparts_25 (l : List UInt8) (w : World) (hl : l.length ≤ 4000) : Calls Tryd.prog 22 #[.int .u64 25, .string ⟨l.toArray⟩] w (PtTo (if gk l ≤ l.length then some ({ frZ with kind := 25, seq := (gN l : Nat) }, [], gR l) else none) w) := by
  have CN := Lib.hid (fun w => rnumber l w (by omega))
  have HQ0 := Lib.hid (PW.start 25 w)
  have CSH := Lib.hid (fun w => shape_25 w)
  clear hl
  obtain ⟨n, hn⟩ : ∃ n : Int, ((gN l : Nat) : Int) = n := ⟨_, rfl⟩
  obtain ⟨r, hr⟩ : ∃ r, gR l = r := ⟨_, rfl⟩
  rw [hn, hr] at CN ⊢
  clear hn hr
  by_cases h : gk l ≤ l.length
  · rw [decide_eq_true h] at CN
    rw [if_pos h]
    clear h
    go_enter Tryd.func22, Tryd.ntmps22
    go_wp2_with fail
    refine (CSH.out _).mono ?_
    rintro e w1 ⟨rfl, rfl⟩
    go_wp2_with fail
    refine (CSH.out _).mono ?_
    rintro e w1 ⟨rfl, rfl⟩
    go_wp2_with fail
    refine (CN.out _).mono ?_
    rintro e w1 ⟨rfl, hb⟩
    have HQ1 := Lib.hid (HQ0.out.go hb)
    have HQ := Lib.hid (HQ1.out.put5 n)
    clear hb
    obtain ⟨c0, c1, c2, c3, c4, c5, c6, c7, c8, c9, c10, c11, c12⟩ := HQ1.out.f.ats
    obtain ⟨d0, d1, d2, d3, d4, d5, d6, d7, d8, d9, d10, d11, d12⟩ := HQ1.out.r.ats
    have cf := HQ1.out.f.fz
    have df := HQ1.out.r.fz
    have hlt := HQ1.out.f.lt
    go_upto_region 66 with (fail)
    clear c0 d0 c1 d1 c2 d2 c3 d3 c4 d4 c5 d5 c6 d6 c7 d7 c8 d8 c9 d9 c10 d10 c11 d11 c12 d12 cf df hlt
    obtain ⟨F, hF⟩ : ∃ F : Frm, ({ frZ with kind := 25, seq := n } : Frm) = F := ⟨_, rfl⟩
    have HQ : Hid (PW w F (w1.setCell ⟨w.heap.size + 1, 5, none⟩ (.int .u64 n))) := Lib.hid (by rw [← hF]; exact HQ.out)
    have HFQ := Lib.hid hF
    clear hF
    generalize (w1.setCell ⟨w.heap.size + 1, 5, none⟩ (.int .u64 n)) = Wt at HQ ⊢
    obtain ⟨c0, c1, c2, c3, c4, c5, c6, c7, c8, c9, c10, c11, c12⟩ := HQ.out.f.ats
    obtain ⟨d0, d1, d2, d3, d4, d5, d6, d7, d8, d9, d10, d11, d12⟩ := HQ.out.r.ats
    have df := HQ.out.r.fz
    go_wp2
    have HE := Lib.hid (PW.ends (HQ.out))
    refine bodyPost_ret (v := .tuple #[.agg #[.int .u64 F.kind, .int .u64 F.id, .int .u64 F.off, .int .u64 F.max, .int .u64 F.code, .int .u64 F.seq, .int .u64 F.prior, .int .u64 F.delay, .bool F.fin, .string ⟨F.data.toArray⟩, .string ⟨F.cid.toArray⟩, .string ⟨F.token.toArray⟩, .slice F.set.a F.set.n F.set.c], .string ⟨r.toArray⟩, .bool true]) (by
      change Sem.run Tryd.prog (results _ _) (rstF w.heap.size F Wt) = Result.ok _ (rstF w.heap.size F Wt)
      obtain ⟨y0, y1, y2, y3, y4, y5, y6, y7, y8, y9, y10, y11, y12⟩ := HE.out.1.ats
      generalize (rstF w.heap.size F Wt) = X at y0 y1 y2 y3 y4 y5 y6 y7 y8 y9 y10 y11 y12 ⊢
      simp [results, Tryd.results22, go_sem, y0, y1, y2, y3, y4, y5, y6, y7, y8, y9, y10, y11, y12]) rfl ?_
    exact ⟨HE.out.2, ⟨none, 0, 0⟩, rfl, rd_none _, (fun x hx => by cases hx), by rw [← HFQ.out]; rfl⟩
  · rw [decide_eq_false h] at CN
    rw [if_neg h]
    clear h
    go_enter Tryd.func22, Tryd.ntmps22
    go_wp2_with fail
    refine (CSH.out _).mono ?_
    rintro e w1 ⟨rfl, rfl⟩
    go_wp2_with fail
    refine (CSH.out _).mono ?_
    rintro e w1 ⟨rfl, rfl⟩
    go_wp2_with fail
    refine (CN.out _).mono ?_
    rintro e w1 ⟨rfl, hb⟩
    have HQ1 := Lib.hid (HQ0.out.go hb)
    have HQ := Lib.hid (HQ1.out.put5 n)
    clear hb
    obtain ⟨c0, c1, c2, c3, c4, c5, c6, c7, c8, c9, c10, c11, c12⟩ := HQ1.out.f.ats
    obtain ⟨d0, d1, d2, d3, d4, d5, d6, d7, d8, d9, d10, d11, d12⟩ := HQ1.out.r.ats
    have cf := HQ1.out.f.fz
    have df := HQ1.out.r.fz
    have hlt := HQ1.out.f.lt
    go_upto_region 66 with (fail)
    clear c0 d0 c1 d1 c2 d2 c3 d3 c4 d4 c5 d5 c6 d6 c7 d7 c8 d8 c9 d9 c10 d10 c11 d11 c12 d12 cf df hlt
    obtain ⟨F, hF⟩ : ∃ F : Frm, ({ frZ with kind := 25, seq := n } : Frm) = F := ⟨_, rfl⟩
    have HQ : Hid (PW w F (w1.setCell ⟨w.heap.size + 1, 5, none⟩ (.int .u64 n))) := Lib.hid (by rw [← hF]; exact HQ.out)
    have HFQ := Lib.hid hF
    clear hF
    generalize (w1.setCell ⟨w.heap.size + 1, 5, none⟩ (.int .u64 n)) = Wt at HQ ⊢
    obtain ⟨c0, c1, c2, c3, c4, c5, c6, c7, c8, c9, c10, c11, c12⟩ := HQ.out.f.ats
    obtain ⟨d0, d1, d2, d3, d4, d5, d6, d7, d8, d9, d10, d11, d12⟩ := HQ.out.r.ats
    have df := HQ.out.r.fz
    go_wp2
    have HE := Lib.hid (PW.ends (HQ.out))
    refine bodyPost_ret (v := .tuple #[.agg #[.int .u64 F.kind, .int .u64 F.id, .int .u64 F.off, .int .u64 F.max, .int .u64 F.code, .int .u64 F.seq, .int .u64 F.prior, .int .u64 F.delay, .bool F.fin, .string ⟨F.data.toArray⟩, .string ⟨F.cid.toArray⟩, .string ⟨F.token.toArray⟩, .slice F.set.a F.set.n F.set.c], .string ⟨r.toArray⟩, .bool false]) (by
      change Sem.run Tryd.prog (results _ _) (rstF w.heap.size F Wt) = Result.ok _ (rstF w.heap.size F Wt)
      obtain ⟨y0, y1, y2, y3, y4, y5, y6, y7, y8, y9, y10, y11, y12⟩ := HE.out.1.ats
      generalize (rstF w.heap.size F Wt) = X at y0 y1 y2 y3 y4 y5 y6 y7 y8 y9 y10 y11 y12 ⊢
      simp [results, Tryd.results22, go_sem, y0, y1, y2, y3, y4, y5, y6, y7, y8, y9, y10, y11, y12]) rfl ?_
    exact ⟨HE.out.2, F, r, rfl⟩
end
section
set_option maxHeartbeats 8000000 in
theorem rparts_6 (l : List UInt8) (w : World) (hl : l.length ≤ 4000) : Calls Tryd.prog 22 #[.int .u64 6, .string ⟨l.toArray⟩] w (PtTo (if gk l ≤ l.length then (match lngN (gR l) with | some (t, q) => some ({ frZ with kind := 6, off := (gN l : Nat), data := t }, [], q) | none => none) else none) w) := by
  have CN := Lib.hid (fun w => rnumber l w (by omega))
  have CL := Lib.hid (fun w => rlong (gR l) w (Nat.le_trans (gR_le l) (by omega)))
  have HQ0 := Lib.hid (PW.start 6 w)
  clear hl
  obtain ⟨n, hn⟩ : ∃ n : Int, ((gN l : Nat) : Int) = n := ⟨_, rfl⟩
  obtain ⟨r, hr⟩ : ∃ r, gR l = r := ⟨_, rfl⟩
  rw [hn, hr] at CN
  rw [hr] at CL
  rw [hn, hr]
  clear hn hr
  by_cases h : gk l ≤ l.length
  · rw [decide_eq_true h] at CN
    rw [if_pos h]
    clear h
    match hg : lngN r with
    | none =>
      rw [hg] at CL
      clear hg
      go_enter Tryd.func22, Tryd.ntmps22
      go_wp2_with fail
      refine (CN.out _).mono ?_
      rintro e w1 ⟨rfl, hb⟩
      have HQ1 := Lib.hid (HQ0.out.go hb)
      have HQ := Lib.hid (HQ1.out.put2 n)
      clear hb
      obtain ⟨c0, c1, c2, c3, c4, c5, c6, c7, c8, c9, c10, c11, c12⟩ := HQ1.out.f.ats
      obtain ⟨d0, d1, d2, d3, d4, d5, d6, d7, d8, d9, d10, d11, d12⟩ := HQ1.out.r.ats
      have cf := HQ1.out.f.fz
      have df := HQ1.out.r.fz
      have hlt := HQ1.out.f.lt
      go_wp2_with fail
      refine (CL.out _).mono ?_
      rintro e w2 ⟨hb, rfl⟩
      have HQ2 := Lib.hid (HQ.out.go hb)
      clear hb c0 d0 c1 d1 c2 d2 c3 d3 c4 d4 c5 d5 c6 d6 c7 d7 c8 d8 c9 d9 c10 d10 c11 d11 c12 d12 cf df hlt HQ
      obtain ⟨F1, hF1⟩ : ∃ F : Frm, ({ frZ with kind := 6, off := n } : Frm) = F := ⟨_, rfl⟩
      have HQ3 : Hid (PW w F1 w2) := Lib.hid (by rw [← hF1]; exact HQ2.out)
      have HF1 := Lib.hid hF1
      clear hF1 HQ2
      have HQ : Hid (PW w { F1 with data := [] } (w2.setCell ⟨w.heap.size + 1, 9, none⟩ (.string ⟨#[]⟩))) := Lib.hid (HQ3.out.put9 [])
      obtain ⟨c0, c1, c2, c3, c4, c5, c6, c7, c8, c9, c10, c11, c12⟩ := HQ3.out.f.ats
      obtain ⟨d0, d1, d2, d3, d4, d5, d6, d7, d8, d9, d10, d11, d12⟩ := HQ3.out.r.ats
      have cf := HQ3.out.f.fz
      have df := HQ3.out.r.fz
      have hlt := HQ3.out.f.lt
      go_upto_region 66 with (fail)
      clear c0 d0 c1 d1 c2 d2 c3 d3 c4 d4 c5 d5 c6 d6 c7 d7 c8 d8 c9 d9 c10 d10 c11 d11 c12 d12 cf df hlt
      obtain ⟨F, hF⟩ : ∃ F : Frm, ({ F1 with data := [] } : Frm) = F := ⟨_, rfl⟩
      have HQ : Hid (PW w F (w2.setCell ⟨w.heap.size + 1, 9, none⟩ (.string ⟨#[]⟩))) := Lib.hid (by rw [← hF]; exact HQ.out)
      have HFQ := Lib.hid hF
      clear hF
      generalize (w2.setCell ⟨w.heap.size + 1, 9, none⟩ (.string ⟨#[]⟩)) = Wt at HQ ⊢
      obtain ⟨c0, c1, c2, c3, c4, c5, c6, c7, c8, c9, c10, c11, c12⟩ := HQ.out.f.ats
      obtain ⟨d0, d1, d2, d3, d4, d5, d6, d7, d8, d9, d10, d11, d12⟩ := HQ.out.r.ats
      have df := HQ.out.r.fz
      go_wp2
      have HE := Lib.hid (PW.ends (HQ.out))
      refine bodyPost_ret (v := .tuple #[.agg #[.int .u64 F.kind, .int .u64 F.id, .int .u64 F.off, .int .u64 F.max, .int .u64 F.code, .int .u64 F.seq, .int .u64 F.prior, .int .u64 F.delay, .bool F.fin, .string ⟨F.data.toArray⟩, .string ⟨F.cid.toArray⟩, .string ⟨F.token.toArray⟩, .slice F.set.a F.set.n F.set.c], .string ⟨([] : List UInt8).toArray⟩, .bool false]) (by
        change Sem.run Tryd.prog (results _ _) (rstF w.heap.size F Wt) = Result.ok _ (rstF w.heap.size F Wt)
        obtain ⟨y0, y1, y2, y3, y4, y5, y6, y7, y8, y9, y10, y11, y12⟩ := HE.out.1.ats
        generalize (rstF w.heap.size F Wt) = X at y0 y1 y2 y3 y4 y5 y6 y7 y8 y9 y10 y11 y12 ⊢
        simp [results, Tryd.results22, go_sem, y0, y1, y2, y3, y4, y5, y6, y7, y8, y9, y10, y11, y12]) rfl ?_
      exact ⟨HE.out.2, F, [], rfl⟩
    | some (t, q) =>
      rw [hg] at CL
      clear hg
      go_enter Tryd.func22, Tryd.ntmps22
      go_wp2_with fail
      refine (CN.out _).mono ?_
      rintro e w1 ⟨rfl, hb⟩
      have HQ1 := Lib.hid (HQ0.out.go hb)
      have HQ := Lib.hid (HQ1.out.put2 n)
      clear hb
      obtain ⟨c0, c1, c2, c3, c4, c5, c6, c7, c8, c9, c10, c11, c12⟩ := HQ1.out.f.ats
      obtain ⟨d0, d1, d2, d3, d4, d5, d6, d7, d8, d9, d10, d11, d12⟩ := HQ1.out.r.ats
      have cf := HQ1.out.f.fz
      have df := HQ1.out.r.fz
      have hlt := HQ1.out.f.lt
      go_wp2_with fail
      refine (CL.out _).mono ?_
      rintro e w2 ⟨hb, rfl⟩
      have HQ2 := Lib.hid (HQ.out.go hb)
      clear hb c0 d0 c1 d1 c2 d2 c3 d3 c4 d4 c5 d5 c6 d6 c7 d7 c8 d8 c9 d9 c10 d10 c11 d11 c12 d12 cf df hlt HQ
      obtain ⟨F1, hF1⟩ : ∃ F : Frm, ({ frZ with kind := 6, off := n } : Frm) = F := ⟨_, rfl⟩
      have HQ3 : Hid (PW w F1 w2) := Lib.hid (by rw [← hF1]; exact HQ2.out)
      have HF1 := Lib.hid hF1
      clear hF1 HQ2
      have HQ : Hid (PW w { F1 with data := t } (w2.setCell ⟨w.heap.size + 1, 9, none⟩ (.string ⟨t.toArray⟩))) := Lib.hid (HQ3.out.put9 t)
      obtain ⟨c0, c1, c2, c3, c4, c5, c6, c7, c8, c9, c10, c11, c12⟩ := HQ3.out.f.ats
      obtain ⟨d0, d1, d2, d3, d4, d5, d6, d7, d8, d9, d10, d11, d12⟩ := HQ3.out.r.ats
      have cf := HQ3.out.f.fz
      have df := HQ3.out.r.fz
      have hlt := HQ3.out.f.lt
      go_upto_region 66 with (fail)
      clear c0 d0 c1 d1 c2 d2 c3 d3 c4 d4 c5 d5 c6 d6 c7 d7 c8 d8 c9 d9 c10 d10 c11 d11 c12 d12 cf df hlt
      obtain ⟨F, hF⟩ : ∃ F : Frm, ({ F1 with data := t } : Frm) = F := ⟨_, rfl⟩
      have HQ : Hid (PW w F (w2.setCell ⟨w.heap.size + 1, 9, none⟩ (.string ⟨t.toArray⟩))) := Lib.hid (by rw [← hF]; exact HQ.out)
      have HFQ := Lib.hid hF
      clear hF
      generalize (w2.setCell ⟨w.heap.size + 1, 9, none⟩ (.string ⟨t.toArray⟩)) = Wt at HQ ⊢
      obtain ⟨c0, c1, c2, c3, c4, c5, c6, c7, c8, c9, c10, c11, c12⟩ := HQ.out.f.ats
      obtain ⟨d0, d1, d2, d3, d4, d5, d6, d7, d8, d9, d10, d11, d12⟩ := HQ.out.r.ats
      have df := HQ.out.r.fz
      go_wp2
      have HE := Lib.hid (PW.ends (HQ.out))
      refine bodyPost_ret (v := .tuple #[.agg #[.int .u64 F.kind, .int .u64 F.id, .int .u64 F.off, .int .u64 F.max, .int .u64 F.code, .int .u64 F.seq, .int .u64 F.prior, .int .u64 F.delay, .bool F.fin, .string ⟨F.data.toArray⟩, .string ⟨F.cid.toArray⟩, .string ⟨F.token.toArray⟩, .slice F.set.a F.set.n F.set.c], .string ⟨q.toArray⟩, .bool true]) (by
        change Sem.run Tryd.prog (results _ _) (rstF w.heap.size F Wt) = Result.ok _ (rstF w.heap.size F Wt)
        obtain ⟨y0, y1, y2, y3, y4, y5, y6, y7, y8, y9, y10, y11, y12⟩ := HE.out.1.ats
        generalize (rstF w.heap.size F Wt) = X at y0 y1 y2 y3 y4 y5 y6 y7 y8 y9 y10 y11 y12 ⊢
        simp [results, Tryd.results22, go_sem, y0, y1, y2, y3, y4, y5, y6, y7, y8, y9, y10, y11, y12]) rfl ?_
      exact ⟨HE.out.2, ⟨none, 0, 0⟩, rfl, rd_none _, (fun x hx => by cases hx), by rw [← HFQ.out, ← HF1.out]; rfl⟩
  · rw [decide_eq_false h] at CN
    rw [if_neg h]
    clear h CL
    go_enter Tryd.func22, Tryd.ntmps22
    go_wp2_with fail
    refine (CN.out _).mono ?_
    rintro e w1 ⟨rfl, hb⟩
    have HQ1 := Lib.hid (HQ0.out.go hb)
    have HQ := Lib.hid (HQ1.out.put2 n)
    clear hb
    obtain ⟨c0, c1, c2, c3, c4, c5, c6, c7, c8, c9, c10, c11, c12⟩ := HQ1.out.f.ats
    obtain ⟨d0, d1, d2, d3, d4, d5, d6, d7, d8, d9, d10, d11, d12⟩ := HQ1.out.r.ats
    have cf := HQ1.out.f.fz
    have df := HQ1.out.r.fz
    have hlt := HQ1.out.f.lt
    go_upto_region 66 with (fail)
    clear c0 d0 c1 d1 c2 d2 c3 d3 c4 d4 c5 d5 c6 d6 c7 d7 c8 d8 c9 d9 c10 d10 c11 d11 c12 d12 cf df hlt
    obtain ⟨F, hF⟩ : ∃ F : Frm, ({ frZ with kind := 6, off := n } : Frm) = F := ⟨_, rfl⟩
    have HQ : Hid (PW w F (w1.setCell ⟨w.heap.size + 1, 2, none⟩ (.int .u64 n))) := Lib.hid (by rw [← hF]; exact HQ.out)
    have HFQ := Lib.hid hF
    clear hF
    generalize (w1.setCell ⟨w.heap.size + 1, 2, none⟩ (.int .u64 n)) = Wt at HQ ⊢
    obtain ⟨c0, c1, c2, c3, c4, c5, c6, c7, c8, c9, c10, c11, c12⟩ := HQ.out.f.ats
    obtain ⟨d0, d1, d2, d3, d4, d5, d6, d7, d8, d9, d10, d11, d12⟩ := HQ.out.r.ats
    have df := HQ.out.r.fz
    go_wp2
    have HE := Lib.hid (PW.ends (HQ.out))
    refine bodyPost_ret (v := .tuple #[.agg #[.int .u64 F.kind, .int .u64 F.id, .int .u64 F.off, .int .u64 F.max, .int .u64 F.code, .int .u64 F.seq, .int .u64 F.prior, .int .u64 F.delay, .bool F.fin, .string ⟨F.data.toArray⟩, .string ⟨F.cid.toArray⟩, .string ⟨F.token.toArray⟩, .slice F.set.a F.set.n F.set.c], .string ⟨r.toArray⟩, .bool false]) (by
      change Sem.run Tryd.prog (results _ _) (rstF w.heap.size F Wt) = Result.ok _ (rstF w.heap.size F Wt)
      obtain ⟨y0, y1, y2, y3, y4, y5, y6, y7, y8, y9, y10, y11, y12⟩ := HE.out.1.ats
      generalize (rstF w.heap.size F Wt) = X at y0 y1 y2 y3 y4 y5 y6 y7 y8 y9 y10 y11 y12 ⊢
      simp [results, Tryd.results22, go_sem, y0, y1, y2, y3, y4, y5, y6, y7, y8, y9, y10, y11, y12]) rfl ?_
    exact ⟨HE.out.2, F, r, rfl⟩
set_option maxHeartbeats 8000000 in
theorem rparts_29 (l : List UInt8) (w : World) (hl : l.length ≤ 4000) : Calls Tryd.prog 22 #[.int .u64 29, .string ⟨l.toArray⟩] w (PtTo (if gk l ≤ l.length then (match lngN (gR l) with | some (t, q) => some ({ frZ with kind := 29, code := (gN l : Nat), data := t }, [], q) | none => none) else none) w) := by
  have CN := Lib.hid (fun w => rnumber l w (by omega))
  have CL := Lib.hid (fun w => rlong (gR l) w (Nat.le_trans (gR_le l) (by omega)))
  have HQ0 := Lib.hid (PW.start 29 w)
  have CSH := Lib.hid (fun w => shape_29 w)
  clear hl
  obtain ⟨n, hn⟩ : ∃ n : Int, ((gN l : Nat) : Int) = n := ⟨_, rfl⟩
  obtain ⟨r, hr⟩ : ∃ r, gR l = r := ⟨_, rfl⟩
  rw [hn, hr] at CN
  rw [hr] at CL
  rw [hn, hr]
  clear hn hr
  by_cases h : gk l ≤ l.length
  · rw [decide_eq_true h] at CN
    rw [if_pos h]
    clear h
    match hg : lngN r with
    | none =>
      rw [hg] at CL
      clear hg
      go_enter Tryd.func22, Tryd.ntmps22
      go_wp2_with fail
      refine (CSH.out _).mono ?_
      rintro e w1 ⟨rfl, rfl⟩
      go_wp2_with fail
      refine (CSH.out _).mono ?_
      rintro e w1 ⟨rfl, rfl⟩
      go_wp2_with fail
      refine (CN.out _).mono ?_
      rintro e w1 ⟨rfl, hb⟩
      have HQ1 := Lib.hid (HQ0.out.go hb)
      have HQ := Lib.hid (HQ1.out.put4 n)
      clear hb
      obtain ⟨c0, c1, c2, c3, c4, c5, c6, c7, c8, c9, c10, c11, c12⟩ := HQ1.out.f.ats
      obtain ⟨d0, d1, d2, d3, d4, d5, d6, d7, d8, d9, d10, d11, d12⟩ := HQ1.out.r.ats
      have cf := HQ1.out.f.fz
      have df := HQ1.out.r.fz
      have hlt := HQ1.out.f.lt
      go_wp2_with fail
      refine (CL.out _).mono ?_
      rintro e w2 ⟨hb, rfl⟩
      have HQ2 := Lib.hid (HQ.out.go hb)
      clear hb c0 d0 c1 d1 c2 d2 c3 d3 c4 d4 c5 d5 c6 d6 c7 d7 c8 d8 c9 d9 c10 d10 c11 d11 c12 d12 cf df hlt HQ
      obtain ⟨F1, hF1⟩ : ∃ F : Frm, ({ frZ with kind := 29, code := n } : Frm) = F := ⟨_, rfl⟩
      have HQ3 : Hid (PW w F1 w2) := Lib.hid (by rw [← hF1]; exact HQ2.out)
      have HF1 := Lib.hid hF1
      clear hF1 HQ2
      have HQ : Hid (PW w { F1 with data := [] } (w2.setCell ⟨w.heap.size + 1, 9, none⟩ (.string ⟨#[]⟩))) := Lib.hid (HQ3.out.put9 [])
      obtain ⟨c0, c1, c2, c3, c4, c5, c6, c7, c8, c9, c10, c11, c12⟩ := HQ3.out.f.ats
      obtain ⟨d0, d1, d2, d3, d4, d5, d6, d7, d8, d9, d10, d11, d12⟩ := HQ3.out.r.ats
      have cf := HQ3.out.f.fz
      have df := HQ3.out.r.fz
      have hlt := HQ3.out.f.lt
      go_upto_region 66 with (fail)
      clear c0 d0 c1 d1 c2 d2 c3 d3 c4 d4 c5 d5 c6 d6 c7 d7 c8 d8 c9 d9 c10 d10 c11 d11 c12 d12 cf df hlt
      obtain ⟨F, hF⟩ : ∃ F : Frm, ({ F1 with data := [] } : Frm) = F := ⟨_, rfl⟩
      have HQ : Hid (PW w F (w2.setCell ⟨w.heap.size + 1, 9, none⟩ (.string ⟨#[]⟩))) := Lib.hid (by rw [← hF]; exact HQ.out)
      have HFQ := Lib.hid hF
      clear hF
      generalize (w2.setCell ⟨w.heap.size + 1, 9, none⟩ (.string ⟨#[]⟩)) = Wt at HQ ⊢
      obtain ⟨c0, c1, c2, c3, c4, c5, c6, c7, c8, c9, c10, c11, c12⟩ := HQ.out.f.ats
      obtain ⟨d0, d1, d2, d3, d4, d5, d6, d7, d8, d9, d10, d11, d12⟩ := HQ.out.r.ats
      have df := HQ.out.r.fz
      go_wp2
      have HE := Lib.hid (PW.ends (HQ.out))
      refine bodyPost_ret (v := .tuple #[.agg #[.int .u64 F.kind, .int .u64 F.id, .int .u64 F.off, .int .u64 F.max, .int .u64 F.code, .int .u64 F.seq, .int .u64 F.prior, .int .u64 F.delay, .bool F.fin, .string ⟨F.data.toArray⟩, .string ⟨F.cid.toArray⟩, .string ⟨F.token.toArray⟩, .slice F.set.a F.set.n F.set.c], .string ⟨([] : List UInt8).toArray⟩, .bool false]) (by
        change Sem.run Tryd.prog (results _ _) (rstF w.heap.size F Wt) = Result.ok _ (rstF w.heap.size F Wt)
        obtain ⟨y0, y1, y2, y3, y4, y5, y6, y7, y8, y9, y10, y11, y12⟩ := HE.out.1.ats
        generalize (rstF w.heap.size F Wt) = X at y0 y1 y2 y3 y4 y5 y6 y7 y8 y9 y10 y11 y12 ⊢
        simp [results, Tryd.results22, go_sem, y0, y1, y2, y3, y4, y5, y6, y7, y8, y9, y10, y11, y12]) rfl ?_
      exact ⟨HE.out.2, F, [], rfl⟩
    | some (t, q) =>
      rw [hg] at CL
      clear hg
      go_enter Tryd.func22, Tryd.ntmps22
      go_wp2_with fail
      refine (CSH.out _).mono ?_
      rintro e w1 ⟨rfl, rfl⟩
      go_wp2_with fail
      refine (CSH.out _).mono ?_
      rintro e w1 ⟨rfl, rfl⟩
      go_wp2_with fail
      refine (CN.out _).mono ?_
      rintro e w1 ⟨rfl, hb⟩
      have HQ1 := Lib.hid (HQ0.out.go hb)
      have HQ := Lib.hid (HQ1.out.put4 n)
      clear hb
      obtain ⟨c0, c1, c2, c3, c4, c5, c6, c7, c8, c9, c10, c11, c12⟩ := HQ1.out.f.ats
      obtain ⟨d0, d1, d2, d3, d4, d5, d6, d7, d8, d9, d10, d11, d12⟩ := HQ1.out.r.ats
      have cf := HQ1.out.f.fz
      have df := HQ1.out.r.fz
      have hlt := HQ1.out.f.lt
      go_wp2_with fail
      refine (CL.out _).mono ?_
      rintro e w2 ⟨hb, rfl⟩
      have HQ2 := Lib.hid (HQ.out.go hb)
      clear hb c0 d0 c1 d1 c2 d2 c3 d3 c4 d4 c5 d5 c6 d6 c7 d7 c8 d8 c9 d9 c10 d10 c11 d11 c12 d12 cf df hlt HQ
      obtain ⟨F1, hF1⟩ : ∃ F : Frm, ({ frZ with kind := 29, code := n } : Frm) = F := ⟨_, rfl⟩
      have HQ3 : Hid (PW w F1 w2) := Lib.hid (by rw [← hF1]; exact HQ2.out)
      have HF1 := Lib.hid hF1
      clear hF1 HQ2
      have HQ : Hid (PW w { F1 with data := t } (w2.setCell ⟨w.heap.size + 1, 9, none⟩ (.string ⟨t.toArray⟩))) := Lib.hid (HQ3.out.put9 t)
      obtain ⟨c0, c1, c2, c3, c4, c5, c6, c7, c8, c9, c10, c11, c12⟩ := HQ3.out.f.ats
      obtain ⟨d0, d1, d2, d3, d4, d5, d6, d7, d8, d9, d10, d11, d12⟩ := HQ3.out.r.ats
      have cf := HQ3.out.f.fz
      have df := HQ3.out.r.fz
      have hlt := HQ3.out.f.lt
      go_upto_region 66 with (fail)
      clear c0 d0 c1 d1 c2 d2 c3 d3 c4 d4 c5 d5 c6 d6 c7 d7 c8 d8 c9 d9 c10 d10 c11 d11 c12 d12 cf df hlt
      obtain ⟨F, hF⟩ : ∃ F : Frm, ({ F1 with data := t } : Frm) = F := ⟨_, rfl⟩
      have HQ : Hid (PW w F (w2.setCell ⟨w.heap.size + 1, 9, none⟩ (.string ⟨t.toArray⟩))) := Lib.hid (by rw [← hF]; exact HQ.out)
      have HFQ := Lib.hid hF
      clear hF
      generalize (w2.setCell ⟨w.heap.size + 1, 9, none⟩ (.string ⟨t.toArray⟩)) = Wt at HQ ⊢
      obtain ⟨c0, c1, c2, c3, c4, c5, c6, c7, c8, c9, c10, c11, c12⟩ := HQ.out.f.ats
      obtain ⟨d0, d1, d2, d3, d4, d5, d6, d7, d8, d9, d10, d11, d12⟩ := HQ.out.r.ats
      have df := HQ.out.r.fz
      go_wp2
      have HE := Lib.hid (PW.ends (HQ.out))
      refine bodyPost_ret (v := .tuple #[.agg #[.int .u64 F.kind, .int .u64 F.id, .int .u64 F.off, .int .u64 F.max, .int .u64 F.code, .int .u64 F.seq, .int .u64 F.prior, .int .u64 F.delay, .bool F.fin, .string ⟨F.data.toArray⟩, .string ⟨F.cid.toArray⟩, .string ⟨F.token.toArray⟩, .slice F.set.a F.set.n F.set.c], .string ⟨q.toArray⟩, .bool true]) (by
        change Sem.run Tryd.prog (results _ _) (rstF w.heap.size F Wt) = Result.ok _ (rstF w.heap.size F Wt)
        obtain ⟨y0, y1, y2, y3, y4, y5, y6, y7, y8, y9, y10, y11, y12⟩ := HE.out.1.ats
        generalize (rstF w.heap.size F Wt) = X at y0 y1 y2 y3 y4 y5 y6 y7 y8 y9 y10 y11 y12 ⊢
        simp [results, Tryd.results22, go_sem, y0, y1, y2, y3, y4, y5, y6, y7, y8, y9, y10, y11, y12]) rfl ?_
      exact ⟨HE.out.2, ⟨none, 0, 0⟩, rfl, rd_none _, (fun x hx => by cases hx), by rw [← HFQ.out, ← HF1.out]; rfl⟩
  · rw [decide_eq_false h] at CN
    rw [if_neg h]
    clear h CL
    go_enter Tryd.func22, Tryd.ntmps22
    go_wp2_with fail
    refine (CSH.out _).mono ?_
    rintro e w1 ⟨rfl, rfl⟩
    go_wp2_with fail
    refine (CSH.out _).mono ?_
    rintro e w1 ⟨rfl, rfl⟩
    go_wp2_with fail
    refine (CN.out _).mono ?_
    rintro e w1 ⟨rfl, hb⟩
    have HQ1 := Lib.hid (HQ0.out.go hb)
    have HQ := Lib.hid (HQ1.out.put4 n)
    clear hb
    obtain ⟨c0, c1, c2, c3, c4, c5, c6, c7, c8, c9, c10, c11, c12⟩ := HQ1.out.f.ats
    obtain ⟨d0, d1, d2, d3, d4, d5, d6, d7, d8, d9, d10, d11, d12⟩ := HQ1.out.r.ats
    have cf := HQ1.out.f.fz
    have df := HQ1.out.r.fz
    have hlt := HQ1.out.f.lt
    go_upto_region 66 with (fail)
    clear c0 d0 c1 d1 c2 d2 c3 d3 c4 d4 c5 d5 c6 d6 c7 d7 c8 d8 c9 d9 c10 d10 c11 d11 c12 d12 cf df hlt
    obtain ⟨F, hF⟩ : ∃ F : Frm, ({ frZ with kind := 29, code := n } : Frm) = F := ⟨_, rfl⟩
    have HQ : Hid (PW w F (w1.setCell ⟨w.heap.size + 1, 4, none⟩ (.int .u64 n))) := Lib.hid (by rw [← hF]; exact HQ.out)
    have HFQ := Lib.hid hF
    clear hF
    generalize (w1.setCell ⟨w.heap.size + 1, 4, none⟩ (.int .u64 n)) = Wt at HQ ⊢
    obtain ⟨c0, c1, c2, c3, c4, c5, c6, c7, c8, c9, c10, c11, c12⟩ := HQ.out.f.ats
    obtain ⟨d0, d1, d2, d3, d4, d5, d6, d7, d8, d9, d10, d11, d12⟩ := HQ.out.r.ats
    have df := HQ.out.r.fz
    go_wp2
    have HE := Lib.hid (PW.ends (HQ.out))
    refine bodyPost_ret (v := .tuple #[.agg #[.int .u64 F.kind, .int .u64 F.id, .int .u64 F.off, .int .u64 F.max, .int .u64 F.code, .int .u64 F.seq, .int .u64 F.prior, .int .u64 F.delay, .bool F.fin, .string ⟨F.data.toArray⟩, .string ⟨F.cid.toArray⟩, .string ⟨F.token.toArray⟩, .slice F.set.a F.set.n F.set.c], .string ⟨r.toArray⟩, .bool false]) (by
      change Sem.run Tryd.prog (results _ _) (rstF w.heap.size F Wt) = Result.ok _ (rstF w.heap.size F Wt)
      obtain ⟨y0, y1, y2, y3, y4, y5, y6, y7, y8, y9, y10, y11, y12⟩ := HE.out.1.ats
      generalize (rstF w.heap.size F Wt) = X at y0 y1 y2 y3 y4 y5 y6 y7 y8 y9 y10 y11 y12 ⊢
      simp [results, Tryd.results22, go_sem, y0, y1, y2, y3, y4, y5, y6, y7, y8, y9, y10, y11, y12]) rfl ?_
    exact ⟨HE.out.2, F, r, rfl⟩
end
section
set_option maxHeartbeats 8000000 in
theorem rparts_0 (l : List UInt8) (w : World) : Calls Tryd.prog 22 #[.int .u64 0, .string ⟨l.toArray⟩] w (PtTo (some ({ frZ with kind := 0 }, [], l)) w) := by
  have HQ := Lib.hid (PW.start 0 w)
  obtain ⟨F, hF⟩ : ∃ F : Frm, ({ frZ with kind := 0 } : Frm) = F := ⟨_, rfl⟩
  rw [hF] at HQ ⊢
  have HFK : Hid (F.set = ⟨none, 0, 0⟩) := Lib.hid (by rw [← hF]; rfl)
  clear hF
  go_enter Tryd.func22, Tryd.ntmps22
  go_upto_region 6 with (fail)
  generalize (((w.alloc (.cells #[.int .u64 0, .int .u64 0, .int .u64 0, .int .u64 0, .int .u64 0, .int .u64 0, .int .u64 0, .int .u64 0, .bool false, .string ⟨#[]⟩, .string ⟨#[]⟩, .string ⟨#[]⟩, .slice none 0 0] 34)).alloc (.cells #[.int .u64 0, .int .u64 0, .int .u64 0, .int .u64 0, .int .u64 0, .int .u64 0, .int .u64 0, .int .u64 0, .bool false, .string ⟨#[]⟩, .string ⟨#[]⟩, .string ⟨#[]⟩, .slice none 0 0] 34)).alloc (.cells #[] 23)) = w1 at HQ ⊢
  obtain ⟨c0, c1, c2, c3, c4, c5, c6, c7, c8, c9, c10, c11, c12⟩ := HQ.out.f.ats
  obtain ⟨d0, d1, d2, d3, d4, d5, d6, d7, d8, d9, d10, d11, d12⟩ := HQ.out.r.ats
  have df := HQ.out.r.fz
  go_wp2
  have HE := Lib.hid (PW.ends (HQ.out))
  refine bodyPost_ret (v := .tuple #[.agg #[.int .u64 F.kind, .int .u64 F.id, .int .u64 F.off, .int .u64 F.max, .int .u64 F.code, .int .u64 F.seq, .int .u64 F.prior, .int .u64 F.delay, .bool F.fin, .string ⟨F.data.toArray⟩, .string ⟨F.cid.toArray⟩, .string ⟨F.token.toArray⟩, .slice F.set.a F.set.n F.set.c], .string ⟨l.toArray⟩, .bool true]) (by
    change Sem.run Tryd.prog (results _ _) (rstF w.heap.size F w1) = Result.ok _ (rstF w.heap.size F w1)
    obtain ⟨y0, y1, y2, y3, y4, y5, y6, y7, y8, y9, y10, y11, y12⟩ := HE.out.1.ats
    generalize (rstF w.heap.size F w1) = X at y0 y1 y2 y3 y4 y5 y6 y7 y8 y9 y10 y11 y12 ⊢
    simp [results, Tryd.results22, go_sem, y0, y1, y2, y3, y4, y5, y6, y7, y8, y9, y10, y11, y12]) rfl ?_
  exact ⟨HE.out.2, F.set, by rw [HFK.out]; rfl, by rw [HFK.out]; exact rd_none _, (fun x hx => by rw [HFK.out] at hx; cases hx), rfl⟩
set_option maxHeartbeats 8000000 in
theorem rparts_1 (l : List UInt8) (w : World) : Calls Tryd.prog 22 #[.int .u64 1, .string ⟨l.toArray⟩] w (PtTo (some ({ frZ with kind := 1 }, [], l)) w) := by
  have HQ := Lib.hid (PW.start 1 w)
  obtain ⟨F, hF⟩ : ∃ F : Frm, ({ frZ with kind := 1 } : Frm) = F := ⟨_, rfl⟩
  rw [hF] at HQ ⊢
  have HFK : Hid (F.set = ⟨none, 0, 0⟩) := Lib.hid (by rw [← hF]; rfl)
  clear hF
  go_enter Tryd.func22, Tryd.ntmps22
  go_upto_region 6 with (fail)
  generalize (((w.alloc (.cells #[.int .u64 0, .int .u64 0, .int .u64 0, .int .u64 0, .int .u64 0, .int .u64 0, .int .u64 0, .int .u64 0, .bool false, .string ⟨#[]⟩, .string ⟨#[]⟩, .string ⟨#[]⟩, .slice none 0 0] 34)).alloc (.cells #[.int .u64 1, .int .u64 0, .int .u64 0, .int .u64 0, .int .u64 0, .int .u64 0, .int .u64 0, .int .u64 0, .bool false, .string ⟨#[]⟩, .string ⟨#[]⟩, .string ⟨#[]⟩, .slice none 0 0] 34)).alloc (.cells #[] 23)) = w1 at HQ ⊢
  obtain ⟨c0, c1, c2, c3, c4, c5, c6, c7, c8, c9, c10, c11, c12⟩ := HQ.out.f.ats
  obtain ⟨d0, d1, d2, d3, d4, d5, d6, d7, d8, d9, d10, d11, d12⟩ := HQ.out.r.ats
  have df := HQ.out.r.fz
  go_wp2
  have HE := Lib.hid (PW.ends (HQ.out))
  refine bodyPost_ret (v := .tuple #[.agg #[.int .u64 F.kind, .int .u64 F.id, .int .u64 F.off, .int .u64 F.max, .int .u64 F.code, .int .u64 F.seq, .int .u64 F.prior, .int .u64 F.delay, .bool F.fin, .string ⟨F.data.toArray⟩, .string ⟨F.cid.toArray⟩, .string ⟨F.token.toArray⟩, .slice F.set.a F.set.n F.set.c], .string ⟨l.toArray⟩, .bool true]) (by
    change Sem.run Tryd.prog (results _ _) (rstF w.heap.size F w1) = Result.ok _ (rstF w.heap.size F w1)
    obtain ⟨y0, y1, y2, y3, y4, y5, y6, y7, y8, y9, y10, y11, y12⟩ := HE.out.1.ats
    generalize (rstF w.heap.size F w1) = X at y0 y1 y2 y3 y4 y5 y6 y7 y8 y9 y10 y11 y12 ⊢
    simp [results, Tryd.results22, go_sem, y0, y1, y2, y3, y4, y5, y6, y7, y8, y9, y10, y11, y12]) rfl ?_
  exact ⟨HE.out.2, F.set, by rw [HFK.out]; rfl, by rw [HFK.out]; exact rd_none _, (fun x hx => by rw [HFK.out] at hx; cases hx), rfl⟩
set_option maxHeartbeats 8000000 in
theorem rparts_30 (l : List UInt8) (w : World) : Calls Tryd.prog 22 #[.int .u64 30, .string ⟨l.toArray⟩] w (PtTo (some ({ frZ with kind := 30 }, [], l)) w) := by
  have HQ := Lib.hid (PW.start 30 w)
  obtain ⟨F, hF⟩ : ∃ F : Frm, ({ frZ with kind := 30 } : Frm) = F := ⟨_, rfl⟩
  rw [hF] at HQ ⊢
  have HFK : Hid (F.set = ⟨none, 0, 0⟩) := Lib.hid (by rw [← hF]; rfl)
  clear hF
  go_enter Tryd.func22, Tryd.ntmps22
  go_upto_region 6 with (fail)
  generalize (((w.alloc (.cells #[.int .u64 0, .int .u64 0, .int .u64 0, .int .u64 0, .int .u64 0, .int .u64 0, .int .u64 0, .int .u64 0, .bool false, .string ⟨#[]⟩, .string ⟨#[]⟩, .string ⟨#[]⟩, .slice none 0 0] 34)).alloc (.cells #[.int .u64 30, .int .u64 0, .int .u64 0, .int .u64 0, .int .u64 0, .int .u64 0, .int .u64 0, .int .u64 0, .bool false, .string ⟨#[]⟩, .string ⟨#[]⟩, .string ⟨#[]⟩, .slice none 0 0] 34)).alloc (.cells #[] 23)) = w1 at HQ ⊢
  obtain ⟨c0, c1, c2, c3, c4, c5, c6, c7, c8, c9, c10, c11, c12⟩ := HQ.out.f.ats
  obtain ⟨d0, d1, d2, d3, d4, d5, d6, d7, d8, d9, d10, d11, d12⟩ := HQ.out.r.ats
  have df := HQ.out.r.fz
  go_wp2
  have HE := Lib.hid (PW.ends (HQ.out))
  refine bodyPost_ret (v := .tuple #[.agg #[.int .u64 F.kind, .int .u64 F.id, .int .u64 F.off, .int .u64 F.max, .int .u64 F.code, .int .u64 F.seq, .int .u64 F.prior, .int .u64 F.delay, .bool F.fin, .string ⟨F.data.toArray⟩, .string ⟨F.cid.toArray⟩, .string ⟨F.token.toArray⟩, .slice F.set.a F.set.n F.set.c], .string ⟨l.toArray⟩, .bool true]) (by
    change Sem.run Tryd.prog (results _ _) (rstF w.heap.size F w1) = Result.ok _ (rstF w.heap.size F w1)
    obtain ⟨y0, y1, y2, y3, y4, y5, y6, y7, y8, y9, y10, y11, y12⟩ := HE.out.1.ats
    generalize (rstF w.heap.size F w1) = X at y0 y1 y2 y3 y4 y5 y6 y7 y8 y9 y10 y11 y12 ⊢
    simp [results, Tryd.results22, go_sem, y0, y1, y2, y3, y4, y5, y6, y7, y8, y9, y10, y11, y12]) rfl ?_
  exact ⟨HE.out.2, F.set, by rw [HFK.out]; rfl, by rw [HFK.out]; exact rd_none _, (fun x hx => by rw [HFK.out] at hx; cases hx), rfl⟩
set_option maxHeartbeats 8000000 in
theorem rparts_26 (l : List UInt8) (w : World) (hl : l.length ≤ 4000) : Calls Tryd.prog 22 #[.int .u64 26, .string ⟨l.toArray⟩] w (PtTo (if 8 ≤ l.length then some ({ frZ with kind := 26, token := l.take 8 }, [], l.drop 8) else none) w) := by
  have HQ0 := Lib.hid (PW.start 26 w)
  have CSH := Lib.hid (fun w => shape_26 w)
  by_cases h : 8 ≤ l.length
  · rw [if_pos h]
    have CN := Lib.hid (fun w => rtake_yes l 8 w (by omega) h)
    obtain ⟨t, ht⟩ : ∃ t, l.take 8 = t := ⟨_, rfl⟩
    obtain ⟨r, hr⟩ : ∃ t, l.drop 8 = t := ⟨_, rfl⟩
    rw [ht, hr] at CN ⊢
    clear h hl ht hr
    go_enter Tryd.func22, Tryd.ntmps22
    go_wp2_with fail
    refine (CSH.out _).mono ?_
    rintro e w1 ⟨rfl, rfl⟩
    go_wp2_with fail
    refine (CSH.out _).mono ?_
    rintro e w1 ⟨rfl, rfl⟩
    go_wp2_with fail
    refine (CN.out _).mono ?_
    rintro e w1 ⟨rfl, hb⟩
    have HQ1 := Lib.hid (HQ0.out.go hb)
    have HQ : Hid (PW w { frZ with kind := 26, token := t } (w1.setCell ⟨w.heap.size + 1, 11, none⟩ (.string ⟨t.toArray⟩))) := Lib.hid (HQ1.out.put11 t)
    clear hb
    obtain ⟨c0, c1, c2, c3, c4, c5, c6, c7, c8, c9, c10, c11, c12⟩ := HQ1.out.f.ats
    obtain ⟨d0, d1, d2, d3, d4, d5, d6, d7, d8, d9, d10, d11, d12⟩ := HQ1.out.r.ats
    have cf := HQ1.out.f.fz
    have df := HQ1.out.r.fz
    have hlt := HQ1.out.f.lt
    go_upto_region 66 with (fail)
    clear c0 d0 c1 d1 c2 d2 c3 d3 c4 d4 c5 d5 c6 d6 c7 d7 c8 d8 c9 d9 c10 d10 c11 d11 c12 d12 cf df hlt
    obtain ⟨F, hF⟩ : ∃ F : Frm, ({ frZ with kind := 26, token := t } : Frm) = F := ⟨_, rfl⟩
    have HQ : Hid (PW w F (w1.setCell ⟨w.heap.size + 1, 11, none⟩ (.string ⟨t.toArray⟩))) := Lib.hid (by rw [← hF]; exact HQ.out)
    have HFQ := Lib.hid hF
    clear hF
    generalize (w1.setCell ⟨w.heap.size + 1, 11, none⟩ (.string ⟨t.toArray⟩)) = Wt at HQ ⊢
    obtain ⟨c0, c1, c2, c3, c4, c5, c6, c7, c8, c9, c10, c11, c12⟩ := HQ.out.f.ats
    obtain ⟨d0, d1, d2, d3, d4, d5, d6, d7, d8, d9, d10, d11, d12⟩ := HQ.out.r.ats
    have df := HQ.out.r.fz
    go_wp2
    have HE := Lib.hid (PW.ends (HQ.out))
    refine bodyPost_ret (v := .tuple #[.agg #[.int .u64 F.kind, .int .u64 F.id, .int .u64 F.off, .int .u64 F.max, .int .u64 F.code, .int .u64 F.seq, .int .u64 F.prior, .int .u64 F.delay, .bool F.fin, .string ⟨F.data.toArray⟩, .string ⟨F.cid.toArray⟩, .string ⟨F.token.toArray⟩, .slice F.set.a F.set.n F.set.c], .string ⟨r.toArray⟩, .bool true]) (by
      change Sem.run Tryd.prog (results _ _) (rstF w.heap.size F Wt) = Result.ok _ (rstF w.heap.size F Wt)
      obtain ⟨y0, y1, y2, y3, y4, y5, y6, y7, y8, y9, y10, y11, y12⟩ := HE.out.1.ats
      generalize (rstF w.heap.size F Wt) = X at y0 y1 y2 y3 y4 y5 y6 y7 y8 y9 y10 y11 y12 ⊢
      simp [results, Tryd.results22, go_sem, y0, y1, y2, y3, y4, y5, y6, y7, y8, y9, y10, y11, y12]) rfl ?_
    exact ⟨HE.out.2, ⟨none, 0, 0⟩, rfl, rd_none _, (fun x hx => by cases hx), by rw [← HFQ.out]; rfl⟩
  · rw [if_neg h]
    have CN := Lib.hid (fun w => rtake_no l 8 w (by omega) (by omega))
    clear h hl
    go_enter Tryd.func22, Tryd.ntmps22
    go_wp2_with fail
    refine (CSH.out _).mono ?_
    rintro e w1 ⟨rfl, rfl⟩
    go_wp2_with fail
    refine (CSH.out _).mono ?_
    rintro e w1 ⟨rfl, rfl⟩
    go_wp2_with fail
    refine (CN.out _).mono ?_
    rintro e w1 ⟨rfl, rfl⟩
    generalize (((w.alloc (.cells #[.int .u64 0, .int .u64 0, .int .u64 0, .int .u64 0, .int .u64 0, .int .u64 0, .int .u64 0, .int .u64 0, .bool false, .string ⟨#[]⟩, .string ⟨#[]⟩, .string ⟨#[]⟩, .slice none 0 0] 34)).alloc (.cells #[.int .u64 26, .int .u64 0, .int .u64 0, .int .u64 0, .int .u64 0, .int .u64 0, .int .u64 0, .int .u64 0, .bool false, .string ⟨#[]⟩, .string ⟨#[]⟩, .string ⟨#[]⟩, .slice none 0 0] 34)).alloc (.cells #[] 23)) = w1 at HQ0 ⊢
    have HQ1 := HQ0
    have HQ : Hid (PW w { frZ with kind := 26, token := [] } (w1.setCell ⟨w.heap.size + 1, 11, none⟩ (.string ⟨#[]⟩))) := Lib.hid (HQ1.out.put11 [])
    obtain ⟨c0, c1, c2, c3, c4, c5, c6, c7, c8, c9, c10, c11, c12⟩ := HQ1.out.f.ats
    obtain ⟨d0, d1, d2, d3, d4, d5, d6, d7, d8, d9, d10, d11, d12⟩ := HQ1.out.r.ats
    have cf := HQ1.out.f.fz
    have df := HQ1.out.r.fz
    have hlt := HQ1.out.f.lt
    go_upto_region 66 with (fail)
    clear c0 d0 c1 d1 c2 d2 c3 d3 c4 d4 c5 d5 c6 d6 c7 d7 c8 d8 c9 d9 c10 d10 c11 d11 c12 d12 cf df hlt
    obtain ⟨F, hF⟩ : ∃ F : Frm, ({ frZ with kind := 26, token := [] } : Frm) = F := ⟨_, rfl⟩
    have HQ : Hid (PW w F (w1.setCell ⟨w.heap.size + 1, 11, none⟩ (.string ⟨#[]⟩))) := Lib.hid (by rw [← hF]; exact HQ.out)
    have HFQ := Lib.hid hF
    clear hF
    generalize (w1.setCell ⟨w.heap.size + 1, 11, none⟩ (.string ⟨#[]⟩)) = Wt at HQ ⊢
    obtain ⟨c0, c1, c2, c3, c4, c5, c6, c7, c8, c9, c10, c11, c12⟩ := HQ.out.f.ats
    obtain ⟨d0, d1, d2, d3, d4, d5, d6, d7, d8, d9, d10, d11, d12⟩ := HQ.out.r.ats
    have df := HQ.out.r.fz
    go_wp2
    have HE := Lib.hid (PW.ends (HQ.out))
    refine bodyPost_ret (v := .tuple #[.agg #[.int .u64 F.kind, .int .u64 F.id, .int .u64 F.off, .int .u64 F.max, .int .u64 F.code, .int .u64 F.seq, .int .u64 F.prior, .int .u64 F.delay, .bool F.fin, .string ⟨F.data.toArray⟩, .string ⟨F.cid.toArray⟩, .string ⟨F.token.toArray⟩, .slice F.set.a F.set.n F.set.c], .string ⟨([] : List UInt8).toArray⟩, .bool false]) (by
      change Sem.run Tryd.prog (results _ _) (rstF w.heap.size F Wt) = Result.ok _ (rstF w.heap.size F Wt)
      obtain ⟨y0, y1, y2, y3, y4, y5, y6, y7, y8, y9, y10, y11, y12⟩ := HE.out.1.ats
      generalize (rstF w.heap.size F Wt) = X at y0 y1 y2 y3 y4 y5 y6 y7 y8 y9 y10 y11 y12 ⊢
      simp [results, Tryd.results22, go_sem, y0, y1, y2, y3, y4, y5, y6, y7, y8, y9, y10, y11, y12]) rfl ?_
    exact ⟨HE.out.2, F, [], rfl⟩
set_option maxHeartbeats 8000000 in
theorem rparts_27 (l : List UInt8) (w : World) (hl : l.length ≤ 4000) : Calls Tryd.prog 22 #[.int .u64 27, .string ⟨l.toArray⟩] w (PtTo (if 8 ≤ l.length then some ({ frZ with kind := 27, token := l.take 8 }, [], l.drop 8) else none) w) := by
  have HQ0 := Lib.hid (PW.start 27 w)
  have CSH := Lib.hid (fun w => shape_27 w)
  by_cases h : 8 ≤ l.length
  · rw [if_pos h]
    have CN := Lib.hid (fun w => rtake_yes l 8 w (by omega) h)
    obtain ⟨t, ht⟩ : ∃ t, l.take 8 = t := ⟨_, rfl⟩
    obtain ⟨r, hr⟩ : ∃ t, l.drop 8 = t := ⟨_, rfl⟩
    rw [ht, hr] at CN ⊢
    clear h hl ht hr
    go_enter Tryd.func22, Tryd.ntmps22
    go_wp2_with fail
    refine (CSH.out _).mono ?_
    rintro e w1 ⟨rfl, rfl⟩
    go_wp2_with fail
    refine (CSH.out _).mono ?_
    rintro e w1 ⟨rfl, rfl⟩
    go_wp2_with fail
    refine (CN.out _).mono ?_
    rintro e w1 ⟨rfl, hb⟩
    have HQ1 := Lib.hid (HQ0.out.go hb)
    have HQ : Hid (PW w { frZ with kind := 27, token := t } (w1.setCell ⟨w.heap.size + 1, 11, none⟩ (.string ⟨t.toArray⟩))) := Lib.hid (HQ1.out.put11 t)
    clear hb
    obtain ⟨c0, c1, c2, c3, c4, c5, c6, c7, c8, c9, c10, c11, c12⟩ := HQ1.out.f.ats
    obtain ⟨d0, d1, d2, d3, d4, d5, d6, d7, d8, d9, d10, d11, d12⟩ := HQ1.out.r.ats
    have cf := HQ1.out.f.fz
    have df := HQ1.out.r.fz
    have hlt := HQ1.out.f.lt
    go_upto_region 66 with (fail)
    clear c0 d0 c1 d1 c2 d2 c3 d3 c4 d4 c5 d5 c6 d6 c7 d7 c8 d8 c9 d9 c10 d10 c11 d11 c12 d12 cf df hlt
    obtain ⟨F, hF⟩ : ∃ F : Frm, ({ frZ with kind := 27, token := t } : Frm) = F := ⟨_, rfl⟩
    have HQ : Hid (PW w F (w1.setCell ⟨w.heap.size + 1, 11, none⟩ (.string ⟨t.toArray⟩))) := Lib.hid (by rw [← hF]; exact HQ.out)
    have HFQ := Lib.hid hF
    clear hF
    generalize (w1.setCell ⟨w.heap.size + 1, 11, none⟩ (.string ⟨t.toArray⟩)) = Wt at HQ ⊢
    obtain ⟨c0, c1, c2, c3, c4, c5, c6, c7, c8, c9, c10, c11, c12⟩ := HQ.out.f.ats
    obtain ⟨d0, d1, d2, d3, d4, d5, d6, d7, d8, d9, d10, d11, d12⟩ := HQ.out.r.ats
    have df := HQ.out.r.fz
    go_wp2
    have HE := Lib.hid (PW.ends (HQ.out))
    refine bodyPost_ret (v := .tuple #[.agg #[.int .u64 F.kind, .int .u64 F.id, .int .u64 F.off, .int .u64 F.max, .int .u64 F.code, .int .u64 F.seq, .int .u64 F.prior, .int .u64 F.delay, .bool F.fin, .string ⟨F.data.toArray⟩, .string ⟨F.cid.toArray⟩, .string ⟨F.token.toArray⟩, .slice F.set.a F.set.n F.set.c], .string ⟨r.toArray⟩, .bool true]) (by
      change Sem.run Tryd.prog (results _ _) (rstF w.heap.size F Wt) = Result.ok _ (rstF w.heap.size F Wt)
      obtain ⟨y0, y1, y2, y3, y4, y5, y6, y7, y8, y9, y10, y11, y12⟩ := HE.out.1.ats
      generalize (rstF w.heap.size F Wt) = X at y0 y1 y2 y3 y4 y5 y6 y7 y8 y9 y10 y11 y12 ⊢
      simp [results, Tryd.results22, go_sem, y0, y1, y2, y3, y4, y5, y6, y7, y8, y9, y10, y11, y12]) rfl ?_
    exact ⟨HE.out.2, ⟨none, 0, 0⟩, rfl, rd_none _, (fun x hx => by cases hx), by rw [← HFQ.out]; rfl⟩
  · rw [if_neg h]
    have CN := Lib.hid (fun w => rtake_no l 8 w (by omega) (by omega))
    clear h hl
    go_enter Tryd.func22, Tryd.ntmps22
    go_wp2_with fail
    refine (CSH.out _).mono ?_
    rintro e w1 ⟨rfl, rfl⟩
    go_wp2_with fail
    refine (CSH.out _).mono ?_
    rintro e w1 ⟨rfl, rfl⟩
    go_wp2_with fail
    refine (CN.out _).mono ?_
    rintro e w1 ⟨rfl, rfl⟩
    generalize (((w.alloc (.cells #[.int .u64 0, .int .u64 0, .int .u64 0, .int .u64 0, .int .u64 0, .int .u64 0, .int .u64 0, .int .u64 0, .bool false, .string ⟨#[]⟩, .string ⟨#[]⟩, .string ⟨#[]⟩, .slice none 0 0] 34)).alloc (.cells #[.int .u64 27, .int .u64 0, .int .u64 0, .int .u64 0, .int .u64 0, .int .u64 0, .int .u64 0, .int .u64 0, .bool false, .string ⟨#[]⟩, .string ⟨#[]⟩, .string ⟨#[]⟩, .slice none 0 0] 34)).alloc (.cells #[] 23)) = w1 at HQ0 ⊢
    have HQ1 := HQ0
    have HQ : Hid (PW w { frZ with kind := 27, token := [] } (w1.setCell ⟨w.heap.size + 1, 11, none⟩ (.string ⟨#[]⟩))) := Lib.hid (HQ1.out.put11 [])
    obtain ⟨c0, c1, c2, c3, c4, c5, c6, c7, c8, c9, c10, c11, c12⟩ := HQ1.out.f.ats
    obtain ⟨d0, d1, d2, d3, d4, d5, d6, d7, d8, d9, d10, d11, d12⟩ := HQ1.out.r.ats
    have cf := HQ1.out.f.fz
    have df := HQ1.out.r.fz
    have hlt := HQ1.out.f.lt
    go_upto_region 66 with (fail)
    clear c0 d0 c1 d1 c2 d2 c3 d3 c4 d4 c5 d5 c6 d6 c7 d7 c8 d8 c9 d9 c10 d10 c11 d11 c12 d12 cf df hlt
    obtain ⟨F, hF⟩ : ∃ F : Frm, ({ frZ with kind := 27, token := [] } : Frm) = F := ⟨_, rfl⟩
    have HQ : Hid (PW w F (w1.setCell ⟨w.heap.size + 1, 11, none⟩ (.string ⟨#[]⟩))) := Lib.hid (by rw [← hF]; exact HQ.out)
    have HFQ := Lib.hid hF
    clear hF
    generalize (w1.setCell ⟨w.heap.size + 1, 11, none⟩ (.string ⟨#[]⟩)) = Wt at HQ ⊢
    obtain ⟨c0, c1, c2, c3, c4, c5, c6, c7, c8, c9, c10, c11, c12⟩ := HQ.out.f.ats
    obtain ⟨d0, d1, d2, d3, d4, d5, d6, d7, d8, d9, d10, d11, d12⟩ := HQ.out.r.ats
    have df := HQ.out.r.fz
    go_wp2
    have HE := Lib.hid (PW.ends (HQ.out))
    refine bodyPost_ret (v := .tuple #[.agg #[.int .u64 F.kind, .int .u64 F.id, .int .u64 F.off, .int .u64 F.max, .int .u64 F.code, .int .u64 F.seq, .int .u64 F.prior, .int .u64 F.delay, .bool F.fin, .string ⟨F.data.toArray⟩, .string ⟨F.cid.toArray⟩, .string ⟨F.token.toArray⟩, .slice F.set.a F.set.n F.set.c], .string ⟨([] : List UInt8).toArray⟩, .bool false]) (by
      change Sem.run Tryd.prog (results _ _) (rstF w.heap.size F Wt) = Result.ok _ (rstF w.heap.size F Wt)
      obtain ⟨y0, y1, y2, y3, y4, y5, y6, y7, y8, y9, y10, y11, y12⟩ := HE.out.1.ats
      generalize (rstF w.heap.size F Wt) = X at y0 y1 y2 y3 y4 y5 y6 y7 y8 y9 y10 y11 y12 ⊢
      simp [results, Tryd.results22, go_sem, y0, y1, y2, y3, y4, y5, y6, y7, y8, y9, y10, y11, y12]) rfl ?_
    exact ⟨HE.out.2, F, [], rfl⟩
set_option maxHeartbeats 8000000 in
theorem rparts_3 (l : List UInt8) (w : World) : Calls Tryd.prog 22 #[.int .u64 3, .string ⟨l.toArray⟩] w (PtTo none w) := by
  have HQ := Lib.hid (PW.start 3 w)
  have CSH := Lib.hid (fun w => shape_3 w)
  go_enter Tryd.func22, Tryd.ntmps22
  go_wp2_with fail
  refine (CSH.out _).mono ?_
  rintro e w1 ⟨rfl, rfl⟩
  go_wp2_with fail
  refine (CSH.out _).mono ?_
  rintro e w1 ⟨rfl, rfl⟩
  go_upto_region 4 with (fail)
  obtain ⟨F, hF⟩ : ∃ F : Frm, ({ frZ with kind := 3 } : Frm) = F := ⟨_, rfl⟩
  rw [hF] at HQ
  clear hF
  generalize (((w.alloc (.cells #[.int .u64 0, .int .u64 0, .int .u64 0, .int .u64 0, .int .u64 0, .int .u64 0, .int .u64 0, .int .u64 0, .bool false, .string ⟨#[]⟩, .string ⟨#[]⟩, .string ⟨#[]⟩, .slice none 0 0] 34)).alloc (.cells #[.int .u64 3, .int .u64 0, .int .u64 0, .int .u64 0, .int .u64 0, .int .u64 0, .int .u64 0, .int .u64 0, .bool false, .string ⟨#[]⟩, .string ⟨#[]⟩, .string ⟨#[]⟩, .slice none 0 0] 34)).alloc (.cells #[] 23)) = w1 at HQ ⊢
  obtain ⟨c0, c1, c2, c3, c4, c5, c6, c7, c8, c9, c10, c11, c12⟩ := HQ.out.f.ats
  obtain ⟨d0, d1, d2, d3, d4, d5, d6, d7, d8, d9, d10, d11, d12⟩ := HQ.out.r.ats
  have df := HQ.out.r.fz
  go_wp2
  have HE := Lib.hid (PW.ends (HQ.out))
  refine bodyPost_ret (v := .tuple #[.agg #[.int .u64 F.kind, .int .u64 F.id, .int .u64 F.off, .int .u64 F.max, .int .u64 F.code, .int .u64 F.seq, .int .u64 F.prior, .int .u64 F.delay, .bool F.fin, .string ⟨F.data.toArray⟩, .string ⟨F.cid.toArray⟩, .string ⟨F.token.toArray⟩, .slice F.set.a F.set.n F.set.c], .string ⟨([] : List UInt8).toArray⟩, .bool false]) (by
    change Sem.run Tryd.prog (results _ _) (rstF w.heap.size F w1) = Result.ok _ (rstF w.heap.size F w1)
    obtain ⟨y0, y1, y2, y3, y4, y5, y6, y7, y8, y9, y10, y11, y12⟩ := HE.out.1.ats
    generalize (rstF w.heap.size F w1) = X at y0 y1 y2 y3 y4 y5 y6 y7 y8 y9 y10 y11 y12 ⊢
    simp [results, Tryd.results22, go_sem, y0, y1, y2, y3, y4, y5, y6, y7, y8, y9, y10, y11, y12]) rfl ?_
  exact ⟨HE.out.2, F, [], rfl⟩
set_option maxHeartbeats 8000000 in
theorem rparts_7 (l : List UInt8) (w : World) : Calls Tryd.prog 22 #[.int .u64 7, .string ⟨l.toArray⟩] w (PtTo none w) := by
  have HQ := Lib.hid (PW.start 7 w)
  have CSH := Lib.hid (fun w => shape_7 w)
  go_enter Tryd.func22, Tryd.ntmps22
  go_wp2_with fail
  refine (CSH.out _).mono ?_
  rintro e w1 ⟨rfl, rfl⟩
  go_wp2_with fail
  refine (CSH.out _).mono ?_
  rintro e w1 ⟨rfl, rfl⟩
  go_upto_region 4 with (fail)
  obtain ⟨F, hF⟩ : ∃ F : Frm, ({ frZ with kind := 7 } : Frm) = F := ⟨_, rfl⟩
  rw [hF] at HQ
  clear hF
  generalize (((w.alloc (.cells #[.int .u64 0, .int .u64 0, .int .u64 0, .int .u64 0, .int .u64 0, .int .u64 0, .int .u64 0, .int .u64 0, .bool false, .string ⟨#[]⟩, .string ⟨#[]⟩, .string ⟨#[]⟩, .slice none 0 0] 34)).alloc (.cells #[.int .u64 7, .int .u64 0, .int .u64 0, .int .u64 0, .int .u64 0, .int .u64 0, .int .u64 0, .int .u64 0, .bool false, .string ⟨#[]⟩, .string ⟨#[]⟩, .string ⟨#[]⟩, .slice none 0 0] 34)).alloc (.cells #[] 23)) = w1 at HQ ⊢
  obtain ⟨c0, c1, c2, c3, c4, c5, c6, c7, c8, c9, c10, c11, c12⟩ := HQ.out.f.ats
  obtain ⟨d0, d1, d2, d3, d4, d5, d6, d7, d8, d9, d10, d11, d12⟩ := HQ.out.r.ats
  have df := HQ.out.r.fz
  go_wp2
  have HE := Lib.hid (PW.ends (HQ.out))
  refine bodyPost_ret (v := .tuple #[.agg #[.int .u64 F.kind, .int .u64 F.id, .int .u64 F.off, .int .u64 F.max, .int .u64 F.code, .int .u64 F.seq, .int .u64 F.prior, .int .u64 F.delay, .bool F.fin, .string ⟨F.data.toArray⟩, .string ⟨F.cid.toArray⟩, .string ⟨F.token.toArray⟩, .slice F.set.a F.set.n F.set.c], .string ⟨([] : List UInt8).toArray⟩, .bool false]) (by
    change Sem.run Tryd.prog (results _ _) (rstF w.heap.size F w1) = Result.ok _ (rstF w.heap.size F w1)
    obtain ⟨y0, y1, y2, y3, y4, y5, y6, y7, y8, y9, y10, y11, y12⟩ := HE.out.1.ats
    generalize (rstF w.heap.size F w1) = X at y0 y1 y2 y3 y4 y5 y6 y7 y8 y9 y10 y11 y12 ⊢
    simp [results, Tryd.results22, go_sem, y0, y1, y2, y3, y4, y5, y6, y7, y8, y9, y10, y11, y12]) rfl ?_
  exact ⟨HE.out.2, F, [], rfl⟩
set_option maxHeartbeats 8000000 in
theorem rparts_big (n : Int) (h : 31 ≤ n) (l : List UInt8) (w : World) : Calls Tryd.prog 22 #[.int .u64 n, .string ⟨l.toArray⟩] w (PtTo none w) := by
  have HQ := Lib.hid (PW.start n w)
  have CSH := Lib.hid (fun w => shape_big n h w)
  have e0 : (n == 0) = false := beq_eq_false_iff_ne.2 (by omega)
  have e1 : (n == 1) = false := beq_eq_false_iff_ne.2 (by omega)
  have e2 : (n == 2) = false := beq_eq_false_iff_ne.2 (by omega)
  have e4 : (n == 4) = false := beq_eq_false_iff_ne.2 (by omega)
  have e5 : (n == 5) = false := beq_eq_false_iff_ne.2 (by omega)
  have e6 : (n == 6) = false := beq_eq_false_iff_ne.2 (by omega)
  have e24 : (n == 24) = false := beq_eq_false_iff_ne.2 (by omega)
  have e25 : (n == 25) = false := beq_eq_false_iff_ne.2 (by omega)
  have e26 : (n == 26) = false := beq_eq_false_iff_ne.2 (by omega)
  have e27 : (n == 27) = false := beq_eq_false_iff_ne.2 (by omega)
  have e28 : (n == 28) = false := beq_eq_false_iff_ne.2 (by omega)
  have e29 : (n == 29) = false := beq_eq_false_iff_ne.2 (by omega)
  have e30 : (n == 30) = false := beq_eq_false_iff_ne.2 (by omega)
  have e8 : 8 ≤ n := by omega
  have e15 : ¬ n ≤ 15 := by omega
  clear h
  go_enter Tryd.func22, Tryd.ntmps22
  go_wp2_with fail
  refine (CSH.out _).mono ?_
  rintro e w1 ⟨rfl, rfl⟩
  go_wp2_with fail
  refine (CSH.out _).mono ?_
  rintro e w1 ⟨rfl, rfl⟩
  go_upto_region 4 with (fail)
  obtain ⟨F, hF⟩ : ∃ F : Frm, ({ frZ with kind := n } : Frm) = F := ⟨_, rfl⟩
  rw [hF] at HQ
  clear hF
  generalize (((w.alloc (.cells #[.int .u64 0, .int .u64 0, .int .u64 0, .int .u64 0, .int .u64 0, .int .u64 0, .int .u64 0, .int .u64 0, .bool false, .string ⟨#[]⟩, .string ⟨#[]⟩, .string ⟨#[]⟩, .slice none 0 0] 34)).alloc (.cells #[.int .u64 n, .int .u64 0, .int .u64 0, .int .u64 0, .int .u64 0, .int .u64 0, .int .u64 0, .int .u64 0, .bool false, .string ⟨#[]⟩, .string ⟨#[]⟩, .string ⟨#[]⟩, .slice none 0 0] 34)).alloc (.cells #[] 23)) = w1 at HQ ⊢
  obtain ⟨c0, c1, c2, c3, c4, c5, c6, c7, c8, c9, c10, c11, c12⟩ := HQ.out.f.ats
  obtain ⟨d0, d1, d2, d3, d4, d5, d6, d7, d8, d9, d10, d11, d12⟩ := HQ.out.r.ats
  have df := HQ.out.r.fz
  go_wp2
  have HE := Lib.hid (PW.ends (HQ.out))
  refine bodyPost_ret (v := .tuple #[.agg #[.int .u64 F.kind, .int .u64 F.id, .int .u64 F.off, .int .u64 F.max, .int .u64 F.code, .int .u64 F.seq, .int .u64 F.prior, .int .u64 F.delay, .bool F.fin, .string ⟨F.data.toArray⟩, .string ⟨F.cid.toArray⟩, .string ⟨F.token.toArray⟩, .slice F.set.a F.set.n F.set.c], .string ⟨([] : List UInt8).toArray⟩, .bool false]) (by
    change Sem.run Tryd.prog (results _ _) (rstF w.heap.size F w1) = Result.ok _ (rstF w.heap.size F w1)
    obtain ⟨y0, y1, y2, y3, y4, y5, y6, y7, y8, y9, y10, y11, y12⟩ := HE.out.1.ats
    generalize (rstF w.heap.size F w1) = X at y0 y1 y2 y3 y4 y5 y6 y7 y8 y9 y10 y11 y12 ⊢
    simp [results, Tryd.results22, go_sem, y0, y1, y2, y3, y4, y5, y6, y7, y8, y9, y10, y11, y12]) rfl ?_
  exact ⟨HE.out.2, F, [], rfl⟩
end
section
theorem gst_rest {l : List UInt8} : ∀ {k : Nat} {acc : List Nat} {r : List UInt8}, gst l k = some (acc, r) → r.length ≤ l.length
  | 0, acc, r, h => by
    simp only [gst, Option.some.injEq, Prod.mk.injEq] at h
    rw [← h.2]; exact Nat.le_refl _
  | k + 1, acc, r, h => by
    rw [gst] at h
    match hg : gst l k with
    | none => rw [hg] at h; cases h
    | some (a, q) =>
      rw [hg] at h
      simp only at h
      split at h
      · injection h with h
        injection h with h1 h2
        rw [← h2, List.length_drop]
        exact Nat.le_trans (Nat.sub_le _ _) (gst_rest hg)
      · cases h
set_option maxHeartbeats 8000000 in
theorem rparts_28 (l : List UInt8) (w : World) (hl : l.length ≤ 4000) : Calls Tryd.prog 22 #[.int .u64 28, .string ⟨l.toArray⟩] w (PtTo (match gst l 2 with | some (acc, r) => (match lngN r with | some (t, q) => some ({ frZ with kind := 28, code := ((acc.getD 0 0 : Nat) : Int), delay := ((acc.getD 1 0 : Nat) : Int), data := t }, [], q) | none => none) | none => none) w) := by
  have CN := Lib.hid (fun w => rnumbers l 2 w hl (by decide) (by decide))
  have CLR := Lib.hid (fun (r : List UInt8) w (h : r.length ≤ 4000) => rlong r w (by omega))
  have HQ0 := Lib.hid (PW.start 28 w)
  have CSH := Lib.hid (fun w => shape_28 w)
  have HL := Lib.hid hl
  clear hl
  match hg : gst l 2 with
  | none =>
    rw [hg] at CN
    clear hg
    go_enter Tryd.func22, Tryd.ntmps22
    go_wp2_with fail
    refine (CSH.out _).mono ?_
    rintro e w1 ⟨rfl, rfl⟩
    go_wp2_with fail
    refine (CSH.out _).mono ?_
    rintro e w1 ⟨rfl, rfl⟩
    go_wp2_with fail
    refine (CN.out _).mono ?_
    rintro e w1 ⟨hb, rfl⟩
    have HQ := Lib.hid (HQ0.out.go hb)
    clear hb
    obtain ⟨F, hF⟩ : ∃ F : Frm, ({ frZ with kind := 28 } : Frm) = F := ⟨_, rfl⟩
    rw [hF] at HQ
    have HFQ := Lib.hid hF
    clear hF
    obtain ⟨c0, c1, c2, c3, c4, c5, c6, c7, c8, c9, c10, c11, c12⟩ := HQ.out.f.ats
    obtain ⟨d0, d1, d2, d3, d4, d5, d6, d7, d8, d9, d10, d11, d12⟩ := HQ.out.r.ats
    have df := HQ.out.r.fz
    go_wp2
    have HE := Lib.hid (PW.ends (HQ.out))
    refine bodyPost_ret (v := .tuple #[.agg #[.int .u64 F.kind, .int .u64 F.id, .int .u64 F.off, .int .u64 F.max, .int .u64 F.code, .int .u64 F.seq, .int .u64 F.prior, .int .u64 F.delay, .bool F.fin, .string ⟨F.data.toArray⟩, .string ⟨F.cid.toArray⟩, .string ⟨F.token.toArray⟩, .slice F.set.a F.set.n F.set.c], .string ⟨([] : List UInt8).toArray⟩, .bool false]) (by
      change Sem.run Tryd.prog (results _ _) (rstF w.heap.size F w1) = Result.ok _ (rstF w.heap.size F w1)
      obtain ⟨y0, y1, y2, y3, y4, y5, y6, y7, y8, y9, y10, y11, y12⟩ := HE.out.1.ats
      generalize (rstF w.heap.size F w1) = X at y0 y1 y2 y3 y4 y5 y6 y7 y8 y9 y10 y11 y12 ⊢
      simp [results, Tryd.results22, go_sem, y0, y1, y2, y3, y4, y5, y6, y7, y8, y9, y10, y11, y12]) rfl ?_
    exact ⟨HE.out.2, F, [], rfl⟩
  | some (acc, r) =>
    have CL := Lib.hid (fun w => CLR.out r w (Nat.le_trans (gst_rest hg) HL.out))
    rw [hg] at CN
    clear hg CLR HL
    obtain ⟨a0, ha0⟩ : ∃ a : Int, ((acc.getD 0 0 : Nat) : Int) = a := ⟨_, rfl⟩
    obtain ⟨a1, ha1⟩ : ∃ a : Int, ((acc.getD 1 0 : Nat) : Int) = a := ⟨_, rfl⟩
    have HA0 := Lib.hid ha0
    have HA1 := Lib.hid ha1
    show Calls _ _ _ _ (PtTo (match lngN r with | some (t, q) => some ({ frZ with kind := 28, code := ((acc.getD 0 0 : Nat) : Int), delay := ((acc.getD 1 0 : Nat) : Int), data := t }, [], q) | none => none) w)
    rw [ha0, ha1]
    clear ha0 ha1
    match hq : lngN r with
    | none =>
      rw [hq] at CL
      clear hq
      go_enter Tryd.func22, Tryd.ntmps22
      go_wp2_with fail
      refine (CSH.out _).mono ?_
      rintro e w1 ⟨rfl, rfl⟩
      go_wp2_with fail
      refine (CSH.out _).mono ?_
      rintro e w1 ⟨rfl, rfl⟩
      go_wp2_with fail
      refine (CN.out _).mono ?_
      rintro e w1 ⟨hb, g, c, rfl, h1, h2⟩
      have HQ1 := Lib.hid (HQ0.out.go hb)
      have hg1 : w.heap.size + 1 < g := by simp only [World.size_alloc] at h1; omega
      have hg2 : g ≠ w.heap.size + 1 := by omega
      have hg3 : w.heap.size + 1 ≠ g := by omega
      clear h1
      have g0 := h2 0 (by decide)
      rw [HA0.out] at g0
      have g1 := h2 1 (by decide)
      rw [HA1.out] at g1
      have HQ := Lib.hid ((HQ1.out.put4 a0).put7 a1)
      clear hb h2
      obtain ⟨c0, c1, c2, c3, c4, c5, c6, c7, c8, c9, c10, c11, c12⟩ := HQ1.out.f.ats
      obtain ⟨d0, d1, d2, d3, d4, d5, d6, d7, d8, d9, d10, d11, d12⟩ := HQ1.out.r.ats
      have cf := HQ1.out.f.fz
      have df := HQ1.out.r.fz
      have hlt := HQ1.out.f.lt
      go_wp2_with fail
      refine (CL.out _).mono ?_
      rintro e w2 ⟨hb, rfl⟩
      have HQ2 := Lib.hid (HQ.out.go hb)
      clear hb c0 d0 c1 d1 c2 d2 c3 d3 c4 d4 c5 d5 c6 d6 c7 d7 c8 d8 c9 d9 c10 d10 c11 d11 c12 d12 cf df hlt HQ g0 g1
      obtain ⟨F1, hF1⟩ : ∃ F : Frm, ({ frZ with kind := 28, code := a0, delay := a1 } : Frm) = F := ⟨_, rfl⟩
      have HQ3 : Hid (PW w F1 w2) := Lib.hid (by rw [← hF1]; exact HQ2.out)
      have HF1 := Lib.hid hF1
      clear hF1 HQ2
      have HQ : Hid (PW w { F1 with data := [] } (w2.setCell ⟨w.heap.size + 1, 9, none⟩ (.string ⟨#[]⟩))) := Lib.hid (HQ3.out.put9 [])
      obtain ⟨c0, c1, c2, c3, c4, c5, c6, c7, c8, c9, c10, c11, c12⟩ := HQ3.out.f.ats
      obtain ⟨d0, d1, d2, d3, d4, d5, d6, d7, d8, d9, d10, d11, d12⟩ := HQ3.out.r.ats
      have cf := HQ3.out.f.fz
      have df := HQ3.out.r.fz
      have hlt := HQ3.out.f.lt
      go_upto_region 66 with (fail)
      clear c0 d0 c1 d1 c2 d2 c3 d3 c4 d4 c5 d5 c6 d6 c7 d7 c8 d8 c9 d9 c10 d10 c11 d11 c12 d12 cf df hlt
      obtain ⟨F, hF⟩ : ∃ F : Frm, ({ F1 with data := [] } : Frm) = F := ⟨_, rfl⟩
      have HQ : Hid (PW w F (w2.setCell ⟨w.heap.size + 1, 9, none⟩ (.string ⟨#[]⟩))) := Lib.hid (by rw [← hF]; exact HQ.out)
      have HFQ := Lib.hid hF
      clear hF
      generalize (w2.setCell ⟨w.heap.size + 1, 9, none⟩ (.string ⟨#[]⟩)) = Wt at HQ ⊢
      obtain ⟨c0, c1, c2, c3, c4, c5, c6, c7, c8, c9, c10, c11, c12⟩ := HQ.out.f.ats
      obtain ⟨d0, d1, d2, d3, d4, d5, d6, d7, d8, d9, d10, d11, d12⟩ := HQ.out.r.ats
      have df := HQ.out.r.fz
      go_wp2
      have HE := Lib.hid (PW.ends (HQ.out))
      refine bodyPost_ret (v := .tuple #[.agg #[.int .u64 F.kind, .int .u64 F.id, .int .u64 F.off, .int .u64 F.max, .int .u64 F.code, .int .u64 F.seq, .int .u64 F.prior, .int .u64 F.delay, .bool F.fin, .string ⟨F.data.toArray⟩, .string ⟨F.cid.toArray⟩, .string ⟨F.token.toArray⟩, .slice F.set.a F.set.n F.set.c], .string ⟨([] : List UInt8).toArray⟩, .bool false]) (by
        change Sem.run Tryd.prog (results _ _) (rstF w.heap.size F Wt) = Result.ok _ (rstF w.heap.size F Wt)
        obtain ⟨y0, y1, y2, y3, y4, y5, y6, y7, y8, y9, y10, y11, y12⟩ := HE.out.1.ats
        generalize (rstF w.heap.size F Wt) = X at y0 y1 y2 y3 y4 y5 y6 y7 y8 y9 y10 y11 y12 ⊢
        simp [results, Tryd.results22, go_sem, y0, y1, y2, y3, y4, y5, y6, y7, y8, y9, y10, y11, y12]) rfl ?_
      exact ⟨HE.out.2, F, [], rfl⟩
    | some (t, q) =>
      rw [hq] at CL
      clear hq
      go_enter Tryd.func22, Tryd.ntmps22
      go_wp2_with fail
      refine (CSH.out _).mono ?_
      rintro e w1 ⟨rfl, rfl⟩
      go_wp2_with fail
      refine (CSH.out _).mono ?_
      rintro e w1 ⟨rfl, rfl⟩
      go_wp2_with fail
      refine (CN.out _).mono ?_
      rintro e w1 ⟨hb, g, c, rfl, h1, h2⟩
      have HQ1 := Lib.hid (HQ0.out.go hb)
      have hg1 : w.heap.size + 1 < g := by simp only [World.size_alloc] at h1; omega
      have hg2 : g ≠ w.heap.size + 1 := by omega
      have hg3 : w.heap.size + 1 ≠ g := by omega
      clear h1
      have g0 := h2 0 (by decide)
      rw [HA0.out] at g0
      have g1 := h2 1 (by decide)
      rw [HA1.out] at g1
      have HQ := Lib.hid ((HQ1.out.put4 a0).put7 a1)
      clear hb h2
      obtain ⟨c0, c1, c2, c3, c4, c5, c6, c7, c8, c9, c10, c11, c12⟩ := HQ1.out.f.ats
      obtain ⟨d0, d1, d2, d3, d4, d5, d6, d7, d8, d9, d10, d11, d12⟩ := HQ1.out.r.ats
      have cf := HQ1.out.f.fz
      have df := HQ1.out.r.fz
      have hlt := HQ1.out.f.lt
      go_wp2_with fail
      refine (CL.out _).mono ?_
      rintro e w2 ⟨hb, rfl⟩
      have HQ2 := Lib.hid (HQ.out.go hb)
      clear hb c0 d0 c1 d1 c2 d2 c3 d3 c4 d4 c5 d5 c6 d6 c7 d7 c8 d8 c9 d9 c10 d10 c11 d11 c12 d12 cf df hlt HQ g0 g1
      obtain ⟨F1, hF1⟩ : ∃ F : Frm, ({ frZ with kind := 28, code := a0, delay := a1 } : Frm) = F := ⟨_, rfl⟩
      have HQ3 : Hid (PW w F1 w2) := Lib.hid (by rw [← hF1]; exact HQ2.out)
      have HF1 := Lib.hid hF1
      clear hF1 HQ2
      have HQ : Hid (PW w { F1 with data := t } (w2.setCell ⟨w.heap.size + 1, 9, none⟩ (.string ⟨t.toArray⟩))) := Lib.hid (HQ3.out.put9 t)
      obtain ⟨c0, c1, c2, c3, c4, c5, c6, c7, c8, c9, c10, c11, c12⟩ := HQ3.out.f.ats
      obtain ⟨d0, d1, d2, d3, d4, d5, d6, d7, d8, d9, d10, d11, d12⟩ := HQ3.out.r.ats
      have cf := HQ3.out.f.fz
      have df := HQ3.out.r.fz
      have hlt := HQ3.out.f.lt
      go_upto_region 66 with (fail)
      clear c0 d0 c1 d1 c2 d2 c3 d3 c4 d4 c5 d5 c6 d6 c7 d7 c8 d8 c9 d9 c10 d10 c11 d11 c12 d12 cf df hlt
      obtain ⟨F, hF⟩ : ∃ F : Frm, ({ F1 with data := t } : Frm) = F := ⟨_, rfl⟩
      have HQ : Hid (PW w F (w2.setCell ⟨w.heap.size + 1, 9, none⟩ (.string ⟨t.toArray⟩))) := Lib.hid (by rw [← hF]; exact HQ.out)
      have HFQ := Lib.hid hF
      clear hF
      generalize (w2.setCell ⟨w.heap.size + 1, 9, none⟩ (.string ⟨t.toArray⟩)) = Wt at HQ ⊢
      obtain ⟨c0, c1, c2, c3, c4, c5, c6, c7, c8, c9, c10, c11, c12⟩ := HQ.out.f.ats
      obtain ⟨d0, d1, d2, d3, d4, d5, d6, d7, d8, d9, d10, d11, d12⟩ := HQ.out.r.ats
      have df := HQ.out.r.fz
      go_wp2
      have HE := Lib.hid (PW.ends (HQ.out))
      refine bodyPost_ret (v := .tuple #[.agg #[.int .u64 F.kind, .int .u64 F.id, .int .u64 F.off, .int .u64 F.max, .int .u64 F.code, .int .u64 F.seq, .int .u64 F.prior, .int .u64 F.delay, .bool F.fin, .string ⟨F.data.toArray⟩, .string ⟨F.cid.toArray⟩, .string ⟨F.token.toArray⟩, .slice F.set.a F.set.n F.set.c], .string ⟨q.toArray⟩, .bool true]) (by
        change Sem.run Tryd.prog (results _ _) (rstF w.heap.size F Wt) = Result.ok _ (rstF w.heap.size F Wt)
        obtain ⟨y0, y1, y2, y3, y4, y5, y6, y7, y8, y9, y10, y11, y12⟩ := HE.out.1.ats
        generalize (rstF w.heap.size F Wt) = X at y0 y1 y2 y3 y4 y5 y6 y7 y8 y9 y10 y11 y12 ⊢
        simp [results, Tryd.results22, go_sem, y0, y1, y2, y3, y4, y5, y6, y7, y8, y9, y10, y11, y12]) rfl ?_
      exact ⟨HE.out.2, ⟨none, 0, 0⟩, rfl, rd_none _, (fun x hx => by cases hx), by rw [← HFQ.out, ← HF1.out]; rfl⟩
theorem ext_mid (r : List UInt8) (a b : Nat) : (⟨r.toArray⟩ : ByteArray).extract a b = ⟨((r.drop a).take (b - a)).toArray⟩ := by
  apply ByteArray.ext
  simp [List.extract_eq_take_drop]
/-- What a NewId has behind its numbers. -/
def nidB (r : List UInt8) : Bool := decide (25 ≤ r.length) && (r.getD 0 0 == 8)
set_option maxHeartbeats 8000000 in
theorem rparts_24 (l : List UInt8) (w : World) (hl : l.length ≤ 4000) : Calls Tryd.prog 22 #[.int .u64 24, .string ⟨l.toArray⟩] w (PtTo (match gst l 2 with | some (acc, r) => (if nidB r = true then some ({ frZ with kind := 24, seq := ((acc.getD 0 0 : Nat) : Int), prior := ((acc.getD 1 0 : Nat) : Int), cid := (r.drop 1).take 8, token := (r.drop 9).take 16 }, [], r.drop 25) else none) | none => none) w) := by
  have CN := Lib.hid (fun w => rnumbers l 2 w hl (by decide) (by decide))
  have HQ0 := Lib.hid (PW.start 24 w)
  have CSH := Lib.hid (fun w => shape_24 w)
  have HL := Lib.hid hl
  clear hl
  match hg : gst l 2 with
  | none =>
    rw [hg] at CN
    clear hg
    go_enter Tryd.func22, Tryd.ntmps22
    go_wp2_with fail
    refine (CSH.out _).mono ?_
    rintro e w1 ⟨rfl, rfl⟩
    go_wp2_with fail
    refine (CSH.out _).mono ?_
    rintro e w1 ⟨rfl, rfl⟩
    go_wp2_with fail
    refine (CN.out _).mono ?_
    rintro e w1 ⟨hb, rfl⟩
    have HQ := Lib.hid (HQ0.out.go hb)
    clear hb
    obtain ⟨F, hF⟩ : ∃ F : Frm, ({ frZ with kind := 24 } : Frm) = F := ⟨_, rfl⟩
    rw [hF] at HQ
    have HFQ := Lib.hid hF
    clear hF
    obtain ⟨c0, c1, c2, c3, c4, c5, c6, c7, c8, c9, c10, c11, c12⟩ := HQ.out.f.ats
    obtain ⟨d0, d1, d2, d3, d4, d5, d6, d7, d8, d9, d10, d11, d12⟩ := HQ.out.r.ats
    have df := HQ.out.r.fz
    go_wp2
    have HE := Lib.hid (PW.ends (HQ.out))
    refine bodyPost_ret (v := .tuple #[.agg #[.int .u64 F.kind, .int .u64 F.id, .int .u64 F.off, .int .u64 F.max, .int .u64 F.code, .int .u64 F.seq, .int .u64 F.prior, .int .u64 F.delay, .bool F.fin, .string ⟨F.data.toArray⟩, .string ⟨F.cid.toArray⟩, .string ⟨F.token.toArray⟩, .slice F.set.a F.set.n F.set.c], .string ⟨([] : List UInt8).toArray⟩, .bool false]) (by
      change Sem.run Tryd.prog (results _ _) (rstF w.heap.size F w1) = Result.ok _ (rstF w.heap.size F w1)
      obtain ⟨y0, y1, y2, y3, y4, y5, y6, y7, y8, y9, y10, y11, y12⟩ := HE.out.1.ats
      generalize (rstF w.heap.size F w1) = X at y0 y1 y2 y3 y4 y5 y6 y7 y8 y9 y10 y11 y12 ⊢
      simp [results, Tryd.results22, go_sem, y0, y1, y2, y3, y4, y5, y6, y7, y8, y9, y10, y11, y12]) rfl ?_
    exact ⟨HE.out.2, F, [], rfl⟩
  | some (acc, r) =>
    have hrl : r.length ≤ 4000 := Nat.le_trans (gst_rest hg) HL.out
    rw [hg] at CN
    clear hg HL
    obtain ⟨a0, ha0⟩ : ∃ a : Int, ((acc.getD 0 0 : Nat) : Int) = a := ⟨_, rfl⟩
    obtain ⟨a1, ha1⟩ : ∃ a : Int, ((acc.getD 1 0 : Nat) : Int) = a := ⟨_, rfl⟩
    have HA0 := Lib.hid ha0
    have HA1 := Lib.hid ha1
    show Calls _ _ _ _ (PtTo (if nidB r = true then some ({ frZ with kind := 24, seq := ((acc.getD 0 0 : Nat) : Int), prior := ((acc.getD 1 0 : Nat) : Int), cid := (r.drop 1).take 8, token := (r.drop 9).take 16 }, [], r.drop 25) else none) w)
    rw [ha0, ha1]
    clear ha0 ha1
    have hsz : (⟨r.toArray⟩ : ByteArray).size = r.length := rfl
    by_cases h25 : (25 : Int) ≤ (r.length : Int)
    · obtain ⟨b0, t0, hbt⟩ : ∃ b t, r = b :: t := by
        match r, h25 with
        | [], h => simp at h
        | b :: t, _ => exact ⟨b, t, rfl⟩
      have hget : (⟨r.toArray⟩ : ByteArray)[0]'(by rw [hsz]; omega) = b0 := by
        show r[0]'(by omega) = b0
        simp [hbt]
      have hbl := b0.toNat_lt
      have HN : Hid (nidB r = (b0 == 8)) := Lib.hid (by unfold nidB; rw [decide_eq_true (by omega), hbt]; rfl)
      have hr0 : (0 : Int) < (r.length : Int) := by omega
      clear hbt
      by_cases h8 : b0 = 8
      · have e8 : ((b0.toNat : Int) == 8) = true := by rw [h8]; rfl
        rw [if_pos (by rw [HN.out, h8]; rfl)]
        clear h8 HN
        have hx1 := ext_mid r 1 9
        have hx2 := ext_mid r 9 25
        have hx3 := sv_from r 25
        obtain ⟨t1, ht1⟩ : ∃ t, (r.drop 1).take 8 = t := ⟨_, rfl⟩
        obtain ⟨t2, ht2⟩ : ∃ t, (r.drop 9).take 16 = t := ⟨_, rfl⟩
        obtain ⟨t3, ht3⟩ : ∃ t, r.drop 25 = t := ⟨_, rfl⟩
        rw [show 9 - 1 = 8 from rfl, ht1] at hx1
        rw [show 25 - 9 = 16 from rfl, ht2] at hx2
        rw [ht3] at hx3
        rw [ht1, ht2, ht3]
        clear ht1 ht2 ht3
        go_enter Tryd.func22, Tryd.ntmps22
        go_wp2_with fail
        refine (CSH.out _).mono ?_
        rintro e w1 ⟨rfl, rfl⟩
        go_wp2_with fail
        refine (CSH.out _).mono ?_
        rintro e w1 ⟨rfl, rfl⟩
        go_wp2_with fail
        refine (CN.out _).mono ?_
        rintro e w1 ⟨hb, g, c, rfl, h1, h2⟩
        have HQ1 := Lib.hid (HQ0.out.go hb)
        have hg1 : w.heap.size + 1 < g := by simp only [World.size_alloc] at h1; omega
        have hg2 : g ≠ w.heap.size + 1 := by omega
        have hg3 : w.heap.size + 1 ≠ g := by omega
        clear h1
        have g0 := h2 0 (by decide)
        rw [HA0.out] at g0
        have g1 := h2 1 (by decide)
        rw [HA1.out] at g1
        have HQ := Lib.hid ((HQ1.out.put5 a0).put6 a1)
        clear hb h2
        obtain ⟨c0, c1, c2, c3, c4, c5, c6, c7, c8, c9, c10, c11, c12⟩ := HQ1.out.f.ats
        obtain ⟨d0, d1, d2, d3, d4, d5, d6, d7, d8, d9, d10, d11, d12⟩ := HQ1.out.r.ats
        have cf := HQ1.out.f.fz
        have df := HQ1.out.r.fz
        have hlt := HQ1.out.f.lt
        have HQ9 : Hid (PW w { frZ with kind := 24, seq := a0, prior := a1, cid := t1, token := t2 } ((((w1.setCell ⟨w.heap.size + 1, 5, none⟩ (.int .u64 a0)).setCell ⟨w.heap.size + 1, 6, none⟩ (.int .u64 a1)).setCell ⟨w.heap.size + 1, 10, none⟩ (.string ⟨t1.toArray⟩)).setCell ⟨w.heap.size + 1, 11, none⟩ (.string ⟨t2.toArray⟩))) := Lib.hid ((HQ.out.put10 t1).put11 t2)
        clear HQ
        have HQ := HQ9
        clear HQ9
        go_upto_region 66 with (fail)
        clear c0 d0 c1 d1 c2 d2 c3 d3 c4 d4 c5 d5 c6 d6 c7 d7 c8 d8 c9 d9 c10 d10 c11 d11 c12 d12 cf df hlt
        obtain ⟨F, hF⟩ : ∃ F : Frm, ({ frZ with kind := 24, seq := a0, prior := a1, cid := t1, token := t2 } : Frm) = F := ⟨_, rfl⟩
        have HQ : Hid (PW w F ((((w1.setCell ⟨w.heap.size + 1, 5, none⟩ (.int .u64 a0)).setCell ⟨w.heap.size + 1, 6, none⟩ (.int .u64 a1)).setCell ⟨w.heap.size + 1, 10, none⟩ (.string ⟨t1.toArray⟩)).setCell ⟨w.heap.size + 1, 11, none⟩ (.string ⟨t2.toArray⟩))) := Lib.hid (by rw [← hF]; exact HQ.out)
        have HFQ := Lib.hid hF
        clear hF
        generalize ((((w1.setCell ⟨w.heap.size + 1, 5, none⟩ (.int .u64 a0)).setCell ⟨w.heap.size + 1, 6, none⟩ (.int .u64 a1)).setCell ⟨w.heap.size + 1, 10, none⟩ (.string ⟨t1.toArray⟩)).setCell ⟨w.heap.size + 1, 11, none⟩ (.string ⟨t2.toArray⟩)) = Wt at HQ ⊢
        obtain ⟨c0, c1, c2, c3, c4, c5, c6, c7, c8, c9, c10, c11, c12⟩ := HQ.out.f.ats
        obtain ⟨d0, d1, d2, d3, d4, d5, d6, d7, d8, d9, d10, d11, d12⟩ := HQ.out.r.ats
        have df := HQ.out.r.fz
        go_wp2
        have HE := Lib.hid (PW.ends (HQ.out))
        refine bodyPost_ret (v := .tuple #[.agg #[.int .u64 F.kind, .int .u64 F.id, .int .u64 F.off, .int .u64 F.max, .int .u64 F.code, .int .u64 F.seq, .int .u64 F.prior, .int .u64 F.delay, .bool F.fin, .string ⟨F.data.toArray⟩, .string ⟨F.cid.toArray⟩, .string ⟨F.token.toArray⟩, .slice F.set.a F.set.n F.set.c], .string ⟨t3.toArray⟩, .bool true]) (by
          change Sem.run Tryd.prog (results _ _) (rstF w.heap.size F Wt) = Result.ok _ (rstF w.heap.size F Wt)
          obtain ⟨y0, y1, y2, y3, y4, y5, y6, y7, y8, y9, y10, y11, y12⟩ := HE.out.1.ats
          generalize (rstF w.heap.size F Wt) = X at y0 y1 y2 y3 y4 y5 y6 y7 y8 y9 y10 y11 y12 ⊢
          simp [results, Tryd.results22, go_sem, y0, y1, y2, y3, y4, y5, y6, y7, y8, y9, y10, y11, y12]) rfl ?_
        exact ⟨HE.out.2, ⟨none, 0, 0⟩, rfl, rd_none _, (fun x hx => by cases hx), by rw [← HFQ.out]; rfl⟩
      · have e8 : ((b0.toNat : Int) == 8) = false := beq_eq_false_iff_ne.2 (fun h => h8 (UInt8.toNat_inj.1 (by show b0.toNat = 8; omega)))
        rw [if_neg (by rw [HN.out]; simpa using h8)]
        clear h8 HN
        go_enter Tryd.func22, Tryd.ntmps22
        go_wp2_with fail
        refine (CSH.out _).mono ?_
        rintro e w1 ⟨rfl, rfl⟩
        go_wp2_with fail
        refine (CSH.out _).mono ?_
        rintro e w1 ⟨rfl, rfl⟩
        go_wp2_with fail
        refine (CN.out _).mono ?_
        rintro e w1 ⟨hb, g, c, rfl, h1, h2⟩
        have HQ1 := Lib.hid (HQ0.out.go hb)
        have hg1 : w.heap.size + 1 < g := by simp only [World.size_alloc] at h1; omega
        have hg2 : g ≠ w.heap.size + 1 := by omega
        have hg3 : w.heap.size + 1 ≠ g := by omega
        clear h1
        have g0 := h2 0 (by decide)
        rw [HA0.out] at g0
        have g1 := h2 1 (by decide)
        rw [HA1.out] at g1
        have HQ := Lib.hid ((HQ1.out.put5 a0).put6 a1)
        clear hb h2
        obtain ⟨c0, c1, c2, c3, c4, c5, c6, c7, c8, c9, c10, c11, c12⟩ := HQ1.out.f.ats
        obtain ⟨d0, d1, d2, d3, d4, d5, d6, d7, d8, d9, d10, d11, d12⟩ := HQ1.out.r.ats
        have cf := HQ1.out.f.fz
        have df := HQ1.out.r.fz
        have hlt := HQ1.out.f.lt
        go_upto_region 66 with (fail)
        clear c0 d0 c1 d1 c2 d2 c3 d3 c4 d4 c5 d5 c6 d6 c7 d7 c8 d8 c9 d9 c10 d10 c11 d11 c12 d12 cf df hlt
        obtain ⟨F, hF⟩ : ∃ F : Frm, ({ frZ with kind := 24, seq := a0, prior := a1 } : Frm) = F := ⟨_, rfl⟩
        have HQ : Hid (PW w F ((w1.setCell ⟨w.heap.size + 1, 5, none⟩ (.int .u64 a0)).setCell ⟨w.heap.size + 1, 6, none⟩ (.int .u64 a1))) := Lib.hid (by rw [← hF]; exact HQ.out)
        have HFQ := Lib.hid hF
        clear hF
        generalize ((w1.setCell ⟨w.heap.size + 1, 5, none⟩ (.int .u64 a0)).setCell ⟨w.heap.size + 1, 6, none⟩ (.int .u64 a1)) = Wt at HQ ⊢
        obtain ⟨c0, c1, c2, c3, c4, c5, c6, c7, c8, c9, c10, c11, c12⟩ := HQ.out.f.ats
        obtain ⟨d0, d1, d2, d3, d4, d5, d6, d7, d8, d9, d10, d11, d12⟩ := HQ.out.r.ats
        have df := HQ.out.r.fz
        go_wp2
        have HE := Lib.hid (PW.ends (HQ.out))
        refine bodyPost_ret (v := .tuple #[.agg #[.int .u64 F.kind, .int .u64 F.id, .int .u64 F.off, .int .u64 F.max, .int .u64 F.code, .int .u64 F.seq, .int .u64 F.prior, .int .u64 F.delay, .bool F.fin, .string ⟨F.data.toArray⟩, .string ⟨F.cid.toArray⟩, .string ⟨F.token.toArray⟩, .slice F.set.a F.set.n F.set.c], .string ⟨r.toArray⟩, .bool false]) (by
          change Sem.run Tryd.prog (results _ _) (rstF w.heap.size F Wt) = Result.ok _ (rstF w.heap.size F Wt)
          obtain ⟨y0, y1, y2, y3, y4, y5, y6, y7, y8, y9, y10, y11, y12⟩ := HE.out.1.ats
          generalize (rstF w.heap.size F Wt) = X at y0 y1 y2 y3 y4 y5 y6 y7 y8 y9 y10 y11 y12 ⊢
          simp [results, Tryd.results22, go_sem, y0, y1, y2, y3, y4, y5, y6, y7, y8, y9, y10, y11, y12]) rfl ?_
        exact ⟨HE.out.2, F, r, rfl⟩
    · rw [if_neg (by unfold nidB; rw [decide_eq_false (by omega)]; simp)]
      go_enter Tryd.func22, Tryd.ntmps22
      go_wp2_with fail
      refine (CSH.out _).mono ?_
      rintro e w1 ⟨rfl, rfl⟩
      go_wp2_with fail
      refine (CSH.out _).mono ?_
      rintro e w1 ⟨rfl, rfl⟩
      go_wp2_with fail
      refine (CN.out _).mono ?_
      rintro e w1 ⟨hb, g, c, rfl, h1, h2⟩
      have HQ1 := Lib.hid (HQ0.out.go hb)
      have hg1 : w.heap.size + 1 < g := by simp only [World.size_alloc] at h1; omega
      have hg2 : g ≠ w.heap.size + 1 := by omega
      have hg3 : w.heap.size + 1 ≠ g := by omega
      clear h1
      have g0 := h2 0 (by decide)
      rw [HA0.out] at g0
      have g1 := h2 1 (by decide)
      rw [HA1.out] at g1
      have HQ := Lib.hid ((HQ1.out.put5 a0).put6 a1)
      clear hb h2
      obtain ⟨c0, c1, c2, c3, c4, c5, c6, c7, c8, c9, c10, c11, c12⟩ := HQ1.out.f.ats
      obtain ⟨d0, d1, d2, d3, d4, d5, d6, d7, d8, d9, d10, d11, d12⟩ := HQ1.out.r.ats
      have cf := HQ1.out.f.fz
      have df := HQ1.out.r.fz
      have hlt := HQ1.out.f.lt
      go_upto_region 66 with (fail)
      clear c0 d0 c1 d1 c2 d2 c3 d3 c4 d4 c5 d5 c6 d6 c7 d7 c8 d8 c9 d9 c10 d10 c11 d11 c12 d12 cf df hlt
      obtain ⟨F, hF⟩ : ∃ F : Frm, ({ frZ with kind := 24, seq := a0, prior := a1 } : Frm) = F := ⟨_, rfl⟩
      have HQ : Hid (PW w F ((w1.setCell ⟨w.heap.size + 1, 5, none⟩ (.int .u64 a0)).setCell ⟨w.heap.size + 1, 6, none⟩ (.int .u64 a1))) := Lib.hid (by rw [← hF]; exact HQ.out)
      have HFQ := Lib.hid hF
      clear hF
      generalize ((w1.setCell ⟨w.heap.size + 1, 5, none⟩ (.int .u64 a0)).setCell ⟨w.heap.size + 1, 6, none⟩ (.int .u64 a1)) = Wt at HQ ⊢
      obtain ⟨c0, c1, c2, c3, c4, c5, c6, c7, c8, c9, c10, c11, c12⟩ := HQ.out.f.ats
      obtain ⟨d0, d1, d2, d3, d4, d5, d6, d7, d8, d9, d10, d11, d12⟩ := HQ.out.r.ats
      have df := HQ.out.r.fz
      go_wp2
      have HE := Lib.hid (PW.ends (HQ.out))
      refine bodyPost_ret (v := .tuple #[.agg #[.int .u64 F.kind, .int .u64 F.id, .int .u64 F.off, .int .u64 F.max, .int .u64 F.code, .int .u64 F.seq, .int .u64 F.prior, .int .u64 F.delay, .bool F.fin, .string ⟨F.data.toArray⟩, .string ⟨F.cid.toArray⟩, .string ⟨F.token.toArray⟩, .slice F.set.a F.set.n F.set.c], .string ⟨r.toArray⟩, .bool false]) (by
        change Sem.run Tryd.prog (results _ _) (rstF w.heap.size F Wt) = Result.ok _ (rstF w.heap.size F Wt)
        obtain ⟨y0, y1, y2, y3, y4, y5, y6, y7, y8, y9, y10, y11, y12⟩ := HE.out.1.ats
        generalize (rstF w.heap.size F Wt) = X at y0 y1 y2 y3 y4 y5 y6 y7 y8 y9 y10 y11 y12 ⊢
        simp [results, Tryd.results22, go_sem, y0, y1, y2, y3, y4, y5, y6, y7, y8, y9, y10, y11, y12]) rfl ?_
      exact ⟨HE.out.2, F, r, rfl⟩
end
end Go.Proofs.YtfeecfdbncjmnaaDoor.Fm
