/- Layer 6: FgH, FgI, FgJ, joined by tools/pack.py. -/
import Derived.Test.YtfeecfdbncjmnaaDoorFzD
import Derived.Test.YtfeecfdbncjmnaaDoorFzC
import Derived.Deep.QuietTactic
import Derived.BigQuiet
import Derived.Deep.CutRange
namespace Go.Proofs.YtfeecfdbncjmnaaDoor.Fm
set_option maxRecDepth 20000
open Go.RowKit Vm
set_option linter.unusedVariables false
set_option linter.unusedSimpArgs false
section
theorem PW.start8 (fin : Bool) (w : World) : PW w { frZ with kind := 8, fin := fin } (((w.alloc (.cells #[.int .u64 0, .int .u64 0, .int .u64 0, .int .u64 0, .int .u64 0, .int .u64 0, .int .u64 0, .int .u64 0, .bool false, .string ⟨#[]⟩, .string ⟨#[]⟩, .string ⟨#[]⟩, .slice none 0 0] 34)).alloc (.cells #[.int .u64 8, .int .u64 0, .int .u64 0, .int .u64 0, .int .u64 0, .int .u64 0, .int .u64 0, .int .u64 0, .bool fin, .string ⟨#[]⟩, .string ⟨#[]⟩, .string ⟨#[]⟩, .slice none 0 0] 34)).alloc (.cells #[] 23)) := by
  refine ⟨?_, ?_, ?_⟩
  · exact (Below.heap_alloc _ _ _ (by simp; omega)).trans ((Below.heap_alloc _ _ _ (by simp)).trans (World.alloc_heap_new w _))
  · refine (Below.heap_alloc _ _ _ (by simp)).trans ?_
    have := World.alloc_heap_new (w.alloc (.cells #[.int .u64 0, .int .u64 0, .int .u64 0, .int .u64 0, .int .u64 0, .int .u64 0, .int .u64 0, .int .u64 0, .bool false, .string ⟨#[]⟩, .string ⟨#[]⟩, .string ⟨#[]⟩, .slice none 0 0] 34)) (.cells #[.int .u64 8, .int .u64 0, .int .u64 0, .int .u64 0, .int .u64 0, .int .u64 0, .int .u64 0, .int .u64 0, .bool fin, .string ⟨#[]⟩, .string ⟨#[]⟩, .string ⟨#[]⟩, .slice none 0 0] 34)
    rwa [World.size_alloc] at this
  · exact (((Below.refl _ _).alloc (Nat.le_refl _) _).alloc (by simp) _).alloc (by simp; omega) _
set_option maxHeartbeats 16000000 in
theorem rparts_8 (l : List UInt8) (w : World) (hl : l.length ≤ 4000) : Calls Tryd.prog 22 #[.int .u64 8, .string ⟨l.toArray⟩] w (PtTo (if gk l ≤ l.length then some ({ frZ with kind := 8, fin := false, id := (gN l : Nat), data := gR l }, [], []) else none) w) := by
  have CN := Lib.hid (fun w => rnumber l w (by omega))
  have HQ0 := Lib.hid (PW.start8 false w)
  clear hl
  obtain ⟨n, hn⟩ : ∃ n : Int, ((gN l : Nat) : Int) = n := ⟨_, rfl⟩
  obtain ⟨r, hr⟩ : ∃ r, gR l = r := ⟨_, rfl⟩
  rw [hn, hr] at CN
  rw [hn, hr]
  clear hn hr
  by_cases h : gk l ≤ l.length
  · rw [decide_eq_true h] at CN
    rw [if_pos h]
    clear h
    go_enter Tryd.func22, Tryd.ntmps22
    go_wp2_with fail
    refine (CN.out _).mono ?_
    rintro e w1 ⟨rfl, hb⟩
    have HQ1 := Lib.hid (HQ0.out.go hb)
    have HQ := Lib.hid (HQ1.out.put1 n)
    clear hb
    obtain ⟨c0, c1, c2, c3, c4, c5, c6, c7, c8, c9, c10, c11, c12⟩ := HQ1.out.f.ats
    obtain ⟨d0, d1, d2, d3, d4, d5, d6, d7, d8, d9, d10, d11, d12⟩ := HQ1.out.r.ats
    have cf := HQ1.out.f.fz
    have df := HQ1.out.r.fz
    have hlt := HQ1.out.f.lt
    have HQ9 : Hid (PW w { frZ with kind := 8, fin := false, id := n, data := r } ((w1.setCell ⟨w.heap.size + 1, 1, none⟩ (.int .u64 n)).setCell ⟨w.heap.size + 1, 9, none⟩ (.string ⟨r.toArray⟩))) := Lib.hid (HQ.out.put9 r)
    clear HQ
    have HQ := HQ9
    clear HQ9
    go_upto_region 66 with (fail)
    clear c0 d0 c1 d1 c2 d2 c3 d3 c4 d4 c5 d5 c6 d6 c7 d7 c8 d8 c9 d9 c10 d10 c11 d11 c12 d12 cf df hlt
    obtain ⟨F, hF⟩ : ∃ F : Frm, ({ frZ with kind := 8, fin := false, id := n, data := r } : Frm) = F := ⟨_, rfl⟩
    have HQ : Hid (PW w F ((w1.setCell ⟨w.heap.size + 1, 1, none⟩ (.int .u64 n)).setCell ⟨w.heap.size + 1, 9, none⟩ (.string ⟨r.toArray⟩))) := Lib.hid (by rw [← hF]; exact HQ.out)
    have HFQ := Lib.hid hF
    clear hF
    generalize ((w1.setCell ⟨w.heap.size + 1, 1, none⟩ (.int .u64 n)).setCell ⟨w.heap.size + 1, 9, none⟩ (.string ⟨r.toArray⟩)) = Wt at HQ ⊢
    obtain ⟨c0, c1, c2, c3, c4, c5, c6, c7, c8, c9, c10, c11, c12⟩ := HQ.out.f.ats
    obtain ⟨d0, d1, d2, d3, d4, d5, d6, d7, d8, d9, d10, d11, d12⟩ := HQ.out.r.ats
    have df := HQ.out.r.fz
    go_wp2
    have HE := Lib.hid (PW.ends (HQ.out))
    refine bodyPost_ret (v := .tuple #[.agg #[.int .u64 F.kind, .int .u64 F.id, .int .u64 F.off, .int .u64 F.max, .int .u64 F.code, .int .u64 F.seq, .int .u64 F.prior, .int .u64 F.delay, .bool F.fin, .string ⟨F.data.toArray⟩, .string ⟨F.cid.toArray⟩, .string ⟨F.token.toArray⟩, .slice F.set.a F.set.n F.set.c], .string ⟨([] : List UInt8).toArray⟩, .bool true]) (by
      change Sem.run Tryd.prog (results _ _) (rstF w.heap.size F Wt) = Result.ok _ (rstF w.heap.size F Wt)
      obtain ⟨y0, y1, y2, y3, y4, y5, y6, y7, y8, y9, y10, y11, y12⟩ := HE.out.1.ats
      generalize (rstF w.heap.size F Wt) = X at y0 y1 y2 y3 y4 y5 y6 y7 y8 y9 y10 y11 y12 ⊢
      simp [results, Tryd.results22, go_sem, y0, y1, y2, y3, y4, y5, y6, y7, y8, y9, y10, y11, y12]) rfl ?_
    exact ⟨HE.out.2, ⟨none, 0, 0⟩, rfl, rd_none _, (fun x hx => by cases hx), by rw [← HFQ.out]; rfl⟩
  · rw [decide_eq_false h] at CN
    rw [if_neg h]
    clear h
    go_enter Tryd.func22, Tryd.ntmps22
    go_wp2_with fail
    refine (CN.out _).mono ?_
    rintro e w1 ⟨rfl, hb⟩
    have HQ1 := Lib.hid (HQ0.out.go hb)
    have HQ := Lib.hid (HQ1.out.put1 n)
    clear hb
    obtain ⟨c0, c1, c2, c3, c4, c5, c6, c7, c8, c9, c10, c11, c12⟩ := HQ1.out.f.ats
    obtain ⟨d0, d1, d2, d3, d4, d5, d6, d7, d8, d9, d10, d11, d12⟩ := HQ1.out.r.ats
    have cf := HQ1.out.f.fz
    have df := HQ1.out.r.fz
    have hlt := HQ1.out.f.lt
    go_upto_region 66 with (fail)
    clear c0 d0 c1 d1 c2 d2 c3 d3 c4 d4 c5 d5 c6 d6 c7 d7 c8 d8 c9 d9 c10 d10 c11 d11 c12 d12 cf df hlt
    obtain ⟨F, hF⟩ : ∃ F : Frm, ({ frZ with kind := 8, fin := false, id := n } : Frm) = F := ⟨_, rfl⟩
    have HQ : Hid (PW w F (w1.setCell ⟨w.heap.size + 1, 1, none⟩ (.int .u64 n))) := Lib.hid (by rw [← hF]; exact HQ.out)
    have HFQ := Lib.hid hF
    clear hF
    generalize (w1.setCell ⟨w.heap.size + 1, 1, none⟩ (.int .u64 n)) = Wt at HQ ⊢
    obtain ⟨c0, c1, c2, c3, c4, c5, c6, c7, c8, c9, c10, c11, c12⟩ := HQ.out.f.ats
    obtain ⟨d0, d1, d2, d3, d4, d5, d6, d7, d8, d9, d10, d11, d12⟩ := HQ.out.r.ats
    have df := HQ.out.r.fz
    go_wp2
    have HE := Lib.hid (PW.ends (HQ.out))
    refine bodyPost_ret (v := .tuple #[.agg #[.int .u64 F.kind, .int .u64 F.id, .int .u64 F.off, .int .u64 F.max, .int .u64 F.code, .int .u64 F.seq, .int .u64 F.prior, .int .u64 F.delay, .bool F.fin, .string ⟨F.data.toArray⟩, .string ⟨F.cid.toArray⟩, .string ⟨F.token.toArray⟩, .slice F.set.a F.set.n F.set.c], .string ⟨r.toArray⟩, .bool false]) (by
      change Sem.run Tryd.prog (results _ _) (rstF w.heap.size F Wt) = Result.ok _ (rstF w.heap.size F Wt)
      obtain ⟨y0, y1, y2, y3, y4, y5, y6, y7, y8, y9, y10, y11, y12⟩ := HE.out.1.ats
      generalize (rstF w.heap.size F Wt) = X at y0 y1 y2 y3 y4 y5 y6 y7 y8 y9 y10 y11 y12 ⊢
      simp [results, Tryd.results22, go_sem, y0, y1, y2, y3, y4, y5, y6, y7, y8, y9, y10, y11, y12]) rfl ?_
    exact ⟨HE.out.2, F, r, rfl⟩
set_option maxHeartbeats 16000000 in
theorem rparts_9 (l : List UInt8) (w : World) (hl : l.length ≤ 4000) : Calls Tryd.prog 22 #[.int .u64 9, .string ⟨l.toArray⟩] w (PtTo (if gk l ≤ l.length then some ({ frZ with kind := 8, fin := true, id := (gN l : Nat), data := gR l }, [], []) else none) w) := by
  have CN := Lib.hid (fun w => rnumber l w (by omega))
  have HQ0 := Lib.hid (PW.start8 true w)
  clear hl
  obtain ⟨n, hn⟩ : ∃ n : Int, ((gN l : Nat) : Int) = n := ⟨_, rfl⟩
  obtain ⟨r, hr⟩ : ∃ r, gR l = r := ⟨_, rfl⟩
  rw [hn, hr] at CN
  rw [hn, hr]
  clear hn hr
  by_cases h : gk l ≤ l.length
  · rw [decide_eq_true h] at CN
    rw [if_pos h]
    clear h
    go_enter Tryd.func22, Tryd.ntmps22
    go_wp2_with fail
    refine (CN.out _).mono ?_
    rintro e w1 ⟨rfl, hb⟩
    have HQ1 := Lib.hid (HQ0.out.go hb)
    have HQ := Lib.hid (HQ1.out.put1 n)
    clear hb
    obtain ⟨c0, c1, c2, c3, c4, c5, c6, c7, c8, c9, c10, c11, c12⟩ := HQ1.out.f.ats
    obtain ⟨d0, d1, d2, d3, d4, d5, d6, d7, d8, d9, d10, d11, d12⟩ := HQ1.out.r.ats
    have cf := HQ1.out.f.fz
    have df := HQ1.out.r.fz
    have hlt := HQ1.out.f.lt
    have HQ9 : Hid (PW w { frZ with kind := 8, fin := true, id := n, data := r } ((w1.setCell ⟨w.heap.size + 1, 1, none⟩ (.int .u64 n)).setCell ⟨w.heap.size + 1, 9, none⟩ (.string ⟨r.toArray⟩))) := Lib.hid (HQ.out.put9 r)
    clear HQ
    have HQ := HQ9
    clear HQ9
    go_upto_region 66 with (fail)
    clear c0 d0 c1 d1 c2 d2 c3 d3 c4 d4 c5 d5 c6 d6 c7 d7 c8 d8 c9 d9 c10 d10 c11 d11 c12 d12 cf df hlt
    obtain ⟨F, hF⟩ : ∃ F : Frm, ({ frZ with kind := 8, fin := true, id := n, data := r } : Frm) = F := ⟨_, rfl⟩
    have HQ : Hid (PW w F ((w1.setCell ⟨w.heap.size + 1, 1, none⟩ (.int .u64 n)).setCell ⟨w.heap.size + 1, 9, none⟩ (.string ⟨r.toArray⟩))) := Lib.hid (by rw [← hF]; exact HQ.out)
    have HFQ := Lib.hid hF
    clear hF
    generalize ((w1.setCell ⟨w.heap.size + 1, 1, none⟩ (.int .u64 n)).setCell ⟨w.heap.size + 1, 9, none⟩ (.string ⟨r.toArray⟩)) = Wt at HQ ⊢
    obtain ⟨c0, c1, c2, c3, c4, c5, c6, c7, c8, c9, c10, c11, c12⟩ := HQ.out.f.ats
    obtain ⟨d0, d1, d2, d3, d4, d5, d6, d7, d8, d9, d10, d11, d12⟩ := HQ.out.r.ats
    have df := HQ.out.r.fz
    go_wp2
    have HE := Lib.hid (PW.ends (HQ.out))
    refine bodyPost_ret (v := .tuple #[.agg #[.int .u64 F.kind, .int .u64 F.id, .int .u64 F.off, .int .u64 F.max, .int .u64 F.code, .int .u64 F.seq, .int .u64 F.prior, .int .u64 F.delay, .bool F.fin, .string ⟨F.data.toArray⟩, .string ⟨F.cid.toArray⟩, .string ⟨F.token.toArray⟩, .slice F.set.a F.set.n F.set.c], .string ⟨([] : List UInt8).toArray⟩, .bool true]) (by
      change Sem.run Tryd.prog (results _ _) (rstF w.heap.size F Wt) = Result.ok _ (rstF w.heap.size F Wt)
      obtain ⟨y0, y1, y2, y3, y4, y5, y6, y7, y8, y9, y10, y11, y12⟩ := HE.out.1.ats
      generalize (rstF w.heap.size F Wt) = X at y0 y1 y2 y3 y4 y5 y6 y7 y8 y9 y10 y11 y12 ⊢
      simp [results, Tryd.results22, go_sem, y0, y1, y2, y3, y4, y5, y6, y7, y8, y9, y10, y11, y12]) rfl ?_
    exact ⟨HE.out.2, ⟨none, 0, 0⟩, rfl, rd_none _, (fun x hx => by cases hx), by rw [← HFQ.out]; rfl⟩
  · rw [decide_eq_false h] at CN
    rw [if_neg h]
    clear h
    go_enter Tryd.func22, Tryd.ntmps22
    go_wp2_with fail
    refine (CN.out _).mono ?_
    rintro e w1 ⟨rfl, hb⟩
    have HQ1 := Lib.hid (HQ0.out.go hb)
    have HQ := Lib.hid (HQ1.out.put1 n)
    clear hb
    obtain ⟨c0, c1, c2, c3, c4, c5, c6, c7, c8, c9, c10, c11, c12⟩ := HQ1.out.f.ats
    obtain ⟨d0, d1, d2, d3, d4, d5, d6, d7, d8, d9, d10, d11, d12⟩ := HQ1.out.r.ats
    have cf := HQ1.out.f.fz
    have df := HQ1.out.r.fz
    have hlt := HQ1.out.f.lt
    go_upto_region 66 with (fail)
    clear c0 d0 c1 d1 c2 d2 c3 d3 c4 d4 c5 d5 c6 d6 c7 d7 c8 d8 c9 d9 c10 d10 c11 d11 c12 d12 cf df hlt
    obtain ⟨F, hF⟩ : ∃ F : Frm, ({ frZ with kind := 8, fin := true, id := n } : Frm) = F := ⟨_, rfl⟩
    have HQ : Hid (PW w F (w1.setCell ⟨w.heap.size + 1, 1, none⟩ (.int .u64 n))) := Lib.hid (by rw [← hF]; exact HQ.out)
    have HFQ := Lib.hid hF
    clear hF
    generalize (w1.setCell ⟨w.heap.size + 1, 1, none⟩ (.int .u64 n)) = Wt at HQ ⊢
    obtain ⟨c0, c1, c2, c3, c4, c5, c6, c7, c8, c9, c10, c11, c12⟩ := HQ.out.f.ats
    obtain ⟨d0, d1, d2, d3, d4, d5, d6, d7, d8, d9, d10, d11, d12⟩ := HQ.out.r.ats
    have df := HQ.out.r.fz
    go_wp2
    have HE := Lib.hid (PW.ends (HQ.out))
    refine bodyPost_ret (v := .tuple #[.agg #[.int .u64 F.kind, .int .u64 F.id, .int .u64 F.off, .int .u64 F.max, .int .u64 F.code, .int .u64 F.seq, .int .u64 F.prior, .int .u64 F.delay, .bool F.fin, .string ⟨F.data.toArray⟩, .string ⟨F.cid.toArray⟩, .string ⟨F.token.toArray⟩, .slice F.set.a F.set.n F.set.c], .string ⟨r.toArray⟩, .bool false]) (by
      change Sem.run Tryd.prog (results _ _) (rstF w.heap.size F Wt) = Result.ok _ (rstF w.heap.size F Wt)
      obtain ⟨y0, y1, y2, y3, y4, y5, y6, y7, y8, y9, y10, y11, y12⟩ := HE.out.1.ats
      generalize (rstF w.heap.size F Wt) = X at y0 y1 y2 y3 y4 y5 y6 y7 y8 y9 y10 y11 y12 ⊢
      simp [results, Tryd.results22, go_sem, y0, y1, y2, y3, y4, y5, y6, y7, y8, y9, y10, y11, y12]) rfl ?_
    exact ⟨HE.out.2, F, r, rfl⟩
end
section
set_option maxHeartbeats 16000000 in
theorem rparts_10 (l : List UInt8) (w : World) (hl : l.length ≤ 4000) : Calls Tryd.prog 22 #[.int .u64 10, .string ⟨l.toArray⟩] w (PtTo (if gk l ≤ l.length then (match lngN (gR l) with | some (t, q) => some ({ frZ with kind := 8, fin := false, id := (gN l : Nat), data := t }, [], q) | none => none) else none) w) := by
  have CN := Lib.hid (fun w => rnumber l w (by omega))
  have HQ0 := Lib.hid (PW.start8 false w)
  have CL := Lib.hid (fun w => rlong (gR l) w (Nat.le_trans (gR_le l) (by omega)))
  clear hl
  obtain ⟨n, hn⟩ : ∃ n : Int, ((gN l : Nat) : Int) = n := ⟨_, rfl⟩
  obtain ⟨r, hr⟩ : ∃ r, gR l = r := ⟨_, rfl⟩
  rw [hn, hr] at CN
  rw [hr] at CL
  rw [hn, hr]
  clear hn hr
  by_cases h : gk l ≤ l.length
  · rw [decide_eq_true h] at CN
    rw [if_pos h]
    clear h
    match hg : lngN r with
    | none =>
      rw [hg] at CL
      clear hg
      go_enter Tryd.func22, Tryd.ntmps22
      go_wp2_with fail
      refine (CN.out _).mono ?_
      rintro e w1 ⟨rfl, hb⟩
      have HQ1 := Lib.hid (HQ0.out.go hb)
      have HQ := Lib.hid (HQ1.out.put1 n)
      clear hb
      obtain ⟨c0, c1, c2, c3, c4, c5, c6, c7, c8, c9, c10, c11, c12⟩ := HQ1.out.f.ats
      obtain ⟨d0, d1, d2, d3, d4, d5, d6, d7, d8, d9, d10, d11, d12⟩ := HQ1.out.r.ats
      have cf := HQ1.out.f.fz
      have df := HQ1.out.r.fz
      have hlt := HQ1.out.f.lt
      go_wp2_with fail
      refine (CL.out _).mono ?_
      rintro e w2 ⟨hb, rfl⟩
      have HQ4 := Lib.hid (HQ.out.go hb)
      clear hb c0 d0 c1 d1 c2 d2 c3 d3 c4 d4 c5 d5 c6 d6 c7 d7 c8 d8 c9 d9 c10 d10 c11 d11 c12 d12 cf df hlt HQ
      obtain ⟨F2, hF2⟩ : ∃ F : Frm, ({ frZ with kind := 8, fin := false, id := n } : Frm) = F := ⟨_, rfl⟩
      have HQ5 : Hid (PW w F2 w2) := Lib.hid (by rw [← hF2]; exact HQ4.out)
      have HF2 := Lib.hid hF2
      clear hF2 HQ4
      have HQ : Hid (PW w { F2 with data := [] } (w2.setCell ⟨w.heap.size + 1, 9, none⟩ (.string ⟨#[]⟩))) := Lib.hid (HQ5.out.put9 [])
      obtain ⟨c0, c1, c2, c3, c4, c5, c6, c7, c8, c9, c10, c11, c12⟩ := HQ5.out.f.ats
      obtain ⟨d0, d1, d2, d3, d4, d5, d6, d7, d8, d9, d10, d11, d12⟩ := HQ5.out.r.ats
      have cf := HQ5.out.f.fz
      have df := HQ5.out.r.fz
      have hlt := HQ5.out.f.lt
      go_upto_region 66 with (fail)
      clear c0 d0 c1 d1 c2 d2 c3 d3 c4 d4 c5 d5 c6 d6 c7 d7 c8 d8 c9 d9 c10 d10 c11 d11 c12 d12 cf df hlt
      obtain ⟨F, hF⟩ : ∃ F : Frm, ({ F2 with data := [] } : Frm) = F := ⟨_, rfl⟩
      have HQ : Hid (PW w F (w2.setCell ⟨w.heap.size + 1, 9, none⟩ (.string ⟨#[]⟩))) := Lib.hid (by rw [← hF]; exact HQ.out)
      have HFQ := Lib.hid hF
      clear hF
      generalize (w2.setCell ⟨w.heap.size + 1, 9, none⟩ (.string ⟨#[]⟩)) = Wt at HQ ⊢
      obtain ⟨c0, c1, c2, c3, c4, c5, c6, c7, c8, c9, c10, c11, c12⟩ := HQ.out.f.ats
      obtain ⟨d0, d1, d2, d3, d4, d5, d6, d7, d8, d9, d10, d11, d12⟩ := HQ.out.r.ats
      have df := HQ.out.r.fz
      go_wp2
      have HE := Lib.hid (PW.ends (HQ.out))
      refine bodyPost_ret (v := .tuple #[.agg #[.int .u64 F.kind, .int .u64 F.id, .int .u64 F.off, .int .u64 F.max, .int .u64 F.code, .int .u64 F.seq, .int .u64 F.prior, .int .u64 F.delay, .bool F.fin, .string ⟨F.data.toArray⟩, .string ⟨F.cid.toArray⟩, .string ⟨F.token.toArray⟩, .slice F.set.a F.set.n F.set.c], .string ⟨([] : List UInt8).toArray⟩, .bool false]) (by
        change Sem.run Tryd.prog (results _ _) (rstF w.heap.size F Wt) = Result.ok _ (rstF w.heap.size F Wt)
        obtain ⟨y0, y1, y2, y3, y4, y5, y6, y7, y8, y9, y10, y11, y12⟩ := HE.out.1.ats
        generalize (rstF w.heap.size F Wt) = X at y0 y1 y2 y3 y4 y5 y6 y7 y8 y9 y10 y11 y12 ⊢
        simp [results, Tryd.results22, go_sem, y0, y1, y2, y3, y4, y5, y6, y7, y8, y9, y10, y11, y12]) rfl ?_
      exact ⟨HE.out.2, F, [], rfl⟩
    | some (t, q) =>
      rw [hg] at CL
      clear hg
      go_enter Tryd.func22, Tryd.ntmps22
      go_wp2_with fail
      refine (CN.out _).mono ?_
      rintro e w1 ⟨rfl, hb⟩
      have HQ1 := Lib.hid (HQ0.out.go hb)
      have HQ := Lib.hid (HQ1.out.put1 n)
      clear hb
      obtain ⟨c0, c1, c2, c3, c4, c5, c6, c7, c8, c9, c10, c11, c12⟩ := HQ1.out.f.ats
      obtain ⟨d0, d1, d2, d3, d4, d5, d6, d7, d8, d9, d10, d11, d12⟩ := HQ1.out.r.ats
      have cf := HQ1.out.f.fz
      have df := HQ1.out.r.fz
      have hlt := HQ1.out.f.lt
      go_wp2_with fail
      refine (CL.out _).mono ?_
      rintro e w2 ⟨hb, rfl⟩
      have HQ4 := Lib.hid (HQ.out.go hb)
      clear hb c0 d0 c1 d1 c2 d2 c3 d3 c4 d4 c5 d5 c6 d6 c7 d7 c8 d8 c9 d9 c10 d10 c11 d11 c12 d12 cf df hlt HQ
      obtain ⟨F2, hF2⟩ : ∃ F : Frm, ({ frZ with kind := 8, fin := false, id := n } : Frm) = F := ⟨_, rfl⟩
      have HQ5 : Hid (PW w F2 w2) := Lib.hid (by rw [← hF2]; exact HQ4.out)
      have HF2 := Lib.hid hF2
      clear hF2 HQ4
      have HQ : Hid (PW w { F2 with data := t } (w2.setCell ⟨w.heap.size + 1, 9, none⟩ (.string ⟨t.toArray⟩))) := Lib.hid (HQ5.out.put9 t)
      obtain ⟨c0, c1, c2, c3, c4, c5, c6, c7, c8, c9, c10, c11, c12⟩ := HQ5.out.f.ats
      obtain ⟨d0, d1, d2, d3, d4, d5, d6, d7, d8, d9, d10, d11, d12⟩ := HQ5.out.r.ats
      have cf := HQ5.out.f.fz
      have df := HQ5.out.r.fz
      have hlt := HQ5.out.f.lt
      go_upto_region 66 with (fail)
      clear c0 d0 c1 d1 c2 d2 c3 d3 c4 d4 c5 d5 c6 d6 c7 d7 c8 d8 c9 d9 c10 d10 c11 d11 c12 d12 cf df hlt
      obtain ⟨F, hF⟩ : ∃ F : Frm, ({ F2 with data := t } : Frm) = F := ⟨_, rfl⟩
      have HQ : Hid (PW w F (w2.setCell ⟨w.heap.size + 1, 9, none⟩ (.string ⟨t.toArray⟩))) := Lib.hid (by rw [← hF]; exact HQ.out)
      have HFQ := Lib.hid hF
      clear hF
      generalize (w2.setCell ⟨w.heap.size + 1, 9, none⟩ (.string ⟨t.toArray⟩)) = Wt at HQ ⊢
      obtain ⟨c0, c1, c2, c3, c4, c5, c6, c7, c8, c9, c10, c11, c12⟩ := HQ.out.f.ats
      obtain ⟨d0, d1, d2, d3, d4, d5, d6, d7, d8, d9, d10, d11, d12⟩ := HQ.out.r.ats
      have df := HQ.out.r.fz
      go_wp2
      have HE := Lib.hid (PW.ends (HQ.out))
      refine bodyPost_ret (v := .tuple #[.agg #[.int .u64 F.kind, .int .u64 F.id, .int .u64 F.off, .int .u64 F.max, .int .u64 F.code, .int .u64 F.seq, .int .u64 F.prior, .int .u64 F.delay, .bool F.fin, .string ⟨F.data.toArray⟩, .string ⟨F.cid.toArray⟩, .string ⟨F.token.toArray⟩, .slice F.set.a F.set.n F.set.c], .string ⟨q.toArray⟩, .bool true]) (by
        change Sem.run Tryd.prog (results _ _) (rstF w.heap.size F Wt) = Result.ok _ (rstF w.heap.size F Wt)
        obtain ⟨y0, y1, y2, y3, y4, y5, y6, y7, y8, y9, y10, y11, y12⟩ := HE.out.1.ats
        generalize (rstF w.heap.size F Wt) = X at y0 y1 y2 y3 y4 y5 y6 y7 y8 y9 y10 y11 y12 ⊢
        simp [results, Tryd.results22, go_sem, y0, y1, y2, y3, y4, y5, y6, y7, y8, y9, y10, y11, y12]) rfl ?_
      exact ⟨HE.out.2, ⟨none, 0, 0⟩, rfl, rd_none _, (fun x hx => by cases hx), by rw [← HFQ.out, ← HF2.out]; rfl⟩
  · rw [decide_eq_false h] at CN
    rw [if_neg h]
    clear h
    go_enter Tryd.func22, Tryd.ntmps22
    go_wp2_with fail
    refine (CN.out _).mono ?_
    rintro e w1 ⟨rfl, hb⟩
    have HQ1 := Lib.hid (HQ0.out.go hb)
    have HQ := Lib.hid (HQ1.out.put1 n)
    clear hb
    obtain ⟨c0, c1, c2, c3, c4, c5, c6, c7, c8, c9, c10, c11, c12⟩ := HQ1.out.f.ats
    obtain ⟨d0, d1, d2, d3, d4, d5, d6, d7, d8, d9, d10, d11, d12⟩ := HQ1.out.r.ats
    have cf := HQ1.out.f.fz
    have df := HQ1.out.r.fz
    have hlt := HQ1.out.f.lt
    go_upto_region 66 with (fail)
    clear c0 d0 c1 d1 c2 d2 c3 d3 c4 d4 c5 d5 c6 d6 c7 d7 c8 d8 c9 d9 c10 d10 c11 d11 c12 d12 cf df hlt
    obtain ⟨F, hF⟩ : ∃ F : Frm, ({ frZ with kind := 8, fin := false, id := n } : Frm) = F := ⟨_, rfl⟩
    have HQ : Hid (PW w F (w1.setCell ⟨w.heap.size + 1, 1, none⟩ (.int .u64 n))) := Lib.hid (by rw [← hF]; exact HQ.out)
    have HFQ := Lib.hid hF
    clear hF
    generalize (w1.setCell ⟨w.heap.size + 1, 1, none⟩ (.int .u64 n)) = Wt at HQ ⊢
    obtain ⟨c0, c1, c2, c3, c4, c5, c6, c7, c8, c9, c10, c11, c12⟩ := HQ.out.f.ats
    obtain ⟨d0, d1, d2, d3, d4, d5, d6, d7, d8, d9, d10, d11, d12⟩ := HQ.out.r.ats
    have df := HQ.out.r.fz
    go_wp2
    have HE := Lib.hid (PW.ends (HQ.out))
    refine bodyPost_ret (v := .tuple #[.agg #[.int .u64 F.kind, .int .u64 F.id, .int .u64 F.off, .int .u64 F.max, .int .u64 F.code, .int .u64 F.seq, .int .u64 F.prior, .int .u64 F.delay, .bool F.fin, .string ⟨F.data.toArray⟩, .string ⟨F.cid.toArray⟩, .string ⟨F.token.toArray⟩, .slice F.set.a F.set.n F.set.c], .string ⟨r.toArray⟩, .bool false]) (by
      change Sem.run Tryd.prog (results _ _) (rstF w.heap.size F Wt) = Result.ok _ (rstF w.heap.size F Wt)
      obtain ⟨y0, y1, y2, y3, y4, y5, y6, y7, y8, y9, y10, y11, y12⟩ := HE.out.1.ats
      generalize (rstF w.heap.size F Wt) = X at y0 y1 y2 y3 y4 y5 y6 y7 y8 y9 y10 y11 y12 ⊢
      simp [results, Tryd.results22, go_sem, y0, y1, y2, y3, y4, y5, y6, y7, y8, y9, y10, y11, y12]) rfl ?_
    exact ⟨HE.out.2, F, r, rfl⟩
set_option maxHeartbeats 16000000 in
theorem rparts_11 (l : List UInt8) (w : World) (hl : l.length ≤ 4000) : Calls Tryd.prog 22 #[.int .u64 11, .string ⟨l.toArray⟩] w (PtTo (if gk l ≤ l.length then (match lngN (gR l) with | some (t, q) => some ({ frZ with kind := 8, fin := true, id := (gN l : Nat), data := t }, [], q) | none => none) else none) w) := by
  have CN := Lib.hid (fun w => rnumber l w (by omega))
  have HQ0 := Lib.hid (PW.start8 true w)
  have CL := Lib.hid (fun w => rlong (gR l) w (Nat.le_trans (gR_le l) (by omega)))
  clear hl
  obtain ⟨n, hn⟩ : ∃ n : Int, ((gN l : Nat) : Int) = n := ⟨_, rfl⟩
  obtain ⟨r, hr⟩ : ∃ r, gR l = r := ⟨_, rfl⟩
  rw [hn, hr] at CN
  rw [hr] at CL
  rw [hn, hr]
  clear hn hr
  by_cases h : gk l ≤ l.length
  · rw [decide_eq_true h] at CN
    rw [if_pos h]
    clear h
    match hg : lngN r with
    | none =>
      rw [hg] at CL
      clear hg
      go_enter Tryd.func22, Tryd.ntmps22
      go_wp2_with fail
      refine (CN.out _).mono ?_
      rintro e w1 ⟨rfl, hb⟩
      have HQ1 := Lib.hid (HQ0.out.go hb)
      have HQ := Lib.hid (HQ1.out.put1 n)
      clear hb
      obtain ⟨c0, c1, c2, c3, c4, c5, c6, c7, c8, c9, c10, c11, c12⟩ := HQ1.out.f.ats
      obtain ⟨d0, d1, d2, d3, d4, d5, d6, d7, d8, d9, d10, d11, d12⟩ := HQ1.out.r.ats
      have cf := HQ1.out.f.fz
      have df := HQ1.out.r.fz
      have hlt := HQ1.out.f.lt
      go_wp2_with fail
      refine (CL.out _).mono ?_
      rintro e w2 ⟨hb, rfl⟩
      have HQ4 := Lib.hid (HQ.out.go hb)
      clear hb c0 d0 c1 d1 c2 d2 c3 d3 c4 d4 c5 d5 c6 d6 c7 d7 c8 d8 c9 d9 c10 d10 c11 d11 c12 d12 cf df hlt HQ
      obtain ⟨F2, hF2⟩ : ∃ F : Frm, ({ frZ with kind := 8, fin := true, id := n } : Frm) = F := ⟨_, rfl⟩
      have HQ5 : Hid (PW w F2 w2) := Lib.hid (by rw [← hF2]; exact HQ4.out)
      have HF2 := Lib.hid hF2
      clear hF2 HQ4
      have HQ : Hid (PW w { F2 with data := [] } (w2.setCell ⟨w.heap.size + 1, 9, none⟩ (.string ⟨#[]⟩))) := Lib.hid (HQ5.out.put9 [])
      obtain ⟨c0, c1, c2, c3, c4, c5, c6, c7, c8, c9, c10, c11, c12⟩ := HQ5.out.f.ats
      obtain ⟨d0, d1, d2, d3, d4, d5, d6, d7, d8, d9, d10, d11, d12⟩ := HQ5.out.r.ats
      have cf := HQ5.out.f.fz
      have df := HQ5.out.r.fz
      have hlt := HQ5.out.f.lt
      go_upto_region 66 with (fail)
      clear c0 d0 c1 d1 c2 d2 c3 d3 c4 d4 c5 d5 c6 d6 c7 d7 c8 d8 c9 d9 c10 d10 c11 d11 c12 d12 cf df hlt
      obtain ⟨F, hF⟩ : ∃ F : Frm, ({ F2 with data := [] } : Frm) = F := ⟨_, rfl⟩
      have HQ : Hid (PW w F (w2.setCell ⟨w.heap.size + 1, 9, none⟩ (.string ⟨#[]⟩))) := Lib.hid (by rw [← hF]; exact HQ.out)
      have HFQ := Lib.hid hF
      clear hF
      generalize (w2.setCell ⟨w.heap.size + 1, 9, none⟩ (.string ⟨#[]⟩)) = Wt at HQ ⊢
      obtain ⟨c0, c1, c2, c3, c4, c5, c6, c7, c8, c9, c10, c11, c12⟩ := HQ.out.f.ats
      obtain ⟨d0, d1, d2, d3, d4, d5, d6, d7, d8, d9, d10, d11, d12⟩ := HQ.out.r.ats
      have df := HQ.out.r.fz
      go_wp2
      have HE := Lib.hid (PW.ends (HQ.out))
      refine bodyPost_ret (v := .tuple #[.agg #[.int .u64 F.kind, .int .u64 F.id, .int .u64 F.off, .int .u64 F.max, .int .u64 F.code, .int .u64 F.seq, .int .u64 F.prior, .int .u64 F.delay, .bool F.fin, .string ⟨F.data.toArray⟩, .string ⟨F.cid.toArray⟩, .string ⟨F.token.toArray⟩, .slice F.set.a F.set.n F.set.c], .string ⟨([] : List UInt8).toArray⟩, .bool false]) (by
        change Sem.run Tryd.prog (results _ _) (rstF w.heap.size F Wt) = Result.ok _ (rstF w.heap.size F Wt)
        obtain ⟨y0, y1, y2, y3, y4, y5, y6, y7, y8, y9, y10, y11, y12⟩ := HE.out.1.ats
        generalize (rstF w.heap.size F Wt) = X at y0 y1 y2 y3 y4 y5 y6 y7 y8 y9 y10 y11 y12 ⊢
        simp [results, Tryd.results22, go_sem, y0, y1, y2, y3, y4, y5, y6, y7, y8, y9, y10, y11, y12]) rfl ?_
      exact ⟨HE.out.2, F, [], rfl⟩
    | some (t, q) =>
      rw [hg] at CL
      clear hg
      go_enter Tryd.func22, Tryd.ntmps22
      go_wp2_with fail
      refine (CN.out _).mono ?_
      rintro e w1 ⟨rfl, hb⟩
      have HQ1 := Lib.hid (HQ0.out.go hb)
      have HQ := Lib.hid (HQ1.out.put1 n)
      clear hb
      obtain ⟨c0, c1, c2, c3, c4, c5, c6, c7, c8, c9, c10, c11, c12⟩ := HQ1.out.f.ats
      obtain ⟨d0, d1, d2, d3, d4, d5, d6, d7, d8, d9, d10, d11, d12⟩ := HQ1.out.r.ats
      have cf := HQ1.out.f.fz
      have df := HQ1.out.r.fz
      have hlt := HQ1.out.f.lt
      go_wp2_with fail
      refine (CL.out _).mono ?_
      rintro e w2 ⟨hb, rfl⟩
      have HQ4 := Lib.hid (HQ.out.go hb)
      clear hb c0 d0 c1 d1 c2 d2 c3 d3 c4 d4 c5 d5 c6 d6 c7 d7 c8 d8 c9 d9 c10 d10 c11 d11 c12 d12 cf df hlt HQ
      obtain ⟨F2, hF2⟩ : ∃ F : Frm, ({ frZ with kind := 8, fin := true, id := n } : Frm) = F := ⟨_, rfl⟩
      have HQ5 : Hid (PW w F2 w2) := Lib.hid (by rw [← hF2]; exact HQ4.out)
      have HF2 := Lib.hid hF2
      clear hF2 HQ4
      have HQ : Hid (PW w { F2 with data := t } (w2.setCell ⟨w.heap.size + 1, 9, none⟩ (.string ⟨t.toArray⟩))) := Lib.hid (HQ5.out.put9 t)
      obtain ⟨c0, c1, c2, c3, c4, c5, c6, c7, c8, c9, c10, c11, c12⟩ := HQ5.out.f.ats
      obtain ⟨d0, d1, d2, d3, d4, d5, d6, d7, d8, d9, d10, d11, d12⟩ := HQ5.out.r.ats
      have cf := HQ5.out.f.fz
      have df := HQ5.out.r.fz
      have hlt := HQ5.out.f.lt
      go_upto_region 66 with (fail)
      clear c0 d0 c1 d1 c2 d2 c3 d3 c4 d4 c5 d5 c6 d6 c7 d7 c8 d8 c9 d9 c10 d10 c11 d11 c12 d12 cf df hlt
      obtain ⟨F, hF⟩ : ∃ F : Frm, ({ F2 with data := t } : Frm) = F := ⟨_, rfl⟩
      have HQ : Hid (PW w F (w2.setCell ⟨w.heap.size + 1, 9, none⟩ (.string ⟨t.toArray⟩))) := Lib.hid (by rw [← hF]; exact HQ.out)
      have HFQ := Lib.hid hF
      clear hF
      generalize (w2.setCell ⟨w.heap.size + 1, 9, none⟩ (.string ⟨t.toArray⟩)) = Wt at HQ ⊢
      obtain ⟨c0, c1, c2, c3, c4, c5, c6, c7, c8, c9, c10, c11, c12⟩ := HQ.out.f.ats
      obtain ⟨d0, d1, d2, d3, d4, d5, d6, d7, d8, d9, d10, d11, d12⟩ := HQ.out.r.ats
      have df := HQ.out.r.fz
      go_wp2
      have HE := Lib.hid (PW.ends (HQ.out))
      refine bodyPost_ret (v := .tuple #[.agg #[.int .u64 F.kind, .int .u64 F.id, .int .u64 F.off, .int .u64 F.max, .int .u64 F.code, .int .u64 F.seq, .int .u64 F.prior, .int .u64 F.delay, .bool F.fin, .string ⟨F.data.toArray⟩, .string ⟨F.cid.toArray⟩, .string ⟨F.token.toArray⟩, .slice F.set.a F.set.n F.set.c], .string ⟨q.toArray⟩, .bool true]) (by
        change Sem.run Tryd.prog (results _ _) (rstF w.heap.size F Wt) = Result.ok _ (rstF w.heap.size F Wt)
        obtain ⟨y0, y1, y2, y3, y4, y5, y6, y7, y8, y9, y10, y11, y12⟩ := HE.out.1.ats
        generalize (rstF w.heap.size F Wt) = X at y0 y1 y2 y3 y4 y5 y6 y7 y8 y9 y10 y11 y12 ⊢
        simp [results, Tryd.results22, go_sem, y0, y1, y2, y3, y4, y5, y6, y7, y8, y9, y10, y11, y12]) rfl ?_
      exact ⟨HE.out.2, ⟨none, 0, 0⟩, rfl, rd_none _, (fun x hx => by cases hx), by rw [← HFQ.out, ← HF2.out]; rfl⟩
  · rw [decide_eq_false h] at CN
    rw [if_neg h]
    clear h
    go_enter Tryd.func22, Tryd.ntmps22
    go_wp2_with fail
    refine (CN.out _).mono ?_
    rintro e w1 ⟨rfl, hb⟩
    have HQ1 := Lib.hid (HQ0.out.go hb)
    have HQ := Lib.hid (HQ1.out.put1 n)
    clear hb
    obtain ⟨c0, c1, c2, c3, c4, c5, c6, c7, c8, c9, c10, c11, c12⟩ := HQ1.out.f.ats
    obtain ⟨d0, d1, d2, d3, d4, d5, d6, d7, d8, d9, d10, d11, d12⟩ := HQ1.out.r.ats
    have cf := HQ1.out.f.fz
    have df := HQ1.out.r.fz
    have hlt := HQ1.out.f.lt
    go_upto_region 66 with (fail)
    clear c0 d0 c1 d1 c2 d2 c3 d3 c4 d4 c5 d5 c6 d6 c7 d7 c8 d8 c9 d9 c10 d10 c11 d11 c12 d12 cf df hlt
    obtain ⟨F, hF⟩ : ∃ F : Frm, ({ frZ with kind := 8, fin := true, id := n } : Frm) = F := ⟨_, rfl⟩
    have HQ : Hid (PW w F (w1.setCell ⟨w.heap.size + 1, 1, none⟩ (.int .u64 n))) := Lib.hid (by rw [← hF]; exact HQ.out)
    have HFQ := Lib.hid hF
    clear hF
    generalize (w1.setCell ⟨w.heap.size + 1, 1, none⟩ (.int .u64 n)) = Wt at HQ ⊢
    obtain ⟨c0, c1, c2, c3, c4, c5, c6, c7, c8, c9, c10, c11, c12⟩ := HQ.out.f.ats
    obtain ⟨d0, d1, d2, d3, d4, d5, d6, d7, d8, d9, d10, d11, d12⟩ := HQ.out.r.ats
    have df := HQ.out.r.fz
    go_wp2
    have HE := Lib.hid (PW.ends (HQ.out))
    refine bodyPost_ret (v := .tuple #[.agg #[.int .u64 F.kind, .int .u64 F.id, .int .u64 F.off, .int .u64 F.max, .int .u64 F.code, .int .u64 F.seq, .int .u64 F.prior, .int .u64 F.delay, .bool F.fin, .string ⟨F.data.toArray⟩, .string ⟨F.cid.toArray⟩, .string ⟨F.token.toArray⟩, .slice F.set.a F.set.n F.set.c], .string ⟨r.toArray⟩, .bool false]) (by
      change Sem.run Tryd.prog (results _ _) (rstF w.heap.size F Wt) = Result.ok _ (rstF w.heap.size F Wt)
      obtain ⟨y0, y1, y2, y3, y4, y5, y6, y7, y8, y9, y10, y11, y12⟩ := HE.out.1.ats
      generalize (rstF w.heap.size F Wt) = X at y0 y1 y2 y3 y4 y5 y6 y7 y8 y9 y10 y11 y12 ⊢
      simp [results, Tryd.results22, go_sem, y0, y1, y2, y3, y4, y5, y6, y7, y8, y9, y10, y11, y12]) rfl ?_
    exact ⟨HE.out.2, F, r, rfl⟩
set_option maxHeartbeats 16000000 in
theorem rparts_12 (l : List UInt8) (w : World) (hl : l.length ≤ 4000) : Calls Tryd.prog 22 #[.int .u64 12, .string ⟨l.toArray⟩] w (PtTo (if gk l ≤ l.length then (if gk (gR l) ≤ (gR l).length then some ({ frZ with kind := 8, fin := false, id := (gN l : Nat), off := (gN (gR l) : Nat), data := gR (gR l) }, [], []) else none) else none) w) := by
  have CN := Lib.hid (fun w => rnumber l w (by omega))
  have HQ0 := Lib.hid (PW.start8 false w)
  have CO := Lib.hid (fun w => rnumber (gR l) w (Nat.le_trans (gR_le l) (by omega)))
  clear hl
  obtain ⟨n, hn⟩ : ∃ n : Int, ((gN l : Nat) : Int) = n := ⟨_, rfl⟩
  obtain ⟨r, hr⟩ : ∃ r, gR l = r := ⟨_, rfl⟩
  rw [hn, hr] at CN
  rw [hr] at CO
  rw [hn, hr]
  clear hn hr
  obtain ⟨m, hm⟩ : ∃ n : Int, ((gN r : Nat) : Int) = n := ⟨_, rfl⟩
  obtain ⟨u, hu⟩ : ∃ u, gR r = u := ⟨_, rfl⟩
  rw [hm, hu] at CO
  rw [hm, hu]
  clear hm hu
  by_cases h : gk l ≤ l.length
  · rw [decide_eq_true h] at CN
    rw [if_pos h]
    clear h
    by_cases h : gk r ≤ r.length
    · rw [decide_eq_true h] at CO
      rw [if_pos h]
      clear h
      go_enter Tryd.func22, Tryd.ntmps22
      go_wp2_with fail
      refine (CN.out _).mono ?_
      rintro e w1 ⟨rfl, hb⟩
      have HQ1 := Lib.hid (HQ0.out.go hb)
      have HQ := Lib.hid (HQ1.out.put1 n)
      clear hb
      obtain ⟨c0, c1, c2, c3, c4, c5, c6, c7, c8, c9, c10, c11, c12⟩ := HQ1.out.f.ats
      obtain ⟨d0, d1, d2, d3, d4, d5, d6, d7, d8, d9, d10, d11, d12⟩ := HQ1.out.r.ats
      have cf := HQ1.out.f.fz
      have df := HQ1.out.r.fz
      have hlt := HQ1.out.f.lt
      go_wp2_with fail
      refine (CO.out _).mono ?_
      rintro e w2 ⟨rfl, hb⟩
      have HQ2 := Lib.hid (HQ.out.go hb)
      clear hb c0 d0 c1 d1 c2 d2 c3 d3 c4 d4 c5 d5 c6 d6 c7 d7 c8 d8 c9 d9 c10 d10 c11 d11 c12 d12 cf df hlt HQ
      obtain ⟨F1, hF1⟩ : ∃ F : Frm, ({ frZ with kind := 8, fin := false, id := n } : Frm) = F := ⟨_, rfl⟩
      have HQ3 : Hid (PW w F1 w2) := Lib.hid (by rw [← hF1]; exact HQ2.out)
      have HF1 := Lib.hid hF1
      clear hF1 HQ2
      have HQ := Lib.hid (HQ3.out.put2 m)
      obtain ⟨c0, c1, c2, c3, c4, c5, c6, c7, c8, c9, c10, c11, c12⟩ := HQ3.out.f.ats
      obtain ⟨d0, d1, d2, d3, d4, d5, d6, d7, d8, d9, d10, d11, d12⟩ := HQ3.out.r.ats
      have cf := HQ3.out.f.fz
      have df := HQ3.out.r.fz
      have hlt := HQ3.out.f.lt
      have HQ9 : Hid (PW w { F1 with off := m, data := u } ((w2.setCell ⟨w.heap.size + 1, 2, none⟩ (.int .u64 m)).setCell ⟨w.heap.size + 1, 9, none⟩ (.string ⟨u.toArray⟩))) := Lib.hid (HQ.out.put9 u)
      clear HQ
      have HQ := HQ9
      clear HQ9
      go_upto_region 66 with (fail)
      clear c0 d0 c1 d1 c2 d2 c3 d3 c4 d4 c5 d5 c6 d6 c7 d7 c8 d8 c9 d9 c10 d10 c11 d11 c12 d12 cf df hlt
      obtain ⟨F, hF⟩ : ∃ F : Frm, ({ F1 with off := m, data := u } : Frm) = F := ⟨_, rfl⟩
      have HQ : Hid (PW w F ((w2.setCell ⟨w.heap.size + 1, 2, none⟩ (.int .u64 m)).setCell ⟨w.heap.size + 1, 9, none⟩ (.string ⟨u.toArray⟩))) := Lib.hid (by rw [← hF]; exact HQ.out)
      have HFQ := Lib.hid hF
      clear hF
      generalize ((w2.setCell ⟨w.heap.size + 1, 2, none⟩ (.int .u64 m)).setCell ⟨w.heap.size + 1, 9, none⟩ (.string ⟨u.toArray⟩)) = Wt at HQ ⊢
      obtain ⟨c0, c1, c2, c3, c4, c5, c6, c7, c8, c9, c10, c11, c12⟩ := HQ.out.f.ats
      obtain ⟨d0, d1, d2, d3, d4, d5, d6, d7, d8, d9, d10, d11, d12⟩ := HQ.out.r.ats
      have df := HQ.out.r.fz
      go_wp2
      have HE := Lib.hid (PW.ends (HQ.out))
      refine bodyPost_ret (v := .tuple #[.agg #[.int .u64 F.kind, .int .u64 F.id, .int .u64 F.off, .int .u64 F.max, .int .u64 F.code, .int .u64 F.seq, .int .u64 F.prior, .int .u64 F.delay, .bool F.fin, .string ⟨F.data.toArray⟩, .string ⟨F.cid.toArray⟩, .string ⟨F.token.toArray⟩, .slice F.set.a F.set.n F.set.c], .string ⟨([] : List UInt8).toArray⟩, .bool true]) (by
        change Sem.run Tryd.prog (results _ _) (rstF w.heap.size F Wt) = Result.ok _ (rstF w.heap.size F Wt)
        obtain ⟨y0, y1, y2, y3, y4, y5, y6, y7, y8, y9, y10, y11, y12⟩ := HE.out.1.ats
        generalize (rstF w.heap.size F Wt) = X at y0 y1 y2 y3 y4 y5 y6 y7 y8 y9 y10 y11 y12 ⊢
        simp [results, Tryd.results22, go_sem, y0, y1, y2, y3, y4, y5, y6, y7, y8, y9, y10, y11, y12]) rfl ?_
      exact ⟨HE.out.2, ⟨none, 0, 0⟩, rfl, rd_none _, (fun x hx => by cases hx), by rw [← HFQ.out, ← HF1.out]; rfl⟩
    · rw [decide_eq_false h] at CO
      rw [if_neg h]
      clear h
      go_enter Tryd.func22, Tryd.ntmps22
      go_wp2_with fail
      refine (CN.out _).mono ?_
      rintro e w1 ⟨rfl, hb⟩
      have HQ1 := Lib.hid (HQ0.out.go hb)
      have HQ := Lib.hid (HQ1.out.put1 n)
      clear hb
      obtain ⟨c0, c1, c2, c3, c4, c5, c6, c7, c8, c9, c10, c11, c12⟩ := HQ1.out.f.ats
      obtain ⟨d0, d1, d2, d3, d4, d5, d6, d7, d8, d9, d10, d11, d12⟩ := HQ1.out.r.ats
      have cf := HQ1.out.f.fz
      have df := HQ1.out.r.fz
      have hlt := HQ1.out.f.lt
      go_wp2_with fail
      refine (CO.out _).mono ?_
      rintro e w2 ⟨rfl, hb⟩
      have HQ2 := Lib.hid (HQ.out.go hb)
      clear hb c0 d0 c1 d1 c2 d2 c3 d3 c4 d4 c5 d5 c6 d6 c7 d7 c8 d8 c9 d9 c10 d10 c11 d11 c12 d12 cf df hlt HQ
      obtain ⟨F1, hF1⟩ : ∃ F : Frm, ({ frZ with kind := 8, fin := false, id := n } : Frm) = F := ⟨_, rfl⟩
      have HQ3 : Hid (PW w F1 w2) := Lib.hid (by rw [← hF1]; exact HQ2.out)
      have HF1 := Lib.hid hF1
      clear hF1 HQ2
      have HQ := Lib.hid (HQ3.out.put2 m)
      obtain ⟨c0, c1, c2, c3, c4, c5, c6, c7, c8, c9, c10, c11, c12⟩ := HQ3.out.f.ats
      obtain ⟨d0, d1, d2, d3, d4, d5, d6, d7, d8, d9, d10, d11, d12⟩ := HQ3.out.r.ats
      have cf := HQ3.out.f.fz
      have df := HQ3.out.r.fz
      have hlt := HQ3.out.f.lt
      go_upto_region 66 with (fail)
      clear c0 d0 c1 d1 c2 d2 c3 d3 c4 d4 c5 d5 c6 d6 c7 d7 c8 d8 c9 d9 c10 d10 c11 d11 c12 d12 cf df hlt
      obtain ⟨F, hF⟩ : ∃ F : Frm, ({ F1 with off := m } : Frm) = F := ⟨_, rfl⟩
      have HQ : Hid (PW w F (w2.setCell ⟨w.heap.size + 1, 2, none⟩ (.int .u64 m))) := Lib.hid (by rw [← hF]; exact HQ.out)
      have HFQ := Lib.hid hF
      clear hF
      generalize (w2.setCell ⟨w.heap.size + 1, 2, none⟩ (.int .u64 m)) = Wt at HQ ⊢
      obtain ⟨c0, c1, c2, c3, c4, c5, c6, c7, c8, c9, c10, c11, c12⟩ := HQ.out.f.ats
      obtain ⟨d0, d1, d2, d3, d4, d5, d6, d7, d8, d9, d10, d11, d12⟩ := HQ.out.r.ats
      have df := HQ.out.r.fz
      go_wp2
      have HE := Lib.hid (PW.ends (HQ.out))
      refine bodyPost_ret (v := .tuple #[.agg #[.int .u64 F.kind, .int .u64 F.id, .int .u64 F.off, .int .u64 F.max, .int .u64 F.code, .int .u64 F.seq, .int .u64 F.prior, .int .u64 F.delay, .bool F.fin, .string ⟨F.data.toArray⟩, .string ⟨F.cid.toArray⟩, .string ⟨F.token.toArray⟩, .slice F.set.a F.set.n F.set.c], .string ⟨u.toArray⟩, .bool false]) (by
        change Sem.run Tryd.prog (results _ _) (rstF w.heap.size F Wt) = Result.ok _ (rstF w.heap.size F Wt)
        obtain ⟨y0, y1, y2, y3, y4, y5, y6, y7, y8, y9, y10, y11, y12⟩ := HE.out.1.ats
        generalize (rstF w.heap.size F Wt) = X at y0 y1 y2 y3 y4 y5 y6 y7 y8 y9 y10 y11 y12 ⊢
        simp [results, Tryd.results22, go_sem, y0, y1, y2, y3, y4, y5, y6, y7, y8, y9, y10, y11, y12]) rfl ?_
      exact ⟨HE.out.2, F, u, rfl⟩
  · rw [decide_eq_false h] at CN
    rw [if_neg h]
    clear h
    go_enter Tryd.func22, Tryd.ntmps22
    go_wp2_with fail
    refine (CN.out _).mono ?_
    rintro e w1 ⟨rfl, hb⟩
    have HQ1 := Lib.hid (HQ0.out.go hb)
    have HQ := Lib.hid (HQ1.out.put1 n)
    clear hb
    obtain ⟨c0, c1, c2, c3, c4, c5, c6, c7, c8, c9, c10, c11, c12⟩ := HQ1.out.f.ats
    obtain ⟨d0, d1, d2, d3, d4, d5, d6, d7, d8, d9, d10, d11, d12⟩ := HQ1.out.r.ats
    have cf := HQ1.out.f.fz
    have df := HQ1.out.r.fz
    have hlt := HQ1.out.f.lt
    go_upto_region 66 with (fail)
    clear c0 d0 c1 d1 c2 d2 c3 d3 c4 d4 c5 d5 c6 d6 c7 d7 c8 d8 c9 d9 c10 d10 c11 d11 c12 d12 cf df hlt
    obtain ⟨F, hF⟩ : ∃ F : Frm, ({ frZ with kind := 8, fin := false, id := n } : Frm) = F := ⟨_, rfl⟩
    have HQ : Hid (PW w F (w1.setCell ⟨w.heap.size + 1, 1, none⟩ (.int .u64 n))) := Lib.hid (by rw [← hF]; exact HQ.out)
    have HFQ := Lib.hid hF
    clear hF
    generalize (w1.setCell ⟨w.heap.size + 1, 1, none⟩ (.int .u64 n)) = Wt at HQ ⊢
    obtain ⟨c0, c1, c2, c3, c4, c5, c6, c7, c8, c9, c10, c11, c12⟩ := HQ.out.f.ats
    obtain ⟨d0, d1, d2, d3, d4, d5, d6, d7, d8, d9, d10, d11, d12⟩ := HQ.out.r.ats
    have df := HQ.out.r.fz
    go_wp2
    have HE := Lib.hid (PW.ends (HQ.out))
    refine bodyPost_ret (v := .tuple #[.agg #[.int .u64 F.kind, .int .u64 F.id, .int .u64 F.off, .int .u64 F.max, .int .u64 F.code, .int .u64 F.seq, .int .u64 F.prior, .int .u64 F.delay, .bool F.fin, .string ⟨F.data.toArray⟩, .string ⟨F.cid.toArray⟩, .string ⟨F.token.toArray⟩, .slice F.set.a F.set.n F.set.c], .string ⟨r.toArray⟩, .bool false]) (by
      change Sem.run Tryd.prog (results _ _) (rstF w.heap.size F Wt) = Result.ok _ (rstF w.heap.size F Wt)
      obtain ⟨y0, y1, y2, y3, y4, y5, y6, y7, y8, y9, y10, y11, y12⟩ := HE.out.1.ats
      generalize (rstF w.heap.size F Wt) = X at y0 y1 y2 y3 y4 y5 y6 y7 y8 y9 y10 y11 y12 ⊢
      simp [results, Tryd.results22, go_sem, y0, y1, y2, y3, y4, y5, y6, y7, y8, y9, y10, y11, y12]) rfl ?_
    exact ⟨HE.out.2, F, r, rfl⟩
set_option maxHeartbeats 16000000 in
theorem rparts_13 (l : List UInt8) (w : World) (hl : l.length ≤ 4000) : Calls Tryd.prog 22 #[.int .u64 13, .string ⟨l.toArray⟩] w (PtTo (if gk l ≤ l.length then (if gk (gR l) ≤ (gR l).length then some ({ frZ with kind := 8, fin := true, id := (gN l : Nat), off := (gN (gR l) : Nat), data := gR (gR l) }, [], []) else none) else none) w) := by
  have CN := Lib.hid (fun w => rnumber l w (by omega))
  have HQ0 := Lib.hid (PW.start8 true w)
  have CO := Lib.hid (fun w => rnumber (gR l) w (Nat.le_trans (gR_le l) (by omega)))
  clear hl
  obtain ⟨n, hn⟩ : ∃ n : Int, ((gN l : Nat) : Int) = n := ⟨_, rfl⟩
  obtain ⟨r, hr⟩ : ∃ r, gR l = r := ⟨_, rfl⟩
  rw [hn, hr] at CN
  rw [hr] at CO
  rw [hn, hr]
  clear hn hr
  obtain ⟨m, hm⟩ : ∃ n : Int, ((gN r : Nat) : Int) = n := ⟨_, rfl⟩
  obtain ⟨u, hu⟩ : ∃ u, gR r = u := ⟨_, rfl⟩
  rw [hm, hu] at CO
  rw [hm, hu]
  clear hm hu
  by_cases h : gk l ≤ l.length
  · rw [decide_eq_true h] at CN
    rw [if_pos h]
    clear h
    by_cases h : gk r ≤ r.length
    · rw [decide_eq_true h] at CO
      rw [if_pos h]
      clear h
      go_enter Tryd.func22, Tryd.ntmps22
      go_wp2_with fail
      refine (CN.out _).mono ?_
      rintro e w1 ⟨rfl, hb⟩
      have HQ1 := Lib.hid (HQ0.out.go hb)
      have HQ := Lib.hid (HQ1.out.put1 n)
      clear hb
      obtain ⟨c0, c1, c2, c3, c4, c5, c6, c7, c8, c9, c10, c11, c12⟩ := HQ1.out.f.ats
      obtain ⟨d0, d1, d2, d3, d4, d5, d6, d7, d8, d9, d10, d11, d12⟩ := HQ1.out.r.ats
      have cf := HQ1.out.f.fz
      have df := HQ1.out.r.fz
      have hlt := HQ1.out.f.lt
      go_wp2_with fail
      refine (CO.out _).mono ?_
      rintro e w2 ⟨rfl, hb⟩
      have HQ2 := Lib.hid (HQ.out.go hb)
      clear hb c0 d0 c1 d1 c2 d2 c3 d3 c4 d4 c5 d5 c6 d6 c7 d7 c8 d8 c9 d9 c10 d10 c11 d11 c12 d12 cf df hlt HQ
      obtain ⟨F1, hF1⟩ : ∃ F : Frm, ({ frZ with kind := 8, fin := true, id := n } : Frm) = F := ⟨_, rfl⟩
      have HQ3 : Hid (PW w F1 w2) := Lib.hid (by rw [← hF1]; exact HQ2.out)
      have HF1 := Lib.hid hF1
      clear hF1 HQ2
      have HQ := Lib.hid (HQ3.out.put2 m)
      obtain ⟨c0, c1, c2, c3, c4, c5, c6, c7, c8, c9, c10, c11, c12⟩ := HQ3.out.f.ats
      obtain ⟨d0, d1, d2, d3, d4, d5, d6, d7, d8, d9, d10, d11, d12⟩ := HQ3.out.r.ats
      have cf := HQ3.out.f.fz
      have df := HQ3.out.r.fz
      have hlt := HQ3.out.f.lt
      have HQ9 : Hid (PW w { F1 with off := m, data := u } ((w2.setCell ⟨w.heap.size + 1, 2, none⟩ (.int .u64 m)).setCell ⟨w.heap.size + 1, 9, none⟩ (.string ⟨u.toArray⟩))) := Lib.hid (HQ.out.put9 u)
      clear HQ
      have HQ := HQ9
      clear HQ9
      go_upto_region 66 with (fail)
      clear c0 d0 c1 d1 c2 d2 c3 d3 c4 d4 c5 d5 c6 d6 c7 d7 c8 d8 c9 d9 c10 d10 c11 d11 c12 d12 cf df hlt
      obtain ⟨F, hF⟩ : ∃ F : Frm, ({ F1 with off := m, data := u } : Frm) = F := ⟨_, rfl⟩
      have HQ : Hid (PW w F ((w2.setCell ⟨w.heap.size + 1, 2, none⟩ (.int .u64 m)).setCell ⟨w.heap.size + 1, 9, none⟩ (.string ⟨u.toArray⟩))) := Lib.hid (by rw [← hF]; exact HQ.out)
      have HFQ := Lib.hid hF
      clear hF
      generalize ((w2.setCell ⟨w.heap.size + 1, 2, none⟩ (.int .u64 m)).setCell ⟨w.heap.size + 1, 9, none⟩ (.string ⟨u.toArray⟩)) = Wt at HQ ⊢
      obtain ⟨c0, c1, c2, c3, c4, c5, c6, c7, c8, c9, c10, c11, c12⟩ := HQ.out.f.ats
      obtain ⟨d0, d1, d2, d3, d4, d5, d6, d7, d8, d9, d10, d11, d12⟩ := HQ.out.r.ats
      have df := HQ.out.r.fz
      go_wp2
      have HE := Lib.hid (PW.ends (HQ.out))
      refine bodyPost_ret (v := .tuple #[.agg #[.int .u64 F.kind, .int .u64 F.id, .int .u64 F.off, .int .u64 F.max, .int .u64 F.code, .int .u64 F.seq, .int .u64 F.prior, .int .u64 F.delay, .bool F.fin, .string ⟨F.data.toArray⟩, .string ⟨F.cid.toArray⟩, .string ⟨F.token.toArray⟩, .slice F.set.a F.set.n F.set.c], .string ⟨([] : List UInt8).toArray⟩, .bool true]) (by
        change Sem.run Tryd.prog (results _ _) (rstF w.heap.size F Wt) = Result.ok _ (rstF w.heap.size F Wt)
        obtain ⟨y0, y1, y2, y3, y4, y5, y6, y7, y8, y9, y10, y11, y12⟩ := HE.out.1.ats
        generalize (rstF w.heap.size F Wt) = X at y0 y1 y2 y3 y4 y5 y6 y7 y8 y9 y10 y11 y12 ⊢
        simp [results, Tryd.results22, go_sem, y0, y1, y2, y3, y4, y5, y6, y7, y8, y9, y10, y11, y12]) rfl ?_
      exact ⟨HE.out.2, ⟨none, 0, 0⟩, rfl, rd_none _, (fun x hx => by cases hx), by rw [← HFQ.out, ← HF1.out]; rfl⟩
    · rw [decide_eq_false h] at CO
      rw [if_neg h]
      clear h
      go_enter Tryd.func22, Tryd.ntmps22
      go_wp2_with fail
      refine (CN.out _).mono ?_
      rintro e w1 ⟨rfl, hb⟩
      have HQ1 := Lib.hid (HQ0.out.go hb)
      have HQ := Lib.hid (HQ1.out.put1 n)
      clear hb
      obtain ⟨c0, c1, c2, c3, c4, c5, c6, c7, c8, c9, c10, c11, c12⟩ := HQ1.out.f.ats
      obtain ⟨d0, d1, d2, d3, d4, d5, d6, d7, d8, d9, d10, d11, d12⟩ := HQ1.out.r.ats
      have cf := HQ1.out.f.fz
      have df := HQ1.out.r.fz
      have hlt := HQ1.out.f.lt
      go_wp2_with fail
      refine (CO.out _).mono ?_
      rintro e w2 ⟨rfl, hb⟩
      have HQ2 := Lib.hid (HQ.out.go hb)
      clear hb c0 d0 c1 d1 c2 d2 c3 d3 c4 d4 c5 d5 c6 d6 c7 d7 c8 d8 c9 d9 c10 d10 c11 d11 c12 d12 cf df hlt HQ
      obtain ⟨F1, hF1⟩ : ∃ F : Frm, ({ frZ with kind := 8, fin := true, id := n } : Frm) = F := ⟨_, rfl⟩
      have HQ3 : Hid (PW w F1 w2) := Lib.hid (by rw [← hF1]; exact HQ2.out)
      have HF1 := Lib.hid hF1
      clear hF1 HQ2
      have HQ := Lib.hid (HQ3.out.put2 m)
      obtain ⟨c0, c1, c2, c3, c4, c5, c6, c7, c8, c9, c10, c11, c12⟩ := HQ3.out.f.ats
      obtain ⟨d0, d1, d2, d3, d4, d5, d6, d7, d8, d9, d10, d11, d12⟩ := HQ3.out.r.ats
      have cf := HQ3.out.f.fz
      have df := HQ3.out.r.fz
      have hlt := HQ3.out.f.lt
      go_upto_region 66 with (fail)
      clear c0 d0 c1 d1 c2 d2 c3 d3 c4 d4 c5 d5 c6 d6 c7 d7 c8 d8 c9 d9 c10 d10 c11 d11 c12 d12 cf df hlt
      obtain ⟨F, hF⟩ : ∃ F : Frm, ({ F1 with off := m } : Frm) = F := ⟨_, rfl⟩
      have HQ : Hid (PW w F (w2.setCell ⟨w.heap.size + 1, 2, none⟩ (.int .u64 m))) := Lib.hid (by rw [← hF]; exact HQ.out)
      have HFQ := Lib.hid hF
      clear hF
      generalize (w2.setCell ⟨w.heap.size + 1, 2, none⟩ (.int .u64 m)) = Wt at HQ ⊢
      obtain ⟨c0, c1, c2, c3, c4, c5, c6, c7, c8, c9, c10, c11, c12⟩ := HQ.out.f.ats
      obtain ⟨d0, d1, d2, d3, d4, d5, d6, d7, d8, d9, d10, d11, d12⟩ := HQ.out.r.ats
      have df := HQ.out.r.fz
      go_wp2
      have HE := Lib.hid (PW.ends (HQ.out))
      refine bodyPost_ret (v := .tuple #[.agg #[.int .u64 F.kind, .int .u64 F.id, .int .u64 F.off, .int .u64 F.max, .int .u64 F.code, .int .u64 F.seq, .int .u64 F.prior, .int .u64 F.delay, .bool F.fin, .string ⟨F.data.toArray⟩, .string ⟨F.cid.toArray⟩, .string ⟨F.token.toArray⟩, .slice F.set.a F.set.n F.set.c], .string ⟨u.toArray⟩, .bool false]) (by
        change Sem.run Tryd.prog (results _ _) (rstF w.heap.size F Wt) = Result.ok _ (rstF w.heap.size F Wt)
        obtain ⟨y0, y1, y2, y3, y4, y5, y6, y7, y8, y9, y10, y11, y12⟩ := HE.out.1.ats
        generalize (rstF w.heap.size F Wt) = X at y0 y1 y2 y3 y4 y5 y6 y7 y8 y9 y10 y11 y12 ⊢
        simp [results, Tryd.results22, go_sem, y0, y1, y2, y3, y4, y5, y6, y7, y8, y9, y10, y11, y12]) rfl ?_
      exact ⟨HE.out.2, F, u, rfl⟩
  · rw [decide_eq_false h] at CN
    rw [if_neg h]
    clear h
    go_enter Tryd.func22, Tryd.ntmps22
    go_wp2_with fail
    refine (CN.out _).mono ?_
    rintro e w1 ⟨rfl, hb⟩
    have HQ1 := Lib.hid (HQ0.out.go hb)
    have HQ := Lib.hid (HQ1.out.put1 n)
    clear hb
    obtain ⟨c0, c1, c2, c3, c4, c5, c6, c7, c8, c9, c10, c11, c12⟩ := HQ1.out.f.ats
    obtain ⟨d0, d1, d2, d3, d4, d5, d6, d7, d8, d9, d10, d11, d12⟩ := HQ1.out.r.ats
    have cf := HQ1.out.f.fz
    have df := HQ1.out.r.fz
    have hlt := HQ1.out.f.lt
    go_upto_region 66 with (fail)
    clear c0 d0 c1 d1 c2 d2 c3 d3 c4 d4 c5 d5 c6 d6 c7 d7 c8 d8 c9 d9 c10 d10 c11 d11 c12 d12 cf df hlt
    obtain ⟨F, hF⟩ : ∃ F : Frm, ({ frZ with kind := 8, fin := true, id := n } : Frm) = F := ⟨_, rfl⟩
    have HQ : Hid (PW w F (w1.setCell ⟨w.heap.size + 1, 1, none⟩ (.int .u64 n))) := Lib.hid (by rw [← hF]; exact HQ.out)
    have HFQ := Lib.hid hF
    clear hF
    generalize (w1.setCell ⟨w.heap.size + 1, 1, none⟩ (.int .u64 n)) = Wt at HQ ⊢
    obtain ⟨c0, c1, c2, c3, c4, c5, c6, c7, c8, c9, c10, c11, c12⟩ := HQ.out.f.ats
    obtain ⟨d0, d1, d2, d3, d4, d5, d6, d7, d8, d9, d10, d11, d12⟩ := HQ.out.r.ats
    have df := HQ.out.r.fz
    go_wp2
    have HE := Lib.hid (PW.ends (HQ.out))
    refine bodyPost_ret (v := .tuple #[.agg #[.int .u64 F.kind, .int .u64 F.id, .int .u64 F.off, .int .u64 F.max, .int .u64 F.code, .int .u64 F.seq, .int .u64 F.prior, .int .u64 F.delay, .bool F.fin, .string ⟨F.data.toArray⟩, .string ⟨F.cid.toArray⟩, .string ⟨F.token.toArray⟩, .slice F.set.a F.set.n F.set.c], .string ⟨r.toArray⟩, .bool false]) (by
      change Sem.run Tryd.prog (results _ _) (rstF w.heap.size F Wt) = Result.ok _ (rstF w.heap.size F Wt)
      obtain ⟨y0, y1, y2, y3, y4, y5, y6, y7, y8, y9, y10, y11, y12⟩ := HE.out.1.ats
      generalize (rstF w.heap.size F Wt) = X at y0 y1 y2 y3 y4 y5 y6 y7 y8 y9 y10 y11 y12 ⊢
      simp [results, Tryd.results22, go_sem, y0, y1, y2, y3, y4, y5, y6, y7, y8, y9, y10, y11, y12]) rfl ?_
    exact ⟨HE.out.2, F, r, rfl⟩
end
section
set_option maxHeartbeats 16000000 in
theorem rparts_14 (l : List UInt8) (w : World) (hl : l.length ≤ 4000) : Calls Tryd.prog 22 #[.int .u64 14, .string ⟨l.toArray⟩] w (PtTo (if gk l ≤ l.length then (if gk (gR l) ≤ (gR l).length then (match lngN (gR (gR l)) with | some (t, q) => some ({ frZ with kind := 8, fin := false, id := (gN l : Nat), off := (gN (gR l) : Nat), data := t }, [], q) | none => none) else none) else none) w) := by
  have CN := Lib.hid (fun w => rnumber l w (by omega))
  have HQ0 := Lib.hid (PW.start8 false w)
  have CO := Lib.hid (fun w => rnumber (gR l) w (Nat.le_trans (gR_le l) (by omega)))
  have CL := Lib.hid (fun w => rlong (gR (gR l)) w (Nat.le_trans (gR_le _) (Nat.le_trans (gR_le l) (by omega))))
  clear hl
  obtain ⟨n, hn⟩ : ∃ n : Int, ((gN l : Nat) : Int) = n := ⟨_, rfl⟩
  obtain ⟨r, hr⟩ : ∃ r, gR l = r := ⟨_, rfl⟩
  rw [hn, hr] at CN
  rw [hr] at CO
  rw [hr] at CL
  rw [hn, hr]
  clear hn hr
  obtain ⟨m, hm⟩ : ∃ n : Int, ((gN r : Nat) : Int) = n := ⟨_, rfl⟩
  obtain ⟨u, hu⟩ : ∃ u, gR r = u := ⟨_, rfl⟩
  rw [hm, hu] at CO
  rw [hu] at CL
  rw [hm, hu]
  clear hm hu
  by_cases h : gk l ≤ l.length
  · rw [decide_eq_true h] at CN
    rw [if_pos h]
    clear h
    by_cases h : gk r ≤ r.length
    · rw [decide_eq_true h] at CO
      rw [if_pos h]
      clear h
      match hg : lngN u with
      | none =>
        rw [hg] at CL
        clear hg
        go_enter Tryd.func22, Tryd.ntmps22
        go_wp2_with fail
        refine (CN.out _).mono ?_
        rintro e w1 ⟨rfl, hb⟩
        have HQ1 := Lib.hid (HQ0.out.go hb)
        have HQ := Lib.hid (HQ1.out.put1 n)
        clear hb
        obtain ⟨c0, c1, c2, c3, c4, c5, c6, c7, c8, c9, c10, c11, c12⟩ := HQ1.out.f.ats
        obtain ⟨d0, d1, d2, d3, d4, d5, d6, d7, d8, d9, d10, d11, d12⟩ := HQ1.out.r.ats
        have cf := HQ1.out.f.fz
        have df := HQ1.out.r.fz
        have hlt := HQ1.out.f.lt
        go_wp2_with fail
        refine (CO.out _).mono ?_
        rintro e w2 ⟨rfl, hb⟩
        have HQ2 := Lib.hid (HQ.out.go hb)
        clear hb c0 d0 c1 d1 c2 d2 c3 d3 c4 d4 c5 d5 c6 d6 c7 d7 c8 d8 c9 d9 c10 d10 c11 d11 c12 d12 cf df hlt HQ
        obtain ⟨F1, hF1⟩ : ∃ F : Frm, ({ frZ with kind := 8, fin := false, id := n } : Frm) = F := ⟨_, rfl⟩
        have HQ3 : Hid (PW w F1 w2) := Lib.hid (by rw [← hF1]; exact HQ2.out)
        have HF1 := Lib.hid hF1
        clear hF1 HQ2
        have HQ := Lib.hid (HQ3.out.put2 m)
        obtain ⟨c0, c1, c2, c3, c4, c5, c6, c7, c8, c9, c10, c11, c12⟩ := HQ3.out.f.ats
        obtain ⟨d0, d1, d2, d3, d4, d5, d6, d7, d8, d9, d10, d11, d12⟩ := HQ3.out.r.ats
        have cf := HQ3.out.f.fz
        have df := HQ3.out.r.fz
        have hlt := HQ3.out.f.lt
        go_wp2_with fail
        refine (CL.out _).mono ?_
        rintro e w3 ⟨hb, rfl⟩
        have HQ4 := Lib.hid (HQ.out.go hb)
        clear hb c0 d0 c1 d1 c2 d2 c3 d3 c4 d4 c5 d5 c6 d6 c7 d7 c8 d8 c9 d9 c10 d10 c11 d11 c12 d12 cf df hlt HQ
        obtain ⟨F2, hF2⟩ : ∃ F : Frm, ({ F1 with off := m } : Frm) = F := ⟨_, rfl⟩
        have HQ5 : Hid (PW w F2 w3) := Lib.hid (by rw [← hF2]; exact HQ4.out)
        have HF2 := Lib.hid hF2
        clear hF2 HQ4
        have HQ : Hid (PW w { F2 with data := [] } (w3.setCell ⟨w.heap.size + 1, 9, none⟩ (.string ⟨#[]⟩))) := Lib.hid (HQ5.out.put9 [])
        obtain ⟨c0, c1, c2, c3, c4, c5, c6, c7, c8, c9, c10, c11, c12⟩ := HQ5.out.f.ats
        obtain ⟨d0, d1, d2, d3, d4, d5, d6, d7, d8, d9, d10, d11, d12⟩ := HQ5.out.r.ats
        have cf := HQ5.out.f.fz
        have df := HQ5.out.r.fz
        have hlt := HQ5.out.f.lt
        go_upto_region 66 with (fail)
        clear c0 d0 c1 d1 c2 d2 c3 d3 c4 d4 c5 d5 c6 d6 c7 d7 c8 d8 c9 d9 c10 d10 c11 d11 c12 d12 cf df hlt
        obtain ⟨F, hF⟩ : ∃ F : Frm, ({ F2 with data := [] } : Frm) = F := ⟨_, rfl⟩
        have HQ : Hid (PW w F (w3.setCell ⟨w.heap.size + 1, 9, none⟩ (.string ⟨#[]⟩))) := Lib.hid (by rw [← hF]; exact HQ.out)
        have HFQ := Lib.hid hF
        clear hF
        generalize (w3.setCell ⟨w.heap.size + 1, 9, none⟩ (.string ⟨#[]⟩)) = Wt at HQ ⊢
        obtain ⟨c0, c1, c2, c3, c4, c5, c6, c7, c8, c9, c10, c11, c12⟩ := HQ.out.f.ats
        obtain ⟨d0, d1, d2, d3, d4, d5, d6, d7, d8, d9, d10, d11, d12⟩ := HQ.out.r.ats
        have df := HQ.out.r.fz
        go_wp2
        have HE := Lib.hid (PW.ends (HQ.out))
        refine bodyPost_ret (v := .tuple #[.agg #[.int .u64 F.kind, .int .u64 F.id, .int .u64 F.off, .int .u64 F.max, .int .u64 F.code, .int .u64 F.seq, .int .u64 F.prior, .int .u64 F.delay, .bool F.fin, .string ⟨F.data.toArray⟩, .string ⟨F.cid.toArray⟩, .string ⟨F.token.toArray⟩, .slice F.set.a F.set.n F.set.c], .string ⟨([] : List UInt8).toArray⟩, .bool false]) (by
          change Sem.run Tryd.prog (results _ _) (rstF w.heap.size F Wt) = Result.ok _ (rstF w.heap.size F Wt)
          obtain ⟨y0, y1, y2, y3, y4, y5, y6, y7, y8, y9, y10, y11, y12⟩ := HE.out.1.ats
          generalize (rstF w.heap.size F Wt) = X at y0 y1 y2 y3 y4 y5 y6 y7 y8 y9 y10 y11 y12 ⊢
          simp [results, Tryd.results22, go_sem, y0, y1, y2, y3, y4, y5, y6, y7, y8, y9, y10, y11, y12]) rfl ?_
        exact ⟨HE.out.2, F, [], rfl⟩
      | some (t, q) =>
        rw [hg] at CL
        clear hg
        go_enter Tryd.func22, Tryd.ntmps22
        go_wp2_with fail
        refine (CN.out _).mono ?_
        rintro e w1 ⟨rfl, hb⟩
        have HQ1 := Lib.hid (HQ0.out.go hb)
        have HQ := Lib.hid (HQ1.out.put1 n)
        clear hb
        obtain ⟨c0, c1, c2, c3, c4, c5, c6, c7, c8, c9, c10, c11, c12⟩ := HQ1.out.f.ats
        obtain ⟨d0, d1, d2, d3, d4, d5, d6, d7, d8, d9, d10, d11, d12⟩ := HQ1.out.r.ats
        have cf := HQ1.out.f.fz
        have df := HQ1.out.r.fz
        have hlt := HQ1.out.f.lt
        go_wp2_with fail
        refine (CO.out _).mono ?_
        rintro e w2 ⟨rfl, hb⟩
        have HQ2 := Lib.hid (HQ.out.go hb)
        clear hb c0 d0 c1 d1 c2 d2 c3 d3 c4 d4 c5 d5 c6 d6 c7 d7 c8 d8 c9 d9 c10 d10 c11 d11 c12 d12 cf df hlt HQ
        obtain ⟨F1, hF1⟩ : ∃ F : Frm, ({ frZ with kind := 8, fin := false, id := n } : Frm) = F := ⟨_, rfl⟩
        have HQ3 : Hid (PW w F1 w2) := Lib.hid (by rw [← hF1]; exact HQ2.out)
        have HF1 := Lib.hid hF1
        clear hF1 HQ2
        have HQ := Lib.hid (HQ3.out.put2 m)
        obtain ⟨c0, c1, c2, c3, c4, c5, c6, c7, c8, c9, c10, c11, c12⟩ := HQ3.out.f.ats
        obtain ⟨d0, d1, d2, d3, d4, d5, d6, d7, d8, d9, d10, d11, d12⟩ := HQ3.out.r.ats
        have cf := HQ3.out.f.fz
        have df := HQ3.out.r.fz
        have hlt := HQ3.out.f.lt
        go_wp2_with fail
        refine (CL.out _).mono ?_
        rintro e w3 ⟨hb, rfl⟩
        have HQ4 := Lib.hid (HQ.out.go hb)
        clear hb c0 d0 c1 d1 c2 d2 c3 d3 c4 d4 c5 d5 c6 d6 c7 d7 c8 d8 c9 d9 c10 d10 c11 d11 c12 d12 cf df hlt HQ
        obtain ⟨F2, hF2⟩ : ∃ F : Frm, ({ F1 with off := m } : Frm) = F := ⟨_, rfl⟩
        have HQ5 : Hid (PW w F2 w3) := Lib.hid (by rw [← hF2]; exact HQ4.out)
        have HF2 := Lib.hid hF2
        clear hF2 HQ4
        have HQ : Hid (PW w { F2 with data := t } (w3.setCell ⟨w.heap.size + 1, 9, none⟩ (.string ⟨t.toArray⟩))) := Lib.hid (HQ5.out.put9 t)
        obtain ⟨c0, c1, c2, c3, c4, c5, c6, c7, c8, c9, c10, c11, c12⟩ := HQ5.out.f.ats
        obtain ⟨d0, d1, d2, d3, d4, d5, d6, d7, d8, d9, d10, d11, d12⟩ := HQ5.out.r.ats
        have cf := HQ5.out.f.fz
        have df := HQ5.out.r.fz
        have hlt := HQ5.out.f.lt
        go_upto_region 66 with (fail)
        clear c0 d0 c1 d1 c2 d2 c3 d3 c4 d4 c5 d5 c6 d6 c7 d7 c8 d8 c9 d9 c10 d10 c11 d11 c12 d12 cf df hlt
        obtain ⟨F, hF⟩ : ∃ F : Frm, ({ F2 with data := t } : Frm) = F := ⟨_, rfl⟩
        have HQ : Hid (PW w F (w3.setCell ⟨w.heap.size + 1, 9, none⟩ (.string ⟨t.toArray⟩))) := Lib.hid (by rw [← hF]; exact HQ.out)
        have HFQ := Lib.hid hF
        clear hF
        generalize (w3.setCell ⟨w.heap.size + 1, 9, none⟩ (.string ⟨t.toArray⟩)) = Wt at HQ ⊢
        obtain ⟨c0, c1, c2, c3, c4, c5, c6, c7, c8, c9, c10, c11, c12⟩ := HQ.out.f.ats
        obtain ⟨d0, d1, d2, d3, d4, d5, d6, d7, d8, d9, d10, d11, d12⟩ := HQ.out.r.ats
        have df := HQ.out.r.fz
        go_wp2
        have HE := Lib.hid (PW.ends (HQ.out))
        refine bodyPost_ret (v := .tuple #[.agg #[.int .u64 F.kind, .int .u64 F.id, .int .u64 F.off, .int .u64 F.max, .int .u64 F.code, .int .u64 F.seq, .int .u64 F.prior, .int .u64 F.delay, .bool F.fin, .string ⟨F.data.toArray⟩, .string ⟨F.cid.toArray⟩, .string ⟨F.token.toArray⟩, .slice F.set.a F.set.n F.set.c], .string ⟨q.toArray⟩, .bool true]) (by
          change Sem.run Tryd.prog (results _ _) (rstF w.heap.size F Wt) = Result.ok _ (rstF w.heap.size F Wt)
          obtain ⟨y0, y1, y2, y3, y4, y5, y6, y7, y8, y9, y10, y11, y12⟩ := HE.out.1.ats
          generalize (rstF w.heap.size F Wt) = X at y0 y1 y2 y3 y4 y5 y6 y7 y8 y9 y10 y11 y12 ⊢
          simp [results, Tryd.results22, go_sem, y0, y1, y2, y3, y4, y5, y6, y7, y8, y9, y10, y11, y12]) rfl ?_
        exact ⟨HE.out.2, ⟨none, 0, 0⟩, rfl, rd_none _, (fun x hx => by cases hx), by rw [← HFQ.out, ← HF2.out, ← HF1.out]; rfl⟩
    · rw [decide_eq_false h] at CO
      rw [if_neg h]
      clear h
      go_enter Tryd.func22, Tryd.ntmps22
      go_wp2_with fail
      refine (CN.out _).mono ?_
      rintro e w1 ⟨rfl, hb⟩
      have HQ1 := Lib.hid (HQ0.out.go hb)
      have HQ := Lib.hid (HQ1.out.put1 n)
      clear hb
      obtain ⟨c0, c1, c2, c3, c4, c5, c6, c7, c8, c9, c10, c11, c12⟩ := HQ1.out.f.ats
      obtain ⟨d0, d1, d2, d3, d4, d5, d6, d7, d8, d9, d10, d11, d12⟩ := HQ1.out.r.ats
      have cf := HQ1.out.f.fz
      have df := HQ1.out.r.fz
      have hlt := HQ1.out.f.lt
      go_wp2_with fail
      refine (CO.out _).mono ?_
      rintro e w2 ⟨rfl, hb⟩
      have HQ2 := Lib.hid (HQ.out.go hb)
      clear hb c0 d0 c1 d1 c2 d2 c3 d3 c4 d4 c5 d5 c6 d6 c7 d7 c8 d8 c9 d9 c10 d10 c11 d11 c12 d12 cf df hlt HQ
      obtain ⟨F1, hF1⟩ : ∃ F : Frm, ({ frZ with kind := 8, fin := false, id := n } : Frm) = F := ⟨_, rfl⟩
      have HQ3 : Hid (PW w F1 w2) := Lib.hid (by rw [← hF1]; exact HQ2.out)
      have HF1 := Lib.hid hF1
      clear hF1 HQ2
      have HQ := Lib.hid (HQ3.out.put2 m)
      obtain ⟨c0, c1, c2, c3, c4, c5, c6, c7, c8, c9, c10, c11, c12⟩ := HQ3.out.f.ats
      obtain ⟨d0, d1, d2, d3, d4, d5, d6, d7, d8, d9, d10, d11, d12⟩ := HQ3.out.r.ats
      have cf := HQ3.out.f.fz
      have df := HQ3.out.r.fz
      have hlt := HQ3.out.f.lt
      go_upto_region 66 with (fail)
      clear c0 d0 c1 d1 c2 d2 c3 d3 c4 d4 c5 d5 c6 d6 c7 d7 c8 d8 c9 d9 c10 d10 c11 d11 c12 d12 cf df hlt
      obtain ⟨F, hF⟩ : ∃ F : Frm, ({ F1 with off := m } : Frm) = F := ⟨_, rfl⟩
      have HQ : Hid (PW w F (w2.setCell ⟨w.heap.size + 1, 2, none⟩ (.int .u64 m))) := Lib.hid (by rw [← hF]; exact HQ.out)
      have HFQ := Lib.hid hF
      clear hF
      generalize (w2.setCell ⟨w.heap.size + 1, 2, none⟩ (.int .u64 m)) = Wt at HQ ⊢
      obtain ⟨c0, c1, c2, c3, c4, c5, c6, c7, c8, c9, c10, c11, c12⟩ := HQ.out.f.ats
      obtain ⟨d0, d1, d2, d3, d4, d5, d6, d7, d8, d9, d10, d11, d12⟩ := HQ.out.r.ats
      have df := HQ.out.r.fz
      go_wp2
      have HE := Lib.hid (PW.ends (HQ.out))
      refine bodyPost_ret (v := .tuple #[.agg #[.int .u64 F.kind, .int .u64 F.id, .int .u64 F.off, .int .u64 F.max, .int .u64 F.code, .int .u64 F.seq, .int .u64 F.prior, .int .u64 F.delay, .bool F.fin, .string ⟨F.data.toArray⟩, .string ⟨F.cid.toArray⟩, .string ⟨F.token.toArray⟩, .slice F.set.a F.set.n F.set.c], .string ⟨u.toArray⟩, .bool false]) (by
        change Sem.run Tryd.prog (results _ _) (rstF w.heap.size F Wt) = Result.ok _ (rstF w.heap.size F Wt)
        obtain ⟨y0, y1, y2, y3, y4, y5, y6, y7, y8, y9, y10, y11, y12⟩ := HE.out.1.ats
        generalize (rstF w.heap.size F Wt) = X at y0 y1 y2 y3 y4 y5 y6 y7 y8 y9 y10 y11 y12 ⊢
        simp [results, Tryd.results22, go_sem, y0, y1, y2, y3, y4, y5, y6, y7, y8, y9, y10, y11, y12]) rfl ?_
      exact ⟨HE.out.2, F, u, rfl⟩
  · rw [decide_eq_false h] at CN
    rw [if_neg h]
    clear h
    go_enter Tryd.func22, Tryd.ntmps22
    go_wp2_with fail
    refine (CN.out _).mono ?_
    rintro e w1 ⟨rfl, hb⟩
    have HQ1 := Lib.hid (HQ0.out.go hb)
    have HQ := Lib.hid (HQ1.out.put1 n)
    clear hb
    obtain ⟨c0, c1, c2, c3, c4, c5, c6, c7, c8, c9, c10, c11, c12⟩ := HQ1.out.f.ats
    obtain ⟨d0, d1, d2, d3, d4, d5, d6, d7, d8, d9, d10, d11, d12⟩ := HQ1.out.r.ats
    have cf := HQ1.out.f.fz
    have df := HQ1.out.r.fz
    have hlt := HQ1.out.f.lt
    go_upto_region 66 with (fail)
    clear c0 d0 c1 d1 c2 d2 c3 d3 c4 d4 c5 d5 c6 d6 c7 d7 c8 d8 c9 d9 c10 d10 c11 d11 c12 d12 cf df hlt
    obtain ⟨F, hF⟩ : ∃ F : Frm, ({ frZ with kind := 8, fin := false, id := n } : Frm) = F := ⟨_, rfl⟩
    have HQ : Hid (PW w F (w1.setCell ⟨w.heap.size + 1, 1, none⟩ (.int .u64 n))) := Lib.hid (by rw [← hF]; exact HQ.out)
    have HFQ := Lib.hid hF
    clear hF
    generalize (w1.setCell ⟨w.heap.size + 1, 1, none⟩ (.int .u64 n)) = Wt at HQ ⊢
    obtain ⟨c0, c1, c2, c3, c4, c5, c6, c7, c8, c9, c10, c11, c12⟩ := HQ.out.f.ats
    obtain ⟨d0, d1, d2, d3, d4, d5, d6, d7, d8, d9, d10, d11, d12⟩ := HQ.out.r.ats
    have df := HQ.out.r.fz
    go_wp2
    have HE := Lib.hid (PW.ends (HQ.out))
    refine bodyPost_ret (v := .tuple #[.agg #[.int .u64 F.kind, .int .u64 F.id, .int .u64 F.off, .int .u64 F.max, .int .u64 F.code, .int .u64 F.seq, .int .u64 F.prior, .int .u64 F.delay, .bool F.fin, .string ⟨F.data.toArray⟩, .string ⟨F.cid.toArray⟩, .string ⟨F.token.toArray⟩, .slice F.set.a F.set.n F.set.c], .string ⟨r.toArray⟩, .bool false]) (by
      change Sem.run Tryd.prog (results _ _) (rstF w.heap.size F Wt) = Result.ok _ (rstF w.heap.size F Wt)
      obtain ⟨y0, y1, y2, y3, y4, y5, y6, y7, y8, y9, y10, y11, y12⟩ := HE.out.1.ats
      generalize (rstF w.heap.size F Wt) = X at y0 y1 y2 y3 y4 y5 y6 y7 y8 y9 y10 y11 y12 ⊢
      simp [results, Tryd.results22, go_sem, y0, y1, y2, y3, y4, y5, y6, y7, y8, y9, y10, y11, y12]) rfl ?_
    exact ⟨HE.out.2, F, r, rfl⟩
set_option maxHeartbeats 16000000 in
theorem rparts_15 (l : List UInt8) (w : World) (hl : l.length ≤ 4000) : Calls Tryd.prog 22 #[.int .u64 15, .string ⟨l.toArray⟩] w (PtTo (if gk l ≤ l.length then (if gk (gR l) ≤ (gR l).length then (match lngN (gR (gR l)) with | some (t, q) => some ({ frZ with kind := 8, fin := true, id := (gN l : Nat), off := (gN (gR l) : Nat), data := t }, [], q) | none => none) else none) else none) w) := by
  have CN := Lib.hid (fun w => rnumber l w (by omega))
  have HQ0 := Lib.hid (PW.start8 true w)
  have CO := Lib.hid (fun w => rnumber (gR l) w (Nat.le_trans (gR_le l) (by omega)))
  have CL := Lib.hid (fun w => rlong (gR (gR l)) w (Nat.le_trans (gR_le _) (Nat.le_trans (gR_le l) (by omega))))
  clear hl
  obtain ⟨n, hn⟩ : ∃ n : Int, ((gN l : Nat) : Int) = n := ⟨_, rfl⟩
  obtain ⟨r, hr⟩ : ∃ r, gR l = r := ⟨_, rfl⟩
  rw [hn, hr] at CN
  rw [hr] at CO
  rw [hr] at CL
  rw [hn, hr]
  clear hn hr
  obtain ⟨m, hm⟩ : ∃ n : Int, ((gN r : Nat) : Int) = n := ⟨_, rfl⟩
  obtain ⟨u, hu⟩ : ∃ u, gR r = u := ⟨_, rfl⟩
  rw [hm, hu] at CO
  rw [hu] at CL
  rw [hm, hu]
  clear hm hu
  by_cases h : gk l ≤ l.length
  · rw [decide_eq_true h] at CN
    rw [if_pos h]
    clear h
    by_cases h : gk r ≤ r.length
    · rw [decide_eq_true h] at CO
      rw [if_pos h]
      clear h
      match hg : lngN u with
      | none =>
        rw [hg] at CL
        clear hg
        go_enter Tryd.func22, Tryd.ntmps22
        go_wp2_with fail
        refine (CN.out _).mono ?_
        rintro e w1 ⟨rfl, hb⟩
        have HQ1 := Lib.hid (HQ0.out.go hb)
        have HQ := Lib.hid (HQ1.out.put1 n)
        clear hb
        obtain ⟨c0, c1, c2, c3, c4, c5, c6, c7, c8, c9, c10, c11, c12⟩ := HQ1.out.f.ats
        obtain ⟨d0, d1, d2, d3, d4, d5, d6, d7, d8, d9, d10, d11, d12⟩ := HQ1.out.r.ats
        have cf := HQ1.out.f.fz
        have df := HQ1.out.r.fz
        have hlt := HQ1.out.f.lt
        go_wp2_with fail
        refine (CO.out _).mono ?_
        rintro e w2 ⟨rfl, hb⟩
        have HQ2 := Lib.hid (HQ.out.go hb)
        clear hb c0 d0 c1 d1 c2 d2 c3 d3 c4 d4 c5 d5 c6 d6 c7 d7 c8 d8 c9 d9 c10 d10 c11 d11 c12 d12 cf df hlt HQ
        obtain ⟨F1, hF1⟩ : ∃ F : Frm, ({ frZ with kind := 8, fin := true, id := n } : Frm) = F := ⟨_, rfl⟩
        have HQ3 : Hid (PW w F1 w2) := Lib.hid (by rw [← hF1]; exact HQ2.out)
        have HF1 := Lib.hid hF1
        clear hF1 HQ2
        have HQ := Lib.hid (HQ3.out.put2 m)
        obtain ⟨c0, c1, c2, c3, c4, c5, c6, c7, c8, c9, c10, c11, c12⟩ := HQ3.out.f.ats
        obtain ⟨d0, d1, d2, d3, d4, d5, d6, d7, d8, d9, d10, d11, d12⟩ := HQ3.out.r.ats
        have cf := HQ3.out.f.fz
        have df := HQ3.out.r.fz
        have hlt := HQ3.out.f.lt
        go_wp2_with fail
        refine (CL.out _).mono ?_
        rintro e w3 ⟨hb, rfl⟩
        have HQ4 := Lib.hid (HQ.out.go hb)
        clear hb c0 d0 c1 d1 c2 d2 c3 d3 c4 d4 c5 d5 c6 d6 c7 d7 c8 d8 c9 d9 c10 d10 c11 d11 c12 d12 cf df hlt HQ
        obtain ⟨F2, hF2⟩ : ∃ F : Frm, ({ F1 with off := m } : Frm) = F := ⟨_, rfl⟩
        have HQ5 : Hid (PW w F2 w3) := Lib.hid (by rw [← hF2]; exact HQ4.out)
        have HF2 := Lib.hid hF2
        clear hF2 HQ4
        have HQ : Hid (PW w { F2 with data := [] } (w3.setCell ⟨w.heap.size + 1, 9, none⟩ (.string ⟨#[]⟩))) := Lib.hid (HQ5.out.put9 [])
        obtain ⟨c0, c1, c2, c3, c4, c5, c6, c7, c8, c9, c10, c11, c12⟩ := HQ5.out.f.ats
        obtain ⟨d0, d1, d2, d3, d4, d5, d6, d7, d8, d9, d10, d11, d12⟩ := HQ5.out.r.ats
        have cf := HQ5.out.f.fz
        have df := HQ5.out.r.fz
        have hlt := HQ5.out.f.lt
        go_upto_region 66 with (fail)
        clear c0 d0 c1 d1 c2 d2 c3 d3 c4 d4 c5 d5 c6 d6 c7 d7 c8 d8 c9 d9 c10 d10 c11 d11 c12 d12 cf df hlt
        obtain ⟨F, hF⟩ : ∃ F : Frm, ({ F2 with data := [] } : Frm) = F := ⟨_, rfl⟩
        have HQ : Hid (PW w F (w3.setCell ⟨w.heap.size + 1, 9, none⟩ (.string ⟨#[]⟩))) := Lib.hid (by rw [← hF]; exact HQ.out)
        have HFQ := Lib.hid hF
        clear hF
        generalize (w3.setCell ⟨w.heap.size + 1, 9, none⟩ (.string ⟨#[]⟩)) = Wt at HQ ⊢
        obtain ⟨c0, c1, c2, c3, c4, c5, c6, c7, c8, c9, c10, c11, c12⟩ := HQ.out.f.ats
        obtain ⟨d0, d1, d2, d3, d4, d5, d6, d7, d8, d9, d10, d11, d12⟩ := HQ.out.r.ats
        have df := HQ.out.r.fz
        go_wp2
        have HE := Lib.hid (PW.ends (HQ.out))
        refine bodyPost_ret (v := .tuple #[.agg #[.int .u64 F.kind, .int .u64 F.id, .int .u64 F.off, .int .u64 F.max, .int .u64 F.code, .int .u64 F.seq, .int .u64 F.prior, .int .u64 F.delay, .bool F.fin, .string ⟨F.data.toArray⟩, .string ⟨F.cid.toArray⟩, .string ⟨F.token.toArray⟩, .slice F.set.a F.set.n F.set.c], .string ⟨([] : List UInt8).toArray⟩, .bool false]) (by
          change Sem.run Tryd.prog (results _ _) (rstF w.heap.size F Wt) = Result.ok _ (rstF w.heap.size F Wt)
          obtain ⟨y0, y1, y2, y3, y4, y5, y6, y7, y8, y9, y10, y11, y12⟩ := HE.out.1.ats
          generalize (rstF w.heap.size F Wt) = X at y0 y1 y2 y3 y4 y5 y6 y7 y8 y9 y10 y11 y12 ⊢
          simp [results, Tryd.results22, go_sem, y0, y1, y2, y3, y4, y5, y6, y7, y8, y9, y10, y11, y12]) rfl ?_
        exact ⟨HE.out.2, F, [], rfl⟩
      | some (t, q) =>
        rw [hg] at CL
        clear hg
        go_enter Tryd.func22, Tryd.ntmps22
        go_wp2_with fail
        refine (CN.out _).mono ?_
        rintro e w1 ⟨rfl, hb⟩
        have HQ1 := Lib.hid (HQ0.out.go hb)
        have HQ := Lib.hid (HQ1.out.put1 n)
        clear hb
        obtain ⟨c0, c1, c2, c3, c4, c5, c6, c7, c8, c9, c10, c11, c12⟩ := HQ1.out.f.ats
        obtain ⟨d0, d1, d2, d3, d4, d5, d6, d7, d8, d9, d10, d11, d12⟩ := HQ1.out.r.ats
        have cf := HQ1.out.f.fz
        have df := HQ1.out.r.fz
        have hlt := HQ1.out.f.lt
        go_wp2_with fail
        refine (CO.out _).mono ?_
        rintro e w2 ⟨rfl, hb⟩
        have HQ2 := Lib.hid (HQ.out.go hb)
        clear hb c0 d0 c1 d1 c2 d2 c3 d3 c4 d4 c5 d5 c6 d6 c7 d7 c8 d8 c9 d9 c10 d10 c11 d11 c12 d12 cf df hlt HQ
        obtain ⟨F1, hF1⟩ : ∃ F : Frm, ({ frZ with kind := 8, fin := true, id := n } : Frm) = F := ⟨_, rfl⟩
        have HQ3 : Hid (PW w F1 w2) := Lib.hid (by rw [← hF1]; exact HQ2.out)
        have HF1 := Lib.hid hF1
        clear hF1 HQ2
        have HQ := Lib.hid (HQ3.out.put2 m)
        obtain ⟨c0, c1, c2, c3, c4, c5, c6, c7, c8, c9, c10, c11, c12⟩ := HQ3.out.f.ats
        obtain ⟨d0, d1, d2, d3, d4, d5, d6, d7, d8, d9, d10, d11, d12⟩ := HQ3.out.r.ats
        have cf := HQ3.out.f.fz
        have df := HQ3.out.r.fz
        have hlt := HQ3.out.f.lt
        go_wp2_with fail
        refine (CL.out _).mono ?_
        rintro e w3 ⟨hb, rfl⟩
        have HQ4 := Lib.hid (HQ.out.go hb)
        clear hb c0 d0 c1 d1 c2 d2 c3 d3 c4 d4 c5 d5 c6 d6 c7 d7 c8 d8 c9 d9 c10 d10 c11 d11 c12 d12 cf df hlt HQ
        obtain ⟨F2, hF2⟩ : ∃ F : Frm, ({ F1 with off := m } : Frm) = F := ⟨_, rfl⟩
        have HQ5 : Hid (PW w F2 w3) := Lib.hid (by rw [← hF2]; exact HQ4.out)
        have HF2 := Lib.hid hF2
        clear hF2 HQ4
        have HQ : Hid (PW w { F2 with data := t } (w3.setCell ⟨w.heap.size + 1, 9, none⟩ (.string ⟨t.toArray⟩))) := Lib.hid (HQ5.out.put9 t)
        obtain ⟨c0, c1, c2, c3, c4, c5, c6, c7, c8, c9, c10, c11, c12⟩ := HQ5.out.f.ats
        obtain ⟨d0, d1, d2, d3, d4, d5, d6, d7, d8, d9, d10, d11, d12⟩ := HQ5.out.r.ats
        have cf := HQ5.out.f.fz
        have df := HQ5.out.r.fz
        have hlt := HQ5.out.f.lt
        go_upto_region 66 with (fail)
        clear c0 d0 c1 d1 c2 d2 c3 d3 c4 d4 c5 d5 c6 d6 c7 d7 c8 d8 c9 d9 c10 d10 c11 d11 c12 d12 cf df hlt
        obtain ⟨F, hF⟩ : ∃ F : Frm, ({ F2 with data := t } : Frm) = F := ⟨_, rfl⟩
        have HQ : Hid (PW w F (w3.setCell ⟨w.heap.size + 1, 9, none⟩ (.string ⟨t.toArray⟩))) := Lib.hid (by rw [← hF]; exact HQ.out)
        have HFQ := Lib.hid hF
        clear hF
        generalize (w3.setCell ⟨w.heap.size + 1, 9, none⟩ (.string ⟨t.toArray⟩)) = Wt at HQ ⊢
        obtain ⟨c0, c1, c2, c3, c4, c5, c6, c7, c8, c9, c10, c11, c12⟩ := HQ.out.f.ats
        obtain ⟨d0, d1, d2, d3, d4, d5, d6, d7, d8, d9, d10, d11, d12⟩ := HQ.out.r.ats
        have df := HQ.out.r.fz
        go_wp2
        have HE := Lib.hid (PW.ends (HQ.out))
        refine bodyPost_ret (v := .tuple #[.agg #[.int .u64 F.kind, .int .u64 F.id, .int .u64 F.off, .int .u64 F.max, .int .u64 F.code, .int .u64 F.seq, .int .u64 F.prior, .int .u64 F.delay, .bool F.fin, .string ⟨F.data.toArray⟩, .string ⟨F.cid.toArray⟩, .string ⟨F.token.toArray⟩, .slice F.set.a F.set.n F.set.c], .string ⟨q.toArray⟩, .bool true]) (by
          change Sem.run Tryd.prog (results _ _) (rstF w.heap.size F Wt) = Result.ok _ (rstF w.heap.size F Wt)
          obtain ⟨y0, y1, y2, y3, y4, y5, y6, y7, y8, y9, y10, y11, y12⟩ := HE.out.1.ats
          generalize (rstF w.heap.size F Wt) = X at y0 y1 y2 y3 y4 y5 y6 y7 y8 y9 y10 y11 y12 ⊢
          simp [results, Tryd.results22, go_sem, y0, y1, y2, y3, y4, y5, y6, y7, y8, y9, y10, y11, y12]) rfl ?_
        exact ⟨HE.out.2, ⟨none, 0, 0⟩, rfl, rd_none _, (fun x hx => by cases hx), by rw [← HFQ.out, ← HF2.out, ← HF1.out]; rfl⟩
    · rw [decide_eq_false h] at CO
      rw [if_neg h]
      clear h
      go_enter Tryd.func22, Tryd.ntmps22
      go_wp2_with fail
      refine (CN.out _).mono ?_
      rintro e w1 ⟨rfl, hb⟩
      have HQ1 := Lib.hid (HQ0.out.go hb)
      have HQ := Lib.hid (HQ1.out.put1 n)
      clear hb
      obtain ⟨c0, c1, c2, c3, c4, c5, c6, c7, c8, c9, c10, c11, c12⟩ := HQ1.out.f.ats
      obtain ⟨d0, d1, d2, d3, d4, d5, d6, d7, d8, d9, d10, d11, d12⟩ := HQ1.out.r.ats
      have cf := HQ1.out.f.fz
      have df := HQ1.out.r.fz
      have hlt := HQ1.out.f.lt
      go_wp2_with fail
      refine (CO.out _).mono ?_
      rintro e w2 ⟨rfl, hb⟩
      have HQ2 := Lib.hid (HQ.out.go hb)
      clear hb c0 d0 c1 d1 c2 d2 c3 d3 c4 d4 c5 d5 c6 d6 c7 d7 c8 d8 c9 d9 c10 d10 c11 d11 c12 d12 cf df hlt HQ
      obtain ⟨F1, hF1⟩ : ∃ F : Frm, ({ frZ with kind := 8, fin := true, id := n } : Frm) = F := ⟨_, rfl⟩
      have HQ3 : Hid (PW w F1 w2) := Lib.hid (by rw [← hF1]; exact HQ2.out)
      have HF1 := Lib.hid hF1
      clear hF1 HQ2
      have HQ := Lib.hid (HQ3.out.put2 m)
      obtain ⟨c0, c1, c2, c3, c4, c5, c6, c7, c8, c9, c10, c11, c12⟩ := HQ3.out.f.ats
      obtain ⟨d0, d1, d2, d3, d4, d5, d6, d7, d8, d9, d10, d11, d12⟩ := HQ3.out.r.ats
      have cf := HQ3.out.f.fz
      have df := HQ3.out.r.fz
      have hlt := HQ3.out.f.lt
      go_upto_region 66 with (fail)
      clear c0 d0 c1 d1 c2 d2 c3 d3 c4 d4 c5 d5 c6 d6 c7 d7 c8 d8 c9 d9 c10 d10 c11 d11 c12 d12 cf df hlt
      obtain ⟨F, hF⟩ : ∃ F : Frm, ({ F1 with off := m } : Frm) = F := ⟨_, rfl⟩
      have HQ : Hid (PW w F (w2.setCell ⟨w.heap.size + 1, 2, none⟩ (.int .u64 m))) := Lib.hid (by rw [← hF]; exact HQ.out)
      have HFQ := Lib.hid hF
      clear hF
      generalize (w2.setCell ⟨w.heap.size + 1, 2, none⟩ (.int .u64 m)) = Wt at HQ ⊢
      obtain ⟨c0, c1, c2, c3, c4, c5, c6, c7, c8, c9, c10, c11, c12⟩ := HQ.out.f.ats
      obtain ⟨d0, d1, d2, d3, d4, d5, d6, d7, d8, d9, d10, d11, d12⟩ := HQ.out.r.ats
      have df := HQ.out.r.fz
      go_wp2
      have HE := Lib.hid (PW.ends (HQ.out))
      refine bodyPost_ret (v := .tuple #[.agg #[.int .u64 F.kind, .int .u64 F.id, .int .u64 F.off, .int .u64 F.max, .int .u64 F.code, .int .u64 F.seq, .int .u64 F.prior, .int .u64 F.delay, .bool F.fin, .string ⟨F.data.toArray⟩, .string ⟨F.cid.toArray⟩, .string ⟨F.token.toArray⟩, .slice F.set.a F.set.n F.set.c], .string ⟨u.toArray⟩, .bool false]) (by
        change Sem.run Tryd.prog (results _ _) (rstF w.heap.size F Wt) = Result.ok _ (rstF w.heap.size F Wt)
        obtain ⟨y0, y1, y2, y3, y4, y5, y6, y7, y8, y9, y10, y11, y12⟩ := HE.out.1.ats
        generalize (rstF w.heap.size F Wt) = X at y0 y1 y2 y3 y4 y5 y6 y7 y8 y9 y10 y11 y12 ⊢
        simp [results, Tryd.results22, go_sem, y0, y1, y2, y3, y4, y5, y6, y7, y8, y9, y10, y11, y12]) rfl ?_
      exact ⟨HE.out.2, F, u, rfl⟩
  · rw [decide_eq_false h] at CN
    rw [if_neg h]
    clear h
    go_enter Tryd.func22, Tryd.ntmps22
    go_wp2_with fail
    refine (CN.out _).mono ?_
    rintro e w1 ⟨rfl, hb⟩
    have HQ1 := Lib.hid (HQ0.out.go hb)
    have HQ := Lib.hid (HQ1.out.put1 n)
    clear hb
    obtain ⟨c0, c1, c2, c3, c4, c5, c6, c7, c8, c9, c10, c11, c12⟩ := HQ1.out.f.ats
    obtain ⟨d0, d1, d2, d3, d4, d5, d6, d7, d8, d9, d10, d11, d12⟩ := HQ1.out.r.ats
    have cf := HQ1.out.f.fz
    have df := HQ1.out.r.fz
    have hlt := HQ1.out.f.lt
    go_upto_region 66 with (fail)
    clear c0 d0 c1 d1 c2 d2 c3 d3 c4 d4 c5 d5 c6 d6 c7 d7 c8 d8 c9 d9 c10 d10 c11 d11 c12 d12 cf df hlt
    obtain ⟨F, hF⟩ : ∃ F : Frm, ({ frZ with kind := 8, fin := true, id := n } : Frm) = F := ⟨_, rfl⟩
    have HQ : Hid (PW w F (w1.setCell ⟨w.heap.size + 1, 1, none⟩ (.int .u64 n))) := Lib.hid (by rw [← hF]; exact HQ.out)
    have HFQ := Lib.hid hF
    clear hF
    generalize (w1.setCell ⟨w.heap.size + 1, 1, none⟩ (.int .u64 n)) = Wt at HQ ⊢
    obtain ⟨c0, c1, c2, c3, c4, c5, c6, c7, c8, c9, c10, c11, c12⟩ := HQ.out.f.ats
    obtain ⟨d0, d1, d2, d3, d4, d5, d6, d7, d8, d9, d10, d11, d12⟩ := HQ.out.r.ats
    have df := HQ.out.r.fz
    go_wp2
    have HE := Lib.hid (PW.ends (HQ.out))
    refine bodyPost_ret (v := .tuple #[.agg #[.int .u64 F.kind, .int .u64 F.id, .int .u64 F.off, .int .u64 F.max, .int .u64 F.code, .int .u64 F.seq, .int .u64 F.prior, .int .u64 F.delay, .bool F.fin, .string ⟨F.data.toArray⟩, .string ⟨F.cid.toArray⟩, .string ⟨F.token.toArray⟩, .slice F.set.a F.set.n F.set.c], .string ⟨r.toArray⟩, .bool false]) (by
      change Sem.run Tryd.prog (results _ _) (rstF w.heap.size F Wt) = Result.ok _ (rstF w.heap.size F Wt)
      obtain ⟨y0, y1, y2, y3, y4, y5, y6, y7, y8, y9, y10, y11, y12⟩ := HE.out.1.ats
      generalize (rstF w.heap.size F Wt) = X at y0 y1 y2 y3 y4 y5 y6 y7 y8 y9 y10 y11 y12 ⊢
      simp [results, Tryd.results22, go_sem, y0, y1, y2, y3, y4, y5, y6, y7, y8, y9, y10, y11, y12]) rfl ?_
    exact ⟨HE.out.2, F, r, rfl⟩
end
end Go.Proofs.YtfeecfdbncjmnaaDoor.Fm
