/- The walks of layer 6: read of bytes whose kind has a Set. -/
import Derived.Test.YtfeecfdbncjmnaaDoorFmL
import Derived.Test.YtfeecfdbncjmnaaDoorFmP
import Derived.Test.YtfeecfdbncjmnaaDoorFmF
namespace Go.Proofs.YtfeecfdbncjmnaaDoor.Fm
set_option maxRecDepth 20000
open Go.RowKit Vm
set_option linter.unusedVariables false
set_option linter.unusedSimpArgs false

theorem OwnP.base {w : World} {B B' g c : Nat} {l : List (Nat × Nat)} (h : OwnP w B' g c l) (hb : B ≤ B') : OwnP w B g c l :=
  ⟨h.1, h.2.imp id fun ⟨g', cap, cur, hv, hg, r⟩ => ⟨g', cap, cur, hv, Nat.le_trans hb hg, r⟩⟩
set_option maxHeartbeats 8000000 in
theorem frame_set_yes (b : Nat) (c : UInt8) (t : List UInt8) (w : World) (ht : Tab w) (h : FBk b (c :: t) frZ w) (hl : t.length ≤ 100000) (hk : toldB c.toNat = true) (hs : (toldP c.toNat).testBit 11 = true) (delay : Nat) (rs : List (Nat × Nat)) (l5 : List UInt8) (hr : ackN t = some (delay, rs, l5)) :
    Calls Tryd.prog 31 #[.pointer (some ⟨b, 0, none⟩)] w fun e w' => e = .returned (.tuple #[]) ∧ ∃ g cc, FBk b l5 { frZ with kind := (toldK c.toNat : Nat), delay := (delay : Nat), set := ⟨some ⟨g, 0, none⟩, rs.length, cc⟩ } w' ∧ OwnP w' w.heap.size g cc rs ∧ It.Only (fun k => k = b) w w' := by
  obtain ⟨p, Ep⟩ : ∃ p, toldP c.toNat = p := ⟨_, rfl⟩
  obtain ⟨K, EK⟩ : ∃ K, toldK c.toNat = K := ⟨_, rfl⟩
  have hp : p < 8192 := by rw [← Ep]; exact toldP_lt _
  have CN := Lib.hid (fun w (h : FBk b (c :: t) frZ w) => number_ok b c t frZ w h (by simp; omega))
  have CT := Lib.hid (fun w => told_any c.toNat c.toNat_lt w)
  rw [hk, Ep, EK] at CT
  rw [Ep] at hs
  have e11 : (bits .and .u64 ((p : Nat) : Int) 2048 != 0) = true := bitF p 11 hp (by decide) _ hs
  have hbg := tab_ne ht h
  have hbl := h.lt
  have HT := Lib.hid ht
  have HB := Lib.hid h
  have CA := Lib.hid (fun W f' (ht : Tab W) (h : FBk b t f' W) => ack_yes b t f' W ht h hl delay rs l5 hr)
  clear ht h hs hk Ep
  try rw [EK]
  clear EK
  go_enter Tryd.func31, Tryd.ntmps31
  go_wp2_with fail
  refine (CN.out _ HB.out).mono ?_
  rintro e w1 ⟨rfl, hb, ho⟩
  have HB1 := Lib.hid hb
  have HO1 := Lib.hid ho
  have c1 := hb.cell1
  have g1 := hb.fz 1
  clear hb ho
  go_wp2_with fail
  refine (CT.out _).mono ?_
  rintro e w1' ⟨rfl, rfl⟩
  go_wp2_with fail
  have HB2 : Hid (FBk b t { frZ with kind := (K : Nat) } (w1'.setCell ⟨b, 1, none⟩ (.int .u64 (K : Nat)))) := Lib.hid (HB1.out.set1 _)
  have HO2 : Hid (It.Only (fun k => k = b) w (w1'.setCell ⟨b, 1, none⟩ (.int .u64 (K : Nat)))) := Lib.hid (HO1.out.trans (It.Only.setCell (O := fun k => k = b) (p := ⟨b, 1, none⟩) rfl _ _))
  have hs2 := HO2.out.size
  have HT2 := Lib.hid (tab_only HT.out HO2.out hbg.symm)
  clear c1 g1
  refine (CA.out _ _ HT2.out HB2.out).mono ?_
  rintro e w3 ⟨rfl, g, cc, hb, hp2, ho⟩
  have HB3 := Lib.hid hb
  have HP3 := Lib.hid (hp2.base hs2)
  have HO3 := Lib.hid (HO2.out.trans ho)
  clear hb hp2 ho
  go_wp2
  refine bodyPost_ret (results_none rfl _ _ _) rfl ?_
  exact ⟨rfl, g, cc, HB3.out, HP3.out, HO3.out⟩
set_option maxHeartbeats 8000000 in
theorem frame_set_no (b : Nat) (c : UInt8) (t : List UInt8) (w : World) (ht : Tab w) (h : FBk b (c :: t) frZ w) (hl : t.length ≤ 100000) (hk : toldB c.toNat = true) (hs : (toldP c.toNat).testBit 11 = true) (hr : ackN t = none) :
    Calls Tryd.prog 31 #[.pointer (some ⟨b, 0, none⟩)] w fun e w' => e = .panicked GU ∧ (∃ l2 f2, FBk b l2 f2 w') ∧ It.Only (fun k => k = b) w w' := by
  obtain ⟨p, Ep⟩ : ∃ p, toldP c.toNat = p := ⟨_, rfl⟩
  obtain ⟨K, EK⟩ : ∃ K, toldK c.toNat = K := ⟨_, rfl⟩
  have hp : p < 8192 := by rw [← Ep]; exact toldP_lt _
  have CN := Lib.hid (fun w (h : FBk b (c :: t) frZ w) => number_ok b c t frZ w h (by simp; omega))
  have CT := Lib.hid (fun w => told_any c.toNat c.toNat_lt w)
  rw [hk, Ep, EK] at CT
  rw [Ep] at hs
  have e11 : (bits .and .u64 ((p : Nat) : Int) 2048 != 0) = true := bitF p 11 hp (by decide) _ hs
  have hbg := tab_ne ht h
  have hbl := h.lt
  have HT := Lib.hid ht
  have HB := Lib.hid h
  have CA := Lib.hid (fun W f' (ht : Tab W) (h : FBk b t f' W) => ack_no b t f' W ht h hl hr)
  clear ht h hs hk Ep
  try rw [EK]
  clear EK
  go_enter Tryd.func31, Tryd.ntmps31
  go_wp2_with fail
  refine (CN.out _ HB.out).mono ?_
  rintro e w1 ⟨rfl, hb, ho⟩
  have HB1 := Lib.hid hb
  have HO1 := Lib.hid ho
  have c1 := hb.cell1
  have g1 := hb.fz 1
  clear hb ho
  go_wp2_with fail
  refine (CT.out _).mono ?_
  rintro e w1' ⟨rfl, rfl⟩
  go_wp2_with fail
  have HB2 : Hid (FBk b t { frZ with kind := (K : Nat) } (w1'.setCell ⟨b, 1, none⟩ (.int .u64 (K : Nat)))) := Lib.hid (HB1.out.set1 _)
  have HO2 : Hid (It.Only (fun k => k = b) w (w1'.setCell ⟨b, 1, none⟩ (.int .u64 (K : Nat)))) := Lib.hid (HO1.out.trans (It.Only.setCell (O := fun k => k = b) (p := ⟨b, 1, none⟩) rfl _ _))
  have hs2 := HO2.out.size
  have HT2 := Lib.hid (tab_only HT.out HO2.out hbg.symm)
  clear c1 g1
  refine (CA.out _ _ HT2.out HB2.out).mono ?_
  rintro e w3 ⟨rfl, ⟨l2, f2, hb⟩, ho⟩
  have HB3 := Lib.hid hb
  have HO3 := Lib.hid (HO2.out.trans ho)
  clear hb ho
  go_wp2
  exact ⟨rfl, rfl, ⟨_, _, HB3.out⟩, HO3.out⟩

/-- What read answers: what is left, and the frame. -/
def frE (l : List UInt8) (f : Frm) : Ending := .returned (.tuple #[.agg #[.string ⟨l.toArray⟩, .int .u64 f.kind, .int .u64 f.id, .int .u64 f.off, .int .u64 f.max, .int .u64 f.code, .int .u64 f.seq, .int .u64 f.prior, .int .u64 f.delay, .bool f.fin, .string ⟨f.data.toArray⟩, .string ⟨f.cid.toArray⟩, .string ⟨f.token.toArray⟩, .slice f.set.a f.set.n f.set.c], .bool true])
set_option maxHeartbeats 8000000 in
theorem read_set_gen (l l2 : List UInt8) (f2 : Frm) (rs : List (Nat × Nat)) (w : World) (ht : Tab w) (R : Ending → World → Prop)
    (hR : ∀ g cc W', OwnP W' w.heap.size g cc rs → Below w.heap.size w W' → R (frE l2 { f2 with set := ⟨some ⟨g, 0, none⟩, rs.length, cc⟩ }) W')
    (CF : Hid (∀ b W, Tab W → FBk b l frZ W → Calls Tryd.prog 31 #[.pointer (some ⟨b, 0, none⟩)] W fun e W' => e = .returned (.tuple #[]) ∧ ∃ g cc, FBk b l2 { f2 with set := ⟨some ⟨g, 0, none⟩, rs.length, cc⟩ } W' ∧ OwnP W' W.heap.size g cc rs ∧ It.Only (fun k => k = b) W W')) :
    Calls Tryd.prog 18 #[.string ⟨l.toArray⟩] w R := by
  have hmf : ∀ (fn : Fn) (first cap : Array Value) (w : World), (Instr.makeFunc fn first cap).run Tryd.prog w = .ok (.func fn first cap) w := fun _ _ _ _ => rfl
  have hlt := ht.lt
  have HB0 : Hid (Below w.heap.size w ((w.alloc (.cells #[.string ⟨l.toArray⟩, .int .u64 0, .int .u64 0, .int .u64 0, .int .u64 0, .int .u64 0, .int .u64 0, .int .u64 0, .int .u64 0, .bool false, .string ⟨#[]⟩, .string ⟨#[]⟩, .string ⟨#[]⟩, .slice none 0 0] 59)).alloc (.cells #[.bool false] 4))) := Lib.hid (((Below.refl _ _).alloc (Nat.le_refl _) _).alloc (by simp) _)
  have HT := Lib.hid (ht.below HB0.out ht.lt)
  have HF0 : Hid (FBk w.heap.size l frZ ((w.alloc (.cells #[.string ⟨l.toArray⟩, .int .u64 0, .int .u64 0, .int .u64 0, .int .u64 0, .int .u64 0, .int .u64 0, .int .u64 0, .int .u64 0, .bool false, .string ⟨#[]⟩, .string ⟨#[]⟩, .string ⟨#[]⟩, .slice none 0 0] 59)).alloc (.cells #[.bool false] 4))) := Lib.hid (by
    unfold FBk
    rw [Below.heap_alloc _ _ _ (by simp)]
    exact World.alloc_heap_new w _)
  have H10 : Hid (((w.alloc (.cells #[.string ⟨l.toArray⟩, .int .u64 0, .int .u64 0, .int .u64 0, .int .u64 0, .int .u64 0, .int .u64 0, .int .u64 0, .int .u64 0, .bool false, .string ⟨#[]⟩, .string ⟨#[]⟩, .string ⟨#[]⟩, .slice none 0 0] 59)).alloc (.cells #[.bool false] 4)).heap[w.heap.size + 1]? = some (.cells #[.bool false] 4 (0, 0))) := Lib.hid (by
    have := World.alloc_heap_new (w.alloc (.cells #[.string ⟨l.toArray⟩, .int .u64 0, .int .u64 0, .int .u64 0, .int .u64 0, .int .u64 0, .int .u64 0, .int .u64 0, .int .u64 0, .bool false, .string ⟨#[]⟩, .string ⟨#[]⟩, .string ⟨#[]⟩, .slice none 0 0] 59)) (.cells #[.bool false] 4)
    rwa [World.size_alloc] at this)
  clear ht
  go_enter_defers Tryd.func18, Tryd.ntmps18
  go_wp2_with fail
  refine (CF.out _ _ HT.out HF0.out).mono ?_
  rintro e w2 ⟨rfl, g, cc, hf, hp, ho⟩
  obtain ⟨F2, hF2⟩ : ∃ F, ({ f2 with set := ⟨some ⟨g, 0, none⟩, rs.length, cc⟩ } : Frm) = F := ⟨_, rfl⟩
  have HF22 := Lib.hid hF2
  rw [hF2] at hf
  clear hF2
  have HP2 := Lib.hid hp
  clear hp
  have HF2 := Lib.hid hf
  have h1 := ho.heap H10.out (by omega)
  have H12 := Lib.hid h1
  have hB2 : Below w.heap.size w w2 := HB0.out.trans (ho.below HB0.out.size (fun k hk => by omega))
  have HB2 := Lib.hid hB2
  have c0 := hf.cell0
  have c1 := hf.cell1
  have c2 := hf.cell2
  have c3 := hf.cell3
  have c4 := hf.cell4
  have c5 := hf.cell5
  have c6 := hf.cell6
  have c7 := hf.cell7
  have c8 := hf.cell8
  have c9 := hf.cell9
  have c10 := hf.cell10
  have c11 := hf.cell11
  have c12 := hf.cell12
  have c13 := hf.cell13
  have g0 := hf.fz
  have d0 : w2.cell? ⟨w.heap.size + 1, 0, none⟩ = some (.bool false) := Lib.cell_of_heap h1 0
  have d1 : w2.frozen? ⟨w.heap.size + 1, 0, none⟩ = false := Lib.frozen_of_heap h1 0
  clear hf ho h1 hB2
  go_wp2
  have HX : FBk w.heap.size l2 F2 (((((((((((((((w2.setCell ⟨w.heap.size, 0, none⟩ (.string ⟨l2.toArray⟩)).setCell ⟨w.heap.size, 1, none⟩ (.int .u64 F2.kind)).setCell ⟨w.heap.size, 2, none⟩ (.int .u64 F2.id)).setCell ⟨w.heap.size, 3, none⟩ (.int .u64 F2.off)).setCell ⟨w.heap.size, 4, none⟩ (.int .u64 F2.max)).setCell ⟨w.heap.size, 5, none⟩ (.int .u64 F2.code)).setCell ⟨w.heap.size, 6, none⟩ (.int .u64 F2.seq)).setCell ⟨w.heap.size, 7, none⟩ (.int .u64 F2.prior)).setCell ⟨w.heap.size, 8, none⟩ (.int .u64 F2.delay)).setCell ⟨w.heap.size, 9, none⟩ (.bool F2.fin)).setCell ⟨w.heap.size, 10, none⟩ (.string ⟨F2.data.toArray⟩)).setCell ⟨w.heap.size, 11, none⟩ (.string ⟨F2.cid.toArray⟩)).setCell ⟨w.heap.size, 12, none⟩ (.string ⟨F2.token.toArray⟩)).setCell ⟨w.heap.size, 13, none⟩ (.slice F2.set.a F2.set.n F2.set.c)).setCell ⟨w.heap.size + 1, 0, none⟩ (.bool true)) := ((((((((((((((HF2.out.set0 l2).set1 F2.kind).set2 F2.id).set3 F2.off).set4 F2.max).set5 F2.code).set6 F2.seq).set7 F2.prior).set8 F2.delay).set9 F2.fin).set10 F2.data).set11 F2.cid).set12 F2.token).set13 F2.set).only (It.Only.setCell (O := fun k => k = w.heap.size + 1) (p := ⟨w.heap.size + 1, 0, none⟩) rfl _ _) (by omega)
  have HO2 : It.Only (fun k => k = w.heap.size ∨ k = w.heap.size + 1) w2 (((((((((((((((w2.setCell ⟨w.heap.size, 0, none⟩ (.string ⟨l2.toArray⟩)).setCell ⟨w.heap.size, 1, none⟩ (.int .u64 F2.kind)).setCell ⟨w.heap.size, 2, none⟩ (.int .u64 F2.id)).setCell ⟨w.heap.size, 3, none⟩ (.int .u64 F2.off)).setCell ⟨w.heap.size, 4, none⟩ (.int .u64 F2.max)).setCell ⟨w.heap.size, 5, none⟩ (.int .u64 F2.code)).setCell ⟨w.heap.size, 6, none⟩ (.int .u64 F2.seq)).setCell ⟨w.heap.size, 7, none⟩ (.int .u64 F2.prior)).setCell ⟨w.heap.size, 8, none⟩ (.int .u64 F2.delay)).setCell ⟨w.heap.size, 9, none⟩ (.bool F2.fin)).setCell ⟨w.heap.size, 10, none⟩ (.string ⟨F2.data.toArray⟩)).setCell ⟨w.heap.size, 11, none⟩ (.string ⟨F2.cid.toArray⟩)).setCell ⟨w.heap.size, 12, none⟩ (.string ⟨F2.token.toArray⟩)).setCell ⟨w.heap.size, 13, none⟩ (.slice F2.set.a F2.set.n F2.set.c)).setCell ⟨w.heap.size + 1, 0, none⟩ (.bool true)) := by
    refine It.Only.trans ?_ (It.Only.setCell (O := fun k => k = w.heap.size ∨ k = w.heap.size + 1) (.inr rfl) _ _)
    iterate 14 (refine It.Only.trans ?_ (It.Only.setCell (O := fun k => k = w.heap.size ∨ k = w.heap.size + 1) (.inl rfl) _ _))
    exact It.Only.refl _ _
  have HPX := Lib.hid (HP2.out.only HO2 (by have := HP2.out.lt; simp at this; omega))
  have HX1 : ((((((((((((((((w2.setCell ⟨w.heap.size, 0, none⟩ (.string ⟨l2.toArray⟩)).setCell ⟨w.heap.size, 1, none⟩ (.int .u64 F2.kind)).setCell ⟨w.heap.size, 2, none⟩ (.int .u64 F2.id)).setCell ⟨w.heap.size, 3, none⟩ (.int .u64 F2.off)).setCell ⟨w.heap.size, 4, none⟩ (.int .u64 F2.max)).setCell ⟨w.heap.size, 5, none⟩ (.int .u64 F2.code)).setCell ⟨w.heap.size, 6, none⟩ (.int .u64 F2.seq)).setCell ⟨w.heap.size, 7, none⟩ (.int .u64 F2.prior)).setCell ⟨w.heap.size, 8, none⟩ (.int .u64 F2.delay)).setCell ⟨w.heap.size, 9, none⟩ (.bool F2.fin)).setCell ⟨w.heap.size, 10, none⟩ (.string ⟨F2.data.toArray⟩)).setCell ⟨w.heap.size, 11, none⟩ (.string ⟨F2.cid.toArray⟩)).setCell ⟨w.heap.size, 12, none⟩ (.string ⟨F2.token.toArray⟩)).setCell ⟨w.heap.size, 13, none⟩ (.slice F2.set.a F2.set.n F2.set.c)).setCell ⟨w.heap.size + 1, 0, none⟩ (.bool true))).cell? ⟨w.heap.size + 1, 0, none⟩ = some (.bool true) := by simp [go_sem, d0]
  have HXB : Below w.heap.size w (((((((((((((((w2.setCell ⟨w.heap.size, 0, none⟩ (.string ⟨l2.toArray⟩)).setCell ⟨w.heap.size, 1, none⟩ (.int .u64 F2.kind)).setCell ⟨w.heap.size, 2, none⟩ (.int .u64 F2.id)).setCell ⟨w.heap.size, 3, none⟩ (.int .u64 F2.off)).setCell ⟨w.heap.size, 4, none⟩ (.int .u64 F2.max)).setCell ⟨w.heap.size, 5, none⟩ (.int .u64 F2.code)).setCell ⟨w.heap.size, 6, none⟩ (.int .u64 F2.seq)).setCell ⟨w.heap.size, 7, none⟩ (.int .u64 F2.prior)).setCell ⟨w.heap.size, 8, none⟩ (.int .u64 F2.delay)).setCell ⟨w.heap.size, 9, none⟩ (.bool F2.fin)).setCell ⟨w.heap.size, 10, none⟩ (.string ⟨F2.data.toArray⟩)).setCell ⟨w.heap.size, 11, none⟩ (.string ⟨F2.cid.toArray⟩)).setCell ⟨w.heap.size, 12, none⟩ (.string ⟨F2.token.toArray⟩)).setCell ⟨w.heap.size, 13, none⟩ (.slice F2.set.a F2.set.n F2.set.c)).setCell ⟨w.heap.size + 1, 0, none⟩ (.bool true)) := HB2.out.trans (HO2.below HB2.out.size (fun k hk => by omega))
  clear HO2 c0 c1 c2 c3 c4 c5 c6 c7 c8 c9 c10 c11 c12 c13 g0 d0 d1
  generalize (((((((((((((((w2.setCell ⟨w.heap.size, 0, none⟩ (.string ⟨l2.toArray⟩)).setCell ⟨w.heap.size, 1, none⟩ (.int .u64 F2.kind)).setCell ⟨w.heap.size, 2, none⟩ (.int .u64 F2.id)).setCell ⟨w.heap.size, 3, none⟩ (.int .u64 F2.off)).setCell ⟨w.heap.size, 4, none⟩ (.int .u64 F2.max)).setCell ⟨w.heap.size, 5, none⟩ (.int .u64 F2.code)).setCell ⟨w.heap.size, 6, none⟩ (.int .u64 F2.seq)).setCell ⟨w.heap.size, 7, none⟩ (.int .u64 F2.prior)).setCell ⟨w.heap.size, 8, none⟩ (.int .u64 F2.delay)).setCell ⟨w.heap.size, 9, none⟩ (.bool F2.fin)).setCell ⟨w.heap.size, 10, none⟩ (.string ⟨F2.data.toArray⟩)).setCell ⟨w.heap.size, 11, none⟩ (.string ⟨F2.cid.toArray⟩)).setCell ⟨w.heap.size, 12, none⟩ (.string ⟨F2.token.toArray⟩)).setCell ⟨w.heap.size, 13, none⟩ (.slice F2.set.a F2.set.n F2.set.c)).setCell ⟨w.heap.size + 1, 0, none⟩ (.bool true)) = X at HX HX1 HXB HPX ⊢
  refine leaves_cons (f := 30) (args := #[.pointer (some ⟨w.heap.size, 0, none⟩), .pointer (some ⟨w.heap.size + 1, 0, none⟩)]) (by simp) (by simp [go_sem]) ?_
  refine (catch_idle ⟨w.heap.size, 0, none⟩ ⟨w.heap.size + 1, 0, none⟩ X).mono ?_
  rintro e u' w'' ⟨rfl, rfl, rfl⟩
  have c0 := HX.cell0
  have c1 := HX.cell1
  have c2 := HX.cell2
  have c3 := HX.cell3
  have c4 := HX.cell4
  have c5 := HX.cell5
  have c6 := HX.cell6
  have c7 := HX.cell7
  have c8 := HX.cell8
  have c9 := HX.cell9
  have c10 := HX.cell10
  have c11 := HX.cell11
  have c12 := HX.cell12
  have c13 := HX.cell13
  have hfin := hR g cc w'' (HPX.out.base (B := w.heap.size) (by simp; omega)) HXB
  rw [HF22.out] at hfin
  unfold frE at hfin
  simp [Leaves, settle, results, Tryd.results18, go_sem, *]
end Go.Proofs.YtfeecfdbncjmnaaDoor.Fm
