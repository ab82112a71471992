/- Layer 16: Next -/
import Derived.Test.YtoblmhpjendbfaaGreatDoorJb36
namespace Go.Proofs.YtoblmhpjendbfaaGreatDoor.Rg
set_option maxRecDepth 20000
open Go.RowKit Go.Shelf
set_option linter.unusedVariables false
set_option linter.unusedSimpArgs false

theorem nxt_bound {s : SS} (h : SsOk s) (most credit : Int) : (nxt s most credit).off + ((nxt s most credit).d.size : Int) ≤ 2000000 := by
  have h0 := h.b0
  have h1 := h.b1
  have h2 := en_ge s
  have h3 : (s.d.size : Int) ≤ 1000000 := by unfold en at h1; omega
  unfold nxt
  split
  · split
    · show en s + ((0 : Nat) : Int) ≤ _; omega
    · show (0 : Int) + ((0 : Nat) : Int) ≤ _; omega
  · rename_i x m e
    unfold nxo
    split
    · rename_i hlt
      have he : nxE s most credit x ≤ en s := by unfold nxE; omega
      show max x.1 s.ba + ((s.d.extract _ _).size : Int) ≤ _
      rw [ByteArray.size_extract]
      omega
    · show (0 : Int) + ((0 : Nat) : Int) ≤ _; omega
theorem nb_is {o : SS} {cr id most : Int} : ∀ {n : Nat} {N : NX}, nbL o cr id most n = some N → ∃ k : Nat, 1 ≤ k ∧ k ≤ n ∧ N = nxt o (k : Int) cr ∧ N.iz = true ∧ fitB (strF id N) most = true
  | 0, N, h => by cases h
  | n + 1, N, h => by
    unfold nbL at h
    split at h
    · rename_i hc
      cases h
      exact ⟨n + 1, by omega, Nat.le_refl _, rfl, hc.1, hc.2⟩
    · obtain ⟨k, h1, h2, h3⟩ := nb_is h
      exact ⟨k, h1, by omega, h3⟩
/-- What each frame that is due is. -/
structure DueF (s : TS) (f : Fm.Frm) : Prop where
  pl : PlF f
  o0 : 0 ≤ f.off
  o1 : f.off + (f.data.length : Int) ≤ 2000000
theorem due_all {s : TS} {id most more : Int} (hs : SsOk s.o) (hid : 0 ≤ id) (hcd : 0 ≤ s.cd) (hsc : 0 ≤ s.sc) (hlm : 0 ≤ s.lm) : ∀ f ∈ dueL s id most more, DueF s f := by
  have ht := hs.t0
  intro f hf
  rw [due_last] at hf
  rcases List.mem_append.1 hf with hf | hf
  · unfold l3T at hf
    rcases List.mem_append.1 hf with hf | hf
    · unfold l2T at hf
      rcases List.mem_append.1 hf with hf | hf
      · unfold l1T at hf
        split at hf
        · obtain rfl := List.mem_singleton.1 hf
          exact ⟨frK_pl 4 _ _ hid (Int.le_refl 0) ht hcd, Int.le_refl 0, by show (0 : Int) + ((0 : Nat) : Int) ≤ _; omega⟩
        · cases hf
      · split at hf
        · obtain rfl := List.mem_singleton.1 hf
          exact ⟨frK_pl 5 _ _ hid (Int.le_refl 0) (Int.le_refl 0) hsc, Int.le_refl 0, by show (0 : Int) + ((0 : Nat) : Int) ≤ _; omega⟩
        · cases hf
    · split at hf
      · obtain rfl := List.mem_singleton.1 hf
        exact ⟨frK_pl 17 _ _ hid (Int.le_refl 0) hlm (Int.le_refl 0), Int.le_refl 0, by show (0 : Int) + ((0 : Nat) : Int) ≤ _; omega⟩
      · cases hf
  · unfold lastL at hf
    cases hnb : nbT s id most more with
    | none => rw [hnb] at hf; cases hf
    | some N =>
      rw [hnb] at hf
      simp only at hf
      split at hf
      · cases hf
      · obtain rfl := List.mem_singleton.1 hf
        obtain ⟨k, _, _, rfl, _⟩ := nb_is hnb
        have h1 := nxt_off hs (k : Int) (crT s more)
        have h2 := nxt_bound hs (k : Int) (crT s more)
        exact ⟨frK_pl 8 _ _ hid h1 (Int.le_refl 0) (Int.le_refl 0), h1, by
          show (nxt s.o _ _).off + (((nxt s.o _ _).d.data.toList.length : Nat) : Int) ≤ _
          rw [Array.length_toList]
          exact h2⟩
theorem sent_tp {s : TS} (hs : SsOk s.o) (f : Fm.Frm) : s.o.tp ≤ (sentT s f).o.tp ∧ (sentT s f).o.tp ≤ 1000000 := by
  have h1 := hs.t1
  have h2 := hs.b1
  have h3 := (sent_ok hs f.off (f.data.length : Int) f.fin)
  have h4 := h3.t1
  have h5 := h3.b1
  unfold sentT
  split
  · exact ⟨Int.le_refl _, by show s.o.tp ≤ _; omega⟩
  · split
    · exact ⟨Int.le_refl _, by show s.o.tp ≤ _; omega⟩
    · split
      · exact ⟨Int.le_refl _, by show s.o.tp ≤ _; omega⟩
      · split
        · exact ⟨by show s.o.tp ≤ max s.o.tp _; omega, by show (sentS s.o f.off _ f.fin).tp ≤ _; omega⟩
        · exact ⟨Int.le_refl _, by omega⟩
theorem due_len (s : TS) (id most more : Int) : (dueL s id most more).length ≤ 4 := by
  have h := l3_len s id
  rw [due_last, List.length_append]
  have : (lastL s id (nbT s id most more)).length ≤ 1 := by
    unfold lastL
    split
    · split <;> simp
    · simp
  omega
/-- What Next tells. -/
def NextQ (w : World) (T : ByteArray) (s : TS) (o : Option Fm.Frm) (e : Ending) (w' : World) : Prop := match o with
  | some f => ∃ a1 n1 c1 a2 n2 c2 a3 n3 c3, e = .returned (.tuple #[.agg #[.int .u64 (sentT s f).o.ba, .int .u64 (sentT s f).o.tp, .string (sentT s f).o.d, .slice a1 n1 c1, .slice a2 n2 c2, .bool (sentT s f).o.fin, .bool (sentT s f).o.ft, .bool (sentT s f).o.fa, .int .u64 (sentT s f).cr, .int .u64 (sentT s f).cd, .int .u64 (sentT s f).wy, .bool (sentT s f).rs, .bool (sentT s f).td, .bool (sentT s f).gn, .int .u64 (sentT s f).i.rd, .slice a3 n3 c3, .int .u64 (sentT s f).i.fin, .bool (sentT s f).i.kn, .int .u64 (sentT s f).wn, .int .u64 (sentT s f).lm, .bool (sentT s f).rz, .bool (sentT s f).bk, .bool (sentT s f).sp, .int .u64 (sentT s f).sc, .bool (sentT s f).st], .agg #[.int .u64 f.kind, .int .u64 f.id, .int .u64 f.off, .int .u64 f.max, .int .u64 f.code, .int .u64 f.seq, .int .u64 f.prior, .int .u64 f.delay, .bool f.fin, .string ⟨f.data.toArray⟩, .string ⟨f.cid.toArray⟩, .string ⟨f.token.toArray⟩, .slice f.set.a f.set.n f.set.c], .int .u64 ((sentT s f).o.tp - s.o.tp), .bool true]) ∧ N3 w.heap.size w w' (.slice a1 n1 c1) (.slice a2 n2 c2) (.slice a3 n3 c3) T (sentT s f)
  | none => ∃ a1 n1 c1 a2 n2 c2 a3 n3 c3, e = .returned (.tuple #[.agg #[.int .u64 s.o.ba, .int .u64 s.o.tp, .string s.o.d, .slice a1 n1 c1, .slice a2 n2 c2, .bool s.o.fin, .bool s.o.ft, .bool s.o.fa, .int .u64 s.cr, .int .u64 s.cd, .int .u64 s.wy, .bool s.rs, .bool s.td, .bool s.gn, .int .u64 s.i.rd, .slice a3 n3 c3, .int .u64 s.i.fin, .bool s.i.kn, .int .u64 s.wn, .int .u64 s.lm, .bool s.rz, .bool s.bk, .bool s.sp, .int .u64 s.sc, .bool s.st], .agg #[.int .u64 0, .int .u64 0, .int .u64 0, .int .u64 0, .int .u64 0, .int .u64 0, .int .u64 0, .int .u64 0, .bool false, .string ⟨#[]⟩, .string ⟨#[]⟩, .string ⟨#[]⟩, .slice none 0 0], .int .u64 0, .bool false]) ∧ N3 w.heap.size w w' (.slice a1 n1 c1) (.slice a2 n2 c2) (.slice a3 n3 c3) T s
theorem results_nx {fn : Func} {p q ta tb : Tmp} (h : fn.results = #[.cell p 35, .cell q 48, .tmp ta, .tmp tb]) (tmps : Array Value) (g g2 : Nat) (u v x : Value) (s : TS) (A : Array Value) (xa xb : Value) (w : World) (hp : tmps.getD p undef = .pointer (some ⟨g, 0, none⟩)) (hq : tmps.getD q undef = .pointer (some ⟨g2, 0, none⟩)) (ha : tmps.getD ta undef = xa) (hb : tmps.getD tb undef = xb) (hc : TB w g u v x s) (hd : w.heap[g2]? = some (.cells A 48 (0, 0))) (hA : A.size = 13) :
    (results fn tmps).run Tryz.prog w = .ok (.tuple #[.agg #[.int .u64 s.o.ba, .int .u64 s.o.tp, .string s.o.d, u, v, .bool s.o.fin, .bool s.o.ft, .bool s.o.fa, .int .u64 s.cr, .int .u64 s.cd, .int .u64 s.wy, .bool s.rs, .bool s.td, .bool s.gn, .int .u64 s.i.rd, x, .int .u64 s.i.fin, .bool s.i.kn, .int .u64 s.wn, .int .u64 s.lm, .bool s.rz, .bool s.bk, .bool s.sp, .int .u64 s.sc, .bool s.st], .agg A, xa, xb]) w := by
  have hp' : tmps[p]?.getD undef = .pointer (some ⟨g, 0, none⟩) := by simpa using hp
  have hq' : tmps[q]?.getD undef = .pointer (some ⟨g2, 0, none⟩) := by simpa using hq
  have ha' : tmps[ta]?.getD undef = xa := by simpa using ha
  have hb' : tmps[tb]?.getD undef = xb := by simpa using hb
  have hl := run_loadVar_row w g _ _ _ _ _ hc Tryz.underlying35 rfl infT
  have hm := run_loadVar_row w g2 _ _ _ _ _ hd Tryz.underlying48 rfl (by rw [hA]; exact infF)
  simp [results, h, hp', hq', ha', hb', asAddr, Sem.run_bind, Result.andThen, hl, hm]
/-- The boxes of Next. -/
structure NT (w W : World) (u v x : Value) (s : TS) : Prop where
  q : TB W w.heap.size u v x s
  z : ZB W (w.heap.size + 1)
  zf : W.heap[w.heap.size + 2]? = some (.cells #[.int .u64 0, .int .u64 0, .int .u64 0, .int .u64 0, .int .u64 0, .int .u64 0, .int .u64 0, .int .u64 0, .bool false, .string ⟨#[]⟩, .string ⟨#[]⟩, .string ⟨#[]⟩, .slice none 0 0] 48 (0, 0))
  bl : Below w.heap.size w W
theorem NT.go {w W W' : World} {u v x : Value} {s : TS} (h : NT w W u v x s) (hb : Below W.heap.size W W') : NT w W' u v x s := ⟨h.q.go hb, h.z.go hb, (hb.block _ (Array.getElem?_eq_some_iff.1 h.zf).1).trans h.zf, nextG h.bl hb⟩
theorem NT.row {w W : World} {u v x : Value} {s : TS} (h : NT w W u v x s) {g : Nat} (hg : w.heap.size + 3 ≤ g) (cs : Array Value) : NT w (W.setRow g cs) u v x s :=
  ⟨(setRow_other W g _ cs (by omega)).trans h.q, (setRow_other W g _ cs (by omega)).trans h.z, (setRow_other W g _ cs (by omega)).trans h.zf, below_setRow h.bl (by omega) cs⟩
theorem FB.row {W : World} {g k : Nat} {f : Fm.Frm} (h : FB W g f) (hk : g ≠ k) (cs : Array Value) : FB (W.setRow k cs) g f := (setRow_other W k g cs hk).trans h
theorem TR.row {W : World} {u v x : Value} {T : ByteArray} {s : TS} (h : TR W u v x T s) {g : Nat} (fu : ¬ Blk u g) (fv : ¬ Blk v g) (fx : ¬ Blk x g) (cs : Array Value) : TR (W.setRow g cs) u v x T s := ⟨rd_row h.ra fu cs, rd_row h.rt fv cs, rowg_row h.rx fx cs⟩
set_option maxRecDepth 100000 in
set_option maxHeartbeats 4000000 in
theorem next16_any (s : TS) (T : ByteArray) (a1 : Option Addr) (n1 c1 : Nat) (a2 : Option Addr) (n2 c2 : Nat) (a3 : Option Addr) (n3 c3 : Nat) (id most more : Int) (w : World) (ht : Vm.Tab w) (hs : SsOk s.o) (hk1 : s.o.ak.length ≤ 100) (hk2 : s.o.td.length ≤ 100) (hid : 0 ≤ id) (hcr : 0 ≤ s.cr) (hcd : 0 ≤ s.cd) (hsc : 0 ≤ s.sc) (hlm : 0 ≤ s.lm) (hmr : 0 ≤ more) (hb : s.o.tp + more < 18446744073709551616) (hm : most < 9223372036854775808) (hl1 : n1 ≤ 1000) (hl2 : n2 ≤ 1000) (hl3 : n3 ≤ 1000) (h : TR w (.slice a1 n1 c1) (.slice a2 n2 c2) (.slice a3 n3 c3) T s) :
    Calls Tryz.prog 36 #[.agg #[.int .u64 s.o.ba, .int .u64 s.o.tp, .string s.o.d, .slice a1 n1 c1, .slice a2 n2 c2, .bool s.o.fin, .bool s.o.ft, .bool s.o.fa, .int .u64 s.cr, .int .u64 s.cd, .int .u64 s.wy, .bool s.rs, .bool s.td, .bool s.gn, .int .u64 s.i.rd, .slice a3 n3 c3, .int .u64 s.i.fin, .bool s.i.kn, .int .u64 s.wn, .int .u64 s.lm, .bool s.rz, .bool s.bk, .bool s.sp, .int .u64 s.sc, .bool s.st], .int .u64 id, .int .i64 most, .int .u64 more] w fun e w' => NextQ w T s (nextT s id most more) e w' := by
  have CD := Lib.hid (fun W (ht : Vm.Tab W) (hr : TR W (.slice a1 n1 c1) (.slice a2 n2 c2) (.slice a3 n3 c3) T s) => due_any s T a1 n1 c1 a2 n2 c2 a3 n3 c3 id most more W ht hs hid hcr hs.t0 hmr hb hm hr)
  have CO := Lib.hid (fun W (hr : TR W (.slice a1 n1 c1) (.slice a2 n2 c2) (.slice a3 n3 c3) T s) => own_any s T a1 n1 c1 a2 n2 c2 a3 n3 c3 W hl1 hl2 hl3 hr)
  have CF := Lib.hid (fun (f : Fm.Frm) (hf : PlF f) W (ht : Vm.Tab W) => fits_any f most W ht hf)
  have CT := Lib.hid (fun (f : Fm.Frm) (hf : DueF s f) r W (hb : W.heap[r]? = some (.map #[⟨.int .u64 4, .func (.func 118) #[] #[], 0⟩, ⟨.int .u64 5, .func (.func 119) #[] #[], 1⟩, ⟨.int .u64 17, .func (.func 120) #[] #[], 2⟩, ⟨.int .u64 8, .func (.func 121) #[] #[], 3⟩] 4)) (hr : TR W (.slice a1 n1 c1) (.slice a2 n2 c2) (.slice a3 n3 c3) T s) => toldSent_any s T a1 n1 c1 a2 n2 c2 a3 n3 c3 f r W hb hs hk1 hk2 hf.o0 (by have := hf.o1; omega) hl1 hl2 hl3 hr)
  have HTP := Lib.hid (fun f => sent_tp hs f)
  have HDA := Lib.hid (due_all (most := most) (more := more) hs hid hcd hsc hlm)
  have HR0 := Lib.hid h
  have HT := Lib.hid ht
  have HT0 := Lib.hid hs.t0
  have HN0 : Hid (NT w (((w.alloc (.cells #[.int .u64 s.o.ba, .int .u64 s.o.tp, .string s.o.d, .slice a1 n1 c1, .slice a2 n2 c2, .bool s.o.fin, .bool s.o.ft, .bool s.o.fa, .int .u64 s.cr, .int .u64 s.cd, .int .u64 s.wy, .bool s.rs, .bool s.td, .bool s.gn, .int .u64 s.i.rd, .slice a3 n3 c3, .int .u64 s.i.fin, .bool s.i.kn, .int .u64 s.wn, .int .u64 s.lm, .bool s.rz, .bool s.bk, .bool s.sp, .int .u64 s.sc, .bool s.st] 35)).alloc (.cells #[.int .u64 0, .int .u64 0, .string ⟨#[]⟩, .slice none 0 0, .slice none 0 0, .bool false, .bool false, .bool false, .int .u64 0, .int .u64 0, .int .u64 0, .bool false, .bool false, .bool false, .int .u64 0, .slice none 0 0, .int .u64 0, .bool false, .int .u64 0, .int .u64 0, .bool false, .bool false, .bool false, .int .u64 0, .bool false] 35)).alloc (.cells #[.int .u64 0, .int .u64 0, .int .u64 0, .int .u64 0, .int .u64 0, .int .u64 0, .int .u64 0, .int .u64 0, .bool false, .string ⟨#[]⟩, .string ⟨#[]⟩, .string ⟨#[]⟩, .slice none 0 0] 48)) (.slice a1 n1 c1) (.slice a2 n2 c2) (.slice a3 n3 c3) s) := Lib.hid (by
    have h1 := (Below.refl w.heap.size w).alloc (Nat.le_refl _) (.cells #[.int .u64 s.o.ba, .int .u64 s.o.tp, .string s.o.d, .slice a1 n1 c1, .slice a2 n2 c2, .bool s.o.fin, .bool s.o.ft, .bool s.o.fa, .int .u64 s.cr, .int .u64 s.cd, .int .u64 s.wy, .bool s.rs, .bool s.td, .bool s.gn, .int .u64 s.i.rd, .slice a3 n3 c3, .int .u64 s.i.fin, .bool s.i.kn, .int .u64 s.wn, .int .u64 s.lm, .bool s.rz, .bool s.bk, .bool s.sp, .int .u64 s.sc, .bool s.st] 35)
    have h2 := h1.alloc (by simp) (.cells #[.int .u64 0, .int .u64 0, .string ⟨#[]⟩, .slice none 0 0, .slice none 0 0, .bool false, .bool false, .bool false, .int .u64 0, .int .u64 0, .int .u64 0, .bool false, .bool false, .bool false, .int .u64 0, .slice none 0 0, .int .u64 0, .bool false, .int .u64 0, .int .u64 0, .bool false, .bool false, .bool false, .int .u64 0, .bool false] 35)
    have h3 := h2.alloc (by rw [World.size_alloc, World.size_alloc]; omega) (.cells #[.int .u64 0, .int .u64 0, .int .u64 0, .int .u64 0, .int .u64 0, .int .u64 0, .int .u64 0, .int .u64 0, .bool false, .string ⟨#[]⟩, .string ⟨#[]⟩, .string ⟨#[]⟩, .slice none 0 0] 48)
    have hz := zb_made (w.alloc (.cells #[.int .u64 s.o.ba, .int .u64 s.o.tp, .string s.o.d, .slice a1 n1 c1, .slice a2 n2 c2, .bool s.o.fin, .bool s.o.ft, .bool s.o.fa, .int .u64 s.cr, .int .u64 s.cd, .int .u64 s.wy, .bool s.rs, .bool s.td, .bool s.gn, .int .u64 s.i.rd, .slice a3 n3 c3, .int .u64 s.i.fin, .bool s.i.kn, .int .u64 s.wn, .int .u64 s.lm, .bool s.rz, .bool s.bk, .bool s.sp, .int .u64 s.sc, .bool s.st] 35))
    have hf := heap_alloc_new ((w.alloc (.cells #[.int .u64 s.o.ba, .int .u64 s.o.tp, .string s.o.d, .slice a1 n1 c1, .slice a2 n2 c2, .bool s.o.fin, .bool s.o.ft, .bool s.o.fa, .int .u64 s.cr, .int .u64 s.cd, .int .u64 s.wy, .bool s.rs, .bool s.td, .bool s.gn, .int .u64 s.i.rd, .slice a3 n3 c3, .int .u64 s.i.fin, .bool s.i.kn, .int .u64 s.wn, .int .u64 s.lm, .bool s.rz, .bool s.bk, .bool s.sp, .int .u64 s.sc, .bool s.st] 35)).alloc (.cells #[.int .u64 0, .int .u64 0, .string ⟨#[]⟩, .slice none 0 0, .slice none 0 0, .bool false, .bool false, .bool false, .int .u64 0, .int .u64 0, .int .u64 0, .bool false, .bool false, .bool false, .int .u64 0, .slice none 0 0, .int .u64 0, .bool false, .int .u64 0, .int .u64 0, .bool false, .bool false, .bool false, .int .u64 0, .bool false] 35)) (.cells #[.int .u64 0, .int .u64 0, .int .u64 0, .int .u64 0, .int .u64 0, .int .u64 0, .int .u64 0, .int .u64 0, .bool false, .string ⟨#[]⟩, .string ⟨#[]⟩, .string ⟨#[]⟩, .slice none 0 0] 48)
    simp only [World.size_alloc] at hz hf
    exact ⟨((tb_made w (.slice a1 n1 c1) (.slice a2 n2 c2) (.slice a3 n3 c3) s).go ((Below.refl _ _).alloc (Nat.le_refl _) (.cells #[.int .u64 0, .int .u64 0, .string ⟨#[]⟩, .slice none 0 0, .slice none 0 0, .bool false, .bool false, .bool false, .int .u64 0, .int .u64 0, .int .u64 0, .bool false, .bool false, .bool false, .int .u64 0, .slice none 0 0, .int .u64 0, .bool false, .int .u64 0, .int .u64 0, .bool false, .bool false, .bool false, .int .u64 0, .bool false] 35))).go ((Below.refl _ _).alloc (Nat.le_refl _) (.cells #[.int .u64 0, .int .u64 0, .int .u64 0, .int .u64 0, .int .u64 0, .int .u64 0, .int .u64 0, .int .u64 0, .bool false, .string ⟨#[]⟩, .string ⟨#[]⟩, .string ⟨#[]⟩, .slice none 0 0] 48)), hz.go ((Below.refl _ _).alloc (Nat.le_refl _) (.cells #[.int .u64 0, .int .u64 0, .int .u64 0, .int .u64 0, .int .u64 0, .int .u64 0, .int .u64 0, .int .u64 0, .bool false, .string ⟨#[]⟩, .string ⟨#[]⟩, .string ⟨#[]⟩, .slice none 0 0] 48)), hf, h3⟩)
  obtain ⟨R, hR⟩ : ∃ x, nextT s id most more = x := ⟨_, rfl⟩
  rw [hR]
  obtain ⟨G, hG⟩ : ∃ x, dueL s id most more = x := ⟨_, rfl⟩
  have HR : Hid (G.find? (fun f => fitB f most) = R) := Lib.hid (by rw [← hR, ← hG]; rfl)
  have hn4 := due_len s id most more
  rw [hG] at CD HDA hn4
  clear h ht hs hk1 hk2 hid hcr hcd hsc hlm hmr hb hm hl1 hl2 hl3 hR hG
  go_enter Tryz.func36, Tryz.ntmps36
  go_upto_region 1 with (fail)
  generalize (((w.alloc (.cells #[.int .u64 s.o.ba, .int .u64 s.o.tp, .string s.o.d, .slice a1 n1 c1, .slice a2 n2 c2, .bool s.o.fin, .bool s.o.ft, .bool s.o.fa, .int .u64 s.cr, .int .u64 s.cd, .int .u64 s.wy, .bool s.rs, .bool s.td, .bool s.gn, .int .u64 s.i.rd, .slice a3 n3 c3, .int .u64 s.i.fin, .bool s.i.kn, .int .u64 s.wn, .int .u64 s.lm, .bool s.rz, .bool s.bk, .bool s.sp, .int .u64 s.sc, .bool s.st] 35)).alloc (.cells #[.int .u64 0, .int .u64 0, .string ⟨#[]⟩, .slice none 0 0, .slice none 0 0, .bool false, .bool false, .bool false, .int .u64 0, .int .u64 0, .int .u64 0, .bool false, .bool false, .bool false, .int .u64 0, .slice none 0 0, .int .u64 0, .bool false, .int .u64 0, .int .u64 0, .bool false, .bool false, .bool false, .int .u64 0, .bool false] 35)).alloc (.cells #[.int .u64 0, .int .u64 0, .int .u64 0, .int .u64 0, .int .u64 0, .int .u64 0, .int .u64 0, .int .u64 0, .bool false, .string ⟨#[]⟩, .string ⟨#[]⟩, .string ⟨#[]⟩, .slice none 0 0] 48)) = W0 at HN0 ⊢
  have HT1 := Lib.hid (HT.out.below HN0.out.bl HT.out.lt)
  go_wp2_with (refine ld35 rfl HN0.out.q rfl (by rfl) ?_)
  refine (CD.out _ HT1.out (HR0.out.go HN0.out.bl)).mono ?_
  rintro e w1 ⟨l, rfl, hrow, hb⟩
  obtain ⟨al, cl, rfl, hcl, hcell⟩ := hrow
  have HN1 := Lib.hid (HN0.out.go hb)
  obtain ⟨n, hn⟩ : ∃ x, G.length = x := ⟨_, rfl⟩
  rw [hn] at hcl hn4 ⊢
  have hn0 : (n : Int) ≤ 4 := by omega
  have HRW : Hid (∀ k, k < n → ∃ b off, al = some ⟨b, off, none⟩ ∧ n ≤ cl ∧ ∀ V, Below w1.heap.size w1 V → ∀ j, j < 13 → V.cell? ⟨b, off + (k * 13 + j), none⟩ = (Fm.fcs (G.getD k Fm.frZ))[j]?) := Lib.hid (fun k hk => by
    obtain ⟨b, off, ha, hlt, hc⟩ := hcell (fun e => by rw [e] at hn; simp at hn; omega)
    exact ⟨b, off, ha, hcl, fun V hV j hj => (hV.cell (p := ⟨b, off + (k * 13 + j), none⟩) hlt).trans (hc k (by omega) j hj)⟩)
  have HNN := Lib.hid hn
  clear hb hcl hcell hn HT1 CD
  go_wp2_with fail
  go_loopw [13, 14, 21] (fun _ _ iv wr => ∃ k : Nat, iv = .int .i64 k ∧ k ≤ n ∧ (G.drop k).find? (fun f => fitB f most) = R ∧ NT w wr (.slice a1 n1 c1) (.slice a2 n2 c2) (.slice a3 n3 c3) s ∧ Below w1.heap.size w1 wr) (fun _ _ iv _ => n - (intOf iv).toNat)
  case atStart => exact ⟨0, rfl, Nat.zero_le _, by rw [List.drop_zero]; exact HR.out, HN1.out, Below.refl _ _⟩
  case round =>
    obtain ⟨k, rfl, hk, hfind, hNT, hbl⟩ := hrel
    have HK := Lib.hid hk
    have HFI := Lib.hid hfind
    have HNT := Lib.hid hNT
    have HBL := Lib.hid hbl
    clear hk hfind hNT hbl HN0 HN1 HR
    by_cases hlt : k < n
    · obtain ⟨b, off, rfl, hnc, hc⟩ := HRW.out k hlt
      obtain ⟨F, hF⟩ : ∃ x, G.getD k Fm.frZ = x := ⟨_, rfl⟩
      rw [hF] at hc
      have hkG : k < G.length := by have := HNN.out; omega
      have hGk : G.getD k Fm.frZ = G[k] := by simp [List.getD, hkG]
      have HDF := Lib.hid (HDA.out F (by rw [← hF, hGk]; exact List.getElem_mem _))
      have HDR : Hid (G.drop k = F :: G.drop (k + 1)) := Lib.hid (by rw [List.drop_eq_getElem_cons hkG, ← hF, hGk])
      have hcc := hc wr HBL.out
      have y0 : wr.cell? ⟨b, off + k * 13, none⟩ = some (.int .u64 F.kind) := hcc 0 (by decide)
      have y1 : wr.cell? ⟨b, off + k * 13 + 1, none⟩ = some (.int .u64 F.id) := by rw [Nat.add_assoc]; exact hcc 1 (by decide)
      have y2 : wr.cell? ⟨b, off + k * 13 + 2, none⟩ = some (.int .u64 F.off) := by rw [Nat.add_assoc]; exact hcc 2 (by decide)
      have y3 : wr.cell? ⟨b, off + k * 13 + 3, none⟩ = some (.int .u64 F.max) := by rw [Nat.add_assoc]; exact hcc 3 (by decide)
      have y4 : wr.cell? ⟨b, off + k * 13 + 4, none⟩ = some (.int .u64 F.code) := by rw [Nat.add_assoc]; exact hcc 4 (by decide)
      have y5 : wr.cell? ⟨b, off + k * 13 + 5, none⟩ = some (.int .u64 F.seq) := by rw [Nat.add_assoc]; exact hcc 5 (by decide)
      have y6 : wr.cell? ⟨b, off + k * 13 + 6, none⟩ = some (.int .u64 F.prior) := by rw [Nat.add_assoc]; exact hcc 6 (by decide)
      have y7 : wr.cell? ⟨b, off + k * 13 + 7, none⟩ = some (.int .u64 F.delay) := by rw [Nat.add_assoc]; exact hcc 7 (by decide)
      have y8 : wr.cell? ⟨b, off + k * 13 + 8, none⟩ = some (.bool F.fin) := by rw [Nat.add_assoc]; exact hcc 8 (by decide)
      have y9 : wr.cell? ⟨b, off + k * 13 + 9, none⟩ = some (.string ⟨F.data.toArray⟩) := by rw [Nat.add_assoc]; exact hcc 9 (by decide)
      have y10 : wr.cell? ⟨b, off + k * 13 + 10, none⟩ = some (.string ⟨F.cid.toArray⟩) := by rw [Nat.add_assoc]; exact hcc 10 (by decide)
      have y11 : wr.cell? ⟨b, off + k * 13 + 11, none⟩ = some (.string ⟨F.token.toArray⟩) := by rw [Nat.add_assoc]; exact hcc 11 (by decide)
      have y12 : wr.cell? ⟨b, off + k * 13 + 12, none⟩ = some (.slice F.set.a F.set.n F.set.c) := by rw [Nat.add_assoc]; exact hcc 12 (by decide)
      have CFF := Lib.hid (fun W ht => CF.out F HDF.out.pl W ht)
      obtain ⟨bb, hbb⟩ : ∃ x, fitB F most = x := ⟨_, rfl⟩
      rw [hbb] at CFF
      have HBB := Lib.hid hbb
      clear hc hcc hF hkG hbb hGk HRW CF HDA CO
      have HFB : Hid (FB (wr.alloc (.cells #[.int .u64 F.kind, .int .u64 F.id, .int .u64 F.off, .int .u64 F.max, .int .u64 F.code, .int .u64 F.seq, .int .u64 F.prior, .int .u64 F.delay, .bool F.fin, .string ⟨F.data.toArray⟩, .string ⟨F.cid.toArray⟩, .string ⟨F.token.toArray⟩, .slice F.set.a F.set.n F.set.c] 48)) wr.heap.size F) := Lib.hid (fb_made wr F)
      have HA : Hid (Below wr.heap.size wr (wr.alloc (.cells #[.int .u64 F.kind, .int .u64 F.id, .int .u64 F.off, .int .u64 F.max, .int .u64 F.code, .int .u64 F.seq, .int .u64 F.prior, .int .u64 F.delay, .bool F.fin, .string ⟨F.data.toArray⟩, .string ⟨F.cid.toArray⟩, .string ⟨F.token.toArray⟩, .slice F.set.a F.set.n F.set.c] 48))) := Lib.hid ((Below.refl _ _).alloc (Nat.le_refl _) _)
      have HN2 := Lib.hid (HNT.out.go HA.out)
      have HBL2 := Lib.hid (nextG HBL.out HA.out)
      have HWS : Hid (w.heap.size + 3 ≤ wr.heap.size) := Lib.hid (by have := (Array.getElem?_eq_some_iff.1 HNT.out.zf).1; omega)
      go_upto_region 4 with (fail)
      generalize wr.alloc (.cells #[.int .u64 F.kind, .int .u64 F.id, .int .u64 F.off, .int .u64 F.max, .int .u64 F.code, .int .u64 F.seq, .int .u64 F.prior, .int .u64 F.delay, .bool F.fin, .string ⟨F.data.toArray⟩, .string ⟨F.cid.toArray⟩, .string ⟨F.token.toArray⟩, .slice F.set.a F.set.n F.set.c] 48) = W2 at HFB HA HN2 HBL2 ⊢
      have HT2 := Lib.hid (HT.out.below HN2.out.bl HT.out.lt)
      clear y0 y1 y2 y3 y4 y5 y6 y7 y8 y9 y10 y11 y12 HNT HBL
      go_wp2_with (refine ld48 rfl HFB.out rfl rfl (by rfl) ?_)
      refine (CFF.out _ HT2.out).mono ?_
      rintro e w3 ⟨rfl, hb⟩
      have HN3 := Lib.hid (HN2.out.go hb)
      have HFB3 := Lib.hid (HFB.out.go hb)
      have HBL3 := Lib.hid (nextG HBL2.out hb)
      have HWS3 : Hid (w.heap.size + 3 ≤ w3.heap.size) := Lib.hid (by have := (Array.getElem?_eq_some_iff.1 HN3.out.zf).1; omega)
      clear hb HFB HA HN2 HBL2 HT2 CFF
      cases bb with
      | false =>
        have HF2 : Hid ((G.drop (k + 1)).find? (fun f => fitB f most) = R) := Lib.hid (by have h := HFI.out; rw [HDR.out, List.find?_cons_of_neg (by rw [HBB.out]; decide)] at h; exact h)
        go_wp2_with fail
        go_roundw
        case rel => exact ⟨k + 1, by go_num, by omega, HF2.out, HN3.out, HBL3.out⟩
        case measure => simp [intOf]; omega
      | true =>
        have HV : Hid (R = some F) := Lib.hid (by have h := HFI.out; rw [HDR.out, List.find?_cons_of_pos (by exact HBB.out)] at h; exact h.symm)
        have CTF := Lib.hid (fun r W hb hr => CT.out F HDF.out r W hb hr)
        clear CT HFI HDR
        replace hlt := Lib.hid hlt
        go_upto_region 5 with (fail)
        go_cut [14] from 28 to 31 (fun v14 W => ∃ (q : Nat) (a4 : Option Addr) (n4 c4 : Nat) (a5 : Option Addr) (n5 c5 : Nat) (a6 : Option Addr) (n6 c6 : Nat), v14 = .pointer (some ⟨q, 0, none⟩) ∧ w.heap.size + 3 ≤ q ∧ q ≠ wr.heap.size ∧ TB W q (.slice a4 n4 c4) (.slice a5 n5 c5) (.slice a6 n6 c6) (sentT s F) ∧ N3 (w.heap.size + 3) w W (.slice a4 n4 c4) (.slice a5 n5 c5) (.slice a6 n6 c6) T (sentT s F) ∧ NT w W (.slice a1 n1 c1) (.slice a2 n2 c2) (.slice a3 n3 c3) s ∧ FB W wr.heap.size F)
        case first =>
          have HS0 : Hid (NT w w3.drew (.slice a1 n1 c1) (.slice a2 n2 c2) (.slice a3 n3 c3) s ∧ FB w3.drew wr.heap.size F ∧ Below w3.heap.size w3 w3.drew) := Lib.hid ⟨HN3.out.go (Below.refl _ _).drew, HFB3.out.go (Below.refl _ _).drew, (Below.refl _ _).drew⟩
          have HDW : Hid (w3.drew.heap.size = w3.heap.size) := Lib.hid rfl
          have HFBL : Hid (wr.heap.size < w3.heap.size) := Lib.hid HFB3.out.lt
          refine wp_region_noPanic ?_
          refine wp_region_E (fun W : World => NT w W (.slice a1 n1 c1) (.slice a2 n2 c2) (.slice a3 n3 c3) s ∧ FB W wr.heap.size F ∧ Below w3.heap.size w3 W) (fun j => Nat.ble 100 j) (by kernel_rfl) ?_ (fun hHeld => ?_)
          · exact HS0.out
          refine wpAnyE_load (i := 0) (v := ?_) rfl (by kernel_rfl) (by kernel_rfl) (by kernel_rfl) (by kernel_rfl) (fun _ _ _ h => h) (Or.inl ⟨by rfl, ?_⟩) (by assumption) ?_
          rotate_left
          · (intro w hSw; refine ex35 (y := ?_) ?_ ?_ hSw.1.q; rotate_left; rfl; rfl)
          try simp only [Act.put, List.getElem_toArray, List.getElem_cons_zero, List.getElem_cons_succ, List.setIfInBounds_toArray, List.set_cons_zero, List.set_cons_succ]
          refine wpAnyE_load (i := 2) (v := ?_) rfl (by kernel_rfl) (by kernel_rfl) (by kernel_rfl) (by kernel_rfl) (fun _ _ _ h => h) (Or.inl ⟨by rfl, ?_⟩) (by assumption) ?_
          rotate_left
          · (intro w hSw; refine ex48 (y := ?_) ?_ ?_ hSw.2.1 rfl; rotate_left; rfl; rfl)
          try simp only [Act.put, List.getElem_toArray, List.getElem_cons_zero, List.getElem_cons_succ, List.setIfInBounds_toArray, List.set_cons_zero, List.set_cons_succ]
          generalize w3.drew = W5 at HS0 HDW ⊢
          refine wpAnyE_two (i := 1) (j := 4) (by kernel_rfl) rfl rfl (by rfl) (by rfl) (fun K hK => ?_) (fun K hK => ?_)
          · go_simp
            refine (whenSent_any _).mono ?_
            rintro e wx ⟨rfl, rfl⟩
            have HMA : Hid ((W5.alloc (.map #[⟨.int .u64 4, .func (.func 118) #[] #[], 0⟩, ⟨.int .u64 5, .func (.func 119) #[] #[], 1⟩, ⟨.int .u64 17, .func (.func 120) #[] #[], 2⟩, ⟨.int .u64 8, .func (.func 121) #[] #[], 3⟩] 4)).heap[W5.heap.size]? = some (.map #[⟨.int .u64 4, .func (.func 118) #[] #[], 0⟩, ⟨.int .u64 5, .func (.func 119) #[] #[], 1⟩, ⟨.int .u64 17, .func (.func 120) #[] #[], 2⟩, ⟨.int .u64 8, .func (.func 121) #[] #[], 3⟩] 4)) := Lib.hid (heap_alloc_new _ _)
            have HSA := Lib.hid (show (NT w (W5.alloc (.map #[⟨.int .u64 4, .func (.func 118) #[] #[], 0⟩, ⟨.int .u64 5, .func (.func 119) #[] #[], 1⟩, ⟨.int .u64 17, .func (.func 120) #[] #[], 2⟩, ⟨.int .u64 8, .func (.func 121) #[] #[], 3⟩] 4)) (.slice a1 n1 c1) (.slice a2 n2 c2) (.slice a3 n3 c3) s ∧ FB (W5.alloc (.map #[⟨.int .u64 4, .func (.func 118) #[] #[], 0⟩, ⟨.int .u64 5, .func (.func 119) #[] #[], 1⟩, ⟨.int .u64 17, .func (.func 120) #[] #[], 2⟩, ⟨.int .u64 8, .func (.func 121) #[] #[], 3⟩] 4)) wr.heap.size F ∧ Below w3.heap.size w3 (W5.alloc (.map #[⟨.int .u64 4, .func (.func 118) #[] #[], 0⟩, ⟨.int .u64 5, .func (.func 119) #[] #[], 1⟩, ⟨.int .u64 17, .func (.func 120) #[] #[], 2⟩, ⟨.int .u64 8, .func (.func 121) #[] #[], 3⟩] 4))) from ⟨HS0.out.1.go ((Below.refl _ _).alloc (Nat.le_refl _) _), HS0.out.2.1.go ((Below.refl _ _).alloc (Nat.le_refl _) _), nextG HS0.out.2.2 ((Below.refl _ _).alloc (Nat.le_refl _) _)⟩)
            generalize W5.alloc (.map #[⟨.int .u64 4, .func (.func 118) #[] #[], 0⟩, ⟨.int .u64 5, .func (.func 119) #[] #[], 1⟩, ⟨.int .u64 17, .func (.func 120) #[] #[], 2⟩, ⟨.int .u64 8, .func (.func 121) #[] #[], 3⟩] 4) = WA at HMA HSA ⊢
            have HGE : Hid (w3.heap.size ≤ WA.heap.size) := Lib.hid HSA.out.2.2.size
            refine hK.out _ _ ?_ (fun hHeld => ?_)
            · exact HSA.out
            clear hK K
            try simp only [Act.put, List.getElem_toArray, List.getElem_cons_zero, List.getElem_cons_succ, List.setIfInBounds_toArray, List.set_cons_zero, List.set_cons_succ]
            refine wpAnyE_two (i := 3) (j := 4) (by kernel_rfl) rfl rfl (by rfl) (by rfl) (fun K hK => ?_) (fun K hK => ?_)
            · go_simp
              refine (CTF.out _ _ HMA.out (HR0.out.go HSA.out.1.bl)).mono ?_
              rintro e wq ⟨a4, n4, c4, a5, n5, c5, a6, n6, c6, rfl, hq⟩
              have HQ := Lib.hid hq
              clear hq
              have HSB := Lib.hid (show (NT w wq (.slice a1 n1 c1) (.slice a2 n2 c2) (.slice a3 n3 c3) s ∧ FB wq wr.heap.size F ∧ Below w3.heap.size w3 wq) from ⟨HSA.out.1.go (HQ.out.bl), HSA.out.2.1.go (HQ.out.bl), nextG HSA.out.2.2 (HQ.out.bl)⟩)
              refine hK.out _ _ ?_ (fun hHeld => ?_)
              · exact HSB.out
              clear hK K
              try simp only [Act.put, List.getElem_toArray, List.getElem_cons_zero, List.getElem_cons_succ, List.setIfInBounds_toArray, List.set_cons_zero, List.set_cons_succ]
              refine wpAnyE_call (i := 4) (by kernel_rfl) rfl (by rfl) (fun K hK => ?_)
              go_simp
              refine hK.out _ _ ?_ (fun hHeld => ?_)
              · exact ⟨HSB.out.1.go ((Below.refl _ _).alloc (Nat.le_refl _) _), HSB.out.2.1.go ((Below.refl _ _).alloc (Nat.le_refl _) _), nextG HSB.out.2.2 ((Below.refl _ _).alloc (Nat.le_refl _) _)⟩
              clear hK K
              try simp only [Act.put, List.getElem_toArray, List.getElem_cons_zero, List.getElem_cons_succ, List.setIfInBounds_toArray, List.set_cons_zero, List.set_cons_succ]
              have HSC := Lib.hid (show (NT w (wq.alloc (.cells #[.int .u64 0, .int .u64 0, .string ⟨#[]⟩, .slice none 0 0, .slice none 0 0, .bool false, .bool false, .bool false, .int .u64 0, .int .u64 0, .int .u64 0, .bool false, .bool false, .bool false, .int .u64 0, .slice none 0 0, .int .u64 0, .bool false, .int .u64 0, .int .u64 0, .bool false, .bool false, .bool false, .int .u64 0, .bool false] 35)) (.slice a1 n1 c1) (.slice a2 n2 c2) (.slice a3 n3 c3) s ∧ FB (wq.alloc (.cells #[.int .u64 0, .int .u64 0, .string ⟨#[]⟩, .slice none 0 0, .slice none 0 0, .bool false, .bool false, .bool false, .int .u64 0, .int .u64 0, .int .u64 0, .bool false, .bool false, .bool false, .int .u64 0, .slice none 0 0, .int .u64 0, .bool false, .int .u64 0, .int .u64 0, .bool false, .bool false, .bool false, .int .u64 0, .bool false] 35)) wr.heap.size F ∧ Below w3.heap.size w3 (wq.alloc (.cells #[.int .u64 0, .int .u64 0, .string ⟨#[]⟩, .slice none 0 0, .slice none 0 0, .bool false, .bool false, .bool false, .int .u64 0, .int .u64 0, .int .u64 0, .bool false, .bool false, .bool false, .int .u64 0, .slice none 0 0, .int .u64 0, .bool false, .int .u64 0, .int .u64 0, .bool false, .bool false, .bool false, .int .u64 0, .bool false] 35))) from ⟨HSB.out.1.go ((Below.refl _ _).alloc (Nat.le_refl _) _), HSB.out.2.1.go ((Below.refl _ _).alloc (Nat.le_refl _) _), nextG HSB.out.2.2 ((Below.refl _ _).alloc (Nat.le_refl _) _)⟩)
              have HZQ := Lib.hid (zb_made wq)
              have HRQ := Lib.hid (HQ.out.r.go ((Below.refl wq.heap.size wq).alloc (Nat.le_refl _) (.cells #[.int .u64 0, .int .u64 0, .string ⟨#[]⟩, .slice none 0 0, .slice none 0 0, .bool false, .bool false, .bool false, .int .u64 0, .int .u64 0, .int .u64 0, .bool false, .bool false, .bool false, .int .u64 0, .slice none 0 0, .int .u64 0, .bool false, .int .u64 0, .int .u64 0, .bool false, .bool false, .bool false, .int .u64 0, .bool false] 35)))
              have HQQ : Hid (w3.heap.size ≤ wq.heap.size) := Lib.hid HSB.out.2.2.size
              have HTQ : Hid (TB ((wq.alloc (.cells #[.int .u64 0, .int .u64 0, .string ⟨#[]⟩, .slice none 0 0, .slice none 0 0, .bool false, .bool false, .bool false, .int .u64 0, .int .u64 0, .int .u64 0, .bool false, .bool false, .bool false, .int .u64 0, .slice none 0 0, .int .u64 0, .bool false, .int .u64 0, .int .u64 0, .bool false, .bool false, .bool false, .int .u64 0, .bool false] 35)).setRow (wq.heap.size) #[.int .u64 (sentT s F).o.ba, .int .u64 (sentT s F).o.tp, .string (sentT s F).o.d, .slice a4 n4 c4, .slice a5 n5 c5, .bool (sentT s F).o.fin, .bool (sentT s F).o.ft, .bool (sentT s F).o.fa, .int .u64 (sentT s F).cr, .int .u64 (sentT s F).cd, .int .u64 (sentT s F).wy, .bool (sentT s F).rs, .bool (sentT s F).td, .bool (sentT s F).gn, .int .u64 (sentT s F).i.rd, .slice a6 n6 c6, .int .u64 (sentT s F).i.fin, .bool (sentT s F).i.kn, .int .u64 (sentT s F).wn, .int .u64 (sentT s F).lm, .bool (sentT s F).rz, .bool (sentT s F).bk, .bool (sentT s F).sp, .int .u64 (sentT s F).sc, .bool (sentT s F).st]) (wq.heap.size) (.slice a4 n4 c4) (.slice a5 n5 c5) (.slice a6 n6 c6) (sentT s F)) := Lib.hid (setRow_heap (wq.alloc (.cells #[.int .u64 0, .int .u64 0, .string ⟨#[]⟩, .slice none 0 0, .slice none 0 0, .bool false, .bool false, .bool false, .int .u64 0, .int .u64 0, .int .u64 0, .bool false, .bool false, .bool false, .int .u64 0, .slice none 0 0, .int .u64 0, .bool false, .int .u64 0, .int .u64 0, .bool false, .bool false, .bool false, .int .u64 0, .bool false] 35)) (wq.heap.size) _ #[.int .u64 (sentT s F).o.ba, .int .u64 (sentT s F).o.tp, .string (sentT s F).o.d, .slice a4 n4 c4, .slice a5 n5 c5, .bool (sentT s F).o.fin, .bool (sentT s F).o.ft, .bool (sentT s F).o.fa, .int .u64 (sentT s F).cr, .int .u64 (sentT s F).cd, .int .u64 (sentT s F).wy, .bool (sentT s F).rs, .bool (sentT s F).td, .bool (sentT s F).gn, .int .u64 (sentT s F).i.rd, .slice a6 n6 c6, .int .u64 (sentT s F).i.fin, .bool (sentT s F).i.kn, .int .u64 (sentT s F).wn, .int .u64 (sentT s F).lm, .bool (sentT s F).rz, .bool (sentT s F).bk, .bool (sentT s F).sp, .int .u64 (sentT s F).sc, .bool (sentT s F).st] _ _ HZQ.out)
              refine wpAnyE_call (i := 5) (by kernel_rfl) rfl (by rfl) (fun K hK => ?_)
              refine wp_store_row _ _ _ rfl (wq.heap.size) #[.int .u64 (sentT s F).o.ba, .int .u64 (sentT s F).o.tp, .string (sentT s F).o.d, .slice a4 n4 c4, .slice a5 n5 c5, .bool (sentT s F).o.fin, .bool (sentT s F).o.ft, .bool (sentT s F).o.fa, .int .u64 (sentT s F).cr, .int .u64 (sentT s F).cd, .int .u64 (sentT s F).wy, .bool (sentT s F).rs, .bool (sentT s F).td, .bool (sentT s F).gn, .int .u64 (sentT s F).i.rd, .slice a6 n6 c6, .int .u64 (sentT s F).i.fin, .bool (sentT s F).i.kn, .int .u64 (sentT s F).wn, .int .u64 (sentT s F).lm, .bool (sentT s F).rz, .bool (sentT s F).bk, .bool (sentT s F).sp, .int .u64 (sentT s F).sc, .bool (sentT s F).st] rfl rfl _ _ HZQ.out infT rfl (one_ts _ _ _ _ _ _ _ _ _ _) ?_
              have HX := Lib.hid (show (NT w ((wq.alloc (.cells #[.int .u64 0, .int .u64 0, .string ⟨#[]⟩, .slice none 0 0, .slice none 0 0, .bool false, .bool false, .bool false, .int .u64 0, .int .u64 0, .int .u64 0, .bool false, .bool false, .bool false, .int .u64 0, .slice none 0 0, .int .u64 0, .bool false, .int .u64 0, .int .u64 0, .bool false, .bool false, .bool false, .int .u64 0, .bool false] 35)).setRow (wq.heap.size) #[.int .u64 (sentT s F).o.ba, .int .u64 (sentT s F).o.tp, .string (sentT s F).o.d, .slice a4 n4 c4, .slice a5 n5 c5, .bool (sentT s F).o.fin, .bool (sentT s F).o.ft, .bool (sentT s F).o.fa, .int .u64 (sentT s F).cr, .int .u64 (sentT s F).cd, .int .u64 (sentT s F).wy, .bool (sentT s F).rs, .bool (sentT s F).td, .bool (sentT s F).gn, .int .u64 (sentT s F).i.rd, .slice a6 n6 c6, .int .u64 (sentT s F).i.fin, .bool (sentT s F).i.kn, .int .u64 (sentT s F).wn, .int .u64 (sentT s F).lm, .bool (sentT s F).rz, .bool (sentT s F).bk, .bool (sentT s F).sp, .int .u64 (sentT s F).sc, .bool (sentT s F).st]) (.slice a1 n1 c1) (.slice a2 n2 c2) (.slice a3 n3 c3) s ∧ FB ((wq.alloc (.cells #[.int .u64 0, .int .u64 0, .string ⟨#[]⟩, .slice none 0 0, .slice none 0 0, .bool false, .bool false, .bool false, .int .u64 0, .int .u64 0, .int .u64 0, .bool false, .bool false, .bool false, .int .u64 0, .slice none 0 0, .int .u64 0, .bool false, .int .u64 0, .int .u64 0, .bool false, .bool false, .bool false, .int .u64 0, .bool false] 35)).setRow (wq.heap.size) #[.int .u64 (sentT s F).o.ba, .int .u64 (sentT s F).o.tp, .string (sentT s F).o.d, .slice a4 n4 c4, .slice a5 n5 c5, .bool (sentT s F).o.fin, .bool (sentT s F).o.ft, .bool (sentT s F).o.fa, .int .u64 (sentT s F).cr, .int .u64 (sentT s F).cd, .int .u64 (sentT s F).wy, .bool (sentT s F).rs, .bool (sentT s F).td, .bool (sentT s F).gn, .int .u64 (sentT s F).i.rd, .slice a6 n6 c6, .int .u64 (sentT s F).i.fin, .bool (sentT s F).i.kn, .int .u64 (sentT s F).wn, .int .u64 (sentT s F).lm, .bool (sentT s F).rz, .bool (sentT s F).bk, .bool (sentT s F).sp, .int .u64 (sentT s F).sc, .bool (sentT s F).st]) wr.heap.size F ∧ Below w3.heap.size w3 ((wq.alloc (.cells #[.int .u64 0, .int .u64 0, .string ⟨#[]⟩, .slice none 0 0, .slice none 0 0, .bool false, .bool false, .bool false, .int .u64 0, .int .u64 0, .int .u64 0, .bool false, .bool false, .bool false, .int .u64 0, .slice none 0 0, .int .u64 0, .bool false, .int .u64 0, .int .u64 0, .bool false, .bool false, .bool false, .int .u64 0, .bool false] 35)).setRow (wq.heap.size) #[.int .u64 (sentT s F).o.ba, .int .u64 (sentT s F).o.tp, .string (sentT s F).o.d, .slice a4 n4 c4, .slice a5 n5 c5, .bool (sentT s F).o.fin, .bool (sentT s F).o.ft, .bool (sentT s F).o.fa, .int .u64 (sentT s F).cr, .int .u64 (sentT s F).cd, .int .u64 (sentT s F).wy, .bool (sentT s F).rs, .bool (sentT s F).td, .bool (sentT s F).gn, .int .u64 (sentT s F).i.rd, .slice a6 n6 c6, .int .u64 (sentT s F).i.fin, .bool (sentT s F).i.kn, .int .u64 (sentT s F).wn, .int .u64 (sentT s F).lm, .bool (sentT s F).rz, .bool (sentT s F).bk, .bool (sentT s F).sp, .int .u64 (sentT s F).sc, .bool (sentT s F).st])) from ⟨HSC.out.1.row (by have := HWS3.out; have := HQQ.out; omega) _, HSC.out.2.1.row (by have := HFBL.out; have := HQQ.out; omega) _, below_setRow HSC.out.2.2 HQQ.out _⟩)
              have HN4 : Hid (N3 (w.heap.size + 3) w ((wq.alloc (.cells #[.int .u64 0, .int .u64 0, .string ⟨#[]⟩, .slice none 0 0, .slice none 0 0, .bool false, .bool false, .bool false, .int .u64 0, .int .u64 0, .int .u64 0, .bool false, .bool false, .bool false, .int .u64 0, .slice none 0 0, .int .u64 0, .bool false, .int .u64 0, .int .u64 0, .bool false, .bool false, .bool false, .int .u64 0, .bool false] 35)).setRow (wq.heap.size) #[.int .u64 (sentT s F).o.ba, .int .u64 (sentT s F).o.tp, .string (sentT s F).o.d, .slice a4 n4 c4, .slice a5 n5 c5, .bool (sentT s F).o.fin, .bool (sentT s F).o.ft, .bool (sentT s F).o.fa, .int .u64 (sentT s F).cr, .int .u64 (sentT s F).cd, .int .u64 (sentT s F).wy, .bool (sentT s F).rs, .bool (sentT s F).td, .bool (sentT s F).gn, .int .u64 (sentT s F).i.rd, .slice a6 n6 c6, .int .u64 (sentT s F).i.fin, .bool (sentT s F).i.kn, .int .u64 (sentT s F).wn, .int .u64 (sentT s F).lm, .bool (sentT s F).rz, .bool (sentT s F).bk, .bool (sentT s F).sp, .int .u64 (sentT s F).sc, .bool (sentT s F).st]) (.slice a4 n4 c4) (.slice a5 n5 c5) (.slice a6 n6 c6) T (sentT s F)) := Lib.hid ⟨(HRQ.out).row (fun hk => by have h1 := HQ.out.nu _ hk; exact Nat.lt_irrefl _ (HQ.out.r.ra.blk hk)) (fun hk => by have h1 := HQ.out.nv _ hk; exact Nat.lt_irrefl _ (HQ.out.r.rt.blk hk)) (fun hk => by have h1 := HQ.out.nx _ hk; exact Nat.lt_irrefl _ (HQ.out.r.rx.blk hk)) _, fun k hk => by have := HQ.out.nu k hk; have := HWS3.out; have := HGE.out; omega, fun k hk => by have := HQ.out.nv k hk; have := HWS3.out; have := HGE.out; omega, fun k hk => by have := HQ.out.nx k hk; have := HWS3.out; have := HGE.out; omega, HX.out.1.bl⟩
              refine hK.out _ _ ?_ (fun hHeld => ?_)
              · exact HX.out
              clear hK K
              try simp only [Act.put, List.getElem_toArray, List.getElem_cons_zero, List.getElem_cons_succ, List.setIfInBounds_toArray, List.set_cons_zero, List.set_cons_succ]
              refine wpAnyE_done (by kernel_rfl) (NoPanic.normal ?_) _
              go_wp2_with fail
              go_meet
              case rel => exact ⟨wq.heap.size, _, _, _, _, _, _, _, _, _, rfl, by have := HWS3.out; have := HQQ.out; omega, by have := HFBL.out; have := HQQ.out; omega, HTQ.out, HN4.out, HX.out.1, HX.out.2.1⟩
            · go_simp
              refine hK.out _ _ ?_ (fun hHeld => ?_)
              · exact ⟨HSA.out.1.go ((Below.refl _ _).alloc (Nat.le_refl _) _), HSA.out.2.1.go ((Below.refl _ _).alloc (Nat.le_refl _) _), nextG HSA.out.2.2 ((Below.refl _ _).alloc (Nat.le_refl _) _)⟩
              clear hK K
              try simp only [Act.put, List.getElem_toArray, List.getElem_cons_zero, List.getElem_cons_succ, List.setIfInBounds_toArray, List.set_cons_zero, List.set_cons_succ]
              have HSD := Lib.hid (show (NT w (WA.alloc (.cells #[.int .u64 0, .int .u64 0, .string ⟨#[]⟩, .slice none 0 0, .slice none 0 0, .bool false, .bool false, .bool false, .int .u64 0, .int .u64 0, .int .u64 0, .bool false, .bool false, .bool false, .int .u64 0, .slice none 0 0, .int .u64 0, .bool false, .int .u64 0, .int .u64 0, .bool false, .bool false, .bool false, .int .u64 0, .bool false] 35)) (.slice a1 n1 c1) (.slice a2 n2 c2) (.slice a3 n3 c3) s ∧ FB (WA.alloc (.cells #[.int .u64 0, .int .u64 0, .string ⟨#[]⟩, .slice none 0 0, .slice none 0 0, .bool false, .bool false, .bool false, .int .u64 0, .int .u64 0, .int .u64 0, .bool false, .bool false, .bool false, .int .u64 0, .slice none 0 0, .int .u64 0, .bool false, .int .u64 0, .int .u64 0, .bool false, .bool false, .bool false, .int .u64 0, .bool false] 35)) wr.heap.size F ∧ Below w3.heap.size w3 (WA.alloc (.cells #[.int .u64 0, .int .u64 0, .string ⟨#[]⟩, .slice none 0 0, .slice none 0 0, .bool false, .bool false, .bool false, .int .u64 0, .int .u64 0, .int .u64 0, .bool false, .bool false, .bool false, .int .u64 0, .slice none 0 0, .int .u64 0, .bool false, .int .u64 0, .int .u64 0, .bool false, .bool false, .bool false, .int .u64 0, .bool false] 35))) from ⟨HSA.out.1.go ((Below.refl _ _).alloc (Nat.le_refl _) _), HSA.out.2.1.go ((Below.refl _ _).alloc (Nat.le_refl _) _), nextG HSA.out.2.2 ((Below.refl _ _).alloc (Nat.le_refl _) _)⟩)
              have HZD := Lib.hid (zb_made WA)
              have HMD : Hid ((WA.alloc (.cells #[.int .u64 0, .int .u64 0, .string ⟨#[]⟩, .slice none 0 0, .slice none 0 0, .bool false, .bool false, .bool false, .int .u64 0, .int .u64 0, .int .u64 0, .bool false, .bool false, .bool false, .int .u64 0, .slice none 0 0, .int .u64 0, .bool false, .int .u64 0, .int .u64 0, .bool false, .bool false, .bool false, .int .u64 0, .bool false] 35)).heap[_]? = _) := Lib.hid ((((Below.refl WA.heap.size WA).alloc (Nat.le_refl _) (.cells #[.int .u64 0, .int .u64 0, .string ⟨#[]⟩, .slice none 0 0, .slice none 0 0, .bool false, .bool false, .bool false, .int .u64 0, .int .u64 0, .int .u64 0, .bool false, .bool false, .bool false, .int .u64 0, .slice none 0 0, .int .u64 0, .bool false, .int .u64 0, .int .u64 0, .bool false, .bool false, .bool false, .int .u64 0, .bool false] 35)).block _ (Array.getElem?_eq_some_iff.1 HMA.out).1).trans HMA.out)
              have HQQ : Hid (w3.heap.size ≤ WA.heap.size) := Lib.hid HSA.out.2.2.size
              have HWD : Hid (WA.heap.size < (WA.alloc (.cells #[.int .u64 0, .int .u64 0, .string ⟨#[]⟩, .slice none 0 0, .slice none 0 0, .bool false, .bool false, .bool false, .int .u64 0, .int .u64 0, .int .u64 0, .bool false, .bool false, .bool false, .int .u64 0, .slice none 0 0, .int .u64 0, .bool false, .int .u64 0, .int .u64 0, .bool false, .bool false, .bool false, .int .u64 0, .bool false] 35)).heap.size) := Lib.hid (by rw [World.size_alloc]; omega)
              generalize WA.alloc (.cells #[.int .u64 0, .int .u64 0, .string ⟨#[]⟩, .slice none 0 0, .slice none 0 0, .bool false, .bool false, .bool false, .int .u64 0, .int .u64 0, .int .u64 0, .bool false, .bool false, .bool false, .int .u64 0, .slice none 0 0, .int .u64 0, .bool false, .int .u64 0, .int .u64 0, .bool false, .bool false, .bool false, .int .u64 0, .bool false] 35) = WD at HSD HZD HMD HWD ⊢
              replace HGE : Hid (w3.heap.size ≤ WD.heap.size) := Lib.hid HSD.out.2.2.size
              refine wpAnyE_call (i := 3) (by kernel_rfl) rfl (by rfl) (fun K hK => ?_)
              go_simp
              refine (CTF.out _ _ HMD.out (HR0.out.go HSD.out.1.bl)).mono ?_
              rintro e wq ⟨a4, n4, c4, a5, n5, c5, a6, n6, c6, rfl, hq⟩
              have HQ := Lib.hid hq
              clear hq
              have HSE := Lib.hid (show (NT w wq (.slice a1 n1 c1) (.slice a2 n2 c2) (.slice a3 n3 c3) s ∧ FB wq wr.heap.size F ∧ Below w3.heap.size w3 wq) from ⟨HSD.out.1.go (HQ.out.bl), HSD.out.2.1.go (HQ.out.bl), nextG HSD.out.2.2 (HQ.out.bl)⟩)
              refine hK.out _ _ ?_ (fun hHeld => ?_)
              · exact HSE.out
              clear hK K
              try simp only [Act.put, List.getElem_toArray, List.getElem_cons_zero, List.getElem_cons_succ, List.setIfInBounds_toArray, List.set_cons_zero, List.set_cons_succ]
              have HZE := Lib.hid (HZD.out.go HQ.out.bl)
              have HTQ : Hid (TB (wq.setRow (WA.heap.size) #[.int .u64 (sentT s F).o.ba, .int .u64 (sentT s F).o.tp, .string (sentT s F).o.d, .slice a4 n4 c4, .slice a5 n5 c5, .bool (sentT s F).o.fin, .bool (sentT s F).o.ft, .bool (sentT s F).o.fa, .int .u64 (sentT s F).cr, .int .u64 (sentT s F).cd, .int .u64 (sentT s F).wy, .bool (sentT s F).rs, .bool (sentT s F).td, .bool (sentT s F).gn, .int .u64 (sentT s F).i.rd, .slice a6 n6 c6, .int .u64 (sentT s F).i.fin, .bool (sentT s F).i.kn, .int .u64 (sentT s F).wn, .int .u64 (sentT s F).lm, .bool (sentT s F).rz, .bool (sentT s F).bk, .bool (sentT s F).sp, .int .u64 (sentT s F).sc, .bool (sentT s F).st]) (WA.heap.size) (.slice a4 n4 c4) (.slice a5 n5 c5) (.slice a6 n6 c6) (sentT s F)) := Lib.hid (setRow_heap wq (WA.heap.size) _ #[.int .u64 (sentT s F).o.ba, .int .u64 (sentT s F).o.tp, .string (sentT s F).o.d, .slice a4 n4 c4, .slice a5 n5 c5, .bool (sentT s F).o.fin, .bool (sentT s F).o.ft, .bool (sentT s F).o.fa, .int .u64 (sentT s F).cr, .int .u64 (sentT s F).cd, .int .u64 (sentT s F).wy, .bool (sentT s F).rs, .bool (sentT s F).td, .bool (sentT s F).gn, .int .u64 (sentT s F).i.rd, .slice a6 n6 c6, .int .u64 (sentT s F).i.fin, .bool (sentT s F).i.kn, .int .u64 (sentT s F).wn, .int .u64 (sentT s F).lm, .bool (sentT s F).rz, .bool (sentT s F).bk, .bool (sentT s F).sp, .int .u64 (sentT s F).sc, .bool (sentT s F).st] _ _ HZE.out)
              refine wpAnyE_call (i := 5) (by kernel_rfl) rfl (by rfl) (fun K hK => ?_)
              refine wp_store_row _ _ _ rfl (WA.heap.size) #[.int .u64 (sentT s F).o.ba, .int .u64 (sentT s F).o.tp, .string (sentT s F).o.d, .slice a4 n4 c4, .slice a5 n5 c5, .bool (sentT s F).o.fin, .bool (sentT s F).o.ft, .bool (sentT s F).o.fa, .int .u64 (sentT s F).cr, .int .u64 (sentT s F).cd, .int .u64 (sentT s F).wy, .bool (sentT s F).rs, .bool (sentT s F).td, .bool (sentT s F).gn, .int .u64 (sentT s F).i.rd, .slice a6 n6 c6, .int .u64 (sentT s F).i.fin, .bool (sentT s F).i.kn, .int .u64 (sentT s F).wn, .int .u64 (sentT s F).lm, .bool (sentT s F).rz, .bool (sentT s F).bk, .bool (sentT s F).sp, .int .u64 (sentT s F).sc, .bool (sentT s F).st] rfl rfl _ _ HZE.out infT rfl (one_ts _ _ _ _ _ _ _ _ _ _) ?_
              have HX := Lib.hid (show (NT w (wq.setRow (WA.heap.size) #[.int .u64 (sentT s F).o.ba, .int .u64 (sentT s F).o.tp, .string (sentT s F).o.d, .slice a4 n4 c4, .slice a5 n5 c5, .bool (sentT s F).o.fin, .bool (sentT s F).o.ft, .bool (sentT s F).o.fa, .int .u64 (sentT s F).cr, .int .u64 (sentT s F).cd, .int .u64 (sentT s F).wy, .bool (sentT s F).rs, .bool (sentT s F).td, .bool (sentT s F).gn, .int .u64 (sentT s F).i.rd, .slice a6 n6 c6, .int .u64 (sentT s F).i.fin, .bool (sentT s F).i.kn, .int .u64 (sentT s F).wn, .int .u64 (sentT s F).lm, .bool (sentT s F).rz, .bool (sentT s F).bk, .bool (sentT s F).sp, .int .u64 (sentT s F).sc, .bool (sentT s F).st]) (.slice a1 n1 c1) (.slice a2 n2 c2) (.slice a3 n3 c3) s ∧ FB (wq.setRow (WA.heap.size) #[.int .u64 (sentT s F).o.ba, .int .u64 (sentT s F).o.tp, .string (sentT s F).o.d, .slice a4 n4 c4, .slice a5 n5 c5, .bool (sentT s F).o.fin, .bool (sentT s F).o.ft, .bool (sentT s F).o.fa, .int .u64 (sentT s F).cr, .int .u64 (sentT s F).cd, .int .u64 (sentT s F).wy, .bool (sentT s F).rs, .bool (sentT s F).td, .bool (sentT s F).gn, .int .u64 (sentT s F).i.rd, .slice a6 n6 c6, .int .u64 (sentT s F).i.fin, .bool (sentT s F).i.kn, .int .u64 (sentT s F).wn, .int .u64 (sentT s F).lm, .bool (sentT s F).rz, .bool (sentT s F).bk, .bool (sentT s F).sp, .int .u64 (sentT s F).sc, .bool (sentT s F).st]) wr.heap.size F ∧ Below w3.heap.size w3 (wq.setRow (WA.heap.size) #[.int .u64 (sentT s F).o.ba, .int .u64 (sentT s F).o.tp, .string (sentT s F).o.d, .slice a4 n4 c4, .slice a5 n5 c5, .bool (sentT s F).o.fin, .bool (sentT s F).o.ft, .bool (sentT s F).o.fa, .int .u64 (sentT s F).cr, .int .u64 (sentT s F).cd, .int .u64 (sentT s F).wy, .bool (sentT s F).rs, .bool (sentT s F).td, .bool (sentT s F).gn, .int .u64 (sentT s F).i.rd, .slice a6 n6 c6, .int .u64 (sentT s F).i.fin, .bool (sentT s F).i.kn, .int .u64 (sentT s F).wn, .int .u64 (sentT s F).lm, .bool (sentT s F).rz, .bool (sentT s F).bk, .bool (sentT s F).sp, .int .u64 (sentT s F).sc, .bool (sentT s F).st])) from ⟨HSE.out.1.row (by have := HWS3.out; have := HQQ.out; omega) _, HSE.out.2.1.row (by have := HFBL.out; have := HQQ.out; omega) _, below_setRow HSE.out.2.2 HQQ.out _⟩)
              have HN4 : Hid (N3 (w.heap.size + 3) w (wq.setRow (WA.heap.size) #[.int .u64 (sentT s F).o.ba, .int .u64 (sentT s F).o.tp, .string (sentT s F).o.d, .slice a4 n4 c4, .slice a5 n5 c5, .bool (sentT s F).o.fin, .bool (sentT s F).o.ft, .bool (sentT s F).o.fa, .int .u64 (sentT s F).cr, .int .u64 (sentT s F).cd, .int .u64 (sentT s F).wy, .bool (sentT s F).rs, .bool (sentT s F).td, .bool (sentT s F).gn, .int .u64 (sentT s F).i.rd, .slice a6 n6 c6, .int .u64 (sentT s F).i.fin, .bool (sentT s F).i.kn, .int .u64 (sentT s F).wn, .int .u64 (sentT s F).lm, .bool (sentT s F).rz, .bool (sentT s F).bk, .bool (sentT s F).sp, .int .u64 (sentT s F).sc, .bool (sentT s F).st]) (.slice a4 n4 c4) (.slice a5 n5 c5) (.slice a6 n6 c6) T (sentT s F)) := Lib.hid ⟨(HQ.out.r).row (fun hk => by have h1 := HQ.out.nu _ hk; have := HWD.out; omega) (fun hk => by have h1 := HQ.out.nv _ hk; have := HWD.out; omega) (fun hk => by have h1 := HQ.out.nx _ hk; have := HWD.out; omega) _, fun k hk => by have := HQ.out.nu k hk; have := HWS3.out; have := HGE.out; omega, fun k hk => by have := HQ.out.nv k hk; have := HWS3.out; have := HGE.out; omega, fun k hk => by have := HQ.out.nx k hk; have := HWS3.out; have := HGE.out; omega, HX.out.1.bl⟩
              refine hK.out _ _ ?_ (fun hHeld => ?_)
              · exact HX.out
              clear hK K
              try simp only [Act.put, List.getElem_toArray, List.getElem_cons_zero, List.getElem_cons_succ, List.setIfInBounds_toArray, List.set_cons_zero, List.set_cons_succ]
              refine wpAnyE_done (by kernel_rfl) (NoPanic.normal ?_) _
              go_wp2_with fail
              go_meet
              case rel => exact ⟨WA.heap.size, _, _, _, _, _, _, _, _, _, rfl, by have := HWS3.out; have := HQQ.out; omega, by have := HFBL.out; have := HQQ.out; omega, HTQ.out, HN4.out, HX.out.1, HX.out.2.1⟩
          · go_simp
            refine hK.out _ _ ?_ (fun hHeld => ?_)
            · exact ⟨HS0.out.1.go ((Below.refl _ _).alloc (Nat.le_refl _) _), HS0.out.2.1.go ((Below.refl _ _).alloc (Nat.le_refl _) _), nextG HS0.out.2.2 ((Below.refl _ _).alloc (Nat.le_refl _) _)⟩
            clear hK K
            try simp only [Act.put, List.getElem_toArray, List.getElem_cons_zero, List.getElem_cons_succ, List.setIfInBounds_toArray, List.set_cons_zero, List.set_cons_succ]
            have HSD := Lib.hid (show (NT w (W5.alloc (.cells #[.int .u64 0, .int .u64 0, .string ⟨#[]⟩, .slice none 0 0, .slice none 0 0, .bool false, .bool false, .bool false, .int .u64 0, .int .u64 0, .int .u64 0, .bool false, .bool false, .bool false, .int .u64 0, .slice none 0 0, .int .u64 0, .bool false, .int .u64 0, .int .u64 0, .bool false, .bool false, .bool false, .int .u64 0, .bool false] 35)) (.slice a1 n1 c1) (.slice a2 n2 c2) (.slice a3 n3 c3) s ∧ FB (W5.alloc (.cells #[.int .u64 0, .int .u64 0, .string ⟨#[]⟩, .slice none 0 0, .slice none 0 0, .bool false, .bool false, .bool false, .int .u64 0, .int .u64 0, .int .u64 0, .bool false, .bool false, .bool false, .int .u64 0, .slice none 0 0, .int .u64 0, .bool false, .int .u64 0, .int .u64 0, .bool false, .bool false, .bool false, .int .u64 0, .bool false] 35)) wr.heap.size F ∧ Below w3.heap.size w3 (W5.alloc (.cells #[.int .u64 0, .int .u64 0, .string ⟨#[]⟩, .slice none 0 0, .slice none 0 0, .bool false, .bool false, .bool false, .int .u64 0, .int .u64 0, .int .u64 0, .bool false, .bool false, .bool false, .int .u64 0, .slice none 0 0, .int .u64 0, .bool false, .int .u64 0, .int .u64 0, .bool false, .bool false, .bool false, .int .u64 0, .bool false] 35))) from ⟨HS0.out.1.go ((Below.refl _ _).alloc (Nat.le_refl _) _), HS0.out.2.1.go ((Below.refl _ _).alloc (Nat.le_refl _) _), nextG HS0.out.2.2 ((Below.refl _ _).alloc (Nat.le_refl _) _)⟩)
            have HZD := Lib.hid (zb_made W5)
            have HQQ : Hid (w3.heap.size ≤ W5.heap.size) := Lib.hid HS0.out.2.2.size
            have HWD : Hid (W5.heap.size < (W5.alloc (.cells #[.int .u64 0, .int .u64 0, .string ⟨#[]⟩, .slice none 0 0, .slice none 0 0, .bool false, .bool false, .bool false, .int .u64 0, .int .u64 0, .int .u64 0, .bool false, .bool false, .bool false, .int .u64 0, .slice none 0 0, .int .u64 0, .bool false, .int .u64 0, .int .u64 0, .bool false, .bool false, .bool false, .int .u64 0, .bool false] 35)).heap.size) := Lib.hid (by rw [World.size_alloc]; omega)
            generalize W5.alloc (.cells #[.int .u64 0, .int .u64 0, .string ⟨#[]⟩, .slice none 0 0, .slice none 0 0, .bool false, .bool false, .bool false, .int .u64 0, .int .u64 0, .int .u64 0, .bool false, .bool false, .bool false, .int .u64 0, .slice none 0 0, .int .u64 0, .bool false, .int .u64 0, .int .u64 0, .bool false, .bool false, .bool false, .int .u64 0, .bool false] 35) = WD at HSD HZD HWD ⊢
            refine wpAnyE_call (i := 1) (by kernel_rfl) rfl (by rfl) (fun K hK => ?_)
            go_simp
            refine (whenSent_any _).mono ?_
            rintro e wx ⟨rfl, rfl⟩
            have HME : Hid ((WD.alloc (.map #[⟨.int .u64 4, .func (.func 118) #[] #[], 0⟩, ⟨.int .u64 5, .func (.func 119) #[] #[], 1⟩, ⟨.int .u64 17, .func (.func 120) #[] #[], 2⟩, ⟨.int .u64 8, .func (.func 121) #[] #[], 3⟩] 4)).heap[WD.heap.size]? = some (.map #[⟨.int .u64 4, .func (.func 118) #[] #[], 0⟩, ⟨.int .u64 5, .func (.func 119) #[] #[], 1⟩, ⟨.int .u64 17, .func (.func 120) #[] #[], 2⟩, ⟨.int .u64 8, .func (.func 121) #[] #[], 3⟩] 4)) := Lib.hid (heap_alloc_new _ _)
            have HSE := Lib.hid (show (NT w (WD.alloc (.map #[⟨.int .u64 4, .func (.func 118) #[] #[], 0⟩, ⟨.int .u64 5, .func (.func 119) #[] #[], 1⟩, ⟨.int .u64 17, .func (.func 120) #[] #[], 2⟩, ⟨.int .u64 8, .func (.func 121) #[] #[], 3⟩] 4)) (.slice a1 n1 c1) (.slice a2 n2 c2) (.slice a3 n3 c3) s ∧ FB (WD.alloc (.map #[⟨.int .u64 4, .func (.func 118) #[] #[], 0⟩, ⟨.int .u64 5, .func (.func 119) #[] #[], 1⟩, ⟨.int .u64 17, .func (.func 120) #[] #[], 2⟩, ⟨.int .u64 8, .func (.func 121) #[] #[], 3⟩] 4)) wr.heap.size F ∧ Below w3.heap.size w3 (WD.alloc (.map #[⟨.int .u64 4, .func (.func 118) #[] #[], 0⟩, ⟨.int .u64 5, .func (.func 119) #[] #[], 1⟩, ⟨.int .u64 17, .func (.func 120) #[] #[], 2⟩, ⟨.int .u64 8, .func (.func 121) #[] #[], 3⟩] 4))) from ⟨HSD.out.1.go ((Below.refl _ _).alloc (Nat.le_refl _) _), HSD.out.2.1.go ((Below.refl _ _).alloc (Nat.le_refl _) _), nextG HSD.out.2.2 ((Below.refl _ _).alloc (Nat.le_refl _) _)⟩)
            have HZE := Lib.hid (HZD.out.go ((Below.refl WD.heap.size WD).alloc (Nat.le_refl _) (.map #[⟨.int .u64 4, .func (.func 118) #[] #[], 0⟩, ⟨.int .u64 5, .func (.func 119) #[] #[], 1⟩, ⟨.int .u64 17, .func (.func 120) #[] #[], 2⟩, ⟨.int .u64 8, .func (.func 121) #[] #[], 3⟩] 4)))
            have HWE : Hid (W5.heap.size < (WD.alloc (.map #[⟨.int .u64 4, .func (.func 118) #[] #[], 0⟩, ⟨.int .u64 5, .func (.func 119) #[] #[], 1⟩, ⟨.int .u64 17, .func (.func 120) #[] #[], 2⟩, ⟨.int .u64 8, .func (.func 121) #[] #[], 3⟩] 4)).heap.size) := Lib.hid (by rw [World.size_alloc]; have := HWD.out; omega)
            generalize WD.alloc (.map #[⟨.int .u64 4, .func (.func 118) #[] #[], 0⟩, ⟨.int .u64 5, .func (.func 119) #[] #[], 1⟩, ⟨.int .u64 17, .func (.func 120) #[] #[], 2⟩, ⟨.int .u64 8, .func (.func 121) #[] #[], 3⟩] 4) = WE at HME HSE HZE HWE ⊢
            have HGE : Hid (w3.heap.size ≤ WE.heap.size) := Lib.hid HSE.out.2.2.size
            refine hK.out _ _ ?_ (fun hHeld => ?_)
            · exact HSE.out
            clear hK K
            try simp only [Act.put, List.getElem_toArray, List.getElem_cons_zero, List.getElem_cons_succ, List.setIfInBounds_toArray, List.set_cons_zero, List.set_cons_succ]
            refine wpAnyE_call (i := 3) (by kernel_rfl) rfl (by rfl) (fun K hK => ?_)
            go_simp
            refine (CTF.out _ _ HME.out (HR0.out.go HSE.out.1.bl)).mono ?_
            rintro e wq ⟨a4, n4, c4, a5, n5, c5, a6, n6, c6, rfl, hq⟩
            have HQ := Lib.hid hq
            clear hq
            have HSF := Lib.hid (show (NT w wq (.slice a1 n1 c1) (.slice a2 n2 c2) (.slice a3 n3 c3) s ∧ FB wq wr.heap.size F ∧ Below w3.heap.size w3 wq) from ⟨HSE.out.1.go (HQ.out.bl), HSE.out.2.1.go (HQ.out.bl), nextG HSE.out.2.2 (HQ.out.bl)⟩)
            refine hK.out _ _ ?_ (fun hHeld => ?_)
            · exact HSF.out
            clear hK K
            try simp only [Act.put, List.getElem_toArray, List.getElem_cons_zero, List.getElem_cons_succ, List.setIfInBounds_toArray, List.set_cons_zero, List.set_cons_succ]
            have HZF := Lib.hid (HZE.out.go HQ.out.bl)
            have HTQ : Hid (TB (wq.setRow (W5.heap.size) #[.int .u64 (sentT s F).o.ba, .int .u64 (sentT s F).o.tp, .string (sentT s F).o.d, .slice a4 n4 c4, .slice a5 n5 c5, .bool (sentT s F).o.fin, .bool (sentT s F).o.ft, .bool (sentT s F).o.fa, .int .u64 (sentT s F).cr, .int .u64 (sentT s F).cd, .int .u64 (sentT s F).wy, .bool (sentT s F).rs, .bool (sentT s F).td, .bool (sentT s F).gn, .int .u64 (sentT s F).i.rd, .slice a6 n6 c6, .int .u64 (sentT s F).i.fin, .bool (sentT s F).i.kn, .int .u64 (sentT s F).wn, .int .u64 (sentT s F).lm, .bool (sentT s F).rz, .bool (sentT s F).bk, .bool (sentT s F).sp, .int .u64 (sentT s F).sc, .bool (sentT s F).st]) (W5.heap.size) (.slice a4 n4 c4) (.slice a5 n5 c5) (.slice a6 n6 c6) (sentT s F)) := Lib.hid (setRow_heap wq (W5.heap.size) _ #[.int .u64 (sentT s F).o.ba, .int .u64 (sentT s F).o.tp, .string (sentT s F).o.d, .slice a4 n4 c4, .slice a5 n5 c5, .bool (sentT s F).o.fin, .bool (sentT s F).o.ft, .bool (sentT s F).o.fa, .int .u64 (sentT s F).cr, .int .u64 (sentT s F).cd, .int .u64 (sentT s F).wy, .bool (sentT s F).rs, .bool (sentT s F).td, .bool (sentT s F).gn, .int .u64 (sentT s F).i.rd, .slice a6 n6 c6, .int .u64 (sentT s F).i.fin, .bool (sentT s F).i.kn, .int .u64 (sentT s F).wn, .int .u64 (sentT s F).lm, .bool (sentT s F).rz, .bool (sentT s F).bk, .bool (sentT s F).sp, .int .u64 (sentT s F).sc, .bool (sentT s F).st] _ _ HZF.out)
            refine wpAnyE_call (i := 5) (by kernel_rfl) rfl (by rfl) (fun K hK => ?_)
            refine wp_store_row _ _ _ rfl (W5.heap.size) #[.int .u64 (sentT s F).o.ba, .int .u64 (sentT s F).o.tp, .string (sentT s F).o.d, .slice a4 n4 c4, .slice a5 n5 c5, .bool (sentT s F).o.fin, .bool (sentT s F).o.ft, .bool (sentT s F).o.fa, .int .u64 (sentT s F).cr, .int .u64 (sentT s F).cd, .int .u64 (sentT s F).wy, .bool (sentT s F).rs, .bool (sentT s F).td, .bool (sentT s F).gn, .int .u64 (sentT s F).i.rd, .slice a6 n6 c6, .int .u64 (sentT s F).i.fin, .bool (sentT s F).i.kn, .int .u64 (sentT s F).wn, .int .u64 (sentT s F).lm, .bool (sentT s F).rz, .bool (sentT s F).bk, .bool (sentT s F).sp, .int .u64 (sentT s F).sc, .bool (sentT s F).st] rfl rfl _ _ HZF.out infT rfl (one_ts _ _ _ _ _ _ _ _ _ _) ?_
            have HX := Lib.hid (show (NT w (wq.setRow (W5.heap.size) #[.int .u64 (sentT s F).o.ba, .int .u64 (sentT s F).o.tp, .string (sentT s F).o.d, .slice a4 n4 c4, .slice a5 n5 c5, .bool (sentT s F).o.fin, .bool (sentT s F).o.ft, .bool (sentT s F).o.fa, .int .u64 (sentT s F).cr, .int .u64 (sentT s F).cd, .int .u64 (sentT s F).wy, .bool (sentT s F).rs, .bool (sentT s F).td, .bool (sentT s F).gn, .int .u64 (sentT s F).i.rd, .slice a6 n6 c6, .int .u64 (sentT s F).i.fin, .bool (sentT s F).i.kn, .int .u64 (sentT s F).wn, .int .u64 (sentT s F).lm, .bool (sentT s F).rz, .bool (sentT s F).bk, .bool (sentT s F).sp, .int .u64 (sentT s F).sc, .bool (sentT s F).st]) (.slice a1 n1 c1) (.slice a2 n2 c2) (.slice a3 n3 c3) s ∧ FB (wq.setRow (W5.heap.size) #[.int .u64 (sentT s F).o.ba, .int .u64 (sentT s F).o.tp, .string (sentT s F).o.d, .slice a4 n4 c4, .slice a5 n5 c5, .bool (sentT s F).o.fin, .bool (sentT s F).o.ft, .bool (sentT s F).o.fa, .int .u64 (sentT s F).cr, .int .u64 (sentT s F).cd, .int .u64 (sentT s F).wy, .bool (sentT s F).rs, .bool (sentT s F).td, .bool (sentT s F).gn, .int .u64 (sentT s F).i.rd, .slice a6 n6 c6, .int .u64 (sentT s F).i.fin, .bool (sentT s F).i.kn, .int .u64 (sentT s F).wn, .int .u64 (sentT s F).lm, .bool (sentT s F).rz, .bool (sentT s F).bk, .bool (sentT s F).sp, .int .u64 (sentT s F).sc, .bool (sentT s F).st]) wr.heap.size F ∧ Below w3.heap.size w3 (wq.setRow (W5.heap.size) #[.int .u64 (sentT s F).o.ba, .int .u64 (sentT s F).o.tp, .string (sentT s F).o.d, .slice a4 n4 c4, .slice a5 n5 c5, .bool (sentT s F).o.fin, .bool (sentT s F).o.ft, .bool (sentT s F).o.fa, .int .u64 (sentT s F).cr, .int .u64 (sentT s F).cd, .int .u64 (sentT s F).wy, .bool (sentT s F).rs, .bool (sentT s F).td, .bool (sentT s F).gn, .int .u64 (sentT s F).i.rd, .slice a6 n6 c6, .int .u64 (sentT s F).i.fin, .bool (sentT s F).i.kn, .int .u64 (sentT s F).wn, .int .u64 (sentT s F).lm, .bool (sentT s F).rz, .bool (sentT s F).bk, .bool (sentT s F).sp, .int .u64 (sentT s F).sc, .bool (sentT s F).st])) from ⟨HSF.out.1.row (by have := HWS3.out; have := HQQ.out; omega) _, HSF.out.2.1.row (by have := HFBL.out; have := HQQ.out; omega) _, below_setRow HSF.out.2.2 HQQ.out _⟩)
            have HN4 : Hid (N3 (w.heap.size + 3) w (wq.setRow (W5.heap.size) #[.int .u64 (sentT s F).o.ba, .int .u64 (sentT s F).o.tp, .string (sentT s F).o.d, .slice a4 n4 c4, .slice a5 n5 c5, .bool (sentT s F).o.fin, .bool (sentT s F).o.ft, .bool (sentT s F).o.fa, .int .u64 (sentT s F).cr, .int .u64 (sentT s F).cd, .int .u64 (sentT s F).wy, .bool (sentT s F).rs, .bool (sentT s F).td, .bool (sentT s F).gn, .int .u64 (sentT s F).i.rd, .slice a6 n6 c6, .int .u64 (sentT s F).i.fin, .bool (sentT s F).i.kn, .int .u64 (sentT s F).wn, .int .u64 (sentT s F).lm, .bool (sentT s F).rz, .bool (sentT s F).bk, .bool (sentT s F).sp, .int .u64 (sentT s F).sc, .bool (sentT s F).st]) (.slice a4 n4 c4) (.slice a5 n5 c5) (.slice a6 n6 c6) T (sentT s F)) := Lib.hid ⟨(HQ.out.r).row (fun hk => by have h1 := HQ.out.nu _ hk; have := HWE.out; omega) (fun hk => by have h1 := HQ.out.nv _ hk; have := HWE.out; omega) (fun hk => by have h1 := HQ.out.nx _ hk; have := HWE.out; omega) _, fun k hk => by have := HQ.out.nu k hk; have := HWS3.out; have := HGE.out; omega, fun k hk => by have := HQ.out.nv k hk; have := HWS3.out; have := HGE.out; omega, fun k hk => by have := HQ.out.nx k hk; have := HWS3.out; have := HGE.out; omega, HX.out.1.bl⟩
            refine hK.out _ _ ?_ (fun hHeld => ?_)
            · exact HX.out
            clear hK K
            try simp only [Act.put, List.getElem_toArray, List.getElem_cons_zero, List.getElem_cons_succ, List.setIfInBounds_toArray, List.set_cons_zero, List.set_cons_succ]
            refine wpAnyE_done (by kernel_rfl) (NoPanic.normal ?_) _
            go_wp2_with fail
            go_meet
            case rel => exact ⟨W5.heap.size, _, _, _, _, _, _, _, _, _, rfl, by have := HWS3.out; have := HQQ.out; omega, by have := HFBL.out; have := HQQ.out; omega, HTQ.out, HN4.out, HX.out.1, HX.out.2.1⟩
        case rest =>
          obtain ⟨q, a4, n4, c4, a5, n5, c5, a6, n6, c6, rfl, hq3, hqf, hTB, hN3, hNT, hFB⟩ := hcut
          generalize wc = W6 at hTB hN3 hNT hFB ⊢
          go_upto_region 6 with (fail)
          have HTB := Lib.hid (hTB.go (Below.refl W6.heap.size W6).drew)
          have HN6 := Lib.hid (hN3.go (Below.refl W6.heap.size W6).drew)
          have HT6 := Lib.hid (hNT.go (Below.refl W6.heap.size W6).drew)
          have HF6 := Lib.hid (hFB.go (Below.refl W6.heap.size W6).drew)
          have HQ3 := Lib.hid (And.intro hq3 hqf)
          have htp := HTP.out F
          have htz := HT0.out
          have v9 : IntKind.u64.wrap ((sentT s F).o.tp - s.o.tp) = (sentT s F).o.tp - s.o.tp := IntWalk.u64_in _ (by omega)
          clear htp htz hTB hN3 hNT hFB hq3 hqf
          refine wp_region_noPanic ?_
          refine wp_region_E (fun W : World => TB W q (.slice a4 n4 c4) (.slice a5 n5 c5) (.slice a6 n6 c6) (sentT s F) ∧ FB W wr.heap.size F ∧ TB W w.heap.size (.slice a1 n1 c1) (.slice a2 n2 c2) (.slice a3 n3 c3) s) (fun j => Nat.ble 100 j) (by kernel_rfl) ?_ (fun hHeld => ?_)
          · exact ⟨HTB.out, HF6.out, HT6.out.q⟩
          refine wpAnyE_load (i := 0) (v := ?_) rfl (by kernel_rfl) (by kernel_rfl) (by kernel_rfl) (by kernel_rfl) (fun _ _ _ h => h) (Or.inl ⟨by rfl, ?_⟩) (by assumption) ?_
          rotate_left
          · (intro w hSw; refine ex35 (y := ?_) ?_ ?_ hSw.1; rotate_left; rfl; rfl)
          try simp only [Act.put, List.getElem_toArray, List.getElem_cons_zero, List.getElem_cons_succ, List.setIfInBounds_toArray, List.set_cons_zero, List.set_cons_succ]
          refine wpAnyE_load (i := 1) (v := ?_) rfl (by kernel_rfl) (by kernel_rfl) (by kernel_rfl) (by kernel_rfl) (fun _ _ _ h => h) (Or.inl ⟨by rfl, ?_⟩) (by assumption) ?_
          rotate_left
          · (intro w hSw; refine ex48 (y := ?_) ?_ ?_ hSw.2.1 rfl; rotate_left; rfl; rfl)
          try simp only [Act.put, List.getElem_toArray, List.getElem_cons_zero, List.getElem_cons_succ, List.setIfInBounds_toArray, List.set_cons_zero, List.set_cons_succ]
          refine wpAnyE_take (i := 2) (v := ?_) rfl (by kernel_rfl) (by kernel_rfl) (by kernel_rfl) (fun _ _ _ h => h) (Or.inl ⟨by rfl, ?_⟩) ?_
          rotate_left
          · (intro w hSw; go_simp; (try with_reducible rfl))
          try simp only [Act.put, List.getElem_toArray, List.getElem_cons_zero, List.getElem_cons_succ, List.setIfInBounds_toArray, List.set_cons_zero, List.set_cons_succ]
          refine wpAnyE_take (i := 3) (v := ?_) rfl (by kernel_rfl) (by kernel_rfl) (by kernel_rfl) (fun _ _ _ h => h) (Or.inl ⟨by rfl, ?_⟩) ?_
          rotate_left
          · (intro w hSw; go_simp; (try with_reducible rfl))
          try simp only [Act.put, List.getElem_toArray, List.getElem_cons_zero, List.getElem_cons_succ, List.setIfInBounds_toArray, List.set_cons_zero, List.set_cons_succ]
          refine wpAnyE_load (i := 4) (v := ?_) rfl (by kernel_rfl) (by kernel_rfl) (by kernel_rfl) (by kernel_rfl) (fun _ _ _ h => h) (Or.inl ⟨by rfl, ?_⟩) (by assumption) ?_
          rotate_left
          · (intro w hSw; (have k1 := hSw.1.c1; have k2 := hSw.2.2.c1); go_simp; (try with_reducible rfl))
          try simp only [Act.put, List.getElem_toArray, List.getElem_cons_zero, List.getElem_cons_succ, List.setIfInBounds_toArray, List.set_cons_zero, List.set_cons_succ]
          refine wpAnyE_take (i := 5) (v := ?_) rfl (by kernel_rfl) (by kernel_rfl) (by kernel_rfl) (fun _ _ _ h => h) (Or.inl ⟨by rfl, ?_⟩) ?_
          rotate_left
          · (intro w hSw; go_simp; (try with_reducible rfl))
          try simp only [Act.put, List.getElem_toArray, List.getElem_cons_zero, List.getElem_cons_succ, List.setIfInBounds_toArray, List.set_cons_zero, List.set_cons_succ]
          refine wpAnyE_take (i := 6) (v := ?_) rfl (by kernel_rfl) (by kernel_rfl) (by kernel_rfl) (fun _ _ _ h => h) (Or.inl ⟨by rfl, ?_⟩) ?_
          rotate_left
          · (intro w hSw; go_simp; (try with_reducible rfl))
          try simp only [Act.put, List.getElem_toArray, List.getElem_cons_zero, List.getElem_cons_succ, List.setIfInBounds_toArray, List.set_cons_zero, List.set_cons_succ]
          refine wpAnyE_load (i := 7) (v := ?_) rfl (by kernel_rfl) (by kernel_rfl) (by kernel_rfl) (by kernel_rfl) (fun _ _ _ h => h) (Or.inl ⟨by rfl, ?_⟩) (by assumption) ?_
          rotate_left
          · (intro w hSw; (have k1 := hSw.1.c1; have k2 := hSw.2.2.c1); go_simp; (try with_reducible rfl))
          try simp only [Act.put, List.getElem_toArray, List.getElem_cons_zero, List.getElem_cons_succ, List.setIfInBounds_toArray, List.set_cons_zero, List.set_cons_succ]
          refine wpAnyE_take (i := 8) (v := ?_) rfl (by kernel_rfl) (by kernel_rfl) (by kernel_rfl) (fun _ _ _ h => h) (Or.inl ⟨by rfl, ?_⟩) ?_
          rotate_left
          · (intro w hSw; go_simp; (try with_reducible rfl))
          try simp only [Act.put, List.getElem_toArray, List.getElem_cons_zero, List.getElem_cons_succ, List.setIfInBounds_toArray, List.set_cons_zero, List.set_cons_succ]
          generalize W6.drew = W7 at HTB HN6 HT6 HF6 ⊢
          have HS8 : Hid (TB (W7.setRow (w.heap.size + 1) #[.int .u64 (sentT s F).o.ba, .int .u64 (sentT s F).o.tp, .string (sentT s F).o.d, .slice a4 n4 c4, .slice a5 n5 c5, .bool (sentT s F).o.fin, .bool (sentT s F).o.ft, .bool (sentT s F).o.fa, .int .u64 (sentT s F).cr, .int .u64 (sentT s F).cd, .int .u64 (sentT s F).wy, .bool (sentT s F).rs, .bool (sentT s F).td, .bool (sentT s F).gn, .int .u64 (sentT s F).i.rd, .slice a6 n6 c6, .int .u64 (sentT s F).i.fin, .bool (sentT s F).i.kn, .int .u64 (sentT s F).wn, .int .u64 (sentT s F).lm, .bool (sentT s F).rz, .bool (sentT s F).bk, .bool (sentT s F).sp, .int .u64 (sentT s F).sc, .bool (sentT s F).st]) q (.slice a4 n4 c4) (.slice a5 n5 c5) (.slice a6 n6 c6) (sentT s F) ∧ FB (W7.setRow (w.heap.size + 1) #[.int .u64 (sentT s F).o.ba, .int .u64 (sentT s F).o.tp, .string (sentT s F).o.d, .slice a4 n4 c4, .slice a5 n5 c5, .bool (sentT s F).o.fin, .bool (sentT s F).o.ft, .bool (sentT s F).o.fa, .int .u64 (sentT s F).cr, .int .u64 (sentT s F).cd, .int .u64 (sentT s F).wy, .bool (sentT s F).rs, .bool (sentT s F).td, .bool (sentT s F).gn, .int .u64 (sentT s F).i.rd, .slice a6 n6 c6, .int .u64 (sentT s F).i.fin, .bool (sentT s F).i.kn, .int .u64 (sentT s F).wn, .int .u64 (sentT s F).lm, .bool (sentT s F).rz, .bool (sentT s F).bk, .bool (sentT s F).sp, .int .u64 (sentT s F).sc, .bool (sentT s F).st]) wr.heap.size F ∧ TB (W7.setRow (w.heap.size + 1) #[.int .u64 (sentT s F).o.ba, .int .u64 (sentT s F).o.tp, .string (sentT s F).o.d, .slice a4 n4 c4, .slice a5 n5 c5, .bool (sentT s F).o.fin, .bool (sentT s F).o.ft, .bool (sentT s F).o.fa, .int .u64 (sentT s F).cr, .int .u64 (sentT s F).cd, .int .u64 (sentT s F).wy, .bool (sentT s F).rs, .bool (sentT s F).td, .bool (sentT s F).gn, .int .u64 (sentT s F).i.rd, .slice a6 n6 c6, .int .u64 (sentT s F).i.fin, .bool (sentT s F).i.kn, .int .u64 (sentT s F).wn, .int .u64 (sentT s F).lm, .bool (sentT s F).rz, .bool (sentT s F).bk, .bool (sentT s F).sp, .int .u64 (sentT s F).sc, .bool (sentT s F).st]) w.heap.size (.slice a1 n1 c1) (.slice a2 n2 c2) (.slice a3 n3 c3) s) := Lib.hid ⟨(setRow_other W7 _ _ _ (by have := HQ3.out.1; omega)).trans HTB.out, HF6.out.row (by have := HWS.out; omega) _, (setRow_other W7 _ _ _ (by omega)).trans HT6.out.q⟩
          have HZ8 : Hid ((W7.setRow (w.heap.size + 1) #[.int .u64 (sentT s F).o.ba, .int .u64 (sentT s F).o.tp, .string (sentT s F).o.d, .slice a4 n4 c4, .slice a5 n5 c5, .bool (sentT s F).o.fin, .bool (sentT s F).o.ft, .bool (sentT s F).o.fa, .int .u64 (sentT s F).cr, .int .u64 (sentT s F).cd, .int .u64 (sentT s F).wy, .bool (sentT s F).rs, .bool (sentT s F).td, .bool (sentT s F).gn, .int .u64 (sentT s F).i.rd, .slice a6 n6 c6, .int .u64 (sentT s F).i.fin, .bool (sentT s F).i.kn, .int .u64 (sentT s F).wn, .int .u64 (sentT s F).lm, .bool (sentT s F).rz, .bool (sentT s F).bk, .bool (sentT s F).sp, .int .u64 (sentT s F).sc, .bool (sentT s F).st]).heap[w.heap.size + 2]? = some (.cells #[.int .u64 0, .int .u64 0, .int .u64 0, .int .u64 0, .int .u64 0, .int .u64 0, .int .u64 0, .int .u64 0, .bool false, .string ⟨#[]⟩, .string ⟨#[]⟩, .string ⟨#[]⟩, .slice none 0 0] 48 (0, 0))) := Lib.hid ((setRow_other W7 _ _ _ (by omega)).trans HT6.out.zf)
          have HS9 : Hid (TB ((W7.setRow (w.heap.size + 1) #[.int .u64 (sentT s F).o.ba, .int .u64 (sentT s F).o.tp, .string (sentT s F).o.d, .slice a4 n4 c4, .slice a5 n5 c5, .bool (sentT s F).o.fin, .bool (sentT s F).o.ft, .bool (sentT s F).o.fa, .int .u64 (sentT s F).cr, .int .u64 (sentT s F).cd, .int .u64 (sentT s F).wy, .bool (sentT s F).rs, .bool (sentT s F).td, .bool (sentT s F).gn, .int .u64 (sentT s F).i.rd, .slice a6 n6 c6, .int .u64 (sentT s F).i.fin, .bool (sentT s F).i.kn, .int .u64 (sentT s F).wn, .int .u64 (sentT s F).lm, .bool (sentT s F).rz, .bool (sentT s F).bk, .bool (sentT s F).sp, .int .u64 (sentT s F).sc, .bool (sentT s F).st]).setRow (w.heap.size + 2) #[.int .u64 F.kind, .int .u64 F.id, .int .u64 F.off, .int .u64 F.max, .int .u64 F.code, .int .u64 F.seq, .int .u64 F.prior, .int .u64 F.delay, .bool F.fin, .string ⟨F.data.toArray⟩, .string ⟨F.cid.toArray⟩, .string ⟨F.token.toArray⟩, .slice F.set.a F.set.n F.set.c]) q (.slice a4 n4 c4) (.slice a5 n5 c5) (.slice a6 n6 c6) (sentT s F) ∧ FB ((W7.setRow (w.heap.size + 1) #[.int .u64 (sentT s F).o.ba, .int .u64 (sentT s F).o.tp, .string (sentT s F).o.d, .slice a4 n4 c4, .slice a5 n5 c5, .bool (sentT s F).o.fin, .bool (sentT s F).o.ft, .bool (sentT s F).o.fa, .int .u64 (sentT s F).cr, .int .u64 (sentT s F).cd, .int .u64 (sentT s F).wy, .bool (sentT s F).rs, .bool (sentT s F).td, .bool (sentT s F).gn, .int .u64 (sentT s F).i.rd, .slice a6 n6 c6, .int .u64 (sentT s F).i.fin, .bool (sentT s F).i.kn, .int .u64 (sentT s F).wn, .int .u64 (sentT s F).lm, .bool (sentT s F).rz, .bool (sentT s F).bk, .bool (sentT s F).sp, .int .u64 (sentT s F).sc, .bool (sentT s F).st]).setRow (w.heap.size + 2) #[.int .u64 F.kind, .int .u64 F.id, .int .u64 F.off, .int .u64 F.max, .int .u64 F.code, .int .u64 F.seq, .int .u64 F.prior, .int .u64 F.delay, .bool F.fin, .string ⟨F.data.toArray⟩, .string ⟨F.cid.toArray⟩, .string ⟨F.token.toArray⟩, .slice F.set.a F.set.n F.set.c]) wr.heap.size F ∧ TB ((W7.setRow (w.heap.size + 1) #[.int .u64 (sentT s F).o.ba, .int .u64 (sentT s F).o.tp, .string (sentT s F).o.d, .slice a4 n4 c4, .slice a5 n5 c5, .bool (sentT s F).o.fin, .bool (sentT s F).o.ft, .bool (sentT s F).o.fa, .int .u64 (sentT s F).cr, .int .u64 (sentT s F).cd, .int .u64 (sentT s F).wy, .bool (sentT s F).rs, .bool (sentT s F).td, .bool (sentT s F).gn, .int .u64 (sentT s F).i.rd, .slice a6 n6 c6, .int .u64 (sentT s F).i.fin, .bool (sentT s F).i.kn, .int .u64 (sentT s F).wn, .int .u64 (sentT s F).lm, .bool (sentT s F).rz, .bool (sentT s F).bk, .bool (sentT s F).sp, .int .u64 (sentT s F).sc, .bool (sentT s F).st]).setRow (w.heap.size + 2) #[.int .u64 F.kind, .int .u64 F.id, .int .u64 F.off, .int .u64 F.max, .int .u64 F.code, .int .u64 F.seq, .int .u64 F.prior, .int .u64 F.delay, .bool F.fin, .string ⟨F.data.toArray⟩, .string ⟨F.cid.toArray⟩, .string ⟨F.token.toArray⟩, .slice F.set.a F.set.n F.set.c]) w.heap.size (.slice a1 n1 c1) (.slice a2 n2 c2) (.slice a3 n3 c3) s) := Lib.hid ⟨(setRow_other (W7.setRow (w.heap.size + 1) #[.int .u64 (sentT s F).o.ba, .int .u64 (sentT s F).o.tp, .string (sentT s F).o.d, .slice a4 n4 c4, .slice a5 n5 c5, .bool (sentT s F).o.fin, .bool (sentT s F).o.ft, .bool (sentT s F).o.fa, .int .u64 (sentT s F).cr, .int .u64 (sentT s F).cd, .int .u64 (sentT s F).wy, .bool (sentT s F).rs, .bool (sentT s F).td, .bool (sentT s F).gn, .int .u64 (sentT s F).i.rd, .slice a6 n6 c6, .int .u64 (sentT s F).i.fin, .bool (sentT s F).i.kn, .int .u64 (sentT s F).wn, .int .u64 (sentT s F).lm, .bool (sentT s F).rz, .bool (sentT s F).bk, .bool (sentT s F).sp, .int .u64 (sentT s F).sc, .bool (sentT s F).st]) _ _ _ (by have := HQ3.out.1; omega)).trans HS8.out.1, HS8.out.2.1.row (by have := HWS.out; omega) _, (setRow_other (W7.setRow (w.heap.size + 1) #[.int .u64 (sentT s F).o.ba, .int .u64 (sentT s F).o.tp, .string (sentT s F).o.d, .slice a4 n4 c4, .slice a5 n5 c5, .bool (sentT s F).o.fin, .bool (sentT s F).o.ft, .bool (sentT s F).o.fa, .int .u64 (sentT s F).cr, .int .u64 (sentT s F).cd, .int .u64 (sentT s F).wy, .bool (sentT s F).rs, .bool (sentT s F).td, .bool (sentT s F).gn, .int .u64 (sentT s F).i.rd, .slice a6 n6 c6, .int .u64 (sentT s F).i.fin, .bool (sentT s F).i.kn, .int .u64 (sentT s F).wn, .int .u64 (sentT s F).lm, .bool (sentT s F).rz, .bool (sentT s F).bk, .bool (sentT s F).sp, .int .u64 (sentT s F).sc, .bool (sentT s F).st]) _ _ _ (by omega)).trans HS8.out.2.2⟩
          have HTZ : Hid (TB ((W7.setRow (w.heap.size + 1) #[.int .u64 (sentT s F).o.ba, .int .u64 (sentT s F).o.tp, .string (sentT s F).o.d, .slice a4 n4 c4, .slice a5 n5 c5, .bool (sentT s F).o.fin, .bool (sentT s F).o.ft, .bool (sentT s F).o.fa, .int .u64 (sentT s F).cr, .int .u64 (sentT s F).cd, .int .u64 (sentT s F).wy, .bool (sentT s F).rs, .bool (sentT s F).td, .bool (sentT s F).gn, .int .u64 (sentT s F).i.rd, .slice a6 n6 c6, .int .u64 (sentT s F).i.fin, .bool (sentT s F).i.kn, .int .u64 (sentT s F).wn, .int .u64 (sentT s F).lm, .bool (sentT s F).rz, .bool (sentT s F).bk, .bool (sentT s F).sp, .int .u64 (sentT s F).sc, .bool (sentT s F).st]).setRow (w.heap.size + 2) #[.int .u64 F.kind, .int .u64 F.id, .int .u64 F.off, .int .u64 F.max, .int .u64 F.code, .int .u64 F.seq, .int .u64 F.prior, .int .u64 F.delay, .bool F.fin, .string ⟨F.data.toArray⟩, .string ⟨F.cid.toArray⟩, .string ⟨F.token.toArray⟩, .slice F.set.a F.set.n F.set.c]) (w.heap.size + 1) (.slice a4 n4 c4) (.slice a5 n5 c5) (.slice a6 n6 c6) (sentT s F)) := Lib.hid ((setRow_other (W7.setRow (w.heap.size + 1) #[.int .u64 (sentT s F).o.ba, .int .u64 (sentT s F).o.tp, .string (sentT s F).o.d, .slice a4 n4 c4, .slice a5 n5 c5, .bool (sentT s F).o.fin, .bool (sentT s F).o.ft, .bool (sentT s F).o.fa, .int .u64 (sentT s F).cr, .int .u64 (sentT s F).cd, .int .u64 (sentT s F).wy, .bool (sentT s F).rs, .bool (sentT s F).td, .bool (sentT s F).gn, .int .u64 (sentT s F).i.rd, .slice a6 n6 c6, .int .u64 (sentT s F).i.fin, .bool (sentT s F).i.kn, .int .u64 (sentT s F).wn, .int .u64 (sentT s F).lm, .bool (sentT s F).rz, .bool (sentT s F).bk, .bool (sentT s F).sp, .int .u64 (sentT s F).sc, .bool (sentT s F).st]) _ _ _ (by omega)).trans (setRow_heap W7 (w.heap.size + 1) _ _ _ _ HT6.out.z))
          have HFZ : Hid (((W7.setRow (w.heap.size + 1) #[.int .u64 (sentT s F).o.ba, .int .u64 (sentT s F).o.tp, .string (sentT s F).o.d, .slice a4 n4 c4, .slice a5 n5 c5, .bool (sentT s F).o.fin, .bool (sentT s F).o.ft, .bool (sentT s F).o.fa, .int .u64 (sentT s F).cr, .int .u64 (sentT s F).cd, .int .u64 (sentT s F).wy, .bool (sentT s F).rs, .bool (sentT s F).td, .bool (sentT s F).gn, .int .u64 (sentT s F).i.rd, .slice a6 n6 c6, .int .u64 (sentT s F).i.fin, .bool (sentT s F).i.kn, .int .u64 (sentT s F).wn, .int .u64 (sentT s F).lm, .bool (sentT s F).rz, .bool (sentT s F).bk, .bool (sentT s F).sp, .int .u64 (sentT s F).sc, .bool (sentT s F).st]).setRow (w.heap.size + 2) #[.int .u64 F.kind, .int .u64 F.id, .int .u64 F.off, .int .u64 F.max, .int .u64 F.code, .int .u64 F.seq, .int .u64 F.prior, .int .u64 F.delay, .bool F.fin, .string ⟨F.data.toArray⟩, .string ⟨F.cid.toArray⟩, .string ⟨F.token.toArray⟩, .slice F.set.a F.set.n F.set.c]).heap[w.heap.size + 2]? = some (.cells #[.int .u64 F.kind, .int .u64 F.id, .int .u64 F.off, .int .u64 F.max, .int .u64 F.code, .int .u64 F.seq, .int .u64 F.prior, .int .u64 F.delay, .bool F.fin, .string ⟨F.data.toArray⟩, .string ⟨F.cid.toArray⟩, .string ⟨F.token.toArray⟩, .slice F.set.a F.set.n F.set.c] 48 (0, 0))) := Lib.hid (setRow_heap _ (w.heap.size + 2) _ _ _ _ HZ8.out)
          have HE : Hid (N3 w.heap.size w ((W7.setRow (w.heap.size + 1) #[.int .u64 (sentT s F).o.ba, .int .u64 (sentT s F).o.tp, .string (sentT s F).o.d, .slice a4 n4 c4, .slice a5 n5 c5, .bool (sentT s F).o.fin, .bool (sentT s F).o.ft, .bool (sentT s F).o.fa, .int .u64 (sentT s F).cr, .int .u64 (sentT s F).cd, .int .u64 (sentT s F).wy, .bool (sentT s F).rs, .bool (sentT s F).td, .bool (sentT s F).gn, .int .u64 (sentT s F).i.rd, .slice a6 n6 c6, .int .u64 (sentT s F).i.fin, .bool (sentT s F).i.kn, .int .u64 (sentT s F).wn, .int .u64 (sentT s F).lm, .bool (sentT s F).rz, .bool (sentT s F).bk, .bool (sentT s F).sp, .int .u64 (sentT s F).sc, .bool (sentT s F).st]).setRow (w.heap.size + 2) #[.int .u64 F.kind, .int .u64 F.id, .int .u64 F.off, .int .u64 F.max, .int .u64 F.code, .int .u64 F.seq, .int .u64 F.prior, .int .u64 F.delay, .bool F.fin, .string ⟨F.data.toArray⟩, .string ⟨F.cid.toArray⟩, .string ⟨F.token.toArray⟩, .slice F.set.a F.set.n F.set.c]) (.slice a4 n4 c4) (.slice a5 n5 c5) (.slice a6 n6 c6) T (sentT s F)) := Lib.hid ⟨(HN6.out.r.row (fun hk => by have := HN6.out.nu _ hk; omega) (fun hk => by have := HN6.out.nv _ hk; omega) (fun hk => by have := HN6.out.nx _ hk; omega) _).row (fun hk => by have := HN6.out.nu _ hk; omega) (fun hk => by have := HN6.out.nv _ hk; omega) (fun hk => by have := HN6.out.nx _ hk; omega) _, fun k hk => by have := HN6.out.nu _ hk; omega, fun k hk => by have := HN6.out.nv _ hk; omega, fun k hk => by have := HN6.out.nx _ hk; omega, below_setRow (below_setRow HT6.out.bl (by omega) _) (by omega) _⟩
          refine wpAnyE_call (i := 9) (by kernel_rfl) rfl (by rfl) (fun K hK => ?_)
          refine wp_store_row _ _ _ rfl (w.heap.size + 1) #[.int .u64 (sentT s F).o.ba, .int .u64 (sentT s F).o.tp, .string (sentT s F).o.d, .slice a4 n4 c4, .slice a5 n5 c5, .bool (sentT s F).o.fin, .bool (sentT s F).o.ft, .bool (sentT s F).o.fa, .int .u64 (sentT s F).cr, .int .u64 (sentT s F).cd, .int .u64 (sentT s F).wy, .bool (sentT s F).rs, .bool (sentT s F).td, .bool (sentT s F).gn, .int .u64 (sentT s F).i.rd, .slice a6 n6 c6, .int .u64 (sentT s F).i.fin, .bool (sentT s F).i.kn, .int .u64 (sentT s F).wn, .int .u64 (sentT s F).lm, .bool (sentT s F).rz, .bool (sentT s F).bk, .bool (sentT s F).sp, .int .u64 (sentT s F).sc, .bool (sentT s F).st] rfl rfl _ _ HT6.out.z infT rfl (one_ts _ _ _ _ _ _ _ _ _ _) ?_
          refine hK.out _ _ ?_ (fun hHeld => ?_)
          · exact HS8.out
          clear hK K
          try simp only [Act.put, List.getElem_toArray, List.getElem_cons_zero, List.getElem_cons_succ, List.setIfInBounds_toArray, List.set_cons_zero, List.set_cons_succ]
          refine wpAnyE_call (i := 10) (by kernel_rfl) rfl (by rfl) (fun K hK => ?_)
          refine wp_store_row _ _ _ rfl (w.heap.size + 2) #[.int .u64 F.kind, .int .u64 F.id, .int .u64 F.off, .int .u64 F.max, .int .u64 F.code, .int .u64 F.seq, .int .u64 F.prior, .int .u64 F.delay, .bool F.fin, .string ⟨F.data.toArray⟩, .string ⟨F.cid.toArray⟩, .string ⟨F.token.toArray⟩, .slice F.set.a F.set.n F.set.c] rfl rfl _ _ HZ8.out infF rfl (by simp [Value.oneCell']) ?_
          refine hK.out _ _ ?_ (fun hHeld => ?_)
          · exact HS9.out
          clear hK K
          try simp only [Act.put, List.getElem_toArray, List.getElem_cons_zero, List.getElem_cons_succ, List.setIfInBounds_toArray, List.set_cons_zero, List.set_cons_succ]
          refine wpAnyE_take (i := 11) (v := ?_) rfl (by kernel_rfl) (by kernel_rfl) (by kernel_rfl) (fun _ _ _ h => h) (Or.inl ⟨by rfl, ?_⟩) ?_
          rotate_left
          · (intro w hSw; go_simp; (try with_reducible rfl))
          try simp only [Act.put, List.getElem_toArray, List.getElem_cons_zero, List.getElem_cons_succ, List.setIfInBounds_toArray, List.set_cons_zero, List.set_cons_succ]
          refine wpAnyE_take (i := 12) (v := ?_) rfl (by kernel_rfl) (by kernel_rfl) (by kernel_rfl) (fun _ _ _ h => h) (Or.inl ⟨by rfl, ?_⟩) ?_
          rotate_left
          · (intro w hSw; go_simp; (try with_reducible rfl))
          try simp only [Act.put, List.getElem_toArray, List.getElem_cons_zero, List.getElem_cons_succ, List.setIfInBounds_toArray, List.set_cons_zero, List.set_cons_succ]
          refine wpAnyE_done (by kernel_rfl) (NoPanic.normal ?_) _
          generalize World.setRow _ _ _ = WW at HTZ HFZ HE ⊢
          go_wp2_with fail
          refine bodyPost_ret (results_nx Tryz.results36 _ (w.heap.size + 1) (w.heap.size + 2) (.slice a4 n4 c4) (.slice a5 n5 c5) (.slice a6 n6 c6) (sentT s F) _ (.int .u64 ((sentT s F).o.tp - s.o.tp)) (.bool true) _ rfl rfl rfl rfl HTZ.out HFZ.out rfl) rfl ?_
          rw [HV.out]
          exact ⟨_, _, _, _, _, _, _, _, _, rfl, HE.out⟩
    · obtain rfl : k = n := by have := HK.out; omega
      have HV : Hid (R = none) := Lib.hid (by have h := HFI.out; rw [← HNN.out, List.drop_length] at h; exact h.symm)
      clear CT CF HDA HRW HFI
      have HZ1 : Hid (w.heap.size + 2 < wr.heap.size) := Lib.hid (Array.getElem?_eq_some_iff.1 HNT.out.zf).1
      go_wp2_with (refine ld35 rfl HNT.out.q rfl (by rfl) ?_)
      refine (CO.out _ (HR0.out.go HNT.out.bl)).mono ?_
      rintro e w2 ⟨b1, k1, d1, b2, k2, d2, b3, k3, d3, rfl, hq⟩
      have HQ := Lib.hid hq
      clear hq
      have HN4 := Lib.hid (HNT.out.go HQ.out.bl)
      have HZ2 : Hid ((w2.setRow (w.heap.size + 1) #[.int .u64 s.o.ba, .int .u64 s.o.tp, .string s.o.d, .slice b1 k1 d1, .slice b2 k2 d2, .bool s.o.fin, .bool s.o.ft, .bool s.o.fa, .int .u64 s.cr, .int .u64 s.cd, .int .u64 s.wy, .bool s.rs, .bool s.td, .bool s.gn, .int .u64 s.i.rd, .slice b3 k3 d3, .int .u64 s.i.fin, .bool s.i.kn, .int .u64 s.wn, .int .u64 s.lm, .bool s.rz, .bool s.bk, .bool s.sp, .int .u64 s.sc, .bool s.st]).heap[w.heap.size + 2]? = some (.cells #[.int .u64 0, .int .u64 0, .int .u64 0, .int .u64 0, .int .u64 0, .int .u64 0, .int .u64 0, .int .u64 0, .bool false, .string ⟨#[]⟩, .string ⟨#[]⟩, .string ⟨#[]⟩, .slice none 0 0] 48 (0, 0))) := Lib.hid ((setRow_other w2 _ _ _ (by omega)).trans HN4.out.zf)
      have HTZ : Hid (TB ((w2.setRow (w.heap.size + 1) #[.int .u64 s.o.ba, .int .u64 s.o.tp, .string s.o.d, .slice b1 k1 d1, .slice b2 k2 d2, .bool s.o.fin, .bool s.o.ft, .bool s.o.fa, .int .u64 s.cr, .int .u64 s.cd, .int .u64 s.wy, .bool s.rs, .bool s.td, .bool s.gn, .int .u64 s.i.rd, .slice b3 k3 d3, .int .u64 s.i.fin, .bool s.i.kn, .int .u64 s.wn, .int .u64 s.lm, .bool s.rz, .bool s.bk, .bool s.sp, .int .u64 s.sc, .bool s.st]).setRow (w.heap.size + 2) #[.int .u64 0, .int .u64 0, .int .u64 0, .int .u64 0, .int .u64 0, .int .u64 0, .int .u64 0, .int .u64 0, .bool false, .string ⟨#[]⟩, .string ⟨#[]⟩, .string ⟨#[]⟩, .slice none 0 0]) (w.heap.size + 1) (.slice b1 k1 d1) (.slice b2 k2 d2) (.slice b3 k3 d3) s) := Lib.hid ((setRow_other _ _ _ _ (by omega)).trans (setRow_heap w2 (w.heap.size + 1) _ _ _ _ HN4.out.z))
      have HFZ : Hid (((w2.setRow (w.heap.size + 1) #[.int .u64 s.o.ba, .int .u64 s.o.tp, .string s.o.d, .slice b1 k1 d1, .slice b2 k2 d2, .bool s.o.fin, .bool s.o.ft, .bool s.o.fa, .int .u64 s.cr, .int .u64 s.cd, .int .u64 s.wy, .bool s.rs, .bool s.td, .bool s.gn, .int .u64 s.i.rd, .slice b3 k3 d3, .int .u64 s.i.fin, .bool s.i.kn, .int .u64 s.wn, .int .u64 s.lm, .bool s.rz, .bool s.bk, .bool s.sp, .int .u64 s.sc, .bool s.st]).setRow (w.heap.size + 2) #[.int .u64 0, .int .u64 0, .int .u64 0, .int .u64 0, .int .u64 0, .int .u64 0, .int .u64 0, .int .u64 0, .bool false, .string ⟨#[]⟩, .string ⟨#[]⟩, .string ⟨#[]⟩, .slice none 0 0]).heap[w.heap.size + 2]? = some (.cells #[.int .u64 0, .int .u64 0, .int .u64 0, .int .u64 0, .int .u64 0, .int .u64 0, .int .u64 0, .int .u64 0, .bool false, .string ⟨#[]⟩, .string ⟨#[]⟩, .string ⟨#[]⟩, .slice none 0 0] 48 (0, 0))) := Lib.hid (setRow_heap _ (w.heap.size + 2) _ _ _ _ HZ2.out)
      have HE : Hid (N3 w.heap.size w ((w2.setRow (w.heap.size + 1) #[.int .u64 s.o.ba, .int .u64 s.o.tp, .string s.o.d, .slice b1 k1 d1, .slice b2 k2 d2, .bool s.o.fin, .bool s.o.ft, .bool s.o.fa, .int .u64 s.cr, .int .u64 s.cd, .int .u64 s.wy, .bool s.rs, .bool s.td, .bool s.gn, .int .u64 s.i.rd, .slice b3 k3 d3, .int .u64 s.i.fin, .bool s.i.kn, .int .u64 s.wn, .int .u64 s.lm, .bool s.rz, .bool s.bk, .bool s.sp, .int .u64 s.sc, .bool s.st]).setRow (w.heap.size + 2) #[.int .u64 0, .int .u64 0, .int .u64 0, .int .u64 0, .int .u64 0, .int .u64 0, .int .u64 0, .int .u64 0, .bool false, .string ⟨#[]⟩, .string ⟨#[]⟩, .string ⟨#[]⟩, .slice none 0 0]) (.slice b1 k1 d1) (.slice b2 k2 d2) (.slice b3 k3 d3) T s) := Lib.hid ⟨(HQ.out.r.row (fun hk => by have := HQ.out.nu _ hk; have := HZ1.out; omega) (fun hk => by have := HQ.out.nv _ hk; have := HZ1.out; omega) (fun hk => by have := HQ.out.nx _ hk; have := HZ1.out; omega) _).row (fun hk => by have := HQ.out.nu _ hk; have := HZ1.out; omega) (fun hk => by have := HQ.out.nv _ hk; have := HZ1.out; omega) (fun hk => by have := HQ.out.nx _ hk; have := HZ1.out; omega) _, fun k hk => by have := HQ.out.nu _ hk; have := HZ1.out; omega, fun k hk => by have := HQ.out.nv _ hk; have := HZ1.out; omega, fun k hk => by have := HQ.out.nx _ hk; have := HZ1.out; omega, below_setRow (below_setRow HN4.out.bl (by omega) _) (by omega) _⟩
      go_wp2_with (first | refine st35 rfl HN4.out.z rfl rfl rfl (by rfl) ?_ | refine st48 rfl HZ2.out rfl rfl (fr_one 0 0 0 0 0 ⟨#[]⟩ false) rfl rfl (by rfl) ?_)
      generalize World.setRow _ _ _ = WW at HTZ HFZ HE ⊢
      refine bodyPost_ret (results_nx Tryz.results36 _ (w.heap.size + 1) (w.heap.size + 2) (.slice b1 k1 d1) (.slice b2 k2 d2) (.slice b3 k3 d3) s _ (.int .u64 0) (.bool false) _ rfl rfl rfl rfl HTZ.out HFZ.out rfl) rfl ?_
      rw [HV.out]
      exact ⟨_, _, _, _, _, _, _, _, _, rfl, HE.out⟩
end Go.Proofs.YtoblmhpjendbfaaGreatDoor.Rg
