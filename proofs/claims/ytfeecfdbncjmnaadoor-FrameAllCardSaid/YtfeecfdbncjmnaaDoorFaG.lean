/- Layer 6: frames put one behind the other, zeros between; Put of any frame. By tools/gen-frame-46.py. -/
import Derived.Test.YtfeecfdbncjmnaaDoorFzJ
import Derived.Test.YtfeecfdbncjmnaaDoorFaF
import Derived.Test.YtfeecfdbncjmnaaDoorVmLaid
import Derived.Lib.ConvBytes
namespace Go.Proofs.YtfeecfdbncjmnaaDoor.Fm
set_option maxRecDepth 20000
open Go.RowKit Vm
set_option linter.unusedVariables false
set_option linter.unusedSimpArgs false

/-- What Put answers. -/
def puS (f : Frm) (rs : List (Nat × Nat)) : List UInt8 := if mayF f.kind.toNat f (ints rs) = true then putL f rs else []
def puE (f : Frm) (rs : List (Nat × Nat)) : Int := if mayF f.kind.toNat f (ints rs) = true then 0 else 1
theorem pute_any (f : Frm) (rs : List (Nat × Nat)) (w : World) (ht : Tab w) (hF : Fit w f.kind.toNat f rs) :
    Calls Tryd.prog 14 #[.agg #[.int .u64 f.kind, .int .u64 f.id, .int .u64 f.off, .int .u64 f.max, .int .u64 f.code, .int .u64 f.seq, .int .u64 f.prior, .int .u64 f.delay, .bool f.fin, .string ⟨f.data.toArray⟩, .string ⟨f.cid.toArray⟩, .string ⟨f.token.toArray⟩, .slice f.set.a f.set.n f.set.c]] w fun e w' => e = .returned (.tuple #[.string ⟨(puS f rs).toArray⟩, .int .i64 (puE f rs)]) ∧ Below w.heap.size w w' := by
  unfold puS puE
  by_cases h : mayF f.kind.toNat f (ints rs) = true
  · rw [if_pos h, if_pos h]; exact put_yes f.kind.toNat f rs w ht hF h
  · rw [if_neg h, if_neg h]; exact put_no f.kind.toNat f rs w hF (by simpa using h)
/-- A frame of the row, what stands ahead of it. -/
structure Seg where
  z : Nat
  f : Frm
  rs : List (Nat × Nat)
def zer (n : Nat) : List UInt8 := List.replicate n 0
def segB : List Seg → List UInt8
  | [] => []
  | s :: t => zer s.z ++ (putL s.f s.rs ++ segB t)
theorem segB_app (a b : List Seg) : segB (a ++ b) = segB a ++ segB b := by
  induction a with
  | nil => rfl
  | cons s t ih => simp [segB, ih]
/-- A frame that the law takes. -/
structure SegOk (s : Seg) : Prop where
  kind : s.f.kind = ((s.f.kind.toNat : Nat) : Int)
  n : s.f.set.n = s.rs.length
  pos : ∀ j, j < 7 → 0 ≤ nm s.f j
  data : s.f.data.length ≤ 1000000
  may : mayF s.f.kind.toNat s.f (ints s.rs) = true
  k0 : s.f.kind ≠ 0
theorem get_zero (s : List UInt8) : getN (0 :: s) = some ({ frZ with kind := 0 }, [], s) := by
  have h : frmN (0 :: s) = some ({ frZ with kind := 0 }, [], s) := by
    rw [frmN_cons, if_pos (show toldB (UInt8.toNat 0) = true from rfl), if_neg (show ¬ (toldP (UInt8.toNat 0)).testBit 11 = true by decide)]
    rfl
  unfold getN
  rw [h]
  rfl
theorem allN_zero (k : Nat) (s : List UInt8) (acc : List (Frm × List (Nat × Nat))) (ha : acc.length ≤ 40) (hs : s ≠ []) : allN (k + 1) (0 :: s) acc = allN k s acc := by
  rw [allN, get_zero]
  simp only [if_true]
  rw [if_neg (by omega), if_neg hs]
theorem allN_zer (n : Nat) : ∀ (k : Nat) (s : List UInt8) (acc : List (Frm × List (Nat × Nat))), acc.length ≤ 40 → s ≠ [] → allN (k + n) (zer n ++ s) acc = allN k s acc := by
  induction n with
  | zero => intro k s acc _ _; rfl
  | succ n ih =>
    intro k s acc ha hs
    have e : zer (n + 1) ++ s = 0 :: (zer n ++ s) := by simp [zer, List.replicate_succ]
    rw [e, ← Nat.add_assoc, allN_zero _ _ _ ha (by simp [hs]), ih k s acc ha hs]
theorem segP_ne (s : Seg) (h : SegOk s) (t : List UInt8) : putL s.f s.rs ++ t ≠ [] := by
  intro e
  have h1 := get_back s.f.kind.toNat s.f s.rs t h.kind h.n h.pos h.data h.may
  rw [e] at h1
  cases h1
/-- What All tells of them. -/
theorem allN_segs : ∀ (L : List Seg) (k : Nat) (acc : List (Frm × List (Nat × Nat))), L ≠ [] → (∀ s ∈ L, SegOk s) → (segB L).length ≤ k → acc.length ≤ 40 →
    allN k (segB L) acc = if 40 < acc.length + L.length then none else some (acc ++ L.map (fun s => (cn s.f s.rs.length, s.rs)))
  | [], _, _, h, _, _, _ => absurd rfl h
  | s :: t, k, acc, _, hok, hk, ha => by
    have h := hok s (List.mem_cons_self ..)
    have hne := segP_ne s h (segB t)
    have hb := get_back s.f.kind.toNat s.f s.rs (segB t) h.kind h.n h.pos h.data h.may
    have hp : 0 < (putL s.f s.rs).length := by
      have := List.length_pos_iff.2 (segP_ne s h [])
      simpa using this
    have hlen : (segB (s :: t)).length = s.z + ((putL s.f s.rs).length + (segB t).length) := by simp [segB, zer]
    obtain ⟨j, rfl⟩ : ∃ j, k = (j + 1) + s.z := ⟨k - 1 - s.z, by omega⟩
    show allN (j + 1 + s.z) (zer s.z ++ (putL s.f s.rs ++ segB t)) acc = _
    rw [allN_zer _ _ _ _ ha hne, allN, hb]
    simp only
    have hk0 : (cn s.f s.rs.length).kind ≠ 0 := h.k0
    rw [if_neg hk0]
    have hal : (acc ++ [(cn s.f s.rs.length, s.rs)]).length = acc.length + 1 := by simp
    by_cases h40 : 40 < acc.length + 1
    · rw [if_pos (by rw [hal]; exact h40), if_pos (by rw [List.length_cons]; omega)]
    · rw [if_neg (by rw [hal]; exact h40)]
      by_cases ht : t = []
      · subst ht
        rw [if_pos (show segB [] = [] from rfl), if_neg (by simpa using h40)]
        rfl
      · have htn : segB t ≠ [] := by
          cases t with
          | nil => exact absurd rfl ht
          | cons s2 t2 =>
            intro e
            have h3 : (segB (s2 :: t2)).length = s2.z + ((putL s2.f s2.rs).length + (segB t2).length) := by simp [segB, zer]
            rw [e, List.length_nil] at h3
            have h2 := List.length_pos_iff.2 (segP_ne s2 (hok s2 (by simp)) (segB t2))
            rw [List.length_append] at h2
            omega
        rw [if_neg htn, allN_segs t j _ ht (fun x hx => hok x (List.mem_cons_of_mem _ hx)) (by omega) (by omega), hal, List.length_cons, List.map_cons, List.append_assoc]
        rw [show acc.length + 1 + t.length = acc.length + (t.length + 1) by omega]
        rfl
theorem zer_len (m : Nat) : (zer m).length = m := by simp [zer]
theorem fa_pt_16 (n : Nat) : (pt n).length ≤ 16 := by
  have h : (pt n).length = wd (pl n) := by unfold pt; rw [fx_length]
  rw [h]
  have := pl_cases n
  unfold wd
  have h2 : 2 ^ pl n ≤ 2 ^ 4 := Nat.pow_le_pow_right (by decide) (by omega)
  omega
theorem fa_ackQ_len : ∀ (l : List (Nat × Nat)) (lo : Nat), (ackQ lo l).length ≤ 32 * l.length
  | [], _ => Nat.le_refl _
  | p :: t, lo => by
    have h := fa_ackQ_len t p.1
    have h1 := fa_pt_16 (lo - p.2 - 2)
    have h2 := fa_pt_16 (p.2 - p.1)
    rw [ackQ, List.length_append, List.length_append, List.length_cons]
    omega
theorem fa_ackP_len (dl : Nat) (l : List (Nat × Nat)) : (ackP dl l).length ≤ 64 + 32 * l.length := by
  match l with
  | [] => simp [ackP]
  | p :: t =>
    have h := fa_ackQ_len t p.1
    have h1 := fa_pt_16 p.2
    have h2 := fa_pt_16 dl
    have h3 := fa_pt_16 t.length
    have h4 := fa_pt_16 (p.2 - p.1)
    rw [ackP, List.length_append, List.length_append, List.length_append, List.length_append, List.length_cons]
    omega
theorem fa_putL_len (f : Frm) (rs : List (Nat × Nat)) (h0 : ∀ j, j < 7 → 0 ≤ nm f j) (hr : rs.length ≤ 50) (hd : f.data.length ≤ 1300) (hc : f.cid.length ≤ 100) (ht : f.token.length ≤ 100) : (putL f rs).length ≤ 2100 := by
  unfold putL
  have h1 := fa_pt_16 (fstN f).toNat
  have h2 := fa_ackP_len f.delay.toNat rs.reverse
  have h3 := chN_len (toldP (fstN f).toNat) f 7
  have h4 := pcat_bound (chN (toldP (fstN f).toNat) f 7)
  have h5 : (txtL (toldP (fstN f).toNat) f).length ≤ 16 + 1 + 1300 + 100 + 100 := by
    have := fa_pt_16 f.data.length
    unfold txtL
    split <;> split <;> simp only [List.length_append, List.length_nil, List.length_singleton] <;> omega
  rw [List.length_reverse] at h2
  rw [List.length_append]
  split
  · omega
  · rw [List.length_append]; omega
theorem fa_conv_row (W : World) (l : List UInt8) (cap g : Nat) (h : ∀ (j : Nat) (hj : j < l.length), W.cell? ⟨g, j, none⟩ = some (.int .u8 (l[j].toNat : Int))) :
    (convert 48 9 (.slice (some ⟨g, 0, none⟩) l.length cap)).run Tryd.prog W = .ok (.string ⟨l.toArray⟩) W := by
  refine run_convert_bytes_back (P := Tryd.prog) W 48 9 5 _ cap l Tryd.underlying48 Tryd.underlying5 Tryd.underlying9 ?_
  intro j hj
  have e : (⟨g, 0, none⟩ : Addr).add j = ⟨g, j, none⟩ := by unfold Addr.add; split <;> simp_all
  rw [e, h j hj]
theorem fa_made_run (m : Nat) (hm : m ≤ 1000) (W : World) : (Instr.makeSlice 48 (.int .i64 (m : Nat)) (.int .i64 (m : Nat))).run Tryd.prog W = .ok (.slice (some ⟨W.heap.size, 0, none⟩) m m) (W.alloc (.cells (madeCells #[.int .u8 0] m) 5)) := by
  obtain ⟨i0, hi, hz0, hz1, hz2⟩ := info_parts Fw.infoB
  have h := run_makeSlice (P := Tryd.prog) W 48 5 i0 (.int .u8 0) Tryd.underlying48 hi hz0 .i64 .i64 (m : Nat) (m : Nat) (by omega) (by omega) (by rw [hz1]; omega) (by rw [hz2]; omega) (by omega)
  rw [h, hz1]
  simp only [Int.toNat_natCast, Nat.mul_one]
  rfl
theorem fa_conv_at (V : World) (m g : Nat) (h : V.heap[g]? = some (.cells (madeCells #[.int .u8 0] m) 5)) : (convert 48 9 (.slice (some ⟨g, 0, none⟩) m m)).run Tryd.prog V = .ok (.string ⟨(zer m).toArray⟩) V := by
  have := fa_conv_row V (zer m) m g (fun j hj => by
    have hj2 : j < m := by rwa [zer_len] at hj
    have e := congrArg (·[j]?) (toList_madeCells_one (.int .u8 0) m)
    simp only [List.getElem?_replicate, hj2, if_true, Array.getElem?_toList] at e
    rw [Lib.cell_of_heap h j, e]
    simp [zer])
  rwa [zer_len] at this
theorem segB_one (s : Seg) : segB [s] = zer s.z ++ putL s.f s.rs := by simp [segB]
theorem fcs_cells {W : World} {b o : Nat} {f : Frm} (h : ∀ j, j < 13 → W.cell? ⟨b, o + j, none⟩ = (fcs f)[j]?) : W.cell? ⟨b, o, none⟩ = some (.int .u64 f.kind) ∧ W.cell? ⟨b, o + 1, none⟩ = some (.int .u64 f.id) ∧ W.cell? ⟨b, o + 2, none⟩ = some (.int .u64 f.off) ∧ W.cell? ⟨b, o + 3, none⟩ = some (.int .u64 f.max) ∧ W.cell? ⟨b, o + 4, none⟩ = some (.int .u64 f.code) ∧ W.cell? ⟨b, o + 5, none⟩ = some (.int .u64 f.seq) ∧ W.cell? ⟨b, o + 6, none⟩ = some (.int .u64 f.prior) ∧ W.cell? ⟨b, o + 7, none⟩ = some (.int .u64 f.delay) ∧ W.cell? ⟨b, o + 8, none⟩ = some (.bool f.fin) ∧ W.cell? ⟨b, o + 9, none⟩ = some (.string ⟨f.data.toArray⟩) ∧ W.cell? ⟨b, o + 10, none⟩ = some (.string ⟨f.cid.toArray⟩) ∧ W.cell? ⟨b, o + 11, none⟩ = some (.string ⟨f.token.toArray⟩) ∧ W.cell? ⟨b, o + 12, none⟩ = some (.slice f.set.a f.set.n f.set.c) :=
  ⟨h 0 (by decide), h 1 (by decide), h 2 (by decide), h 3 (by decide), h 4 (by decide), h 5 (by decide), h 6 (by decide), h 7 (by decide), h 8 (by decide), h 9 (by decide), h 10 (by decide), h 11 (by decide), h 12 (by decide)⟩
/-- A caller's row of bytes. -/
def PadF (W : World) (pa : Option Addr) (pn : Nat) : Prop := ∀ i, i < pn → ∃ b o v, pa = some ⟨b, o, none⟩ ∧ 0 ≤ v ∧ v ≤ 255 ∧ b < W.heap.size ∧ W.cell? ⟨b, o + i, none⟩ = some (.int .u8 v)
theorem pad_of {W : World} {a : Option Addr} {n cap : Nat} {zs : List Int} (h : IsRow .u8 W a n cap zs) : PadF W a n := by
  rcases h with ⟨_, h0, _⟩ | ⟨x, hx, hn, _, hl, hc, hw⟩
  · intro i hi; omega
  · intro i hi
    have h1 := hc i (by omega)
    have h2 := hw (zs.getD i 0) (by rw [List.getD_eq_getElem?_getD, List.getElem?_eq_getElem (by omega)]; exact List.getElem_mem _)
    have hx2 : x = ⟨x.block, x.off, none⟩ := by
      have h0 := hc 0 (by omega)
      have := plain_addr h0
      unfold Addr.add at this
      obtain ⟨b, o, s⟩ := x
      cases s with
      | none => rfl
      | some s => simp at this
    have hb := bounds_u8 h2
    rw [hx2, Addr.add_lit] at h1
    exact ⟨x.block, x.off, zs.getD i 0, by rw [hx, ← hx2], hb.1, hb.2, by have := World.block_lt_of_cell? _ _ h1; exact this, h1⟩
end Go.Proofs.YtfeecfdbncjmnaaDoor.Fm
