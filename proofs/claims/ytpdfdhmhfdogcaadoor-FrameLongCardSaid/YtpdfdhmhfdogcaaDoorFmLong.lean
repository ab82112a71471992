/- Layer 6: the law FrameLong, walked. By tools/gen-frame-24.py. -/
import Derived.Test.YtpdfdhmhfdogcaaDoorFmLw
import Derived.Lib.ConvBytes
import Derived.Deep.RegionWith
import Derived.Deep.CutRange
namespace Go.Proofs.YtpdfdhmhfdogcaaDoor.Fm
set_option maxRecDepth 20000
open Go.RowKit Vm
set_option linter.unusedVariables false
set_option linter.unusedSimpArgs false

theorem conv_row (W : World) (l : List UInt8) (cap g : Nat) (h : ∀ (j : Nat) (hj : j < l.length), W.cell? ⟨g, j, none⟩ = some (.int .u8 (l[j].toNat : Int))) :
    (convert 53 9 (.slice (some ⟨g, 0, none⟩) l.length cap)).run Tryd.prog W = .ok (.string ⟨l.toArray⟩) W := by
  refine run_convert_bytes_back (P := Tryd.prog) W 53 9 5 _ cap l Tryd.underlying53 Tryd.underlying5 Tryd.underlying9 ?_
  intro j hj
  have e : (⟨g, 0, none⟩ : Addr).add j = ⟨g, j, none⟩ := by unfold Addr.add; split <;> simp_all
  rw [e, h j hj]
theorem conv_1 (W : World) (k : Nat) (hk : k < 256) : (convert 53 9 (.slice (some ⟨W.heap.size, 0, none⟩) 1 1)).run Tryd.prog (W.alloc (.cells #[.int .u8 (k : Nat)] 5)) = .ok (.string ⟨#[UInt8.ofNat k]⟩) (W.alloc (.cells #[.int .u8 (k : Nat)] 5)) := by
  refine conv_row _ [UInt8.ofNat k] 1 W.heap.size (fun j hj => ?_)
  have h := World.alloc_heap_new W (.cells #[.int .u8 (k : Nat)] 5)
  have e2 : (UInt8.ofNat k).toNat = k := by rw [UInt8.toNat_ofNat']; omega
  have hj2 : j = 0 := by simp at hj; omega
  subst hj2
  rw [Lib.cell_of_heap h 0]; simp [e2]
def zs (m : Nat) : List UInt8 := List.replicate m 0
theorem zs_len (m : Nat) : (zs m).length = m := by simp [zs]
theorem pt_1b (q : Nat) (hq : q < 64) : pt q = [UInt8.ofNat q] := by
  have hpl : pl q = 0 := by unfold pl; rw [if_pos hq]
  unfold pt
  rw [hpl]
  simp [wd, fx]
  rw [Nat.mod_eq_of_lt (show q < 256 by omega)]
def lgF (m : Nat) : Frm := { frZ with kind := 6, data := zs m }
theorem lg_nm (m j : Nat) : 0 ≤ nm (lgF m) j ∧ nm (lgF m) j ≤ 4611686018427387903 := by
  unfold nm lgF frZ
  split <;> exact ⟨Int.le_refl 0, show (0 : Int) ≤ 4611686018427387903 by decide⟩
theorem lg_may (m : Nat) (hm : m ≤ 63) : mayF 6 (lgF m) [] = true := by
  have h0 : filN (lgF m) &&& 130 = filN (lgF m) := by
    have e : filN (lgF m) = if zs m = [] then 0 else 128 := by
      unfold filN
      simp only [fT, fN, txF, nm, lgF, frZ]
      by_cases h1 : zs m = [] <;> simp [h1]
    rw [e]
    split <;> decide
  unfold mayF
  rw [show (partsN 6).getD 0 = 130 from rfl, decide_eq_true h0]
  have h1 : numB (lgF m) = true := by
    unfold numB
    rw [List.all_eq_true]
    intro j hj
    exact decide_eq_true (lg_nm m j).2
  have h2 : kndB (lgF m) [] = true := by
    have : kndB (lgF m) [] = (decide ((zs m).length ≤ 1200) && decide ((0 : Int) + (zs m).length ≤ 4611686018427387903)) := rfl
    rw [this, zs_len, decide_eq_true (by omega), decide_eq_true (by omega)]
    rfl
  unfold bndB
  rw [h1, h2]
  rfl
theorem lg_put (m : Nat) (hm : m ≤ 63) : putL (lgF m) [] = 6 :: 0 :: UInt8.ofNat m :: zs m := by
  have e1 : (fstN (lgF m)).toNat = 6 := rfl
  unfold putL
  rw [e1, show toldP 6 = 130 from rfl, if_neg (by decide), show chN 130 (lgF m) 7 = [0] from rfl, pcat_1]
  unfold txtL
  rw [show (lgF m).data = zs m from rfl, zs_len, pt_1b m (by omega)]
  rw [if_pos (by decide), if_neg (by decide), show ((0 : Int)).toNat = 0 from rfl, pt_1b 6 (by decide), pt_1b 0 (by decide)]
  simp [lgF, frZ]
theorem lg_get (m : Nat) (hm : m ≤ 63) : getN (6 :: 0 :: UInt8.ofNat m :: zs m) = some (lgF m, [], []) := by
  have h := get_back 6 (lgF m) [] [] rfl rfl (fun j _ => (lg_nm m j).1) (by show (zs m).length ≤ 1000000; rw [zs_len]; omega) (lg_may m hm)
  rw [lg_put m hm, List.append_nil] at h
  exact h
theorem lg_none (m : Nat) (hm : m ≤ 62) : getN (6 :: 0 :: UInt8.ofNat (1 + m) :: zs m) = none := by
  have hf : frmN (6 :: 0 :: UInt8.ofNat (1 + m) :: zs m) = none := by
    rw [frmN_cons, if_pos (by decide), if_neg (by decide)]
    unfold plainN
    rw [show toldP (UInt8.toNat 6) = 130 from rfl, show toldK (UInt8.toNat 6) = 6 from rfl]
    have h1 := nums_back (lgF m) { frZ with kind := 6 } 130 (fun j _ => lg_nm m j) 7 (by decide) (UInt8.ofNat (1 + m) :: zs m)
    rw [show chN 130 (lgF m) 7 = [0] from rfl, pcat_1, show ((0 : Int)).toNat = 0 from rfl, pt_1b 0 (by decide)] at h1
    have h2 : numsN 130 (0 :: UInt8.ofNat (1 + m) :: zs m) { frZ with kind := ((6 : Nat) : Int) } 7 = some (UInt8.ofNat (1 + m) :: zs m, stTo (lgF m) { frZ with kind := 6 } 130 7) := h1
    rw [h2]
    simp only
    unfold textsN
    rw [if_pos (by decide)]
    obtain ⟨v1, v2, v3⟩ := vt_some (show vt (UInt8.ofNat (1 + m) :: zs m) = some (1 + m, zs m) by
      have := vt_pt (1 + m) (by omega) (zs m)
      rwa [pt_1b (1 + m) (by omega)] at this)
    rw [v2, v3, if_neg (by rw [zs_len]; omega)]
  unfold getN
  rw [hf]
theorem lg_64 (t : List UInt8) : getN (64 :: t) = none := by
  unfold getN
  rw [frmN_cons, if_neg (by decide)]
theorem made_run (m : Nat) (hm : m ≤ 1000) (W : World) : (Instr.makeSlice 53 (.int .i64 (m : Nat)) (.int .i64 (m : Nat))).run Tryd.prog W = .ok (.slice (some ⟨W.heap.size, 0, none⟩) m m) (W.alloc (.cells (madeCells #[.int .u8 0] m) 5)) := by
  obtain ⟨i0, hi, hz0, hz1, hz2⟩ := info_parts Fw.infoB
  have h := run_makeSlice (P := Tryd.prog) W 53 5 i0 (.int .u8 0) Tryd.underlying53 hi hz0 .i64 .i64 (m : Nat) (m : Nat) (by omega) (by omega) (by rw [hz1]; omega) (by rw [hz2]; omega) (by omega)
  rw [h, hz1]
  simp only [Int.toNat_natCast, Nat.mul_one]
  rfl
theorem conv_at (V : World) (m g : Nat) (h : V.heap[g]? = some (.cells (madeCells #[.int .u8 0] m) 5)) : (convert 53 9 (.slice (some ⟨g, 0, none⟩) m m)).run Tryd.prog V = .ok (.string ⟨(zs m).toArray⟩) V := by
  have := conv_row V (zs m) m g (fun j hj => by
    have hj2 : j < m := by rwa [zs_len] at hj
    have e := congrArg (·[j]?) (toList_madeCells_one (.int .u8 0) m)
    simp only [List.getElem?_replicate, hj2, if_true, Array.getElem?_toList] at e
    rw [Lib.cell_of_heap h j, e]
    simp [zs])
  rwa [zs_len] at this
theorem conv_at1 (V : World) (X : Int) (c : UInt8) (g : Nat) (hx : (c.toNat : Int) = X) (h : V.heap[g]? = some (.cells #[.int .u8 X] 5)) : (convert 53 9 (.slice (some ⟨g, 0, none⟩) 1 1)).run Tryd.prog V = .ok (.string ⟨#[c]⟩) V := by
  refine conv_row V [c] 1 g (fun j hj => ?_)
  have hj2 : j = 0 := by simp at hj; omega
  subst hj2
  rw [Lib.cell_of_heap h 0]; simp [hx]
/-- What the conversions of a region answer, in whatever order they come. -/
structure Cvs (W : World) (m : Nat) (X : Int) (c : UInt8) : Prop where
  z0 : (convert 53 9 (.slice (some ⟨W.heap.size, 0, none⟩) m m)).run Tryd.prog (W.alloc (.cells (madeCells #[.int .u8 0] m) 5)).drew = .ok (.string ⟨(zs m).toArray⟩) (W.alloc (.cells (madeCells #[.int .u8 0] m) 5)).drew
  z1 : ∀ a, (convert 53 9 (.slice (some ⟨W.heap.size, 0, none⟩) m m)).run Tryd.prog ((W.alloc (.cells (madeCells #[.int .u8 0] m) 5)).alloc a).drew = .ok (.string ⟨(zs m).toArray⟩) ((W.alloc (.cells (madeCells #[.int .u8 0] m) 5)).alloc a).drew
  z2 : ∀ a, (convert 53 9 (.slice (some ⟨W.heap.size + 1, 0, none⟩) m m)).run Tryd.prog ((W.alloc a).alloc (.cells (madeCells #[.int .u8 0] m) 5)).drew = .ok (.string ⟨(zs m).toArray⟩) ((W.alloc a).alloc (.cells (madeCells #[.int .u8 0] m) 5)).drew
  z3 : ∀ a b, (convert 53 9 (.slice (some ⟨W.heap.size, 0, none⟩) m m)).run Tryd.prog (((W.alloc (.cells (madeCells #[.int .u8 0] m) 5)).alloc a).alloc b).drew = .ok (.string ⟨(zs m).toArray⟩) (((W.alloc (.cells (madeCells #[.int .u8 0] m) 5)).alloc a).alloc b).drew
  z4 : ∀ a b, (convert 53 9 (.slice (some ⟨W.heap.size + 1, 0, none⟩) m m)).run Tryd.prog (((W.alloc a).alloc (.cells (madeCells #[.int .u8 0] m) 5)).alloc b).drew = .ok (.string ⟨(zs m).toArray⟩) (((W.alloc a).alloc (.cells (madeCells #[.int .u8 0] m) 5)).alloc b).drew
  z5 : ∀ a b, (convert 53 9 (.slice (some ⟨W.heap.size + 1 + 1, 0, none⟩) m m)).run Tryd.prog (((W.alloc a).alloc b).alloc (.cells (madeCells #[.int .u8 0] m) 5)).drew = .ok (.string ⟨(zs m).toArray⟩) (((W.alloc a).alloc b).alloc (.cells (madeCells #[.int .u8 0] m) 5)).drew
  x0 : (convert 53 9 (.slice (some ⟨W.heap.size, 0, none⟩) 1 1)).run Tryd.prog (W.alloc (.cells #[.int .u8 X] 5)).drew = .ok (.string ⟨#[c]⟩) (W.alloc (.cells #[.int .u8 X] 5)).drew
  x1 : ∀ a, (convert 53 9 (.slice (some ⟨W.heap.size, 0, none⟩) 1 1)).run Tryd.prog ((W.alloc (.cells #[.int .u8 X] 5)).alloc a).drew = .ok (.string ⟨#[c]⟩) ((W.alloc (.cells #[.int .u8 X] 5)).alloc a).drew
  x2 : ∀ a, (convert 53 9 (.slice (some ⟨W.heap.size + 1, 0, none⟩) 1 1)).run Tryd.prog ((W.alloc a).alloc (.cells #[.int .u8 X] 5)).drew = .ok (.string ⟨#[c]⟩) ((W.alloc a).alloc (.cells #[.int .u8 X] 5)).drew
  x3 : ∀ a b, (convert 53 9 (.slice (some ⟨W.heap.size, 0, none⟩) 1 1)).run Tryd.prog (((W.alloc (.cells #[.int .u8 X] 5)).alloc a).alloc b).drew = .ok (.string ⟨#[c]⟩) (((W.alloc (.cells #[.int .u8 X] 5)).alloc a).alloc b).drew
  x4 : ∀ a b, (convert 53 9 (.slice (some ⟨W.heap.size + 1, 0, none⟩) 1 1)).run Tryd.prog (((W.alloc a).alloc (.cells #[.int .u8 X] 5)).alloc b).drew = .ok (.string ⟨#[c]⟩) (((W.alloc a).alloc (.cells #[.int .u8 X] 5)).alloc b).drew
  x5 : ∀ a b, (convert 53 9 (.slice (some ⟨W.heap.size + 1 + 1, 0, none⟩) 1 1)).run Tryd.prog (((W.alloc a).alloc b).alloc (.cells #[.int .u8 X] 5)).drew = .ok (.string ⟨#[c]⟩) (((W.alloc a).alloc b).alloc (.cells #[.int .u8 X] 5)).drew
theorem second_new (W : World) (a b : Obj) : ((W.alloc a).alloc b).heap[W.heap.size + 1]? = some b := by
  have := World.alloc_heap_new (W.alloc a) b
  rwa [World.size_alloc] at this
theorem first_new (W : World) (a b : Obj) : ((W.alloc a).alloc b).heap[W.heap.size]? = some a := (Below.heap_alloc _ _ _ (by simp)).trans (World.alloc_heap_new W a)
theorem third_0 (W : World) (a b c : Obj) : (((W.alloc a).alloc b).alloc c).heap[W.heap.size]? = some a := (Below.heap_alloc _ _ _ (by simp; omega)).trans (first_new W a b)
theorem third_1 (W : World) (a b c : Obj) : (((W.alloc a).alloc b).alloc c).heap[W.heap.size + 1]? = some b := (Below.heap_alloc _ _ _ (by simp)).trans (second_new W a b)
theorem third_2 (W : World) (a b c : Obj) : (((W.alloc a).alloc b).alloc c).heap[W.heap.size + 1 + 1]? = some c := by
  have := World.alloc_heap_new ((W.alloc a).alloc b) c
  rwa [World.size_alloc, World.size_alloc] at this
theorem cvs (W : World) (m : Nat) (X : Int) (c : UInt8) (hx : (c.toNat : Int) = X) : Cvs W m X c :=
  ⟨conv_at (W.alloc _).drew m _ (World.alloc_heap_new W _),
   fun a => conv_at ((W.alloc _).alloc _).drew m _ (first_new W _ _),
   fun a => conv_at ((W.alloc _).alloc _).drew m _ (second_new W _ _),
   fun a b => conv_at (((W.alloc _).alloc _).alloc _).drew m _ (third_0 W _ _ _),
   fun a b => conv_at (((W.alloc _).alloc _).alloc _).drew m _ (third_1 W _ _ _),
   fun a b => conv_at (((W.alloc _).alloc _).alloc _).drew m _ (third_2 W _ _ _),
   conv_at1 (W.alloc _).drew X c _ hx (World.alloc_heap_new W _),
   fun a => conv_at1 ((W.alloc _).alloc _).drew X c _ hx (first_new W _ _),
   fun a => conv_at1 ((W.alloc _).alloc _).drew X c _ hx (second_new W _ _),
   fun a b => conv_at1 (((W.alloc _).alloc _).alloc _).drew X c _ hx (third_0 W _ _ _),
   fun a b => conv_at1 (((W.alloc _).alloc _).alloc _).drew X c _ hx (third_1 W _ _ _),
   fun a b => conv_at1 (((W.alloc _).alloc _).alloc _).drew X c _ hx (third_2 W _ _ _)⟩
/-- What is held may be more from some point on. -/
theorem strong {P : Program} {md : Region.Mode} {ops : Array Oper} {Q : Exit → Act → World → Prop} {S S' : World → Prop} (h : ∀ w, S' w → S w) : ∀ (fuel : Nat) (listed : Array Bool) (a : Act) (w : World), wpAnyH P md ops Q S' fuel listed a w → wpAnyH P md ops Q S fuel listed a w
  | 0, _, _, _, x => x
  | fuel + 1, _, _, _, x => ⟨x.1, fun i hi => wpOp_mono (fun a' w' h' => ⟨h _ h'.1, strong h fuel _ a' w' h'.2⟩) (x.2 i hi)⟩
/-- A world behind w, and what of the three objects is there: the byte's block, the row of zeros, the frame's box. -/
structure LS (w : World) (X : Int) (m : Nat) (oa ob ox : Option Nat) (W : World) : Prop where
  bel : Below w.heap.size w W
  a : ∀ g, oa = some g → W.heap[g]? = some (.cells #[.int .u8 X] 5) ∧ ox ≠ some g
  b : ∀ g, ob = some g → W.heap[g]? = some (.cells (madeCells #[.int .u8 0] m) 5) ∧ ox ≠ some g
  x : ∀ g, ox = some g → w.heap.size ≤ g ∧ ∃ F, FrB g F W
theorem LS.start {w W : World} {X : Int} {m : Nat} (h : Below w.heap.size w W) : LS w X m none none none W := ⟨h, fun _ e => (by cases e), fun _ e => (by cases e), fun _ e => by cases e⟩
theorem LS.low {w W : World} {X : Int} {m : Nat} {oa ob ox : Option Nat} (h : LS w X m oa ob ox W) : (∀ g, oa = some g → g < W.heap.size) ∧ (∀ g, ob = some g → g < W.heap.size) ∧ (∀ g, ox = some g → g < W.heap.size) :=
  ⟨fun g e => (Array.getElem?_eq_some_iff.1 (h.a g e).1).1, fun g e => (Array.getElem?_eq_some_iff.1 (h.b g e).1).1, fun g e => (h.x g e).2.elim fun _ h => h.lt⟩
theorem LS.go {w W W' : World} {X : Int} {m : Nat} {oa ob ox : Option Nat} (h : LS w X m oa ob ox W) (hb : Below W.heap.size W W') : LS w X m oa ob ox W' := by
  obtain ⟨l1, l2, l3⟩ := h.low
  refine ⟨h.bel.trans (hb.mono h.bel.size), fun g e => ⟨(hb.block g (l1 g e)).trans (h.a g e).1, (h.a g e).2⟩, fun g e => ⟨(hb.block g (l2 g e)).trans (h.b g e).1, (h.b g e).2⟩, fun g e => ⟨(h.x g e).1, ?_⟩⟩
  obtain ⟨F, hF⟩ := (h.x g e).2
  exact ⟨F, hF.keep hb⟩
theorem ne_top {o : Option Nat} {n : Nat} (h : ∀ g, o = some g → g < n) : o ≠ some n := fun e => Nat.lt_irrefl _ (h n e)
theorem LS.mka {w W : World} {X : Int} {m : Nat} {ob ox : Option Nat} (h : LS w X m none ob ox W) : LS w X m (some W.heap.size) ob ox (W.alloc (.cells #[.int .u8 X] 5)) := by
  have h2 := h.go ((Below.refl _ _).alloc (Nat.le_refl _) (.cells #[.int .u8 X] 5))
  exact ⟨h2.bel, fun g e => by cases e; exact ⟨World.alloc_heap_new W _, ne_top h.low.2.2⟩, h2.b, h2.x⟩
theorem LS.mkb {w W : World} {X : Int} {m : Nat} {oa ox : Option Nat} (h : LS w X m oa none ox W) : LS w X m oa (some W.heap.size) ox (W.alloc (.cells (madeCells #[.int .u8 0] m) 5)) := by
  have h2 := h.go ((Below.refl _ _).alloc (Nat.le_refl _) (.cells (madeCells #[.int .u8 0] m) 5))
  exact ⟨h2.bel, h2.a, fun g e => by cases e; exact ⟨World.alloc_heap_new W _, ne_top h.low.2.2⟩, h2.x⟩
theorem LS.mkx {w W : World} {X : Int} {m : Nat} {oa ob : Option Nat} (h : LS w X m oa ob none W) : LS w X m oa ob (some W.heap.size) (W.alloc (.cells #[.int .u64 0, .int .u64 0, .int .u64 0, .int .u64 0, .int .u64 0, .int .u64 0, .int .u64 0, .int .u64 0, .bool false, .string ⟨#[]⟩, .string ⟨#[]⟩, .string ⟨#[]⟩, .slice none 0 0] 26)) := by
  have h2 := h.go ((Below.refl _ _).alloc (Nat.le_refl _) (.cells #[.int .u64 0, .int .u64 0, .int .u64 0, .int .u64 0, .int .u64 0, .int .u64 0, .int .u64 0, .int .u64 0, .bool false, .string ⟨#[]⟩, .string ⟨#[]⟩, .string ⟨#[]⟩, .slice none 0 0] 26))
  exact ⟨h2.bel, fun g e => ⟨(h2.a g e).1, fun e2 => by cases e2; exact ne_top h.low.1 e⟩, fun g e => ⟨(h2.b g e).1, fun e2 => by cases e2; exact ne_top h.low.2.1 e⟩, fun g e => by cases e; exact ⟨h.bel.size, frZ, World.alloc_heap_new W _⟩⟩
theorem LS.noa {w W : World} {X : Int} {m : Nat} {g : Nat} {ob ox : Option Nat} (h : LS w X m (some g) ob ox W) : LS w X m none ob ox W := ⟨h.bel, fun _ e => (by cases e), h.b, h.x⟩
theorem LS.nob {w W : World} {X : Int} {m : Nat} {g : Nat} {oa ox : Option Nat} (h : LS w X m oa (some g) ox W) : LS w X m oa none ox W := ⟨h.bel, h.a, fun _ e => (by cases e), h.x⟩
theorem LS.nox {w W : World} {X : Int} {m : Nat} {g : Nat} {oa ob : Option Nat} (h : LS w X m oa ob (some g) W) : LS w X m oa ob none W := ⟨h.bel, fun g e => ⟨(h.a g e).1, fun e => (by cases e)⟩, fun g e => ⟨(h.b g e).1, fun e => by cases e⟩, fun _ e => by cases e⟩
theorem LS.put {w W : World} {X : Int} {m : Nat} {oa ob : Option Nat} {g : Nat} (h : LS w X m oa ob (some g) W) (F : Frm) : LS w X m oa ob (some g) (rstF g F W) ∧ FrB g F (rstF g F W) := by
  obtain ⟨hg, F0, hF⟩ := h.x g rfl
  have ho := rstF_only g F W
  have hb := ho.below (n := w.heap.size) h.bel.size (fun k hk => by omega)
  refine ⟨⟨h.bel.trans hb, fun q e => ⟨ho.heap (h.a q e).1 (fun e2 => (h.a q e).2 (by rw [e2])), (h.a q e).2⟩, fun q e => ⟨ho.heap (h.b q e).1 (fun e2 => (h.b q e).2 (by rw [e2])), (h.b q e).2⟩, fun q e => by cases e; exact ⟨hg, F, rstF_frb hF F⟩⟩, rstF_frb hF F⟩
set_option maxRecDepth 100000 in
set_option maxHeartbeats 16000000 in
theorem long_any (k n : Nat) (w : World) (ht : Tab w) (hk : k < 256) (hn : n < 256) :
    Calls Tryd.prog 6 #[.int .u8 (k : Nat), .int .u8 (n : Nat)] w fun e w' => e = .returned (.bool true) ∧ Below w.heap.size w w' := by
  obtain ⟨q, hq⟩ : ∃ q, k % 64 = q := ⟨_, rfl⟩
  obtain ⟨m, hm⟩ : ∃ m, n % 63 = m := ⟨_, rfl⟩
  have hqm : (k : Int) % 64 = (q : Int) := by omega
  have hmm : (n : Int) % 63 = (m : Int) := by omega
  have hk0 : (0 : Int) ≤ (k : Int) := by omega
  have hn0 : (0 : Int) ≤ (n : Int) := by omega
  have hk1 : (k : Int) ≤ 255 := by omega
  have hn1 : (n : Int) ≤ 255 := by omega
  have m0 : (0 : Int) ≤ (m : Int) := by omega
  have m1 : (m : Int) ≤ 62 := by omega
  have hmt : (n : Int).tmod 63 = (m : Int) := by rw [Int.tmod_eq_emod_of_nonneg (by omega)]; omega
  have hw1 : IntKind.u8.wrap (1 + (m : Int)) = 1 + (m : Int) := by rw [IntKind.wrap_u8]; omega
  have HCV := conv_1 w q (by omega)
  have HMK := made_run m (by omega)
  have HMK40 : (Instr.makeSlice 53 (.int .i64 40) (.int .i64 40)).run Tryd.prog (w.alloc (.cells #[.int .u8 (q : Nat)] 5)) = .ok (.slice (some ⟨w.heap.size + 1, 0, none⟩) 40 40) ((w.alloc (.cells #[.int .u8 (q : Nat)] 5)).alloc (.cells (madeCells #[.int .u8 0] 40) 5)) := by
    have h := made_run 40 (by omega) (w.alloc (.cells #[.int .u8 (q : Nat)] 5))
    rw [World.size_alloc] at h
    exact h
  have HCV40 := conv_at ((w.alloc (.cells #[.int .u8 (q : Nat)] 5)).alloc (.cells (madeCells #[.int .u8 0] 40) 5)) 40 (w.heap.size + 1) (second_new w _ _)
  have hc1 : (⟨#[64]⟩ : ByteArray) ++ ⟨#[UInt8.ofNat q]⟩ = ⟨#[64, UInt8.ofNat q]⟩ := by apply ByteArray.ext; simp
  have hc2 : (⟨#[64, UInt8.ofNat q]⟩ : ByteArray) ++ ⟨(zs 40).toArray⟩ = ⟨(64 :: UInt8.ofNat q :: zs 40).toArray⟩ := by apply ByteArray.ext; simp
  have hc3 : (⟨#[6, 0]⟩ : ByteArray) ++ ⟨#[UInt8.ofNat (1 + m)]⟩ = ⟨#[6, 0, UInt8.ofNat (1 + m)]⟩ := by apply ByteArray.ext; simp
  have hc4 : (⟨#[6, 0, UInt8.ofNat (1 + m)]⟩ : ByteArray) ++ ⟨(zs m).toArray⟩ = ⟨(6 :: 0 :: UInt8.ofNat (1 + m) :: zs m).toArray⟩ := by apply ByteArray.ext; simp
  have hc5 : (⟨#[6, 0]⟩ : ByteArray) ++ ⟨#[UInt8.ofNat m]⟩ = ⟨#[6, 0, UInt8.ofNat m]⟩ := by apply ByteArray.ext; simp
  have hc6 : (⟨#[6, 0, UInt8.ofNat m]⟩ : ByteArray) ++ ⟨(zs m).toArray⟩ = ⟨(6 :: 0 :: UInt8.ofNat m :: zs m).toArray⟩ := by apply ByteArray.ext; simp
  have hzl : ((zs m).length : Int) = (m : Int) := by rw [zs_len]
  have hz40 : (zs 40).length = 40 := zs_len 40
  have hzl2 := zs_len m
  have ho1 : ¬ 9223372036854775807 < 3 + m := by omega
  have CS := Lib.hid (fun w ht => shown_any w ht)
  have CG1 : Hid (∀ W, Tab W → Calls Tryd.prog 16 #[.string ⟨(64 :: UInt8.ofNat q :: zs 40).toArray⟩] W fun e w' => Below W.heap.size W w' ∧ e = .returned (.tuple #[.agg #[.int .u64 0, .int .u64 0, .int .u64 0, .int .u64 0, .int .u64 0, .int .u64 0, .int .u64 0, .int .u64 0, .bool false, .string ⟨#[]⟩, .string ⟨#[]⟩, .string ⟨#[]⟩, .slice none 0 0], .string ⟨#[]⟩, .int .i64 60])) := Lib.hid (fun W ht => by
    have h := get_any (64 :: UInt8.ofNat q :: zs 40) W ht (by simp [zs])
    rw [lg_64] at h
    exact h)
  have CG2 : Hid (∀ W, Tab W → Calls Tryd.prog 16 #[.string ⟨(6 :: 0 :: UInt8.ofNat (1 + m) :: zs m).toArray⟩] W fun e w' => Below W.heap.size W w' ∧ e = .returned (.tuple #[.agg #[.int .u64 0, .int .u64 0, .int .u64 0, .int .u64 0, .int .u64 0, .int .u64 0, .int .u64 0, .int .u64 0, .bool false, .string ⟨#[]⟩, .string ⟨#[]⟩, .string ⟨#[]⟩, .slice none 0 0], .string ⟨#[]⟩, .int .i64 60])) := Lib.hid (fun W ht => by
    have h := get_any (6 :: 0 :: UInt8.ofNat (1 + m) :: zs m) W ht (by simp [zs]; omega)
    rw [lg_none m (by omega)] at h
    exact h)
  have CG3 : Hid (∀ W, Tab W → Calls Tryd.prog 16 #[.string ⟨(6 :: 0 :: UInt8.ofNat m :: zs m).toArray⟩] W fun e w' => Below W.heap.size W w' ∧ ∃ (sa : Option Addr) (sc : Nat), e = .returned (.tuple #[.agg #[.int .u64 6, .int .u64 0, .int .u64 0, .int .u64 0, .int .u64 0, .int .u64 0, .int .u64 0, .int .u64 0, .bool false, .string ⟨(zs m).toArray⟩, .string ⟨#[]⟩, .string ⟨#[]⟩, .slice sa 0 sc], .string ⟨#[]⟩, .int .i64 0])) := Lib.hid (fun W ht => by
    have h := get_any (6 :: 0 :: UInt8.ofNat m :: zs m) W ht (by simp [zs]; omega)
    rw [lg_get m (by omega)] at h
    refine h.mono ?_
    rintro e w' ⟨h1, ⟨sa, sn, sc⟩, h2, h3, h4, h5⟩
    have h2 : sn = 0 := h2
    subst h2
    exact ⟨h1, sa, sc, h5⟩)
  have HT := Lib.hid ht
  have HB1 : Hid (Below w.heap.size w ((w.alloc (.cells #[.int .u8 (q : Nat)] 5)).alloc (.cells (madeCells #[.int .u8 0] 40) 5))) := Lib.hid (((Below.refl _ _).alloc (Nat.le_refl _) _).alloc (by simp) _)
  have HT1 := Lib.hid (HT.out.below HB1.out HT.out.lt)
  have HX1 : Hid (((UInt8.ofNat (1 + m)).toNat : Int) = 1 + (m : Int)) := Lib.hid (by rw [UInt8.toNat_ofNat']; omega)
  have HX2 : Hid (((UInt8.ofNat m).toNat : Int) = (m : Int)) := Lib.hid (by rw [UInt8.toNat_ofNat']; omega)
  have hwm : IntKind.i64.wrap (m : Int) = (m : Int) := by rw [IntKind.wrap_i64]; omega
  clear hk hn hq hm ht
  generalize UInt8.ofNat (1 + m) = c1 at CG2 hc3 hc4 HX1
  go_enter Tryd.func6, Tryd.ntmps6
  go_wp2_with fail
  with_reducible refine (CG1.out _ HT1.out).mono ?_
  rintro e w2 ⟨hb, rfl⟩
  have HB2 := Lib.hid (HB1.out.trans (hb.mono HB1.out.size))
  have HB3 := Lib.hid (HB2.out.alloc HB2.out.size (.cells #[.int .u64 0, .int .u64 0, .int .u64 0, .int .u64 0, .int .u64 0, .int .u64 0, .int .u64 0, .int .u64 0, .bool false, .string ⟨#[]⟩, .string ⟨#[]⟩, .string ⟨#[]⟩, .slice none 0 0] 26))
  clear hb HCV HMK40 HCV40 hc1 hc2 hz40
  go_upto_region 3 with (fail)
  generalize w2.alloc (.cells #[.int .u64 0, .int .u64 0, .int .u64 0, .int .u64 0, .int .u64 0, .int .u64 0, .int .u64 0, .int .u64 0, .bool false, .string ⟨#[]⟩, .string ⟨#[]⟩, .string ⟨#[]⟩, .slice none 0 0] 26) = W3 at HB3 ⊢
  clear HB2
  go_cut [9, 10, 11] from 29 to 45 (fun v9 v10 v11 W => v11 = .int .i64 60 ∧ Below w.heap.size w W)
  case first =>
    refine wp_region_noPanic ?_
    refine wp_region_held_drew (S := LS w (1 + (m : Int)) m none none none) (by kernel_rfl) ?_ (fun hS => ?_)
    · exact LS.start (Below.drew HB3.out)
    generalize World.drew _ = WD at hS ⊢
    refine wpAnyH_take (i := 0) (v := ?_) rfl (by kernel_rfl) (by kernel_rfl) (by kernel_rfl) (fun _ _ _ h => h) (Or.inl ⟨by rfl, ?_⟩) (by assumption) ?_
    rotate_left
    · (intro V hSw; go_simp; (try with_reducible rfl))
    try simp only [Act.put, List.getElem_toArray, List.getElem_cons_zero, List.getElem_cons_succ, List.setIfInBounds_toArray, List.set_cons_zero, List.set_cons_succ]
    refine wpAnyH_take (i := 1) (v := ?_) rfl (by kernel_rfl) (by kernel_rfl) (by kernel_rfl) (fun _ _ _ h => h) (Or.inl ⟨by rfl, ?_⟩) (by assumption) ?_
    rotate_left
    · (intro V hSw; go_simp; (try with_reducible rfl))
    try simp only [Act.put, List.getElem_toArray, List.getElem_cons_zero, List.getElem_cons_succ, List.setIfInBounds_toArray, List.set_cons_zero, List.set_cons_succ]
    refine wpAnyH_take (i := 2) (v := ?_) rfl (by kernel_rfl) (by kernel_rfl) (by kernel_rfl) (fun _ _ _ h => h) (Or.inl ⟨by rfl, ?_⟩) (by assumption) ?_
    rotate_left
    · (intro V hSw; go_simp; (try with_reducible rfl))
    try simp only [Act.put, List.getElem_toArray, List.getElem_cons_zero, List.getElem_cons_succ, List.setIfInBounds_toArray, List.set_cons_zero, List.set_cons_succ]
    refine wpAnyH_take (i := 6) (v := ?_) rfl (by kernel_rfl) (by kernel_rfl) (by kernel_rfl) (fun _ _ _ h => h) (Or.inl ⟨by rfl, ?_⟩) (by assumption) ?_
    rotate_left
    · (intro V hSw; go_simp; (try with_reducible rfl))
    try simp only [Act.put, List.getElem_toArray, List.getElem_cons_zero, List.getElem_cons_succ, List.setIfInBounds_toArray, List.set_cons_zero, List.set_cons_succ]
    refine wpAnyH_take (i := 7) (v := ?_) rfl (by kernel_rfl) (by kernel_rfl) (by kernel_rfl) (fun _ _ _ h => h) (Or.inl ⟨by rfl, ?_⟩) (by assumption) ?_
    rotate_left
    · (intro V hSw; go_simp; (try with_reducible rfl))
    try simp only [Act.put, List.getElem_toArray, List.getElem_cons_zero, List.getElem_cons_succ, List.setIfInBounds_toArray, List.set_cons_zero, List.set_cons_succ]
    refine wpAnyH_take (i := 8) (v := ?_) rfl (by kernel_rfl) (by kernel_rfl) (by kernel_rfl) (fun _ _ _ h => h) (Or.inl ⟨by rfl, ?_⟩) (by assumption) ?_
    rotate_left
    · (intro V hSw; go_simp; (try with_reducible rfl))
    try simp only [Act.put, List.getElem_toArray, List.getElem_cons_zero, List.getElem_cons_succ, List.setIfInBounds_toArray, List.set_cons_zero, List.set_cons_succ]
    refine wpAnyH_ready (rs := [3, 9, 17]) (by kernel_rfl) (by simp) ?_
    refine AllReadyH.cons rfl (fun K hK => ?_) (AllReadyH.cons rfl (fun K hK => ?_) (AllReadyH.cons rfl (fun K hK => ?_) AllReadyH.nil))
    · rw [if_pos (by rfl)]
      go_simp
      have hS2 := LS.mka hS
      refine hK.out _ _ (LS.noa hS2) (fun _ => ?_)
      clear hK K hS
      try simp only [Act.put, List.getElem_toArray, List.getElem_cons_zero, List.getElem_cons_succ, List.setIfInBounds_toArray, List.set_cons_zero, List.set_cons_succ]
      generalize World.alloc _ _ = W2 at hS2 ⊢
      generalize Array.size _ = g1 at hS2 ⊢
      refine strong (S' := LS w (1 + (m : Int)) m (some g1) none none) (fun _ h => LS.noa h) _ _ _ _ ?_
      have hS := hS2
      clear hS2
      refine wpAnyH_take (i := 4) (v := ?_) rfl (by kernel_rfl) (by kernel_rfl) (by kernel_rfl) (fun _ _ _ h => h) (Or.inl ⟨by rfl, ?_⟩) (by assumption) ?_
      rotate_left
      · (intro V hSw; have z := conv_at1 V (1 + (m : Int)) c1 g1 HX1.out (hSw.a g1 rfl).1; go_simp; (try with_reducible rfl))
      try simp only [Act.put, List.getElem_toArray, List.getElem_cons_zero, List.getElem_cons_succ, List.setIfInBounds_toArray, List.set_cons_zero, List.set_cons_succ]
      refine wpAnyH_take (i := 5) (v := ?_) rfl (by kernel_rfl) (by kernel_rfl) (by kernel_rfl) (fun _ _ _ h => h) (Or.inl ⟨by rfl, ?_⟩) (by assumption) ?_
      rotate_left
      · (intro V hSw; go_simp; (try with_reducible rfl))
      try simp only [Act.put, List.getElem_toArray, List.getElem_cons_zero, List.getElem_cons_succ, List.setIfInBounds_toArray, List.set_cons_zero, List.set_cons_succ]
      refine wpAnyH_ready (rs := [9, 17]) (by kernel_rfl) (by simp) ?_
      refine AllReadyH.cons rfl (fun K hK => ?_) (AllReadyH.cons rfl (fun K hK => ?_) AllReadyH.nil)
      · rw [if_pos (by rfl)]
        go_simp
        have hS2 := LS.mkb hS
        refine hK.out _ _ (LS.nob hS2) (fun _ => ?_)
        clear hK K hS
        try simp only [Act.put, List.getElem_toArray, List.getElem_cons_zero, List.getElem_cons_succ, List.setIfInBounds_toArray, List.set_cons_zero, List.set_cons_succ]
        generalize World.alloc _ _ = W2 at hS2 ⊢
        generalize Array.size _ = g2 at hS2 ⊢
        refine strong (S' := LS w (1 + (m : Int)) m (some g1) (some g2) none) (fun _ h => LS.nob h) _ _ _ _ ?_
        have hS := hS2
        clear hS2
        refine wpAnyH_take (i := 10) (v := ?_) rfl (by kernel_rfl) (by kernel_rfl) (by kernel_rfl) (fun _ _ _ h => h) (Or.inl ⟨by rfl, ?_⟩) (by assumption) ?_
        rotate_left
        · (intro V hSw; have z := conv_at V m g2 (hSw.b g2 rfl).1; go_simp; (try with_reducible rfl))
        try simp only [Act.put, List.getElem_toArray, List.getElem_cons_zero, List.getElem_cons_succ, List.setIfInBounds_toArray, List.set_cons_zero, List.set_cons_succ]
        refine wpAnyH_take (i := 11) (v := ?_) rfl (by kernel_rfl) (by kernel_rfl) (by kernel_rfl) (fun _ _ _ h => h) (Or.inl ⟨by rfl, ?_⟩) (by assumption) ?_
        rotate_left
        · (intro V hSw; go_simp; (try with_reducible rfl))
        try simp only [Act.put, List.getElem_toArray, List.getElem_cons_zero, List.getElem_cons_succ, List.setIfInBounds_toArray, List.set_cons_zero, List.set_cons_succ]
        refine wpAnyH_ready (rs := [12, 17]) (by kernel_rfl) (by simp) ?_
        refine AllReadyH.cons rfl (fun K hK => ?_) (AllReadyH.cons rfl (fun K hK => ?_) AllReadyH.nil)
        · rw [if_pos (by rfl)]
          go_simp
          with_reducible refine (CG2.out _ (HT.out.below hS.bel HT.out.lt)).mono ?_
          rintro e w4 ⟨hb, rfl⟩
          have hS2 := LS.go hS hb
          refine hK.out _ _ hS2 (fun _ => ?_)
          clear hK K hS hb
          try simp only [Act.put, List.getElem_toArray, List.getElem_cons_zero, List.getElem_cons_succ, List.setIfInBounds_toArray, List.set_cons_zero, List.set_cons_succ]
          have hS := hS2
          clear hS2
          refine wpAnyH_take (i := 13) (v := ?_) rfl (by kernel_rfl) (by kernel_rfl) (by kernel_rfl) (fun _ _ _ h => h) (Or.inl ⟨by rfl, ?_⟩) (by assumption) ?_
          rotate_left
          · (intro V hSw; go_simp; (try with_reducible rfl))
          try simp only [Act.put, List.getElem_toArray, List.getElem_cons_zero, List.getElem_cons_succ, List.setIfInBounds_toArray, List.set_cons_zero, List.set_cons_succ]
          refine wpAnyH_take (i := 14) (v := ?_) rfl (by kernel_rfl) (by kernel_rfl) (by kernel_rfl) (fun _ _ _ h => h) (Or.inl ⟨by rfl, ?_⟩) (by assumption) ?_
          rotate_left
          · (intro V hSw; go_simp; (try with_reducible rfl))
          try simp only [Act.put, List.getElem_toArray, List.getElem_cons_zero, List.getElem_cons_succ, List.setIfInBounds_toArray, List.set_cons_zero, List.set_cons_succ]
          refine wpAnyH_take (i := 15) (v := ?_) rfl (by kernel_rfl) (by kernel_rfl) (by kernel_rfl) (fun _ _ _ h => h) (Or.inl ⟨by rfl, ?_⟩) (by assumption) ?_
          rotate_left
          · (intro V hSw; go_simp; (try with_reducible rfl))
          try simp only [Act.put, List.getElem_toArray, List.getElem_cons_zero, List.getElem_cons_succ, List.setIfInBounds_toArray, List.set_cons_zero, List.set_cons_succ]
          refine wpAnyH_take (i := 16) (v := ?_) rfl (by kernel_rfl) (by kernel_rfl) (by kernel_rfl) (fun _ _ _ h => h) (Or.inl ⟨by rfl, ?_⟩) (by assumption) ?_
          rotate_left
          · (intro V hSw; go_simp; (try with_reducible rfl))
          try simp only [Act.put, List.getElem_toArray, List.getElem_cons_zero, List.getElem_cons_succ, List.setIfInBounds_toArray, List.set_cons_zero, List.set_cons_succ]
          refine wpAnyH_ready (rs := [17]) (by kernel_rfl) (by simp) ?_
          refine AllReadyH.cons rfl (fun K hK => ?_) AllReadyH.nil
          rw [if_pos (by rfl)]
          go_simp
          have hS2 := LS.mkx hS
          refine hK.out _ _ (LS.nox hS2) (fun _ => ?_)
          clear hK K hS
          try simp only [Act.put, List.getElem_toArray, List.getElem_cons_zero, List.getElem_cons_succ, List.setIfInBounds_toArray, List.set_cons_zero, List.set_cons_succ]
          generalize World.alloc _ _ = W2 at hS2 ⊢
          generalize Array.size _ = g3 at hS2 ⊢
          refine strong (S' := LS w (1 + (m : Int)) m (some g1) (some g2) (some g3)) (fun _ h => LS.nox h) _ _ _ _ ?_
          have hS := hS2
          clear hS2
          obtain ⟨hgx, F0, hF0⟩ := hS.x g3 rfl
          have y0 := hF0.cell0
          have y1 := hF0.cell1
          have y2 := hF0.cell2
          have y3 := hF0.cell3
          have y4 := hF0.cell4
          have y5 := hF0.cell5
          have y6 := hF0.cell6
          have y7 := hF0.cell7
          have y8 := hF0.cell8
          have y9 := hF0.cell9
          have y10 := hF0.cell10
          have y11 := hF0.cell11
          have y12 := hF0.cell12
          have yz := hF0.fz
          refine wpAnyH_ready (rs := [18]) (by kernel_rfl) (by simp) ?_
          refine AllReadyH.cons rfl (fun K hK => ?_) AllReadyH.nil
          rw [if_pos (by rfl)]
          go_simp
          obtain ⟨hS2, hF2⟩ := LS.put hS frZ
          refine hK.out _ (rstF g3 frZ _) hS2 (fun _ => ?_)
          clear hK K hS yz y0 y1 y2 y3 y4 y5 y6 y7 y8 y9 y10 y11 y12
          try simp only [Act.put, List.getElem_toArray, List.getElem_cons_zero, List.getElem_cons_succ, List.setIfInBounds_toArray, List.set_cons_zero, List.set_cons_succ]
          generalize rstF g3 frZ _ = W5 at hS2 hF2 ⊢
          have hS := hS2
          clear hS2
          refine wpAnyH_take (i := 19) (v := ?_) rfl (by kernel_rfl) (by kernel_rfl) (by kernel_rfl) (fun _ _ _ h => h) (Or.inl ⟨by rfl, ?_⟩) (by assumption) ?_
          rotate_left
          · (intro V hSw; go_simp; (try with_reducible rfl))
          try simp only [Act.put, List.getElem_toArray, List.getElem_cons_zero, List.getElem_cons_succ, List.setIfInBounds_toArray, List.set_cons_zero, List.set_cons_succ]
          refine wpAnyH_take (i := 20) (v := ?_) rfl (by kernel_rfl) (by kernel_rfl) (by kernel_rfl) (fun _ _ _ h => h) (Or.inl ⟨by rfl, ?_⟩) (by assumption) ?_
          rotate_left
          · (intro V hSw; go_simp; (try with_reducible rfl))
          try simp only [Act.put, List.getElem_toArray, List.getElem_cons_zero, List.getElem_cons_succ, List.setIfInBounds_toArray, List.set_cons_zero, List.set_cons_succ]
          refine wpAnyH_done (by kernel_rfl) (NoPanic.normal ?_) _
          go_wp2_with fail
          go_meet
          case rel => exact ⟨rfl, hS.bel⟩
        · rw [if_pos (by rfl)]
          go_simp
          have hS2 := LS.mkx hS
          refine hK.out _ _ (LS.nox hS2) (fun _ => ?_)
          clear hK K hS
          try simp only [Act.put, List.getElem_toArray, List.getElem_cons_zero, List.getElem_cons_succ, List.setIfInBounds_toArray, List.set_cons_zero, List.set_cons_succ]
          generalize World.alloc _ _ = W2 at hS2 ⊢
          generalize Array.size _ = g4 at hS2 ⊢
          refine strong (S' := LS w (1 + (m : Int)) m (some g1) (some g2) (some g4)) (fun _ h => LS.nox h) _ _ _ _ ?_
          have hS := hS2
          clear hS2
          refine wpAnyH_ready (rs := [12]) (by kernel_rfl) (by simp) ?_
          refine AllReadyH.cons rfl (fun K hK => ?_) AllReadyH.nil
          rw [if_pos (by rfl)]
          go_simp
          with_reducible refine (CG2.out _ (HT.out.below hS.bel HT.out.lt)).mono ?_
          rintro e w4 ⟨hb, rfl⟩
          have hS2 := LS.go hS hb
          refine hK.out _ _ hS2 (fun _ => ?_)
          clear hK K hS hb
          try simp only [Act.put, List.getElem_toArray, List.getElem_cons_zero, List.getElem_cons_succ, List.setIfInBounds_toArray, List.set_cons_zero, List.set_cons_succ]
          have hS := hS2
          clear hS2
          refine wpAnyH_take (i := 13) (v := ?_) rfl (by kernel_rfl) (by kernel_rfl) (by kernel_rfl) (fun _ _ _ h => h) (Or.inl ⟨by rfl, ?_⟩) (by assumption) ?_
          rotate_left
          · (intro V hSw; go_simp; (try with_reducible rfl))
          try simp only [Act.put, List.getElem_toArray, List.getElem_cons_zero, List.getElem_cons_succ, List.setIfInBounds_toArray, List.set_cons_zero, List.set_cons_succ]
          refine wpAnyH_take (i := 14) (v := ?_) rfl (by kernel_rfl) (by kernel_rfl) (by kernel_rfl) (fun _ _ _ h => h) (Or.inl ⟨by rfl, ?_⟩) (by assumption) ?_
          rotate_left
          · (intro V hSw; go_simp; (try with_reducible rfl))
          try simp only [Act.put, List.getElem_toArray, List.getElem_cons_zero, List.getElem_cons_succ, List.setIfInBounds_toArray, List.set_cons_zero, List.set_cons_succ]
          refine wpAnyH_take (i := 15) (v := ?_) rfl (by kernel_rfl) (by kernel_rfl) (by kernel_rfl) (fun _ _ _ h => h) (Or.inl ⟨by rfl, ?_⟩) (by assumption) ?_
          rotate_left
          · (intro V hSw; go_simp; (try with_reducible rfl))
          try simp only [Act.put, List.getElem_toArray, List.getElem_cons_zero, List.getElem_cons_succ, List.setIfInBounds_toArray, List.set_cons_zero, List.set_cons_succ]
          refine wpAnyH_take (i := 16) (v := ?_) rfl (by kernel_rfl) (by kernel_rfl) (by kernel_rfl) (fun _ _ _ h => h) (Or.inl ⟨by rfl, ?_⟩) (by assumption) ?_
          rotate_left
          · (intro V hSw; go_simp; (try with_reducible rfl))
          try simp only [Act.put, List.getElem_toArray, List.getElem_cons_zero, List.getElem_cons_succ, List.setIfInBounds_toArray, List.set_cons_zero, List.set_cons_succ]
          obtain ⟨hgx, F0, hF0⟩ := hS.x g4 rfl
          have y0 := hF0.cell0
          have y1 := hF0.cell1
          have y2 := hF0.cell2
          have y3 := hF0.cell3
          have y4 := hF0.cell4
          have y5 := hF0.cell5
          have y6 := hF0.cell6
          have y7 := hF0.cell7
          have y8 := hF0.cell8
          have y9 := hF0.cell9
          have y10 := hF0.cell10
          have y11 := hF0.cell11
          have y12 := hF0.cell12
          have yz := hF0.fz
          refine wpAnyH_ready (rs := [18]) (by kernel_rfl) (by simp) ?_
          refine AllReadyH.cons rfl (fun K hK => ?_) AllReadyH.nil
          rw [if_pos (by rfl)]
          go_simp
          obtain ⟨hS2, hF2⟩ := LS.put hS frZ
          refine hK.out _ (rstF g4 frZ _) hS2 (fun _ => ?_)
          clear hK K hS yz y0 y1 y2 y3 y4 y5 y6 y7 y8 y9 y10 y11 y12
          try simp only [Act.put, List.getElem_toArray, List.getElem_cons_zero, List.getElem_cons_succ, List.setIfInBounds_toArray, List.set_cons_zero, List.set_cons_succ]
          generalize rstF g4 frZ _ = W5 at hS2 hF2 ⊢
          have hS := hS2
          clear hS2
          refine wpAnyH_take (i := 19) (v := ?_) rfl (by kernel_rfl) (by kernel_rfl) (by kernel_rfl) (fun _ _ _ h => h) (Or.inl ⟨by rfl, ?_⟩) (by assumption) ?_
          rotate_left
          · (intro V hSw; go_simp; (try with_reducible rfl))
          try simp only [Act.put, List.getElem_toArray, List.getElem_cons_zero, List.getElem_cons_succ, List.setIfInBounds_toArray, List.set_cons_zero, List.set_cons_succ]
          refine wpAnyH_take (i := 20) (v := ?_) rfl (by kernel_rfl) (by kernel_rfl) (by kernel_rfl) (fun _ _ _ h => h) (Or.inl ⟨by rfl, ?_⟩) (by assumption) ?_
          rotate_left
          · (intro V hSw; go_simp; (try with_reducible rfl))
          try simp only [Act.put, List.getElem_toArray, List.getElem_cons_zero, List.getElem_cons_succ, List.setIfInBounds_toArray, List.set_cons_zero, List.set_cons_succ]
          refine wpAnyH_done (by kernel_rfl) (NoPanic.normal ?_) _
          go_wp2_with fail
          go_meet
          case rel => exact ⟨rfl, hS.bel⟩
      · rw [if_pos (by rfl)]
        go_simp
        have hS2 := LS.mkx hS
        refine hK.out _ _ (LS.nox hS2) (fun _ => ?_)
        clear hK K hS
        try simp only [Act.put, List.getElem_toArray, List.getElem_cons_zero, List.getElem_cons_succ, List.setIfInBounds_toArray, List.set_cons_zero, List.set_cons_succ]
        generalize World.alloc _ _ = W2 at hS2 ⊢
        generalize Array.size _ = g5 at hS2 ⊢
        refine strong (S' := LS w (1 + (m : Int)) m (some g1) none (some g5)) (fun _ h => LS.nox h) _ _ _ _ ?_
        have hS := hS2
        clear hS2
        refine wpAnyH_ready (rs := [9]) (by kernel_rfl) (by simp) ?_
        refine AllReadyH.cons rfl (fun K hK => ?_) AllReadyH.nil
        rw [if_pos (by rfl)]
        go_simp
        have hS2 := LS.mkb hS
        refine hK.out _ _ (LS.nob hS2) (fun _ => ?_)
        clear hK K hS
        try simp only [Act.put, List.getElem_toArray, List.getElem_cons_zero, List.getElem_cons_succ, List.setIfInBounds_toArray, List.set_cons_zero, List.set_cons_succ]
        generalize World.alloc _ _ = W2 at hS2 ⊢
        generalize Array.size _ = g6 at hS2 ⊢
        refine strong (S' := LS w (1 + (m : Int)) m (some g1) (some g6) (some g5)) (fun _ h => LS.nob h) _ _ _ _ ?_
        have hS := hS2
        clear hS2
        refine wpAnyH_take (i := 10) (v := ?_) rfl (by kernel_rfl) (by kernel_rfl) (by kernel_rfl) (fun _ _ _ h => h) (Or.inl ⟨by rfl, ?_⟩) (by assumption) ?_
        rotate_left
        · (intro V hSw; have z := conv_at V m g6 (hSw.b g6 rfl).1; go_simp; (try with_reducible rfl))
        try simp only [Act.put, List.getElem_toArray, List.getElem_cons_zero, List.getElem_cons_succ, List.setIfInBounds_toArray, List.set_cons_zero, List.set_cons_succ]
        refine wpAnyH_take (i := 11) (v := ?_) rfl (by kernel_rfl) (by kernel_rfl) (by kernel_rfl) (fun _ _ _ h => h) (Or.inl ⟨by rfl, ?_⟩) (by assumption) ?_
        rotate_left
        · (intro V hSw; go_simp; (try with_reducible rfl))
        try simp only [Act.put, List.getElem_toArray, List.getElem_cons_zero, List.getElem_cons_succ, List.setIfInBounds_toArray, List.set_cons_zero, List.set_cons_succ]
        refine wpAnyH_ready (rs := [12]) (by kernel_rfl) (by simp) ?_
        refine AllReadyH.cons rfl (fun K hK => ?_) AllReadyH.nil
        rw [if_pos (by rfl)]
        go_simp
        with_reducible refine (CG2.out _ (HT.out.below hS.bel HT.out.lt)).mono ?_
        rintro e w4 ⟨hb, rfl⟩
        have hS2 := LS.go hS hb
        refine hK.out _ _ hS2 (fun _ => ?_)
        clear hK K hS hb
        try simp only [Act.put, List.getElem_toArray, List.getElem_cons_zero, List.getElem_cons_succ, List.setIfInBounds_toArray, List.set_cons_zero, List.set_cons_succ]
        have hS := hS2
        clear hS2
        refine wpAnyH_take (i := 13) (v := ?_) rfl (by kernel_rfl) (by kernel_rfl) (by kernel_rfl) (fun _ _ _ h => h) (Or.inl ⟨by rfl, ?_⟩) (by assumption) ?_
        rotate_left
        · (intro V hSw; go_simp; (try with_reducible rfl))
        try simp only [Act.put, List.getElem_toArray, List.getElem_cons_zero, List.getElem_cons_succ, List.setIfInBounds_toArray, List.set_cons_zero, List.set_cons_succ]
        refine wpAnyH_take (i := 14) (v := ?_) rfl (by kernel_rfl) (by kernel_rfl) (by kernel_rfl) (fun _ _ _ h => h) (Or.inl ⟨by rfl, ?_⟩) (by assumption) ?_
        rotate_left
        · (intro V hSw; go_simp; (try with_reducible rfl))
        try simp only [Act.put, List.getElem_toArray, List.getElem_cons_zero, List.getElem_cons_succ, List.setIfInBounds_toArray, List.set_cons_zero, List.set_cons_succ]
        refine wpAnyH_take (i := 15) (v := ?_) rfl (by kernel_rfl) (by kernel_rfl) (by kernel_rfl) (fun _ _ _ h => h) (Or.inl ⟨by rfl, ?_⟩) (by assumption) ?_
        rotate_left
        · (intro V hSw; go_simp; (try with_reducible rfl))
        try simp only [Act.put, List.getElem_toArray, List.getElem_cons_zero, List.getElem_cons_succ, List.setIfInBounds_toArray, List.set_cons_zero, List.set_cons_succ]
        refine wpAnyH_take (i := 16) (v := ?_) rfl (by kernel_rfl) (by kernel_rfl) (by kernel_rfl) (fun _ _ _ h => h) (Or.inl ⟨by rfl, ?_⟩) (by assumption) ?_
        rotate_left
        · (intro V hSw; go_simp; (try with_reducible rfl))
        try simp only [Act.put, List.getElem_toArray, List.getElem_cons_zero, List.getElem_cons_succ, List.setIfInBounds_toArray, List.set_cons_zero, List.set_cons_succ]
        obtain ⟨hgx, F0, hF0⟩ := hS.x g5 rfl
        have y0 := hF0.cell0
        have y1 := hF0.cell1
        have y2 := hF0.cell2
        have y3 := hF0.cell3
        have y4 := hF0.cell4
        have y5 := hF0.cell5
        have y6 := hF0.cell6
        have y7 := hF0.cell7
        have y8 := hF0.cell8
        have y9 := hF0.cell9
        have y10 := hF0.cell10
        have y11 := hF0.cell11
        have y12 := hF0.cell12
        have yz := hF0.fz
        refine wpAnyH_ready (rs := [18]) (by kernel_rfl) (by simp) ?_
        refine AllReadyH.cons rfl (fun K hK => ?_) AllReadyH.nil
        rw [if_pos (by rfl)]
        go_simp
        obtain ⟨hS2, hF2⟩ := LS.put hS frZ
        refine hK.out _ (rstF g5 frZ _) hS2 (fun _ => ?_)
        clear hK K hS yz y0 y1 y2 y3 y4 y5 y6 y7 y8 y9 y10 y11 y12
        try simp only [Act.put, List.getElem_toArray, List.getElem_cons_zero, List.getElem_cons_succ, List.setIfInBounds_toArray, List.set_cons_zero, List.set_cons_succ]
        generalize rstF g5 frZ _ = W5 at hS2 hF2 ⊢
        have hS := hS2
        clear hS2
        refine wpAnyH_take (i := 19) (v := ?_) rfl (by kernel_rfl) (by kernel_rfl) (by kernel_rfl) (fun _ _ _ h => h) (Or.inl ⟨by rfl, ?_⟩) (by assumption) ?_
        rotate_left
        · (intro V hSw; go_simp; (try with_reducible rfl))
        try simp only [Act.put, List.getElem_toArray, List.getElem_cons_zero, List.getElem_cons_succ, List.setIfInBounds_toArray, List.set_cons_zero, List.set_cons_succ]
        refine wpAnyH_take (i := 20) (v := ?_) rfl (by kernel_rfl) (by kernel_rfl) (by kernel_rfl) (fun _ _ _ h => h) (Or.inl ⟨by rfl, ?_⟩) (by assumption) ?_
        rotate_left
        · (intro V hSw; go_simp; (try with_reducible rfl))
        try simp only [Act.put, List.getElem_toArray, List.getElem_cons_zero, List.getElem_cons_succ, List.setIfInBounds_toArray, List.set_cons_zero, List.set_cons_succ]
        refine wpAnyH_done (by kernel_rfl) (NoPanic.normal ?_) _
        go_wp2_with fail
        go_meet
        case rel => exact ⟨rfl, hS.bel⟩
    · rw [if_pos (by rfl)]
      go_simp
      have hS2 := LS.mkb hS
      refine hK.out _ _ (LS.nob hS2) (fun _ => ?_)
      clear hK K hS
      try simp only [Act.put, List.getElem_toArray, List.getElem_cons_zero, List.getElem_cons_succ, List.setIfInBounds_toArray, List.set_cons_zero, List.set_cons_succ]
      generalize World.alloc _ _ = W2 at hS2 ⊢
      generalize Array.size _ = g7 at hS2 ⊢
      refine strong (S' := LS w (1 + (m : Int)) m none (some g7) none) (fun _ h => LS.nob h) _ _ _ _ ?_
      have hS := hS2
      clear hS2
      refine wpAnyH_take (i := 10) (v := ?_) rfl (by kernel_rfl) (by kernel_rfl) (by kernel_rfl) (fun _ _ _ h => h) (Or.inl ⟨by rfl, ?_⟩) (by assumption) ?_
      rotate_left
      · (intro V hSw; have z := conv_at V m g7 (hSw.b g7 rfl).1; go_simp; (try with_reducible rfl))
      try simp only [Act.put, List.getElem_toArray, List.getElem_cons_zero, List.getElem_cons_succ, List.setIfInBounds_toArray, List.set_cons_zero, List.set_cons_succ]
      refine wpAnyH_ready (rs := [3, 17]) (by kernel_rfl) (by simp) ?_
      refine AllReadyH.cons rfl (fun K hK => ?_) (AllReadyH.cons rfl (fun K hK => ?_) AllReadyH.nil)
      · rw [if_pos (by rfl)]
        go_simp
        have hS2 := LS.mka hS
        refine hK.out _ _ (LS.noa hS2) (fun _ => ?_)
        clear hK K hS
        try simp only [Act.put, List.getElem_toArray, List.getElem_cons_zero, List.getElem_cons_succ, List.setIfInBounds_toArray, List.set_cons_zero, List.set_cons_succ]
        generalize World.alloc _ _ = W2 at hS2 ⊢
        generalize Array.size _ = g8 at hS2 ⊢
        refine strong (S' := LS w (1 + (m : Int)) m (some g8) (some g7) none) (fun _ h => LS.noa h) _ _ _ _ ?_
        have hS := hS2
        clear hS2
        refine wpAnyH_take (i := 4) (v := ?_) rfl (by kernel_rfl) (by kernel_rfl) (by kernel_rfl) (fun _ _ _ h => h) (Or.inl ⟨by rfl, ?_⟩) (by assumption) ?_
        rotate_left
        · (intro V hSw; have z := conv_at1 V (1 + (m : Int)) c1 g8 HX1.out (hSw.a g8 rfl).1; go_simp; (try with_reducible rfl))
        try simp only [Act.put, List.getElem_toArray, List.getElem_cons_zero, List.getElem_cons_succ, List.setIfInBounds_toArray, List.set_cons_zero, List.set_cons_succ]
        refine wpAnyH_take (i := 5) (v := ?_) rfl (by kernel_rfl) (by kernel_rfl) (by kernel_rfl) (fun _ _ _ h => h) (Or.inl ⟨by rfl, ?_⟩) (by assumption) ?_
        rotate_left
        · (intro V hSw; go_simp; (try with_reducible rfl))
        try simp only [Act.put, List.getElem_toArray, List.getElem_cons_zero, List.getElem_cons_succ, List.setIfInBounds_toArray, List.set_cons_zero, List.set_cons_succ]
        refine wpAnyH_take (i := 11) (v := ?_) rfl (by kernel_rfl) (by kernel_rfl) (by kernel_rfl) (fun _ _ _ h => h) (Or.inl ⟨by rfl, ?_⟩) (by assumption) ?_
        rotate_left
        · (intro V hSw; go_simp; (try with_reducible rfl))
        try simp only [Act.put, List.getElem_toArray, List.getElem_cons_zero, List.getElem_cons_succ, List.setIfInBounds_toArray, List.set_cons_zero, List.set_cons_succ]
        refine wpAnyH_ready (rs := [12, 17]) (by kernel_rfl) (by simp) ?_
        refine AllReadyH.cons rfl (fun K hK => ?_) (AllReadyH.cons rfl (fun K hK => ?_) AllReadyH.nil)
        · rw [if_pos (by rfl)]
          go_simp
          with_reducible refine (CG2.out _ (HT.out.below hS.bel HT.out.lt)).mono ?_
          rintro e w4 ⟨hb, rfl⟩
          have hS2 := LS.go hS hb
          refine hK.out _ _ hS2 (fun _ => ?_)
          clear hK K hS hb
          try simp only [Act.put, List.getElem_toArray, List.getElem_cons_zero, List.getElem_cons_succ, List.setIfInBounds_toArray, List.set_cons_zero, List.set_cons_succ]
          have hS := hS2
          clear hS2
          refine wpAnyH_take (i := 13) (v := ?_) rfl (by kernel_rfl) (by kernel_rfl) (by kernel_rfl) (fun _ _ _ h => h) (Or.inl ⟨by rfl, ?_⟩) (by assumption) ?_
          rotate_left
          · (intro V hSw; go_simp; (try with_reducible rfl))
          try simp only [Act.put, List.getElem_toArray, List.getElem_cons_zero, List.getElem_cons_succ, List.setIfInBounds_toArray, List.set_cons_zero, List.set_cons_succ]
          refine wpAnyH_take (i := 14) (v := ?_) rfl (by kernel_rfl) (by kernel_rfl) (by kernel_rfl) (fun _ _ _ h => h) (Or.inl ⟨by rfl, ?_⟩) (by assumption) ?_
          rotate_left
          · (intro V hSw; go_simp; (try with_reducible rfl))
          try simp only [Act.put, List.getElem_toArray, List.getElem_cons_zero, List.getElem_cons_succ, List.setIfInBounds_toArray, List.set_cons_zero, List.set_cons_succ]
          refine wpAnyH_take (i := 15) (v := ?_) rfl (by kernel_rfl) (by kernel_rfl) (by kernel_rfl) (fun _ _ _ h => h) (Or.inl ⟨by rfl, ?_⟩) (by assumption) ?_
          rotate_left
          · (intro V hSw; go_simp; (try with_reducible rfl))
          try simp only [Act.put, List.getElem_toArray, List.getElem_cons_zero, List.getElem_cons_succ, List.setIfInBounds_toArray, List.set_cons_zero, List.set_cons_succ]
          refine wpAnyH_take (i := 16) (v := ?_) rfl (by kernel_rfl) (by kernel_rfl) (by kernel_rfl) (fun _ _ _ h => h) (Or.inl ⟨by rfl, ?_⟩) (by assumption) ?_
          rotate_left
          · (intro V hSw; go_simp; (try with_reducible rfl))
          try simp only [Act.put, List.getElem_toArray, List.getElem_cons_zero, List.getElem_cons_succ, List.setIfInBounds_toArray, List.set_cons_zero, List.set_cons_succ]
          refine wpAnyH_ready (rs := [17]) (by kernel_rfl) (by simp) ?_
          refine AllReadyH.cons rfl (fun K hK => ?_) AllReadyH.nil
          rw [if_pos (by rfl)]
          go_simp
          have hS2 := LS.mkx hS
          refine hK.out _ _ (LS.nox hS2) (fun _ => ?_)
          clear hK K hS
          try simp only [Act.put, List.getElem_toArray, List.getElem_cons_zero, List.getElem_cons_succ, List.setIfInBounds_toArray, List.set_cons_zero, List.set_cons_succ]
          generalize World.alloc _ _ = W2 at hS2 ⊢
          generalize Array.size _ = g9 at hS2 ⊢
          refine strong (S' := LS w (1 + (m : Int)) m (some g8) (some g7) (some g9)) (fun _ h => LS.nox h) _ _ _ _ ?_
          have hS := hS2
          clear hS2
          obtain ⟨hgx, F0, hF0⟩ := hS.x g9 rfl
          have y0 := hF0.cell0
          have y1 := hF0.cell1
          have y2 := hF0.cell2
          have y3 := hF0.cell3
          have y4 := hF0.cell4
          have y5 := hF0.cell5
          have y6 := hF0.cell6
          have y7 := hF0.cell7
          have y8 := hF0.cell8
          have y9 := hF0.cell9
          have y10 := hF0.cell10
          have y11 := hF0.cell11
          have y12 := hF0.cell12
          have yz := hF0.fz
          refine wpAnyH_ready (rs := [18]) (by kernel_rfl) (by simp) ?_
          refine AllReadyH.cons rfl (fun K hK => ?_) AllReadyH.nil
          rw [if_pos (by rfl)]
          go_simp
          obtain ⟨hS2, hF2⟩ := LS.put hS frZ
          refine hK.out _ (rstF g9 frZ _) hS2 (fun _ => ?_)
          clear hK K hS yz y0 y1 y2 y3 y4 y5 y6 y7 y8 y9 y10 y11 y12
          try simp only [Act.put, List.getElem_toArray, List.getElem_cons_zero, List.getElem_cons_succ, List.setIfInBounds_toArray, List.set_cons_zero, List.set_cons_succ]
          generalize rstF g9 frZ _ = W5 at hS2 hF2 ⊢
          have hS := hS2
          clear hS2
          refine wpAnyH_take (i := 19) (v := ?_) rfl (by kernel_rfl) (by kernel_rfl) (by kernel_rfl) (fun _ _ _ h => h) (Or.inl ⟨by rfl, ?_⟩) (by assumption) ?_
          rotate_left
          · (intro V hSw; go_simp; (try with_reducible rfl))
          try simp only [Act.put, List.getElem_toArray, List.getElem_cons_zero, List.getElem_cons_succ, List.setIfInBounds_toArray, List.set_cons_zero, List.set_cons_succ]
          refine wpAnyH_take (i := 20) (v := ?_) rfl (by kernel_rfl) (by kernel_rfl) (by kernel_rfl) (fun _ _ _ h => h) (Or.inl ⟨by rfl, ?_⟩) (by assumption) ?_
          rotate_left
          · (intro V hSw; go_simp; (try with_reducible rfl))
          try simp only [Act.put, List.getElem_toArray, List.getElem_cons_zero, List.getElem_cons_succ, List.setIfInBounds_toArray, List.set_cons_zero, List.set_cons_succ]
          refine wpAnyH_done (by kernel_rfl) (NoPanic.normal ?_) _
          go_wp2_with fail
          go_meet
          case rel => exact ⟨rfl, hS.bel⟩
        · rw [if_pos (by rfl)]
          go_simp
          have hS2 := LS.mkx hS
          refine hK.out _ _ (LS.nox hS2) (fun _ => ?_)
          clear hK K hS
          try simp only [Act.put, List.getElem_toArray, List.getElem_cons_zero, List.getElem_cons_succ, List.setIfInBounds_toArray, List.set_cons_zero, List.set_cons_succ]
          generalize World.alloc _ _ = W2 at hS2 ⊢
          generalize Array.size _ = g10 at hS2 ⊢
          refine strong (S' := LS w (1 + (m : Int)) m (some g8) (some g7) (some g10)) (fun _ h => LS.nox h) _ _ _ _ ?_
          have hS := hS2
          clear hS2
          refine wpAnyH_ready (rs := [12]) (by kernel_rfl) (by simp) ?_
          refine AllReadyH.cons rfl (fun K hK => ?_) AllReadyH.nil
          rw [if_pos (by rfl)]
          go_simp
          with_reducible refine (CG2.out _ (HT.out.below hS.bel HT.out.lt)).mono ?_
          rintro e w4 ⟨hb, rfl⟩
          have hS2 := LS.go hS hb
          refine hK.out _ _ hS2 (fun _ => ?_)
          clear hK K hS hb
          try simp only [Act.put, List.getElem_toArray, List.getElem_cons_zero, List.getElem_cons_succ, List.setIfInBounds_toArray, List.set_cons_zero, List.set_cons_succ]
          have hS := hS2
          clear hS2
          refine wpAnyH_take (i := 13) (v := ?_) rfl (by kernel_rfl) (by kernel_rfl) (by kernel_rfl) (fun _ _ _ h => h) (Or.inl ⟨by rfl, ?_⟩) (by assumption) ?_
          rotate_left
          · (intro V hSw; go_simp; (try with_reducible rfl))
          try simp only [Act.put, List.getElem_toArray, List.getElem_cons_zero, List.getElem_cons_succ, List.setIfInBounds_toArray, List.set_cons_zero, List.set_cons_succ]
          refine wpAnyH_take (i := 14) (v := ?_) rfl (by kernel_rfl) (by kernel_rfl) (by kernel_rfl) (fun _ _ _ h => h) (Or.inl ⟨by rfl, ?_⟩) (by assumption) ?_
          rotate_left
          · (intro V hSw; go_simp; (try with_reducible rfl))
          try simp only [Act.put, List.getElem_toArray, List.getElem_cons_zero, List.getElem_cons_succ, List.setIfInBounds_toArray, List.set_cons_zero, List.set_cons_succ]
          refine wpAnyH_take (i := 15) (v := ?_) rfl (by kernel_rfl) (by kernel_rfl) (by kernel_rfl) (fun _ _ _ h => h) (Or.inl ⟨by rfl, ?_⟩) (by assumption) ?_
          rotate_left
          · (intro V hSw; go_simp; (try with_reducible rfl))
          try simp only [Act.put, List.getElem_toArray, List.getElem_cons_zero, List.getElem_cons_succ, List.setIfInBounds_toArray, List.set_cons_zero, List.set_cons_succ]
          refine wpAnyH_take (i := 16) (v := ?_) rfl (by kernel_rfl) (by kernel_rfl) (by kernel_rfl) (fun _ _ _ h => h) (Or.inl ⟨by rfl, ?_⟩) (by assumption) ?_
          rotate_left
          · (intro V hSw; go_simp; (try with_reducible rfl))
          try simp only [Act.put, List.getElem_toArray, List.getElem_cons_zero, List.getElem_cons_succ, List.setIfInBounds_toArray, List.set_cons_zero, List.set_cons_succ]
          obtain ⟨hgx, F0, hF0⟩ := hS.x g10 rfl
          have y0 := hF0.cell0
          have y1 := hF0.cell1
          have y2 := hF0.cell2
          have y3 := hF0.cell3
          have y4 := hF0.cell4
          have y5 := hF0.cell5
          have y6 := hF0.cell6
          have y7 := hF0.cell7
          have y8 := hF0.cell8
          have y9 := hF0.cell9
          have y10 := hF0.cell10
          have y11 := hF0.cell11
          have y12 := hF0.cell12
          have yz := hF0.fz
          refine wpAnyH_ready (rs := [18]) (by kernel_rfl) (by simp) ?_
          refine AllReadyH.cons rfl (fun K hK => ?_) AllReadyH.nil
          rw [if_pos (by rfl)]
          go_simp
          obtain ⟨hS2, hF2⟩ := LS.put hS frZ
          refine hK.out _ (rstF g10 frZ _) hS2 (fun _ => ?_)
          clear hK K hS yz y0 y1 y2 y3 y4 y5 y6 y7 y8 y9 y10 y11 y12
          try simp only [Act.put, List.getElem_toArray, List.getElem_cons_zero, List.getElem_cons_succ, List.setIfInBounds_toArray, List.set_cons_zero, List.set_cons_succ]
          generalize rstF g10 frZ _ = W5 at hS2 hF2 ⊢
          have hS := hS2
          clear hS2
          refine wpAnyH_take (i := 19) (v := ?_) rfl (by kernel_rfl) (by kernel_rfl) (by kernel_rfl) (fun _ _ _ h => h) (Or.inl ⟨by rfl, ?_⟩) (by assumption) ?_
          rotate_left
          · (intro V hSw; go_simp; (try with_reducible rfl))
          try simp only [Act.put, List.getElem_toArray, List.getElem_cons_zero, List.getElem_cons_succ, List.setIfInBounds_toArray, List.set_cons_zero, List.set_cons_succ]
          refine wpAnyH_take (i := 20) (v := ?_) rfl (by kernel_rfl) (by kernel_rfl) (by kernel_rfl) (fun _ _ _ h => h) (Or.inl ⟨by rfl, ?_⟩) (by assumption) ?_
          rotate_left
          · (intro V hSw; go_simp; (try with_reducible rfl))
          try simp only [Act.put, List.getElem_toArray, List.getElem_cons_zero, List.getElem_cons_succ, List.setIfInBounds_toArray, List.set_cons_zero, List.set_cons_succ]
          refine wpAnyH_done (by kernel_rfl) (NoPanic.normal ?_) _
          go_wp2_with fail
          go_meet
          case rel => exact ⟨rfl, hS.bel⟩
      · rw [if_pos (by rfl)]
        go_simp
        have hS2 := LS.mkx hS
        refine hK.out _ _ (LS.nox hS2) (fun _ => ?_)
        clear hK K hS
        try simp only [Act.put, List.getElem_toArray, List.getElem_cons_zero, List.getElem_cons_succ, List.setIfInBounds_toArray, List.set_cons_zero, List.set_cons_succ]
        generalize World.alloc _ _ = W2 at hS2 ⊢
        generalize Array.size _ = g11 at hS2 ⊢
        refine strong (S' := LS w (1 + (m : Int)) m none (some g7) (some g11)) (fun _ h => LS.nox h) _ _ _ _ ?_
        have hS := hS2
        clear hS2
        refine wpAnyH_ready (rs := [3]) (by kernel_rfl) (by simp) ?_
        refine AllReadyH.cons rfl (fun K hK => ?_) AllReadyH.nil
        rw [if_pos (by rfl)]
        go_simp
        have hS2 := LS.mka hS
        refine hK.out _ _ (LS.noa hS2) (fun _ => ?_)
        clear hK K hS
        try simp only [Act.put, List.getElem_toArray, List.getElem_cons_zero, List.getElem_cons_succ, List.setIfInBounds_toArray, List.set_cons_zero, List.set_cons_succ]
        generalize World.alloc _ _ = W2 at hS2 ⊢
        generalize Array.size _ = g12 at hS2 ⊢
        refine strong (S' := LS w (1 + (m : Int)) m (some g12) (some g7) (some g11)) (fun _ h => LS.noa h) _ _ _ _ ?_
        have hS := hS2
        clear hS2
        refine wpAnyH_take (i := 4) (v := ?_) rfl (by kernel_rfl) (by kernel_rfl) (by kernel_rfl) (fun _ _ _ h => h) (Or.inl ⟨by rfl, ?_⟩) (by assumption) ?_
        rotate_left
        · (intro V hSw; have z := conv_at1 V (1 + (m : Int)) c1 g12 HX1.out (hSw.a g12 rfl).1; go_simp; (try with_reducible rfl))
        try simp only [Act.put, List.getElem_toArray, List.getElem_cons_zero, List.getElem_cons_succ, List.setIfInBounds_toArray, List.set_cons_zero, List.set_cons_succ]
        refine wpAnyH_take (i := 5) (v := ?_) rfl (by kernel_rfl) (by kernel_rfl) (by kernel_rfl) (fun _ _ _ h => h) (Or.inl ⟨by rfl, ?_⟩) (by assumption) ?_
        rotate_left
        · (intro V hSw; go_simp; (try with_reducible rfl))
        try simp only [Act.put, List.getElem_toArray, List.getElem_cons_zero, List.getElem_cons_succ, List.setIfInBounds_toArray, List.set_cons_zero, List.set_cons_succ]
        refine wpAnyH_take (i := 11) (v := ?_) rfl (by kernel_rfl) (by kernel_rfl) (by kernel_rfl) (fun _ _ _ h => h) (Or.inl ⟨by rfl, ?_⟩) (by assumption) ?_
        rotate_left
        · (intro V hSw; go_simp; (try with_reducible rfl))
        try simp only [Act.put, List.getElem_toArray, List.getElem_cons_zero, List.getElem_cons_succ, List.setIfInBounds_toArray, List.set_cons_zero, List.set_cons_succ]
        refine wpAnyH_ready (rs := [12]) (by kernel_rfl) (by simp) ?_
        refine AllReadyH.cons rfl (fun K hK => ?_) AllReadyH.nil
        rw [if_pos (by rfl)]
        go_simp
        with_reducible refine (CG2.out _ (HT.out.below hS.bel HT.out.lt)).mono ?_
        rintro e w4 ⟨hb, rfl⟩
        have hS2 := LS.go hS hb
        refine hK.out _ _ hS2 (fun _ => ?_)
        clear hK K hS hb
        try simp only [Act.put, List.getElem_toArray, List.getElem_cons_zero, List.getElem_cons_succ, List.setIfInBounds_toArray, List.set_cons_zero, List.set_cons_succ]
        have hS := hS2
        clear hS2
        refine wpAnyH_take (i := 13) (v := ?_) rfl (by kernel_rfl) (by kernel_rfl) (by kernel_rfl) (fun _ _ _ h => h) (Or.inl ⟨by rfl, ?_⟩) (by assumption) ?_
        rotate_left
        · (intro V hSw; go_simp; (try with_reducible rfl))
        try simp only [Act.put, List.getElem_toArray, List.getElem_cons_zero, List.getElem_cons_succ, List.setIfInBounds_toArray, List.set_cons_zero, List.set_cons_succ]
        refine wpAnyH_take (i := 14) (v := ?_) rfl (by kernel_rfl) (by kernel_rfl) (by kernel_rfl) (fun _ _ _ h => h) (Or.inl ⟨by rfl, ?_⟩) (by assumption) ?_
        rotate_left
        · (intro V hSw; go_simp; (try with_reducible rfl))
        try simp only [Act.put, List.getElem_toArray, List.getElem_cons_zero, List.getElem_cons_succ, List.setIfInBounds_toArray, List.set_cons_zero, List.set_cons_succ]
        refine wpAnyH_take (i := 15) (v := ?_) rfl (by kernel_rfl) (by kernel_rfl) (by kernel_rfl) (fun _ _ _ h => h) (Or.inl ⟨by rfl, ?_⟩) (by assumption) ?_
        rotate_left
        · (intro V hSw; go_simp; (try with_reducible rfl))
        try simp only [Act.put, List.getElem_toArray, List.getElem_cons_zero, List.getElem_cons_succ, List.setIfInBounds_toArray, List.set_cons_zero, List.set_cons_succ]
        refine wpAnyH_take (i := 16) (v := ?_) rfl (by kernel_rfl) (by kernel_rfl) (by kernel_rfl) (fun _ _ _ h => h) (Or.inl ⟨by rfl, ?_⟩) (by assumption) ?_
        rotate_left
        · (intro V hSw; go_simp; (try with_reducible rfl))
        try simp only [Act.put, List.getElem_toArray, List.getElem_cons_zero, List.getElem_cons_succ, List.setIfInBounds_toArray, List.set_cons_zero, List.set_cons_succ]
        obtain ⟨hgx, F0, hF0⟩ := hS.x g11 rfl
        have y0 := hF0.cell0
        have y1 := hF0.cell1
        have y2 := hF0.cell2
        have y3 := hF0.cell3
        have y4 := hF0.cell4
        have y5 := hF0.cell5
        have y6 := hF0.cell6
        have y7 := hF0.cell7
        have y8 := hF0.cell8
        have y9 := hF0.cell9
        have y10 := hF0.cell10
        have y11 := hF0.cell11
        have y12 := hF0.cell12
        have yz := hF0.fz
        refine wpAnyH_ready (rs := [18]) (by kernel_rfl) (by simp) ?_
        refine AllReadyH.cons rfl (fun K hK => ?_) AllReadyH.nil
        rw [if_pos (by rfl)]
        go_simp
        obtain ⟨hS2, hF2⟩ := LS.put hS frZ
        refine hK.out _ (rstF g11 frZ _) hS2 (fun _ => ?_)
        clear hK K hS yz y0 y1 y2 y3 y4 y5 y6 y7 y8 y9 y10 y11 y12
        try simp only [Act.put, List.getElem_toArray, List.getElem_cons_zero, List.getElem_cons_succ, List.setIfInBounds_toArray, List.set_cons_zero, List.set_cons_succ]
        generalize rstF g11 frZ _ = W5 at hS2 hF2 ⊢
        have hS := hS2
        clear hS2
        refine wpAnyH_take (i := 19) (v := ?_) rfl (by kernel_rfl) (by kernel_rfl) (by kernel_rfl) (fun _ _ _ h => h) (Or.inl ⟨by rfl, ?_⟩) (by assumption) ?_
        rotate_left
        · (intro V hSw; go_simp; (try with_reducible rfl))
        try simp only [Act.put, List.getElem_toArray, List.getElem_cons_zero, List.getElem_cons_succ, List.setIfInBounds_toArray, List.set_cons_zero, List.set_cons_succ]
        refine wpAnyH_take (i := 20) (v := ?_) rfl (by kernel_rfl) (by kernel_rfl) (by kernel_rfl) (fun _ _ _ h => h) (Or.inl ⟨by rfl, ?_⟩) (by assumption) ?_
        rotate_left
        · (intro V hSw; go_simp; (try with_reducible rfl))
        try simp only [Act.put, List.getElem_toArray, List.getElem_cons_zero, List.getElem_cons_succ, List.setIfInBounds_toArray, List.set_cons_zero, List.set_cons_succ]
        refine wpAnyH_done (by kernel_rfl) (NoPanic.normal ?_) _
        go_wp2_with fail
        go_meet
        case rel => exact ⟨rfl, hS.bel⟩
    · rw [if_pos (by rfl)]
      go_simp
      have hS2 := LS.mkx hS
      refine hK.out _ _ (LS.nox hS2) (fun _ => ?_)
      clear hK K hS
      try simp only [Act.put, List.getElem_toArray, List.getElem_cons_zero, List.getElem_cons_succ, List.setIfInBounds_toArray, List.set_cons_zero, List.set_cons_succ]
      generalize World.alloc _ _ = W2 at hS2 ⊢
      generalize Array.size _ = g13 at hS2 ⊢
      refine strong (S' := LS w (1 + (m : Int)) m none none (some g13)) (fun _ h => LS.nox h) _ _ _ _ ?_
      have hS := hS2
      clear hS2
      refine wpAnyH_ready (rs := [3, 9]) (by kernel_rfl) (by simp) ?_
      refine AllReadyH.cons rfl (fun K hK => ?_) (AllReadyH.cons rfl (fun K hK => ?_) AllReadyH.nil)
      · rw [if_pos (by rfl)]
        go_simp
        have hS2 := LS.mka hS
        refine hK.out _ _ (LS.noa hS2) (fun _ => ?_)
        clear hK K hS
        try simp only [Act.put, List.getElem_toArray, List.getElem_cons_zero, List.getElem_cons_succ, List.setIfInBounds_toArray, List.set_cons_zero, List.set_cons_succ]
        generalize World.alloc _ _ = W2 at hS2 ⊢
        generalize Array.size _ = g14 at hS2 ⊢
        refine strong (S' := LS w (1 + (m : Int)) m (some g14) none (some g13)) (fun _ h => LS.noa h) _ _ _ _ ?_
        have hS := hS2
        clear hS2
        refine wpAnyH_take (i := 4) (v := ?_) rfl (by kernel_rfl) (by kernel_rfl) (by kernel_rfl) (fun _ _ _ h => h) (Or.inl ⟨by rfl, ?_⟩) (by assumption) ?_
        rotate_left
        · (intro V hSw; have z := conv_at1 V (1 + (m : Int)) c1 g14 HX1.out (hSw.a g14 rfl).1; go_simp; (try with_reducible rfl))
        try simp only [Act.put, List.getElem_toArray, List.getElem_cons_zero, List.getElem_cons_succ, List.setIfInBounds_toArray, List.set_cons_zero, List.set_cons_succ]
        refine wpAnyH_take (i := 5) (v := ?_) rfl (by kernel_rfl) (by kernel_rfl) (by kernel_rfl) (fun _ _ _ h => h) (Or.inl ⟨by rfl, ?_⟩) (by assumption) ?_
        rotate_left
        · (intro V hSw; go_simp; (try with_reducible rfl))
        try simp only [Act.put, List.getElem_toArray, List.getElem_cons_zero, List.getElem_cons_succ, List.setIfInBounds_toArray, List.set_cons_zero, List.set_cons_succ]
        refine wpAnyH_ready (rs := [9]) (by kernel_rfl) (by simp) ?_
        refine AllReadyH.cons rfl (fun K hK => ?_) AllReadyH.nil
        rw [if_pos (by rfl)]
        go_simp
        have hS2 := LS.mkb hS
        refine hK.out _ _ (LS.nob hS2) (fun _ => ?_)
        clear hK K hS
        try simp only [Act.put, List.getElem_toArray, List.getElem_cons_zero, List.getElem_cons_succ, List.setIfInBounds_toArray, List.set_cons_zero, List.set_cons_succ]
        generalize World.alloc _ _ = W2 at hS2 ⊢
        generalize Array.size _ = g15 at hS2 ⊢
        refine strong (S' := LS w (1 + (m : Int)) m (some g14) (some g15) (some g13)) (fun _ h => LS.nob h) _ _ _ _ ?_
        have hS := hS2
        clear hS2
        refine wpAnyH_take (i := 10) (v := ?_) rfl (by kernel_rfl) (by kernel_rfl) (by kernel_rfl) (fun _ _ _ h => h) (Or.inl ⟨by rfl, ?_⟩) (by assumption) ?_
        rotate_left
        · (intro V hSw; have z := conv_at V m g15 (hSw.b g15 rfl).1; go_simp; (try with_reducible rfl))
        try simp only [Act.put, List.getElem_toArray, List.getElem_cons_zero, List.getElem_cons_succ, List.setIfInBounds_toArray, List.set_cons_zero, List.set_cons_succ]
        refine wpAnyH_take (i := 11) (v := ?_) rfl (by kernel_rfl) (by kernel_rfl) (by kernel_rfl) (fun _ _ _ h => h) (Or.inl ⟨by rfl, ?_⟩) (by assumption) ?_
        rotate_left
        · (intro V hSw; go_simp; (try with_reducible rfl))
        try simp only [Act.put, List.getElem_toArray, List.getElem_cons_zero, List.getElem_cons_succ, List.setIfInBounds_toArray, List.set_cons_zero, List.set_cons_succ]
        refine wpAnyH_ready (rs := [12]) (by kernel_rfl) (by simp) ?_
        refine AllReadyH.cons rfl (fun K hK => ?_) AllReadyH.nil
        rw [if_pos (by rfl)]
        go_simp
        with_reducible refine (CG2.out _ (HT.out.below hS.bel HT.out.lt)).mono ?_
        rintro e w4 ⟨hb, rfl⟩
        have hS2 := LS.go hS hb
        refine hK.out _ _ hS2 (fun _ => ?_)
        clear hK K hS hb
        try simp only [Act.put, List.getElem_toArray, List.getElem_cons_zero, List.getElem_cons_succ, List.setIfInBounds_toArray, List.set_cons_zero, List.set_cons_succ]
        have hS := hS2
        clear hS2
        refine wpAnyH_take (i := 13) (v := ?_) rfl (by kernel_rfl) (by kernel_rfl) (by kernel_rfl) (fun _ _ _ h => h) (Or.inl ⟨by rfl, ?_⟩) (by assumption) ?_
        rotate_left
        · (intro V hSw; go_simp; (try with_reducible rfl))
        try simp only [Act.put, List.getElem_toArray, List.getElem_cons_zero, List.getElem_cons_succ, List.setIfInBounds_toArray, List.set_cons_zero, List.set_cons_succ]
        refine wpAnyH_take (i := 14) (v := ?_) rfl (by kernel_rfl) (by kernel_rfl) (by kernel_rfl) (fun _ _ _ h => h) (Or.inl ⟨by rfl, ?_⟩) (by assumption) ?_
        rotate_left
        · (intro V hSw; go_simp; (try with_reducible rfl))
        try simp only [Act.put, List.getElem_toArray, List.getElem_cons_zero, List.getElem_cons_succ, List.setIfInBounds_toArray, List.set_cons_zero, List.set_cons_succ]
        refine wpAnyH_take (i := 15) (v := ?_) rfl (by kernel_rfl) (by kernel_rfl) (by kernel_rfl) (fun _ _ _ h => h) (Or.inl ⟨by rfl, ?_⟩) (by assumption) ?_
        rotate_left
        · (intro V hSw; go_simp; (try with_reducible rfl))
        try simp only [Act.put, List.getElem_toArray, List.getElem_cons_zero, List.getElem_cons_succ, List.setIfInBounds_toArray, List.set_cons_zero, List.set_cons_succ]
        refine wpAnyH_take (i := 16) (v := ?_) rfl (by kernel_rfl) (by kernel_rfl) (by kernel_rfl) (fun _ _ _ h => h) (Or.inl ⟨by rfl, ?_⟩) (by assumption) ?_
        rotate_left
        · (intro V hSw; go_simp; (try with_reducible rfl))
        try simp only [Act.put, List.getElem_toArray, List.getElem_cons_zero, List.getElem_cons_succ, List.setIfInBounds_toArray, List.set_cons_zero, List.set_cons_succ]
        obtain ⟨hgx, F0, hF0⟩ := hS.x g13 rfl
        have y0 := hF0.cell0
        have y1 := hF0.cell1
        have y2 := hF0.cell2
        have y3 := hF0.cell3
        have y4 := hF0.cell4
        have y5 := hF0.cell5
        have y6 := hF0.cell6
        have y7 := hF0.cell7
        have y8 := hF0.cell8
        have y9 := hF0.cell9
        have y10 := hF0.cell10
        have y11 := hF0.cell11
        have y12 := hF0.cell12
        have yz := hF0.fz
        refine wpAnyH_ready (rs := [18]) (by kernel_rfl) (by simp) ?_
        refine AllReadyH.cons rfl (fun K hK => ?_) AllReadyH.nil
        rw [if_pos (by rfl)]
        go_simp
        obtain ⟨hS2, hF2⟩ := LS.put hS frZ
        refine hK.out _ (rstF g13 frZ _) hS2 (fun _ => ?_)
        clear hK K hS yz y0 y1 y2 y3 y4 y5 y6 y7 y8 y9 y10 y11 y12
        try simp only [Act.put, List.getElem_toArray, List.getElem_cons_zero, List.getElem_cons_succ, List.setIfInBounds_toArray, List.set_cons_zero, List.set_cons_succ]
        generalize rstF g13 frZ _ = W5 at hS2 hF2 ⊢
        have hS := hS2
        clear hS2
        refine wpAnyH_take (i := 19) (v := ?_) rfl (by kernel_rfl) (by kernel_rfl) (by kernel_rfl) (fun _ _ _ h => h) (Or.inl ⟨by rfl, ?_⟩) (by assumption) ?_
        rotate_left
        · (intro V hSw; go_simp; (try with_reducible rfl))
        try simp only [Act.put, List.getElem_toArray, List.getElem_cons_zero, List.getElem_cons_succ, List.setIfInBounds_toArray, List.set_cons_zero, List.set_cons_succ]
        refine wpAnyH_take (i := 20) (v := ?_) rfl (by kernel_rfl) (by kernel_rfl) (by kernel_rfl) (fun _ _ _ h => h) (Or.inl ⟨by rfl, ?_⟩) (by assumption) ?_
        rotate_left
        · (intro V hSw; go_simp; (try with_reducible rfl))
        try simp only [Act.put, List.getElem_toArray, List.getElem_cons_zero, List.getElem_cons_succ, List.setIfInBounds_toArray, List.set_cons_zero, List.set_cons_succ]
        refine wpAnyH_done (by kernel_rfl) (NoPanic.normal ?_) _
        go_wp2_with fail
        go_meet
        case rel => exact ⟨rfl, hS.bel⟩
      · rw [if_pos (by rfl)]
        go_simp
        have hS2 := LS.mkb hS
        refine hK.out _ _ (LS.nob hS2) (fun _ => ?_)
        clear hK K hS
        try simp only [Act.put, List.getElem_toArray, List.getElem_cons_zero, List.getElem_cons_succ, List.setIfInBounds_toArray, List.set_cons_zero, List.set_cons_succ]
        generalize World.alloc _ _ = W2 at hS2 ⊢
        generalize Array.size _ = g16 at hS2 ⊢
        refine strong (S' := LS w (1 + (m : Int)) m none (some g16) (some g13)) (fun _ h => LS.nob h) _ _ _ _ ?_
        have hS := hS2
        clear hS2
        refine wpAnyH_take (i := 10) (v := ?_) rfl (by kernel_rfl) (by kernel_rfl) (by kernel_rfl) (fun _ _ _ h => h) (Or.inl ⟨by rfl, ?_⟩) (by assumption) ?_
        rotate_left
        · (intro V hSw; have z := conv_at V m g16 (hSw.b g16 rfl).1; go_simp; (try with_reducible rfl))
        try simp only [Act.put, List.getElem_toArray, List.getElem_cons_zero, List.getElem_cons_succ, List.setIfInBounds_toArray, List.set_cons_zero, List.set_cons_succ]
        refine wpAnyH_ready (rs := [3]) (by kernel_rfl) (by simp) ?_
        refine AllReadyH.cons rfl (fun K hK => ?_) AllReadyH.nil
        rw [if_pos (by rfl)]
        go_simp
        have hS2 := LS.mka hS
        refine hK.out _ _ (LS.noa hS2) (fun _ => ?_)
        clear hK K hS
        try simp only [Act.put, List.getElem_toArray, List.getElem_cons_zero, List.getElem_cons_succ, List.setIfInBounds_toArray, List.set_cons_zero, List.set_cons_succ]
        generalize World.alloc _ _ = W2 at hS2 ⊢
        generalize Array.size _ = g17 at hS2 ⊢
        refine strong (S' := LS w (1 + (m : Int)) m (some g17) (some g16) (some g13)) (fun _ h => LS.noa h) _ _ _ _ ?_
        have hS := hS2
        clear hS2
        refine wpAnyH_take (i := 4) (v := ?_) rfl (by kernel_rfl) (by kernel_rfl) (by kernel_rfl) (fun _ _ _ h => h) (Or.inl ⟨by rfl, ?_⟩) (by assumption) ?_
        rotate_left
        · (intro V hSw; have z := conv_at1 V (1 + (m : Int)) c1 g17 HX1.out (hSw.a g17 rfl).1; go_simp; (try with_reducible rfl))
        try simp only [Act.put, List.getElem_toArray, List.getElem_cons_zero, List.getElem_cons_succ, List.setIfInBounds_toArray, List.set_cons_zero, List.set_cons_succ]
        refine wpAnyH_take (i := 5) (v := ?_) rfl (by kernel_rfl) (by kernel_rfl) (by kernel_rfl) (fun _ _ _ h => h) (Or.inl ⟨by rfl, ?_⟩) (by assumption) ?_
        rotate_left
        · (intro V hSw; go_simp; (try with_reducible rfl))
        try simp only [Act.put, List.getElem_toArray, List.getElem_cons_zero, List.getElem_cons_succ, List.setIfInBounds_toArray, List.set_cons_zero, List.set_cons_succ]
        refine wpAnyH_take (i := 11) (v := ?_) rfl (by kernel_rfl) (by kernel_rfl) (by kernel_rfl) (fun _ _ _ h => h) (Or.inl ⟨by rfl, ?_⟩) (by assumption) ?_
        rotate_left
        · (intro V hSw; go_simp; (try with_reducible rfl))
        try simp only [Act.put, List.getElem_toArray, List.getElem_cons_zero, List.getElem_cons_succ, List.setIfInBounds_toArray, List.set_cons_zero, List.set_cons_succ]
        refine wpAnyH_ready (rs := [12]) (by kernel_rfl) (by simp) ?_
        refine AllReadyH.cons rfl (fun K hK => ?_) AllReadyH.nil
        rw [if_pos (by rfl)]
        go_simp
        with_reducible refine (CG2.out _ (HT.out.below hS.bel HT.out.lt)).mono ?_
        rintro e w4 ⟨hb, rfl⟩
        have hS2 := LS.go hS hb
        refine hK.out _ _ hS2 (fun _ => ?_)
        clear hK K hS hb
        try simp only [Act.put, List.getElem_toArray, List.getElem_cons_zero, List.getElem_cons_succ, List.setIfInBounds_toArray, List.set_cons_zero, List.set_cons_succ]
        have hS := hS2
        clear hS2
        refine wpAnyH_take (i := 13) (v := ?_) rfl (by kernel_rfl) (by kernel_rfl) (by kernel_rfl) (fun _ _ _ h => h) (Or.inl ⟨by rfl, ?_⟩) (by assumption) ?_
        rotate_left
        · (intro V hSw; go_simp; (try with_reducible rfl))
        try simp only [Act.put, List.getElem_toArray, List.getElem_cons_zero, List.getElem_cons_succ, List.setIfInBounds_toArray, List.set_cons_zero, List.set_cons_succ]
        refine wpAnyH_take (i := 14) (v := ?_) rfl (by kernel_rfl) (by kernel_rfl) (by kernel_rfl) (fun _ _ _ h => h) (Or.inl ⟨by rfl, ?_⟩) (by assumption) ?_
        rotate_left
        · (intro V hSw; go_simp; (try with_reducible rfl))
        try simp only [Act.put, List.getElem_toArray, List.getElem_cons_zero, List.getElem_cons_succ, List.setIfInBounds_toArray, List.set_cons_zero, List.set_cons_succ]
        refine wpAnyH_take (i := 15) (v := ?_) rfl (by kernel_rfl) (by kernel_rfl) (by kernel_rfl) (fun _ _ _ h => h) (Or.inl ⟨by rfl, ?_⟩) (by assumption) ?_
        rotate_left
        · (intro V hSw; go_simp; (try with_reducible rfl))
        try simp only [Act.put, List.getElem_toArray, List.getElem_cons_zero, List.getElem_cons_succ, List.setIfInBounds_toArray, List.set_cons_zero, List.set_cons_succ]
        refine wpAnyH_take (i := 16) (v := ?_) rfl (by kernel_rfl) (by kernel_rfl) (by kernel_rfl) (fun _ _ _ h => h) (Or.inl ⟨by rfl, ?_⟩) (by assumption) ?_
        rotate_left
        · (intro V hSw; go_simp; (try with_reducible rfl))
        try simp only [Act.put, List.getElem_toArray, List.getElem_cons_zero, List.getElem_cons_succ, List.setIfInBounds_toArray, List.set_cons_zero, List.set_cons_succ]
        obtain ⟨hgx, F0, hF0⟩ := hS.x g13 rfl
        have y0 := hF0.cell0
        have y1 := hF0.cell1
        have y2 := hF0.cell2
        have y3 := hF0.cell3
        have y4 := hF0.cell4
        have y5 := hF0.cell5
        have y6 := hF0.cell6
        have y7 := hF0.cell7
        have y8 := hF0.cell8
        have y9 := hF0.cell9
        have y10 := hF0.cell10
        have y11 := hF0.cell11
        have y12 := hF0.cell12
        have yz := hF0.fz
        refine wpAnyH_ready (rs := [18]) (by kernel_rfl) (by simp) ?_
        refine AllReadyH.cons rfl (fun K hK => ?_) AllReadyH.nil
        rw [if_pos (by rfl)]
        go_simp
        obtain ⟨hS2, hF2⟩ := LS.put hS frZ
        refine hK.out _ (rstF g13 frZ _) hS2 (fun _ => ?_)
        clear hK K hS yz y0 y1 y2 y3 y4 y5 y6 y7 y8 y9 y10 y11 y12
        try simp only [Act.put, List.getElem_toArray, List.getElem_cons_zero, List.getElem_cons_succ, List.setIfInBounds_toArray, List.set_cons_zero, List.set_cons_succ]
        generalize rstF g13 frZ _ = W5 at hS2 hF2 ⊢
        have hS := hS2
        clear hS2
        refine wpAnyH_take (i := 19) (v := ?_) rfl (by kernel_rfl) (by kernel_rfl) (by kernel_rfl) (fun _ _ _ h => h) (Or.inl ⟨by rfl, ?_⟩) (by assumption) ?_
        rotate_left
        · (intro V hSw; go_simp; (try with_reducible rfl))
        try simp only [Act.put, List.getElem_toArray, List.getElem_cons_zero, List.getElem_cons_succ, List.setIfInBounds_toArray, List.set_cons_zero, List.set_cons_succ]
        refine wpAnyH_take (i := 20) (v := ?_) rfl (by kernel_rfl) (by kernel_rfl) (by kernel_rfl) (fun _ _ _ h => h) (Or.inl ⟨by rfl, ?_⟩) (by assumption) ?_
        rotate_left
        · (intro V hSw; go_simp; (try with_reducible rfl))
        try simp only [Act.put, List.getElem_toArray, List.getElem_cons_zero, List.getElem_cons_succ, List.setIfInBounds_toArray, List.set_cons_zero, List.set_cons_succ]
        refine wpAnyH_done (by kernel_rfl) (NoPanic.normal ?_) _
        go_wp2_with fail
        go_meet
        case rel => exact ⟨rfl, hS.bel⟩
  case rest =>
    obtain ⟨rfl, hbw⟩ := hcut
    clear HB3
    have HB3 := Lib.hid hbw
    clear hbw CG2 hc3 hc4 HX1 hw1
    generalize UInt8.ofNat m = c2 at CG3 hc5 hc6 HX2
    go_upto_region 4 with (fail)
    go_cut [12, 13, 14] from 46 to 61 (fun v12 v13 v14 W => ∃ (g : Nat) (F : Frm), v12 = .pointer (some ⟨g, 0, none⟩) ∧ v13 = .string ⟨#[]⟩ ∧ v14 = .int .i64 0 ∧ w.heap.size ≤ g ∧ FrB g F W ∧ F.data = zs m ∧ Below w.heap.size w W)
    case first =>
      refine wp_region_noPanic ?_
      refine wp_region_held_drew (S := LS w (m : Int) m none none none) (by kernel_rfl) ?_ (fun hS => ?_)
      · exact LS.start (Below.drew HB3.out)
      generalize World.drew _ = WD at hS ⊢
      refine wpAnyH_take (i := 0) (v := ?_) rfl (by kernel_rfl) (by kernel_rfl) (by kernel_rfl) (fun _ _ _ h => h) (Or.inl ⟨by rfl, ?_⟩) (by assumption) ?_
      rotate_left
      · (intro V hSw; go_simp; (try with_reducible rfl))
      try simp only [Act.put, List.getElem_toArray, List.getElem_cons_zero, List.getElem_cons_succ, List.setIfInBounds_toArray, List.set_cons_zero, List.set_cons_succ]
      refine wpAnyH_take (i := 1) (v := ?_) rfl (by kernel_rfl) (by kernel_rfl) (by kernel_rfl) (fun _ _ _ h => h) (Or.inl ⟨by rfl, ?_⟩) (by assumption) ?_
      rotate_left
      · (intro V hSw; go_simp; (try with_reducible rfl))
      try simp only [Act.put, List.getElem_toArray, List.getElem_cons_zero, List.getElem_cons_succ, List.setIfInBounds_toArray, List.set_cons_zero, List.set_cons_succ]
      refine wpAnyH_take (i := 5) (v := ?_) rfl (by kernel_rfl) (by kernel_rfl) (by kernel_rfl) (fun _ _ _ h => h) (Or.inl ⟨by rfl, ?_⟩) (by assumption) ?_
      rotate_left
      · (intro V hSw; go_simp; (try with_reducible rfl))
      try simp only [Act.put, List.getElem_toArray, List.getElem_cons_zero, List.getElem_cons_succ, List.setIfInBounds_toArray, List.set_cons_zero, List.set_cons_succ]
      refine wpAnyH_take (i := 6) (v := ?_) rfl (by kernel_rfl) (by kernel_rfl) (by kernel_rfl) (fun _ _ _ h => h) (Or.inl ⟨by rfl, ?_⟩) (by assumption) ?_
      rotate_left
      · (intro V hSw; go_simp; (try with_reducible rfl))
      try simp only [Act.put, List.getElem_toArray, List.getElem_cons_zero, List.getElem_cons_succ, List.setIfInBounds_toArray, List.set_cons_zero, List.set_cons_succ]
      refine wpAnyH_take (i := 7) (v := ?_) rfl (by kernel_rfl) (by kernel_rfl) (by kernel_rfl) (fun _ _ _ h => h) (Or.inl ⟨by rfl, ?_⟩) (by assumption) ?_
      rotate_left
      · (intro V hSw; go_simp; (try with_reducible rfl))
      try simp only [Act.put, List.getElem_toArray, List.getElem_cons_zero, List.getElem_cons_succ, List.setIfInBounds_toArray, List.set_cons_zero, List.set_cons_succ]
      refine wpAnyH_ready (rs := [2, 8, 16]) (by kernel_rfl) (by simp) ?_
      refine AllReadyH.cons rfl (fun K hK => ?_) (AllReadyH.cons rfl (fun K hK => ?_) (AllReadyH.cons rfl (fun K hK => ?_) AllReadyH.nil))
      · rw [if_pos (by rfl)]
        go_simp
        have hS2 := LS.mka hS
        refine hK.out _ _ (LS.noa hS2) (fun _ => ?_)
        clear hK K hS
        try simp only [Act.put, List.getElem_toArray, List.getElem_cons_zero, List.getElem_cons_succ, List.setIfInBounds_toArray, List.set_cons_zero, List.set_cons_succ]
        generalize World.alloc _ _ = W2 at hS2 ⊢
        generalize Array.size _ = g1 at hS2 ⊢
        refine strong (S' := LS w (m : Int) m (some g1) none none) (fun _ h => LS.noa h) _ _ _ _ ?_
        have hS := hS2
        clear hS2
        refine wpAnyH_take (i := 3) (v := ?_) rfl (by kernel_rfl) (by kernel_rfl) (by kernel_rfl) (fun _ _ _ h => h) (Or.inl ⟨by rfl, ?_⟩) (by assumption) ?_
        rotate_left
        · (intro V hSw; have z := conv_at1 V (m : Int) c2 g1 HX2.out (hSw.a g1 rfl).1; go_simp; (try with_reducible rfl))
        try simp only [Act.put, List.getElem_toArray, List.getElem_cons_zero, List.getElem_cons_succ, List.setIfInBounds_toArray, List.set_cons_zero, List.set_cons_succ]
        refine wpAnyH_take (i := 4) (v := ?_) rfl (by kernel_rfl) (by kernel_rfl) (by kernel_rfl) (fun _ _ _ h => h) (Or.inl ⟨by rfl, ?_⟩) (by assumption) ?_
        rotate_left
        · (intro V hSw; go_simp; (try with_reducible rfl))
        try simp only [Act.put, List.getElem_toArray, List.getElem_cons_zero, List.getElem_cons_succ, List.setIfInBounds_toArray, List.set_cons_zero, List.set_cons_succ]
        refine wpAnyH_ready (rs := [8, 16]) (by kernel_rfl) (by simp) ?_
        refine AllReadyH.cons rfl (fun K hK => ?_) (AllReadyH.cons rfl (fun K hK => ?_) AllReadyH.nil)
        · rw [if_pos (by rfl)]
          go_simp
          have hS2 := LS.mkb hS
          refine hK.out _ _ (LS.nob hS2) (fun _ => ?_)
          clear hK K hS
          try simp only [Act.put, List.getElem_toArray, List.getElem_cons_zero, List.getElem_cons_succ, List.setIfInBounds_toArray, List.set_cons_zero, List.set_cons_succ]
          generalize World.alloc _ _ = W2 at hS2 ⊢
          generalize Array.size _ = g2 at hS2 ⊢
          refine strong (S' := LS w (m : Int) m (some g1) (some g2) none) (fun _ h => LS.nob h) _ _ _ _ ?_
          have hS := hS2
          clear hS2
          refine wpAnyH_take (i := 9) (v := ?_) rfl (by kernel_rfl) (by kernel_rfl) (by kernel_rfl) (fun _ _ _ h => h) (Or.inl ⟨by rfl, ?_⟩) (by assumption) ?_
          rotate_left
          · (intro V hSw; have z := conv_at V m g2 (hSw.b g2 rfl).1; go_simp; (try with_reducible rfl))
          try simp only [Act.put, List.getElem_toArray, List.getElem_cons_zero, List.getElem_cons_succ, List.setIfInBounds_toArray, List.set_cons_zero, List.set_cons_succ]
          refine wpAnyH_take (i := 10) (v := ?_) rfl (by kernel_rfl) (by kernel_rfl) (by kernel_rfl) (fun _ _ _ h => h) (Or.inl ⟨by rfl, ?_⟩) (by assumption) ?_
          rotate_left
          · (intro V hSw; go_simp; (try with_reducible rfl))
          try simp only [Act.put, List.getElem_toArray, List.getElem_cons_zero, List.getElem_cons_succ, List.setIfInBounds_toArray, List.set_cons_zero, List.set_cons_succ]
          refine wpAnyH_ready (rs := [11, 16]) (by kernel_rfl) (by simp) ?_
          refine AllReadyH.cons rfl (fun K hK => ?_) (AllReadyH.cons rfl (fun K hK => ?_) AllReadyH.nil)
          · rw [if_pos (by rfl)]
            go_simp
            with_reducible refine (CG3.out _ (HT.out.below hS.bel HT.out.lt)).mono ?_
            rintro e w4 ⟨hb, sa, sc, rfl⟩
            have hS2 := LS.go hS hb
            refine hK.out _ _ hS2 (fun _ => ?_)
            clear hK K hS hb
            try simp only [Act.put, List.getElem_toArray, List.getElem_cons_zero, List.getElem_cons_succ, List.setIfInBounds_toArray, List.set_cons_zero, List.set_cons_succ]
            have hS := hS2
            clear hS2
            refine wpAnyH_take (i := 12) (v := ?_) rfl (by kernel_rfl) (by kernel_rfl) (by kernel_rfl) (fun _ _ _ h => h) (Or.inl ⟨by rfl, ?_⟩) (by assumption) ?_
            rotate_left
            · (intro V hSw; go_simp; (try with_reducible rfl))
            try simp only [Act.put, List.getElem_toArray, List.getElem_cons_zero, List.getElem_cons_succ, List.setIfInBounds_toArray, List.set_cons_zero, List.set_cons_succ]
            refine wpAnyH_take (i := 13) (v := ?_) rfl (by kernel_rfl) (by kernel_rfl) (by kernel_rfl) (fun _ _ _ h => h) (Or.inl ⟨by rfl, ?_⟩) (by assumption) ?_
            rotate_left
            · (intro V hSw; go_simp; (try with_reducible rfl))
            try simp only [Act.put, List.getElem_toArray, List.getElem_cons_zero, List.getElem_cons_succ, List.setIfInBounds_toArray, List.set_cons_zero, List.set_cons_succ]
            refine wpAnyH_take (i := 14) (v := ?_) rfl (by kernel_rfl) (by kernel_rfl) (by kernel_rfl) (fun _ _ _ h => h) (Or.inl ⟨by rfl, ?_⟩) (by assumption) ?_
            rotate_left
            · (intro V hSw; go_simp; (try with_reducible rfl))
            try simp only [Act.put, List.getElem_toArray, List.getElem_cons_zero, List.getElem_cons_succ, List.setIfInBounds_toArray, List.set_cons_zero, List.set_cons_succ]
            refine wpAnyH_take (i := 15) (v := ?_) rfl (by kernel_rfl) (by kernel_rfl) (by kernel_rfl) (fun _ _ _ h => h) (Or.inl ⟨by rfl, ?_⟩) (by assumption) ?_
            rotate_left
            · (intro V hSw; go_simp; (try with_reducible rfl))
            try simp only [Act.put, List.getElem_toArray, List.getElem_cons_zero, List.getElem_cons_succ, List.setIfInBounds_toArray, List.set_cons_zero, List.set_cons_succ]
            refine wpAnyH_ready (rs := [16]) (by kernel_rfl) (by simp) ?_
            refine AllReadyH.cons rfl (fun K hK => ?_) AllReadyH.nil
            rw [if_pos (by rfl)]
            go_simp
            have hS2 := LS.mkx hS
            refine hK.out _ _ (LS.nox hS2) (fun _ => ?_)
            clear hK K hS
            try simp only [Act.put, List.getElem_toArray, List.getElem_cons_zero, List.getElem_cons_succ, List.setIfInBounds_toArray, List.set_cons_zero, List.set_cons_succ]
            generalize World.alloc _ _ = W2 at hS2 ⊢
            generalize Array.size _ = g3 at hS2 ⊢
            refine strong (S' := LS w (m : Int) m (some g1) (some g2) (some g3)) (fun _ h => LS.nox h) _ _ _ _ ?_
            have hS := hS2
            clear hS2
            obtain ⟨hgx, F0, hF0⟩ := hS.x g3 rfl
            have y0 := hF0.cell0
            have y1 := hF0.cell1
            have y2 := hF0.cell2
            have y3 := hF0.cell3
            have y4 := hF0.cell4
            have y5 := hF0.cell5
            have y6 := hF0.cell6
            have y7 := hF0.cell7
            have y8 := hF0.cell8
            have y9 := hF0.cell9
            have y10 := hF0.cell10
            have y11 := hF0.cell11
            have y12 := hF0.cell12
            have yz := hF0.fz
            refine wpAnyH_ready (rs := [17]) (by kernel_rfl) (by simp) ?_
            refine AllReadyH.cons rfl (fun K hK => ?_) AllReadyH.nil
            rw [if_pos (by rfl)]
            go_simp
            obtain ⟨hS2, hF2⟩ := LS.put hS { lgF m with set := ⟨sa, 0, sc⟩ }
            refine hK.out _ (rstF g3 { lgF m with set := ⟨sa, 0, sc⟩ } _) hS2 (fun _ => ?_)
            clear hK K hS yz y0 y1 y2 y3 y4 y5 y6 y7 y8 y9 y10 y11 y12
            try simp only [Act.put, List.getElem_toArray, List.getElem_cons_zero, List.getElem_cons_succ, List.setIfInBounds_toArray, List.set_cons_zero, List.set_cons_succ]
            generalize rstF g3 { lgF m with set := ⟨sa, 0, sc⟩ } _ = W5 at hS2 hF2 ⊢
            have hS := hS2
            clear hS2
            refine wpAnyH_take (i := 18) (v := ?_) rfl (by kernel_rfl) (by kernel_rfl) (by kernel_rfl) (fun _ _ _ h => h) (Or.inl ⟨by rfl, ?_⟩) (by assumption) ?_
            rotate_left
            · (intro V hSw; go_simp; (try with_reducible rfl))
            try simp only [Act.put, List.getElem_toArray, List.getElem_cons_zero, List.getElem_cons_succ, List.setIfInBounds_toArray, List.set_cons_zero, List.set_cons_succ]
            refine wpAnyH_take (i := 19) (v := ?_) rfl (by kernel_rfl) (by kernel_rfl) (by kernel_rfl) (fun _ _ _ h => h) (Or.inl ⟨by rfl, ?_⟩) (by assumption) ?_
            rotate_left
            · (intro V hSw; go_simp; (try with_reducible rfl))
            try simp only [Act.put, List.getElem_toArray, List.getElem_cons_zero, List.getElem_cons_succ, List.setIfInBounds_toArray, List.set_cons_zero, List.set_cons_succ]
            refine wpAnyH_done (by kernel_rfl) (NoPanic.normal ?_) _
            go_wp2_with fail
            go_meet
            case rel => exact ⟨g3, _, rfl, rfl, rfl, hgx, hF2, rfl, hS.bel⟩
          · rw [if_pos (by rfl)]
            go_simp
            have hS2 := LS.mkx hS
            refine hK.out _ _ (LS.nox hS2) (fun _ => ?_)
            clear hK K hS
            try simp only [Act.put, List.getElem_toArray, List.getElem_cons_zero, List.getElem_cons_succ, List.setIfInBounds_toArray, List.set_cons_zero, List.set_cons_succ]
            generalize World.alloc _ _ = W2 at hS2 ⊢
            generalize Array.size _ = g4 at hS2 ⊢
            refine strong (S' := LS w (m : Int) m (some g1) (some g2) (some g4)) (fun _ h => LS.nox h) _ _ _ _ ?_
            have hS := hS2
            clear hS2
            refine wpAnyH_ready (rs := [11]) (by kernel_rfl) (by simp) ?_
            refine AllReadyH.cons rfl (fun K hK => ?_) AllReadyH.nil
            rw [if_pos (by rfl)]
            go_simp
            with_reducible refine (CG3.out _ (HT.out.below hS.bel HT.out.lt)).mono ?_
            rintro e w4 ⟨hb, sa, sc, rfl⟩
            have hS2 := LS.go hS hb
            refine hK.out _ _ hS2 (fun _ => ?_)
            clear hK K hS hb
            try simp only [Act.put, List.getElem_toArray, List.getElem_cons_zero, List.getElem_cons_succ, List.setIfInBounds_toArray, List.set_cons_zero, List.set_cons_succ]
            have hS := hS2
            clear hS2
            refine wpAnyH_take (i := 12) (v := ?_) rfl (by kernel_rfl) (by kernel_rfl) (by kernel_rfl) (fun _ _ _ h => h) (Or.inl ⟨by rfl, ?_⟩) (by assumption) ?_
            rotate_left
            · (intro V hSw; go_simp; (try with_reducible rfl))
            try simp only [Act.put, List.getElem_toArray, List.getElem_cons_zero, List.getElem_cons_succ, List.setIfInBounds_toArray, List.set_cons_zero, List.set_cons_succ]
            refine wpAnyH_take (i := 13) (v := ?_) rfl (by kernel_rfl) (by kernel_rfl) (by kernel_rfl) (fun _ _ _ h => h) (Or.inl ⟨by rfl, ?_⟩) (by assumption) ?_
            rotate_left
            · (intro V hSw; go_simp; (try with_reducible rfl))
            try simp only [Act.put, List.getElem_toArray, List.getElem_cons_zero, List.getElem_cons_succ, List.setIfInBounds_toArray, List.set_cons_zero, List.set_cons_succ]
            refine wpAnyH_take (i := 14) (v := ?_) rfl (by kernel_rfl) (by kernel_rfl) (by kernel_rfl) (fun _ _ _ h => h) (Or.inl ⟨by rfl, ?_⟩) (by assumption) ?_
            rotate_left
            · (intro V hSw; go_simp; (try with_reducible rfl))
            try simp only [Act.put, List.getElem_toArray, List.getElem_cons_zero, List.getElem_cons_succ, List.setIfInBounds_toArray, List.set_cons_zero, List.set_cons_succ]
            refine wpAnyH_take (i := 15) (v := ?_) rfl (by kernel_rfl) (by kernel_rfl) (by kernel_rfl) (fun _ _ _ h => h) (Or.inl ⟨by rfl, ?_⟩) (by assumption) ?_
            rotate_left
            · (intro V hSw; go_simp; (try with_reducible rfl))
            try simp only [Act.put, List.getElem_toArray, List.getElem_cons_zero, List.getElem_cons_succ, List.setIfInBounds_toArray, List.set_cons_zero, List.set_cons_succ]
            obtain ⟨hgx, F0, hF0⟩ := hS.x g4 rfl
            have y0 := hF0.cell0
            have y1 := hF0.cell1
            have y2 := hF0.cell2
            have y3 := hF0.cell3
            have y4 := hF0.cell4
            have y5 := hF0.cell5
            have y6 := hF0.cell6
            have y7 := hF0.cell7
            have y8 := hF0.cell8
            have y9 := hF0.cell9
            have y10 := hF0.cell10
            have y11 := hF0.cell11
            have y12 := hF0.cell12
            have yz := hF0.fz
            refine wpAnyH_ready (rs := [17]) (by kernel_rfl) (by simp) ?_
            refine AllReadyH.cons rfl (fun K hK => ?_) AllReadyH.nil
            rw [if_pos (by rfl)]
            go_simp
            obtain ⟨hS2, hF2⟩ := LS.put hS { lgF m with set := ⟨sa, 0, sc⟩ }
            refine hK.out _ (rstF g4 { lgF m with set := ⟨sa, 0, sc⟩ } _) hS2 (fun _ => ?_)
            clear hK K hS yz y0 y1 y2 y3 y4 y5 y6 y7 y8 y9 y10 y11 y12
            try simp only [Act.put, List.getElem_toArray, List.getElem_cons_zero, List.getElem_cons_succ, List.setIfInBounds_toArray, List.set_cons_zero, List.set_cons_succ]
            generalize rstF g4 { lgF m with set := ⟨sa, 0, sc⟩ } _ = W5 at hS2 hF2 ⊢
            have hS := hS2
            clear hS2
            refine wpAnyH_take (i := 18) (v := ?_) rfl (by kernel_rfl) (by kernel_rfl) (by kernel_rfl) (fun _ _ _ h => h) (Or.inl ⟨by rfl, ?_⟩) (by assumption) ?_
            rotate_left
            · (intro V hSw; go_simp; (try with_reducible rfl))
            try simp only [Act.put, List.getElem_toArray, List.getElem_cons_zero, List.getElem_cons_succ, List.setIfInBounds_toArray, List.set_cons_zero, List.set_cons_succ]
            refine wpAnyH_take (i := 19) (v := ?_) rfl (by kernel_rfl) (by kernel_rfl) (by kernel_rfl) (fun _ _ _ h => h) (Or.inl ⟨by rfl, ?_⟩) (by assumption) ?_
            rotate_left
            · (intro V hSw; go_simp; (try with_reducible rfl))
            try simp only [Act.put, List.getElem_toArray, List.getElem_cons_zero, List.getElem_cons_succ, List.setIfInBounds_toArray, List.set_cons_zero, List.set_cons_succ]
            refine wpAnyH_done (by kernel_rfl) (NoPanic.normal ?_) _
            go_wp2_with fail
            go_meet
            case rel => exact ⟨g4, _, rfl, rfl, rfl, hgx, hF2, rfl, hS.bel⟩
        · rw [if_pos (by rfl)]
          go_simp
          have hS2 := LS.mkx hS
          refine hK.out _ _ (LS.nox hS2) (fun _ => ?_)
          clear hK K hS
          try simp only [Act.put, List.getElem_toArray, List.getElem_cons_zero, List.getElem_cons_succ, List.setIfInBounds_toArray, List.set_cons_zero, List.set_cons_succ]
          generalize World.alloc _ _ = W2 at hS2 ⊢
          generalize Array.size _ = g5 at hS2 ⊢
          refine strong (S' := LS w (m : Int) m (some g1) none (some g5)) (fun _ h => LS.nox h) _ _ _ _ ?_
          have hS := hS2
          clear hS2
          refine wpAnyH_ready (rs := [8]) (by kernel_rfl) (by simp) ?_
          refine AllReadyH.cons rfl (fun K hK => ?_) AllReadyH.nil
          rw [if_pos (by rfl)]
          go_simp
          have hS2 := LS.mkb hS
          refine hK.out _ _ (LS.nob hS2) (fun _ => ?_)
          clear hK K hS
          try simp only [Act.put, List.getElem_toArray, List.getElem_cons_zero, List.getElem_cons_succ, List.setIfInBounds_toArray, List.set_cons_zero, List.set_cons_succ]
          generalize World.alloc _ _ = W2 at hS2 ⊢
          generalize Array.size _ = g6 at hS2 ⊢
          refine strong (S' := LS w (m : Int) m (some g1) (some g6) (some g5)) (fun _ h => LS.nob h) _ _ _ _ ?_
          have hS := hS2
          clear hS2
          refine wpAnyH_take (i := 9) (v := ?_) rfl (by kernel_rfl) (by kernel_rfl) (by kernel_rfl) (fun _ _ _ h => h) (Or.inl ⟨by rfl, ?_⟩) (by assumption) ?_
          rotate_left
          · (intro V hSw; have z := conv_at V m g6 (hSw.b g6 rfl).1; go_simp; (try with_reducible rfl))
          try simp only [Act.put, List.getElem_toArray, List.getElem_cons_zero, List.getElem_cons_succ, List.setIfInBounds_toArray, List.set_cons_zero, List.set_cons_succ]
          refine wpAnyH_take (i := 10) (v := ?_) rfl (by kernel_rfl) (by kernel_rfl) (by kernel_rfl) (fun _ _ _ h => h) (Or.inl ⟨by rfl, ?_⟩) (by assumption) ?_
          rotate_left
          · (intro V hSw; go_simp; (try with_reducible rfl))
          try simp only [Act.put, List.getElem_toArray, List.getElem_cons_zero, List.getElem_cons_succ, List.setIfInBounds_toArray, List.set_cons_zero, List.set_cons_succ]
          refine wpAnyH_ready (rs := [11]) (by kernel_rfl) (by simp) ?_
          refine AllReadyH.cons rfl (fun K hK => ?_) AllReadyH.nil
          rw [if_pos (by rfl)]
          go_simp
          with_reducible refine (CG3.out _ (HT.out.below hS.bel HT.out.lt)).mono ?_
          rintro e w4 ⟨hb, sa, sc, rfl⟩
          have hS2 := LS.go hS hb
          refine hK.out _ _ hS2 (fun _ => ?_)
          clear hK K hS hb
          try simp only [Act.put, List.getElem_toArray, List.getElem_cons_zero, List.getElem_cons_succ, List.setIfInBounds_toArray, List.set_cons_zero, List.set_cons_succ]
          have hS := hS2
          clear hS2
          refine wpAnyH_take (i := 12) (v := ?_) rfl (by kernel_rfl) (by kernel_rfl) (by kernel_rfl) (fun _ _ _ h => h) (Or.inl ⟨by rfl, ?_⟩) (by assumption) ?_
          rotate_left
          · (intro V hSw; go_simp; (try with_reducible rfl))
          try simp only [Act.put, List.getElem_toArray, List.getElem_cons_zero, List.getElem_cons_succ, List.setIfInBounds_toArray, List.set_cons_zero, List.set_cons_succ]
          refine wpAnyH_take (i := 13) (v := ?_) rfl (by kernel_rfl) (by kernel_rfl) (by kernel_rfl) (fun _ _ _ h => h) (Or.inl ⟨by rfl, ?_⟩) (by assumption) ?_
          rotate_left
          · (intro V hSw; go_simp; (try with_reducible rfl))
          try simp only [Act.put, List.getElem_toArray, List.getElem_cons_zero, List.getElem_cons_succ, List.setIfInBounds_toArray, List.set_cons_zero, List.set_cons_succ]
          refine wpAnyH_take (i := 14) (v := ?_) rfl (by kernel_rfl) (by kernel_rfl) (by kernel_rfl) (fun _ _ _ h => h) (Or.inl ⟨by rfl, ?_⟩) (by assumption) ?_
          rotate_left
          · (intro V hSw; go_simp; (try with_reducible rfl))
          try simp only [Act.put, List.getElem_toArray, List.getElem_cons_zero, List.getElem_cons_succ, List.setIfInBounds_toArray, List.set_cons_zero, List.set_cons_succ]
          refine wpAnyH_take (i := 15) (v := ?_) rfl (by kernel_rfl) (by kernel_rfl) (by kernel_rfl) (fun _ _ _ h => h) (Or.inl ⟨by rfl, ?_⟩) (by assumption) ?_
          rotate_left
          · (intro V hSw; go_simp; (try with_reducible rfl))
          try simp only [Act.put, List.getElem_toArray, List.getElem_cons_zero, List.getElem_cons_succ, List.setIfInBounds_toArray, List.set_cons_zero, List.set_cons_succ]
          obtain ⟨hgx, F0, hF0⟩ := hS.x g5 rfl
          have y0 := hF0.cell0
          have y1 := hF0.cell1
          have y2 := hF0.cell2
          have y3 := hF0.cell3
          have y4 := hF0.cell4
          have y5 := hF0.cell5
          have y6 := hF0.cell6
          have y7 := hF0.cell7
          have y8 := hF0.cell8
          have y9 := hF0.cell9
          have y10 := hF0.cell10
          have y11 := hF0.cell11
          have y12 := hF0.cell12
          have yz := hF0.fz
          refine wpAnyH_ready (rs := [17]) (by kernel_rfl) (by simp) ?_
          refine AllReadyH.cons rfl (fun K hK => ?_) AllReadyH.nil
          rw [if_pos (by rfl)]
          go_simp
          obtain ⟨hS2, hF2⟩ := LS.put hS { lgF m with set := ⟨sa, 0, sc⟩ }
          refine hK.out _ (rstF g5 { lgF m with set := ⟨sa, 0, sc⟩ } _) hS2 (fun _ => ?_)
          clear hK K hS yz y0 y1 y2 y3 y4 y5 y6 y7 y8 y9 y10 y11 y12
          try simp only [Act.put, List.getElem_toArray, List.getElem_cons_zero, List.getElem_cons_succ, List.setIfInBounds_toArray, List.set_cons_zero, List.set_cons_succ]
          generalize rstF g5 { lgF m with set := ⟨sa, 0, sc⟩ } _ = W5 at hS2 hF2 ⊢
          have hS := hS2
          clear hS2
          refine wpAnyH_take (i := 18) (v := ?_) rfl (by kernel_rfl) (by kernel_rfl) (by kernel_rfl) (fun _ _ _ h => h) (Or.inl ⟨by rfl, ?_⟩) (by assumption) ?_
          rotate_left
          · (intro V hSw; go_simp; (try with_reducible rfl))
          try simp only [Act.put, List.getElem_toArray, List.getElem_cons_zero, List.getElem_cons_succ, List.setIfInBounds_toArray, List.set_cons_zero, List.set_cons_succ]
          refine wpAnyH_take (i := 19) (v := ?_) rfl (by kernel_rfl) (by kernel_rfl) (by kernel_rfl) (fun _ _ _ h => h) (Or.inl ⟨by rfl, ?_⟩) (by assumption) ?_
          rotate_left
          · (intro V hSw; go_simp; (try with_reducible rfl))
          try simp only [Act.put, List.getElem_toArray, List.getElem_cons_zero, List.getElem_cons_succ, List.setIfInBounds_toArray, List.set_cons_zero, List.set_cons_succ]
          refine wpAnyH_done (by kernel_rfl) (NoPanic.normal ?_) _
          go_wp2_with fail
          go_meet
          case rel => exact ⟨g5, _, rfl, rfl, rfl, hgx, hF2, rfl, hS.bel⟩
      · rw [if_pos (by rfl)]
        go_simp
        have hS2 := LS.mkb hS
        refine hK.out _ _ (LS.nob hS2) (fun _ => ?_)
        clear hK K hS
        try simp only [Act.put, List.getElem_toArray, List.getElem_cons_zero, List.getElem_cons_succ, List.setIfInBounds_toArray, List.set_cons_zero, List.set_cons_succ]
        generalize World.alloc _ _ = W2 at hS2 ⊢
        generalize Array.size _ = g7 at hS2 ⊢
        refine strong (S' := LS w (m : Int) m none (some g7) none) (fun _ h => LS.nob h) _ _ _ _ ?_
        have hS := hS2
        clear hS2
        refine wpAnyH_take (i := 9) (v := ?_) rfl (by kernel_rfl) (by kernel_rfl) (by kernel_rfl) (fun _ _ _ h => h) (Or.inl ⟨by rfl, ?_⟩) (by assumption) ?_
        rotate_left
        · (intro V hSw; have z := conv_at V m g7 (hSw.b g7 rfl).1; go_simp; (try with_reducible rfl))
        try simp only [Act.put, List.getElem_toArray, List.getElem_cons_zero, List.getElem_cons_succ, List.setIfInBounds_toArray, List.set_cons_zero, List.set_cons_succ]
        refine wpAnyH_ready (rs := [2, 16]) (by kernel_rfl) (by simp) ?_
        refine AllReadyH.cons rfl (fun K hK => ?_) (AllReadyH.cons rfl (fun K hK => ?_) AllReadyH.nil)
        · rw [if_pos (by rfl)]
          go_simp
          have hS2 := LS.mka hS
          refine hK.out _ _ (LS.noa hS2) (fun _ => ?_)
          clear hK K hS
          try simp only [Act.put, List.getElem_toArray, List.getElem_cons_zero, List.getElem_cons_succ, List.setIfInBounds_toArray, List.set_cons_zero, List.set_cons_succ]
          generalize World.alloc _ _ = W2 at hS2 ⊢
          generalize Array.size _ = g8 at hS2 ⊢
          refine strong (S' := LS w (m : Int) m (some g8) (some g7) none) (fun _ h => LS.noa h) _ _ _ _ ?_
          have hS := hS2
          clear hS2
          refine wpAnyH_take (i := 3) (v := ?_) rfl (by kernel_rfl) (by kernel_rfl) (by kernel_rfl) (fun _ _ _ h => h) (Or.inl ⟨by rfl, ?_⟩) (by assumption) ?_
          rotate_left
          · (intro V hSw; have z := conv_at1 V (m : Int) c2 g8 HX2.out (hSw.a g8 rfl).1; go_simp; (try with_reducible rfl))
          try simp only [Act.put, List.getElem_toArray, List.getElem_cons_zero, List.getElem_cons_succ, List.setIfInBounds_toArray, List.set_cons_zero, List.set_cons_succ]
          refine wpAnyH_take (i := 4) (v := ?_) rfl (by kernel_rfl) (by kernel_rfl) (by kernel_rfl) (fun _ _ _ h => h) (Or.inl ⟨by rfl, ?_⟩) (by assumption) ?_
          rotate_left
          · (intro V hSw; go_simp; (try with_reducible rfl))
          try simp only [Act.put, List.getElem_toArray, List.getElem_cons_zero, List.getElem_cons_succ, List.setIfInBounds_toArray, List.set_cons_zero, List.set_cons_succ]
          refine wpAnyH_take (i := 10) (v := ?_) rfl (by kernel_rfl) (by kernel_rfl) (by kernel_rfl) (fun _ _ _ h => h) (Or.inl ⟨by rfl, ?_⟩) (by assumption) ?_
          rotate_left
          · (intro V hSw; go_simp; (try with_reducible rfl))
          try simp only [Act.put, List.getElem_toArray, List.getElem_cons_zero, List.getElem_cons_succ, List.setIfInBounds_toArray, List.set_cons_zero, List.set_cons_succ]
          refine wpAnyH_ready (rs := [11, 16]) (by kernel_rfl) (by simp) ?_
          refine AllReadyH.cons rfl (fun K hK => ?_) (AllReadyH.cons rfl (fun K hK => ?_) AllReadyH.nil)
          · rw [if_pos (by rfl)]
            go_simp
            with_reducible refine (CG3.out _ (HT.out.below hS.bel HT.out.lt)).mono ?_
            rintro e w4 ⟨hb, sa, sc, rfl⟩
            have hS2 := LS.go hS hb
            refine hK.out _ _ hS2 (fun _ => ?_)
            clear hK K hS hb
            try simp only [Act.put, List.getElem_toArray, List.getElem_cons_zero, List.getElem_cons_succ, List.setIfInBounds_toArray, List.set_cons_zero, List.set_cons_succ]
            have hS := hS2
            clear hS2
            refine wpAnyH_take (i := 12) (v := ?_) rfl (by kernel_rfl) (by kernel_rfl) (by kernel_rfl) (fun _ _ _ h => h) (Or.inl ⟨by rfl, ?_⟩) (by assumption) ?_
            rotate_left
            · (intro V hSw; go_simp; (try with_reducible rfl))
            try simp only [Act.put, List.getElem_toArray, List.getElem_cons_zero, List.getElem_cons_succ, List.setIfInBounds_toArray, List.set_cons_zero, List.set_cons_succ]
            refine wpAnyH_take (i := 13) (v := ?_) rfl (by kernel_rfl) (by kernel_rfl) (by kernel_rfl) (fun _ _ _ h => h) (Or.inl ⟨by rfl, ?_⟩) (by assumption) ?_
            rotate_left
            · (intro V hSw; go_simp; (try with_reducible rfl))
            try simp only [Act.put, List.getElem_toArray, List.getElem_cons_zero, List.getElem_cons_succ, List.setIfInBounds_toArray, List.set_cons_zero, List.set_cons_succ]
            refine wpAnyH_take (i := 14) (v := ?_) rfl (by kernel_rfl) (by kernel_rfl) (by kernel_rfl) (fun _ _ _ h => h) (Or.inl ⟨by rfl, ?_⟩) (by assumption) ?_
            rotate_left
            · (intro V hSw; go_simp; (try with_reducible rfl))
            try simp only [Act.put, List.getElem_toArray, List.getElem_cons_zero, List.getElem_cons_succ, List.setIfInBounds_toArray, List.set_cons_zero, List.set_cons_succ]
            refine wpAnyH_take (i := 15) (v := ?_) rfl (by kernel_rfl) (by kernel_rfl) (by kernel_rfl) (fun _ _ _ h => h) (Or.inl ⟨by rfl, ?_⟩) (by assumption) ?_
            rotate_left
            · (intro V hSw; go_simp; (try with_reducible rfl))
            try simp only [Act.put, List.getElem_toArray, List.getElem_cons_zero, List.getElem_cons_succ, List.setIfInBounds_toArray, List.set_cons_zero, List.set_cons_succ]
            refine wpAnyH_ready (rs := [16]) (by kernel_rfl) (by simp) ?_
            refine AllReadyH.cons rfl (fun K hK => ?_) AllReadyH.nil
            rw [if_pos (by rfl)]
            go_simp
            have hS2 := LS.mkx hS
            refine hK.out _ _ (LS.nox hS2) (fun _ => ?_)
            clear hK K hS
            try simp only [Act.put, List.getElem_toArray, List.getElem_cons_zero, List.getElem_cons_succ, List.setIfInBounds_toArray, List.set_cons_zero, List.set_cons_succ]
            generalize World.alloc _ _ = W2 at hS2 ⊢
            generalize Array.size _ = g9 at hS2 ⊢
            refine strong (S' := LS w (m : Int) m (some g8) (some g7) (some g9)) (fun _ h => LS.nox h) _ _ _ _ ?_
            have hS := hS2
            clear hS2
            obtain ⟨hgx, F0, hF0⟩ := hS.x g9 rfl
            have y0 := hF0.cell0
            have y1 := hF0.cell1
            have y2 := hF0.cell2
            have y3 := hF0.cell3
            have y4 := hF0.cell4
            have y5 := hF0.cell5
            have y6 := hF0.cell6
            have y7 := hF0.cell7
            have y8 := hF0.cell8
            have y9 := hF0.cell9
            have y10 := hF0.cell10
            have y11 := hF0.cell11
            have y12 := hF0.cell12
            have yz := hF0.fz
            refine wpAnyH_ready (rs := [17]) (by kernel_rfl) (by simp) ?_
            refine AllReadyH.cons rfl (fun K hK => ?_) AllReadyH.nil
            rw [if_pos (by rfl)]
            go_simp
            obtain ⟨hS2, hF2⟩ := LS.put hS { lgF m with set := ⟨sa, 0, sc⟩ }
            refine hK.out _ (rstF g9 { lgF m with set := ⟨sa, 0, sc⟩ } _) hS2 (fun _ => ?_)
            clear hK K hS yz y0 y1 y2 y3 y4 y5 y6 y7 y8 y9 y10 y11 y12
            try simp only [Act.put, List.getElem_toArray, List.getElem_cons_zero, List.getElem_cons_succ, List.setIfInBounds_toArray, List.set_cons_zero, List.set_cons_succ]
            generalize rstF g9 { lgF m with set := ⟨sa, 0, sc⟩ } _ = W5 at hS2 hF2 ⊢
            have hS := hS2
            clear hS2
            refine wpAnyH_take (i := 18) (v := ?_) rfl (by kernel_rfl) (by kernel_rfl) (by kernel_rfl) (fun _ _ _ h => h) (Or.inl ⟨by rfl, ?_⟩) (by assumption) ?_
            rotate_left
            · (intro V hSw; go_simp; (try with_reducible rfl))
            try simp only [Act.put, List.getElem_toArray, List.getElem_cons_zero, List.getElem_cons_succ, List.setIfInBounds_toArray, List.set_cons_zero, List.set_cons_succ]
            refine wpAnyH_take (i := 19) (v := ?_) rfl (by kernel_rfl) (by kernel_rfl) (by kernel_rfl) (fun _ _ _ h => h) (Or.inl ⟨by rfl, ?_⟩) (by assumption) ?_
            rotate_left
            · (intro V hSw; go_simp; (try with_reducible rfl))
            try simp only [Act.put, List.getElem_toArray, List.getElem_cons_zero, List.getElem_cons_succ, List.setIfInBounds_toArray, List.set_cons_zero, List.set_cons_succ]
            refine wpAnyH_done (by kernel_rfl) (NoPanic.normal ?_) _
            go_wp2_with fail
            go_meet
            case rel => exact ⟨g9, _, rfl, rfl, rfl, hgx, hF2, rfl, hS.bel⟩
          · rw [if_pos (by rfl)]
            go_simp
            have hS2 := LS.mkx hS
            refine hK.out _ _ (LS.nox hS2) (fun _ => ?_)
            clear hK K hS
            try simp only [Act.put, List.getElem_toArray, List.getElem_cons_zero, List.getElem_cons_succ, List.setIfInBounds_toArray, List.set_cons_zero, List.set_cons_succ]
            generalize World.alloc _ _ = W2 at hS2 ⊢
            generalize Array.size _ = g10 at hS2 ⊢
            refine strong (S' := LS w (m : Int) m (some g8) (some g7) (some g10)) (fun _ h => LS.nox h) _ _ _ _ ?_
            have hS := hS2
            clear hS2
            refine wpAnyH_ready (rs := [11]) (by kernel_rfl) (by simp) ?_
            refine AllReadyH.cons rfl (fun K hK => ?_) AllReadyH.nil
            rw [if_pos (by rfl)]
            go_simp
            with_reducible refine (CG3.out _ (HT.out.below hS.bel HT.out.lt)).mono ?_
            rintro e w4 ⟨hb, sa, sc, rfl⟩
            have hS2 := LS.go hS hb
            refine hK.out _ _ hS2 (fun _ => ?_)
            clear hK K hS hb
            try simp only [Act.put, List.getElem_toArray, List.getElem_cons_zero, List.getElem_cons_succ, List.setIfInBounds_toArray, List.set_cons_zero, List.set_cons_succ]
            have hS := hS2
            clear hS2
            refine wpAnyH_take (i := 12) (v := ?_) rfl (by kernel_rfl) (by kernel_rfl) (by kernel_rfl) (fun _ _ _ h => h) (Or.inl ⟨by rfl, ?_⟩) (by assumption) ?_
            rotate_left
            · (intro V hSw; go_simp; (try with_reducible rfl))
            try simp only [Act.put, List.getElem_toArray, List.getElem_cons_zero, List.getElem_cons_succ, List.setIfInBounds_toArray, List.set_cons_zero, List.set_cons_succ]
            refine wpAnyH_take (i := 13) (v := ?_) rfl (by kernel_rfl) (by kernel_rfl) (by kernel_rfl) (fun _ _ _ h => h) (Or.inl ⟨by rfl, ?_⟩) (by assumption) ?_
            rotate_left
            · (intro V hSw; go_simp; (try with_reducible rfl))
            try simp only [Act.put, List.getElem_toArray, List.getElem_cons_zero, List.getElem_cons_succ, List.setIfInBounds_toArray, List.set_cons_zero, List.set_cons_succ]
            refine wpAnyH_take (i := 14) (v := ?_) rfl (by kernel_rfl) (by kernel_rfl) (by kernel_rfl) (fun _ _ _ h => h) (Or.inl ⟨by rfl, ?_⟩) (by assumption) ?_
            rotate_left
            · (intro V hSw; go_simp; (try with_reducible rfl))
            try simp only [Act.put, List.getElem_toArray, List.getElem_cons_zero, List.getElem_cons_succ, List.setIfInBounds_toArray, List.set_cons_zero, List.set_cons_succ]
            refine wpAnyH_take (i := 15) (v := ?_) rfl (by kernel_rfl) (by kernel_rfl) (by kernel_rfl) (fun _ _ _ h => h) (Or.inl ⟨by rfl, ?_⟩) (by assumption) ?_
            rotate_left
            · (intro V hSw; go_simp; (try with_reducible rfl))
            try simp only [Act.put, List.getElem_toArray, List.getElem_cons_zero, List.getElem_cons_succ, List.setIfInBounds_toArray, List.set_cons_zero, List.set_cons_succ]
            obtain ⟨hgx, F0, hF0⟩ := hS.x g10 rfl
            have y0 := hF0.cell0
            have y1 := hF0.cell1
            have y2 := hF0.cell2
            have y3 := hF0.cell3
            have y4 := hF0.cell4
            have y5 := hF0.cell5
            have y6 := hF0.cell6
            have y7 := hF0.cell7
            have y8 := hF0.cell8
            have y9 := hF0.cell9
            have y10 := hF0.cell10
            have y11 := hF0.cell11
            have y12 := hF0.cell12
            have yz := hF0.fz
            refine wpAnyH_ready (rs := [17]) (by kernel_rfl) (by simp) ?_
            refine AllReadyH.cons rfl (fun K hK => ?_) AllReadyH.nil
            rw [if_pos (by rfl)]
            go_simp
            obtain ⟨hS2, hF2⟩ := LS.put hS { lgF m with set := ⟨sa, 0, sc⟩ }
            refine hK.out _ (rstF g10 { lgF m with set := ⟨sa, 0, sc⟩ } _) hS2 (fun _ => ?_)
            clear hK K hS yz y0 y1 y2 y3 y4 y5 y6 y7 y8 y9 y10 y11 y12
            try simp only [Act.put, List.getElem_toArray, List.getElem_cons_zero, List.getElem_cons_succ, List.setIfInBounds_toArray, List.set_cons_zero, List.set_cons_succ]
            generalize rstF g10 { lgF m with set := ⟨sa, 0, sc⟩ } _ = W5 at hS2 hF2 ⊢
            have hS := hS2
            clear hS2
            refine wpAnyH_take (i := 18) (v := ?_) rfl (by kernel_rfl) (by kernel_rfl) (by kernel_rfl) (fun _ _ _ h => h) (Or.inl ⟨by rfl, ?_⟩) (by assumption) ?_
            rotate_left
            · (intro V hSw; go_simp; (try with_reducible rfl))
            try simp only [Act.put, List.getElem_toArray, List.getElem_cons_zero, List.getElem_cons_succ, List.setIfInBounds_toArray, List.set_cons_zero, List.set_cons_succ]
            refine wpAnyH_take (i := 19) (v := ?_) rfl (by kernel_rfl) (by kernel_rfl) (by kernel_rfl) (fun _ _ _ h => h) (Or.inl ⟨by rfl, ?_⟩) (by assumption) ?_
            rotate_left
            · (intro V hSw; go_simp; (try with_reducible rfl))
            try simp only [Act.put, List.getElem_toArray, List.getElem_cons_zero, List.getElem_cons_succ, List.setIfInBounds_toArray, List.set_cons_zero, List.set_cons_succ]
            refine wpAnyH_done (by kernel_rfl) (NoPanic.normal ?_) _
            go_wp2_with fail
            go_meet
            case rel => exact ⟨g10, _, rfl, rfl, rfl, hgx, hF2, rfl, hS.bel⟩
        · rw [if_pos (by rfl)]
          go_simp
          have hS2 := LS.mkx hS
          refine hK.out _ _ (LS.nox hS2) (fun _ => ?_)
          clear hK K hS
          try simp only [Act.put, List.getElem_toArray, List.getElem_cons_zero, List.getElem_cons_succ, List.setIfInBounds_toArray, List.set_cons_zero, List.set_cons_succ]
          generalize World.alloc _ _ = W2 at hS2 ⊢
          generalize Array.size _ = g11 at hS2 ⊢
          refine strong (S' := LS w (m : Int) m none (some g7) (some g11)) (fun _ h => LS.nox h) _ _ _ _ ?_
          have hS := hS2
          clear hS2
          refine wpAnyH_ready (rs := [2]) (by kernel_rfl) (by simp) ?_
          refine AllReadyH.cons rfl (fun K hK => ?_) AllReadyH.nil
          rw [if_pos (by rfl)]
          go_simp
          have hS2 := LS.mka hS
          refine hK.out _ _ (LS.noa hS2) (fun _ => ?_)
          clear hK K hS
          try simp only [Act.put, List.getElem_toArray, List.getElem_cons_zero, List.getElem_cons_succ, List.setIfInBounds_toArray, List.set_cons_zero, List.set_cons_succ]
          generalize World.alloc _ _ = W2 at hS2 ⊢
          generalize Array.size _ = g12 at hS2 ⊢
          refine strong (S' := LS w (m : Int) m (some g12) (some g7) (some g11)) (fun _ h => LS.noa h) _ _ _ _ ?_
          have hS := hS2
          clear hS2
          refine wpAnyH_take (i := 3) (v := ?_) rfl (by kernel_rfl) (by kernel_rfl) (by kernel_rfl) (fun _ _ _ h => h) (Or.inl ⟨by rfl, ?_⟩) (by assumption) ?_
          rotate_left
          · (intro V hSw; have z := conv_at1 V (m : Int) c2 g12 HX2.out (hSw.a g12 rfl).1; go_simp; (try with_reducible rfl))
          try simp only [Act.put, List.getElem_toArray, List.getElem_cons_zero, List.getElem_cons_succ, List.setIfInBounds_toArray, List.set_cons_zero, List.set_cons_succ]
          refine wpAnyH_take (i := 4) (v := ?_) rfl (by kernel_rfl) (by kernel_rfl) (by kernel_rfl) (fun _ _ _ h => h) (Or.inl ⟨by rfl, ?_⟩) (by assumption) ?_
          rotate_left
          · (intro V hSw; go_simp; (try with_reducible rfl))
          try simp only [Act.put, List.getElem_toArray, List.getElem_cons_zero, List.getElem_cons_succ, List.setIfInBounds_toArray, List.set_cons_zero, List.set_cons_succ]
          refine wpAnyH_take (i := 10) (v := ?_) rfl (by kernel_rfl) (by kernel_rfl) (by kernel_rfl) (fun _ _ _ h => h) (Or.inl ⟨by rfl, ?_⟩) (by assumption) ?_
          rotate_left
          · (intro V hSw; go_simp; (try with_reducible rfl))
          try simp only [Act.put, List.getElem_toArray, List.getElem_cons_zero, List.getElem_cons_succ, List.setIfInBounds_toArray, List.set_cons_zero, List.set_cons_succ]
          refine wpAnyH_ready (rs := [11]) (by kernel_rfl) (by simp) ?_
          refine AllReadyH.cons rfl (fun K hK => ?_) AllReadyH.nil
          rw [if_pos (by rfl)]
          go_simp
          with_reducible refine (CG3.out _ (HT.out.below hS.bel HT.out.lt)).mono ?_
          rintro e w4 ⟨hb, sa, sc, rfl⟩
          have hS2 := LS.go hS hb
          refine hK.out _ _ hS2 (fun _ => ?_)
          clear hK K hS hb
          try simp only [Act.put, List.getElem_toArray, List.getElem_cons_zero, List.getElem_cons_succ, List.setIfInBounds_toArray, List.set_cons_zero, List.set_cons_succ]
          have hS := hS2
          clear hS2
          refine wpAnyH_take (i := 12) (v := ?_) rfl (by kernel_rfl) (by kernel_rfl) (by kernel_rfl) (fun _ _ _ h => h) (Or.inl ⟨by rfl, ?_⟩) (by assumption) ?_
          rotate_left
          · (intro V hSw; go_simp; (try with_reducible rfl))
          try simp only [Act.put, List.getElem_toArray, List.getElem_cons_zero, List.getElem_cons_succ, List.setIfInBounds_toArray, List.set_cons_zero, List.set_cons_succ]
          refine wpAnyH_take (i := 13) (v := ?_) rfl (by kernel_rfl) (by kernel_rfl) (by kernel_rfl) (fun _ _ _ h => h) (Or.inl ⟨by rfl, ?_⟩) (by assumption) ?_
          rotate_left
          · (intro V hSw; go_simp; (try with_reducible rfl))
          try simp only [Act.put, List.getElem_toArray, List.getElem_cons_zero, List.getElem_cons_succ, List.setIfInBounds_toArray, List.set_cons_zero, List.set_cons_succ]
          refine wpAnyH_take (i := 14) (v := ?_) rfl (by kernel_rfl) (by kernel_rfl) (by kernel_rfl) (fun _ _ _ h => h) (Or.inl ⟨by rfl, ?_⟩) (by assumption) ?_
          rotate_left
          · (intro V hSw; go_simp; (try with_reducible rfl))
          try simp only [Act.put, List.getElem_toArray, List.getElem_cons_zero, List.getElem_cons_succ, List.setIfInBounds_toArray, List.set_cons_zero, List.set_cons_succ]
          refine wpAnyH_take (i := 15) (v := ?_) rfl (by kernel_rfl) (by kernel_rfl) (by kernel_rfl) (fun _ _ _ h => h) (Or.inl ⟨by rfl, ?_⟩) (by assumption) ?_
          rotate_left
          · (intro V hSw; go_simp; (try with_reducible rfl))
          try simp only [Act.put, List.getElem_toArray, List.getElem_cons_zero, List.getElem_cons_succ, List.setIfInBounds_toArray, List.set_cons_zero, List.set_cons_succ]
          obtain ⟨hgx, F0, hF0⟩ := hS.x g11 rfl
          have y0 := hF0.cell0
          have y1 := hF0.cell1
          have y2 := hF0.cell2
          have y3 := hF0.cell3
          have y4 := hF0.cell4
          have y5 := hF0.cell5
          have y6 := hF0.cell6
          have y7 := hF0.cell7
          have y8 := hF0.cell8
          have y9 := hF0.cell9
          have y10 := hF0.cell10
          have y11 := hF0.cell11
          have y12 := hF0.cell12
          have yz := hF0.fz
          refine wpAnyH_ready (rs := [17]) (by kernel_rfl) (by simp) ?_
          refine AllReadyH.cons rfl (fun K hK => ?_) AllReadyH.nil
          rw [if_pos (by rfl)]
          go_simp
          obtain ⟨hS2, hF2⟩ := LS.put hS { lgF m with set := ⟨sa, 0, sc⟩ }
          refine hK.out _ (rstF g11 { lgF m with set := ⟨sa, 0, sc⟩ } _) hS2 (fun _ => ?_)
          clear hK K hS yz y0 y1 y2 y3 y4 y5 y6 y7 y8 y9 y10 y11 y12
          try simp only [Act.put, List.getElem_toArray, List.getElem_cons_zero, List.getElem_cons_succ, List.setIfInBounds_toArray, List.set_cons_zero, List.set_cons_succ]
          generalize rstF g11 { lgF m with set := ⟨sa, 0, sc⟩ } _ = W5 at hS2 hF2 ⊢
          have hS := hS2
          clear hS2
          refine wpAnyH_take (i := 18) (v := ?_) rfl (by kernel_rfl) (by kernel_rfl) (by kernel_rfl) (fun _ _ _ h => h) (Or.inl ⟨by rfl, ?_⟩) (by assumption) ?_
          rotate_left
          · (intro V hSw; go_simp; (try with_reducible rfl))
          try simp only [Act.put, List.getElem_toArray, List.getElem_cons_zero, List.getElem_cons_succ, List.setIfInBounds_toArray, List.set_cons_zero, List.set_cons_succ]
          refine wpAnyH_take (i := 19) (v := ?_) rfl (by kernel_rfl) (by kernel_rfl) (by kernel_rfl) (fun _ _ _ h => h) (Or.inl ⟨by rfl, ?_⟩) (by assumption) ?_
          rotate_left
          · (intro V hSw; go_simp; (try with_reducible rfl))
          try simp only [Act.put, List.getElem_toArray, List.getElem_cons_zero, List.getElem_cons_succ, List.setIfInBounds_toArray, List.set_cons_zero, List.set_cons_succ]
          refine wpAnyH_done (by kernel_rfl) (NoPanic.normal ?_) _
          go_wp2_with fail
          go_meet
          case rel => exact ⟨g11, _, rfl, rfl, rfl, hgx, hF2, rfl, hS.bel⟩
      · rw [if_pos (by rfl)]
        go_simp
        have hS2 := LS.mkx hS
        refine hK.out _ _ (LS.nox hS2) (fun _ => ?_)
        clear hK K hS
        try simp only [Act.put, List.getElem_toArray, List.getElem_cons_zero, List.getElem_cons_succ, List.setIfInBounds_toArray, List.set_cons_zero, List.set_cons_succ]
        generalize World.alloc _ _ = W2 at hS2 ⊢
        generalize Array.size _ = g13 at hS2 ⊢
        refine strong (S' := LS w (m : Int) m none none (some g13)) (fun _ h => LS.nox h) _ _ _ _ ?_
        have hS := hS2
        clear hS2
        refine wpAnyH_ready (rs := [2, 8]) (by kernel_rfl) (by simp) ?_
        refine AllReadyH.cons rfl (fun K hK => ?_) (AllReadyH.cons rfl (fun K hK => ?_) AllReadyH.nil)
        · rw [if_pos (by rfl)]
          go_simp
          have hS2 := LS.mka hS
          refine hK.out _ _ (LS.noa hS2) (fun _ => ?_)
          clear hK K hS
          try simp only [Act.put, List.getElem_toArray, List.getElem_cons_zero, List.getElem_cons_succ, List.setIfInBounds_toArray, List.set_cons_zero, List.set_cons_succ]
          generalize World.alloc _ _ = W2 at hS2 ⊢
          generalize Array.size _ = g14 at hS2 ⊢
          refine strong (S' := LS w (m : Int) m (some g14) none (some g13)) (fun _ h => LS.noa h) _ _ _ _ ?_
          have hS := hS2
          clear hS2
          refine wpAnyH_take (i := 3) (v := ?_) rfl (by kernel_rfl) (by kernel_rfl) (by kernel_rfl) (fun _ _ _ h => h) (Or.inl ⟨by rfl, ?_⟩) (by assumption) ?_
          rotate_left
          · (intro V hSw; have z := conv_at1 V (m : Int) c2 g14 HX2.out (hSw.a g14 rfl).1; go_simp; (try with_reducible rfl))
          try simp only [Act.put, List.getElem_toArray, List.getElem_cons_zero, List.getElem_cons_succ, List.setIfInBounds_toArray, List.set_cons_zero, List.set_cons_succ]
          refine wpAnyH_take (i := 4) (v := ?_) rfl (by kernel_rfl) (by kernel_rfl) (by kernel_rfl) (fun _ _ _ h => h) (Or.inl ⟨by rfl, ?_⟩) (by assumption) ?_
          rotate_left
          · (intro V hSw; go_simp; (try with_reducible rfl))
          try simp only [Act.put, List.getElem_toArray, List.getElem_cons_zero, List.getElem_cons_succ, List.setIfInBounds_toArray, List.set_cons_zero, List.set_cons_succ]
          refine wpAnyH_ready (rs := [8]) (by kernel_rfl) (by simp) ?_
          refine AllReadyH.cons rfl (fun K hK => ?_) AllReadyH.nil
          rw [if_pos (by rfl)]
          go_simp
          have hS2 := LS.mkb hS
          refine hK.out _ _ (LS.nob hS2) (fun _ => ?_)
          clear hK K hS
          try simp only [Act.put, List.getElem_toArray, List.getElem_cons_zero, List.getElem_cons_succ, List.setIfInBounds_toArray, List.set_cons_zero, List.set_cons_succ]
          generalize World.alloc _ _ = W2 at hS2 ⊢
          generalize Array.size _ = g15 at hS2 ⊢
          refine strong (S' := LS w (m : Int) m (some g14) (some g15) (some g13)) (fun _ h => LS.nob h) _ _ _ _ ?_
          have hS := hS2
          clear hS2
          refine wpAnyH_take (i := 9) (v := ?_) rfl (by kernel_rfl) (by kernel_rfl) (by kernel_rfl) (fun _ _ _ h => h) (Or.inl ⟨by rfl, ?_⟩) (by assumption) ?_
          rotate_left
          · (intro V hSw; have z := conv_at V m g15 (hSw.b g15 rfl).1; go_simp; (try with_reducible rfl))
          try simp only [Act.put, List.getElem_toArray, List.getElem_cons_zero, List.getElem_cons_succ, List.setIfInBounds_toArray, List.set_cons_zero, List.set_cons_succ]
          refine wpAnyH_take (i := 10) (v := ?_) rfl (by kernel_rfl) (by kernel_rfl) (by kernel_rfl) (fun _ _ _ h => h) (Or.inl ⟨by rfl, ?_⟩) (by assumption) ?_
          rotate_left
          · (intro V hSw; go_simp; (try with_reducible rfl))
          try simp only [Act.put, List.getElem_toArray, List.getElem_cons_zero, List.getElem_cons_succ, List.setIfInBounds_toArray, List.set_cons_zero, List.set_cons_succ]
          refine wpAnyH_ready (rs := [11]) (by kernel_rfl) (by simp) ?_
          refine AllReadyH.cons rfl (fun K hK => ?_) AllReadyH.nil
          rw [if_pos (by rfl)]
          go_simp
          with_reducible refine (CG3.out _ (HT.out.below hS.bel HT.out.lt)).mono ?_
          rintro e w4 ⟨hb, sa, sc, rfl⟩
          have hS2 := LS.go hS hb
          refine hK.out _ _ hS2 (fun _ => ?_)
          clear hK K hS hb
          try simp only [Act.put, List.getElem_toArray, List.getElem_cons_zero, List.getElem_cons_succ, List.setIfInBounds_toArray, List.set_cons_zero, List.set_cons_succ]
          have hS := hS2
          clear hS2
          refine wpAnyH_take (i := 12) (v := ?_) rfl (by kernel_rfl) (by kernel_rfl) (by kernel_rfl) (fun _ _ _ h => h) (Or.inl ⟨by rfl, ?_⟩) (by assumption) ?_
          rotate_left
          · (intro V hSw; go_simp; (try with_reducible rfl))
          try simp only [Act.put, List.getElem_toArray, List.getElem_cons_zero, List.getElem_cons_succ, List.setIfInBounds_toArray, List.set_cons_zero, List.set_cons_succ]
          refine wpAnyH_take (i := 13) (v := ?_) rfl (by kernel_rfl) (by kernel_rfl) (by kernel_rfl) (fun _ _ _ h => h) (Or.inl ⟨by rfl, ?_⟩) (by assumption) ?_
          rotate_left
          · (intro V hSw; go_simp; (try with_reducible rfl))
          try simp only [Act.put, List.getElem_toArray, List.getElem_cons_zero, List.getElem_cons_succ, List.setIfInBounds_toArray, List.set_cons_zero, List.set_cons_succ]
          refine wpAnyH_take (i := 14) (v := ?_) rfl (by kernel_rfl) (by kernel_rfl) (by kernel_rfl) (fun _ _ _ h => h) (Or.inl ⟨by rfl, ?_⟩) (by assumption) ?_
          rotate_left
          · (intro V hSw; go_simp; (try with_reducible rfl))
          try simp only [Act.put, List.getElem_toArray, List.getElem_cons_zero, List.getElem_cons_succ, List.setIfInBounds_toArray, List.set_cons_zero, List.set_cons_succ]
          refine wpAnyH_take (i := 15) (v := ?_) rfl (by kernel_rfl) (by kernel_rfl) (by kernel_rfl) (fun _ _ _ h => h) (Or.inl ⟨by rfl, ?_⟩) (by assumption) ?_
          rotate_left
          · (intro V hSw; go_simp; (try with_reducible rfl))
          try simp only [Act.put, List.getElem_toArray, List.getElem_cons_zero, List.getElem_cons_succ, List.setIfInBounds_toArray, List.set_cons_zero, List.set_cons_succ]
          obtain ⟨hgx, F0, hF0⟩ := hS.x g13 rfl
          have y0 := hF0.cell0
          have y1 := hF0.cell1
          have y2 := hF0.cell2
          have y3 := hF0.cell3
          have y4 := hF0.cell4
          have y5 := hF0.cell5
          have y6 := hF0.cell6
          have y7 := hF0.cell7
          have y8 := hF0.cell8
          have y9 := hF0.cell9
          have y10 := hF0.cell10
          have y11 := hF0.cell11
          have y12 := hF0.cell12
          have yz := hF0.fz
          refine wpAnyH_ready (rs := [17]) (by kernel_rfl) (by simp) ?_
          refine AllReadyH.cons rfl (fun K hK => ?_) AllReadyH.nil
          rw [if_pos (by rfl)]
          go_simp
          obtain ⟨hS2, hF2⟩ := LS.put hS { lgF m with set := ⟨sa, 0, sc⟩ }
          refine hK.out _ (rstF g13 { lgF m with set := ⟨sa, 0, sc⟩ } _) hS2 (fun _ => ?_)
          clear hK K hS yz y0 y1 y2 y3 y4 y5 y6 y7 y8 y9 y10 y11 y12
          try simp only [Act.put, List.getElem_toArray, List.getElem_cons_zero, List.getElem_cons_succ, List.setIfInBounds_toArray, List.set_cons_zero, List.set_cons_succ]
          generalize rstF g13 { lgF m with set := ⟨sa, 0, sc⟩ } _ = W5 at hS2 hF2 ⊢
          have hS := hS2
          clear hS2
          refine wpAnyH_take (i := 18) (v := ?_) rfl (by kernel_rfl) (by kernel_rfl) (by kernel_rfl) (fun _ _ _ h => h) (Or.inl ⟨by rfl, ?_⟩) (by assumption) ?_
          rotate_left
          · (intro V hSw; go_simp; (try with_reducible rfl))
          try simp only [Act.put, List.getElem_toArray, List.getElem_cons_zero, List.getElem_cons_succ, List.setIfInBounds_toArray, List.set_cons_zero, List.set_cons_succ]
          refine wpAnyH_take (i := 19) (v := ?_) rfl (by kernel_rfl) (by kernel_rfl) (by kernel_rfl) (fun _ _ _ h => h) (Or.inl ⟨by rfl, ?_⟩) (by assumption) ?_
          rotate_left
          · (intro V hSw; go_simp; (try with_reducible rfl))
          try simp only [Act.put, List.getElem_toArray, List.getElem_cons_zero, List.getElem_cons_succ, List.setIfInBounds_toArray, List.set_cons_zero, List.set_cons_succ]
          refine wpAnyH_done (by kernel_rfl) (NoPanic.normal ?_) _
          go_wp2_with fail
          go_meet
          case rel => exact ⟨g13, _, rfl, rfl, rfl, hgx, hF2, rfl, hS.bel⟩
        · rw [if_pos (by rfl)]
          go_simp
          have hS2 := LS.mkb hS
          refine hK.out _ _ (LS.nob hS2) (fun _ => ?_)
          clear hK K hS
          try simp only [Act.put, List.getElem_toArray, List.getElem_cons_zero, List.getElem_cons_succ, List.setIfInBounds_toArray, List.set_cons_zero, List.set_cons_succ]
          generalize World.alloc _ _ = W2 at hS2 ⊢
          generalize Array.size _ = g16 at hS2 ⊢
          refine strong (S' := LS w (m : Int) m none (some g16) (some g13)) (fun _ h => LS.nob h) _ _ _ _ ?_
          have hS := hS2
          clear hS2
          refine wpAnyH_take (i := 9) (v := ?_) rfl (by kernel_rfl) (by kernel_rfl) (by kernel_rfl) (fun _ _ _ h => h) (Or.inl ⟨by rfl, ?_⟩) (by assumption) ?_
          rotate_left
          · (intro V hSw; have z := conv_at V m g16 (hSw.b g16 rfl).1; go_simp; (try with_reducible rfl))
          try simp only [Act.put, List.getElem_toArray, List.getElem_cons_zero, List.getElem_cons_succ, List.setIfInBounds_toArray, List.set_cons_zero, List.set_cons_succ]
          refine wpAnyH_ready (rs := [2]) (by kernel_rfl) (by simp) ?_
          refine AllReadyH.cons rfl (fun K hK => ?_) AllReadyH.nil
          rw [if_pos (by rfl)]
          go_simp
          have hS2 := LS.mka hS
          refine hK.out _ _ (LS.noa hS2) (fun _ => ?_)
          clear hK K hS
          try simp only [Act.put, List.getElem_toArray, List.getElem_cons_zero, List.getElem_cons_succ, List.setIfInBounds_toArray, List.set_cons_zero, List.set_cons_succ]
          generalize World.alloc _ _ = W2 at hS2 ⊢
          generalize Array.size _ = g17 at hS2 ⊢
          refine strong (S' := LS w (m : Int) m (some g17) (some g16) (some g13)) (fun _ h => LS.noa h) _ _ _ _ ?_
          have hS := hS2
          clear hS2
          refine wpAnyH_take (i := 3) (v := ?_) rfl (by kernel_rfl) (by kernel_rfl) (by kernel_rfl) (fun _ _ _ h => h) (Or.inl ⟨by rfl, ?_⟩) (by assumption) ?_
          rotate_left
          · (intro V hSw; have z := conv_at1 V (m : Int) c2 g17 HX2.out (hSw.a g17 rfl).1; go_simp; (try with_reducible rfl))
          try simp only [Act.put, List.getElem_toArray, List.getElem_cons_zero, List.getElem_cons_succ, List.setIfInBounds_toArray, List.set_cons_zero, List.set_cons_succ]
          refine wpAnyH_take (i := 4) (v := ?_) rfl (by kernel_rfl) (by kernel_rfl) (by kernel_rfl) (fun _ _ _ h => h) (Or.inl ⟨by rfl, ?_⟩) (by assumption) ?_
          rotate_left
          · (intro V hSw; go_simp; (try with_reducible rfl))
          try simp only [Act.put, List.getElem_toArray, List.getElem_cons_zero, List.getElem_cons_succ, List.setIfInBounds_toArray, List.set_cons_zero, List.set_cons_succ]
          refine wpAnyH_take (i := 10) (v := ?_) rfl (by kernel_rfl) (by kernel_rfl) (by kernel_rfl) (fun _ _ _ h => h) (Or.inl ⟨by rfl, ?_⟩) (by assumption) ?_
          rotate_left
          · (intro V hSw; go_simp; (try with_reducible rfl))
          try simp only [Act.put, List.getElem_toArray, List.getElem_cons_zero, List.getElem_cons_succ, List.setIfInBounds_toArray, List.set_cons_zero, List.set_cons_succ]
          refine wpAnyH_ready (rs := [11]) (by kernel_rfl) (by simp) ?_
          refine AllReadyH.cons rfl (fun K hK => ?_) AllReadyH.nil
          rw [if_pos (by rfl)]
          go_simp
          with_reducible refine (CG3.out _ (HT.out.below hS.bel HT.out.lt)).mono ?_
          rintro e w4 ⟨hb, sa, sc, rfl⟩
          have hS2 := LS.go hS hb
          refine hK.out _ _ hS2 (fun _ => ?_)
          clear hK K hS hb
          try simp only [Act.put, List.getElem_toArray, List.getElem_cons_zero, List.getElem_cons_succ, List.setIfInBounds_toArray, List.set_cons_zero, List.set_cons_succ]
          have hS := hS2
          clear hS2
          refine wpAnyH_take (i := 12) (v := ?_) rfl (by kernel_rfl) (by kernel_rfl) (by kernel_rfl) (fun _ _ _ h => h) (Or.inl ⟨by rfl, ?_⟩) (by assumption) ?_
          rotate_left
          · (intro V hSw; go_simp; (try with_reducible rfl))
          try simp only [Act.put, List.getElem_toArray, List.getElem_cons_zero, List.getElem_cons_succ, List.setIfInBounds_toArray, List.set_cons_zero, List.set_cons_succ]
          refine wpAnyH_take (i := 13) (v := ?_) rfl (by kernel_rfl) (by kernel_rfl) (by kernel_rfl) (fun _ _ _ h => h) (Or.inl ⟨by rfl, ?_⟩) (by assumption) ?_
          rotate_left
          · (intro V hSw; go_simp; (try with_reducible rfl))
          try simp only [Act.put, List.getElem_toArray, List.getElem_cons_zero, List.getElem_cons_succ, List.setIfInBounds_toArray, List.set_cons_zero, List.set_cons_succ]
          refine wpAnyH_take (i := 14) (v := ?_) rfl (by kernel_rfl) (by kernel_rfl) (by kernel_rfl) (fun _ _ _ h => h) (Or.inl ⟨by rfl, ?_⟩) (by assumption) ?_
          rotate_left
          · (intro V hSw; go_simp; (try with_reducible rfl))
          try simp only [Act.put, List.getElem_toArray, List.getElem_cons_zero, List.getElem_cons_succ, List.setIfInBounds_toArray, List.set_cons_zero, List.set_cons_succ]
          refine wpAnyH_take (i := 15) (v := ?_) rfl (by kernel_rfl) (by kernel_rfl) (by kernel_rfl) (fun _ _ _ h => h) (Or.inl ⟨by rfl, ?_⟩) (by assumption) ?_
          rotate_left
          · (intro V hSw; go_simp; (try with_reducible rfl))
          try simp only [Act.put, List.getElem_toArray, List.getElem_cons_zero, List.getElem_cons_succ, List.setIfInBounds_toArray, List.set_cons_zero, List.set_cons_succ]
          obtain ⟨hgx, F0, hF0⟩ := hS.x g13 rfl
          have y0 := hF0.cell0
          have y1 := hF0.cell1
          have y2 := hF0.cell2
          have y3 := hF0.cell3
          have y4 := hF0.cell4
          have y5 := hF0.cell5
          have y6 := hF0.cell6
          have y7 := hF0.cell7
          have y8 := hF0.cell8
          have y9 := hF0.cell9
          have y10 := hF0.cell10
          have y11 := hF0.cell11
          have y12 := hF0.cell12
          have yz := hF0.fz
          refine wpAnyH_ready (rs := [17]) (by kernel_rfl) (by simp) ?_
          refine AllReadyH.cons rfl (fun K hK => ?_) AllReadyH.nil
          rw [if_pos (by rfl)]
          go_simp
          obtain ⟨hS2, hF2⟩ := LS.put hS { lgF m with set := ⟨sa, 0, sc⟩ }
          refine hK.out _ (rstF g13 { lgF m with set := ⟨sa, 0, sc⟩ } _) hS2 (fun _ => ?_)
          clear hK K hS yz y0 y1 y2 y3 y4 y5 y6 y7 y8 y9 y10 y11 y12
          try simp only [Act.put, List.getElem_toArray, List.getElem_cons_zero, List.getElem_cons_succ, List.setIfInBounds_toArray, List.set_cons_zero, List.set_cons_succ]
          generalize rstF g13 { lgF m with set := ⟨sa, 0, sc⟩ } _ = W5 at hS2 hF2 ⊢
          have hS := hS2
          clear hS2
          refine wpAnyH_take (i := 18) (v := ?_) rfl (by kernel_rfl) (by kernel_rfl) (by kernel_rfl) (fun _ _ _ h => h) (Or.inl ⟨by rfl, ?_⟩) (by assumption) ?_
          rotate_left
          · (intro V hSw; go_simp; (try with_reducible rfl))
          try simp only [Act.put, List.getElem_toArray, List.getElem_cons_zero, List.getElem_cons_succ, List.setIfInBounds_toArray, List.set_cons_zero, List.set_cons_succ]
          refine wpAnyH_take (i := 19) (v := ?_) rfl (by kernel_rfl) (by kernel_rfl) (by kernel_rfl) (fun _ _ _ h => h) (Or.inl ⟨by rfl, ?_⟩) (by assumption) ?_
          rotate_left
          · (intro V hSw; go_simp; (try with_reducible rfl))
          try simp only [Act.put, List.getElem_toArray, List.getElem_cons_zero, List.getElem_cons_succ, List.setIfInBounds_toArray, List.set_cons_zero, List.set_cons_succ]
          refine wpAnyH_done (by kernel_rfl) (NoPanic.normal ?_) _
          go_wp2_with fail
          go_meet
          case rel => exact ⟨g13, _, rfl, rfl, rfl, hgx, hF2, rfl, hS.bel⟩
    case rest =>
      obtain ⟨g, F, rfl, rfl, rfl, hg, hF, hd, hbw⟩ := hcut
      have y9 := hF.cell9
      rw [hd] at y9
      have HB4 := Lib.hid hbw
      clear hbw hF hg hd CG3
      go_wp2_with fail
      with_reducible refine (CS.out _ (HT.out.below HB4.out HT.out.lt)).mono ?_
      rintro e w6 ⟨rfl, hb⟩
      have HB6 := Lib.hid (HB4.out.trans (hb.mono HB4.out.size))
      clear hb
      go_wp2
      go_ret
      exact ⟨rfl, HB6.out⟩
theorem law_long (k n : Int) (w : World) (ht : Tab w) (hk : (Lit.int .u8 k).wf = true) (hn : (Lit.int .u8 n).wf = true) :
    Calls Tryd.prog 6 #[.int .u8 k, .int .u8 n] w fun e w' => e = .returned (.bool true) ∧ Below w.heap.size w w' := by
  obtain ⟨k0, k1⟩ := bounds_u8 hk
  obtain ⟨n0, n1⟩ := bounds_u8 hn
  obtain ⟨a, rfl⟩ : ∃ a : Nat, k = (a : Int) := ⟨k.toNat, by omega⟩
  obtain ⟨b, rfl⟩ : ∃ a : Nat, n = (a : Int) := ⟨n.toNat, by omega⟩
  exact long_any a b w ht (by omega) (by omega)
end Go.Proofs.YtpdfdhmhfdogcaaDoor.Fm
