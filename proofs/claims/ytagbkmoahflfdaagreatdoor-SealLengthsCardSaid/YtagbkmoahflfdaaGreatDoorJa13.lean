/- The walks of layer 8: labelled, Expand, Label, Next · The walks of layer 8: fill, Of, Shared. -/
import Derived.Test.YtagbkmoahflfdaaGreatDoorJa12
import Derived.Deep.RegionHeld3
namespace Go.Proofs.YtagbkmoahflfdaaGreatDoor.Kd
set_option maxRecDepth 20000
open Go.RowKit
open Go.Proofs.YtagbkmoahflfdaaGreatDoor.Dg
open Go.Proofs.YtagbkmoahflfdaaGreatDoor.Vm (fx fx_length vfixed)
set_option linter.unusedVariables false
set_option linter.unusedSimpArgs false

set_option maxHeartbeats 8000000 in
theorem labelled_of (O I label ctx : List UInt8) (n : Nat) (w : World) (hO : O.length ≤ 100) (hI : I.length ≤ 100) (hl : label.length ≤ 1000) (hc : ctx.length ≤ 1000) (hn : n ≤ 8160) :
    Calls Tryz.prog 76 #[.agg #[.string ⟨O.toArray⟩, .string ⟨I.toArray⟩], .string ⟨label.toArray⟩, .string ⟨ctx.toArray⟩, .int .i64 n] w fun e w' => e = .returned (.string ⟨(lab O I label ctx n).toArray⟩) ∧ Below w.heap.size w w' := by
  have HB0 : Hid (Below w.heap.size w (w.alloc (.cells #[.string ⟨O.toArray⟩, .string ⟨I.toArray⟩] 82)).drew) := Lib.hid (below_drew ((Below.refl _ _).alloc (Nat.le_refl _) _))
  have HT0 : Hid ((w.alloc (.cells #[.string ⟨O.toArray⟩, .string ⟨I.toArray⟩] 82)).drew.cell? ⟨w.heap.size, 0, none⟩ = some (.string ⟨O.toArray⟩) ∧ (w.alloc (.cells #[.string ⟨O.toArray⟩, .string ⟨I.toArray⟩] 82)).drew.cell? ⟨w.heap.size, 1, none⟩ = some (.string ⟨I.toArray⟩)) := Lib.hid (by constructor <;> simp [go_sem])
  have CF : Hid (∀ W : World, Calls Tryz.prog 88 #[.int .u64 n, .int .i64 2] W fun e w' => e = .returned (.string ⟨(fx n 2).toArray⟩) ∧ Below W.heap.size W w') := Lib.hid (fun W => vfixed n 2 W (by omega) (by decide) (by decide))
  have hw : IntKind.u64.wrap (n : Int) = (n : Int) := by rw [IntKind.wrap_u64]; omega
  have htl : (tls ++ label).length = 6 + label.length := by rw [List.length_append]; rfl
  have CC1 := Lib.hid (fun W => counted_any (tls ++ label) W (by rw [htl]; omega))
  have CC2 := Lib.hid (fun W => counted_any ctx W (by omega))
  have hil := inf_len label ctx n
  have CX : Hid (∀ W : World, Calls Tryz.prog 109 #[.agg #[.string ⟨O.toArray⟩, .string ⟨I.toArray⟩], .int .i64 n, .slice (some ⟨W.heap.size, 0, none⟩) 3 3] (W.alloc (.cells #[.string ⟨(fx n 2).toArray⟩, .string ⟨(cnt (tls ++ label)).toArray⟩, .string ⟨(cnt ctx).toArray⟩] 9)) fun e w' => e = .returned (.string ⟨(lab O I label ctx n).toArray⟩) ∧ Below W.heap.size W w') := Lib.hid (fun W => by
    refine (expanded_of O I (inf label ctx n) n _ _ hO hI (by omega) hn (Lib.hid fun W' hW' => join_new [⟨(fx n 2).toArray⟩, ⟨(cnt (tls ++ label)).toArray⟩, ⟨(cnt ctx).toArray⟩] _ rfl 3 rfl (by omega) _ (cat_3 _ _ _) (by show (inf label ctx n).length ≤ _; omega) W W' W.heap.size rfl hW')).mono ?_
    rintro e w' ⟨h1, h2⟩
    exact ⟨h1, ((Below.refl _ _).alloc (Nat.le_refl _) _).trans (h2.mono (by simp))⟩)
  have hcat : (⟨#[116, 108, 115, 49, 51, 32]⟩ : ByteArray) ++ ⟨label.toArray⟩ = ⟨(tls ++ label).toArray⟩ := app_two tls label
  have hls : (⟨label.toArray⟩ : ByteArray).size = label.length := rfl
  have g1 : ¬ 9223372036854775807 < 6 + label.length := by omega
  generalize lab O I label ctx n = X at *
  generalize tls ++ label = TL at *
  generalize cnt TL = C1 at *
  generalize cnt ctx = C2 at *
  generalize fx n 2 = F at *
  clear hil htl
  go_enter Tryz.func76, Tryz.ntmps76
  go_wp2
  refine wp_region_noPanic ?_
  refine wp_region_held_drew (S := fun w' : World => w'.cell? ⟨w.heap.size, 0, none⟩ = some (.string ⟨O.toArray⟩) ∧ w'.cell? ⟨w.heap.size, 1, none⟩ = some (.string ⟨I.toArray⟩)) (by kernel_rfl) ?_ (fun hHeld => ?_)
  · exact HT0.out
  refine wpAnyH_take (i := 0) (v := ?_) rfl (by kernel_rfl) (by kernel_rfl) (by kernel_rfl) (fun _ _ _ h => h) (Or.inl ⟨by rfl, ?_⟩) (by assumption) ?_
  rotate_left
  · (intro w hSw; (obtain ⟨hS0, hS1⟩ := hSw); go_simp; (try with_reducible rfl))
  try simp only [Act.put, List.getElem_toArray, List.getElem_cons_zero, List.getElem_cons_succ, List.setIfInBounds_toArray, List.set_cons_zero, List.set_cons_succ]
  refine wpAnyH_take (i := 1) (v := ?_) rfl (by kernel_rfl) (by kernel_rfl) (by kernel_rfl) (fun _ _ _ h => h) (Or.inl ⟨by rfl, ?_⟩) (by assumption) ?_
  rotate_left
  · (intro w hSw; (obtain ⟨hS0, hS1⟩ := hSw); go_simp; (try with_reducible rfl))
  try simp only [Act.put, List.getElem_toArray, List.getElem_cons_zero, List.getElem_cons_succ, List.setIfInBounds_toArray, List.set_cons_zero, List.set_cons_succ]
  refine wpAnyH_take (i := 2) (v := ?_) rfl (by kernel_rfl) (by kernel_rfl) (by kernel_rfl) (fun _ _ _ h => h) (Or.inl ⟨by rfl, ?_⟩) (by assumption) ?_
  rotate_left
  · (intro w hSw; (obtain ⟨hS0, hS1⟩ := hSw); go_simp; (try with_reducible rfl))
  try simp only [Act.put, List.getElem_toArray, List.getElem_cons_zero, List.getElem_cons_succ, List.setIfInBounds_toArray, List.set_cons_zero, List.set_cons_succ]
  refine wpAnyH_take (i := 3) (v := ?_) rfl (by kernel_rfl) (by kernel_rfl) (by kernel_rfl) (fun _ _ _ h => h) (Or.inl ⟨by rfl, ?_⟩) (by assumption) ?_
  rotate_left
  · (intro w hSw; (obtain ⟨hS0, hS1⟩ := hSw); go_simp; (try with_reducible rfl))
  try simp only [Act.put, List.getElem_toArray, List.getElem_cons_zero, List.getElem_cons_succ, List.setIfInBounds_toArray, List.set_cons_zero, List.set_cons_succ]
  refine wpAnyH_take (i := 5) (v := ?_) rfl (by kernel_rfl) (by kernel_rfl) (by kernel_rfl) (fun _ _ _ h => h) (Or.inl ⟨by rfl, ?_⟩) (by assumption) ?_
  rotate_left
  · (intro w hSw; (obtain ⟨hS0, hS1⟩ := hSw); go_simp; (try with_reducible rfl))
  try simp only [Act.put, List.getElem_toArray, List.getElem_cons_zero, List.getElem_cons_succ, List.setIfInBounds_toArray, List.set_cons_zero, List.set_cons_succ]
  refine wpAnyH_take (i := 6) (v := ?_) rfl (by kernel_rfl) (by kernel_rfl) (by kernel_rfl) (fun _ _ _ h => h) (Or.inl ⟨by rfl, ?_⟩) (by assumption) ?_
  rotate_left
  · (intro w hSw; (obtain ⟨hS0, hS1⟩ := hSw); go_simp; (try with_reducible rfl))
  try simp only [Act.put, List.getElem_toArray, List.getElem_cons_zero, List.getElem_cons_succ, List.setIfInBounds_toArray, List.set_cons_zero, List.set_cons_succ]
  refine wpAnyH_take (i := 8) (v := ?_) rfl (by kernel_rfl) (by kernel_rfl) (by kernel_rfl) (fun _ _ _ h => h) (Or.inl ⟨by rfl, ?_⟩) (by assumption) ?_
  rotate_left
  · (intro w hSw; (obtain ⟨hS0, hS1⟩ := hSw); go_simp; (try with_reducible rfl))
  try simp only [Act.put, List.getElem_toArray, List.getElem_cons_zero, List.getElem_cons_succ, List.setIfInBounds_toArray, List.set_cons_zero, List.set_cons_succ]
  refine wpAnyH_ready (rs := [4]) (by kernel_rfl) (by simp) ?_
  refine AllReadyH.cons rfl (fun K hK => ?_) AllReadyH.nil
  rw [if_pos (by rfl)]
  go_simp
  with_reducible refine (CF.out _).mono ?_
  rintro e w1 ⟨rfl, hb1⟩
  have HT1 := Lib.hid (two_call HT0.out hb1)
  have HB1 := Lib.hid (HB0.out.trans (hb1.mono HB0.out.size))
  clear hb1
  refine hK.out _ _ ?_ (fun hHeld => ?_)
  · exact HT1.out
  clear hK K
  try simp only [Act.put, List.getElem_toArray, List.getElem_cons_zero, List.getElem_cons_succ, List.setIfInBounds_toArray, List.set_cons_zero, List.set_cons_succ]
  refine wpAnyH_ready (rs := [7]) (by kernel_rfl) (by simp) ?_
  refine AllReadyH.cons rfl (fun K hK => ?_) AllReadyH.nil
  rw [if_pos (by rfl)]
  go_simp
  with_reducible refine (CC1.out _).mono ?_
  rintro e w2 ⟨rfl, hb2⟩
  have HT2 := Lib.hid (two_call HT1.out hb2)
  have HB2 := Lib.hid (HB1.out.trans (hb2.mono HB1.out.size))
  clear hb2
  refine hK.out _ _ ?_ (fun hHeld => ?_)
  · exact HT2.out
  clear hK K
  try simp only [Act.put, List.getElem_toArray, List.getElem_cons_zero, List.getElem_cons_succ, List.setIfInBounds_toArray, List.set_cons_zero, List.set_cons_succ]
  refine wpAnyH_ready (rs := [9]) (by kernel_rfl) (by simp) ?_
  refine AllReadyH.cons rfl (fun K hK => ?_) AllReadyH.nil
  rw [if_pos (by rfl)]
  go_simp
  with_reducible refine (CC2.out _).mono ?_
  rintro e w3 ⟨rfl, hb3⟩
  have HT3 := Lib.hid (two_call HT2.out hb3)
  have HB3 := Lib.hid (HB2.out.trans (hb3.mono HB2.out.size))
  clear hb3
  refine hK.out _ _ ?_ (fun hHeld => ?_)
  · exact HT3.out
  clear hK K
  try simp only [Act.put, List.getElem_toArray, List.getElem_cons_zero, List.getElem_cons_succ, List.setIfInBounds_toArray, List.set_cons_zero, List.set_cons_succ]
  refine wpAnyH_ready (rs := [10]) (by kernel_rfl) (by simp) ?_
  refine AllReadyH.cons rfl (fun K hK => ?_) AllReadyH.nil
  rw [if_pos (by rfl)]
  go_simp
  refine hK.out _ _ ?_ (fun hHeld => ?_)
  · exact two_alloc HT3.out _
  clear hK K
  try simp only [Act.put, List.getElem_toArray, List.getElem_cons_zero, List.getElem_cons_succ, List.setIfInBounds_toArray, List.set_cons_zero, List.set_cons_succ]
  refine wpAnyH_ready (rs := [11]) (by kernel_rfl) (by simp) ?_
  refine AllReadyH.cons rfl (fun K hK => ?_) AllReadyH.nil
  rw [if_pos (by rfl)]
  go_simp
  with_reducible refine (CX.out w3).mono ?_
  rintro e w4 ⟨rfl, hb4⟩
  have HT4 := Lib.hid (two_call HT3.out hb4)
  have HB4 := Lib.hid (HB3.out.trans (hb4.mono HB3.out.size))
  clear hb4
  refine hK.out _ _ ?_ (fun hHeld => ?_)
  · exact HT4.out
  clear hK K
  try simp only [Act.put, List.getElem_toArray, List.getElem_cons_zero, List.getElem_cons_succ, List.setIfInBounds_toArray, List.set_cons_zero, List.set_cons_succ]
  refine wpAnyH_take (i := 12) (v := ?_) rfl (by kernel_rfl) (by kernel_rfl) (by kernel_rfl) (fun _ _ _ h => h) (Or.inl ⟨by rfl, ?_⟩) (by assumption) ?_
  rotate_left
  · (intro w hSw; (obtain ⟨hS0, hS1⟩ := hSw); go_simp; (try with_reducible rfl))
  try simp only [Act.put, List.getElem_toArray, List.getElem_cons_zero, List.getElem_cons_succ, List.setIfInBounds_toArray, List.set_cons_zero, List.set_cons_succ]
  refine wpAnyH_done (by kernel_rfl) (NoPanic.normal ?_) _
  go_wp2
  go_ret
  exact ⟨rfl, HB4.out⟩
theorem labelled_key (k label ctx : List UInt8) (n : Nat) (w : World) (hl : label.length ≤ 1000) (hc : ctx.length ≤ 1000) (hn : n ≤ 8160) :
    Calls Tryz.prog 76 #[.agg #[.string ⟨(ko k).toArray⟩, .string ⟨(ki k).toArray⟩], .string ⟨label.toArray⟩, .string ⟨ctx.toArray⟩, .int .i64 n] w fun e w' => e = .returned (.string ⟨(lab (ko k) (ki k) label ctx n).toArray⟩) ∧ Below w.heap.size w w' :=
  labelled_of (ko k) (ki k) label ctx n w (by rw [ko_len]; omega) (by rw [ki_len]; omega) hl hc hn
/-- What Expand answers. -/
def exP (k info : List UInt8) (n : Int) : Ending := if 0 ≤ n ∧ n ≤ 8160 then .returned (.tuple #[.string ⟨(exq (ko k) (ki k) info n.toNat).toArray⟩, .int .i64 0]) else .returned (.tuple #[.string ⟨#[]⟩, .int .i64 1])
/-- What Label answers. -/
def lbP (k label ctx : List UInt8) (n : Int) : Ending := if (0 ≤ n ∧ n ≤ 8160) ∧ label.length ≤ 249 ∧ ctx.length ≤ 255 then .returned (.tuple #[.string ⟨(lab (ko k) (ki k) label ctx n.toNat).toArray⟩, .int .i64 0]) else .returned (.tuple #[.string ⟨#[]⟩, .int .i64 1])
def nxt (k : List UInt8) : List UInt8 := lab (ko k) (ki k) [113, 117, 105, 99, 32, 107, 117] [] 32
set_option maxHeartbeats 2000000 in
theorem next_any (k : List UInt8) (w : World) (hk : k.length ≤ 100000) :
    Calls Tryz.prog 49 #[.string ⟨k.toArray⟩] w fun e w' => e = .returned (.string ⟨(nxt k).toArray⟩) ∧ Below w.heap.size w w' := by
  have C1 := Lib.hid (fun W => secretOf_any k W hk)
  have C2 : Hid (∀ W : World, Calls Tryz.prog 76 #[.agg #[.string ⟨(ko k).toArray⟩, .string ⟨(ki k).toArray⟩], .string ⟨#[113, 117, 105, 99, 32, 107, 117]⟩, .string ⟨#[]⟩, .int .i64 32] W fun e w' => e = .returned (.string ⟨(nxt k).toArray⟩) ∧ Below W.heap.size W w') := Lib.hid (fun W => labelled_key k [113, 117, 105, 99, 32, 107, 117] [] 32 W (by decide) (by decide) (by decide))
  generalize nxt k = X at *
  generalize ko k = KO at *
  generalize ki k = KI at *
  go_enter Tryz.func49, Tryz.ntmps49
  go_wp2_with fail
  with_reducible refine (C1.out _).mono ?_
  rintro e w2 ⟨rfl, hb⟩
  have HB2 := Lib.hid hb
  clear hb
  go_wp2_with fail
  with_reducible refine (C2.out _).mono ?_
  rintro e w3 ⟨rfl, hb⟩
  have HB3 := Lib.hid (HB2.out.trans (hb.mono HB2.out.size))
  clear hb
  go_wp2
  go_ret
  exact ⟨rfl, HB3.out⟩
end Go.Proofs.YtagbkmoahflfdaaGreatDoor.Kd
namespace Go.Proofs.YtagbkmoahflfdaaGreatDoor.Kd
set_option maxRecDepth 20000
open Go.RowKit
open Go.Proofs.YtagbkmoahflfdaaGreatDoor.Dg
open Go.Proofs.YtagbkmoahflfdaaGreatDoor.Vm (fx fx_length vfixed)
set_option linter.unusedVariables false
set_option linter.unusedSimpArgs false

/-- A block of keys and what they are made of. -/
def KB (w : World) (b : Nat) (o i x y z : ByteArray) : Prop := w.heap[b]? = some (.cells #[.string o, .string i, .string x, .string y, .string z] 85 (0, 0))
theorem KB.lt {w : World} {b : Nat} {o i x y z : ByteArray} (h : KB w b o i x y z) : b < w.heap.size := (Array.getElem?_eq_some_iff.1 h).1
theorem KB.keep {w w' : World} {b : Nat} {o i x y z : ByteArray} (h : KB w b o i x y z) (hb : Below w.heap.size w w') : KB w' b o i x y z := (hb.block b h.lt).trans h
theorem KB.cells {w : World} {b : Nat} {o i x y z : ByteArray} (h : KB w b o i x y z) : w.cell? ⟨b, 0, none⟩ = some (.string o) ∧ w.cell? ⟨b, 1, none⟩ = some (.string i) ∧ w.cell? ⟨b, 2, none⟩ = some (.string x) ∧ w.cell? ⟨b, 3, none⟩ = some (.string y) ∧ w.cell? ⟨b, 4, none⟩ = some (.string z) := by
  refine ⟨?_, ?_, ?_, ?_, ?_⟩ <;> (rw [Lib.cell_of_heap h]; rfl)
theorem KB.fz {w : World} {b : Nat} {o i x y z : ByteArray} (h : KB w b o i x y z) (j : Nat) : w.frozen? ⟨b, j, none⟩ = false := Lib.frozen_of_heap h j
theorem KB.put2 {w : World} {b : Nat} {o i x y z : ByteArray} (h : KB w b o i x y z) (v : ByteArray) : KB (w.setCell ⟨b, 2, none⟩ (.string v)) b o i v y z := by
  have := Joins.block_setCell (i := 2) h (.string v)
  unfold KB
  rw [this]
  simp
theorem KB.put3 {w : World} {b : Nat} {o i x y z : ByteArray} (h : KB w b o i x y z) (v : ByteArray) : KB (w.setCell ⟨b, 3, none⟩ (.string v)) b o i x v z := by
  have := Joins.block_setCell (i := 3) h (.string v)
  unfold KB
  rw [this]
  simp
theorem KB.put4 {w : World} {b : Nat} {o i x y z : ByteArray} (h : KB w b o i x y z) (v : ByteArray) : KB (w.setCell ⟨b, 4, none⟩ (.string v)) b o i x y v := by
  have := Joins.block_setCell (i := 4) h (.string v)
  unfold KB
  rw [this]
  simp
def kKey (k : List UInt8) : List UInt8 := lab (ko k) (ki k) [113, 117, 105, 99, 32, 107, 101, 121] [] 32
def kIv (k : List UInt8) : List UInt8 := lab (ko k) (ki k) [113, 117, 105, 99, 32, 105, 118] [] 12
def kMask (k : List UInt8) : List UInt8 := lab (ko k) (ki k) [113, 117, 105, 99, 32, 104, 112] [] 32
theorem below_put {B b : Nat} {w0 w : World} (h : Below B w0 w) (hb : B ≤ b) (j : Nat) (v : Value) : Below B w0 (w.setCell ⟨b, j, none⟩ v) := h.setCell (p := ⟨b, j, none⟩) hb v
set_option maxHeartbeats 4000000 in
theorem fill_at (k : List UInt8) (b B : Nat) (w0 w : World) (x y z : ByteArray) (h : KB w b ⟨(ko k).toArray⟩ ⟨(ki k).toArray⟩ x y z) (hB : B ≤ b) (hw : Below B w0 w) :
    Calls Tryz.prog 42 #[.pointer (some ⟨b, 0, none⟩)] w fun e w' => e = .returned (.tuple #[]) ∧ KB w' b ⟨(ko k).toArray⟩ ⟨(ki k).toArray⟩ ⟨(kKey k).toArray⟩ ⟨(kIv k).toArray⟩ ⟨(kMask k).toArray⟩ ∧ Below B w0 w' := by
  have L1 : Hid (∀ W : World, Calls Tryz.prog 76 #[.agg #[.string ⟨(ko k).toArray⟩, .string ⟨(ki k).toArray⟩], .string ⟨#[113, 117, 105, 99, 32, 107, 101, 121]⟩, .string ⟨#[]⟩, .int .i64 32] W fun e w' => e = .returned (.string ⟨(kKey k).toArray⟩) ∧ Below W.heap.size W w') := Lib.hid (fun W => labelled_key k [113, 117, 105, 99, 32, 107, 101, 121] [] 32 W (by decide) (by decide) (by decide))
  have L2 : Hid (∀ W : World, Calls Tryz.prog 76 #[.agg #[.string ⟨(ko k).toArray⟩, .string ⟨(ki k).toArray⟩], .string ⟨#[113, 117, 105, 99, 32, 105, 118]⟩, .string ⟨#[]⟩, .int .i64 12] W fun e w' => e = .returned (.string ⟨(kIv k).toArray⟩) ∧ Below W.heap.size W w') := Lib.hid (fun W => labelled_key k [113, 117, 105, 99, 32, 105, 118] [] 12 W (by decide) (by decide) (by decide))
  have L3 : Hid (∀ W : World, Calls Tryz.prog 76 #[.agg #[.string ⟨(ko k).toArray⟩, .string ⟨(ki k).toArray⟩], .string ⟨#[113, 117, 105, 99, 32, 104, 112]⟩, .string ⟨#[]⟩, .int .i64 32] W fun e w' => e = .returned (.string ⟨(kMask k).toArray⟩) ∧ Below W.heap.size W w') := Lib.hid (fun W => labelled_key k [113, 117, 105, 99, 32, 104, 112] [] 32 W (by decide) (by decide) (by decide))
  generalize kKey k = K1 at *
  generalize kIv k = K2 at *
  generalize kMask k = K3 at *
  generalize ko k = KO at *
  generalize ki k = KI at *
  have HK := Lib.hid h
  have HW := Lib.hid hw
  obtain ⟨c0, c1, c2, c3, c4⟩ := h.cells
  have hs : B ≤ w.heap.size := by have := h.lt; omega
  clear h hw
  go_enter Tryz.func42, Tryz.ntmps42
  go_wp2_with fail
  with_reducible refine (L1.out _).mono ?_
  rintro e w1 ⟨rfl, hb⟩
  have hk1 := HK.out.keep hb
  have HK1 := Lib.hid (hk1.put2 ⟨K1.toArray⟩)
  have HB1 := Lib.hid (below_put (HW.out.trans (hb.mono hs)) hB 2 (.string ⟨K1.toArray⟩))
  obtain ⟨d0, d1, d2, d3, d4⟩ := hk1.cells
  have df := hk1.fz
  have hs1 : B ≤ (w1.setCell ⟨b, 2, none⟩ (.string ⟨K1.toArray⟩)).heap.size := by have := HK1.out.lt; omega
  clear hk1 hb c0 c1 c2 c3 c4
  go_wp2_with fail
  with_reducible refine (L2.out _).mono ?_
  rintro e w2 ⟨rfl, hb⟩
  have hk2 := HK1.out.keep hb
  have HK2 := Lib.hid (hk2.put3 ⟨K2.toArray⟩)
  have HB2 := Lib.hid (below_put (HB1.out.trans (hb.mono hs1)) hB 3 (.string ⟨K2.toArray⟩))
  obtain ⟨e0, e1, e2, e3, e4⟩ := hk2.cells
  have ef := hk2.fz
  have hs2 : B ≤ (w2.setCell ⟨b, 3, none⟩ (.string ⟨K2.toArray⟩)).heap.size := by have := HK2.out.lt; omega
  clear hk2 hb d0 d1 d2 d3 d4 df HK1 HB1
  go_wp2_with fail
  with_reducible refine (L3.out _).mono ?_
  rintro e w3 ⟨rfl, hb⟩
  have hk3 := HK2.out.keep hb
  have HK3 := Lib.hid (hk3.put4 ⟨K3.toArray⟩)
  have HB3 := Lib.hid (below_put (HB2.out.trans (hb.mono hs2)) hB 4 (.string ⟨K3.toArray⟩))
  obtain ⟨f0, f1, f2, f3, f4⟩ := hk3.cells
  have ff := hk3.fz
  clear hk3 hb e0 e1 e2 e3 e4 ef HK2 HB2
  go_wp2
  go_end0
  exact ⟨rfl, HK3.out, HB3.out⟩
theorem inf_keys : (Tryz.prog.info? 29).map (·.size) = some 3 := by kernel_rfl
theorem three_put {w : World} {b : Nat} {T : TypeId} {v0 v1 v2 x y z : Value} (h : w.heap[b]? = some (.cells #[v0, v1, v2] T (0, 0))) : (((w.setCell ⟨b, 0, none⟩ x).setCell ⟨b, 1, none⟩ y).setCell ⟨b, 2, none⟩ z).heap[b]? = some (.cells #[x, y, z] T (0, 0)) := by
  have h0 := Joins.block_setCell (i := 0) h x
  have h1 := Joins.block_setCell (i := 1) h0 y
  have h2 := Joins.block_setCell (i := 2) h1 z
  rw [h2]
  simp
set_option maxHeartbeats 4000000 in
theorem of_any (k : List UInt8) (w : World) (hk : k.length ≤ 100000) :
    Calls Tryz.prog 14 #[.string ⟨k.toArray⟩] w fun e w' => e = .returned (.agg #[.string ⟨(kKey k).toArray⟩, .string ⟨(kIv k).toArray⟩, .string ⟨(kMask k).toArray⟩]) ∧ Below w.heap.size w w' := by
  have C1 := Lib.hid (fun W => secretOf_any k W hk)
  have C2 := Lib.hid (fun b B w0 W x y z h hB hw => fill_at k b B w0 W x y z h hB hw)
  generalize kKey k = K1 at *
  generalize kIv k = K2 at *
  generalize kMask k = K3 at *
  generalize ko k = KO at *
  generalize ki k = KI at *
  go_enter Tryz.func14, Tryz.ntmps14
  go_wp2_with fail
  with_reducible refine (C1.out _).mono ?_
  rintro e w1 ⟨rfl, hb⟩
  have HB1 := Lib.hid (((Below.refl w.heap.size w).alloc (Nat.le_refl _) (.cells #[.string ⟨#[]⟩, .string ⟨#[]⟩, .string ⟨#[]⟩] 29)).trans (hb.mono (by simp)))
  have HZ1 : Hid (w1.heap[w.heap.size]? = some (.cells #[.string ⟨#[]⟩, .string ⟨#[]⟩, .string ⟨#[]⟩] 29 (0, 0))) := Lib.hid ((hb.block w.heap.size (by simp)).trans (heap_alloc_new w _))
  have hlt1 : w.heap.size < w1.heap.size := by have := hb.size; simp at this; omega
  have HKB : Hid (KB (w1.alloc (.cells #[.string ⟨KO.toArray⟩, .string ⟨KI.toArray⟩, .string ⟨#[]⟩, .string ⟨#[]⟩, .string ⟨#[]⟩] 85)) w1.heap.size ⟨KO.toArray⟩ ⟨KI.toArray⟩ ⟨#[]⟩ ⟨#[]⟩ ⟨#[]⟩) := Lib.hid (heap_alloc_new w1 _)
  have C3 := Lib.hid (C2.out w1.heap.size w1.heap.size w1 _ _ _ _ HKB.out (Nat.le_refl _) ((Below.refl _ _).alloc (Nat.le_refl _) _))
  clear hb
  go_wp2_with fail
  with_reducible refine C3.out.mono ?_
  rintro e w2 ⟨rfl, hk2, hb2⟩
  have HB2 := Lib.hid (HB1.out.trans (hb2.mono (Nat.le_of_lt hlt1)))
  have HZ2 : Hid (w2.heap[w.heap.size]? = some (.cells #[.string ⟨#[]⟩, .string ⟨#[]⟩, .string ⟨#[]⟩] 29 (0, 0))) := Lib.hid ((hb2.block w.heap.size hlt1).trans HZ1.out)
  obtain ⟨c0, c1, c2, c3, c4⟩ := hk2.cells
  have hz0 : w2.cell? ⟨w.heap.size, 0, none⟩ = some (.string ⟨#[]⟩) := by rw [Lib.cell_of_heap HZ2.out]; rfl
  have hz1 : w2.cell? ⟨w.heap.size, 1, none⟩ = some (.string ⟨#[]⟩) := by rw [Lib.cell_of_heap HZ2.out]; rfl
  have hz2 : w2.cell? ⟨w.heap.size, 2, none⟩ = some (.string ⟨#[]⟩) := by rw [Lib.cell_of_heap HZ2.out]; rfl
  have hf : ∀ j, w2.frozen? ⟨w.heap.size, j, none⟩ = false := fun j => Lib.frozen_of_heap HZ2.out j
  clear hb2 hk2
  go_wp2_with fail
  exact bodyPost_ret (v := .agg #[.string ⟨K1.toArray⟩, .string ⟨K2.toArray⟩, .string ⟨K3.toArray⟩]) (results_cell_row Tryz.results14 _ _ w.heap.size _ _ _ _ rfl (three_put HZ2.out) Tryz.underlying29 rfl inf_keys) rfl ⟨rfl, below_put (below_put (below_put HB2.out (Nat.le_refl _) _ _) (Nat.le_refl _) _ _) (Nat.le_refl _) _ _⟩
end Go.Proofs.YtagbkmoahflfdaaGreatDoor.Kd
