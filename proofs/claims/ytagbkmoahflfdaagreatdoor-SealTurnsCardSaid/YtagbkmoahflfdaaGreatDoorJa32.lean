/- The walks of layer 9: Unprotect of a packet of the same phase that is opened · Layer 9's plain mathematics of packets: a short header and what is behind it, masked: its place, its sample, and back -/
import Derived.Test.YtagbkmoahflfdaaGreatDoorJa31
import Derived.Test.YtagbkmoahflfdaaGreatDoorJa27
namespace Go.Proofs.YtagbkmoahflfdaaGreatDoor.Se
set_option maxRecDepth 20000
open Go.RowKit Vm Dg Kd
set_option linter.unusedVariables false
set_option linter.unusedSimpArgs false

theorem res_unp (tmps : Array Value) (g : Nat) (a0 a1 a2 a3 a4 a5 a6 a7 a8 a9 a10 a11 u v t : Value) (w : World) (hp : tmps.getD 8 undef = .pointer (some ⟨g, 0, none⟩)) (hu : tmps.getD 9 undef = u) (hv : tmps.getD 10 undef = v) (ht : tmps.getD 11 undef = t) (hc : w.heap[g]? = some (.cells #[a0, a1, a2, a3, a4, a5, a6, a7, a8, a9, a10, a11] 43 (0, 0))) :
    (results Tryz.f29 tmps).run Tryz.prog w = .ok (.tuple #[.agg #[a0, a1, a2, a3, a4, a5, a6, a7, a8, a9, a10, a11], u, v, t]) w := by
  obtain ⟨c0, c1, c2, c3, c4, c5, c6, c7, c8, c9, c10, c11⟩ := cells12 hc
  have hp' : tmps[8]?.getD undef = .pointer (some ⟨g, 0, none⟩) := by simpa using hp
  have hu' : tmps[9]?.getD undef = u := by simpa using hu
  have hv' : tmps[10]?.getD undef = v := by simpa using hv
  have ht' : tmps[11]?.getD undef = t := by simpa using ht
  simp [results, Tryz.results29, hp', hu', hv', ht', go_sem, c0, c1, c2, c3, c4, c5, c6, c7, c8, c9, c10, c11]
/-- A packet's block. -/
def PX (W : World) (b : Nat) (lg sp xp : Bool) (ty ve : Int) (dc sc tk : ByteArray) (le wi nu : Int) (HEAD SL : ByteArray) : Prop := W.heap[b]? = some (.cells #[.bool lg, .bool sp, .bool xp, .int .i64 ty, .int .u32 ve, .string dc, .string sc, .string tk, .int .u64 le, .int .i64 wi, .int .u64 nu, .string HEAD, .string SL] 107 (0, 0))
theorem PX.lt {W : World} {b : Nat} {lg sp xp : Bool} {ty ve : Int} {dc sc tk : ByteArray} {le wi nu : Int} {HEAD SL : ByteArray} (h : PX W b lg sp xp ty ve dc sc tk le wi nu HEAD SL) : b < W.heap.size := (Array.getElem?_eq_some_iff.1 h).1
theorem PX.keep {W W' : World} {b B : Nat} {lg sp xp : Bool} {ty ve : Int} {dc sc tk : ByteArray} {le wi nu : Int} {HEAD SL : ByteArray} (h : PX W b lg sp xp ty ve dc sc tk le wi nu HEAD SL) (hb : Below B W W') (hB : b < B) : PX W' b lg sp xp ty ve dc sc tk le wi nu HEAD SL := (hb.block b hB).trans h
set_option maxHeartbeats 8000000 in
theorem unprotect_walk (x0 x1 x2 x3 x4 x5 x6 x7 x8 x9 T HEAD SL P : ByteArray) (xo xp any : Bool) (lg sp : Bool) (ty ve : Int) (dc sc tk : ByteArray) (le wi nu : Int) (largest num : Nat) (w : World) (ht : Tab w)
    (CBR : Hid (∀ W : World, Tab W → Calls Tryz.prog 61 #[.agg #[.string x0, .string x1, .string x2, .string x3, .string x4, .string x5, .string x6, .string x7, .string x8, .string x9, .bool xo, .bool xp, .string x4, .string x5, .string x6], .string T] W fun e w' => e = .returned (.tuple #[.agg #[.bool lg, .bool sp, .bool xp, .int .i64 ty, .int .u32 ve, .string dc, .string sc, .string tk, .int .u64 le, .int .i64 wi, .int .u64 nu, .string HEAD, .string SL], .int .i64 0]) ∧ Below W.heap.size W w'))
    (CE : Hid (∀ W : World, Calls Tryz.prog 62 #[.int .u64 largest, .bool any, .int .u64 nu, .int .i64 wi] W fun e w' => e = .returned (.int .u64 num) ∧ Below W.heap.size W w'))
    (CT : Hid (∀ (W : World) (b : Nat), W.heap[b]? = some (.cells #[.string x4, .string x5, .string x6, .bool false] 149 (0, 0)) → Calls Tryz.prog 63 #[.agg #[.bool lg, .bool sp, .bool xp, .int .i64 ty, .int .u32 ve, .string dc, .string sc, .string tk, .int .u64 le, .int .i64 wi, .int .u64 nu, .string HEAD, .string SL], .int .u64 num, .slice (some ⟨b, 0, none⟩) 1 1] W fun e w' => e = .returned (.tuple #[.string P, .bool false, .bool true]) ∧ Below W.heap.size W w')) :
    Calls Tryz.prog 29 #[.agg #[.string x0, .string x1, .string x2, .string x3, .string x4, .string x5, .string x6, .string x7, .string x8, .string x9, .bool xo, .bool xp], .int .u64 largest, .bool any, .string T] w fun e w' => e = .returned (.tuple #[.agg #[.string x0, .string x1, .string x2, .string x3, .string x4, .string x5, .string x6, .string x7, .string x8, .string x9, .bool xo, .bool xp], .int .u64 num, .string P, .int .i64 0]) ∧ Below w.heap.size w w' := by
  have CHO := Lib.hid (fun W => holderOf_any x0 x1 x2 x3 x4 x5 x6 x7 x8 x9 xo xp W)
  have CD := Lib.hid (fun W => doors_same x0 x1 x2 x3 x4 x5 x6 x7 x8 x9 xo xp W)
  have H0 : Hid (((SX ((w.alloc (.cells #[.string x0, .string x1, .string x2, .string x3, .string x4, .string x5, .string x6, .string x7, .string x8, .string x9, .bool xo, .bool xp] 43)).alloc (.cells #[.string ⟨#[]⟩, .string ⟨#[]⟩, .string ⟨#[]⟩, .string ⟨#[]⟩, .string ⟨#[]⟩, .string ⟨#[]⟩, .string ⟨#[]⟩, .string ⟨#[]⟩, .string ⟨#[]⟩, .string ⟨#[]⟩, .bool false, .bool false] 43)) w.heap.size x0 x1 x2 x3 x4 x5 x6 x7 x8 x9 xo xp ∧ SX ((w.alloc (.cells #[.string x0, .string x1, .string x2, .string x3, .string x4, .string x5, .string x6, .string x7, .string x8, .string x9, .bool xo, .bool xp] 43)).alloc (.cells #[.string ⟨#[]⟩, .string ⟨#[]⟩, .string ⟨#[]⟩, .string ⟨#[]⟩, .string ⟨#[]⟩, .string ⟨#[]⟩, .string ⟨#[]⟩, .string ⟨#[]⟩, .string ⟨#[]⟩, .string ⟨#[]⟩, .bool false, .bool false] 43)) (w.heap.size + 1) ⟨#[]⟩ ⟨#[]⟩ ⟨#[]⟩ ⟨#[]⟩ ⟨#[]⟩ ⟨#[]⟩ ⟨#[]⟩ ⟨#[]⟩ ⟨#[]⟩ ⟨#[]⟩ false false) ∧ Tab ((w.alloc (.cells #[.string x0, .string x1, .string x2, .string x3, .string x4, .string x5, .string x6, .string x7, .string x8, .string x9, .bool xo, .bool xp] 43)).alloc (.cells #[.string ⟨#[]⟩, .string ⟨#[]⟩, .string ⟨#[]⟩, .string ⟨#[]⟩, .string ⟨#[]⟩, .string ⟨#[]⟩, .string ⟨#[]⟩, .string ⟨#[]⟩, .string ⟨#[]⟩, .string ⟨#[]⟩, .bool false, .bool false] 43))) ∧ Below w.heap.size w ((w.alloc (.cells #[.string x0, .string x1, .string x2, .string x3, .string x4, .string x5, .string x6, .string x7, .string x8, .string x9, .bool xo, .bool xp] 43)).alloc (.cells #[.string ⟨#[]⟩, .string ⟨#[]⟩, .string ⟨#[]⟩, .string ⟨#[]⟩, .string ⟨#[]⟩, .string ⟨#[]⟩, .string ⟨#[]⟩, .string ⟨#[]⟩, .string ⟨#[]⟩, .string ⟨#[]⟩, .bool false, .bool false] 43))) := Lib.hid (by
    have hB := ((Below.refl w.heap.size w).alloc (Nat.le_refl _) (.cells #[.string x0, .string x1, .string x2, .string x3, .string x4, .string x5, .string x6, .string x7, .string x8, .string x9, .bool xo, .bool xp] 43)).alloc (by simp) (.cells #[.string ⟨#[]⟩, .string ⟨#[]⟩, .string ⟨#[]⟩, .string ⟨#[]⟩, .string ⟨#[]⟩, .string ⟨#[]⟩, .string ⟨#[]⟩, .string ⟨#[]⟩, .string ⟨#[]⟩, .string ⟨#[]⟩, .bool false, .bool false] 43)
    have h := heap_alloc_new (w.alloc (.cells #[.string x0, .string x1, .string x2, .string x3, .string x4, .string x5, .string x6, .string x7, .string x8, .string x9, .bool xo, .bool xp] 43)) (.cells #[.string ⟨#[]⟩, .string ⟨#[]⟩, .string ⟨#[]⟩, .string ⟨#[]⟩, .string ⟨#[]⟩, .string ⟨#[]⟩, .string ⟨#[]⟩, .string ⟨#[]⟩, .string ⟨#[]⟩, .string ⟨#[]⟩, .bool false, .bool false] 43)
    rw [World.size_alloc] at h
    exact ⟨⟨⟨(Below.heap_alloc _ _ w.heap.size (by simp)).trans (heap_alloc_new w _), h⟩, ht.below hB ht.lt⟩, hB⟩)
  clear ht
  go_enter Tryz.func29, Tryz.ntmps29
  go_upto_region 1 with (fail)
  generalize ((w.alloc (.cells #[.string x0, .string x1, .string x2, .string x3, .string x4, .string x5, .string x6, .string x7, .string x8, .string x9, .bool xo, .bool xp] 43)).alloc (.cells #[.string ⟨#[]⟩, .string ⟨#[]⟩, .string ⟨#[]⟩, .string ⟨#[]⟩, .string ⟨#[]⟩, .string ⟨#[]⟩, .string ⟨#[]⟩, .string ⟨#[]⟩, .string ⟨#[]⟩, .string ⟨#[]⟩, .bool false, .bool false] 43)) = W0 at H0 ⊢
  obtain ⟨q0, q1, q2, q3, q4, q5, q6, q7, q8, q9, q10, q11⟩ := cells12 H0.out.1.1.1
  go_wp2_with fail
  with_reducible refine (CHO.out _).mono ?_
  rintro e1 w1 ⟨rfl, hb⟩
  have H1 : Hid (((SX w1 w.heap.size x0 x1 x2 x3 x4 x5 x6 x7 x8 x9 xo xp ∧ SX w1 (w.heap.size + 1) ⟨#[]⟩ ⟨#[]⟩ ⟨#[]⟩ ⟨#[]⟩ ⟨#[]⟩ ⟨#[]⟩ ⟨#[]⟩ ⟨#[]⟩ ⟨#[]⟩ ⟨#[]⟩ false false) ∧ Tab w1) ∧ Below w.heap.size w w1) := Lib.hid ⟨⟨⟨H0.out.1.1.1.keep hb H0.out.1.1.1.lt, H0.out.1.1.2.keep hb H0.out.1.1.2.lt⟩, H0.out.1.2.below hb H0.out.1.2.lt⟩, H0.out.2.trans (hb.mono H0.out.2.size)⟩
  clear hb
  have H2 : Hid (((SX (w1.alloc (.cells #[.string x0, .string x1, .string x2, .string x3, .string x4, .string x5, .string x6, .string x7, .string x8, .string x9, .bool xo, .bool xp, .string x4, .string x5, .string x6] 95)) w.heap.size x0 x1 x2 x3 x4 x5 x6 x7 x8 x9 xo xp ∧ SX (w1.alloc (.cells #[.string x0, .string x1, .string x2, .string x3, .string x4, .string x5, .string x6, .string x7, .string x8, .string x9, .bool xo, .bool xp, .string x4, .string x5, .string x6] 95)) (w.heap.size + 1) ⟨#[]⟩ ⟨#[]⟩ ⟨#[]⟩ ⟨#[]⟩ ⟨#[]⟩ ⟨#[]⟩ ⟨#[]⟩ ⟨#[]⟩ ⟨#[]⟩ ⟨#[]⟩ false false) ∧ Tab (w1.alloc (.cells #[.string x0, .string x1, .string x2, .string x3, .string x4, .string x5, .string x6, .string x7, .string x8, .string x9, .bool xo, .bool xp, .string x4, .string x5, .string x6] 95))) ∧ Below w.heap.size w (w1.alloc (.cells #[.string x0, .string x1, .string x2, .string x3, .string x4, .string x5, .string x6, .string x7, .string x8, .string x9, .bool xo, .bool xp, .string x4, .string x5, .string x6] 95))) := Lib.hid (by
    have hb := (Below.refl w1.heap.size w1).alloc (Nat.le_refl _) (.cells #[.string x0, .string x1, .string x2, .string x3, .string x4, .string x5, .string x6, .string x7, .string x8, .string x9, .bool xo, .bool xp, .string x4, .string x5, .string x6] 95)
    exact ⟨⟨⟨H1.out.1.1.1.keep hb H1.out.1.1.1.lt, H1.out.1.1.2.keep hb H1.out.1.1.2.lt⟩, H1.out.1.2.below hb H1.out.1.2.lt⟩, H1.out.2.trans (hb.mono H1.out.2.size)⟩)
  have HH2 : Hid (HX (w1.alloc (.cells #[.string x0, .string x1, .string x2, .string x3, .string x4, .string x5, .string x6, .string x7, .string x8, .string x9, .bool xo, .bool xp, .string x4, .string x5, .string x6] 95)) w1.heap.size x0 x1 x2 x3 x4 x5 x6 x7 x8 x9 xo xp) := Lib.hid (heap_alloc_new w1 _)
  go_upto_region 2 with (fail)
  generalize w1.alloc (.cells #[.string x0, .string x1, .string x2, .string x3, .string x4, .string x5, .string x6, .string x7, .string x8, .string x9, .bool xo, .bool xp, .string x4, .string x5, .string x6] 95) = W2 at H2 HH2 ⊢
  generalize w1.heap.size = hb0 at HH2 ⊢
  obtain ⟨u0, u1, u2, u3, u4, u5, u6, u7, u8, u9, u10, u11, u12, u13, u14⟩ := HH2.out.cells
  go_wp2_with fail
  with_reducible refine (CBR.out _ H2.out.1.2).mono ?_
  rintro e3 w3 ⟨rfl, hb⟩
  have H3 : Hid (((SX w3 w.heap.size x0 x1 x2 x3 x4 x5 x6 x7 x8 x9 xo xp ∧ SX w3 (w.heap.size + 1) ⟨#[]⟩ ⟨#[]⟩ ⟨#[]⟩ ⟨#[]⟩ ⟨#[]⟩ ⟨#[]⟩ ⟨#[]⟩ ⟨#[]⟩ ⟨#[]⟩ ⟨#[]⟩ false false) ∧ Tab w3) ∧ Below w.heap.size w w3) := Lib.hid ⟨⟨⟨H2.out.1.1.1.keep hb H2.out.1.1.1.lt, H2.out.1.1.2.keep hb H2.out.1.1.2.lt⟩, H2.out.1.2.below hb H2.out.1.2.lt⟩, H2.out.2.trans (hb.mono H2.out.2.size)⟩
  have HH3 := Lib.hid (HH2.out.keep hb HH2.out.lt)
  clear hb
  have H4 : Hid (((SX (w3.alloc (.cells #[.bool lg, .bool sp, .bool xp, .int .i64 ty, .int .u32 ve, .string dc, .string sc, .string tk, .int .u64 le, .int .i64 wi, .int .u64 nu, .string HEAD, .string SL] 107)) w.heap.size x0 x1 x2 x3 x4 x5 x6 x7 x8 x9 xo xp ∧ SX (w3.alloc (.cells #[.bool lg, .bool sp, .bool xp, .int .i64 ty, .int .u32 ve, .string dc, .string sc, .string tk, .int .u64 le, .int .i64 wi, .int .u64 nu, .string HEAD, .string SL] 107)) (w.heap.size + 1) ⟨#[]⟩ ⟨#[]⟩ ⟨#[]⟩ ⟨#[]⟩ ⟨#[]⟩ ⟨#[]⟩ ⟨#[]⟩ ⟨#[]⟩ ⟨#[]⟩ ⟨#[]⟩ false false) ∧ Tab (w3.alloc (.cells #[.bool lg, .bool sp, .bool xp, .int .i64 ty, .int .u32 ve, .string dc, .string sc, .string tk, .int .u64 le, .int .i64 wi, .int .u64 nu, .string HEAD, .string SL] 107))) ∧ Below w.heap.size w (w3.alloc (.cells #[.bool lg, .bool sp, .bool xp, .int .i64 ty, .int .u32 ve, .string dc, .string sc, .string tk, .int .u64 le, .int .i64 wi, .int .u64 nu, .string HEAD, .string SL] 107))) := Lib.hid (by
    have hb := (Below.refl w3.heap.size w3).alloc (Nat.le_refl _) (.cells #[.bool lg, .bool sp, .bool xp, .int .i64 ty, .int .u32 ve, .string dc, .string sc, .string tk, .int .u64 le, .int .i64 wi, .int .u64 nu, .string HEAD, .string SL] 107)
    exact ⟨⟨⟨H3.out.1.1.1.keep hb H3.out.1.1.1.lt, H3.out.1.1.2.keep hb H3.out.1.1.2.lt⟩, H3.out.1.2.below hb H3.out.1.2.lt⟩, H3.out.2.trans (hb.mono H3.out.2.size)⟩)
  have HH4 := Lib.hid (HH3.out.keep ((Below.refl w3.heap.size w3).alloc (Nat.le_refl _) (.cells #[.bool lg, .bool sp, .bool xp, .int .i64 ty, .int .u32 ve, .string dc, .string sc, .string tk, .int .u64 le, .int .i64 wi, .int .u64 nu, .string HEAD, .string SL] 107)) HH3.out.lt)
  have HP4 : Hid (PX (w3.alloc (.cells #[.bool lg, .bool sp, .bool xp, .int .i64 ty, .int .u32 ve, .string dc, .string sc, .string tk, .int .u64 le, .int .i64 wi, .int .u64 nu, .string HEAD, .string SL] 107)) w3.heap.size lg sp xp ty ve dc sc tk le wi nu HEAD SL) := Lib.hid (heap_alloc_new w3 _)
  go_upto_region 3 with (fail)
  generalize w3.alloc (.cells #[.bool lg, .bool sp, .bool xp, .int .i64 ty, .int .u32 ve, .string dc, .string sc, .string tk, .int .u64 le, .int .i64 wi, .int .u64 nu, .string HEAD, .string SL] 107) = W4 at H4 HH4 HP4 ⊢
  generalize w3.heap.size = pb at HP4 ⊢
  obtain ⟨v0, v1, v2, v3, v4, v5, v6, v7, v8, v9, v10, v11, v12⟩ := cells13 HP4.out
  go_wp2_with fail
  with_reducible refine (CE.out _).mono ?_
  rintro e5 W5 ⟨rfl, hb⟩
  have H5 : Hid ((HX W5 hb0 x0 x1 x2 x3 x4 x5 x6 x7 x8 x9 xo xp ∧ PX W5 pb lg sp xp ty ve dc sc tk le wi nu HEAD SL) ∧ (((SX W5 w.heap.size x0 x1 x2 x3 x4 x5 x6 x7 x8 x9 xo xp ∧ SX W5 (w.heap.size + 1) ⟨#[]⟩ ⟨#[]⟩ ⟨#[]⟩ ⟨#[]⟩ ⟨#[]⟩ ⟨#[]⟩ ⟨#[]⟩ ⟨#[]⟩ ⟨#[]⟩ ⟨#[]⟩ false false) ∧ Tab W5) ∧ Below w.heap.size w W5)) := Lib.hid (by
    have h : (HX W4 hb0 x0 x1 x2 x3 x4 x5 x6 x7 x8 x9 xo xp ∧ PX W4 pb lg sp xp ty ve dc sc tk le wi nu HEAD SL) ∧ (((SX W4 w.heap.size x0 x1 x2 x3 x4 x5 x6 x7 x8 x9 xo xp ∧ SX W4 (w.heap.size + 1) ⟨#[]⟩ ⟨#[]⟩ ⟨#[]⟩ ⟨#[]⟩ ⟨#[]⟩ ⟨#[]⟩ ⟨#[]⟩ ⟨#[]⟩ ⟨#[]⟩ ⟨#[]⟩ false false) ∧ Tab W4) ∧ Below w.heap.size w W4) := ⟨⟨HH4.out, HP4.out⟩, H4.out⟩
    exact ⟨⟨h.1.1.keep hb h.1.1.lt, h.1.2.keep hb h.1.2.lt⟩, ⟨⟨⟨h.2.1.1.1.keep hb h.2.1.1.1.lt, h.2.1.1.2.keep hb h.2.1.1.2.lt⟩, h.2.1.2.below hb h.2.1.2.lt⟩, h.2.2.trans (hb.mono h.2.2.size)⟩⟩)
  clear hb H0 H1 H2 H3 H4 HH2 HH3 HH4 HP4
  have HD0 : Hid ((HX W5.drew hb0 x0 x1 x2 x3 x4 x5 x6 x7 x8 x9 xo xp ∧ PX W5.drew pb lg sp xp ty ve dc sc tk le wi nu HEAD SL) ∧ (((SX W5.drew w.heap.size x0 x1 x2 x3 x4 x5 x6 x7 x8 x9 xo xp ∧ SX W5.drew (w.heap.size + 1) ⟨#[]⟩ ⟨#[]⟩ ⟨#[]⟩ ⟨#[]⟩ ⟨#[]⟩ ⟨#[]⟩ ⟨#[]⟩ ⟨#[]⟩ ⟨#[]⟩ ⟨#[]⟩ false false) ∧ Tab W5.drew) ∧ Below w.heap.size w W5.drew)) := Lib.hid ⟨H5.out.1, ⟨H5.out.2.1.1, H5.out.2.1.2.below (Below.refl _ _).drew H5.out.2.1.2.lt⟩, H5.out.2.2.drew⟩
  go_wp2_with fail
  refine wp_region_noPanic ?_
  refine wp_region_held_drew (S := fun W : World => (HX W hb0 x0 x1 x2 x3 x4 x5 x6 x7 x8 x9 xo xp ∧ PX W pb lg sp xp ty ve dc sc tk le wi nu HEAD SL) ∧ (((SX W w.heap.size x0 x1 x2 x3 x4 x5 x6 x7 x8 x9 xo xp ∧ SX W (w.heap.size + 1) ⟨#[]⟩ ⟨#[]⟩ ⟨#[]⟩ ⟨#[]⟩ ⟨#[]⟩ ⟨#[]⟩ ⟨#[]⟩ ⟨#[]⟩ ⟨#[]⟩ ⟨#[]⟩ false false) ∧ Tab W) ∧ Below w.heap.size w W)) (by kernel_rfl) ?_ (fun hHeld => ?_)
  · exact HD0.out
  refine wpAnyH_take (i := 0) (v := ?_) rfl (by kernel_rfl) (by kernel_rfl) (by kernel_rfl) (fun _ _ _ h => h) (Or.inl ⟨by rfl, ?_⟩) (by assumption) ?_
  rotate_left
  · (intro w hSw; obtain ⟨⟨hsh, hsp⟩, hs0⟩ := hSw; obtain ⟨u0, u1, u2, u3, u4, u5, u6, u7, u8, u9, u10, u11, u12, u13, u14⟩ := hsh.cells; obtain ⟨v0, v1, v2, v3, v4, v5, v6, v7, v8, v9, v10, v11, v12⟩ := cells13 hsp; go_simp; (try with_reducible rfl))
  try simp only [Act.put, List.getElem_toArray, List.getElem_cons_zero, List.getElem_cons_succ, List.setIfInBounds_toArray, List.set_cons_zero, List.set_cons_succ]
  refine wpAnyH_take (i := 1) (v := ?_) rfl (by kernel_rfl) (by kernel_rfl) (by kernel_rfl) (fun _ _ _ h => h) (Or.inl ⟨by rfl, ?_⟩) (by assumption) ?_
  rotate_left
  · (intro w hSw; obtain ⟨⟨hsh, hsp⟩, hs0⟩ := hSw; obtain ⟨u0, u1, u2, u3, u4, u5, u6, u7, u8, u9, u10, u11, u12, u13, u14⟩ := hsh.cells; obtain ⟨v0, v1, v2, v3, v4, v5, v6, v7, v8, v9, v10, v11, v12⟩ := cells13 hsp; go_simp; (try with_reducible rfl))
  try simp only [Act.put, List.getElem_toArray, List.getElem_cons_zero, List.getElem_cons_succ, List.setIfInBounds_toArray, List.set_cons_zero, List.set_cons_succ]
  refine wpAnyH_take (i := 2) (v := ?_) rfl (by kernel_rfl) (by kernel_rfl) (by kernel_rfl) (fun _ _ _ h => h) (Or.inl ⟨by rfl, ?_⟩) (by assumption) ?_
  rotate_left
  · (intro w hSw; obtain ⟨⟨hsh, hsp⟩, hs0⟩ := hSw; obtain ⟨u0, u1, u2, u3, u4, u5, u6, u7, u8, u9, u10, u11, u12, u13, u14⟩ := hsh.cells; obtain ⟨v0, v1, v2, v3, v4, v5, v6, v7, v8, v9, v10, v11, v12⟩ := cells13 hsp; go_simp; (try with_reducible rfl))
  try simp only [Act.put, List.getElem_toArray, List.getElem_cons_zero, List.getElem_cons_succ, List.setIfInBounds_toArray, List.set_cons_zero, List.set_cons_succ]
  refine wpAnyH_take (i := 3) (v := ?_) rfl (by kernel_rfl) (by kernel_rfl) (by kernel_rfl) (fun _ _ _ h => h) (Or.inl ⟨by rfl, ?_⟩) (by assumption) ?_
  rotate_left
  · (intro w hSw; obtain ⟨⟨hsh, hsp⟩, hs0⟩ := hSw; obtain ⟨u0, u1, u2, u3, u4, u5, u6, u7, u8, u9, u10, u11, u12, u13, u14⟩ := hsh.cells; obtain ⟨v0, v1, v2, v3, v4, v5, v6, v7, v8, v9, v10, v11, v12⟩ := cells13 hsp; go_simp; (try with_reducible rfl))
  try simp only [Act.put, List.getElem_toArray, List.getElem_cons_zero, List.getElem_cons_succ, List.setIfInBounds_toArray, List.set_cons_zero, List.set_cons_succ]
  refine wpAnyH_take (i := 4) (v := ?_) rfl (by kernel_rfl) (by kernel_rfl) (by kernel_rfl) (fun _ _ _ h => h) (Or.inl ⟨by rfl, ?_⟩) (by assumption) ?_
  rotate_left
  · (intro w hSw; obtain ⟨⟨hsh, hsp⟩, hs0⟩ := hSw; obtain ⟨u0, u1, u2, u3, u4, u5, u6, u7, u8, u9, u10, u11, u12, u13, u14⟩ := hsh.cells; obtain ⟨v0, v1, v2, v3, v4, v5, v6, v7, v8, v9, v10, v11, v12⟩ := cells13 hsp; go_simp; (try with_reducible rfl))
  try simp only [Act.put, List.getElem_toArray, List.getElem_cons_zero, List.getElem_cons_succ, List.setIfInBounds_toArray, List.set_cons_zero, List.set_cons_succ]
  refine wpAnyH_take (i := 5) (v := ?_) rfl (by kernel_rfl) (by kernel_rfl) (by kernel_rfl) (fun _ _ _ h => h) (Or.inl ⟨by rfl, ?_⟩) (by assumption) ?_
  rotate_left
  · (intro w hSw; obtain ⟨⟨hsh, hsp⟩, hs0⟩ := hSw; obtain ⟨u0, u1, u2, u3, u4, u5, u6, u7, u8, u9, u10, u11, u12, u13, u14⟩ := hsh.cells; obtain ⟨v0, v1, v2, v3, v4, v5, v6, v7, v8, v9, v10, v11, v12⟩ := cells13 hsp; go_simp; (try with_reducible rfl))
  try simp only [Act.put, List.getElem_toArray, List.getElem_cons_zero, List.getElem_cons_succ, List.setIfInBounds_toArray, List.set_cons_zero, List.set_cons_succ]
  refine wpAnyH_ready (rs := [6]) (by kernel_rfl) (by simp) ?_
  refine AllReadyH.cons rfl (fun K hK => ?_) AllReadyH.nil
  rw [if_pos (by rfl)]
  go_simp
  with_reducible refine (CD.out _).mono ?_
  rintro e1 y1 ⟨rfl, rfl⟩
  have hbd := (((Below.refl W5.heap.size W5).alloc (Nat.le_refl _) (.cells #[.string x0, .string x1, .string x2, .string x3, .string x4, .string x5, .string x6, .string x7, .string x8, .string x9, .bool xo, .bool xp, .string x4, .string x5, .string x6] 95)).alloc (by simp) (.cells #[.string x4, .string x5, .string x6, .bool false] 149)).drew
  have HS1 : Hid ((HX ((W5.alloc (.cells #[.string x0, .string x1, .string x2, .string x3, .string x4, .string x5, .string x6, .string x7, .string x8, .string x9, .bool xo, .bool xp, .string x4, .string x5, .string x6] 95)).alloc (.cells #[.string x4, .string x5, .string x6, .bool false] 149)).drew hb0 x0 x1 x2 x3 x4 x5 x6 x7 x8 x9 xo xp ∧ PX ((W5.alloc (.cells #[.string x0, .string x1, .string x2, .string x3, .string x4, .string x5, .string x6, .string x7, .string x8, .string x9, .bool xo, .bool xp, .string x4, .string x5, .string x6] 95)).alloc (.cells #[.string x4, .string x5, .string x6, .bool false] 149)).drew pb lg sp xp ty ve dc sc tk le wi nu HEAD SL) ∧ (((SX ((W5.alloc (.cells #[.string x0, .string x1, .string x2, .string x3, .string x4, .string x5, .string x6, .string x7, .string x8, .string x9, .bool xo, .bool xp, .string x4, .string x5, .string x6] 95)).alloc (.cells #[.string x4, .string x5, .string x6, .bool false] 149)).drew w.heap.size x0 x1 x2 x3 x4 x5 x6 x7 x8 x9 xo xp ∧ SX ((W5.alloc (.cells #[.string x0, .string x1, .string x2, .string x3, .string x4, .string x5, .string x6, .string x7, .string x8, .string x9, .bool xo, .bool xp, .string x4, .string x5, .string x6] 95)).alloc (.cells #[.string x4, .string x5, .string x6, .bool false] 149)).drew (w.heap.size + 1) ⟨#[]⟩ ⟨#[]⟩ ⟨#[]⟩ ⟨#[]⟩ ⟨#[]⟩ ⟨#[]⟩ ⟨#[]⟩ ⟨#[]⟩ ⟨#[]⟩ ⟨#[]⟩ false false) ∧ Tab ((W5.alloc (.cells #[.string x0, .string x1, .string x2, .string x3, .string x4, .string x5, .string x6, .string x7, .string x8, .string x9, .bool xo, .bool xp, .string x4, .string x5, .string x6] 95)).alloc (.cells #[.string x4, .string x5, .string x6, .bool false] 149)).drew) ∧ Below w.heap.size w ((W5.alloc (.cells #[.string x0, .string x1, .string x2, .string x3, .string x4, .string x5, .string x6, .string x7, .string x8, .string x9, .bool xo, .bool xp, .string x4, .string x5, .string x6] 95)).alloc (.cells #[.string x4, .string x5, .string x6, .bool false] 149)).drew)) := Lib.hid ⟨⟨H5.out.1.1.keep hbd H5.out.1.1.lt, H5.out.1.2.keep hbd H5.out.1.2.lt⟩, ⟨⟨⟨H5.out.2.1.1.1.keep hbd H5.out.2.1.1.1.lt, H5.out.2.1.1.2.keep hbd H5.out.2.1.1.2.lt⟩, H5.out.2.1.2.below hbd H5.out.2.1.2.lt⟩, H5.out.2.2.trans (hbd.mono H5.out.2.2.size)⟩⟩
  have HDR : Hid ((((W5.alloc (.cells #[.string x0, .string x1, .string x2, .string x3, .string x4, .string x5, .string x6, .string x7, .string x8, .string x9, .bool xo, .bool xp, .string x4, .string x5, .string x6] 95)).alloc (.cells #[.string x4, .string x5, .string x6, .bool false] 149)).drew).heap[W5.heap.size + 1]? = some (.cells #[.string x4, .string x5, .string x6, .bool false] 149 (0, 0))) := Lib.hid (by have h := heap_alloc_new (W5.alloc (.cells #[.string x0, .string x1, .string x2, .string x3, .string x4, .string x5, .string x6, .string x7, .string x8, .string x9, .bool xo, .bool xp, .string x4, .string x5, .string x6] 95)) (.cells #[.string x4, .string x5, .string x6, .bool false] 149); rw [World.size_alloc] at h; exact heap_drew h)
  refine hK.out _ _ ?_ (fun hHeld => ?_)
  · exact HS1.out
  clear hK K
  try simp only [Act.put, List.getElem_toArray, List.getElem_cons_zero, List.getElem_cons_succ, List.setIfInBounds_toArray, List.set_cons_zero, List.set_cons_succ]
  refine wpAnyH_ready (rs := [7]) (by kernel_rfl) (by simp) ?_
  refine AllReadyH.cons rfl (fun K hK => ?_) AllReadyH.nil
  rw [if_pos (by rfl)]
  go_simp
  with_reducible refine (CT.out _ _ HDR.out).mono ?_
  rintro e2 y2 ⟨rfl, hb⟩
  have HS2 : Hid ((HX y2 hb0 x0 x1 x2 x3 x4 x5 x6 x7 x8 x9 xo xp ∧ PX y2 pb lg sp xp ty ve dc sc tk le wi nu HEAD SL) ∧ (((SX y2 w.heap.size x0 x1 x2 x3 x4 x5 x6 x7 x8 x9 xo xp ∧ SX y2 (w.heap.size + 1) ⟨#[]⟩ ⟨#[]⟩ ⟨#[]⟩ ⟨#[]⟩ ⟨#[]⟩ ⟨#[]⟩ ⟨#[]⟩ ⟨#[]⟩ ⟨#[]⟩ ⟨#[]⟩ false false) ∧ Tab y2) ∧ Below w.heap.size w y2)) := Lib.hid ⟨⟨HS1.out.1.1.keep hb HS1.out.1.1.lt, HS1.out.1.2.keep hb HS1.out.1.2.lt⟩, ⟨⟨⟨HS1.out.2.1.1.1.keep hb HS1.out.2.1.1.1.lt, HS1.out.2.1.1.2.keep hb HS1.out.2.1.1.2.lt⟩, HS1.out.2.1.2.below hb HS1.out.2.1.2.lt⟩, HS1.out.2.2.trans (hb.mono HS1.out.2.2.size)⟩⟩
  clear hb
  refine hK.out _ _ ?_ (fun hHeld => ?_)
  · exact HS2.out
  clear hK K
  try simp only [Act.put, List.getElem_toArray, List.getElem_cons_zero, List.getElem_cons_succ, List.setIfInBounds_toArray, List.set_cons_zero, List.set_cons_succ]
  refine wpAnyH_take (i := 8) (v := ?_) rfl (by kernel_rfl) (by kernel_rfl) (by kernel_rfl) (fun _ _ _ h => h) (Or.inl ⟨by rfl, ?_⟩) (by assumption) ?_
  rotate_left
  · (intro w hSw; obtain ⟨⟨hsh, hsp⟩, hs0⟩ := hSw; obtain ⟨u0, u1, u2, u3, u4, u5, u6, u7, u8, u9, u10, u11, u12, u13, u14⟩ := hsh.cells; obtain ⟨v0, v1, v2, v3, v4, v5, v6, v7, v8, v9, v10, v11, v12⟩ := cells13 hsp; go_simp; (try with_reducible rfl))
  try simp only [Act.put, List.getElem_toArray, List.getElem_cons_zero, List.getElem_cons_succ, List.setIfInBounds_toArray, List.set_cons_zero, List.set_cons_succ]
  refine wpAnyH_take (i := 9) (v := ?_) rfl (by kernel_rfl) (by kernel_rfl) (by kernel_rfl) (fun _ _ _ h => h) (Or.inl ⟨by rfl, ?_⟩) (by assumption) ?_
  rotate_left
  · (intro w hSw; obtain ⟨⟨hsh, hsp⟩, hs0⟩ := hSw; obtain ⟨u0, u1, u2, u3, u4, u5, u6, u7, u8, u9, u10, u11, u12, u13, u14⟩ := hsh.cells; obtain ⟨v0, v1, v2, v3, v4, v5, v6, v7, v8, v9, v10, v11, v12⟩ := cells13 hsp; go_simp; (try with_reducible rfl))
  try simp only [Act.put, List.getElem_toArray, List.getElem_cons_zero, List.getElem_cons_succ, List.setIfInBounds_toArray, List.set_cons_zero, List.set_cons_succ]
  refine wpAnyH_take (i := 10) (v := ?_) rfl (by kernel_rfl) (by kernel_rfl) (by kernel_rfl) (fun _ _ _ h => h) (Or.inl ⟨by rfl, ?_⟩) (by assumption) ?_
  rotate_left
  · (intro w hSw; obtain ⟨⟨hsh, hsp⟩, hs0⟩ := hSw; obtain ⟨u0, u1, u2, u3, u4, u5, u6, u7, u8, u9, u10, u11, u12, u13, u14⟩ := hsh.cells; obtain ⟨v0, v1, v2, v3, v4, v5, v6, v7, v8, v9, v10, v11, v12⟩ := cells13 hsp; go_simp; (try with_reducible rfl))
  try simp only [Act.put, List.getElem_toArray, List.getElem_cons_zero, List.getElem_cons_succ, List.setIfInBounds_toArray, List.set_cons_zero, List.set_cons_succ]
  refine wpAnyH_take (i := 11) (v := ?_) rfl (by kernel_rfl) (by kernel_rfl) (by kernel_rfl) (fun _ _ _ h => h) (Or.inl ⟨by rfl, ?_⟩) (by assumption) ?_
  rotate_left
  · (intro w hSw; obtain ⟨⟨hsh, hsp⟩, hs0⟩ := hSw; obtain ⟨u0, u1, u2, u3, u4, u5, u6, u7, u8, u9, u10, u11, u12, u13, u14⟩ := hsh.cells; obtain ⟨v0, v1, v2, v3, v4, v5, v6, v7, v8, v9, v10, v11, v12⟩ := cells13 hsp; go_simp; (try with_reducible rfl))
  try simp only [Act.put, List.getElem_toArray, List.getElem_cons_zero, List.getElem_cons_succ, List.setIfInBounds_toArray, List.set_cons_zero, List.set_cons_succ]
  refine wpAnyH_take (i := 12) (v := ?_) rfl (by kernel_rfl) (by kernel_rfl) (by kernel_rfl) (fun _ _ _ h => h) (Or.inl ⟨by rfl, ?_⟩) (by assumption) ?_
  rotate_left
  · (intro w hSw; obtain ⟨⟨hsh, hsp⟩, hs0⟩ := hSw; obtain ⟨u0, u1, u2, u3, u4, u5, u6, u7, u8, u9, u10, u11, u12, u13, u14⟩ := hsh.cells; obtain ⟨v0, v1, v2, v3, v4, v5, v6, v7, v8, v9, v10, v11, v12⟩ := cells13 hsp; go_simp; (try with_reducible rfl))
  try simp only [Act.put, List.getElem_toArray, List.getElem_cons_zero, List.getElem_cons_succ, List.setIfInBounds_toArray, List.set_cons_zero, List.set_cons_succ]
  refine wpAnyH_take (i := 13) (v := ?_) rfl (by kernel_rfl) (by kernel_rfl) (by kernel_rfl) (fun _ _ _ h => h) (Or.inl ⟨by rfl, ?_⟩) (by assumption) ?_
  rotate_left
  · (intro w hSw; obtain ⟨⟨hsh, hsp⟩, hs0⟩ := hSw; obtain ⟨u0, u1, u2, u3, u4, u5, u6, u7, u8, u9, u10, u11, u12, u13, u14⟩ := hsh.cells; obtain ⟨v0, v1, v2, v3, v4, v5, v6, v7, v8, v9, v10, v11, v12⟩ := cells13 hsp; go_simp; (try with_reducible rfl))
  try simp only [Act.put, List.getElem_toArray, List.getElem_cons_zero, List.getElem_cons_succ, List.setIfInBounds_toArray, List.set_cons_zero, List.set_cons_succ]
  refine wpAnyH_take (i := 14) (v := ?_) rfl (by kernel_rfl) (by kernel_rfl) (by kernel_rfl) (fun _ _ _ h => h) (Or.inl ⟨by rfl, ?_⟩) (by assumption) ?_
  rotate_left
  · (intro w hSw; obtain ⟨⟨hsh, hsp⟩, hs0⟩ := hSw; obtain ⟨u0, u1, u2, u3, u4, u5, u6, u7, u8, u9, u10, u11, u12, u13, u14⟩ := hsh.cells; obtain ⟨v0, v1, v2, v3, v4, v5, v6, v7, v8, v9, v10, v11, v12⟩ := cells13 hsp; go_simp; (try with_reducible rfl))
  try simp only [Act.put, List.getElem_toArray, List.getElem_cons_zero, List.getElem_cons_succ, List.setIfInBounds_toArray, List.set_cons_zero, List.set_cons_succ]
  refine wpAnyH_done (by kernel_rfl) (NoPanic.normal ?_) _
  have HF := Lib.hid hHeld
  clear hHeld
  obtain ⟨m0, m1, m2, m3, m4, m5, m6, m7, m8, m9, m10, m11⟩ := cells12 HF.out.2.1.1.1
  obtain ⟨r0, r1, r2, r3, r4, r5, r6, r7, r8, r9, r10, r11⟩ := cells12 HF.out.2.1.1.2
  obtain ⟨f0, f1, f2, f3, f4, f5, f6, f7, f8, f9, f10, f11⟩ := fz12 HF.out.2.1.1.2
  go_wp2_with fail
  have HQ := Lib.hid (put12 HF.out.2.1.1.2 (.string x0) (.string x1) (.string x2) (.string x3) (.string x4) (.string x5) (.string x6) (.string x7) (.string x8) (.string x9) (.bool xo) (.bool xp))
  refine bodyPost_ret (v := .tuple #[.agg #[.string x0, .string x1, .string x2, .string x3, .string x4, .string x5, .string x6, .string x7, .string x8, .string x9, .bool xo, .bool xp], .int .u64 num, .string P, .int .i64 0]) (res_unp _ (w.heap.size + 1) (.string x0) (.string x1) (.string x2) (.string x3) (.string x4) (.string x5) (.string x6) (.string x7) (.string x8) (.string x9) (.bool xo) (.bool xp) _ _ _ _ ?_ ?_ ?_ ?_ ?_) ?_ ⟨rfl, ?_⟩
  · rfl
  · rfl
  · rfl
  · rfl
  · first | exact HQ.out | exact heap_drew HQ.out
  · rfl
  · first | exact below12 HF.out.2.2 (by omega) _ _ _ _ _ _ _ _ _ _ _ _ | exact (below12 HF.out.2.2 (by omega) _ _ _ _ _ _ _ _ _ _ _ _).drew
end Go.Proofs.YtagbkmoahflfdaaGreatDoor.Se
namespace Go.Proofs.YtagbkmoahflfdaaGreatDoor.Hd
set_option maxRecDepth 20000
open Vm
set_option linter.unusedVariables false
set_option linter.unusedSimpArgs false

theorem may_short (ph : Bool) (cid : List UInt8) (wide c : Int) (hc : cid.length = 8) (h1 : 1 ≤ wide) (h2 : wide ≤ 4) (h3 : c < 256 ^ wide.toNat) : mayB false false ph 0 0 cid [] [] 0 wide c = true := by
  unfold mayB keptB bndB numB
  simp [hc, h1, h2, h3]
theorem fx_len (n k : Nat) : (fx n k).length = k := fx_length n k
/-- A packet's header. -/
def hdL (ph : Bool) (cid : List UInt8) (wide c : Int) : List UInt8 := putL false false ph 0 0 cid [] [] 0 wide c
theorem hdL_len (ph : Bool) (cid : List UInt8) (wide c : Int) (hc : cid.length = 8) : (hdL ph cid wide c).length = 9 + wide.toNat := by
  unfold hdL putL
  simp [hc, fx_len]
  omega
theorem pk_all (ph : Bool) (cid SL m : List UInt8) (wide c : Int) (hc : cid.length = 8) (h1 : 1 ≤ wide) (h2 : wide ≤ 4) (h0 : 0 ≤ c) (h3 : c < 256 ^ wide.toNat) (hm : m.length = 5) :
    mskE (hdL ph cid wide c ++ SL) m = 0 ∧ getO (hdL ph cid wide c ++ SL) = some (⟨false, false, ph, 0, 0, cid, [], [], 0, wide, c⟩, SL) ∧
    ∃ f num, mskL (hdL ph cid wide c ++ SL) m = f :: (cid ++ (num ++ SL)) ∧ num.length = wide.toNat ∧ f.toNat / 32 = 2 ∧
      plN (mskL (hdL ph cid wide c ++ SL) m) = 9 ∧ plE (mskL (hdL ph cid wide c ++ SL) m) = 0 ∧
      umE (mskL (hdL ph cid wide c ++ SL) m) m = 0 ∧ umL (mskL (hdL ph cid wide c ++ SL) m) m = hdL ph cid wide c ++ SL := by
  have EM := may_short ph cid wide c hc h1 h2 h3
  have hg : getO (hdL ph cid wide c ++ SL) = some (⟨false, false, ph, 0, 0, cid, [], [], 0, wide, c⟩, SL) := get_put EM (by decide) (by decide) (by decide) h0 SL
  have ha : ahO (hdL ph cid wide c ++ SL) = some (preOf false false 0 0 cid [] [] 0 (fx c.toNat wide.toNat ++ SL)) := ah_put EM (by decide) (by decide) (by decide) SL
  obtain ⟨b, pre, num, p, hP, hx⟩ := parts_of hg
  have hp : p = preOf false false 0 0 cid [] [] 0 (fx c.toNat wide.toNat ++ SL) := by
    have := hP.ah
    rw [ha] at this
    exact (Option.some.inj this).symm
  have hre := hP.re
  rw [hp] at hre
  have hnum : num = fx c.toNat wide.toNat := by
    have h : fx c.toNat wide.toNat ++ SL = num ++ SL := hre
    exact (List.append_cancel_right h).symm
  have heq := hP.eq
  have hput : hdL ph cid wide c ++ SL = by1 (fbN false false ph 0 wide) :: (cid ++ (fx c.toNat wide.toNat ++ SL)) := by
    unfold hdL putL
    simp
  rw [hput, hnum] at heq
  injection heq with hb hpre
  have hpre2 : pre = cid := (List.append_cancel_right hpre).symm
  have hnl : num.length = wide.toNat := by rw [hnum, fx_len]
  obtain ⟨m1, m2⟩ := msk_parts hg hP hx hm
  obtain ⟨u1, u2⟩ := um_parts hg hP hm
  have hmd : (m.drop 1).length = 4 := by rw [List.length_drop]; omega
  have hw4 : wide.toNat ≤ 4 := by omega
  have hxl : (xorL num (m.drop 1)).length = wide.toNat := by rw [xorL_length _ _ (by omega)]; exact hnl
  have hta := turn_ah (m := m) hP (m.headD 0) (xorL num (m.drop 1) ++ SL)
  obtain ⟨s1, s2, s3, -⟩ := fb_short h1 h2 false ph 0
  have hbn : b.toNat = fbN false false ph 0 wide := by rw [← hb]; exact by1_nat (by omega)
  have hf := fst_high b (m.headD 0)
  rw [if_pos (by omega)] at hf
  have hb32 : b.toNat / 32 = 2 := by
    have s3' : ¬ fbN false false ph 0 wide / 32 % 2 = 1 := of_decide_eq_false s3
    rw [hbn]; omega
  refine ⟨m1, hg, fstB b (m.headD 0), xorL num (m.drop 1), ?_, hxl, by rw [hf]; exact hb32, ?_, ?_, ?_, ?_⟩
  · rw [m2, hpre2]
  · rw [m2]
    unfold plN
    rw [hta]
    simp [hpre2, hc, hxl]
    omega
  · rw [m2]
    unfold plE
    rw [hta]
  · rw [m2]; exact u1
  · rw [m2]; exact u2
end Go.Proofs.YtagbkmoahflfdaaGreatDoor.Hd
