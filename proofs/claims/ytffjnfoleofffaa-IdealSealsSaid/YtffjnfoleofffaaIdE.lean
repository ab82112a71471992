/- The walks of layer 10: a new box; what is sealed; connection IDs of it. By tools/gen-ideal-2.py. -/
import Derived.Test.YtffjnfoleofffaaIdD
import Derived.Laws.ResultCell
namespace Go.Proofs.Ytffjnfoleofffaa.Id
open Go.RowKit Vm
set_option linter.unusedVariables false
set_option linter.unusedSimpArgs false

theorem inf_box : (Try.prog.info? 31).map (·.size) = some 3 := by kernel_rfl
set_option maxHeartbeats 1000000 in
theorem new_any (s : Nat) (w : World) :
    Calls Try.prog 15 #[.int .u64 s] w fun e w' => e = .returned (.agg #[.int .u64 s, .int .u64 0, .slice none 0 0]) ∧ Below w.heap.size w w' := by
  go_enter Try.func15, Try.ntmps15
  go_wp2
  exact bodyPost_ret (v := .agg #[.int .u64 s, .int .u64 0, .slice none 0 0]) (by simp [results, Try.results15, go_sem]) rfl ⟨rfl, (Below.refl _ _).alloc (Nat.le_refl _) _⟩
/-- The bytes of what is sealed. -/
def sealS (sd nx : Nat) (cid plain : ByteArray) : ByteArray := (⟨#[64]⟩ ++ cid) ++ ⟨(drawN (baseN sd nx) (plain.size + 20)).toArray⟩
theorem sealS_size (sd nx : Nat) (cid plain : ByteArray) : (sealS sd nx cid plain).size = cid.size + plain.size + 21 := by
  unfold sealS
  rw [ByteArray.size_append, ByteArray.size_append]
  have : (⟨(drawN (baseN sd nx) (plain.size + 20)).toArray⟩ : ByteArray).size = plain.size + 20 := drawN_len _ _
  rw [this]
  show 1 + cid.size + (plain.size + 20) = _
  omega
theorem OwnE.mono {T : TypeId} {W : World} {B B' : Nat} {v : Value} {G : List Ent} (h : OwnE T W B v G) (hB : B' ≤ B) : OwnE T W B' v G := by
  refine ⟨h.1, ?_⟩
  rcases h.2 with h2 | ⟨g, cap, cur, hv, hb, r⟩
  · exact .inl h2
  · exact .inr ⟨g, cap, cur, hv, Nat.le_trans hB hb, r⟩
def SealTo (T : TypeId) (sd nx : Nat) (G : List Ent) (fr : Int) (num : Nat) (cid plain : ByteArray) (w : World) (e : Ending) (w' : World) : Prop :=
  ∃ a c, e = .returned (.tuple #[.agg #[.int .u64 sd, .int .u64 ((nx + 1) % 18446744073709551616 : Nat), .slice a (G.length + 1) c], .string (sealS sd nx cid plain)]) ∧ OwnE T w' w.heap.size (.slice a (G.length + 1) c) (G ++ [⟨fr, num, sealS sd nx cid plain, plain⟩]) ∧ Below w.heap.size w w'
def Two (b g : Nat) (cs ds : Array Value) (T U : TypeId) (W : World) : Prop := W.heap[b]? = some (.cells cs T (0, 0)) ∧ W.heap[g]? = some (.cells ds U (0, 0))
theorem two_heap {b g : Nat} {x y : Obj} {W : World} (h : W.heap[b]? = some x ∧ W.heap[g]? = some y) {o : Obj} : (W.alloc o).heap[b]? = some x ∧ (W.alloc o).heap[g]? = some y :=
  ⟨(Below.heap_alloc W o b (Array.getElem?_eq_some_iff.1 h.1).1).trans h.1, (Below.heap_alloc W o g (Array.getElem?_eq_some_iff.1 h.2).1).trans h.2⟩
theorem two_heap2 {b g : Nat} {x y : Obj} {W : World} (h : W.heap[b]? = some x ∧ W.heap[g]? = some y) {o p : Obj} : ((W.alloc o).alloc p).heap[b]? = some x ∧ ((W.alloc o).alloc p).heap[g]? = some y := two_heap (two_heap h)
theorem two_below {b g : Nat} {x y : Obj} {W W' : World} (h : W.heap[b]? = some x ∧ W.heap[g]? = some y) (hb : Below W.heap.size W W') : W'.heap[b]? = some x ∧ W'.heap[g]? = some y :=
  ⟨(hb.block b (Array.getElem?_eq_some_iff.1 h.1).1).trans h.1, (hb.block g (Array.getElem?_eq_some_iff.1 h.2).1).trans h.2⟩
theorem two_set {b g : Nat} {x y : Obj} {W : World} (h : W.heap[b]? = some x ∧ W.heap[g]? = some y) (a : Addr) (u : Value) (h1 : b ≠ a.block) (h2 : g ≠ a.block) : (W.setCell a u).heap[b]? = some x ∧ (W.setCell a u).heap[g]? = some y :=
  ⟨(Below.heap_setCell W a u b h1).trans h.1, (Below.heap_setCell W a u g h2).trans h.2⟩
theorem three_put {w : World} {b : Nat} {T : TypeId} {v0 v1 v2 : Value} (h : w.heap[b]? = some (.cells #[v0, v1, v2] T (0, 0))) (x y z : Value) : (((w.setCell ⟨b, 0, none⟩ x).setCell ⟨b, 1, none⟩ y).setCell ⟨b, 2, none⟩ z).heap[b]? = some (.cells #[x, y, z] T (0, 0)) := by
  have h0 := Joins.block_setCell (i := 0) h x
  have h1 := Joins.block_setCell (i := 1) h0 y
  have h2 := Joins.block_setCell (i := 2) h1 z
  rw [h2]
  simp
theorem results_seal (tmps : Array Value) (g : Nat) (x y z : Value) (s : ByteArray) (w : World) (hp : tmps.getD 10 undef = .pointer (some ⟨g, 0, none⟩)) (hu : tmps.getD 11 undef = .string s) (hc : w.heap[g]? = some (.cells #[x, y, z] 31 (0, 0))) :
    (results Try.f17 tmps).run Try.prog w = .ok (.tuple #[.agg #[x, y, z], .string s]) w := by
  have c0 : w.cell? ⟨g, 0, none⟩ = some x := Lib.cell_of_heap hc 0
  have c1 : w.cell? ⟨g, 1, none⟩ = some y := Lib.cell_of_heap hc 1
  have c2 : w.cell? ⟨g, 2, none⟩ = some z := Lib.cell_of_heap hc 2
  rw [results_cell_tmp Try.results17]
  simp only [hp, hu]
  go_simp
set_option maxHeartbeats 4000000 in
theorem seal_any (sd nx : Nat) (v : Value) (G : List Ent) (fr : Int) (num : Nat) (cid plain : ByteArray) (w0 : World) (hr : RowE w0 v G) (hG : G.length ≤ 200) (hc : cid.size ≤ 1000) (hp : plain.size ≤ 1000) :
    Calls Try.prog 17 #[.agg #[.int .u64 sd, .int .u64 nx, v], .int .i64 fr, .int .u64 num, .string cid, .string plain] w0 (SealTo 64 sd nx G fr num cid plain w0) := by
  obtain ⟨va, vc, rfl, hcap, hrow⟩ := id hr
  have HRW := Lib.hid hr
  clear hr hrow
  obtain ⟨vn, hvn⟩ : ∃ n, G.length = n := ⟨_, rfl⟩
  rw [hvn] at HRW hcap ⊢
  have CD : Hid (∀ W : World, Calls Try.prog 10 #[.int .u64 sd, .int .u64 nx, .int .i64 ((plain.size : Int) + 20)] W fun e w' => e = .returned (.string ⟨(drawN (baseN sd nx) (plain.size + 20)).toArray⟩) ∧ Below W.heap.size W w') := Lib.hid (fun W => by
    have h := draw_any sd nx ((plain.size : Int) + 20) W (by omega)
    rwa [show ((plain.size : Int) + 20).toNat = plain.size + 20 by omega] at h)
  have hds : (⟨(drawN (baseN sd nx) (plain.size + 20)).toArray⟩ : ByteArray).size = plain.size + 20 := drawN_len _ _
  have hss := sealS_size sd nx cid plain
  have HSS : Hid ((⟨#[64]⟩ ++ cid) ++ ⟨(drawN (baseN sd nx) (plain.size + 20)).toArray⟩ = sealS sd nx cid plain) := Lib.hid rfl
  obtain ⟨DD, hDD⟩ : ∃ s : ByteArray, ⟨(drawN (baseN sd nx) (plain.size + 20)).toArray⟩ = s := ⟨_, rfl⟩
  obtain ⟨SS, hSS⟩ : ∃ s : ByteArray, sealS sd nx cid plain = s := ⟨_, rfl⟩
  rw [hDD] at CD hds HSS
  rw [hSS] at HSS hss
  have HSSE := Lib.hid hSS
  have HD := Lib.hid hds
  have HVN := Lib.hid hvn
  have SN := Lib.hid (sum_lit nx 1 1 rfl)
  clear hDD hSS hds hvn
  obtain ⟨ps, hps⟩ : ∃ n, plain.size = n := ⟨_, rfl⟩
  rw [hps] at CD HD hss hp
  have HP := Lib.hid hps
  obtain ⟨cz, hcz⟩ : ∃ n, cid.size = n := ⟨_, rfl⟩
  rw [hcz] at hss hc
  have hps0 : (ps : Int) ≤ 1000 := by omega
  have hcz0 : (cz : Int) ≤ 1000 := by omega
  go_enter Try.func17, Try.ntmps17
  go_wp2_with fail
  with_reducible refine (CD.out _).mono ?_
  rintro e w1 ⟨rfl, hb⟩
  have HB1 := Lib.hid hb
  have hDs : DD.size = ps + 20 := HD.out
  have hs1 : w0.heap.size + 2 ≤ w1.heap.size := by have := hb.size; simp at this; omega
  have H5 := Lib.hid ((hb.block w0.heap.size (by simp; omega)).trans ((Below.heap_alloc _ _ w0.heap.size (by simp)).trans (heap_alloc_new w0 (.cells #[.int .u64 sd, .int .u64 nx, .slice va vn vc] 31))))
  have H6 := Lib.hid ((hb.block (w0.heap.size + 1) (by simp)).trans (show ((w0.alloc (.cells #[.int .u64 sd, .int .u64 nx, .slice va vn vc] 31)).alloc (.cells #[.int .u64 0, .int .u64 0, .slice none 0 0] 31)).heap[w0.heap.size + 1]? = some (.cells #[.int .u64 0, .int .u64 0, .slice none 0 0] 31 (0, 0)) from by
    have h := heap_alloc_new (w0.alloc (.cells #[.int .u64 sd, .int .u64 nx, .slice va vn vc] 31)) (.cells #[.int .u64 0, .int .u64 0, .slice none 0 0] 31)
    rwa [World.size_alloc] at h))
  have HW2 := Lib.hid ((((Below.refl w0.heap.size w0).alloc (Nat.le_refl _) (.cells #[.int .u64 sd, .int .u64 nx, .slice va vn vc] 31)).alloc (by simp) (.cells #[.int .u64 0, .int .u64 0, .slice none 0 0] 31)).trans (hb.mono (by simp; omega)))
  clear hb
  go_wp2_with fail
  rw [HSS.out]
  have CC : Hid (Calls Try.prog 30 #[.slice (some ⟨w1.heap.size + 1 + 1, 0, none⟩) 2 2] ((((w1.alloc (.cells #[.int .i64 fr, .int .u64 num, .string SS, .string plain] 64)).alloc (.cells #[.int .i64 fr, .int .u64 num, .string SS, .string plain] 64)).alloc (.cells #[.slice va vn vc, .slice (some ⟨w1.heap.size + 1, 0, none⟩) 1 1] 29)).drew) fun e w' => ∃ a c, e = .returned (.slice a (vn + 1) c) ∧ OwnE 64 w' ((((w1.alloc (.cells #[.int .i64 fr, .int .u64 num, .string SS, .string plain] 64)).alloc (.cells #[.int .i64 fr, .int .u64 num, .string SS, .string plain] 64)).alloc (.cells #[.slice va vn vc, .slice (some ⟨w1.heap.size + 1, 0, none⟩) 1 1] 29)).drew).heap.size (.slice a (vn + 1) c) (G ++ [⟨fr, num, SS, plain⟩]) ∧ Below ((((w1.alloc (.cells #[.int .i64 fr, .int .u64 num, .string SS, .string plain] 64)).alloc (.cells #[.int .i64 fr, .int .u64 num, .string SS, .string plain] 64)).alloc (.cells #[.slice va vn vc, .slice (some ⟨w1.heap.size + 1, 0, none⟩) 1 1] 29)).drew).heap.size ((((w1.alloc (.cells #[.int .i64 fr, .int .u64 num, .string SS, .string plain] 64)).alloc (.cells #[.int .i64 fr, .int .u64 num, .string SS, .string plain] 64)).alloc (.cells #[.slice va vn vc, .slice (some ⟨w1.heap.size + 1, 0, none⟩) 1 1] 29)).drew) w') := Lib.hid (by
    have hv := HVN.out
    subst hv
    have hr1 := row_one (w1.alloc (.cells #[.int .i64 fr, .int .u64 num, .string SS, .string plain] 64)) 64 ⟨fr, num, SS, plain⟩
    refine (concat_any (w1.heap.size + 1 + 1) va vc G (some ⟨w1.heap.size + 1, 0, none⟩) 1 [⟨fr, num, SS, plain⟩] _ (by simp) (by simp [go_sem]) (by simp [go_sem]) ?_ ?_ (by omega) (by simp)).mono ?_
    · exact HRW.out.go (((((HW2.out).alloc (by omega) _).alloc (by simp; omega) _).alloc (by simp; omega) _).drew)
    · have h := hr1.go (((Below.refl _ _).alloc (Nat.le_refl _) (.cells #[.slice va G.length vc, .slice (some ⟨w1.heap.size + 1, 0, none⟩) 1 1] 29)).drew)
      rwa [show (w1.alloc (.cells #[.int .i64 fr, .int .u64 num, .string SS, .string plain] 64)).heap.size = w1.heap.size + 1 from World.size_alloc _ _] at h
    · rintro e w' ⟨v, rfl, ho, hb⟩
      obtain ⟨a, c, rfl⟩ := ho.form
      have e : (G ++ [(⟨fr, num, SS, plain⟩ : Ent)]).length = G.length + 1 := by simp
      rw [e] at ho ⊢
      exact ⟨a, c, rfl, ho, hb⟩)
  have H63 : Hid (((((w1.alloc (.cells #[.int .i64 fr, .int .u64 num, .string SS, .string plain] 64)).alloc (.cells #[.int .i64 fr, .int .u64 num, .string SS, .string plain] 64)).alloc (.cells #[.slice va vn vc, .slice (some ⟨w1.heap.size + 1, 0, none⟩) 1 1] 29)).drew).heap[w0.heap.size + 1]? = some (.cells #[.int .u64 0, .int .u64 0, .slice none 0 0] 31 (0, 0))) := Lib.hid ((Below.heap_alloc _ _ _ (by simp; omega)).trans ((Below.heap_alloc _ _ _ (by simp; omega)).trans ((Below.heap_alloc _ _ _ (by omega)).trans H6.out)))
  have HS2 : Hid ((w1.alloc (.cells #[.int .i64 fr, .int .u64 num, .string SS, .string plain] 64)).drew.heap[w0.heap.size]? = some (.cells #[.int .u64 sd, .int .u64 nx, .slice va vn vc] 31 (0, 0)) ∧ (w1.alloc (.cells #[.int .i64 fr, .int .u64 num, .string SS, .string plain] 64)).drew.heap[w1.heap.size]? = some (.cells #[.int .i64 fr, .int .u64 num, .string SS, .string plain] 64 (0, 0))) := Lib.hid ⟨(Below.heap_alloc w1 _ w0.heap.size (by omega)).trans H5.out, heap_alloc_new w1 _⟩
  refine wp_region_noPanic ?_
  refine wp_region_held_drew (S := fun W : World => W.heap[w0.heap.size]? = some (.cells #[.int .u64 sd, .int .u64 nx, .slice va vn vc] 31 (0, 0)) ∧ W.heap[w1.heap.size]? = some (.cells #[.int .i64 fr, .int .u64 num, .string SS, .string plain] 64 (0, 0))) (by kernel_rfl) ?_ (fun hHeld => ?_)
  · exact HS2.out
  refine wpAnyH_take (i := 0) (v := ?_) rfl (by kernel_rfl) (by kernel_rfl) (by kernel_rfl) (fun _ _ _ h => h) (Or.inl ⟨by rfl, ?_⟩) (by assumption) ?_
  rotate_left
  · (intro w hSw; (obtain ⟨hSb, hSe⟩ := hSw; have c0 : w.cell? ⟨w0.heap.size, 0, none⟩ = some (.int .u64 sd) := Lib.cell_of_heap hSb 0; have c1 : w.cell? ⟨w0.heap.size, 1, none⟩ = some (.int .u64 nx) := Lib.cell_of_heap hSb 1; have c2 : w.cell? ⟨w0.heap.size, 2, none⟩ = some (.slice va vn vc) := Lib.cell_of_heap hSb 2; have e0 : w.cell? ⟨w1.heap.size, 0, none⟩ = some (.int .i64 fr) := Lib.cell_of_heap hSe 0; have e1 : w.cell? ⟨w1.heap.size, 1, none⟩ = some (.int .u64 num) := Lib.cell_of_heap hSe 1; have e2 : w.cell? ⟨w1.heap.size, 2, none⟩ = some (.string SS) := Lib.cell_of_heap hSe 2; have e3 : w.cell? ⟨w1.heap.size, 3, none⟩ = some (.string plain) := Lib.cell_of_heap hSe 3; clear hSb hSe); go_simp; (try with_reducible rfl))
  try simp only [Act.put, List.getElem_toArray, List.getElem_cons_zero, List.getElem_cons_succ, List.setIfInBounds_toArray, List.set_cons_zero, List.set_cons_succ]
  refine wpAnyH_take (i := 1) (v := ?_) rfl (by kernel_rfl) (by kernel_rfl) (by kernel_rfl) (fun _ _ _ h => h) (Or.inl ⟨by rfl, ?_⟩) (by assumption) ?_
  rotate_left
  · (intro w hSw; (obtain ⟨hSb, hSe⟩ := hSw; have c0 : w.cell? ⟨w0.heap.size, 0, none⟩ = some (.int .u64 sd) := Lib.cell_of_heap hSb 0; have c1 : w.cell? ⟨w0.heap.size, 1, none⟩ = some (.int .u64 nx) := Lib.cell_of_heap hSb 1; have c2 : w.cell? ⟨w0.heap.size, 2, none⟩ = some (.slice va vn vc) := Lib.cell_of_heap hSb 2; have e0 : w.cell? ⟨w1.heap.size, 0, none⟩ = some (.int .i64 fr) := Lib.cell_of_heap hSe 0; have e1 : w.cell? ⟨w1.heap.size, 1, none⟩ = some (.int .u64 num) := Lib.cell_of_heap hSe 1; have e2 : w.cell? ⟨w1.heap.size, 2, none⟩ = some (.string SS) := Lib.cell_of_heap hSe 2; have e3 : w.cell? ⟨w1.heap.size, 3, none⟩ = some (.string plain) := Lib.cell_of_heap hSe 3; clear hSb hSe); go_simp; (try with_reducible rfl))
  try simp only [Act.put, List.getElem_toArray, List.getElem_cons_zero, List.getElem_cons_succ, List.setIfInBounds_toArray, List.set_cons_zero, List.set_cons_succ]
  refine wpAnyH_take (i := 2) (v := ?_) rfl (by kernel_rfl) (by kernel_rfl) (by kernel_rfl) (fun _ _ _ h => h) (Or.inl ⟨by rfl, ?_⟩) (by assumption) ?_
  rotate_left
  · (intro w hSw; (obtain ⟨hSb, hSe⟩ := hSw; have c0 : w.cell? ⟨w0.heap.size, 0, none⟩ = some (.int .u64 sd) := Lib.cell_of_heap hSb 0; have c1 : w.cell? ⟨w0.heap.size, 1, none⟩ = some (.int .u64 nx) := Lib.cell_of_heap hSb 1; have c2 : w.cell? ⟨w0.heap.size, 2, none⟩ = some (.slice va vn vc) := Lib.cell_of_heap hSb 2; have e0 : w.cell? ⟨w1.heap.size, 0, none⟩ = some (.int .i64 fr) := Lib.cell_of_heap hSe 0; have e1 : w.cell? ⟨w1.heap.size, 1, none⟩ = some (.int .u64 num) := Lib.cell_of_heap hSe 1; have e2 : w.cell? ⟨w1.heap.size, 2, none⟩ = some (.string SS) := Lib.cell_of_heap hSe 2; have e3 : w.cell? ⟨w1.heap.size, 3, none⟩ = some (.string plain) := Lib.cell_of_heap hSe 3; clear hSb hSe); go_simp; (try with_reducible rfl))
  try simp only [Act.put, List.getElem_toArray, List.getElem_cons_zero, List.getElem_cons_succ, List.setIfInBounds_toArray, List.set_cons_zero, List.set_cons_succ]
  refine wpAnyH_take (i := 3) (v := ?_) rfl (by kernel_rfl) (by kernel_rfl) (by kernel_rfl) (fun _ _ _ h => h) (Or.inl ⟨by rfl, ?_⟩) (by assumption) ?_
  rotate_left
  · (intro w hSw; (obtain ⟨hSb, hSe⟩ := hSw; have c0 : w.cell? ⟨w0.heap.size, 0, none⟩ = some (.int .u64 sd) := Lib.cell_of_heap hSb 0; have c1 : w.cell? ⟨w0.heap.size, 1, none⟩ = some (.int .u64 nx) := Lib.cell_of_heap hSb 1; have c2 : w.cell? ⟨w0.heap.size, 2, none⟩ = some (.slice va vn vc) := Lib.cell_of_heap hSb 2; have e0 : w.cell? ⟨w1.heap.size, 0, none⟩ = some (.int .i64 fr) := Lib.cell_of_heap hSe 0; have e1 : w.cell? ⟨w1.heap.size, 1, none⟩ = some (.int .u64 num) := Lib.cell_of_heap hSe 1; have e2 : w.cell? ⟨w1.heap.size, 2, none⟩ = some (.string SS) := Lib.cell_of_heap hSe 2; have e3 : w.cell? ⟨w1.heap.size, 3, none⟩ = some (.string plain) := Lib.cell_of_heap hSe 3; clear hSb hSe); go_simp; (try with_reducible rfl))
  try simp only [Act.put, List.getElem_toArray, List.getElem_cons_zero, List.getElem_cons_succ, List.setIfInBounds_toArray, List.set_cons_zero, List.set_cons_succ]
  refine wpAnyH_take (i := 4) (v := ?_) rfl (by kernel_rfl) (by kernel_rfl) (by kernel_rfl) (fun _ _ _ h => h) (Or.inl ⟨by rfl, ?_⟩) (by assumption) ?_
  rotate_left
  · (intro w hSw; (obtain ⟨hSb, hSe⟩ := hSw; have c0 : w.cell? ⟨w0.heap.size, 0, none⟩ = some (.int .u64 sd) := Lib.cell_of_heap hSb 0; have c1 : w.cell? ⟨w0.heap.size, 1, none⟩ = some (.int .u64 nx) := Lib.cell_of_heap hSb 1; have c2 : w.cell? ⟨w0.heap.size, 2, none⟩ = some (.slice va vn vc) := Lib.cell_of_heap hSb 2; have e0 : w.cell? ⟨w1.heap.size, 0, none⟩ = some (.int .i64 fr) := Lib.cell_of_heap hSe 0; have e1 : w.cell? ⟨w1.heap.size, 1, none⟩ = some (.int .u64 num) := Lib.cell_of_heap hSe 1; have e2 : w.cell? ⟨w1.heap.size, 2, none⟩ = some (.string SS) := Lib.cell_of_heap hSe 2; have e3 : w.cell? ⟨w1.heap.size, 3, none⟩ = some (.string plain) := Lib.cell_of_heap hSe 3; clear hSb hSe); go_simp; (try with_reducible rfl))
  try simp only [Act.put, List.getElem_toArray, List.getElem_cons_zero, List.getElem_cons_succ, List.setIfInBounds_toArray, List.set_cons_zero, List.set_cons_succ]
  refine wpAnyH_take (i := 5) (v := ?_) rfl (by kernel_rfl) (by kernel_rfl) (by kernel_rfl) (fun _ _ _ h => h) (Or.inl ⟨by rfl, ?_⟩) (by assumption) ?_
  rotate_left
  · (intro w hSw; (obtain ⟨hSb, hSe⟩ := hSw; have c0 : w.cell? ⟨w0.heap.size, 0, none⟩ = some (.int .u64 sd) := Lib.cell_of_heap hSb 0; have c1 : w.cell? ⟨w0.heap.size, 1, none⟩ = some (.int .u64 nx) := Lib.cell_of_heap hSb 1; have c2 : w.cell? ⟨w0.heap.size, 2, none⟩ = some (.slice va vn vc) := Lib.cell_of_heap hSb 2; have e0 : w.cell? ⟨w1.heap.size, 0, none⟩ = some (.int .i64 fr) := Lib.cell_of_heap hSe 0; have e1 : w.cell? ⟨w1.heap.size, 1, none⟩ = some (.int .u64 num) := Lib.cell_of_heap hSe 1; have e2 : w.cell? ⟨w1.heap.size, 2, none⟩ = some (.string SS) := Lib.cell_of_heap hSe 2; have e3 : w.cell? ⟨w1.heap.size, 3, none⟩ = some (.string plain) := Lib.cell_of_heap hSe 3; clear hSb hSe); go_simp; (try with_reducible rfl))
  try simp only [Act.put, List.getElem_toArray, List.getElem_cons_zero, List.getElem_cons_succ, List.setIfInBounds_toArray, List.set_cons_zero, List.set_cons_succ]
  refine wpAnyH_take (i := 6) (v := ?_) rfl (by kernel_rfl) (by kernel_rfl) (by kernel_rfl) (fun _ _ _ h => h) (Or.inl ⟨by rfl, ?_⟩) (by assumption) ?_
  rotate_left
  · (intro w hSw; (obtain ⟨hSb, hSe⟩ := hSw; have c0 : w.cell? ⟨w0.heap.size, 0, none⟩ = some (.int .u64 sd) := Lib.cell_of_heap hSb 0; have c1 : w.cell? ⟨w0.heap.size, 1, none⟩ = some (.int .u64 nx) := Lib.cell_of_heap hSb 1; have c2 : w.cell? ⟨w0.heap.size, 2, none⟩ = some (.slice va vn vc) := Lib.cell_of_heap hSb 2; have e0 : w.cell? ⟨w1.heap.size, 0, none⟩ = some (.int .i64 fr) := Lib.cell_of_heap hSe 0; have e1 : w.cell? ⟨w1.heap.size, 1, none⟩ = some (.int .u64 num) := Lib.cell_of_heap hSe 1; have e2 : w.cell? ⟨w1.heap.size, 2, none⟩ = some (.string SS) := Lib.cell_of_heap hSe 2; have e3 : w.cell? ⟨w1.heap.size, 3, none⟩ = some (.string plain) := Lib.cell_of_heap hSe 3; clear hSb hSe); go_simp; (try with_reducible rfl))
  try simp only [Act.put, List.getElem_toArray, List.getElem_cons_zero, List.getElem_cons_succ, List.setIfInBounds_toArray, List.set_cons_zero, List.set_cons_succ]
  refine wpAnyH_take (i := 7) (v := ?_) rfl (by kernel_rfl) (by kernel_rfl) (by kernel_rfl) (fun _ _ _ h => h) (Or.inl ⟨by rfl, ?_⟩) (by assumption) ?_
  rotate_left
  · (intro w hSw; (obtain ⟨hSb, hSe⟩ := hSw; have c0 : w.cell? ⟨w0.heap.size, 0, none⟩ = some (.int .u64 sd) := Lib.cell_of_heap hSb 0; have c1 : w.cell? ⟨w0.heap.size, 1, none⟩ = some (.int .u64 nx) := Lib.cell_of_heap hSb 1; have c2 : w.cell? ⟨w0.heap.size, 2, none⟩ = some (.slice va vn vc) := Lib.cell_of_heap hSb 2; have e0 : w.cell? ⟨w1.heap.size, 0, none⟩ = some (.int .i64 fr) := Lib.cell_of_heap hSe 0; have e1 : w.cell? ⟨w1.heap.size, 1, none⟩ = some (.int .u64 num) := Lib.cell_of_heap hSe 1; have e2 : w.cell? ⟨w1.heap.size, 2, none⟩ = some (.string SS) := Lib.cell_of_heap hSe 2; have e3 : w.cell? ⟨w1.heap.size, 3, none⟩ = some (.string plain) := Lib.cell_of_heap hSe 3; clear hSb hSe); go_simp; (try with_reducible rfl))
  try simp only [Act.put, List.getElem_toArray, List.getElem_cons_zero, List.getElem_cons_succ, List.setIfInBounds_toArray, List.set_cons_zero, List.set_cons_succ]
  refine wpAnyH_take (i := 12) (v := ?_) rfl (by kernel_rfl) (by kernel_rfl) (by kernel_rfl) (fun _ _ _ h => h) (Or.inl ⟨by rfl, ?_⟩) (by assumption) ?_
  rotate_left
  · (intro w hSw; (obtain ⟨hSb, hSe⟩ := hSw; have c0 : w.cell? ⟨w0.heap.size, 0, none⟩ = some (.int .u64 sd) := Lib.cell_of_heap hSb 0; have c1 : w.cell? ⟨w0.heap.size, 1, none⟩ = some (.int .u64 nx) := Lib.cell_of_heap hSb 1; have c2 : w.cell? ⟨w0.heap.size, 2, none⟩ = some (.slice va vn vc) := Lib.cell_of_heap hSb 2; have e0 : w.cell? ⟨w1.heap.size, 0, none⟩ = some (.int .i64 fr) := Lib.cell_of_heap hSe 0; have e1 : w.cell? ⟨w1.heap.size, 1, none⟩ = some (.int .u64 num) := Lib.cell_of_heap hSe 1; have e2 : w.cell? ⟨w1.heap.size, 2, none⟩ = some (.string SS) := Lib.cell_of_heap hSe 2; have e3 : w.cell? ⟨w1.heap.size, 3, none⟩ = some (.string plain) := Lib.cell_of_heap hSe 3; clear hSb hSe); go_simp; (try with_reducible rfl))
  try simp only [Act.put, List.getElem_toArray, List.getElem_cons_zero, List.getElem_cons_succ, List.setIfInBounds_toArray, List.set_cons_zero, List.set_cons_succ]
  refine wpAnyH_ready (rs := [8]) (by kernel_rfl) (by simp) ?_
  refine AllReadyH.cons rfl (fun K hK => ?_) AllReadyH.nil
  rw [if_pos (by rfl)]
  go_simp
  refine hK.out _ _ ?_ (fun hHeld => ?_)
  · exact two_heap HS2.out
  clear hK K
  try simp only [Act.put, List.getElem_toArray, List.getElem_cons_zero, List.getElem_cons_succ, List.setIfInBounds_toArray, List.set_cons_zero, List.set_cons_succ]
  refine wpAnyH_ready (rs := [9]) (by kernel_rfl) (by simp) ?_
  refine AllReadyH.cons rfl (fun K hK => ?_) AllReadyH.nil
  rw [if_pos (by rfl)]
  go_simp
  refine hK.out _ _ ?_ (fun hHeld => ?_)
  · exact two_heap2 HS2.out
  clear hK K
  try simp only [Act.put, List.getElem_toArray, List.getElem_cons_zero, List.getElem_cons_succ, List.setIfInBounds_toArray, List.set_cons_zero, List.set_cons_succ]
  refine wpAnyH_ready (rs := [10]) (by kernel_rfl) (by simp) ?_
  refine AllReadyH.cons rfl (fun K hK => ?_) AllReadyH.nil
  rw [if_pos (by rfl)]
  go_simp
  with_reducible refine (CC.out).mono ?_
  rintro e w4 ⟨a4, c4, rfl, r4, b4⟩
  have HS4 := Lib.hid (two_below (two_heap2 HS2.out) b4)
  have HR4 := Lib.hid r4
  have HB4 := Lib.hid b4
  have H64 := Lib.hid ((b4.block (w0.heap.size + 1) (by simp; omega)).trans (H63.out))
  have q0 : w4.cell? ⟨w0.heap.size + 1, 0, none⟩ = _ := Lib.cell_of_heap H64.out 0
  have q1 : w4.cell? ⟨w0.heap.size + 1, 1, none⟩ = _ := Lib.cell_of_heap H64.out 1
  have q2 : w4.cell? ⟨w0.heap.size + 1, 2, none⟩ = _ := Lib.cell_of_heap H64.out 2
  have qf : ∀ k, w4.frozen? ⟨w0.heap.size + 1, k, none⟩ = false := fun k => Lib.frozen_of_heap H64.out k
  clear r4 b4
  refine hK.out _ _ ?_ (fun hHeld => ?_)
  · exact HS4.out
  clear hK K
  try simp only [Act.put, List.getElem_toArray, List.getElem_cons_zero, List.getElem_cons_succ, List.setIfInBounds_toArray, List.set_cons_zero, List.set_cons_succ]
  refine wpAnyH_take (i := 11) (v := ?_) rfl (by kernel_rfl) (by kernel_rfl) (by kernel_rfl) (fun _ _ _ h => h) (Or.inl ⟨by rfl, ?_⟩) (by assumption) ?_
  rotate_left
  · (intro w hSw; (obtain ⟨hSb, hSe⟩ := hSw; have c0 : w.cell? ⟨w0.heap.size, 0, none⟩ = some (.int .u64 sd) := Lib.cell_of_heap hSb 0; have c1 : w.cell? ⟨w0.heap.size, 1, none⟩ = some (.int .u64 nx) := Lib.cell_of_heap hSb 1; have c2 : w.cell? ⟨w0.heap.size, 2, none⟩ = some (.slice va vn vc) := Lib.cell_of_heap hSb 2; have e0 : w.cell? ⟨w1.heap.size, 0, none⟩ = some (.int .i64 fr) := Lib.cell_of_heap hSe 0; have e1 : w.cell? ⟨w1.heap.size, 1, none⟩ = some (.int .u64 num) := Lib.cell_of_heap hSe 1; have e2 : w.cell? ⟨w1.heap.size, 2, none⟩ = some (.string SS) := Lib.cell_of_heap hSe 2; have e3 : w.cell? ⟨w1.heap.size, 3, none⟩ = some (.string plain) := Lib.cell_of_heap hSe 3; clear hSb hSe); go_simp; (try with_reducible rfl))
  try simp only [Act.put, List.getElem_toArray, List.getElem_cons_zero, List.getElem_cons_succ, List.setIfInBounds_toArray, List.set_cons_zero, List.set_cons_succ]
  refine wpAnyH_ready (rs := [13]) (by kernel_rfl) (by simp) ?_
  refine AllReadyH.cons rfl (fun K hK => ?_) AllReadyH.nil
  rw [if_pos (by rfl)]
  go_simp
  refine hK.out _ _ ?_ (fun hHeld => ?_)
  · exact two_set (two_set (two_set HS4.out _ _ (by show _ ≠ _; simp) (by show _ ≠ _; simp; omega)) _ _ (by show _ ≠ _; simp) (by show _ ≠ _; simp; omega)) _ _ (by show _ ≠ _; simp) (by show _ ≠ _; simp; omega)
  clear hK K
  try simp only [Act.put, List.getElem_toArray, List.getElem_cons_zero, List.getElem_cons_succ, List.setIfInBounds_toArray, List.set_cons_zero, List.set_cons_succ]
  refine wpAnyH_take (i := 14) (v := ?_) rfl (by kernel_rfl) (by kernel_rfl) (by kernel_rfl) (fun _ _ _ h => h) (Or.inl ⟨by rfl, ?_⟩) (by assumption) ?_
  rotate_left
  · (intro w hSw; (obtain ⟨hSb, hSe⟩ := hSw; have c0 : w.cell? ⟨w0.heap.size, 0, none⟩ = some (.int .u64 sd) := Lib.cell_of_heap hSb 0; have c1 : w.cell? ⟨w0.heap.size, 1, none⟩ = some (.int .u64 nx) := Lib.cell_of_heap hSb 1; have c2 : w.cell? ⟨w0.heap.size, 2, none⟩ = some (.slice va vn vc) := Lib.cell_of_heap hSb 2; have e0 : w.cell? ⟨w1.heap.size, 0, none⟩ = some (.int .i64 fr) := Lib.cell_of_heap hSe 0; have e1 : w.cell? ⟨w1.heap.size, 1, none⟩ = some (.int .u64 num) := Lib.cell_of_heap hSe 1; have e2 : w.cell? ⟨w1.heap.size, 2, none⟩ = some (.string SS) := Lib.cell_of_heap hSe 2; have e3 : w.cell? ⟨w1.heap.size, 3, none⟩ = some (.string plain) := Lib.cell_of_heap hSe 3; clear hSb hSe); go_simp; (try with_reducible rfl))
  try simp only [Act.put, List.getElem_toArray, List.getElem_cons_zero, List.getElem_cons_succ, List.setIfInBounds_toArray, List.set_cons_zero, List.set_cons_succ]
  refine wpAnyH_done (by kernel_rfl) (NoPanic.normal ?_) _
  have HF := Lib.hid (three_put H64.out (.int .u64 sd) (.int .u64 (IntKind.u64.wrap ((nx : Int) + 1))) (.slice a4 (vn + 1) c4))
  have HRF := Lib.hid (OwnE.mono (B' := w0.heap.size) (ownsRow_setCell_below (ownsRow_setCell_below (ownsRow_setCell_below HR4.out (a := ⟨w0.heap.size + 1, 0, none⟩) (by simp; omega) (.int .u64 sd)) (a := ⟨w0.heap.size + 1, 1, none⟩) (by simp; omega) (.int .u64 (IntKind.u64.wrap ((nx : Int) + 1)))) (a := ⟨w0.heap.size + 1, 2, none⟩) (by simp; omega) (.slice a4 (vn + 1) c4)) (by have := HW2.out.size; simp; omega))
  have HBF := Lib.hid (Below.setCell (Below.setCell (Below.setCell ((((((HW2.out).alloc (by omega) (.cells #[.int .i64 fr, .int .u64 num, .string SS, .string plain] 64)).alloc (by simp; omega) (.cells #[.int .i64 fr, .int .u64 num, .string SS, .string plain] 64)).alloc (by simp; omega) (.cells #[.slice va vn vc, .slice (some ⟨w1.heap.size + 1, 0, none⟩) 1 1] 29)).drew).trans (HB4.out.mono (by simp; omega))) (p := ⟨w0.heap.size + 1, 0, none⟩) (by simp) (.int .u64 sd)) (p := ⟨w0.heap.size + 1, 1, none⟩) (by simp) (.int .u64 (IntKind.u64.wrap ((nx : Int) + 1)))) (p := ⟨w0.heap.size + 1, 2, none⟩) (by simp) (.slice a4 (vn + 1) c4))
  clear hHeld
  go_wp2_with fail
  refine bodyPost_ret (results_seal _ (w0.heap.size + 1) _ _ _ SS _ rfl rfl HF.out) rfl ?_
  have hSE := HSSE.out
  have hVE := HVN.out
  refine ⟨a4, c4, ?_, ?_, HBF.out⟩
  · rw [hSE, hVE, ← SN.out]
  · rw [hSE, hVE]
    exact HRF.out
end Go.Proofs.Ytffjnfoleofffaa.Id
