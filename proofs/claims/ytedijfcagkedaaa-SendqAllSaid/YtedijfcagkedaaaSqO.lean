/- Layer 15: rows of what was sent and is not told of. After layer 14's rows of parts. -/
import Derived.Test.YtedijfcagkedaaaSqN
import Derived.Test.YtedijfcagkedaaaRgQ
import Derived.Maps.AppendAt
import Derived.Lib.AppendZeros
import Derived.Laws.OwnMore
import Derived.Lib.SliceRun
namespace Go.Proofs.Ytedijfcagkedaaa.Rg
set_option maxRecDepth 20000
open Go.RowKit Go.Shelf
set_option linter.unusedVariables false
set_option linter.unusedSimpArgs false

/-- What was sent: from where on, how many, and the end. -/
structure Sg where
  off : Int
  n : Int
  f : Bool
def sgZ : Sg := ⟨0, 0, false⟩
def sgc (x : Sg) : List Value := [.int .u64 x.off, .int .i64 x.n, .bool x.f]
def flatS (G : List Sg) : List Value := G.flatMap sgc
theorem flatS_len (G : List Sg) : (flatS G).length = G.length * 3 := by
  induction G with
  | nil => rfl
  | cons f G ih =>
    show (sgc f ++ flatS G).length = (G.length + 1) * 3
    rw [List.length_append, ih, show (sgc f).length = 3 from rfl]
    omega
theorem flatS_app (G H : List Sg) : flatS (G ++ H) = flatS G ++ flatS H := by simp [flatS]
theorem flatS_get : ∀ (G : List Sg) (i j : Nat), i < G.length → j < 3 → (flatS G)[i * 3 + j]? = (sgc (G.getD i sgZ))[j]?
  | [], i, j, h, _ => by simp at h
  | f :: G, 0, j, _, hj => by
    show (sgc f ++ flatS G)[0 * 3 + j]? = _
    rw [List.getElem?_append_left (by show 0 * 3 + j < 3; omega), Nat.zero_mul, Nat.zero_add]
    rfl
  | f :: G, i + 1, j, h, hj => by
    show (sgc f ++ flatS G)[(i + 1) * 3 + j]? = _
    rw [List.getElem?_append_right (by show 3 ≤ (i + 1) * 3 + j; omega), show (i + 1) * 3 + j - (sgc f).length = i * 3 + j by show (i + 1) * 3 + j - 3 = _; omega]
    exact flatS_get G i j (by simpa using h) hj
theorem flatS_one (G : List Sg) : ∀ u ∈ flatS G, u.oneCell' = true := by
  intro u hu
  obtain ⟨f, _, hf⟩ := List.mem_flatMap.1 hu
  simp only [sgc, List.mem_cons, List.not_mem_nil, or_false] at hf
  rcases hf with rfl | rfl | rfl <;> rfl
/-- A row of the call's own. -/
def OwnS (w : World) (B : Nat) (v : Value) (G : List Sg) : Prop := w.ownsRow B 57 3 v G.length (flatS G)
theorem infS : (Try.prog.info? 57).map (fun i => (i.zero, i.size, i.bytes)) = some (some (.agg #[.int .u64 0, .int .i64 0, .bool false]), 3, 24) := by kernel_rfl
/-- A row that one reads. -/
def RowS (W : World) (v : Value) (G : List Sg) : Prop := ∃ a cap, v = .slice a G.length cap ∧ G.length ≤ cap ∧ (G ≠ [] → ∃ b off, a = some ⟨b, off, none⟩ ∧ b < W.heap.size ∧ ∀ i, i < G.length → ∀ j, j < 3 → W.cell? ⟨b, off + (i * 3 + j), none⟩ = (sgc (G.getD i sgZ))[j]?)
theorem OwnS.row {W : World} {B : Nat} {v : Value} {G : List Sg} (h : OwnS W B v G) : RowS W v G := by
  have h0 := h
  rcases h.2 with ⟨hv, hz⟩ | ⟨g, cap, cur, hv, hb, hg, hnc, r⟩
  · have hl : G = [] := List.eq_nil_of_length_eq_zero hz
    subst hl
    exact ⟨none, 0, hv, Nat.le_refl _, fun h => absurd rfl h⟩
  · subst hv
    refine ⟨some ⟨g, 0, none⟩, cap, rfl, hnc, fun _ => ⟨g, 0, rfl, (Array.getElem?_eq_some_iff.1 hg).1, fun i hi j hj => ?_⟩⟩
    have hlen := flatS_len G
    rw [Nat.zero_add]
    exact (World.ownsRow.cellAt h0 (i * 3 + j) (by omega)).trans (flatS_get G i j hi hj)
theorem OwnS.form {W : World} {B : Nat} {v : Value} {G : List Sg} (h : OwnS W B v G) : ∃ a c, v = .slice a G.length c := by
  rcases h.2 with ⟨hv, hz⟩ | ⟨g, cap, cur, hv, _⟩
  · exact ⟨none, 0, by rw [hv, hz]⟩
  · exact ⟨_, _, hv⟩
theorem OwnS.lt {W : World} {B : Nat} {v : Value} {G : List Sg} (h : OwnS W B v G) {k : Nat} (hk : v.ownBlock = some k) : B ≤ k ∧ k < W.heap.size := World.ownsRow.lt h k hk
theorem OwnS.only {w w' : World} {B : Nat} {v : Value} {G : List Sg} (h : OwnS w B v G) {O : Nat → Prop} (ho : Only O w w') (hn : ∀ k, v.ownBlock = some k → ¬ O k) : OwnS w' B v G := by
  refine ⟨h.1, ?_⟩
  rcases h.2 with h2 | ⟨g, cap, cur, rfl, hb, hgg, rest⟩
  · exact .inl h2
  · exact .inr ⟨g, cap, cur, rfl, hb, ho.heap hgg (hn g rfl), rest⟩
theorem OwnS.go {w w' : World} {B : Nat} {v : Value} {G : List Sg} (h : OwnS w B v G) (hb : Below w.heap.size w w') : OwnS w' B v G := by
  refine ⟨h.1, ?_⟩
  rcases h.2 with h2 | ⟨g, cap, cur, rfl, hB, hgg, rest⟩
  · exact .inl h2
  · exact .inr ⟨g, cap, cur, rfl, hB, (hb.block g (Array.getElem?_eq_some_iff.1 hgg).1).trans hgg, rest⟩
theorem OwnS.mono {w : World} {B B' : Nat} {v : Value} {G : List Sg} (h : OwnS w B v G) (hB : B' ≤ B) : OwnS w B' v G := by
  refine ⟨h.1, ?_⟩
  rcases h.2 with h2 | ⟨g, cap, cur, rfl, hb, rest⟩
  · exact .inl h2
  · exact .inr ⟨g, cap, cur, rfl, Nat.le_trans hB hb, rest⟩
theorem ownS_made (w : World) : OwnS (w.alloc (.cells #[] 57)) w.heap.size (.slice (some ⟨w.heap.size, 0, none⟩) 0 0) [] := World.ownsRow_made w #[] 0 (Nat.le_refl _) (by unfold maxLen; omega) rfl
theorem rowS_one (W : World) (x : Sg) : RowS (W.alloc (.cells #[.int .u64 x.off, .int .i64 x.n, .bool x.f] 57)) (.slice (some ⟨W.heap.size, 0, none⟩) 1 1) [x] :=
  ⟨_, 1, rfl, Nat.le_refl _, fun _ => ⟨_, 0, rfl, by simp, fun i hi j hj => by
    obtain rfl : i = 0 := by simp at hi; omega
    have : j = 0 ∨ j = 1 ∨ j = 2 := by omega
    rcases this with rfl | rfl | rfl <;> simp [go_sem, sgc]⟩⟩
theorem rowS_cells {W : World} {b off : Nat} {G : List Sg} (h : ∀ i, i < G.length → ∀ j, j < 3 → W.cell? ⟨b, off + (i * 3 + j), none⟩ = (sgc (G.getD i sgZ))[j]?) :
    ∀ j u, (flatS G)[j]? = some u → W.cell? ((⟨b, off, none⟩ : Addr).add j) = some u := by
  intro j u hu
  have hj : j < G.length * 3 := by rw [← flatS_len]; exact (List.getElem?_eq_some_iff.1 hu).1
  have hq : j / 3 < G.length := by omega
  have h1 := h (j / 3) hq (j % 3) (by omega)
  have h2 := flatS_get G (j / 3) (j % 3) hq (by omega)
  rw [show j / 3 * 3 + j % 3 = j by omega] at h1 h2
  rw [Addr.add_lit, h1, ← h2, hu]
theorem run_append_noneS {P : Program} {w : World} (base : Nat) (t ty e : TypeId) (i : TypeInfo) (size c : Nat) (ht : P.underlying t = some (.slice e)) (hi : P.info? e = some i)
    (v : Value) (n : Nat) (xs : List Value) (hown : w.ownsRow base e size v n xs) :
    (Builtin.append_ #[t, t] ty #[v, .slice none 0 c]).run P w = .ok v w := by
  rcases hown.2 with ⟨rfl, rfl⟩ | ⟨g, cap, cur, rfl, _, _, hnc, _⟩
  · simp [Builtin.append_, run_underlying ht, sizeOf, typeInfo, hi, Builtin.lenOf, Builtin.firstCells]
  · simp [Builtin.append_, run_underlying ht, sizeOf, typeInfo, hi, Builtin.lenOf, Builtin.firstCells, hnc, storeCells]
/-- What is read is appended to a row of the call's own. -/
theorem run_append_S (w : World) (base : Nat) (ty : TypeId) (v : Value) (l : List Sg) (hown : OwnS w base v l) (u : Value) (m : List Sg) (hr : RowS w u m) (hlen : l.length + m.length ≤ 100000) (hbase : base ≤ w.heap.size) :
    ∃ v' w', (Builtin.append_ #[55, 55] ty #[v, u]).run Try.prog w = .ok v' w' ∧ OwnS w' base v' (l ++ m) ∧ w.grownBy w' v.ownBlock ∧ (v'.ownBlock = v.ownBlock ∨ v'.ownBlock = some w.heap.size) := by
  obtain ⟨i0, hi, hz0, hz1, hz2⟩ := info_parts infS
  obtain ⟨a, cap, rfl, hcap, hrow⟩ := hr
  have fin : ∀ (ad : Addr), a = some ad → (∀ j u, (flatS m)[j]? = some u → w.cell? (ad.add j) = some u) →
      ∃ v' w', (Builtin.append_ #[55, 55] ty #[v, .slice a m.length cap]).run Try.prog w = .ok v' w' ∧ OwnS w' base v' (l ++ m) ∧ w.grownBy w' v.ownBlock ∧ (v'.ownBlock = v.ownBlock ∨ v'.ownBlock = some w.heap.size) := by
    intro ad ha hc
    obtain ⟨v', w', h1, h2, h3, _, h4⟩ := run_append_own_at (P := Try.prog) w base 55 ty 57 i0 (.agg #[.int .u64 0, .int .i64 0, .bool false]) 3 24 Try.underlying55 hi hz0 hz1 hz2 rfl (by decide) v l.length (flatS l) hown ad m.length cap (flatS m) (flatS_len m) hc (flatS_one m) (by unfold maxLen; omega) (by omega) hbase
    refine ⟨v', w', by rw [ha]; exact h1, ?_, h3, h4⟩
    unfold OwnS
    rw [List.length_append, flatS_app]
    exact h2
  by_cases hnil : m = []
  · subst hnil
    cases a with
    | none => exact ⟨v, w, run_append_noneS base 55 ty 57 i0 3 cap Try.underlying55 hi v l.length (flatS l) hown, by rw [List.append_nil]; exact hown, ⟨rfl, rfl, rfl, Nat.le_refl _, fun _ _ _ => rfl⟩, .inl rfl⟩
    | some ad => exact fin ad rfl (fun j u h => by simp [flatS] at h)
  · obtain ⟨b, off, rfl, hb, hc⟩ := hrow hnil
    exact fin _ rfl (rowS_cells hc)
end Go.Proofs.Ytedijfcagkedaaa.Rg
