/- Layer 15: mathematics of the law of the end -/
import Derived.Test.YtoblmhpjendbfaaGreatDoorJb13
namespace Go.Proofs.YtoblmhpjendbfaaGreatDoor.Rg
set_option maxRecDepth 20000
set_option linter.unusedVariables false
set_option linter.unusedSimpArgs false

theorem can_half : ∀ {l : List Ran} {lo B : Int}, Can l → (∀ y ∈ l, lo ≤ y.1 ∧ y.2 < B) → lo ≤ B + 1 → 2 * (l.length : Int) ≤ B - lo + 1
  | [], lo, B, _, _, h => by simp; omega
  | x :: l, lo, B, hc, hw, h => by
    have h1 := hc.head
    have h2 := hw x (List.mem_cons_self ..)
    have := can_half (l := l) (lo := x.2 + 2) (B := B) hc.tail (fun y hy => ⟨hc.next y hy, (hw y (List.mem_cons_of_mem _ hy)).2⟩) (by omega)
    rw [List.length_cons]
    omega
/-- A set whose numbers lie in a stretch. -/
theorem can_within {l : List Ran} {lo B : Int} (hc : Can l) (h : ∀ x, mem l x → lo ≤ x ∧ x < B) (hb : lo ≤ B + 1) : 2 * (l.length : Int) ≤ B - lo + 1 := by
  refine can_half hc (fun y hy => ?_) hb
  have g := hc.good y hy
  exact ⟨(h y.1 ⟨y, hy, Int.le_refl _, g.2.1⟩).1, (h y.2 ⟨y, hy, g.2.1, Int.le_refl _⟩).2⟩
/-- The set of all from a place on, below another one. -/
def fromL (a b : Int) : List Ran := if a < b then [(a, b - 1)] else []
theorem fromL_can {a b : Int} (h0 : 0 ≤ a) (h1 : b < 9223372036854775808) : Can (fromL a b) ∧ ∀ x, mem (fromL a b) x ↔ a ≤ x ∧ x < b := by
  unfold fromL
  by_cases h : a < b
  · rw [if_pos h]
    refine ⟨Can.single ⟨h0, by simp only; omega, by simp only; omega⟩, fun x => ?_⟩
    rw [mem_single]
    unfold inn
    simp only
    omega
  · rw [if_neg h]
    exact ⟨Can.nil, fun x => ⟨fun h' => absurd h' (mem_nil x), fun h' => by omega⟩⟩
theorem is_fromL {l : List Ran} {a b : Int} (h0 : 0 ≤ a) (h1 : b < 9223372036854775808) (hc : Can l) (h : ∀ x, mem l x ↔ a ≤ x ∧ x < b) : l = fromL a b :=
  can_same ⟨hc, h⟩ (fromL_can h0 h1)

/-- What holds of a state of which all up to a place is acknowledged, and all behind it has to be sent. -/
structure EdI (L : Int) (F : Bool) (s : SS) (i : Nat) : Prop where
  ok : SsOk s
  ak : s.ak = []
  td : ∀ x, mem s.td x ↔ s.ba ≤ x ∧ x < L
  en : en s = L
  fn : s.fin = F
  md : (s.ft = F ∧ s.fa = false ∧ ((i : Int) ≤ s.ba ∨ (F = false ∧ s.ba = L))) ∨ (F = true ∧ s.ba = L ∧ s.ft = false ∧ s.fa = true)
/-- All is sent from the first byte on up to a place, and acknowledged. -/
theorem passed {s : SS} {L e : Int} {f : Bool} (hk : SsOk s) (hak : s.ak = []) (htd : ∀ x, mem s.td x ↔ s.ba ≤ x ∧ x < L) (hen : en s = L) (h1 : s.ba ≤ e) (h2 : e ≤ L) {m : Int} (hm : m = e - s.ba) :
    (ackS (sentS s s.ba m f) s.ba m f).ba = e ∧ (ackS (sentS s s.ba m f) s.ba m f).ak = [] ∧ (∀ x, mem (ackS (sentS s s.ba m f) s.ba m f).td x ↔ e ≤ x ∧ x < L) ∧ (ackS (sentS s s.ba m f) s.ba m f).fin = s.fin ∧
    (ackS (sentS s s.ba m f) s.ba m f).ft = (if f = true ∧ s.fin = true then false else if f = true then false else s.ft) ∧ (ackS (sentS s s.ba m f) s.ba m f).fa = (if f = true ∧ s.fin = true then true else s.fa) := by
  have hs := sent_ok hk s.ba m f
  obtain ⟨_, t2⟩ := sent_td hk s.ba m f
  obtain ⟨⟨c1, c2⟩, _, d2⟩ := came_sets hs s.ba m
  have hmid := came_mid hs s.ba m
  obtain ⟨a0, a1, a2, a3⟩ := ans_spec hmid
  obtain ⟨g1, g2⟩ := go_ak hmid
  have hu : ∀ x, mem (came (sentS s s.ba m f) s.ba m).ak x ↔ s.ba ≤ x ∧ x < e := by
    intro x
    rw [c2]
    show mem s.ak x ∨ inn (plS s s.ba m) x ↔ _
    rw [hak, inn_pl, hen]
    constructor
    · rintro (h | h)
      · exact absurd h (mem_nil x)
      · omega
    · intro h; exact .inr (by omega)
  have hba : (came (sentS s s.ba m f) s.ba m).ba = s.ba := rfl
  have hans : ansI (came (sentS s s.ba m f) s.ba m) = e - s.ba := by
    rw [hba] at a2 a3
    rcases Int.lt_trichotomy (ansI (came (sentS s s.ba m f) s.ba m)) (e - s.ba) with h | h | h
    · exact absurd ((hu _).2 ⟨by omega, by omega⟩) a3
    · exact h
    · have := (hu e).1 (a2 e (by omega) (by omega))
      omega
  refine ⟨?_, ?_, fun x => ?_, rfl, ?_, rfl⟩
  · show s.ba + ansI (came (sentS s s.ba m f) s.ba m) = e
    omega
  · refine can_none g1 (fun x hx => ?_)
    have := (g2 x).1 hx
    rw [hba, hans, hu] at this
    omega
  · show mem (came (sentS s s.ba m f) s.ba m).td x ↔ _
    rw [d2, t2, htd]
    show ((_ ∧ ¬ inn (plS s s.ba m) x) ∧ ¬ inn (plS s s.ba m) x) ↔ _
    rw [inn_pl, hen]
    omega
  · rfl
theorem EdI.size {L : Int} {F : Bool} {s : SS} {i : Nat} (h : EdI L F s i) : (s.d.size : Int) = L - s.ba := by have := h.en; unfold Rg.en at this; omega
/-- One round. -/
theorem EdI.step {L : Int} {F : Bool} {s : SS} {i : Nat} (h : EdI L F s i) (hL : L ≤ 200) {n : Int} (hn : 1 ≤ n) {N : NX} (hN : nxt s n 1000 = N) :
    (N.iz = false ∧ s.ba = L ∧ (F = true → doneB s = true)) ∨
    (N.iz = true ∧ 0 ≤ N.off ∧ N.off + (N.d.size : Int) ≤ L ∧ N.fin = (decide (N.off + (N.d.size : Int) = L) && F) ∧ N.off = s.ba ∧
      EdI L F (ackS (sentS s N.off (N.d.size : Int) N.fin) N.off (N.d.size : Int) N.fin) (i + 1) ∧ doneB (ackS (sentS s N.off (N.d.size : Int) N.fin) N.off (N.d.size : Int) N.fin) = N.fin) := by
  have h0 := h.ok.b0
  have hb : s.ba ≤ L := by have := en_ge s; have := h.en; omega
  have hsz := h.size
  have htd := is_fromL h0 (by omega) h.ok.ct h.td
  have key : ∀ (e : Int) (m : Int) (f : Bool), s.ba ≤ e → e ≤ L → m = e - s.ba → (f = (decide (e = L) && F)) → (s.ft = F ∧ s.fa = false) → ((i : Int) + 1 ≤ e ∨ (F = true ∧ e = L)) →
      EdI L F (ackS (sentS s s.ba m f) s.ba m f) (i + 1) ∧ doneB (ackS (sentS s s.ba m f) s.ba m f) = f := by
    intro e m f h1 h2 h3 h4 h5 h6
    obtain ⟨p1, p2, p3, p4, p5, p6⟩ := passed (f := f) h.ok h.ak h.td h.en h1 h2 h3
    have hok := ack_ok (sent_ok h.ok s.ba m f) s.ba m f
    have hen2 := en_ack (sent_ok h.ok s.ba m f) s.ba m f
    rw [en_sent, h.en] at hen2
    have hsz2 : ((ackS (sentS s s.ba m f) s.ba m f).d.size : Int) = L - e := by unfold Rg.en at hen2; rw [p1] at hen2; omega
    have hfn := h.fn
    have key2 : (ackS (sentS s s.ba m f) s.ba m f).fa = f ∧ (ackS (sentS s s.ba m f) s.ba m f).ft = (if f = true then false else F) := by
      rw [p5, p6, hfn, h5.1, h5.2]
      cases f with
      | false => simp
      | true =>
        have hF : F = true := by
          cases F with
          | true => rfl
          | false => rw [Bool.and_false] at h4; cases h4
        rw [hF]; simp
    refine ⟨⟨hok, p2, fun x => by rw [p3, p1], hen2, by rw [p4, hfn], ?_⟩, ?_⟩
    · rw [p1, key2.1, key2.2]
      cases f with
      | true =>
        right
        have hq : decide (e = L) = true ∧ F = true := by
          rw [← Bool.and_eq_true]; exact h4.symm
        exact ⟨hq.2, of_decide_eq_true hq.1, by simp, rfl⟩
      | false =>
        left
        refine ⟨by simp, rfl, ?_⟩
        rcases h6 with h6 | ⟨h6, h7⟩
        · left; omega
        · rw [decide_eq_true h7, h6] at h4; cases h4
    · unfold doneB
      rw [p4, hfn, key2.1, h4]
      by_cases hq : e = L
      · have hz : (ackS (sentS s s.ba m (decide (e = L) && F)) s.ba m (decide (e = L) && F)).d.size = 0 := by rw [← h4]; omega
        rw [decide_eq_true hz, decide_eq_true hq]
        cases F <;> rfl
      · rw [decide_eq_false hq]
        simp
  by_cases hlt : s.ba < L
  · right
    have hmd : s.ft = F ∧ s.fa = false ∧ (i : Int) ≤ s.ba := by
      rcases h.md with ⟨h1, h2, h3 | h3⟩ | h1
      · exact ⟨h1, h2, h3⟩
      · omega
      · omega
    have hNx : nxo s n 1000 (s.ba, L - 1) = N := by
      rw [← hN]
      unfold nxt
      have e : s.td = [(s.ba, L - 1)] := by rw [htd]; unfold fromL; rw [if_pos hlt]
      rw [e]
    have hE : nxE s n 1000 (s.ba, L - 1) = min (s.ba + n) L := by
      unfold nxE
      simp only
      rw [h.en]
      omega
    have hN2 : N = ⟨s.ba, s.d.extract (s.ba - s.ba).toNat (min (s.ba + n) L - s.ba).toNat, s.fin && s.ft && decide (min (s.ba + n) L = L), true⟩ := by
      rw [← hNx]
      unfold nxo
      rw [hE, h.en]
      simp only
      rw [show max s.ba s.ba = s.ba by omega, if_pos (by omega)]
    obtain ⟨E, hEq⟩ : ∃ x, min (s.ba + n) L = x := ⟨_, rfl⟩
    rw [hEq] at hN2
    have hds : ((s.d.extract (s.ba - s.ba).toNat (E - s.ba).toNat).size : Int) = E - s.ba := by rw [ByteArray.size_extract]; omega
    have hNo : N.off = s.ba := by rw [hN2]
    have hNd : (N.d.size : Int) = E - s.ba := by rw [hN2]; exact hds
    have hNf : N.fin = (decide (E = L) && F) := by
      rw [hN2]
      show (s.fin && s.ft && decide (E = L)) = _
      rw [h.fn, hmd.1, Bool.and_comm, Bool.and_self]
    have hNi : N.iz = true := by rw [hN2]
    have k := key E (N.d.size : Int) N.fin (by omega) (by omega) hNd hNf ⟨hmd.1, hmd.2.1⟩ (.inl (by omega))
    rw [hNo, hNd] at *
    refine ⟨hNi, h0, by omega, ?_, rfl, k.1, k.2⟩
    rw [hNf, show s.ba + (E - s.ba) = E by omega]
  · have hbL : s.ba = L := by omega
    have e : s.td = [] := by rw [htd]; unfold fromL; rw [if_neg hlt]
    have hNx : (if s.ft = true then (⟨Rg.en s, ⟨#[]⟩, true, true⟩ : NX) else nx0) = N := by
      rw [← hN]
      unfold nxt
      rw [e]
    rcases h.md with ⟨h1, h2, h3⟩ | ⟨h1, h2, h3, h4⟩
    · cases hF : F with
      | false =>
        left
        rw [h1, hF] at hNx
        rw [if_neg (by simp)] at hNx
        exact ⟨by rw [← hNx]; rfl, hbL, fun h => by cases h⟩
      | true =>
        right
        subst hF
        rw [h1, if_pos rfl, h.en] at hNx
        have k := key L (0 : Int) true (by omega) (by omega) (by omega) (by simp) ⟨h1, h2⟩ (.inr ⟨rfl, rfl⟩)
        subst hNx
        refine ⟨rfl, by show (0 : Int) ≤ L; omega, by show L + 0 ≤ L; omega, ?_, hbL.symm, ?_, ?_⟩
        · show true = (decide (L + 0 = L) && true); simp
        · have := k.1; rw [hbL] at this; exact this
        · have := k.2; rw [hbL] at this; exact this
    · left
      rw [h3, if_neg (by simp)] at hNx
      refine ⟨by rw [← hNx]; rfl, hbL, fun _ => ?_⟩
      unfold doneB
      rw [h.fn, h1, h4, decide_eq_true (show s.d.size = 0 by omega)]
      rfl
theorem Mid.len {s : SS} (h : Mid s) (he : en s ≤ 200) : s.ak.length ≤ 100 ∧ s.td.length ≤ 100 := by
  have h0 := h.b0
  have h1 := en_ge s
  have a := can_within h.ca (lo := 0) (B := 200) (fun x hx => by have := h.ia x hx; omega) (by decide)
  have b := can_within h.ct (lo := 0) (B := 200) (fun x hx => by have := h.it x hx; omega) (by decide)
  omega
/-- The end follows. -/
theorem EdI.ends {L : Int} {s : SS} {i : Nat} (h : EdI L false s i) : EdI L true (finS s) 0 := by
  have e : finS s = { s with fin := true, ft := true } := by unfold finS; rw [h.fn]; rfl
  rw [e]
  have hk := fin_ok h.ok
  rw [e] at hk
  refine ⟨hk, h.ak, h.td, h.en, rfl, .inl ⟨rfl, ?_, .inl ?_⟩⟩
  · rcases h.md with h1 | h1
    · exact h1.2.1
    · cases h1.1
  · have := h.ok.b0; show ((0 : Nat) : Int) ≤ s.ba; omega
theorem EdI.last {L : Int} {s : SS} {i : Nat} (h : EdI L true s i) (hL : L ≤ 200) (hb : s.ba = L) (hf : s.fa = false) {n : Int} (hn : 1 ≤ n) :
    nxt s n 0 = ⟨L, ⟨#[]⟩, true, true⟩ ∧ doneB s = false ∧ doneB (ackS (sentS s L 0 true) L 0 true) = true := by
  have htd : s.td = [] := can_none h.ok.ct (fun x hx => by have := (h.td x).1 hx; omega)
  have hft : s.ft = true := by
    rcases h.md with h1 | h1
    · exact h1.1
    · rw [hf] at h1; cases h1.2.2.2
  have hN : ∀ c, nxt s n c = ⟨L, ⟨#[]⟩, true, true⟩ := by
    intro c
    unfold nxt
    rw [htd]
    simp only
    rw [if_pos hft, h.en]
  refine ⟨hN 0, by unfold doneB; rw [hf]; cases s.fin <;> rfl, ?_⟩
  rcases h.step hL hn (hN 1000) with h1 | h1
  · cases h1.1
  · exact h1.2.2.2.2.2.2
end Go.Proofs.YtoblmhpjendbfaaGreatDoor.Rg
