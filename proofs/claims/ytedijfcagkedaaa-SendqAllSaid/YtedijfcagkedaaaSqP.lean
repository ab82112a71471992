/- Layer 15: mathematics of the law that all is acknowledged in the end. By hand. -/
import Derived.Test.YtedijfcagkedaaaSqO
import Derived.Test.YtedijfcagkedaaaRgN
namespace Go.Proofs.Ytedijfcagkedaaa.Rg
set_option maxRecDepth 20000
set_option linter.unusedVariables false
set_option linter.unusedSimpArgs false

theorem cnt_le {f g : Int → Bool} (h : ∀ n, f n = true → g n = true) : ∀ N, cnt f N ≤ cnt g N
  | 0 => Int.le_refl _
  | N + 1 => by
    rw [cnt, cnt]
    have h1 := cnt_le h N
    have h2 := h N
    cases hf : f N <;> cases hg : g N <;> simp [hf, hg] at h2 ⊢ <;> omega
theorem cnt_or_le {f g h : Int → Bool} (hh : ∀ n, h n = true → f n = true ∨ g n = true) : ∀ N, cnt h N ≤ cnt f N + cnt g N
  | 0 => Int.le_refl _
  | N + 1 => by
    rw [cnt, cnt, cnt]
    have h1 := cnt_or_le hh N
    have h2 := hh N
    cases hf : f N <;> cases hg : g N <;> cases hk : h N <;> simp [hf, hg, hk] at h2 ⊢ <;> omega
theorem cnt_range (f : Int → Bool) : ∀ N : Nat, 0 ≤ cnt f N ∧ cnt f N ≤ (N : Int)
  | 0 => ⟨Int.le_refl _, Int.le_refl _⟩
  | N + 1 => by
    rw [cnt]
    have h1 := cnt_range f N
    cases hf : f N <;> simp <;> omega
theorem cnt_pos {f : Int → Bool} {p : Int} (h0 : 0 ≤ p) (hf : f p = true) : ∀ N : Nat, p < (N : Int) → 1 ≤ cnt f N
  | 0, h => by omega
  | N + 1, h => by
    rw [cnt]
    have h1 := cnt_range f N
    by_cases hp : p = (N : Int)
    · rw [← hp, hf]; simp; omega
    · have := cnt_pos h0 hf N (by omega)
      cases hg : f N <;> simp <;> omega
/-- How many places have to be sent. -/
def tdN (s : SS) (L : Nat) : Int := cnt (hasB s.td) L
def sumN : List Sg → Int
  | [] => 0
  | x :: G => x.n + sumN G
def sumF : List Sg → Int
  | [] => 0
  | x :: G => (if x.f = true then 1 else 0) + sumF G
theorem sumN_app : ∀ (G H : List Sg), sumN (G ++ H) = sumN G + sumN H
  | [], H => by simp [sumN]
  | x :: G, H => by rw [List.cons_append, sumN, sumN, sumN_app G H]; omega
theorem sumF_app : ∀ (G H : List Sg), sumF (G ++ H) = sumF G + sumF H
  | [], H => by simp [sumF]
  | x :: G, H => by rw [List.cons_append, sumF, sumF, sumF_app G H]; omega
theorem sumF_ge : ∀ G : List Sg, 0 ≤ sumF G
  | [] => Int.le_refl _
  | x :: G => by rw [sumF]; have := sumF_ge G; split <;> omega
/-- Without the k-th one. -/
def rmv (k : Nat) (G : List Sg) : List Sg := G.take k ++ G.drop (k + 1)
theorem rmv_split {k : Nat} {G : List Sg} (h : k < G.length) : G = G.take k ++ (G.getD k sgZ :: G.drop (k + 1)) := by
  have e : G.getD k sgZ = G[k] := by simp [List.getD, h]
  rw [e, ← List.drop_eq_getElem_cons h, List.take_append_drop]
theorem rmv_mem {k : Nat} {G : List Sg} {y : Sg} (h : y ∈ rmv k G) : y ∈ G := by
  rcases List.mem_append.1 h with h | h
  · exact List.mem_of_mem_take h
  · exact List.mem_of_mem_drop h
theorem mem_rmv {k : Nat} {G : List Sg} (hk : k < G.length) {y : Sg} (h : y ∈ G) : y = G.getD k sgZ ∨ y ∈ rmv k G := by
  rw [rmv_split hk] at h
  rcases List.mem_append.1 h with h | h
  · exact .inr (List.mem_append.2 (.inl h))
  · rcases List.mem_cons.1 h with h | h
    · exact .inl h
    · exact .inr (List.mem_append.2 (.inr h))
theorem rmv_sumN {k : Nat} {G : List Sg} (hk : k < G.length) : sumN G = sumN (rmv k G) + (G.getD k sgZ).n := by
  rw [show sumN G = sumN (G.take k ++ (G.getD k sgZ :: G.drop (k + 1))) by rw [← rmv_split hk], rmv, sumN_app, sumN_app, sumN]
  omega
theorem rmv_sumF {k : Nat} {G : List Sg} (hk : k < G.length) : sumF G = sumF (rmv k G) + (if (G.getD k sgZ).f = true then 1 else 0) := by
  rw [show sumF G = sumF (G.take k ++ (G.getD k sgZ :: G.drop (k + 1))) by rw [← rmv_split hk], rmv, sumF_app, sumF_app, sumF]
  omega
theorem rmv_len {k : Nat} {G : List Sg} (hk : k < G.length) : (rmv k G).length + 1 = G.length := by
  unfold rmv
  rw [List.length_append, List.length_take, List.length_drop]
  omega
def b1 (b : Bool) : Int := if b = true then 1 else 0
/-- What holds of a state, and of what was sent and is not told of. -/
structure AlI (T : ByteArray) (s : SS) (G : List Sg) : Prop where
  ok : SsOk s
  en : en s = (T.size : Int)
  dt : s.d = T.extract s.ba.toNat T.size
  fn : s.fin = true
  po : ∀ x ∈ G, 0 ≤ x.off ∧ 0 ≤ x.n ∧ x.off + x.n ≤ (T.size : Int) ∧ (x.f = false → 1 ≤ x.n) ∧ x.off + x.n ≤ s.tp
  cv : ∀ p, s.ba ≤ p → p < (T.size : Int) → mem s.ak p ∨ mem s.td p ∨ ∃ x ∈ G, x.off ≤ p ∧ p < x.off + x.n
  tq : ∀ p, 0 ≤ p → p < (T.size : Int) → ¬ mem s.td p → p < s.tp
  nm : sumN G + tdN s T.size ≤ (T.size : Int)
  fm : sumF G + b1 s.ft ≤ 1
  ed : s.ft = true ∨ s.fa = true ∨ ∃ x ∈ G, x.f = true
/-- How much is left to do. -/
def left (T : ByteArray) (s : SS) (G : List Sg) : Int := 2 * tdN s T.size + (G.length : Int) + 2 * b1 s.ft
theorem b1_range (b : Bool) : 0 ≤ b1 b ∧ b1 b ≤ 1 := by cases b <;> decide
theorem len_le : ∀ {G : List Sg}, (∀ x ∈ G, 0 ≤ x.n ∧ (x.f = false → 1 ≤ x.n)) → (G.length : Int) ≤ sumN G + sumF G
  | [], _ => Int.le_refl _
  | x :: G, h => by
    have h1 := h x (List.mem_cons_self ..)
    have h2 := len_le (G := G) (fun y hy => h y (List.mem_cons_of_mem _ hy))
    rw [sumN, sumF, List.length_cons]
    cases hf : x.f with
    | true => rw [if_pos rfl]; omega
    | false => have := h1.2 hf; rw [if_neg (by simp)]; omega
theorem AlI.most {T : ByteArray} {s : SS} {G : List Sg} (h : AlI T s G) : 0 ≤ left T s G ∧ left T s G ≤ 2 * (T.size : Int) + 2 := by
  have h1 := len_le (fun x hx => ⟨(h.po x hx).2.1, (h.po x hx).2.2.2.1⟩)
  have h2 := h.nm
  have h3 := h.fm
  have h4 := cnt_range (hasB s.td) T.size
  have h5 := b1_range s.ft
  have h6 := sumF_ge G
  unfold tdN at h2
  unfold left tdN
  omega
theorem has_none {l : List Ran} {n : Int} (h : ¬ mem l n) : hasB l n = false := by rw [← Bool.not_eq_true, hasB_iff]; exact h
/-- What is told is sent. -/
theorem AlI.sent {T : ByteArray} {s : SS} {G : List Sg} (h : AlI T s G) {o m : Int} {f : Bool} (h0 : 0 ≤ o) (h1 : 0 ≤ m) (h2 : o + m ≤ (T.size : Int)) (hf : f = false → 1 ≤ m) (hf2 : f = true → s.ft = true) (hp : ∀ p, o ≤ p → p < o + m → mem s.td p) :
    AlI T (sentS s o m f) (G ++ [⟨o, m, f⟩]) ∧ left T (sentS s o m f) (G ++ [⟨o, m, f⟩]) + 1 ≤ left T s G := by
  obtain ⟨c1, c2⟩ := sent_td h.ok o m f
  have hen := h.en
  have htp : (sentS s o m f).tp = max s.tp (o + m) := by
    show max s.tp (min (o + max m 0) (Rg.en s)) = _
    rw [hen]; omega
  have hin : ∀ p, inn (plS s o m) p ↔ (o ≤ p ∧ p < o + m) := by
    intro p
    rw [inn_pl, hen]
    constructor
    · rintro ⟨a, b⟩; omega
    · intro a
      have := h.ok.it p (hp p a.1 a.2)
      omega
  have hcnt : tdN s T.size = tdN (sentS s o m f) T.size + m := by
    have e1 : cnt (fun n => decide (o ≤ n ∧ n ≤ o + m - 1)) T.size = m := by
      by_cases hm : m = 0
      · subst hm
        exact cnt_none (fun n => decide_eq_false (by omega)) _
      · rw [cnt_inn o (o + m - 1) h0 (by omega), if_neg (by omega)]
        split <;> omega
    have e2 := cnt_or (h := hasB s.td) (f := hasB (sentS s o m f).td) (g := fun n => decide (o ≤ n ∧ n ≤ o + m - 1)) (fun n => by
      rw [Bool.eq_iff_iff, Bool.or_eq_true, hasB_iff, hasB_iff, decide_eq_true_eq, c2, hin]
      constructor
      · intro hn
        by_cases hq : o ≤ n ∧ n < o + m
        · exact .inr (by omega)
        · exact .inl ⟨hn, hq⟩
      · rintro (hn | hn)
        · exact hn.1
        · exact hp n hn.1 (by omega)) (fun n g1 g2 => by
      have g1 := (c2 n).1 (hasB_iff.1 g1)
      have g2 := of_decide_eq_true g2
      exact g1.2 ((hin n).2 (by omega))) T.size
    unfold tdN
    rw [e2, e1]
  have hft : b1 (sentS s o m f).ft + b1 f ≤ b1 s.ft ∧ b1 (sentS s o m f).ft ≤ b1 s.ft := by
    show b1 (if f = true then false else s.ft) + b1 f ≤ b1 s.ft ∧ b1 (if f = true then false else s.ft) ≤ b1 s.ft
    cases hq : f with
    | true => rw [hf2 hq]; decide
    | false => rw [if_neg (by simp)]; exact ⟨by show b1 s.ft + 0 ≤ _; omega, Int.le_refl _⟩
  have hsF : sumF (G ++ [⟨o, m, f⟩]) = sumF G + b1 f := by rw [sumF_app]; show sumF G + ((if f = true then 1 else 0) + 0) = _; unfold b1; omega
  have hsN : sumN (G ++ [⟨o, m, f⟩]) = sumN G + m := by rw [sumN_app]; show sumN G + (m + 0) = _; omega
  refine ⟨⟨sent_ok h.ok o m f, hen, h.dt, h.fn, fun x hx => ?_, fun p p1 p2 => ?_, fun p p1 p2 p3 => ?_, ?_, ?_, ?_⟩, ?_⟩
  · rw [htp]
    rcases List.mem_append.1 hx with hx | hx
    · have := h.po x hx
      exact ⟨this.1, this.2.1, this.2.2.1, this.2.2.2.1, by omega⟩
    · rw [List.mem_singleton.1 hx]
      exact ⟨h0, h1, h2, hf, by show o + m ≤ _; omega⟩
  · rcases h.cv p p1 p2 with q | q | ⟨x, hx, q⟩
    · exact .inl q
    · by_cases hq : o ≤ p ∧ p < o + m
      · exact .inr (.inr ⟨⟨o, m, f⟩, by simp, hq⟩)
      · exact .inr (.inl ((c2 p).2 ⟨q, fun hh => hq ((hin p).1 hh)⟩))
    · exact .inr (.inr ⟨x, List.mem_append.2 (.inl hx), q⟩)
  · rw [htp]
    by_cases hq : mem s.td p
    · by_cases hr : o ≤ p ∧ p < o + m
      · omega
      · exact absurd ((c2 p).2 ⟨hq, fun hh => hr ((hin p).1 hh)⟩) p3
    · have := h.tq p p1 p2 hq; omega
  · rw [hsN]; have := h.nm; omega
  · rw [hsF]; have := h.fm; omega
  · cases hq : f with
    | true => exact .inr (.inr ⟨⟨o, m, true⟩, by simp, rfl⟩)
    | false =>
      rcases h.ed with q | q | ⟨x, hx, q⟩
      · exact .inl (by show (if false = true then false else s.ft) = true; simpa using q)
      · exact .inr (.inl q)
      · exact .inr (.inr ⟨x, List.mem_append.2 (.inl hx), q⟩)
  · unfold left
    rw [List.length_append, List.length_singleton, hcnt]
    cases hq : f with
    | true =>
      have h7 := hft.1
      rw [hq] at h7
      have h8 : b1 true = 1 := rfl
      omega
    | false =>
      have h7 := hft.2
      rw [hq] at h7
      have := hf hq
      omega
/-- What the next step is. -/
theorem AlI.next {T : ByteArray} {s : SS} {G : List Sg} (h : AlI T s G) (hT : T.size ≤ 200) {most : Int} (hm : 1 ≤ most) {N : NX} (hN : nxt s most 1000 = N) :
    (N = nx0 ∧ s.td = [] ∧ s.ft = false) ∨
    (N.iz = true ∧ 0 ≤ N.off ∧ N.off + (N.d.size : Int) ≤ (T.size : Int) ∧ T.extract N.off.toNat (N.off + (N.d.size : Int)).toNat = N.d ∧ (N.fin = true → N.off + (N.d.size : Int) = (T.size : Int)) ∧
      AlI T (sentS s N.off (N.d.size : Int) N.fin) (G ++ [⟨N.off, (N.d.size : Int), N.fin⟩]) ∧ left T (sentS s N.off (N.d.size : Int) N.fin) (G ++ [⟨N.off, (N.d.size : Int), N.fin⟩]) + 1 ≤ left T s G) := by
  have h0 := h.ok.b0
  have hen := h.en
  have hge := en_ge s
  rcases htd : s.td with _ | ⟨x, m⟩
  · have hN2 : (if s.ft = true then (⟨Rg.en s, ⟨#[]⟩, true, true⟩ : NX) else nx0) = N := by rw [← hN]; unfold nxt; rw [htd]
    cases hft : s.ft with
    | false =>
      rw [hft, if_neg (by simp)] at hN2
      exact .inl ⟨hN2.symm, rfl, rfl⟩
    | true =>
      rw [hft, if_pos rfl, hen] at hN2
      right
      have k := h.sent (o := (T.size : Int)) (m := 0) (f := true) (by omega) (by omega) (by omega) (fun h => by cases h) (fun _ => hft) (fun p q1 q2 => by omega)
      subst hN2
      refine ⟨rfl, by show (0 : Int) ≤ (T.size : Int); omega, by show (T.size : Int) + 0 ≤ _; omega, ?_, fun _ => by show (T.size : Int) + 0 = _; omega, k.1, k.2⟩
      show T.extract ((T.size : Int)).toNat ((T.size : Int) + 0).toNat = ⟨#[]⟩
      apply ByteArray.ext
      apply Array.eq_empty_of_size_eq_zero
      show (T.extract ((T.size : Int)).toNat ((T.size : Int) + 0).toNat).size = 0
      rw [ByteArray.size_extract]; omega
  · right
    have hN2 : nxo s most 1000 x = N := by rw [← hN]; unfold nxt; rw [htd]
    have hg := h.ok.ct.good x (by rw [htd]; simp)
    have hx1 := h.ok.it x.1 ⟨x, by rw [htd]; simp, Int.le_refl _, hg.2.1⟩
    have hmx : max x.1 s.ba = x.1 := by omega
    unfold nxo at hN2
    rw [hmx] at hN2
    have hE : nxE s most 1000 x ≤ (T.size : Int) ∧ nxE s most 1000 x ≤ x.2 + 1 ∧ x.1 < nxE s most 1000 x := by unfold nxE; rw [hmx, hen]; omega
    rw [if_pos hE.2.2] at hN2
    have hds : ((s.d.extract (x.1 - s.ba).toNat (nxE s most 1000 x - s.ba).toNat).size : Int) = nxE s most 1000 x - x.1 := by
      have h2 := hE.1
      unfold Rg.en at hen
      rw [ByteArray.size_extract]; omega
    have hNo : N.off = x.1 := by rw [← hN2]
    have hNd : N.d = s.d.extract (x.1 - s.ba).toNat (nxE s most 1000 x - s.ba).toNat := by rw [← hN2]
    have hNz : (N.d.size : Int) = nxE s most 1000 x - x.1 := by rw [hNd]; exact hds
    have hNf : N.fin = (s.fin && s.ft && decide (nxE s most 1000 x = Rg.en s)) := by rw [← hN2]
    have hNi : N.iz = true := by rw [← hN2]
    have k := h.sent (o := N.off) (m := (N.d.size : Int)) (f := N.fin) (by omega) (by omega) (by omega) (fun _ => by omega) (fun hq => by
      rw [hNf, Bool.and_eq_true, Bool.and_eq_true] at hq; exact hq.1.2) (fun p q1 q2 => ⟨x, by rw [htd]; simp, by omega, by omega⟩)
    refine ⟨hNi, by omega, by omega, ?_, fun hq => ?_, k.1, k.2⟩
    · rw [hNo, hNz, hNd, h.dt, ByteArray.extract_extract]
      rw [show s.ba.toNat + (x.1 - s.ba).toNat = x.1.toNat by omega, show min (s.ba.toNat + (nxE s most 1000 x - s.ba).toNat) T.size = (x.1 + (nxE s most 1000 x - x.1)).toNat by omega]
    · rw [hNf, Bool.and_eq_true, decide_eq_true_eq, hen] at hq
      omega
/-- What was sent is acknowledged. -/
theorem AlI.ack {T : ByteArray} {s : SS} {G : List Sg} (h : AlI T s G) {k : Nat} (hk : k < G.length) {x : Sg} (hx : G.getD k sgZ = x) :
    AlI T (ackS s x.off x.n x.f) (rmv k G) ∧ left T (ackS s x.off x.n x.f) (rmv k G) + 1 ≤ left T s G := by
  have hxm : x ∈ G := by rw [← hx]; simp [List.getD, hk]
  have hp := h.po x hxm
  obtain ⟨⟨_, c2⟩, _, d2⟩ := came_sets h.ok x.off x.n
  have hmid := came_mid h.ok x.off x.n
  obtain ⟨a0, a1, a2, a3⟩ := ans_spec hmid
  obtain ⟨_, e2⟩ := go_ak hmid
  have hen := h.en
  have h0 := h.ok.b0
  have hin : ∀ p, s.ba ≤ p → p < (T.size : Int) → x.off ≤ p → p < x.off + x.n → inn (plS s x.off x.n) p := fun p p1 p2 p3 p4 => by rw [inn_pl, hen]; omega
  have hba : (ackS s x.off x.n x.f).ba = s.ba + ansI (came s x.off x.n) := rfl
  have hak : ∀ p, mem (ackS s x.off x.n x.f).ak p ↔ mem (came s x.off x.n).ak p ∧ s.ba + ansI (came s x.off x.n) ≤ p := e2
  have htd : ∀ p, mem (ackS s x.off x.n x.f).td p ↔ mem s.td p ∧ ¬ inn (plS s x.off x.n) p := d2
  have hft : (ackS s x.off x.n x.f).ft = if x.f = true then false else s.ft := by
    show (if x.f = true ∧ s.fin = true then false else s.ft) = _
    rw [h.fn]; simp
  have hfa : (ackS s x.off x.n x.f).fa = if x.f = true then true else s.fa := by
    show (if x.f = true ∧ s.fin = true then true else s.fa) = _
    rw [h.fn]; simp
  have hle : tdN (ackS s x.off x.n x.f) T.size ≤ tdN s T.size := cnt_le (fun n hn => hasB_iff.2 ((htd n).1 (hasB_iff.1 hn)).1) _
  have hsN := rmv_sumN hk
  have hsF := rmv_sumF hk
  rw [hx] at hsN hsF
  have hb1 : b1 (ackS s x.off x.n x.f).ft ≤ b1 s.ft := by
    rw [hft]; have := b1_range s.ft; split
    · show (0 : Int) ≤ _; omega
    · omega
  refine ⟨⟨ack_ok h.ok _ _ _, by rw [en_ack h.ok]; exact hen, ?_, h.fn, fun y hy => h.po y (rmv_mem hy), fun p p1 p2 => ?_, fun p p1 p2 p3 => ?_, ?_, ?_, ?_⟩, ?_⟩
  · have hsz : (s.d.size : Int) = (T.size : Int) - s.ba := by unfold Rg.en at hen; omega
    show (came s x.off x.n).d.extract (ansI (came s x.off x.n)).toNat (came s x.off x.n).d.size = T.extract (s.ba + ansI (came s x.off x.n)).toNat T.size
    have a1' : ansI (came s x.off x.n) ≤ (s.d.size : Int) := a1
    show s.d.extract (ansI (came s x.off x.n)).toNat s.d.size = _
    generalize ansI (came s x.off x.n) = A at *
    have e : s.d.extract A.toNat s.d.size = (T.extract s.ba.toNat T.size).extract A.toNat s.d.size := congrArg (fun z => ByteArray.extract z A.toNat s.d.size) h.dt
    rw [e, ByteArray.extract_extract]
    congr 1 <;> omega
  · rw [hba] at p1
    rcases h.cv p (by omega) p2 with q | q | ⟨y, hy, q⟩
    · exact .inl ((hak p).2 ⟨(c2 p).2 (.inl q), p1⟩)
    · by_cases hq : inn (plS s x.off x.n) p
      · exact .inl ((hak p).2 ⟨(c2 p).2 (.inr hq), p1⟩)
      · exact .inr (.inl ((htd p).2 ⟨q, hq⟩))
    · rcases mem_rmv hk hy with e | e
      · rw [hx] at e
        subst e
        exact .inl ((hak p).2 ⟨(c2 p).2 (.inr (hin p (by omega) p2 q.1 q.2)), p1⟩)
      · exact .inr (.inr ⟨y, e, q⟩)
  · by_cases hq : mem s.td p
    · by_cases hr : inn (plS s x.off x.n) p
      · have := (inn_pl.1 hr).2.1
        have h9 := hp.2.2.2.2
        show p < s.tp
        omega
      · exact absurd ((htd p).2 ⟨hq, hr⟩) p3
    · exact h.tq p p1 p2 hq
  · have := h.nm; have := hp.2.1; omega
  · have := h.fm; have : (0 : Int) ≤ (if x.f = true then 1 else 0) := by split <;> omega
    omega
  · rw [hft, hfa]
    cases hq : x.f with
    | true => exact .inr (.inl rfl)
    | false =>
      rcases h.ed with q | q | ⟨y, hy, q⟩
      · exact .inl (by simpa using q)
      · exact .inr (.inl (by simpa using q))
      · rcases mem_rmv hk hy with e | e
        · rw [hx] at e; rw [e, hq] at q; cases q
        · exact .inr (.inr ⟨y, e, q⟩)
  · have := rmv_len hk
    unfold left
    omega
/-- What was sent is lost. -/
theorem AlI.lost {T : ByteArray} {s : SS} {G : List Sg} (h : AlI T s G) {k : Nat} (hk : k < G.length) {x : Sg} (hx : G.getD k sgZ = x) : AlI T (lostS s x.off x.n x.f) (rmv k G) := by
  have hxm : x ∈ G := by rw [← hx]; simp [List.getD, hk]
  have hp := h.po x hxm
  have hen := h.en
  obtain ⟨_, c2⟩ := lost_td h.ok x.off x.n x.f
  have hft : (lostS s x.off x.n x.f).ft = if x.f = true ∧ s.fa = false then true else s.ft := by
    show (if x.f = true ∧ s.fin = true ∧ s.fa = false then true else s.ft) = _
    rw [h.fn]; simp
  have hsN := rmv_sumN hk
  have hsF := rmv_sumF hk
  rw [hx] at hsN hsF
  have hcnt : tdN (lostS s x.off x.n x.f) T.size ≤ tdN s T.size + x.n := by
    have e1 : cnt (fun n => decide (x.off ≤ n ∧ n ≤ x.off + x.n - 1)) T.size ≤ x.n := by
      by_cases hm : x.n = 0
      · rw [cnt_none (fun n => decide_eq_false (by omega)) _]; omega
      · rw [cnt_inn x.off (x.off + x.n - 1) hp.1 (by omega)]
        split
        · omega
        · split <;> omega
    have e2 := cnt_or_le (h := hasB (lostS s x.off x.n x.f).td) (f := hasB s.td) (g := fun n => decide (x.off ≤ n ∧ n ≤ x.off + x.n - 1)) (fun n hn => by
      rcases (c2 n).1 (hasB_iff.1 hn) with q | q
      · exact .inl (hasB_iff.2 q)
      · have := inn_pl.1 q.1
        exact .inr (decide_eq_true (by omega))) T.size
    unfold tdN
    omega
  refine ⟨lost_ok h.ok _ _ _, hen, h.dt, h.fn, fun y hy => h.po y (rmv_mem hy), fun p p1 p2 => ?_, fun p p1 p2 p3 => h.tq p p1 p2 (fun q => p3 ((c2 p).2 (.inl q))), ?_, ?_, ?_⟩
  · rcases h.cv p p1 p2 with q | q | ⟨y, hy, q⟩
    · exact .inl q
    · exact .inr (.inl ((c2 p).2 (.inl q)))
    · rcases mem_rmv hk hy with e | e
      · rw [hx] at e
        subst e
        by_cases hq : mem s.ak p
        · exact .inl hq
        · have p9 : s.ba ≤ p := p1
          exact .inr (.inl ((c2 p).2 (.inr ⟨by rw [inn_pl, hen]; omega, hq⟩)))
      · exact .inr (.inr ⟨y, e, q⟩)
  · have := h.nm; omega
  · rw [hft]
    have h5 := h.fm
    have h6 := b1_range s.ft
    have h7 := sumF_ge (rmv k G)
    cases hq : x.f with
    | true =>
      rw [hq, if_pos rfl] at hsF
      have h8 := b1_range (if true = true ∧ s.fa = false then true else s.ft)
      have h9 : sumF (rmv k G) = 0 := by omega
      omega
    | false =>
      rw [hq, if_neg (by simp)] at hsF
      rw [if_neg (by simp)]
      omega
  · rw [hft]
    show _ ∨ s.fa = true ∨ _
    cases hfa : s.fa with
    | true => exact .inr (.inl rfl)
    | false =>
      cases hq : x.f with
      | true => exact .inl (by simp)
      | false =>
        rcases h.ed with q | q | ⟨y, hy, q⟩
        · exact .inl (by simpa using q)
        · rw [hfa] at q; cases q
        · rcases mem_rmv hk hy with e | e
          · rw [hx] at e; rw [e, hq] at q; cases q
          · exact .inr (.inr ⟨y, e, q⟩)
/-- Nothing is left to do. -/
theorem AlI.fin {T : ByteArray} {s : SS} {G : List Sg} (h : AlI T s G) (hl : left T s G = 0) : G = [] ∧ s.ba = (T.size : Int) ∧ s.tp = (T.size : Int) ∧ doneB s = true := by
  have h4 := cnt_range (hasB s.td) T.size
  have h5 := b1_range s.ft
  unfold left tdN at hl
  have hG : G = [] := List.eq_nil_of_length_eq_zero (by omega)
  subst hG
  have hft : s.ft = false := by
    cases hq : s.ft with
    | false => rfl
    | true => rw [hq] at hl; have : b1 true = 1 := rfl; omega
  have hnt : ∀ p, ¬ mem s.td p := by
    intro p hp
    have h6 := h.ok.it p hp
    have h7 := h.en
    have h8 := h.ok.b0
    have := cnt_pos (f := hasB s.td) (p := p) (by omega) (hasB_iff.2 hp) T.size (by omega)
    omega
  have hen := h.en
  have hge := en_ge s
  have hba : s.ba = (T.size : Int) := by
    apply Classical.byContradiction
    intro hn
    rcases h.cv s.ba (Int.le_refl _) (by omega) with q | q | ⟨x, hx, _⟩
    · exact h.ok.na q
    · exact hnt _ q
    · cases hx
  have htp : s.tp = (T.size : Int) := by
    have h1 := h.ok.t0
    have h2 := h.ok.t1
    apply Classical.byContradiction
    intro hn
    have := h.tq s.tp h1 (by omega) (hnt _)
    omega
  refine ⟨rfl, hba, htp, ?_⟩
  have hfa : s.fa = true := by
    rcases h.ed with q | q | ⟨x, hx, _⟩
    · rw [hft] at q; cases q
    · exact q
    · cases hx
  unfold doneB
  rw [h.fn, hfa, decide_eq_true (show s.d.size = 0 by unfold Rg.en at hen; omega)]
  rfl
/-- The text is written, and its end. -/
theorem alI_first {T : ByteArray} (hT : T.size ≤ 200) : wrN s00 T 300 = T.size ∧ SsOk (wrS s00 T 300) ∧ (wrS s00 T 300).ak = [] ∧ en (wrS s00 T 300) = T.size ∧ AlI T (finS (wrS s00 T 300)) [] := by
  have hN : wrN s00 T 300 = T.size := by
    unfold wrN frS
    rw [if_neg (by decide)]
    show min (T.size : Int) (max 300 ((0 : Nat) : Int) - ((0 : Nat) : Int)) = T.size
    omega
  have he : en s00 + (T.size : Int) ≤ 1000000 := by show (0 : Int) + ((0 : Nat) : Int) + (T.size : Int) ≤ 1000000; omega
  have hok := wr_ok ss00 (D := T) (room := 300) he
  have hen := en_wr s00 T 300
  rw [hN] at hen
  have hen : en (wrS s00 T 300) = T.size := by rw [hen]; show (0 : Int) + ((0 : Nat) : Int) + (T.size : Int) = T.size; omega
  rcases wr_cases s00 T 300 with ⟨h, _⟩ | ⟨_, e, e2, _⟩
  · cases h
  · have hl := lay_td ss00 (D := T.extract 0 (wrN s00 T 300).toNat) (by rw [e2, hN]; exact he)
    rw [e2, hN] at hl
    rw [hN] at e
    have hTT : T.extract 0 (T.size : Int).toNat = T := by
      rw [show (T.size : Int).toNat = T.size by omega]
      exact ByteArray.extract_zero_size
    rw [hTT] at e
    rw [show T.extract 0 (T.size : Int).toNat = T from hTT] at hl
    rw [e] at hok hen ⊢
    have htd : ∀ x, mem (layS s00 T).td x ↔ 0 ≤ x ∧ x < (T.size : Int) := by
      intro x
      rw [hl.2 x]
      show (mem [] x ∨ _) ↔ _
      rw [show en s00 = 0 from rfl]
      constructor
      · rintro (h | h)
        · exact absurd h (mem_nil x)
        · omega
      · intro h; exact .inr (by omega)
    have hf : finS (layS s00 T) = { layS s00 T with fin := true, ft := true } := rfl
    refine ⟨hN, hok, rfl, hen, ?_⟩
    have hk2 := fin_ok hok
    rw [hf] at hk2 ⊢
    refine ⟨hk2, hen, ?_, rfl, fun x hx => (by cases hx), fun p p1 p2 => .inr (.inl ((htd p).2 ⟨p1, p2⟩)), fun p p1 p2 p3 => absurd ((htd p).2 ⟨p1, p2⟩) p3, ?_, by show (0 : Int) + b1 true ≤ 1; decide, .inl rfl⟩
    · show (⟨#[]⟩ : ByteArray) ++ T = T.extract (0 : Int).toNat T.size
      rw [show (0 : Int).toNat = 0 from rfl, ByteArray.extract_zero_size]
      exact ByteArray.empty_append
    · have := cnt_range (hasB (layS s00 T).td) T.size
      show (0 : Int) + cnt (hasB (layS s00 T).td) T.size ≤ _
      omega
end Go.Proofs.Ytedijfcagkedaaa.Rg
