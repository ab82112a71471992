/- Layer 15: acts, bounded; mathematics of the law of credit. By hand. -/
import Derived.Test.YtedijfcagkedaaaSqJ
import Derived.Test.YtedijfcagkedaaaSqK
namespace Go.Proofs.Ytedijfcagkedaaa.Rg
set_option maxRecDepth 20000
open Go.RowKit Go.Shelf
set_option linter.unusedVariables false
set_option linter.unusedSimpArgs false

/-- May this be done? -/
def bdA (x : AcV) : Bool := decide (x.d.size ≤ 100) && decide (x.n ≤ 1048576) && decide (x.off ≤ 4611686018427387903)
def bdL (G : List AcV) : Bool := G.all bdA && decide (G.length ≤ 60)
theorem bdL_no {G : List AcV} {i : Nat} (hi : i < G.length) (h : bdA (G.getD i acZ) = false) : bdL G = false := by
  unfold bdL
  have : G.all bdA = false := by
    rw [List.all_eq_false]
    have e : G.getD i acZ = G[i] := by simp [List.getD, hi]
    exact ⟨G[i], List.getElem_mem hi, by rw [← e, h]; decide⟩
  rw [this]; rfl
theorem bdL_yes {G : List AcV} (h : ∀ i, i < G.length → bdA (G.getD i acZ) = true) : bdL G = decide (G.length ≤ 60) := by
  unfold bdL
  have : G.all bdA = true := by
    rw [List.all_eq_true]
    intro x hx
    obtain ⟨i, hi, rfl⟩ := List.getElem_of_mem hx
    have e : G.getD i acZ = G[i] := by simp [List.getD, hi]
    rw [← e]; exact h i hi
  rw [this]; rfl
theorem bdL_all {G : List AcV} (h : bdL G = true) : G.length ≤ 60 ∧ ∀ i, i < G.length → (G.getD i acZ).d.size ≤ 100 ∧ (G.getD i acZ).n ≤ 1048576 ∧ (G.getD i acZ).off ≤ 4611686018427387903 := by
  unfold bdL at h
  simp only [Bool.and_eq_true, decide_eq_true_eq, List.all_eq_true] at h
  refine ⟨h.2, fun i hi => ?_⟩
  have e : G.getD i acZ = G[i] := by simp [List.getD, hi]
  have := h.1 G[i] (List.getElem_mem hi)
  unfold bdA at this
  rw [e]
  simp only [Bool.and_eq_true, decide_eq_true_eq] at this
  exact ⟨this.1.1, this.1.2, this.2⟩
theorem act_cells {w W : World} {b o j : Nat} {x : AcV} (h : ∀ W, Below w.heap.size w W → ∀ i, i < 5 → W.cell? ⟨b, o + (j * 5 + i), none⟩ = (acs x)[i]?) (hb : Below w.heap.size w W) :
    W.cell? ⟨b, o + j * 5, none⟩ = some (.int .i64 x.kd) ∧ W.cell? ⟨b, o + j * 5 + 1, none⟩ = some (.int .i64 x.n) ∧ W.cell? ⟨b, o + j * 5 + 2, none⟩ = some (.int .u64 x.off) ∧ W.cell? ⟨b, o + j * 5 + 3, none⟩ = some (.string x.d) ∧ W.cell? ⟨b, o + j * 5 + 4, none⟩ = some (.bool x.f) :=
  ⟨h W hb 0 (by decide), h W hb 1 (by decide), h W hb 2 (by decide), h W hb 3 (by decide), h W hb 4 (by decide)⟩
set_option maxHeartbeats 4000000 in
theorem bounded_any (a : Option Addr) (n c : Nat) (G : List AcV) (w : World) (hn : G.length = n) (hm : n ≤ maxLen) (hr : Act5 w a n c G) :
    Calls Try.prog 8 #[.slice a n c] w fun e w' => e = .returned (.bool (bdL G)) ∧ w' = w := by
  unfold maxLen at hm
  have HC := Lib.hid hr.2
  have hcp := hr.1
  have hn0 : (n : Int) ≤ 9223372036854775807 := by omega
  have HY : Hid ((∀ i, i < n → bdA (G.getD i acZ) = true) → bdL G = decide ((n : Int) ≤ 60)) := Lib.hid (fun h => by
    rw [bdL_yes (fun i hi => h i (by omega)), hn]
    by_cases h20 : n ≤ 60
    · rw [decide_eq_true h20, decide_eq_true (by omega)]
    · rw [decide_eq_false h20, decide_eq_false (by omega)])
  have HNO : Hid (∀ i, i < n → bdA (G.getD i acZ) = false → bdL G = false) := Lib.hid (fun i hi h => bdL_no (by omega) h)
  clear hr hn
  go_enter Try.func8, Try.ntmps8
  go_wp2
  go_loop [3] (fun iv => ∃ i : Nat, i ≤ n ∧ iv = .int .i64 (i : Nat) ∧ (∀ j, j < i → bdA (G.getD j acZ) = true)) (fun iv => n - (intOf iv).toNat)
  case atStart => exact ⟨0, Nat.zero_le _, rfl, fun j hj => by omega⟩
  case round =>
    obtain ⟨i, hi, rfl, hall⟩ := hrel
    have HA := Lib.hid hall
    clear hall
    have hi0 : (0 : Int) ≤ (i : Int) := by omega
    by_cases hin : (i : Int) < (n : Int)
    · have hin2 : i < n := by omega
      obtain ⟨g, off, rfl, hc, -, -⟩ := HC.out i hin2
      obtain ⟨x, hx⟩ : ∃ x, G.getD i acZ = x := ⟨_, rfl⟩
      rw [hx] at hc
      obtain ⟨e0, e1, e2, e3, e4⟩ := act_cells hc (Below.refl _ _)
      have HNi := Lib.hid (HNO.out i hin2)
      rw [hx] at HNi
      have HX := Lib.hid hx
      clear hx hc
      obtain ⟨xk, xn, xo, xd, xf⟩ := x
      simp only at e0 e1 e2 e3 e4
      by_cases h1 : (100 : Int) < (xd.size : Int)
      · have HF := Lib.hid (HNi.out (by unfold bdA; rw [decide_eq_false (show ¬ xd.size ≤ 100 by omega)]; rfl))
        clear HNi
        go_wp2
        go_ret
        exact ⟨by rw [HF.out]; rfl, rfl⟩
      · by_cases h2 : (1048576 : Int) < xn
        · have HF := Lib.hid (HNi.out (by unfold bdA; rw [decide_eq_false (show ¬ xn ≤ 1048576 by omega), Bool.and_false]; rfl))
          clear HNi
          go_wp2
          go_ret
          exact ⟨by rw [HF.out]; rfl, rfl⟩
        · by_cases h3 : (4611686018427387903 : Int) < xo
          · have HF := Lib.hid (HNi.out (by unfold bdA; rw [decide_eq_false (show ¬ xo ≤ 4611686018427387903 by omega), Bool.and_false]))
            clear HNi
            go_wp2
            go_ret
            exact ⟨by rw [HF.out]; rfl, rfl⟩
          · have HT : Hid (bdA ⟨xk, xn, xo, xd, xf⟩ = true) := Lib.hid (by unfold bdA; rw [decide_eq_true (show xd.size ≤ 100 by omega), decide_eq_true (show xn ≤ 1048576 by omega), decide_eq_true (show xo ≤ 4611686018427387903 by omega)]; rfl)
            clear HNi
            go_wp2
            go_round
            case rel =>
              refine ⟨i + 1, by omega, by go_num, fun j hj => ?_⟩
              by_cases hji : j < i
              · exact HA.out j hji
              · obtain rfl : j = i := by omega
                rw [HX.out]; exact HT.out
            case measure => simp [intOf]; omega
    · obtain rfl : i = n := by omega
      have HF := Lib.hid (HY.out HA.out)
      go_wp2
      go_ret
      exact ⟨by rw [HF.out]; rfl, rfl⟩

/-! ### Mathematics of the law of credit -/
theorem sent_ft {s : SS} {off n : Int} {f : Bool} (h : s.ft = true → s.fin = true) : (sentS s off n f).ft = true → (sentS s off n f).fin = true := by
  show (if f = true then false else s.ft) = true → s.fin = true
  intro hx
  cases f
  · exact h (by simpa using hx)
  · simp at hx
theorem lost_ft {s : SS} {off n : Int} {f : Bool} (h : s.ft = true → s.fin = true) : (lostS s off n f).ft = true → (lostS s off n f).fin = true := by
  show (if f = true ∧ s.fin = true ∧ s.fa = false then true else s.ft) = true → s.fin = true
  intro hx
  split at hx
  · rename_i hq; exact hq.2.1
  · exact h hx
theorem ack_ft {s : SS} {off n : Int} {f : Bool} (h : s.ft = true → s.fin = true) : (ackS s off n f).ft = true → (ackS s off n f).fin = true := by
  show (if f = true ∧ s.fin = true then false else s.ft) = true → s.fin = true
  intro hx
  split at hx
  · cases hx
  · exact h hx
theorem wr_ft {s : SS} {D : ByteArray} {room : Int} (h : s.ft = true → s.fin = true) : (wrS s D room).ft = true → (wrS s D room).fin = true := by
  rcases wr_cases s D room with ⟨_, e, _⟩ | ⟨_, e, _, _⟩
  · rw [e]; exact h
  · rw [e]; exact h
theorem fin_ft {s : SS} (h : s.ft = true → s.fin = true) : (finS s).ft = true → (finS s).fin = true := by
  unfold finS
  split
  · exact h
  · intro _; rfl
/-- What holds of a state of which the sets turn at few places. -/
structure CrI (s : SS) (P : List Int) (p d : Nat) : Prop where
  ok : SsOk s
  ch : Chg P s
  ln : P.length ≤ p
  en : en s ≤ (d : Int)
  ff : s.ft = true → s.fin = true
theorem crI_first : CrI s00 [] 0 0 := ⟨ss00, chg00, Nat.le_refl _, by show (0 : Int) + ((0 : Nat) : Int) ≤ 0; decide, fun h => by cases h⟩
/-- An act of the law of credit. -/
def crS (s : SS) (x : AcV) : SS := if x.kd = 0 then wrS s x.d 500 else if x.kd = 1 then finS s else if x.kd = 3 then lostS s (x.off.tmod 1000) x.n x.f else if x.kd = 4 then ackS s (x.off.tmod 1000) x.n x.f else s
theorem CrI.wr {s : SS} {P : List Int} {p d : Nat} (h : CrI s P p d) (hd : d ≤ 100000) {D : ByteArray} (hD : D.size ≤ 100) (room : Int) : ∃ P', CrI (wrS s D room) P' (p + 2) (d + 100) := by
  have h1 := h.en
  have hr := wrN_range (s := s) (D := D) (room := room)
  have hb : Rg.en s + (D.size : Int) ≤ 1000000 := by omega
  exact ⟨_, wr_ok h.ok hb, h.ch.wr h.ok (room := room) hb, by have := h.ln; simp; omega, by rw [en_wr]; omega, wr_ft h.ff⟩
theorem CrI.fin {s : SS} {P : List Int} {p d : Nat} (h : CrI s P p d) : ∃ P', CrI (finS s) P' (p + 2) (d + 100) :=
  ⟨P, fin_ok h.ok, h.ch.fin, by have := h.ln; omega, by rw [en_fin]; have := h.en; omega, fin_ft h.ff⟩
theorem CrI.sent {s : SS} {P : List Int} {p d : Nat} (h : CrI s P p d) (off n : Int) (f : Bool) : ∃ P', CrI (sentS s off n f) P' (p + 2) (d + 100) :=
  ⟨_, sent_ok h.ok off n f, h.ch.sent h.ok off n f, by have := h.ln; simp; omega, by rw [en_sent]; have := h.en; omega, sent_ft h.ff⟩
theorem CrI.lost {s : SS} {P : List Int} {p d : Nat} (h : CrI s P p d) (off n : Int) (f : Bool) : ∃ P', CrI (lostS s off n f) P' (p + 2) (d + 100) :=
  ⟨_, lost_ok h.ok off n f, h.ch.lost h.ok off n f, by have := h.ln; simp; omega, by rw [en_lost]; have := h.en; omega, lost_ft h.ff⟩
theorem CrI.ack {s : SS} {P : List Int} {p d : Nat} (h : CrI s P p d) (off n : Int) (f : Bool) : ∃ P', CrI (ackS s off n f) P' (p + 2) (d + 100) :=
  ⟨_, ack_ok h.ok off n f, h.ch.ack h.ok off n f, by have := h.ln; simp; omega, by rw [en_ack h.ok]; have := h.en; omega, ack_ft h.ff⟩
theorem CrI.up {s : SS} {P : List Int} {p d : Nat} (h : CrI s P p d) : ∃ P', CrI s P' (p + 2) (d + 100) := ⟨P, h.ok, h.ch, by have := h.ln; omega, by have := h.en; omega, h.ff⟩
theorem CrI.act {s : SS} {P : List Int} {p d : Nat} (h : CrI s P p d) (hd : d ≤ 100000) {x : AcV} (hx : x.d.size ≤ 100) : ∃ P', CrI (crS s x) P' (p + 2) (d + 100) := by
  unfold crS
  split
  · exact h.wr hd hx 500
  · split
    · exact h.fin
    · split
      · exact h.lost _ _ _
      · split
        · exact h.ack _ _ _
        · exact h.up
/-- The sets are short. -/
theorem CrI.len {s : SS} {P : List Int} {p d : Nat} (h : CrI s P p d) (hp : p ≤ 198) : s.ak.length ≤ 99 ∧ s.td.length ≤ 99 := by
  have h1 := h.ch.len h.ok
  have h2 := h.ln
  omega
theorem CrI.came {s : SS} {P : List Int} {p d : Nat} (h : CrI s P p d) (hp : p ≤ 198) (off n : Int) : (unL s.ak (plS s off n)).length ≤ 100 := by
  have h1 := unL_len s.ak (plS s off n)
  have h2 := h.len hp
  omega
/-- What is told to be sent. -/
theorem next_facts {s : SS} (h : SsOk s) (hf : s.ft = true → s.fin = true) {most credit : Int} (hm : most < 9223372036854775808) {N : NX} (hN : nxt s most credit = N) :
    N = nx0 ∨ (N.iz = true ∧ N.d = ⟨#[]⟩ ∧ N.off = en s ∧ N.fin = true ∧ s.fin = true ∧ s.td = []) ∨
    (N.iz = true ∧ 0 < N.d.size ∧ N.off + (N.d.size : Int) ≤ credit ∧ (N.d.size : Int) ≤ most ∧ s.ba ≤ N.off ∧ N.off + (N.d.size : Int) ≤ en s ∧ (N.fin = true → s.fin = true ∧ N.off + (N.d.size : Int) = en s) ∧
      N.d = s.d.extract (N.off - s.ba).toNat (N.off + (N.d.size : Int) - s.ba).toNat ∧ ∃ x m, s.td = x :: m ∧ N.off = x.1) := by
  rcases htd : s.td with _ | ⟨x, m⟩
  · have hN2 : (if s.ft = true then (⟨en s, ⟨#[]⟩, true, true⟩ : NX) else nx0) = N := by rw [← hN]; unfold nxt; rw [htd]
    by_cases hft : s.ft = true
    · rw [if_pos hft] at hN2
      exact .inr (.inl (by rw [← hN2]; exact ⟨rfl, rfl, rfl, rfl, hf hft, rfl⟩))
    · rw [if_neg hft] at hN2
      exact .inl hN2.symm
  · have hN2 : nxo s most credit x = N := by rw [← hN]; unfold nxt; rw [htd]
    have hg := h.ct.good x (by rw [htd]; simp)
    have hxb := h.it x.1 ⟨x, by rw [htd]; simp, Int.le_refl _, hg.2.1⟩
    have hmx : max x.1 s.ba = x.1 := by omega
    unfold nxo at hN2
    rw [hmx] at hN2
    by_cases hlt : x.1 < nxE s most credit x
    · rw [if_pos hlt] at hN2
      have hE : nxE s most credit x ≤ en s ∧ nxE s most credit x ≤ credit ∧ nxE s most credit x ≤ x.1 + max most 0 := by unfold nxE; rw [hmx]; omega
      have hds : ((s.d.extract (x.1 - s.ba).toNat (nxE s most credit x - s.ba).toNat).size : Int) = nxE s most credit x - x.1 := by
        have h2 := hE.1
        unfold en at h2
        rw [ByteArray.size_extract]; omega
      refine .inr (.inr ?_)
      rw [← hN2]
      simp only
      refine ⟨trivial, by omega, by omega, by omega, hxb.1, by omega, fun hq => ?_, ?_, x, m, rfl, rfl⟩
      · rw [Bool.and_eq_true, Bool.and_eq_true, decide_eq_true_eq] at hq
        exact ⟨hq.1.1, by omega⟩
      · rw [hds, show x.1 + (nxE s most credit x - x.1) - s.ba = nxE s most credit x - s.ba by omega]
    · rw [if_neg hlt] at hN2
      exact .inl hN2.symm
/-- What is told is sent: the sets turn at one place more. -/
theorem Chg.next {P : List Int} {s : SS} (h : Chg P s) (hk : SsOk s) {N : NX} (hN : (N.d = ⟨#[]⟩ ∧ s.td = []) ∨ (0 < N.d.size ∧ s.ba ≤ N.off ∧ N.off + (N.d.size : Int) ≤ en s ∧ ∃ x m, s.td = x :: m ∧ N.off = x.1)) :
    Chg ((N.off + (N.d.size : Int)) :: P) (sentS s N.off (N.d.size : Int) N.fin) := by
  rcases hN with ⟨_, htd⟩ | ⟨h1, h2, h3, x, m, htd, hx⟩
  · intro y hy
    have hyP : y ∉ P := fun hm => hy (List.mem_cons_of_mem _ hm)
    obtain ⟨_, c2⟩ := sent_td hk N.off (N.d.size : Int) N.fin
    refine ⟨(h y hyP).1, ?_⟩
    rw [c2, c2, htd]
    constructor
    · rintro ⟨h, _⟩; exact absurd h (mem_nil _)
    · rintro ⟨h, _⟩; exact absurd h (mem_nil _)
  · intro y hy
    have hyP : y ∉ P := fun hm => hy (List.mem_cons_of_mem _ hm)
    have hy2 : y ≠ N.off + (N.d.size : Int) := fun e => hy (e ▸ List.mem_cons_self ..)
    obtain ⟨_, c2⟩ := sent_td hk N.off (N.d.size : Int) N.fin
    refine ⟨(h y hyP).1, ?_⟩
    rw [c2, c2, (h y hyP).2]
    have hg := hk.ct
    rw [htd] at hg
    have hgx := hg.head
    have hno : ¬ mem s.td (x.1 - 1) := by
      rw [htd]
      rintro ⟨z, hz, z1, z2⟩
      rcases List.mem_cons.1 hz with rfl | hz
      · omega
      · have := hg.next z hz; omega
    by_cases hyx : y = N.off
    · rw [hyx, hx]
      exact ⟨fun hh => absurd hh.1 hno, fun hh => absurd hh.1 hno⟩
    · rw [inn_turn (s := s) (off := N.off) (n := (N.d.size : Int)) (by omega) (by omega)]
theorem CrI.next {s : SS} {P : List Int} {p d : Nat} (h : CrI s P p d) {N : NX} (hN : (N.d = ⟨#[]⟩ ∧ s.td = []) ∨ (0 < N.d.size ∧ s.ba ≤ N.off ∧ N.off + (N.d.size : Int) ≤ Rg.en s ∧ ∃ x m, s.td = x :: m ∧ N.off = x.1)) :
    ∃ P', CrI (sentS s N.off (N.d.size : Int) N.fin) P' (p + 1) d :=
  ⟨_, sent_ok h.ok _ _ _, h.ch.next h.ok hN, by have := h.ln; simp; omega, by rw [en_sent]; exact h.en, sent_ft h.ff⟩
end Go.Proofs.Ytedijfcagkedaaa.Rg
