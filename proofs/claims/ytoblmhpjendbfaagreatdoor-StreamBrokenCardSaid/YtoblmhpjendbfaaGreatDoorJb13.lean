/- Layer 15: plain mathematics: sets joined and cut, a stream's state and its turns · Layer 16: gather.Put of any bytes, told in one word: the text is chosen anew at each Put · Layer 16: how far a stream goes: highest, and what Put, Take make of it -/
import Derived.Test.YtoblmhpjendbfaaGreatDoorJb02
import Derived.Test.YtoblmhpjendbfaaGreatDoorJb12
namespace Go.Proofs.YtoblmhpjendbfaaGreatDoor.Rg
set_option maxRecDepth 20000
set_option linter.unusedVariables false
set_option linter.unusedSimpArgs false

theorem sub_lenS : ∀ (m s : List Int), m.Pairwise (· < ·) → (∀ y ∈ m, y ∈ s) → m.length ≤ s.length
  | [], s, _, _ => Nat.zero_le _
  | y :: m, s, hp, hs => by
    obtain ⟨h1, h2⟩ := List.pairwise_cons.1 hp
    have hy := hs y (List.mem_cons_self ..)
    have := sub_lenS m (s.erase y) h2 (fun z hz => (List.mem_erase_of_ne (by have := h1 z hz; omega)).2 (hs z (List.mem_cons_of_mem _ hz)))
    rw [List.length_erase_of_mem hy] at this
    have := List.length_pos_of_mem hy
    simp only [List.length_cons]
    omega
/-! ### Sets joined, and cut -/
def unP : List Ran → Ran → Bool → List Ran
  | [], r, put => if put then [] else [r]
  | x :: s, r, put => if x.2 + 1 < r.1 then x :: unP s r put else if r.2 + 1 < x.1 then (if put then x :: unP s r true else r :: x :: unP s r true) else unP s (min r.1 x.1, max r.2 x.2) put
theorem unP_put : ∀ (s : List Ran) (r : Ran), Can s → (∀ x ∈ s, r.2 + 1 < x.1) → r.1 ≤ r.2 → unP s r true = s
  | [], r, _, _, _ => rfl
  | x :: s, r, hs, h, hr => by
    have hx := hs.head
    have hxr := h x (List.mem_cons_self ..)
    have ih := unP_put s r hs.tail (fun y hy => h y (List.mem_cons_of_mem _ hy)) hr
    rw [unP, if_neg (by omega), if_pos hxr]
    simp [ih]
theorem unP_can : ∀ (s : List Ran) (r : Ran), Can s → 0 ≤ r.1 ∧ r.1 ≤ r.2 ∧ r.2 < 9223372036854775808 →
    Can (unP s r false) ∧ (∀ n, mem (unP s r false) n ↔ mem s n ∨ inn r n) ∧ (∀ b, b + 2 ≤ r.1 → (∀ x ∈ s, b + 2 ≤ x.1) → ∀ y ∈ unP s r false, b + 2 ≤ y.1)
  | [], r, _, hr => by
    refine ⟨Can.single hr, fun n => ?_, fun b hb _ y hy => ?_⟩
    · rw [show unP [] r false = [r] from rfl, mem_single]; exact ⟨.inr, fun h => h.resolve_left (mem_nil n)⟩
    · rw [List.mem_singleton.1 hy]; exact hb
  | x :: s, r, hs, hr => by
    have hx := hs.head
    rw [unP]
    by_cases h1 : x.2 + 1 < r.1
    · obtain ⟨c1, c2, c3⟩ := unP_can s r hs.tail hr
      rw [if_pos h1]
      refine ⟨c1.cons hx (c3 x.2 (by omega) hs.next), fun n => ?_, fun b hb hl y hy => ?_⟩
      · rw [mem_cons, mem_cons, c2, or_assoc]
      · rcases List.mem_cons.1 hy with rfl | hy
        · exact hl _ (List.mem_cons_self ..)
        · exact c3 b hb (fun z hz => hl z (List.mem_cons_of_mem _ hz)) y hy
    · rw [if_neg h1]
      by_cases h2 : r.2 + 1 < x.1
      · rw [if_pos h2]
        simp only [Bool.false_eq_true, if_false]
        rw [unP_put s r hs.tail (fun y hy => by have := hs.next y hy; omega) hr.2.1]
        refine ⟨hs.cons hr (fun y hy => ?_), fun n => ?_, fun b hb hl y hy => ?_⟩
        · rcases List.mem_cons.1 hy with rfl | hy
          · omega
          · have := hs.next y hy; omega
        · rw [mem_cons (x := r)]; exact Or.comm
        · rcases List.mem_cons.1 hy with rfl | hy
          · exact hb
          · exact hl y hy
      · rw [if_neg h2]
        obtain ⟨c1, c2, c3⟩ := unP_can s (min r.1 x.1, max r.2 x.2) hs.tail ⟨by simp only; omega, by simp only; omega, by simp only; omega⟩
        refine ⟨c1, fun n => ?_, fun b hb hl y hy => ?_⟩
        · rw [c2, mem_cons]
          simp only [inn]
          constructor
          · rintro (h | h)
            · exact .inl (.inr h)
            · by_cases h3 : x.1 ≤ n ∧ n ≤ x.2
              · exact .inl (.inl h3)
              · exact .inr (by omega)
          · rintro ((h | h) | h)
            · exact .inr (by omega)
            · exact .inl h
            · exact .inr (by omega)
        · refine c3 b ?_ (fun z hz => hl z (List.mem_cons_of_mem _ hz)) y hy
          have := hl x (List.mem_cons_self ..)
          simp only
          omega
/-- A set and a range besides. -/
def unL (l : List Ran) (r : Ran) : List Ran := if r.1 ≤ r.2 then unP l r false else l
theorem unL_can {l : List Ran} (h : Can l) {r : Ran} (h0 : 0 ≤ r.1) (h1 : r.2 < 9223372036854775808) : Can (unL l r) ∧ ∀ n, mem (unL l r) n ↔ mem l n ∨ inn r n := by
  unfold unL
  by_cases hr : r.1 ≤ r.2
  · rw [if_pos hr]
    obtain ⟨c1, c2, _⟩ := unP_can l r h ⟨h0, hr, h1⟩
    exact ⟨c1, c2⟩
  · rw [if_neg hr]
    exact ⟨h, fun n => ⟨.inl, fun h => h.elim id (fun h => absurd h (by simp only [inn]; omega))⟩⟩
def cu1 (r x : Ran) : List Ran := if r.2 < r.1 ∨ r.2 < x.1 ∨ x.2 < r.1 then [x] else (if x.1 < r.1 then [(x.1, r.1 - 1)] else []) ++ (if r.2 < x.2 then [(r.2 + 1, x.2)] else [])
theorem cu1_can {r x : Ran} (h0 : 0 ≤ r.1) (hx : 0 ≤ x.1 ∧ x.1 ≤ x.2 ∧ x.2 < 9223372036854775808) : Can (cu1 r x) ∧ (∀ y ∈ cu1 r x, x.1 ≤ y.1 ∧ y.2 ≤ x.2) ∧ (∀ n, mem (cu1 r x) n ↔ inn x n ∧ ¬ inn r n) := by
  unfold cu1
  by_cases hn : r.2 < r.1 ∨ r.2 < x.1 ∨ x.2 < r.1
  · rw [if_pos hn]
    refine ⟨Can.single hx, fun y hy => ?_, fun n => ?_⟩
    · rw [List.mem_singleton.1 hy]; exact ⟨Int.le_refl _, Int.le_refl _⟩
    · rw [mem_single]; simp only [inn]; omega
  · rw [if_neg hn]
    by_cases ha : x.1 < r.1 <;> by_cases hb : r.2 < x.2
    · rw [if_pos ha, if_pos hb]
      refine ⟨(Can.single (x := (r.2 + 1, x.2)) ⟨by simp only; omega, by simp only; omega, by simp only; omega⟩).cons (x := (x.1, r.1 - 1)) ⟨by simp only; omega, by simp only; omega, by simp only; omega⟩ (fun y hy => by rw [List.mem_singleton.1 hy]; simp only; omega), fun y hy => ?_, fun n => ?_⟩
      · rcases List.mem_cons.1 hy with rfl | hy
        · exact ⟨Int.le_refl _, by simp only; omega⟩
        · rw [List.mem_singleton.1 hy]; exact ⟨by simp only; omega, Int.le_refl _⟩
      · rw [List.singleton_append, mem_cons, mem_single]; simp only [inn]; omega
    · rw [if_pos ha, if_neg hb, List.append_nil]
      refine ⟨Can.single (x := (x.1, r.1 - 1)) ⟨by simp only; omega, by simp only; omega, by simp only; omega⟩, fun y hy => ?_, fun n => ?_⟩
      · rw [List.mem_singleton.1 hy]; exact ⟨Int.le_refl _, by simp only; omega⟩
      · rw [mem_single]; simp only [inn]; omega
    · rw [if_neg ha, if_pos hb, List.nil_append]
      refine ⟨Can.single (x := (r.2 + 1, x.2)) ⟨by simp only; omega, by simp only; omega, by simp only; omega⟩, fun y hy => ?_, fun n => ?_⟩
      · rw [List.mem_singleton.1 hy]; exact ⟨by simp only; omega, Int.le_refl _⟩
      · rw [mem_single]; simp only [inn]; omega
    · rw [if_neg ha, if_neg hb, List.append_nil]
      refine ⟨Can.nil, (fun y hy => by cases hy), fun n => ?_⟩
      exact ⟨fun h => absurd h (mem_nil n), fun h => absurd h.1 (by have := h.2; simp only [inn] at this ⊢; omega)⟩
/-- A set without a range. -/
def cuL (l : List Ran) (r : Ran) : List Ran := l.flatMap (cu1 r)
theorem cuL_can {l : List Ran} (hl : Can l) {r : Ran} (h0 : 0 ≤ r.1) : Can (cuL l r) ∧ ∀ n, mem (cuL l r) n ↔ mem l n ∧ ¬ inn r n := by
  refine ⟨flat_can hl (fun x hx => ⟨(cu1_can h0 (hl.good x hx)).1, (cu1_can h0 (hl.good x hx)).2.1⟩), fun n => ?_⟩
  unfold cuL
  rw [flat_mem]
  constructor
  · rintro ⟨x, hx, h⟩
    have := ((cu1_can h0 (hl.good x hx)).2.2 n).1 h
    exact ⟨⟨x, hx, this.1⟩, this.2⟩
  · rintro ⟨⟨x, hx, h⟩, hn⟩
    exact ⟨x, hx, ((cu1_can h0 (hl.good x hx)).2.2 n).2 ⟨h, hn⟩⟩
/-- The places from one on, below another one. -/
def spn (a b : Int) : Ran := if b ≤ a then (1, 0) else (a, b - 1)
theorem inn_spn {a b n : Int} : inn (spn a b) n ↔ a ≤ n ∧ n < b := by
  unfold spn
  split
  · constructor
    · rintro ⟨h1, h2⟩; simp only at h1 h2; omega
    · rintro ⟨h1, h2⟩; omega
  · constructor
    · rintro ⟨h1, h2⟩; simp only at h1 h2; omega
    · rintro ⟨h1, h2⟩; exact ⟨by simp only; omega, by simp only; omega⟩
theorem spn_good {a b : Int} (h0 : 0 ≤ a) (h1 : b < 9223372036854775808) : 0 ≤ (spn a b).1 ∧ (spn a b).2 < 9223372036854775808 := by
  unfold spn
  split
  · exact ⟨by decide, by decide⟩
  · exact ⟨h0, by simp only; omega⟩
theorem can_none {l : List Ran} (h : Can l) (hn : ∀ n, ¬ mem l n) : l = [] := can_ext h Can.nil (fun n => ⟨fun h' => absurd h' (hn n), fun h' => absurd h' (mem_nil n)⟩)
theorem can_same {l m : List Ran} {φ : Int → Prop} (h : Can l ∧ ∀ n, mem l n ↔ φ n) (k : Can m ∧ ∀ n, mem m n ↔ φ n) : l = m := can_ext h.1 k.1 (fun n => (h.2 n).trans (k.2 n).symm)

/-! ### A state -/
structure SS where
  ba : Int
  tp : Int
  d : ByteArray
  ak : List Ran
  td : List Ran
  fin : Bool
  ft : Bool
  fa : Bool
def s00 : SS := ⟨0, 0, ⟨#[]⟩, [], [], false, false, false⟩
/-- The place behind the last byte. -/
def en (s : SS) : Int := s.ba + (s.d.size : Int)
structure SsOk (s : SS) : Prop where
  b0 : 0 ≤ s.ba
  b1 : en s ≤ 1000000
  ca : Can s.ak
  ct : Can s.td
  ia : ∀ x, mem s.ak x → s.ba ≤ x ∧ x < en s
  it : ∀ x, mem s.td x → s.ba ≤ x ∧ x < en s
  t0 : 0 ≤ s.tp
  t1 : s.tp ≤ en s
  dis : ∀ x, mem s.ak x → ¬ mem s.td x
  na : ¬ mem s.ak s.ba
theorem ss00 : SsOk s00 := ⟨by decide, by decide, Can.nil, Can.nil, fun x h => absurd h (mem_nil x), fun x h => absurd h (mem_nil x), by decide, by decide, fun x h => absurd h (mem_nil x), mem_nil _⟩
theorem en_ge (s : SS) : s.ba ≤ en s := by unfold en; omega
/-- The places of off and n. -/
def plS (s : SS) (off n : Int) : Ran := spn (max off s.ba) (min (off + max n 0) (en s))
theorem inn_pl {s : SS} {off n x : Int} : inn (plS s off n) x ↔ (off ≤ x ∧ s.ba ≤ x) ∧ x < off + max n 0 ∧ x < en s := by
  unfold plS
  rw [inn_spn]
  omega
theorem pl_good {s : SS} (h : SsOk s) (off n : Int) : 0 ≤ (plS s off n).1 ∧ (plS s off n).2 < 9223372036854775808 := by
  have := h.b0
  have := h.b1
  exact spn_good (by omega) (by omega)
def frS (s : SS) (room : Int) : Int := max room s.d.size - s.d.size
def wrN (s : SS) (D : ByteArray) (room : Int) : Int := if s.fin = true then 0 else min (D.size : Int) (frS s room)
def layS (s : SS) (D : ByteArray) : SS := { s with d := s.d ++ D, td := unL s.td (spn (en s) (en s + (D.size : Int))) }
def wrS (s : SS) (D : ByteArray) (room : Int) : SS := if s.fin = true then s else layS s (D.extract 0 (wrN s D room).toNat)
def finS (s : SS) : SS := if s.fin = true then s else { s with fin := true, ft := true }
def sentS (s : SS) (off n : Int) (f : Bool) : SS := { s with td := cuL s.td (plS s off n), tp := max s.tp (min (off + max n 0) (en s)), ft := if f = true then false else s.ft }
/-- How many bytes from the first one on are acknowledged. -/
def ansI (s : SS) : Int := match lack s.ak (spn s.ba (en s)) with | [] => (s.d.size : Int) | x :: _ => x.1 - s.ba
def goS (s : SS) : SS := { s with ba := s.ba + ansI s, d := s.d.extract (ansI s).toNat s.d.size, ak := cuL s.ak (spn 0 (s.ba + ansI s)) }
def came (s : SS) (off n : Int) : SS := { s with ak := unL s.ak (plS s off n), td := cuL s.td (plS s off n) }
def endS (s : SS) (f : Bool) : SS := { s with fa := if f = true ∧ s.fin = true then true else s.fa, ft := if f = true ∧ s.fin = true then false else s.ft }
def ackS (s : SS) (off n : Int) (f : Bool) : SS := endS (goS (came s off n)) f
def doneB (s : SS) : Bool := s.fin && s.fa && decide (s.d.size = 0)
/-- What has to be sent next. -/
structure NX where
  off : Int
  d : ByteArray
  fin : Bool
  iz : Bool
def nx0 : NX := ⟨0, ⟨#[]⟩, false, false⟩
def nxE (s : SS) (most credit : Int) (x : Ran) : Int := min (min (min (max x.1 s.ba + max most 0) (en s)) (x.2 + 1)) credit
def nxo (s : SS) (most credit : Int) (x : Ran) : NX := if max x.1 s.ba < nxE s most credit x then ⟨max x.1 s.ba, s.d.extract (max x.1 s.ba - s.ba).toNat (nxE s most credit x - s.ba).toNat, s.fin && s.ft && decide (nxE s most credit x = en s), true⟩ else nx0
def nxt (s : SS) (most credit : Int) : NX := match s.td with
  | [] => if s.ft = true then ⟨en s, ⟨#[]⟩, true, true⟩ else nx0
  | x :: _ => nxo s most credit x

/-! ### What the turns keep -/
theorem en_lay (s : SS) (D : ByteArray) : en (layS s D) = en s + (D.size : Int) := by
  unfold en layS
  simp only
  rw [ByteArray.size_append]
  omega
theorem lay_td {s : SS} (h : SsOk s) {D : ByteArray} (hb : en s + (D.size : Int) ≤ 1000000) : Can (layS s D).td ∧ ∀ x, mem (layS s D).td x ↔ mem s.td x ∨ (en s ≤ x ∧ x < en s + (D.size : Int)) := by
  have h0 := h.b0
  have he := en_ge s
  have g := spn_good (a := en s) (b := en s + (D.size : Int)) (by omega) (by omega)
  obtain ⟨c1, c2⟩ := unL_can h.ct g.1 g.2
  exact ⟨c1, fun x => by show mem (unL _ _) x ↔ _; rw [c2, inn_spn]⟩
theorem lay_ok {s : SS} (h : SsOk s) {D : ByteArray} (hb : en s + (D.size : Int) ≤ 1000000) : SsOk (layS s D) := by
  obtain ⟨c1, c2⟩ := lay_td h hb
  have he := en_lay s D
  have h1 := en_ge s
  have h2 := h.t1
  refine ⟨h.b0, by omega, h.ca, c1, fun x hx => ?_, fun x hx => ?_, h.t0, by show s.tp ≤ _; omega, fun x hx hy => ?_, h.na⟩
  · have := h.ia x hx
    rw [he]; exact ⟨this.1, by omega⟩
  · rw [he]
    rcases (c2 x).1 hx with h3 | h3
    · have := h.it x h3; exact ⟨this.1, by omega⟩
    · exact ⟨by show s.ba ≤ x; omega, by omega⟩
  · rcases (c2 x).1 hy with h3 | h3
    · exact h.dis x hx h3
    · have := h.ia x hx; omega
theorem ext_size {D : ByteArray} {n : Nat} (h : n ≤ D.size) : (D.extract 0 n).size = n := by rw [ByteArray.size_extract]; omega
theorem wrN_range {s : SS} {D : ByteArray} {room : Int} : 0 ≤ wrN s D room ∧ wrN s D room ≤ D.size := by
  unfold wrN frS
  split <;> omega
theorem wr_cases (s : SS) (D : ByteArray) (room : Int) : (s.fin = true ∧ wrS s D room = s ∧ wrN s D room = 0) ∨ (s.fin = false ∧ wrS s D room = layS s (D.extract 0 (wrN s D room).toNat) ∧ ((D.extract 0 (wrN s D room).toNat).size : Int) = wrN s D room ∧ wrN s D room = min (D.size : Int) (frS s room)) := by
  have hr := wrN_range (s := s) (D := D) (room := room)
  cases hf : s.fin with
  | true => exact .inl ⟨rfl, by unfold wrS; rw [hf]; rfl, by unfold wrN; rw [hf]; rfl⟩
  | false => exact .inr ⟨rfl, by unfold wrS; rw [hf]; rfl, by rw [ext_size (by omega)]; omega, by unfold wrN; rw [hf]; rfl⟩
theorem wr_ok {s : SS} (h : SsOk s) {D : ByteArray} {room : Int} (hb : en s + (D.size : Int) ≤ 1000000) : SsOk (wrS s D room) := by
  have hr := wrN_range (s := s) (D := D) (room := room)
  rcases wr_cases s D room with ⟨_, e, _⟩ | ⟨_, e, e2, _⟩
  · rw [e]; exact h
  · rw [e]; exact lay_ok h (by omega)
theorem fin_ok {s : SS} (h : SsOk s) : SsOk (finS s) := by
  unfold finS
  split
  · exact h
  · exact ⟨h.b0, h.b1, h.ca, h.ct, h.ia, h.it, h.t0, h.t1, h.dis, h.na⟩
theorem sent_td {s : SS} (h : SsOk s) (off n : Int) (f : Bool) : Can (sentS s off n f).td ∧ ∀ x, mem (sentS s off n f).td x ↔ mem s.td x ∧ ¬ inn (plS s off n) x := cuL_can h.ct (pl_good h off n).1
theorem sent_ok {s : SS} (h : SsOk s) (off n : Int) (f : Bool) : SsOk (sentS s off n f) := by
  obtain ⟨c1, c2⟩ := sent_td h off n f
  have h1 := h.t0
  have h2 := h.t1
  refine ⟨h.b0, h.b1, h.ca, c1, h.ia, fun x hx => h.it x ((c2 x).1 hx).1, ?_, ?_, fun x hx hy => h.dis x hx ((c2 x).1 hy).1, h.na⟩
  · show 0 ≤ max s.tp _
    omega
  · show max s.tp (min _ (en s)) ≤ en s
    omega
/-- A state whose first byte may be acknowledged. -/
structure Mid (s : SS) : Prop where
  b0 : 0 ≤ s.ba
  b1 : en s ≤ 1000000
  ca : Can s.ak
  ct : Can s.td
  ia : ∀ x, mem s.ak x → s.ba ≤ x ∧ x < en s
  it : ∀ x, mem s.td x → s.ba ≤ x ∧ x < en s
  t0 : 0 ≤ s.tp
  t1 : s.tp ≤ en s
  dis : ∀ x, mem s.ak x → ¬ mem s.td x
theorem SsOk.mid {s : SS} (h : SsOk s) : Mid s := ⟨h.b0, h.b1, h.ca, h.ct, h.ia, h.it, h.t0, h.t1, h.dis⟩
theorem came_sets {s : SS} (h : SsOk s) (off n : Int) : (Can (came s off n).ak ∧ ∀ x, mem (came s off n).ak x ↔ mem s.ak x ∨ inn (plS s off n) x) ∧ (Can (came s off n).td ∧ ∀ x, mem (came s off n).td x ↔ mem s.td x ∧ ¬ inn (plS s off n) x) :=
  ⟨unL_can h.ca (pl_good h off n).1 (pl_good h off n).2, cuL_can h.ct (pl_good h off n).1⟩
theorem came_mid {s : SS} (h : SsOk s) (off n : Int) : Mid (came s off n) := by
  obtain ⟨⟨c1, c2⟩, d1, d2⟩ := came_sets h off n
  refine ⟨h.b0, h.b1, c1, d1, fun x hx => ?_, fun x hx => h.it x ((d2 x).1 hx).1, h.t0, h.t1, fun x hx hy => ?_⟩
  · rcases (c2 x).1 hx with h3 | h3
    · exact h.ia x h3
    · have := inn_pl.1 h3
      exact ⟨this.1.2, this.2.2⟩
  · obtain ⟨y1, y2⟩ := (d2 x).1 hy
    rcases (c2 x).1 hx with h3 | h3
    · exact h.dis x h3 y1
    · exact y2 h3
theorem ans_spec {s : SS} (h : Mid s) : 0 ≤ ansI s ∧ ansI s ≤ s.d.size ∧ (∀ x, s.ba ≤ x → x < s.ba + ansI s → mem s.ak x) ∧ ¬ mem s.ak (s.ba + ansI s) := by
  have h0 := h.b0
  have h1 := h.b1
  obtain ⟨g0, g1⟩ := spn_good (a := s.ba) (b := en s) h0 (by omega)
  obtain ⟨c1, c2, c3⟩ := lack_can h.ca (spn s.ba (en s)) g0 g1
  unfold ansI
  cases hl : lack s.ak (spn s.ba (en s)) with
  | nil =>
    rw [hl] at c3
    simp only
    refine ⟨by omega, Int.le_refl _, fun x hx hy => ?_, fun hm => ?_⟩
    · apply Classical.byContradiction
      intro hn
      exact absurd ((c3 x).2 ⟨inn_spn.2 ⟨hx, hy⟩, hn⟩) (mem_nil x)
    · have := (h.ia _ hm).2
      unfold en at this
      omega
  | cons x m =>
    rw [hl] at c1 c3
    simp only
    have hx := c1.head
    obtain ⟨i1, i2⟩ := (c3 x.1).1 (mem_cons.2 (.inl ⟨Int.le_refl _, hx.2.1⟩))
    have i3 := inn_spn.1 i1
    unfold en at i3
    refine ⟨by omega, by omega, fun y hy hz => ?_, by rwa [show s.ba + (x.1 - s.ba) = x.1 by omega]⟩
    apply Classical.byContradiction
    intro hn
    rcases mem_cons.1 ((c3 y).2 ⟨inn_spn.2 ⟨hy, by unfold en; omega⟩, hn⟩) with h2 | ⟨z, hz1, h2, h3⟩
    · have := h2.1; omega
    · have := c1.next z hz1; omega
theorem go_size {s : SS} (h : Mid s) : ((goS s).d.size : Int) = s.d.size - ansI s := by
  obtain ⟨h0, h1, _⟩ := ans_spec h
  show ((s.d.extract (ansI s).toNat s.d.size).size : Int) = _
  rw [ByteArray.size_extract]
  omega
theorem en_go {s : SS} (h : Mid s) : en (goS s) = en s := by
  have := go_size h
  unfold en
  rw [this]
  show s.ba + ansI s + _ = _
  omega
theorem go_ak {s : SS} (h : Mid s) : Can (goS s).ak ∧ ∀ x, mem (goS s).ak x ↔ mem s.ak x ∧ s.ba + ansI s ≤ x := by
  have h0 := h.b0
  obtain ⟨a0, a1, _⟩ := ans_spec h
  obtain ⟨c1, c2⟩ := cuL_can h.ca (r := spn 0 (s.ba + ansI s)) (by unfold spn; split <;> simp)
  refine ⟨c1, fun x => ?_⟩
  show mem (cuL _ _) x ↔ _
  rw [c2, inn_spn]
  constructor
  · rintro ⟨h2, h3⟩
    have := h.ia x h2
    exact ⟨h2, by omega⟩
  · rintro ⟨h2, h3⟩
    exact ⟨h2, by omega⟩
theorem go_ok {s : SS} (h : Mid s) : SsOk (goS s) := by
  obtain ⟨a0, a1, a2, a3⟩ := ans_spec h
  obtain ⟨c1, c2⟩ := go_ak h
  have he := en_go h
  have h0 := h.b0
  have h1 := h.b1
  have h2 := h.t1
  refine ⟨by show 0 ≤ s.ba + ansI s; omega, by omega, c1, h.ct, fun x hx => ?_, fun x hx => ?_, h.t0, by rw [he]; exact h2, fun x hx => h.dis x ((c2 x).1 hx).1, fun hm => a3 ((c2 _).1 hm).1⟩
  · obtain ⟨h3, h4⟩ := (c2 x).1 hx
    have := h.ia x h3
    rw [he]
    exact ⟨h4, this.2⟩
  · have h3 := h.it x hx
    rw [he]
    refine ⟨?_, h3.2⟩
    show s.ba + ansI s ≤ x
    apply Classical.byContradiction
    intro hn
    exact h.dis x (a2 x h3.1 (by omega)) hx
theorem end_ok {s : SS} (h : SsOk s) (f : Bool) : SsOk (endS s f) := ⟨h.b0, h.b1, h.ca, h.ct, h.ia, h.it, h.t0, h.t1, h.dis, h.na⟩
theorem ack_ok {s : SS} (h : SsOk s) (off n : Int) (f : Bool) : SsOk (ackS s off n f) := end_ok (go_ok (came_mid h off n)) f
theorem en_sent (s : SS) (off n : Int) (f : Bool) : en (sentS s off n f) = en s := rfl
theorem en_ack {s : SS} (h : SsOk s) (off n : Int) (f : Bool) : en (ackS s off n f) = en s := en_go (came_mid h off n)

/-! ### How many ranges there are -/
/-- The sets turn at these places alone. -/
def Chg (P : List Int) (s : SS) : Prop := ∀ x, x ∉ P → (mem s.ak x ↔ mem s.ak (x - 1)) ∧ (mem s.td x ↔ mem s.td (x - 1))
theorem len_chg {l : List Ran} {P : List Int} (h : Can l) (hc : ∀ x, x ∉ P → (mem l x ↔ mem l (x - 1))) : 2 * l.length ≤ P.length := by
  have h1 : ∀ x ∈ l, ¬ mem l (x.1 - 1) ∧ ¬ mem l (x.2 + 1) := by
    intro x hx
    have hp := List.pairwise_iff_getElem.1 h.rise
    obtain ⟨i, hi, rfl⟩ := List.getElem_of_mem hx
    have gi := h.good _ (List.getElem_mem hi)
    constructor
    · rintro ⟨y, hy, h1, h2⟩
      obtain ⟨j, hj, rfl⟩ := List.getElem_of_mem hy
      have gj := h.good _ (List.getElem_mem hj)
      rcases Nat.lt_trichotomy i j with hij | rfl | hij
      · have := hp i j hi hj hij; omega
      · omega
      · have := hp j i hj hi hij; omega
    · rintro ⟨y, hy, h1, h2⟩
      obtain ⟨j, hj, rfl⟩ := List.getElem_of_mem hy
      have gj := h.good _ (List.getElem_mem hj)
      rcases Nat.lt_trichotomy i j with hij | rfl | hij
      · have := hp i j hi hj hij; omega
      · omega
      · have := hp j i hj hi hij; omega
  have hs : (l.flatMap (fun x => [x.1, x.2 + 1])).Pairwise (· < ·) := by
    have : ∀ m : List Ran, Can m → (m.flatMap (fun x => [x.1, x.2 + 1])).Pairwise (· < ·) ∧ ∀ a, (∀ x ∈ m, a < x.1) → ∀ y ∈ m.flatMap (fun x => [x.1, x.2 + 1]), a < y := by
      intro m
      induction m with
      | nil => intro _; exact ⟨List.Pairwise.nil, fun a _ y hy => by cases hy⟩
      | cons x m ih =>
        intro hm
        obtain ⟨i1, i2⟩ := ih hm.tail
        have hx := hm.head
        have hn := hm.next
        refine ⟨?_, ?_⟩
        · rw [List.flatMap_cons]
          refine List.pairwise_append.2 ⟨by simp; omega, i1, fun a ha b hb => ?_⟩
          have h3 := i2 (x.2 + 1) (fun y hy => by have := hn y hy; omega) b hb
          simp at ha
          omega
        · intro a ha y hy
          rw [List.flatMap_cons] at hy
          rcases List.mem_append.1 hy with hy | hy
          · have := ha x (List.mem_cons_self ..)
            simp at hy
            omega
          · exact i2 a (fun z hz => ha z (List.mem_cons_of_mem _ hz)) y hy
    exact (this l h).1
  have := sub_lenS _ P hs (fun y hy => by
    obtain ⟨x, hx, hy⟩ := List.mem_flatMap.1 hy
    have gx := h.good x hx
    apply Classical.byContradiction
    intro hn
    have hc := hc y hn
    simp at hy
    rcases hy with rfl | rfl
    · exact (h1 x hx).1 (hc.1 ⟨x, hx, Int.le_refl _, gx.2.1⟩)
    · exact (h1 x hx).2 (hc.2 ⟨x, hx, by show x.1 ≤ x.2 + 1 - 1; omega, by show x.2 + 1 - 1 ≤ x.2; omega⟩))
  have e : ∀ m : List Ran, (m.flatMap (fun x => [x.1, x.2 + 1])).length = 2 * m.length := by
    intro m
    induction m with
    | nil => rfl
    | cons x m ih => rw [List.flatMap_cons, List.length_append, ih, List.length_cons]; simp; omega
  rw [e] at this
  exact this
theorem Chg.len {P : List Int} {s : SS} (h : Chg P s) (hk : SsOk s) : 2 * s.ak.length ≤ P.length ∧ 2 * s.td.length ≤ P.length :=
  ⟨len_chg hk.ca (fun x hx => (h x hx).1), len_chg hk.ct (fun x hx => (h x hx).2)⟩
theorem Chg.more {P : List Int} {s : SS} (h : Chg P s) (a : Int) : Chg (a :: P) s := fun x hx => h x (fun hm => hx (List.mem_cons_of_mem _ hm))
theorem not_two {x a b : Int} {P : List Int} (h : x ∉ a :: b :: P) : x ≠ a ∧ x ≠ b ∧ x ∉ P :=
  ⟨fun e => h (e ▸ List.mem_cons_self ..), fun e => h (e ▸ List.mem_cons_of_mem _ (List.mem_cons_self ..)), fun e => h (List.mem_cons_of_mem _ (List.mem_cons_of_mem _ e))⟩
theorem inn_turn {s : SS} {off n x : Int} (h1 : x ≠ max off s.ba) (h2 : x ≠ min (off + max n 0) (en s)) : inn (plS s off n) x ↔ inn (plS s off n) (x - 1) := by
  rw [inn_pl, inn_pl]
  omega
theorem Chg.lay {P : List Int} {s : SS} (h : Chg P s) (hk : SsOk s) {D : ByteArray} (hb : en s + (D.size : Int) ≤ 1000000) : Chg (en s :: (en s + (D.size : Int)) :: P) (layS s D) := by
  intro x hx
  obtain ⟨h1, h2, h3⟩ := not_two hx
  obtain ⟨_, c2⟩ := lay_td hk hb
  refine ⟨(h x h3).1, ?_⟩
  rw [c2, c2, (h x h3).2]
  exact or_congr Iff.rfl (by omega)
theorem Chg.wr {P : List Int} {s : SS} (h : Chg P s) (hk : SsOk s) {D : ByteArray} {room : Int} (hb : en s + (D.size : Int) ≤ 1000000) : Chg (en s :: (en s + wrN s D room) :: P) (wrS s D room) := by
  have hr := wrN_range (s := s) (D := D) (room := room)
  rcases wr_cases s D room with ⟨_, e, _⟩ | ⟨_, e, e2, _⟩
  · rw [e]; exact (h.more _).more _
  · have k := h.lay hk (D := D.extract 0 (wrN s D room).toNat) (by omega)
    rw [e2] at k
    rw [e]
    exact k
theorem Chg.fin {P : List Int} {s : SS} (h : Chg P s) : Chg P (finS s) := by
  unfold finS
  split
  · exact h
  · exact h
theorem Chg.sent {P : List Int} {s : SS} (h : Chg P s) (hk : SsOk s) (off n : Int) (f : Bool) : Chg (max off s.ba :: min (off + max n 0) (en s) :: P) (sentS s off n f) := by
  intro x hx
  obtain ⟨h1, h2, h3⟩ := not_two hx
  obtain ⟨_, c2⟩ := sent_td hk off n f
  refine ⟨(h x h3).1, ?_⟩
  rw [c2, c2, (h x h3).2, inn_turn h1 h2]
theorem Chg.ack {P : List Int} {s : SS} (h : Chg P s) (hk : SsOk s) (off n : Int) (f : Bool) : Chg (max off s.ba :: min (off + max n 0) (en s) :: P) (ackS s off n f) := by
  intro x hx
  obtain ⟨h1, h2, h3⟩ := not_two hx
  obtain ⟨⟨_, c2⟩, _, d2⟩ := came_sets hk off n
  have hm := came_mid hk off n
  obtain ⟨_, e2⟩ := go_ak hm
  obtain ⟨_, _, _, a3⟩ := ans_spec hm
  have hu : mem (came s off n).ak x ↔ mem (came s off n).ak (x - 1) := by rw [c2, c2, (h x h3).1, inn_turn h1 h2]
  refine ⟨?_, ?_⟩
  · show mem (goS (came s off n)).ak x ↔ mem (goS (came s off n)).ak (x - 1)
    rw [e2, e2]
    by_cases hq : x = (came s off n).ba + ansI (came s off n)
    · constructor
      · rintro ⟨h4, _⟩
        exact absurd (hq ▸ h4) a3
      · rintro ⟨_, h5⟩
        omega
    · rw [hu]
      constructor
      · rintro ⟨h4, h5⟩; exact ⟨h4, by omega⟩
      · rintro ⟨h4, h5⟩; exact ⟨h4, by omega⟩
  · show mem (came s off n).td x ↔ mem (came s off n).td (x - 1)
    rw [d2, d2, (h x h3).2, inn_turn h1 h2]
end Go.Proofs.YtoblmhpjendbfaaGreatDoor.Rg
namespace Go.Proofs.YtoblmhpjendbfaaGreatDoor.Rg.Gt
set_option maxRecDepth 20000
open Go.RowKit Go.Shelf
set_option linter.unusedVariables false
set_option linter.unusedSimpArgs false

theorem unP_len : ∀ (s : List Ran) (r : Ran) (put : Bool), (unP s r put).length ≤ s.length + (if put then 0 else 1)
  | [], r, put => by cases put <;> simp [unP]
  | x :: s, r, put => by
    have h1 := unP_len s r put
    have h2 := unP_len s r true
    have h3 := unP_len s (min r.1 x.1, max r.2 x.2) put
    simp only [if_true] at h2
    rw [unP]
    cases put with
    | true =>
      simp only [if_true] at h1 h3 ⊢
      split
      · simp only [List.length_cons]; omega
      · split
        · simp only [List.length_cons]; omega
        · simp only [List.length_cons]; omega
    | false =>
      simp only [Bool.false_eq_true, if_false] at h1 h3 ⊢
      split
      · simp only [List.length_cons]; omega
      · split
        · simp only [List.length_cons]; omega
        · simp only [List.length_cons]; omega
theorem unL_len (l : List Ran) (r : Ran) : (unL l r).length ≤ l.length + 1 := by
  unfold unL
  split
  · have := unP_len l r false; simpa using this
  · omega
/-- A text that has the bytes of another one at some ranges, and those of d elsewhere. -/
noncomputable def reT (T : ByteArray) (l : List Ran) (off : Int) (d : ByteArray) (N : Nat) : ByteArray :=
  ⟨Array.ofFn (n := N) fun i => open Classical in if mem l (i.val : Int) then T.data.getD i.val 0 else d.data.getD (i.val - off.toNat) 0⟩
theorem reT_size (T : ByteArray) (l : List Ran) (off : Int) (d : ByteArray) (N : Nat) : (reT T l off d N).size = N := by
  show (Array.ofFn _).size = N
  simp
theorem reT_get (T : ByteArray) (l : List Ran) (off : Int) (d : ByteArray) (N : Nat) (i : Nat) (h : i < (reT T l off d N).data.size) :
    (reT T l off d N).data[i] = open Classical in if mem l (i : Int) then T.data.getD i 0 else d.data.getD (i - off.toNat) 0 := by
  unfold reT
  simp
theorem data_extract (T : ByteArray) (i j : Nat) : (T.extract i j).data = T.data.extract i j := by
  simp [ByteArray.data_extract]
theorem bt_same {T : ByteArray} {l : List Ran} {off : Int} {d : ByteArray} {N : Nat} {x : Ran} (hx : x ∈ l) (hi : Inn T x) (hN : x.2 < (N : Int)) : bt (reT T l off d N) x = bt T x := by
  obtain ⟨h0, h1, h2⟩ := hi
  have hs : (reT T l off d N).data.size = N := reT_size T l off d N
  have hsT : (T.data.size : Int) = T.size := rfl
  unfold bt
  apply ByteArray.ext
  rw [data_extract, data_extract]
  apply Array.ext
  · simp only [Array.size_extract, hs]; omega
  · intro k hk1 hk2
    simp only [Array.size_extract, hs] at hk1
    rw [Array.getElem_extract, Array.getElem_extract, reT_get]
    rw [if_pos ⟨x, hx, by omega, by omega⟩]
    simp only [Array.getD]
    rw [dif_pos (by omega)]
    rfl
theorem bt_new {T : ByteArray} {l : List Ran} {off : Int} {d : ByteArray} {N : Nat} {r : Ran} (h0 : 0 ≤ off) (h1 : off ≤ r.1) (h2 : r.1 ≤ r.2) (h3 : r.2 < off + (d.size : Int)) (hN : r.2 < (N : Int)) (hm : ∀ k, inn r k → ¬ mem l k) :
    d.extract (r.1 - off).toNat (r.2 - off + 1).toNat = bt (reT T l off d N) r := by
  have hs : (reT T l off d N).data.size = N := reT_size T l off d N
  have hsd : (d.data.size : Int) = d.size := rfl
  unfold bt
  apply ByteArray.ext
  rw [data_extract, data_extract]
  apply Array.ext
  · simp only [Array.size_extract, hs]; omega
  · intro k hk1 hk2
    simp only [Array.size_extract, hs] at hk1 hk2
    rw [Array.getElem_extract, Array.getElem_extract, reT_get]
    rw [if_neg (fun h => hm _ ⟨by omega, by omega⟩ h)]
    simp only [Array.getD]
    rw [dif_pos (by omega)]
    congr 1
    omega
theorem RowG.retext {W : World} {v : Value} {T T' : ByteArray} {G : List Ran} (h : RowG W v T G) (he : ∀ x ∈ G, bt T' x = bt T x) : RowG W v T' G := by
  obtain ⟨a, cap, hv, hc, hr⟩ := h
  refine ⟨a, cap, hv, hc, fun hne => ?_⟩
  obtain ⟨b, off, ha, hlt, hcl⟩ := hr hne
  refine ⟨b, off, ha, hlt, fun i hi j hj => ?_⟩
  rw [hcl i hi j hj]
  unfold gcs
  rw [he _ (by rw [getD_get hi]; exact List.getElem_mem _)]
/-- A state of some text, whose end is 0 while it is not known. -/
structure GsG (T : ByteArray) (s : GS) : Prop where
  ok : GsOk T s
  z : s.kn = false → s.fin = 0
  t : (T.size : Int) ≤ 4611686018427387903
theorem gsG_zero : GsG ⟨#[]⟩ ⟨0, [], 0, false⟩ := ⟨gs_zero _, fun _ => rfl, by decide⟩
/-- The state when bytes came from off up to E. -/
def putS (s : GS) (off E : Int) (f : Bool) : GS := if rfS s f E = 0 then ⟨s.rd, unL s.l (Rg.spn (max off s.rd) E), if f then E else s.fin, s.kn || f⟩ else s
theorem rfS_two (s : GS) (f : Bool) (E : Int) : rfS s f E = 0 ∨ rfS s f E = 140 := by unfold rfS; split <;> simp
theorem hi_all {T : ByteArray} {s : GS} (h : GsOk T s) (hk : s.kn = false) : ∀ x ∈ s.l, x.2 < hiS s := by
  intro x hx
  have hne : s.l ≠ [] := fun e => by rw [e] at hx; cases hx
  have hn := List.length_pos_iff.2 hne
  unfold hiS
  rw [if_neg (by rw [hk]; decide), if_neg hne]
  obtain ⟨i, hi, rfl⟩ := List.getElem_of_mem hx
  rw [getD_get (by omega)]
  by_cases he : i = s.l.length - 1
  · subst he; omega
  · have := List.pairwise_iff_getElem.1 h.can.rise i (s.l.length - 1) hi (by omega) (by omega)
    have := h.can.good _ (List.getElem_mem (by omega : s.l.length - 1 < s.l.length))
    omega
theorem put_len (s : GS) (off E : Int) (f : Bool) : (putS s off E f).l.length ≤ s.l.length + 1 := by
  unfold putS
  split
  · exact unL_len _ _
  · omega
/-- What text there is behind a Put. -/
theorem put_text {T : ByteArray} {s : GS} (h : GsG T s) {off : Int} {d : ByteArray} {f : Bool} {E : Int} (h0 : 0 ≤ off) (hE : off + (d.size : Int) = E) (hEm : E ≤ 4611686018427387903) (hR : rfS s f E = 0) :
    ∃ T', GsG T' s ∧ (∀ x ∈ s.l, bt T' x = bt T x) ∧ E ≤ (T'.size : Int) ∧ (f = true → E = (T'.size : Int)) ∧
      (∀ r : Ran, off ≤ r.1 → r.1 ≤ r.2 → r.2 < off + (d.size : Int) → (∀ k, inn r k → s.rd ≤ k ∧ ¬ mem s.l k) → d.extract (r.1 - off).toNat (r.2 - off + 1).toNat = bt T' r) := by
  have hno : ¬ ((s.kn = true ∧ s.fin < E) ∨ (f = true ∧ E < hiS s)) := by
    intro hq
    unfold rfS at hR
    rw [if_pos hq] at hR
    cases hR
  have hT := h.t
  have hz := h.z
  have hk := h.ok.kn
  have hr0 := h.ok.r0
  have hr1 := h.ok.r1
  have hf0 := h.ok.f0
  have hf1 := h.ok.f1
  have hhi := hiS_le h.ok
  obtain ⟨N, hN⟩ : ∃ N : Nat, N = (if s.kn = true then T.size else if f = true then E.toNat else max T.size E.toNat) := ⟨_, rfl⟩
  have hEd : 0 ≤ E := by omega
  have hNE : E ≤ (N : Int) := by
    rw [hN]
    split
    · rename_i hq
      have := hk hq
      have : ¬ s.fin < E := fun hh => hno (.inl ⟨hq, hh⟩)
      omega
    · split <;> omega
  have hNm : (N : Int) ≤ 4611686018427387903 := by
    rw [hN]
    split
    · omega
    · split <;> omega
  have hNl : ∀ x ∈ s.l, x.2 < (N : Int) := by
    intro x hx
    have hi := h.ok.inn x hx
    rw [hN]
    split
    · omega
    · rename_i hq
      have hq' : s.kn = false := by simpa using hq
      split
      · rename_i hf
        have := hi_all h.ok hq' x hx
        have : ¬ E < hiS s := fun hh => hno (.inr ⟨hf, hh⟩)
        omega
      · omega
  have hNr : s.rd ≤ (N : Int) := by
    rw [hN]
    split
    · omega
    · split
      · rename_i hf
        have : ¬ E < hiS s := fun hh => hno (.inr ⟨hf, hh⟩)
        omega
      · omega
  have hNf : s.fin ≤ (N : Int) := by
    rw [hN]
    split
    · omega
    · rename_i hq
      have := hz (by simpa using hq)
      split <;> omega
  have hNF : f = true → E = (N : Int) := by
    intro hf
    rw [hN]
    split
    · rename_i hq
      have h1 := hk hq
      have h2 : ¬ s.fin < E := fun hh => hno (.inl ⟨hq, hh⟩)
      have h3 : ¬ E < hiS s := fun hh => hno (.inr ⟨hf, hh⟩)
      have h4 : hiS s = (T.size : Int) := highV h.ok hq
      omega
    · first | omega | (rw [if_pos hf]; omega)
  have hNk : s.kn = true → s.fin = (N : Int) := by
    intro hq
    rw [hN, if_pos hq]
    exact hk hq
  refine ⟨reT T s.l off d N, ⟨⟨h.ok.can, hr0, by rw [reT_size]; exact hNr, fun x hx => ⟨(h.ok.inn x hx).1, by rw [reT_size]; exact hNl x hx⟩, hf0, by rw [reT_size]; exact hNf, fun hq => by rw [reT_size]; exact hNk hq⟩, hz, by rw [reT_size]; exact hNm⟩, ?_, by rw [reT_size]; exact hNE, fun hf => by rw [reT_size]; exact hNF hf, ?_⟩
  · intro x hx
    exact bt_same hx (h.ok.inns x hx) (hNl x hx)
  · intro r h1 h2 h3 h4
    exact bt_new h0 h1 h2 h3 (by omega) (fun k hk => (h4 k hk).2)
set_option maxHeartbeats 1000000 in
/-- gather.Put of any bytes. -/
theorem put_gen (T : ByteArray) (s : GS) (a : Option Addr) (n c : Nat) (off : Int) (d : ByteArray) (f : Bool) (E : Int) (w : World) (h : GsG T s) (hL : s.l.length ≤ 250) (hn : s.l.length = n) (hr : RowG w (.slice a n c) T s.l)
    (h0 : 0 ≤ off) (hE : off + (d.size : Int) = E) (hEm : E ≤ 4611686018427387903) :
    Calls Tryz.prog 50 #[.agg #[.int .u64 s.rd, .slice a n c, .int .u64 s.fin, .bool s.kn], .int .u64 off, .string d, .bool f] w fun e w' =>
      ∃ a' c' T', e = .returned (.tuple #[.agg #[.int .u64 (putS s off E f).rd, .slice a' (putS s off E f).l.length c', .int .u64 (putS s off E f).fin, .bool (putS s off E f).kn], .int .i64 (rfS s f E)]) ∧ GsG T' (putS s off E f) ∧ (∀ x ∈ s.l, bt T' x = bt T x) ∧
        (rfS s f E = 0 → ∀ r : Ran, off ≤ r.1 → r.1 ≤ r.2 → r.2 < off + (d.size : Int) → (∀ k, inn r k → s.rd ≤ k ∧ ¬ mem s.l k) → d.extract (r.1 - off).toNat (r.2 - off + 1).toNat = bt T' r) ∧
        RowG w' (.slice a' (putS s off E f).l.length c') T' (putS s off E f).l ∧ (∀ q, Blk (.slice a' (putS s off E f).l.length c') q → w.heap.size ≤ q) ∧ Below w.heap.size w w' := by
  rcases rfS_two s f E with hR | hR
  · obtain ⟨T', g, hs, hTE, hfE, hD⟩ := put_text h h0 hE hEm hR
    refine (put_ok T' s a n c off d f E w g.ok g.t hL hn (hr.retext hs) h0 hE hTE hfE hD).mono ?_
    rintro e w' ⟨a', c', l', rfl, k1, k2, k3, k4, k5⟩
    have hr0 := h.ok.r0
    obtain ⟨c1, c2⟩ := unL_can h.ok.can (r := Rg.spn (max off s.rd) E) (Rg.spn_good (by omega) (by omega)).1 (Rg.spn_good (by omega) (by omega)).2
    have hl : l' = unL s.l (Rg.spn (max off s.rd) E) := Rg.can_same (φ := fun k => mem s.l k ∨ ((off ≤ k ∧ k < E) ∧ s.rd ≤ k)) ⟨k1.can, k2⟩ ⟨c1, fun k => by rw [c2, Rg.inn_spn]; exact or_congr Iff.rfl (by omega)⟩
    have hp : putS s off E f = ⟨s.rd, l', if f then E else s.fin, s.kn || f⟩ := by unfold putS; rw [if_pos hR, hl]
    rw [hp, hR]
    exact ⟨a', c', T', rfl, ⟨k1, fun hq => by
      have hq1 : s.kn = false ∧ f = false := by simpa using hq
      show (if f then E else s.fin) = 0
      rw [hq1.2]
      exact h.z hq1.1, g.t⟩, hs, fun _ => hD, k3, k4, k5⟩
  · have hp : putS s off E f = s := by unfold putS; rw [if_neg (by rw [hR]; decide)]
    refine (put_err T s a n c off d f E w h.ok h.t hL hn hr h0 (by omega) (by omega) hE hEm hR).mono ?_
    rintro e w' ⟨a', c', rfl, k3, k4, k5⟩
    rw [hp, hR, hn]
    exact ⟨a', c', T, rfl, h, fun _ _ => rfl, fun hq => absurd hq (by decide), k3, k4, k5⟩
end Go.Proofs.YtoblmhpjendbfaaGreatDoor.Rg.Gt
namespace Go.Proofs.YtoblmhpjendbfaaGreatDoor.Rg.Gt
set_option maxRecDepth 20000
open Go.RowKit Go.Shelf
set_option linter.unusedVariables false
set_option linter.unusedSimpArgs false

theorem hiS_iff {T : ByteArray} {s : GS} (h : GsOk T s) (hk : s.kn = false) {H : Int} : hiS s ≤ H ↔ s.rd ≤ H ∧ ∀ k, mem s.l k → k < H := by
  constructor
  · intro hH
    refine ⟨Int.le_trans (hiS_le h).1 hH, fun k hm => ?_⟩
    obtain ⟨x, hx, h1, h2⟩ := hm
    have := hi_all h hk x hx
    omega
  · rintro ⟨h1, h2⟩
    unfold hiS
    rw [if_neg (by rw [hk]; decide)]
    by_cases hl : s.l = []
    · rw [if_pos hl]; exact h1
    · rw [if_neg hl]
      have hn := List.length_pos_iff.2 hl
      have hx : s.l.getD (s.l.length - 1) (0, 0) ∈ s.l := by rw [getD_get (by omega)]; exact List.getElem_mem _
      have := h2 (s.l.getD (s.l.length - 1) (0, 0)).2 ⟨_, hx, (h.inns _ hx).2.1, Int.le_refl _⟩
      omega
theorem hiS_kn {s : GS} (hk : s.kn = true) : hiS s = s.fin := by unfold hiS; rw [if_pos hk]
theorem rf_not {s : GS} {f : Bool} {E : Int} (hR : rfS s f E = 0) : ¬ (s.kn = true ∧ s.fin < E) ∧ ¬ (f = true ∧ E < hiS s) := by
  unfold rfS at hR
  constructor
  · intro h; rw [if_pos (.inl h)] at hR; cases hR
  · intro h; rw [if_pos (.inr h)] at hR; cases hR
theorem putS_yes {s : GS} {off E : Int} {f : Bool} (hR : rfS s f E = 0) : putS s off E f = ⟨s.rd, unL s.l (Rg.spn (max off s.rd) E), if f then E else s.fin, s.kn || f⟩ := by unfold putS; rw [if_pos hR]
/-- What is there behind a Put. -/
theorem put_mem {T : ByteArray} {s : GS} (h : GsG T s) {off E : Int} {f : Bool} (hR : rfS s f E = 0) (h0 : 0 ≤ off) (hE : E ≤ 4611686018427387903) : ∀ k, mem (putS s off E f).l k ↔ mem s.l k ∨ ((off ≤ k ∧ k < E) ∧ s.rd ≤ k) := by
  have hr0 := h.ok.r0
  obtain ⟨c1, c2⟩ := unL_can h.ok.can (r := Rg.spn (max off s.rd) E) (Rg.spn_good (by omega) (by omega)).1 (Rg.spn_good (by omega) (by omega)).2
  intro k
  rw [putS_yes hR]
  show mem (unL _ _) k ↔ _
  rw [c2, Rg.inn_spn]
  exact or_congr Iff.rfl (by omega)
theorem hi_put {T T' : ByteArray} {s : GS} (h : GsG T s) {off E : Int} {f : Bool} (hR : rfS s f E = 0) (h0 : 0 ≤ off) (hE : E ≤ 4611686018427387903) (h' : GsG T' (putS s off E f)) : hiS s ≤ hiS (putS s off E f) ∧ hiS (putS s off E f) ≤ max (hiS s) E := by
  obtain ⟨n1, n2⟩ := rf_not hR
  have hp := putS_yes (off := off) hR
  have hm := put_mem h hR h0 hE
  have hh := hiS_le h.ok
  cases hk : s.kn with
  | true =>
    have e1 := hiS_kn hk
    have e2 : hiS (putS s off E f) = if f then E else s.fin := by rw [hp]; exact hiS_kn (by simp [hk])
    rw [e2]
    cases f with
    | true =>
      simp only [if_true]
      have : ¬ s.fin < E := fun x => n1 ⟨hk, x⟩
      have : ¬ E < hiS s := fun x => n2 ⟨rfl, x⟩
      omega
    | false =>
      simp only [Bool.false_eq_true, if_false]
      omega
  | false =>
    cases f with
    | true =>
      have e2 : hiS (putS s off E true) = E := by rw [hp]; exact hiS_kn (by simp)
      have : ¬ E < hiS s := fun x => n2 ⟨rfl, x⟩
      omega
    | false =>
      have hk' : (putS s off E false).kn = false := by rw [hp]; simp [hk]
      have hrd : (putS s off E false).rd = s.rd := by rw [hp]
      have g1 := (hiS_iff h'.ok hk' (H := hiS (putS s off E false))).1 (Int.le_refl _)
      constructor
      · refine (hiS_iff h.ok hk).2 ⟨by rw [← hrd]; exact g1.1, fun k hk2 => g1.2 k ((hm k).2 (.inl hk2))⟩
      · refine (hiS_iff h'.ok hk').2 ⟨by rw [hrd]; omega, fun k hk2 => ?_⟩
        have g2 := (hiS_iff h.ok hk (H := hiS s)).1 (Int.le_refl _)
        rcases (hm k).1 hk2 with h3 | h3
        · have := g2.2 k h3; omega
        · omega
theorem rdy_hi {T : ByteArray} {s : GS} (h : GsOk T s) : s.rd + rdy s ≤ hiS s := by
  have hr := rdy_range h
  have hh := hiS_le h
  cases hk : s.kn with
  | true => rw [hiS_kn hk, h.kn hk]; exact hr.2
  | false =>
    unfold rdy
    split
    · rename_i x m e
      have := hi_all h hk x (by rw [e]; exact List.mem_cons_self ..)
      split <;> omega
    · omega
theorem tk_range {T : ByteArray} {s : GS} (h : GsOk T s) (n : Int) : 0 ≤ tk s n ∧ tk s n ≤ rdy s := by
  have hr := rdy_range h
  unfold tk
  omega
theorem take_gsg {T : ByteArray} {s : GS} (h : GsG T s) (n : Int) : GsG T (takeS s (tk s n)) := by
  obtain ⟨h0, h1⟩ := tk_range h.ok n
  exact ⟨(take_ok h.ok h0 h1).1, h.z, h.t⟩
theorem take_len (s : GS) (m : Int) : (takeS s m).l.length ≤ s.l.length := by
  show (dropL s m).length ≤ _
  unfold dropL
  split
  · rename_i e
    rw [e]
    split
    · exact Nat.le_refl _
    · split
      · simp
      · simp
  · simp
theorem hi_take {T : ByteArray} {s : GS} (h : GsG T s) (n : Int) : hiS (takeS s (tk s n)) = hiS s := by
  obtain ⟨h0, h1⟩ := tk_range h.ok n
  obtain ⟨k1, k2⟩ := take_ok h.ok h0 h1
  have hr := rdy_hi h.ok
  cases hk : s.kn with
  | true => rw [hiS_kn hk]; exact hiS_kn (s := takeS s (tk s n)) hk
  | false =>
    have hk' : (takeS s (tk s n)).kn = false := hk
    apply Int.le_antisymm
    · refine (hiS_iff k1 hk').2 ⟨by show s.rd + tk s n ≤ _; omega, fun k hm => ((hiS_iff h.ok hk).1 (Int.le_refl _)).2 k ((k2 k).1 hm).1⟩
    · have g := (hiS_iff k1 hk' (H := hiS (takeS s (tk s n)))).1 (Int.le_refl _)
      have g1 : s.rd + tk s n ≤ hiS (takeS s (tk s n)) := g.1
      refine (hiS_iff h.ok hk).2 ⟨by omega, fun k hm => ?_⟩
      by_cases hlt : s.rd + tk s n ≤ k
      · exact g.2 k ((k2 k).2 ⟨hm, hlt⟩)
      · omega
theorem off_gsg {T : ByteArray} {s : GS} (h : GsG T s) : GsG T { s with l := [] } := ⟨⟨Can.nil, h.ok.r0, h.ok.r1, fun x hx => (by cases hx), h.ok.f0, h.ok.f1, h.ok.kn⟩, h.z, h.t⟩
end Go.Proofs.YtoblmhpjendbfaaGreatDoor.Rg.Gt
