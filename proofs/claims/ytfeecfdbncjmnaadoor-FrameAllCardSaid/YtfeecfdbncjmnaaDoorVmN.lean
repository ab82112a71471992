/- The walks of layer 1: Gets, both ways; Same; Puts, both ways. -/
import Derived.Test.YtfeecfdbncjmnaaDoorVmS
import Derived.Test.YtfeecfdbncjmnaaDoorVmLaid
import Derived.Deep.QuietTactic
import Derived.BigQuiet
namespace Go.Proofs.YtfeecfdbncjmnaaDoor.Vm
set_option maxRecDepth 20000
open Go.RowKit
set_option linter.unusedVariables false

theorem info22 : (Tryd.prog.info? 23).map (fun i => (i.zero, i.size, i.bytes)) = some (some (.int .u64 0), 1, 8) := by kernel_rfl
def numCells (l : List Nat) : List Value := l.map fun n : Nat => .int .u64 (n : Int)
theorem numCells_append (l : List Nat) (n : Nat) : numCells (l ++ [n]) = numCells l ++ [.int .u64 (n : Int)] := by simp [numCells]

/-- What Gets ends in: k numbers of l. -/
def GetsPost (l : List UInt8) (k : Nat) (w : World) (e : Ending) (w' : World) : Prop :=
  Below w.heap.size w w' ∧ match gst l k with
  | some (acc, r) => ∃ v, e = .returned (.tuple #[v, .string ⟨r.toArray⟩, .int .i64 0]) ∧ w'.ownsRow w.heap.size 23 1 v acc.length (numCells acc)
  | none => e = .returned (.tuple #[.slice none 0 0, .string ⟨#[]⟩, .int .i64 10])
theorem gets_some {l : List UInt8} {k : Nat} {w w' : World} {acc : List Nat} {r : List UInt8} {v : Value} {rest : ByteArray} (h : gst l k = some (acc, r)) (hb : Below w.heap.size w w') (hr : rest = ⟨r.toArray⟩)
    (ho : w'.ownsRow w.heap.size 23 1 v acc.length (numCells acc)) : GetsPost l k w (.returned (.tuple #[v, .string rest, .int .i64 0])) w' := by
  refine ⟨hb, ?_⟩
  rw [h, hr]
  exact ⟨v, rfl, ho⟩
theorem gets_none {l : List UInt8} {k : Nat} {w w' : World} (h : gst l k = none) (hb : Below w.heap.size w w') : GetsPost l k w (.returned (.tuple #[.slice none 0 0, .string ⟨#[]⟩, .int .i64 10])) w' := by
  refine ⟨hb, ?_⟩
  rw [h]
def GetsRel (l : List UInt8) (m : Nat) (w : World) (sv lv iv : Value) (wr : World) : Prop :=
  ∃ (k : Nat) (acc : List Nat) (r : ByteArray), k ≤ m ∧ gst l k = some (acc, r.data.toList) ∧ iv = .int .i64 k ∧ sv = .string r ∧ wr.ownsRow w.heap.size 23 1 lv k (numCells acc) ∧ Below w.heap.size w wr
theorem num_step {w1 : World} {B : Nat} {v' : Value} {k : Nat} {acc : List Nat} {n : Nat} (h : w1.ownsRow B 23 1 v' (k + 1) (numCells acc ++ [.int .u64 (n : Int)])) : w1.ownsRow B 23 1 v' (k + 1) (numCells (acc ++ [n])) := by
  rw [numCells_append]; exact h

set_option maxHeartbeats 1000000 in
theorem rgets (s : ByteArray) (m : Int) (w : World) (hs : s.size ≤ 4000) (hm : m ≤ 1000) :
    Calls Tryd.prog 60 #[.string s, .int .i64 m] w (GetsPost s.data.toList m.toNat w) := by
  obtain ⟨i0, hi, hz0, hz1, hz2⟩ := info_parts info22
  have hz1 := Lib.hid hz1; have hz2 := Lib.hid hz2; have hz0 := Lib.hid hz0; have hi := Lib.hid hi
  go_enter Tryd.func60, Tryd.ntmps60
  go_wp2
  go_loopw [0, 7, 8] (fun sv lv iv wr => GetsRel s.data.toList m.toNat w sv lv iv wr) (fun _ _ iv _ => (m - intOf iv).toNat)
  case atStart => exact ⟨0, [], s, Nat.zero_le _, rfl, rfl, rfl, World.ownsRow_made w #[] 0 (Nat.le_refl _) (by unfold maxLen; omega) rfl, (Below.refl _ _).alloc (Nat.le_refl _) _⟩
  case round =>
    obtain ⟨k, acc, r, hk, hg, rfl, rfl, hown, hb⟩ := hrel
    have hsz := hb.size
    have HG := Lib.hid hg
    have hr := (gst_len hg).2.1
    rw [← size_len, ← size_len] at hr
    clear hg
    by_cases hlt2 : (k : Int) < m
    · go_wp2_with fail
      refine (rget r _ (by omega)).mono ?_
      rintro e w1 ⟨rfl, n1, rfl⟩
      by_cases hok : gk r.data.toList ≤ r.data.toList.length
      · have HK := Lib.hid (gst_ok HG.out hok)
        have HR := Lib.hid (g_ok hok)
        rw [HR.out.1, HR.out.2.1, HR.out.2.2]
        generalize gn r.data.toList (gk r.data.toList) = num at *
        generalize r.data.toList.drop (gk r.data.toList) = rest at *
        clear hok
        have hown1 := owns_below hown (below_drewN (Below.refl _ wr) n1)
        have hb1 := below_drewN hb n1
        generalize wr.drewN n1 = wx at *
        have hx := hb1.size
        go_wp2_with (at_builtin; refine wpList_append_own _ rfl _ _ 92 rfl w.heap.size 23 i0 (.int .u64 0) 1 8 Tryd.underlying92 hi.out hz0.out hz1.out hz2.out rfl (by decide) _ _ _ rfl (hown1.alloc _) ⟨wx.heap.size, 0, none⟩ 1 1 [.int .u64 (num : Int)] rfl rfl ?c1 ?c2 ?c3 ?c4 ?c5 ?_)
        case c1 =>
          intro j u hj
          match j, hj with
          | 0, hj => simp at hj; subst hj; simp [Addr.add]
        case c2 => intro u hu; simp at hu; subst hu; rfl
        case c3 => unfold maxLen; omega
        case c4 => omega
        case c5 => simp; omega
        intro v' w2 hown' hgrow _
        have hb2 : Below w.heap.size w w2 := by
          refine (hb1.alloc (by omega) _).grown hgrow (by simp; omega) ?_
          intro q hq
          exact (hown1.lt q hq).1
        go_wp2
        go_roundw
        case rel => exact ⟨k + 1, acc ++ [num], ⟨rest.toArray⟩, by omega, by simpa using HK.out, by go_num, rfl, num_step hown', hb2⟩
        case measure => simp [intOf]; omega
      · have HK := Lib.hid (gst_none (gst_no HG.out (by omega)) m.toNat (by omega))
        have HR := Lib.hid (g_no (l := r.data.toList) (by omega))
        rw [HR.out.1, HR.out.2.1, HR.out.2.2]
        clear hok
        go_wp2
        go_ret3
        exact gets_none HK.out (below_drewN hb n1)
    · have HE : Hid (k = m.toNat) := Lib.hid (by omega)
      have hl := Lib.hid (gst_len HG.out).1
      go_wp2
      go_ret3
      refine gets_some (by rw [← HE.out]; exact HG.out) hb ?_ (by rw [hl.out]; exact hown)
      simp

/-- A slice that reads as these numbers. -/
def Reads (w : World) (v : Value) (l : List Nat) : Prop :=
  (l = [] ∧ ∃ a c, v = .slice a 0 c) ∨ ∃ b off c, v = .slice (some ⟨b, off, none⟩) l.length c ∧ ∀ i, i < l.length → w.cell? ⟨b, off + i, none⟩ = some (.int .u64 ((l.getD i 0 : Nat) : Int))
theorem reads_own {w : World} {B : Nat} {v : Value} {l : List Nat} (h : w.ownsRow B 23 1 v l.length (numCells l)) : Reads w v l := by
  have h0 := h
  rcases h.2 with ⟨rfl, hn⟩ | ⟨g, cap, cur, rfl, _⟩
  · exact .inl ⟨List.eq_nil_of_length_eq_zero hn, _, _, rfl⟩
  · refine .inr ⟨g, 0, cap, rfl, fun i hi => ?_⟩
    rw [Nat.zero_add, h0.cellAt i (by omega)]
    simp [numCells, List.getElem?_eq_getElem hi, List.getD]
theorem reads_drewN {w : World} {v : Value} {l : List Nat} (h : Reads w v l) (m : Nat) : Reads (w.drewN m) v l := by
  rcases h with h | ⟨b, off, c, rfl, h⟩
  · exact .inl h
  · exact .inr ⟨b, off, c, rfl, fun i hi => by simpa using h i hi⟩

end Go.Proofs.YtfeecfdbncjmnaaDoor.Vm
