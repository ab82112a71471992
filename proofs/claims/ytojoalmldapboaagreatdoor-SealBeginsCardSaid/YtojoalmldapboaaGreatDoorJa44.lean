/- The walks of layer 2: Expand of the program. -/
import Derived.Test.YtojoalmldapboaaGreatDoorJa43
namespace Go.Proofs.YtojoalmldapboaaGreatDoor.Pn
set_option maxRecDepth 20000
open Go.RowKit
set_option linter.unusedVariables false
set_option linter.unusedSimpArgs false

theorem cd_range {e x W : Int} (hW : 256 ≤ W) (hW1 : W ≤ 4294967296) (he : 0 ≤ e) (he1 : e ≤ 4611686018427387904) (hx : 0 ≤ x) : 0 ≤ cd e x W ∧ cd e x W ≤ 4611686022722355200 := by
  have m1 := mod_bd (n := e) (W := W) (by omega) he
  have m2 := mod_bd (n := x) (W := W) (by omega) hx
  unfold cd; omega

set_option maxHeartbeats 2000000 in
theorem expand_any (l x k : Int) (any : Bool) (w : World) (hl : 0 ≤ l) (hl1 : l < 4611686018427387904) (hx : 0 ≤ x) (hx1 : x ≤ 18446744073709551615) (h0 : -9223372036854775808 ≤ k) (h1 : k ≤ 9223372036854775807) :
    Calls Tryz.prog 62 #[.int .u64 l, .bool any, .int .u64 x, .int .i64 k] w fun y w' => y = .returned (.int .u64 (ex l any x (wn (cl k)))) ∧ Below w.heap.size w w' := by
  have hc := cl_range k
  have hr := wn_range hc.1 hc.2
  cases any
  · have L0 := Lib.hid (fun w => windowOf_any k w h0 h1)
    have he : (0 : Int) ≤ 0 ∧ (0 : Int) ≤ 4611686018427387904 := by omega
    have hcd := cd_range hr.1 hr.2 he.1 he.2 hx
    have LC := Lib.hid (fun w => candidate_any (cl k) 0 x w hc.1 hc.2 he.1 he.2 hx hx1)
    have LN := Lib.hid (fun w => nearest_any (cl k) 0 (cd 0 x (wn (cl k))) w hc.1 hc.2 he.1 he.2 hcd.1 hcd.2)
    rw [show ex l false x (wn (cl k)) = nr 0 (cd 0 x (wn (cl k))) (wn (cl k)) from rfl]
    go_enter Tryz.func62, Tryz.ntmps62
    go_wp2_with fail
    refine (L0.out _).mono ?_
    rintro y w1 ⟨rfl, hb0⟩
    go_wp2_with fail
    first | go_region_held3 (fun w' => w'.cell? ⟨w1.heap.size, 0, none⟩ = some (.int .i64 (cl k)) ∧ w'.cell? ⟨w1.heap.size, 1, none⟩ = some (.int .u64 0) ∧ Below w1.heap.size w1 w' ∧ w1.heap.size < w'.heap.size)
      (first | (refine box_keep hb ?_; assumption) | (refine box_drew ?_; assumption) | (refine ⟨by simp [go_sem], by simp [go_sem], below_drew ((Below.refl _ _).alloc (Nat.le_refl _) _), by simp⟩) | go_keep)
      (first | (go_at_call 102; (with_reducible refine (LC.out _).mono ?_); rintro y w2 ⟨rfl, hb⟩) | (go_at_call 101; (with_reducible refine (LN.out _).mono ?_); rintro y w2 ⟨rfl, hb⟩)) | fail "region"
    rename_i hH
    obtain ⟨q0, q1, qb, ql⟩ := hH
    go_wp2
    go_ret
    exact ⟨rfl, hb0.trans (qb.mono hb0.size)⟩
  · have L0 := Lib.hid (fun w => windowOf_any k w h0 h1)
    have he : 0 ≤ (l + 1) ∧ (l + 1) ≤ 4611686018427387904 := by omega
    have hcd := cd_range hr.1 hr.2 he.1 he.2 hx
    have LC := Lib.hid (fun w => candidate_any (cl k) (l + 1) x w hc.1 hc.2 he.1 he.2 hx hx1)
    have LN := Lib.hid (fun w => nearest_any (cl k) (l + 1) (cd (l + 1) x (wn (cl k))) w hc.1 hc.2 he.1 he.2 hcd.1 hcd.2)
    rw [show ex l true x (wn (cl k)) = nr (l + 1) (cd (l + 1) x (wn (cl k))) (wn (cl k)) from rfl]
    go_enter Tryz.func62, Tryz.ntmps62
    go_wp2_with fail
    refine (L0.out _).mono ?_
    rintro y w1 ⟨rfl, hb0⟩
    go_wp2_with fail
    first | go_region_held3 (fun w' => w'.cell? ⟨w1.heap.size, 0, none⟩ = some (.int .i64 (cl k)) ∧ w'.cell? ⟨w1.heap.size, 1, none⟩ = some (.int .u64 (l + 1)) ∧ Below w1.heap.size w1 w' ∧ w1.heap.size < w'.heap.size)
      (first | (refine box_keep hb ?_; assumption) | (refine box_drew ?_; assumption) | (refine ⟨by simp [go_sem], by simp [go_sem], below_drew ((Below.refl _ _).alloc (Nat.le_refl _) _), by simp⟩) | go_keep)
      (first | (go_at_call 102; (with_reducible refine (LC.out _).mono ?_); rintro y w2 ⟨rfl, hb⟩) | (go_at_call 101; (with_reducible refine (LN.out _).mono ?_); rintro y w2 ⟨rfl, hb⟩)) | fail "region"
    rename_i hH
    obtain ⟨q0, q1, qb, ql⟩ := hH
    go_wp2
    go_ret
    exact ⟨rfl, hb0.trans (qb.mono hb0.size)⟩
end Go.Proofs.YtojoalmldapboaaGreatDoor.Pn
