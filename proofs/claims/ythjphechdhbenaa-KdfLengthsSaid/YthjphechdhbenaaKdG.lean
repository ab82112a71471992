/- The walks of layer 8: Shared. By tools/gen-kdf-5.py. -/
import Derived.Test.YthjphechdhbenaaKdF
import Derived.Deep.RegionHeld3
namespace Go.Proofs.Ythjphechdhbenaa.Kd
set_option maxRecDepth 20000
open Go.RowKit
open Go.Proofs.Ythjphechdhbenaa.Dg
open Go.Proofs.Ythjphechdhbenaa.Vm (fx fx_length vfixed)
set_option linter.unusedVariables false
set_option linter.unusedSimpArgs false

/-- The secret of what both had ahead. -/
def shs (psk : List UInt8) : List UInt8 := mac [100, 111, 109, 105, 110, 111] psk
def shc (psk client server : List UInt8) : List UInt8 := lab (ko (shs psk)) (ki (shs psk)) [99, 108, 105, 101, 110, 116] (sha (client ++ server)) 32
def shv (psk client server : List UInt8) : List UInt8 := lab (ko (shs psk)) (ki (shs psk)) [115, 101, 114, 118, 101, 114] (sha (client ++ server)) 32
theorem sum_two_at (x y l : List UInt8) (hl : x ++ y = l) (hn : l.length ≤ 100000) (W : World) (g : Nat) (hg : g = W.heap.size) :
    Calls Try.prog 12 #[.slice (some ⟨g, 0, none⟩) 2 2] (W.alloc (.cells #[.string ⟨x.toArray⟩, .string ⟨y.toArray⟩] 9)) fun e w' => e = .returned (.string ⟨(sha l).toArray⟩) ∧ Below W.heap.size W w' := by
  subst hg
  exact sum_two ⟨x.toArray⟩ ⟨y.toArray⟩ l hl hn W
set_option maxHeartbeats 4000000 in
theorem shared_any (psk client server : List UInt8) (w : World) (h1 : psk.length ≤ 10000) (h2 : client.length ≤ 10000) (h3 : server.length ≤ 10000) :
    Calls Try.prog 25 #[.string ⟨psk.toArray⟩, .string ⟨client.toArray⟩, .string ⟨server.toArray⟩] w fun e w' => e = .returned (.tuple #[.string ⟨(shc psk client server).toArray⟩, .string ⟨(shv psk client server).toArray⟩]) ∧ Below w.heap.size w w' := by
  have hsl : (shs psk).length = 32 := mac_len _ _
  have hcl : (sha (client ++ server)).length = 32 := sha_len _
  have CE : Hid (∀ W : World, Calls Try.prog 19 #[.string ⟨#[100, 111, 109, 105, 110, 111]⟩, .string ⟨psk.toArray⟩] W fun e w' => e = .returned (.string ⟨(shs psk).toArray⟩) ∧ Below W.heap.size W w') := Lib.hid (fun W => extract_any [100, 111, 109, 105, 110, 111] psk W (by decide) (by omega))
  have CO := Lib.hid (fun W => secretOf_any (shs psk) W (by omega))
  have CS := Lib.hid (fun W g hg => sum_two_at client server (client ++ server) rfl (by rw [List.length_append]; omega) W g hg)
  have L1 : Hid (∀ W : World, Calls Try.prog 49 #[.agg #[.string ⟨(ko (shs psk)).toArray⟩, .string ⟨(ki (shs psk)).toArray⟩], .string ⟨#[99, 108, 105, 101, 110, 116]⟩, .string ⟨(sha (client ++ server)).toArray⟩, .int .i64 32] W fun e w' => e = .returned (.string ⟨(shc psk client server).toArray⟩) ∧ Below W.heap.size W w') := Lib.hid (fun W => labelled_key (shs psk) [99, 108, 105, 101, 110, 116] (sha (client ++ server)) 32 W (by decide) (by omega) (by decide))
  have L2 : Hid (∀ W : World, Calls Try.prog 49 #[.agg #[.string ⟨(ko (shs psk)).toArray⟩, .string ⟨(ki (shs psk)).toArray⟩], .string ⟨#[115, 101, 114, 118, 101, 114]⟩, .string ⟨(sha (client ++ server)).toArray⟩, .int .i64 32] W fun e w' => e = .returned (.string ⟨(shv psk client server).toArray⟩) ∧ Below W.heap.size W w') := Lib.hid (fun W => labelled_key (shs psk) [115, 101, 114, 118, 101, 114] (sha (client ++ server)) 32 W (by decide) (by omega) (by decide))
  generalize shc psk client server = R1 at *
  generalize shv psk client server = R2 at *
  generalize ko (shs psk) = KO at *
  generalize ki (shs psk) = KI at *
  generalize shs psk = SS at *
  generalize sha (client ++ server) = CX at *
  clear hsl hcl
  go_enter Try.func25, Try.ntmps25
  go_wp2_with fail
  with_reducible refine (CE.out _).mono ?_
  rintro e w1 ⟨rfl, hb⟩
  have HB1 := Lib.hid hb
  clear hb
  go_wp2_with fail
  with_reducible refine (CO.out _).mono ?_
  rintro e w2 ⟨rfl, hb⟩
  have HB2 := Lib.hid (HB1.out.trans (hb.mono HB1.out.size))
  have hs2 := HB2.out.size
  have HT2 : Hid ((w2.alloc (.cells #[.string ⟨KO.toArray⟩, .string ⟨KI.toArray⟩] 67)).cell? ⟨w2.heap.size, 0, none⟩ = some (.string ⟨KO.toArray⟩) ∧ (w2.alloc (.cells #[.string ⟨KO.toArray⟩, .string ⟨KI.toArray⟩] 67)).cell? ⟨w2.heap.size, 1, none⟩ = some (.string ⟨KI.toArray⟩)) := Lib.hid (by constructor <;> simp [go_sem])
  have HBX := Lib.hid (HB2.out.alloc (B := w.heap.size) hs2 (.cells #[.string ⟨KO.toArray⟩, .string ⟨KI.toArray⟩] 67))
  clear hb
  go_wp2_with fail
  with_reducible refine (CS.out (w2.alloc (.cells #[.string ⟨KO.toArray⟩, .string ⟨KI.toArray⟩] 67)) _ ?_).mono ?_
  · simp
  rintro e w3 ⟨rfl, hb⟩
  have HT3 := Lib.hid (two_call HT2.out hb)
  have HB3 := Lib.hid (HBX.out.trans (hb.mono HBX.out.size))
  clear hb HT2 HBX
  generalize w2.heap.size = b at *
  go_wp2
  refine wp_region_noPanic ?_
  refine wp_region_held_drew (S := fun w' : World => w'.cell? ⟨b, 0, none⟩ = some (.string ⟨KO.toArray⟩) ∧ w'.cell? ⟨b, 1, none⟩ = some (.string ⟨KI.toArray⟩)) (by kernel_rfl) ?_ (fun hHeld => ?_)
  · exact (show w3.cell? _ = _ ∧ w3.cell? _ = _ from HT3.out)
  refine wpAnyH_take (i := 0) (v := ?_) rfl (by kernel_rfl) (by kernel_rfl) (by kernel_rfl) (fun _ _ _ h => h) (Or.inl ⟨by rfl, ?_⟩) (by assumption) ?_
  rotate_left
  · (intro w hSw; (obtain ⟨hS0, hS1⟩ := hSw); go_simp; (try with_reducible rfl))
  try simp only [Act.put, List.getElem_toArray, List.getElem_cons_zero, List.getElem_cons_succ, List.setIfInBounds_toArray, List.set_cons_zero, List.set_cons_succ]
  refine wpAnyH_take (i := 1) (v := ?_) rfl (by kernel_rfl) (by kernel_rfl) (by kernel_rfl) (fun _ _ _ h => h) (Or.inl ⟨by rfl, ?_⟩) (by assumption) ?_
  rotate_left
  · (intro w hSw; (obtain ⟨hS0, hS1⟩ := hSw); go_simp; (try with_reducible rfl))
  try simp only [Act.put, List.getElem_toArray, List.getElem_cons_zero, List.getElem_cons_succ, List.setIfInBounds_toArray, List.set_cons_zero, List.set_cons_succ]
  refine wpAnyH_take (i := 3) (v := ?_) rfl (by kernel_rfl) (by kernel_rfl) (by kernel_rfl) (fun _ _ _ h => h) (Or.inl ⟨by rfl, ?_⟩) (by assumption) ?_
  rotate_left
  · (intro w hSw; (obtain ⟨hS0, hS1⟩ := hSw); go_simp; (try with_reducible rfl))
  try simp only [Act.put, List.getElem_toArray, List.getElem_cons_zero, List.getElem_cons_succ, List.setIfInBounds_toArray, List.set_cons_zero, List.set_cons_succ]
  refine wpAnyH_take (i := 4) (v := ?_) rfl (by kernel_rfl) (by kernel_rfl) (by kernel_rfl) (fun _ _ _ h => h) (Or.inl ⟨by rfl, ?_⟩) (by assumption) ?_
  rotate_left
  · (intro w hSw; (obtain ⟨hS0, hS1⟩ := hSw); go_simp; (try with_reducible rfl))
  try simp only [Act.put, List.getElem_toArray, List.getElem_cons_zero, List.getElem_cons_succ, List.setIfInBounds_toArray, List.set_cons_zero, List.set_cons_succ]
  refine wpAnyH_ready (rs := [2]) (by kernel_rfl) (by simp) ?_
  refine AllReadyH.cons rfl (fun K hK => ?_) AllReadyH.nil
  rw [if_pos (by rfl)]
  go_simp
  with_reducible refine (L1.out _).mono ?_
  rintro e w4 ⟨rfl, hb4⟩
  have HT4 := Lib.hid (two_call (show w3.drew.cell? _ = _ ∧ w3.drew.cell? _ = _ from HT3.out) hb4)
  have HB4 := Lib.hid ((below_drew HB3.out).trans (hb4.mono HB3.out.size))
  clear hb4
  refine hK.out _ _ ?_ (fun hHeld => ?_)
  · exact HT4.out
  clear hK K
  try simp only [Act.put, List.getElem_toArray, List.getElem_cons_zero, List.getElem_cons_succ, List.setIfInBounds_toArray, List.set_cons_zero, List.set_cons_succ]
  refine wpAnyH_ready (rs := [5]) (by kernel_rfl) (by simp) ?_
  refine AllReadyH.cons rfl (fun K hK => ?_) AllReadyH.nil
  rw [if_pos (by rfl)]
  go_simp
  with_reducible refine (L2.out _).mono ?_
  rintro e w5 ⟨rfl, hb5⟩
  have HT5 := Lib.hid (two_call HT4.out hb5)
  have HB5 := Lib.hid (HB4.out.trans (hb5.mono HB4.out.size))
  clear hb5
  refine hK.out _ _ ?_ (fun hHeld => ?_)
  · exact HT5.out
  clear hK K
  try simp only [Act.put, List.getElem_toArray, List.getElem_cons_zero, List.getElem_cons_succ, List.setIfInBounds_toArray, List.set_cons_zero, List.set_cons_succ]
  refine wpAnyH_take (i := 6) (v := ?_) rfl (by kernel_rfl) (by kernel_rfl) (by kernel_rfl) (fun _ _ _ h => h) (Or.inl ⟨by rfl, ?_⟩) (by assumption) ?_
  rotate_left
  · (intro w hSw; (obtain ⟨hS0, hS1⟩ := hSw); go_simp; (try with_reducible rfl))
  try simp only [Act.put, List.getElem_toArray, List.getElem_cons_zero, List.getElem_cons_succ, List.setIfInBounds_toArray, List.set_cons_zero, List.set_cons_succ]
  refine wpAnyH_take (i := 7) (v := ?_) rfl (by kernel_rfl) (by kernel_rfl) (by kernel_rfl) (fun _ _ _ h => h) (Or.inl ⟨by rfl, ?_⟩) (by assumption) ?_
  rotate_left
  · (intro w hSw; (obtain ⟨hS0, hS1⟩ := hSw); go_simp; (try with_reducible rfl))
  try simp only [Act.put, List.getElem_toArray, List.getElem_cons_zero, List.getElem_cons_succ, List.setIfInBounds_toArray, List.set_cons_zero, List.set_cons_succ]
  refine wpAnyH_done (by kernel_rfl) (NoPanic.normal ?_) _
  go_wp2
  go_ret2
  exact ⟨rfl, HB5.out⟩
end Go.Proofs.Ythjphechdhbenaa.Kd
