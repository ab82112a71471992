/- Layer 6: the law FrameAll, walked. By tools/gen-frame-47.py. -/
import Derived.Test.YtfeecfdbncjmnaaDoorFaH
import Derived.Test.YtfeecfdbncjmnaaDoorFaG
import Derived.Deep.RegionHeld3
import Derived.Deep.CutRange
namespace Go.Proofs.YtfeecfdbncjmnaaDoor.Fm
set_option maxRecDepth 20000
open Go.RowKit Vm
set_option linter.unusedVariables false
set_option linter.unusedSimpArgs false

set_option maxHeartbeats 4000000 in
theorem alls_long (a : Option Addr) (n cap : Nat) (pv : Value) (w : World) (ht : Tab w) (hl : 45 < n) (hm : n ≤ maxLen) :
    Calls Tryd.prog 4 #[.slice a n cap, pv] w fun e w' => e = .returned (.bool true) ∧ Below w.heap.size w w' := by
  have CS := Lib.hid (fun w ht => shown_any w ht)
  have HT := Lib.hid ht
  unfold maxLen at hm
  have hd : (45 : Int) < (n : Int) := by omega
  clear ht hl
  go_enter Tryd.func4, Tryd.ntmps4
  go_wp2_with fail
  refine (CS.out _ HT.out).mono ?_
  rintro e w2 ⟨rfl, hb⟩
  have HB2 := Lib.hid hb
  clear hb
  go_wp2
  go_ret
  exact ⟨rfl, HB2.out⟩
set_option maxRecDepth 100000 in
set_option maxHeartbeats 16000000 in
theorem alls_in (a : Option Addr) (n cap : Nat) (G : List Frm) (Ls : List (List (Nat × Nat))) (pa : Option Addr) (pn pc : Nat) (w : World) (ht : Tab w) (hG : RowF w (.slice a n cap) G) (hGn : G.length = n) (hfit : ∀ i, i < n → Fit w (G.getD i frZ).kind.toNat (G.getD i frZ) (Ls.getD i [])) (hp : PadF w pa pn) (hpm : pn ≤ maxLen) (hl : n ≤ 45) :
    Calls Tryd.prog 4 #[.slice a n cap, .slice pa pn pc] w fun e w' => e = .returned (.bool true) ∧ Below w.heap.size w w' := by
  have CS := Lib.hid (fun w ht => shown_any w ht)
  have HT := Lib.hid ht
  have HN := Lib.hid hl
  have hd : ¬ (45 : Int) < (n : Int) := by omega
  obtain ⟨a', cap', hav, _, hrow⟩ := hG
  injection hav with e1 e2 e3
  subst e1
  have HROW : Hid (∀ i, i < n → ∃ b off, a = some ⟨b, off, none⟩ ∧ b < w.heap.size ∧ ∀ V, Below w.heap.size w V → ∀ j, j < 13 → V.cell? ⟨b, off + i * 13 + j, none⟩ = (fcs (G.getD i frZ))[j]?) := Lib.hid (fun i hi => by
    obtain ⟨b, off, ha, hlt, hc⟩ := hrow (fun h => by rw [h] at hGn; simp at hGn; omega)
    exact ⟨b, off, ha, hlt, fun V hV j hj => by rw [Nat.add_assoc]; exact (hV.cell (p := ⟨b, off + (i * 13 + j), none⟩) hlt).trans (hc i (by omega) j hj)⟩)
  have HFIT := Lib.hid hfit
  have HPAD : Hid (∀ i, i < pn → ∃ b o v, pa = some ⟨b, o, none⟩ ∧ 0 ≤ v ∧ v ≤ 255 ∧ ∀ V, Below w.heap.size w V → V.cell? ⟨b, o + i, none⟩ = some (.int .u8 v)) := Lib.hid (fun i hi => by
    obtain ⟨b, o, v, h1, h2, h3, h4, h5⟩ := hp i hi
    exact ⟨b, o, v, h1, h2, h3, fun V hV => (hV.cell (p := ⟨b, o + i, none⟩) h4).trans h5⟩)
  clear ht hl hrow hfit hp hGn e2 e3 hpm
  go_enter Tryd.func4, Tryd.ntmps4
  go_wp2_with fail
  refine (CS.out _ HT.out).mono ?_
  rintro e w1 ⟨rfl, hb⟩
  have HB1 := Lib.hid hb
  clear hb
  go_wp2_with fail
  go_loopw [5, 6, 7] (fun sv lv iv wr => ∃ (i : Nat) (L : List Seg) (va : Option Addr) (vc : Nat) (Gw : List Frm) (Lw : List (List Ran)), i ≤ n ∧ sv = .string ⟨(segB L).toArray⟩ ∧ lv = .slice va i vc ∧ iv = .int .i64 (i : Nat) ∧ L.length = i ∧ (∀ s ∈ L, SegOk s ∧ s.rs.length ≤ 50) ∧ (segB L).length ≤ i * 2200 ∧ Is Gw Lw (L.map (fun s => (s.f, s.rs))) ∧ AllI 27 w (.slice va i vc) Gw Lw wr) (fun _ _ iv _ => n - (intOf iv).toNat)
  case atStart => exact ⟨0, [], _, _, [], [], Nat.zero_le _, rfl, rfl, rfl, rfl, (fun s hs => by cases hs), Nat.le_refl _, ⟨rfl, rfl⟩, AllI.empty _ w w1 HB1.out⟩
  case round =>
    clear HB1
    obtain ⟨i, L, va, vc, Gw, Lw, hi, rfl, rfl, rfl, hLl, hLok, hSl, hI, hA⟩ := hrel
    have HA := Lib.hid hA
    have HI := Lib.hid hI
    have HLL := Lib.hid hLl
    have HLO := Lib.hid hLok
    have HSL := Lib.hid hSl
    have HBr := Lib.hid hA.bel
    have HTr := Lib.hid (HT.out.below HBr.out HT.out.lt)
    clear hA hI hLl hLok hSl
    have hi0 : (0 : Int) ≤ (i : Int) := by omega
    by_cases hin : (i : Int) < (n : Int)
    · have hin2 : i < n := by omega
      obtain ⟨b, off, ha, hlt, hc⟩ := HROW.out i hin2
      have hfit := HFIT.out i hin2
      obtain ⟨F, hF⟩ : ∃ F, G.getD i frZ = F := ⟨_, rfl⟩
      obtain ⟨rs, hrs⟩ : ∃ rs, Ls.getD i [] = rs := ⟨_, rfl⟩
      rw [hF] at hc hfit
      rw [hrs] at hfit
      have HC := Lib.hid (fun V (hV : Below w.heap.size w V) => fcs_cells (hc V hV))
      have HF := Lib.hid hfit
      rw [ha]
      have CP := Lib.hid (pute_any F rs wr HTr.out (hfit.below HBr.out))
      clear hc hfit hF hrs ha
      obtain ⟨c0, c1, c2, c3, c4, c5, c6, c7, c8, c9, c10, c11, c12⟩ := HC.out wr HBr.out
      go_wp2_with fail
      with_reducible refine CP.out.mono ?_
      rintro e w1 ⟨rfl, hb⟩
      have HB1 := Lib.hid (HBr.out.trans (hb.mono HBr.out.size))
      have HT1 := Lib.hid (HT.out.below HB1.out HT.out.lt)
      have HA1 := Lib.hid (HA.out.go hb)
      clear hb c0 c1 c2 c3 c4 c5 c6 c7 c8 c9 c10 c11 c12
      obtain ⟨c0, c1, c2, c3, c4, c5, c6, c7, c8, c9, c10, c11, c12⟩ := HC.out w1 HB1.out
      go_wp2_with fail
      with_reducible refine (bounded_law F _).mono ?_
      rintro e w2 ⟨rfl, hb⟩
      have HB2 := Lib.hid (HB1.out.trans (hb.mono HB1.out.size))
      have HT2 := Lib.hid (HT.out.below HB2.out HT.out.lt)
      have HA2 := Lib.hid (HA1.out.go hb)
      clear hb c0 c1 c2 c3 c4 c5 c6 c7 c8 c9 c10 c11 c12
      obtain ⟨c0, c1, c2, c3, c4, c5, c6, c7, c8, c9, c10, c11, c12⟩ := HC.out w2 HB2.out
      cases hlb : lbB F with
      | false =>
        go_wp2_with fail
        refine (CS.out _ HT2.out).mono ?_
        rintro e w9 ⟨rfl, hb⟩
        have HB9 := Lib.hid (HB2.out.trans (hb.mono HB2.out.size))
        clear hb
        go_wp2
        go_ret
        exact ⟨rfl, HB9.out⟩
      | true =>
        by_cases hm : mayF F.kind.toNat F (ints rs) = true
        case neg =>
          have hpe : puE F rs = 1 := by unfold puE; rw [if_neg hm]
          rw [hpe]
          go_wp2_with fail
          refine (CS.out _ HT2.out).mono ?_
          rintro e w9 ⟨rfl, hb⟩
          have HB9 := Lib.hid (HB2.out.trans (hb.mono HB2.out.size))
          clear hb
          go_wp2
          go_ret
          exact ⟨rfl, HB9.out⟩
        have hpe : puE F rs = 0 := by unfold puE; rw [if_pos hm]
        have hps : puS F rs = putL F rs := by unfold puS; rw [if_pos hm]
        rw [hpe, hps]
        by_cases hk0 : F.kind = 0
        · have e0 : (F.kind == 0) = true := by rw [hk0]; rfl
          have e0' : decide (F.kind = 0) = true := decide_eq_true hk0
          go_wp2_with fail
          refine (CS.out _ HT2.out).mono ?_
          rintro e w9 ⟨rfl, hb⟩
          have HB9 := Lib.hid (HB2.out.trans (hb.mono HB2.out.size))
          clear hb
          go_wp2
          go_ret
          exact ⟨rfl, HB9.out⟩
        · have e0 : (F.kind == 0) = false := beq_eq_false_iff_ne.2 hk0
          have e0' : decide (F.kind = 0) = false := decide_eq_false hk0
          have hb3 := lbB_yes hlb
          have hnn := HF.out.n
          have hplen := fa_putL_len F rs HF.out.pos (by omega) (by omega) (by omega) (by omega)
          have HPL := Lib.hid hplen
          have HOK : Hid (SegOk ⟨0, F, rs⟩) := Lib.hid ⟨HF.out.kind, hnn, HF.out.pos, by show F.data.length ≤ _; omega, hm, hk0⟩
          have HR5 : Hid (rs.length ≤ 50) := Lib.hid (by omega)
          have HSUM : Hid ((segB L).length + (putL F rs).length + 40 ≤ 200000) := Lib.hid (by have := HSL.out; have := HN.out; omega)
          have HAP : ∀ (V : World), AllI 27 w (.slice va i vc) Gw Lw V → ∃ va' vc' V', (Builtin.append_ #[37, 37] 37 #[.slice va i vc, .slice (some ⟨V.heap.size, 0, none⟩) 1 1]).run Tryd.prog (V.alloc (.cells #[.int .u64 F.kind, .int .u64 F.id, .int .u64 F.off, .int .u64 F.max, .int .u64 F.code, .int .u64 F.seq, .int .u64 F.prior, .int .u64 F.delay, .bool F.fin, .string ⟨F.data.toArray⟩, .string ⟨F.cid.toArray⟩, .string ⟨F.token.toArray⟩, .slice F.set.a F.set.n F.set.c] 27)) = .ok (.slice va' (i + 1) vc') V' ∧ AllI 27 w (.slice va' (i + 1) vc') (Gw ++ [F]) (Lw ++ [ints rs]) V' := fun V hV => by
            have hgl : Gw.length = i := by rw [HI.out.len, List.length_map]; exact HLL.out
            have h := hV.push tyP (by rw [hgl]; have := HN.out; omega) F (ints rs) ((HF.out.below hV.bel).rd) (fun hne x hx e => by
              have h1 := rd_lt HF.out.rd hne x hx
              have h2 := (World.ownsRow.lt hV.own x.block e).1
              omega) 37
            rw [hgl] at h
            exact h
          have HIS : Hid (∀ z, Is (Gw ++ [F]) (Lw ++ [ints rs]) ((L ++ [(⟨z, F, rs⟩ : Seg)]).map (fun (s : Seg) => (s.f, s.rs)))) := Lib.hid (fun z => by rw [List.map_append]; exact HI.out.push F rs F.set)
          have HAPH := Lib.hid HAP
          clear hb3 hnn hplen hlb hm hpe hps hk0 HAP
          by_cases hip : (i : Int) < (pn : Int)
          · obtain ⟨pb, po, pv, hpa, hv0, hv1, hpc⟩ := HPAD.out i (by omega)
            rw [hpa]
            have p0 := hpc w2 HB2.out
            obtain ⟨z, hz⟩ : ∃ z : Nat, pv.tmod 20 = (z : Int) := ⟨(pv.tmod 20).toNat, by have := Int.tmod_nonneg 20 hv0; omega⟩
            have hz20 : z < 20 := by have := Int.tmod_lt_of_pos pv (show (0 : Int) < 20 by decide); omega
            have HZ := Lib.hid hz20
            obtain ⟨wz, hmk, hcv, hbz⟩ : ∃ wz, (Instr.makeSlice 48 (.int .i64 (z : Nat)) (.int .i64 (z : Nat))).run Tryd.prog w2 = .ok (.slice (some ⟨w2.heap.size, 0, none⟩) z z) wz ∧ (convert 48 9 (.slice (some ⟨w2.heap.size, 0, none⟩) z z)).run Tryd.prog wz = .ok (.string ⟨(zer z).toArray⟩) wz ∧ Below w2.heap.size w2 wz :=
              ⟨_, fa_made_run z (by omega) w2, fa_conv_at (w2.alloc (.cells (madeCells #[.int .u8 0] z) 5)) z w2.heap.size (World.alloc_heap_new w2 _), (Below.refl _ _).alloc (Nat.le_refl _) _⟩
            have HMK := Lib.hid hmk
            have HCV := Lib.hid hcv
            have HBZ := Lib.hid (HB2.out.trans (hbz.mono HB2.out.size))
            have HAZ := Lib.hid (HA2.out.go hbz)
            obtain ⟨va2, vc2, w3, HR, HP⟩ := HAPH.out wz HAZ.out
            have HRU := Lib.hid HR
            have HPU := Lib.hid HP
            have hcat : (⟨(segB L).toArray⟩ : ByteArray) ++ ⟨(zer z).toArray⟩ = ⟨(segB L ++ zer z).toArray⟩ := by apply ByteArray.ext; simp
            have hcat2 : (⟨(segB L ++ zer z).toArray⟩ : ByteArray) ++ ⟨(putL F rs).toArray⟩ = ⟨(segB L ++ (zer z ++ putL F rs)).toArray⟩ := by apply ByteArray.ext; simp
            have hzl := zer_len z
            have hpi : ¬ 9223372036854775807 < (segB L).length + (zer z).length := by rw [hzl]; have := HSUM.out; omega
            have hpi1 : ¬ 9223372036854775807 < (segB L).length + z := by have := HSUM.out; omega
            have hpi2 : ¬ 9223372036854775807 < (segB L ++ zer z).length + (putL F rs).length := by rw [List.length_append, hzl]; have := HSUM.out; omega
            have hpi3 : ¬ 9223372036854775807 < (segB L).length + z + (putL F rs).length := by have := HSUM.out; omega
            clear HR HP hmk hcv hbz hpi hzl
            have hzm : (z : Int) < 9223372036854775807 := by omega
            have HPA := Lib.hid hpa
            clear hpc hpa
            have hwp : IntKind.i64.wrap pv = pv := by rw [IntKind.wrap_i64]; omega
            have hwz : IntKind.i64.wrap (z : Int) = (z : Int) := by rw [IntKind.wrap_i64]; omega
            have hmod : Int.emod pv 20 = (z : Int) := by rw [← hz, Int.tmod_eq_emod_of_nonneg hv0]; rfl
            have hz0 : (0 : Int) ≤ (z : Int) := by omega
            clear hz20
            go_upto_region 12 with (fail)
            clear c0 c1 c2 c3 c4 c5 c6 c7 c8 c9 c10 c11 c12
            go_wp2_with fail
            rw [HMK.out]
            go_wp2_with fail
            rw [HCV.out]
            have hzl := zer_len z
            obtain ⟨c0, c1, c2, c3, c4, c5, c6, c7, c8, c9, c10, c11, c12⟩ := HC.out wz HBZ.out
            go_wp2_with (at_builtin; refine Lib.wpList_append_run _ rfl _ _ _ _ rfl _ _ rfl rfl _ _ HRU.out ?_)
            rw [← HPA.out]
            go_roundw
            case rel => exact ⟨i + 1, L ++ [⟨z, F, rs⟩], va2, vc2, _, _, by omega, by rw [segB_app, segB_one], rfl, by go_num, by rw [List.length_append, HLL.out]; rfl, fun s hs => by
              rcases List.mem_append.1 hs with hs | hs
              · exact HLO.out s hs
              · rw [List.mem_singleton.1 hs]; exact ⟨⟨HOK.out.kind, HOK.out.n, HOK.out.pos, HOK.out.data, HOK.out.may, HOK.out.k0⟩, HR5.out⟩, by rw [segB_app, segB_one, List.length_append, List.length_append]; have := HSL.out; have := HPL.out; have := HZ.out; simp [zer]; omega, HIS.out z, HPU.out⟩
            case measure => simp [intOf]; omega
          · obtain ⟨va2, vc2, w3, HR, HP⟩ := HAPH.out w2 HA2.out
            have HRU := Lib.hid HR
            have HPU := Lib.hid HP
            have hcat : (⟨(segB L).toArray⟩ : ByteArray) ++ ⟨(putL F rs).toArray⟩ = ⟨(segB L ++ putL F rs).toArray⟩ := by apply ByteArray.ext; simp
            have hpi : ¬ 9223372036854775807 < (segB L).length + (putL F rs).length := by have := HSUM.out; omega
            clear HR HP
            go_wp2_with (at_builtin; refine Lib.wpList_append_run _ rfl _ _ _ _ rfl _ _ rfl rfl _ _ HRU.out ?_)
            go_roundw
            case rel => exact ⟨i + 1, L ++ [⟨0, F, rs⟩], va2, vc2, _, _, by omega, by rw [segB_app, segB_one]; rfl, rfl, by go_num, by rw [List.length_append, HLL.out]; rfl, fun s hs => by
              rcases List.mem_append.1 hs with hs | hs
              · exact HLO.out s hs
              · rw [List.mem_singleton.1 hs]; exact ⟨HOK.out, HR5.out⟩, by rw [segB_app, segB_one, List.length_append, List.length_append]; have := HSL.out; have := HPL.out; simp [zer]; omega, HIS.out 0, HPU.out⟩
            case measure => simp [intOf]; omega
    · obtain rfl : i = n := by omega
      have hok : ∀ s ∈ L, SegOk s := fun s hs => (HLO.out s hs).1
      have hr5 : ∀ s ∈ L, s.rs.length ≤ 50 := fun s hs => (HLO.out s hs).2
      have hsl : (segB L).length ≤ 100000 := by have := HSL.out; have := HN.out; omega
      have CA := Lib.hid (pall_any (segB L) wr HTr.out hsl)
      by_cases hz : i = 0
      · subst hz
        have hL : L = [] := List.eq_nil_of_length_eq_zero HLL.out
        rw [show allN (segB L).length (segB L) [] = none by rw [hL]; rfl] at CA
        have hse : (segB L).isEmpty = true := by rw [hL]; rfl
        clear hL hok hr5 hsl
        go_wp2_with fail
        refine CA.out.mono ?_
        rintro e w5 ⟨hb, rfl⟩
        have HB5 := Lib.hid (HBr.out.trans (hb.mono HBr.out.size))
        clear hb
        go_wp2_with fail
        go_ret
        exact ⟨rfl, HB5.out⟩
      have hLne : L ≠ [] := fun e => hz (by rw [← HLL.out, e]; rfl)
      have hall := allN_segs L (segB L).length [] hLne hok (Nat.le_refl _) (by decide)
      rw [List.length_nil, Nat.zero_add, HLL.out, List.nil_append] at hall
      rw [hall] at CA
      have hzi : ¬ (i : Int) = 0 := by omega
      have hse : (segB L).isEmpty = false := by
        rw [List.isEmpty_eq_false_iff]
        obtain ⟨s, t, e⟩ : ∃ s t, L = s :: t := by
          cases L with
          | nil => exact absurd rfl hLne
          | cons s t => exact ⟨s, t, rfl⟩
        rw [e]
        intro e2
        have h1 : (segB (s :: t)).length = s.z + ((putL s.f s.rs).length + (segB t).length) := by simp [segB, zer]
        rw [e2, List.length_nil] at h1
        have h2 := List.length_pos_iff.2 (segP_ne s (hok s (by rw [e]; simp)) (segB t))
        rw [List.length_append] at h2
        omega
      by_cases h40 : 40 < i
      · rw [if_pos h40] at CA
        have h40i : (40 : Int) < (i : Int) := by omega
        clear hall hok hr5 hsl hLne
        go_wp2_with fail
        refine CA.out.mono ?_
        rintro e w5 ⟨hb, rfl⟩
        have HB5 := Lib.hid (HBr.out.trans (hb.mono HBr.out.size))
        clear hb
        go_wp2_with fail
        go_ret
        exact ⟨rfl, HB5.out⟩
      · rw [if_neg h40] at CA
        have h40i : ¬ (40 : Int) < (i : Int) := by omega
        have hd40 : decide ((40 : Int) < (i : Int)) = false := decide_eq_false h40i
        have hd40n : decide (40 < i) = false := decide_eq_false h40
        have hdz : decide ((i : Int) = 0) = false := decide_eq_false hzi
        have hdzn : decide (i = 0) = false := decide_eq_false hz
        have hbz : ((i : Int) == 0) = false := beq_eq_false_iff_ne.2 hzi
        have HLSL : Hid (∀ j, (Lw.getD j []).length ≤ 1000) := Lib.hid (fun j => by
          rw [HI.out.l, List.map_map]
          by_cases hj : j < L.length
          · have e : (L.map ((fun p : Frm × List (Nat × Nat) => ints p.2) ∘ fun s : Seg => (s.f, s.rs))).getD j [] = ints (L[j]).rs := by simp [List.getD, hj]
            rw [e, ints_len]
            have := hr5 _ (List.getElem_mem hj)
            omega
          · simp [List.getD, hj])
        have HGN : Hid (Gw.length ≤ 1000) := Lib.hid (by rw [HI.out.len, List.length_map, HLL.out]; have := HN.out; omega)
        clear hall hok hr5 hsl hLne hse
        go_wp2_with fail
        refine CA.out.mono ?_
        rintro e w5 ⟨hb, v1, G1, Ls1, hA1, hI1, rfl⟩
        have hLs : Ls1 = Lw := by
          rw [hI1.l, HI.out.l, List.map_map, List.map_map]
          rfl
        subst hLs
        have hGm : G1.map bl = Gw.map bl := by
          rw [hI1.g, HI.out.g, List.map_map, List.map_map]
          rfl
        have HGM := Lib.hid hGm
        have HB5 := Lib.hid (HBr.out.trans (hb.mono HBr.out.size))
        have CL1 := Lib.hid (all_v v1 G1 Ls1 _ w5 hA1 HLSL.out (by have := congrArg List.length hGm; rw [List.length_map, List.length_map] at this; rw [this]; exact HGN.out))
        have HA5 := Lib.hid (HA.out.go hb)
        clear hb hA1 hI1 hGm
        go_wp2_with fail
        refine CL1.out.mono ?_
        rintro e w6 ⟨v3, G3, rfl, hA3, hm3⟩
        have HB6 := Lib.hid (HB5.out.trans (hA3.bel.mono HB5.out.size))
        have CL2 := Lib.hid (all_v _ Gw Ls1 _ w6 (HA5.out.go hA3.bel) HLSL.out HGN.out)
        have HA3 := Lib.hid hA3
        have HM3 := Lib.hid (hm3.trans HGM.out)
        clear hA3 hm3
        go_wp2_with fail
        refine CL2.out.mono ?_
        rintro e w7 ⟨v4, G4, rfl, hA4, hm4⟩
        have HB7 := Lib.hid (HB6.out.trans (hA4.bel.mono HB6.out.size))
        have CQ := Lib.hid (sall_v v3 v4 G3 G4 Ls1 _ _ w7 (HA3.out.go hA4.bel) hA4 (HM3.out.trans hm4.symm) HLSL.out (by have := congrArg List.length HM3.out; rw [List.length_map, List.length_map] at this; rw [this]; exact HGN.out))
        clear hA4 hm4
        go_wp2_with fail
        refine CQ.out.mono ?_
        rintro e w8 ⟨rfl, hb⟩
        have HB8 := Lib.hid (HB7.out.trans (hb.mono HB7.out.size))
        clear hb
        go_wp2
        go_ret
        exact ⟨rfl, HB8.out⟩
theorem law_all (a0 : Option Addr) (n0 c0 : Nat) (G : List Frm) (Ls : List (List (Nat × Nat))) (a1 : Option Addr) (n1 c1 : Nat) (z1 : List Int) (w : World) (ht : Tab w) (hg : G.length = n0) (hl : Ls.length = n0) (hm : n0 ≤ maxLen) (hr : RowF w (.slice a0 n0 c0) G) (hf : ∀ i, i < n0 → Fit w (G.getD i frZ).kind.toNat (G.getD i frZ) (Ls.getD i [])) (hp : IsRow .u8 w a1 n1 c1 z1) :
    Calls Tryd.prog 4 #[.slice a0 n0 c0, .slice a1 n1 c1] w fun e w' => e = .returned (.bool true) ∧ Below w.heap.size w w' := by
  by_cases h : 45 < n0
  · exact alls_long a0 n0 c0 _ w ht h hm
  · refine alls_in a0 n0 c0 G Ls a1 n1 c1 w ht hr hg hf (pad_of hp) ?_ (by omega)
    rcases hp with ⟨_, h0, _⟩ | ⟨_, _, h1, h2, _⟩
    · rw [h0]; exact Nat.zero_le _
    · omega
end Go.Proofs.YtfeecfdbncjmnaaDoor.Fm
