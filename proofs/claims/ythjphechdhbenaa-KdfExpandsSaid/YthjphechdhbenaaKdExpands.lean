/- The law KdfExpands, walked. By tools/gen-kdf-laws.py. -/
import Derived.Test.YthjphechdhbenaaKdV
import Derived.Test.YthjphechdhbenaaKdBegins
namespace Go.Proofs.Ythjphechdhbenaa.Kd
set_option maxRecDepth 20000
open Go.RowKit
open Go.Proofs.Ythjphechdhbenaa.Dg
set_option linter.unusedVariables false
set_option linter.unusedSimpArgs false

set_option maxHeartbeats 8000000 in
theorem expands_law (k info label ctx : List UInt8) (n : Int) (w : World) :
    Calls Try.prog 5 #[.string ⟨k.toArray⟩, .string ⟨info.toArray⟩, .string ⟨label.toArray⟩, .string ⟨ctx.toArray⟩, .int .i64 n] w fun e w' => e = .returned (.bool true) ∧ Below w.heap.size w w' := by
  obtain ⟨kS, hkS⟩ : ∃ s : ByteArray, ⟨k.toArray⟩ = s := ⟨_, rfl⟩
  have zk : kS.size = k.length := by rw [← hkS]; rfl
  obtain ⟨infoS, hinfoS⟩ : ∃ s : ByteArray, ⟨info.toArray⟩ = s := ⟨_, rfl⟩
  have zinfo : infoS.size = info.length := by rw [← hinfoS]; rfl
  obtain ⟨labelS, hlabelS⟩ : ∃ s : ByteArray, ⟨label.toArray⟩ = s := ⟨_, rfl⟩
  have zlabel : labelS.size = label.length := by rw [← hlabelS]; rfl
  obtain ⟨ctxS, hctxS⟩ : ∃ s : ByteArray, ⟨ctx.toArray⟩ = s := ⟨_, rfl⟩
  have zctx : ctxS.size = ctx.length := by rw [← hctxS]; rfl
  rw [hkS, hinfoS, hlabelS, hctxS]
  by_cases hc0 : k.length ≤ 100
  · have hi0 : (k.length : Int) ≤ 100 := by omega
    by_cases hc1 : info.length ≤ 100
    · have hi1 : (info.length : Int) ≤ 100 := by omega
      by_cases hc2 : label.length ≤ 260
      · have hi2 : (label.length : Int) ≤ 260 := by omega
        by_cases hc3 : ctx.length ≤ 260
        · have hi3 : (ctx.length : Int) ≤ 260 := by omega
          by_cases hc4 : ¬ (200 < n ∧ n ≤ 8160)
          · have hi4 : True := trivial
            have C1 := Lib.hid (fun W => expand_any k info n W (by omega) (by omega))
            have C2 := Lib.hid (fun W => expand_ref k info n W (by omega) (by omega))
            have C3 := Lib.hid (fun W => label_any k label ctx n W (by omega) (by omega) (by omega))
            have C4 := Lib.hid (fun W => label_ref k label ctx n W (by omega) (by omega) (by omega))
            obtain ⟨S, E, hE⟩ : ∃ (S : ByteArray) (E : Int), exP k info n = .returned (.tuple #[.string S, .int .i64 E]) := by
              unfold exP
              split
              · exact ⟨_, _, rfl⟩
              · exact ⟨_, _, rfl⟩
            obtain ⟨T, F, hF⟩ : ∃ (T : ByteArray) (F : Int), lbP k label ctx n = .returned (.tuple #[.string T, .int .i64 F]) := by
              unfold lbP
              split
              · exact ⟨_, _, rfl⟩
              · exact ⟨_, _, rfl⟩
            rw [hE, hkS, hinfoS] at C1 C2
            rw [hF, hkS, hlabelS, hctxS] at C3 C4
            clear hE hF hkS hinfoS hlabelS hctxS hc0 hc1 hc2 hc3
            by_cases hn : 200 < n
            · have h8 : ¬ n ≤ 8160 := by omega
              go_enter Try.func5, Try.ntmps5
              go_wp2_with fail
              with_reducible refine (shown8 _).mono ?_
              rintro e w1 ⟨rfl, hb⟩
              have HB1 := Lib.hid hb
              clear hb
              go_wp2_with fail
              with_reducible refine (C1.out _).mono ?_
              rintro e w2 ⟨rfl, hb⟩
              have HB2 := Lib.hid (HB1.out.trans (hb.mono HB1.out.size))
              clear hb
              go_wp2_with fail
              with_reducible refine (C2.out _).mono ?_
              rintro e w3 ⟨rfl, hb⟩
              have HB3 := Lib.hid (HB2.out.trans (hb.mono HB2.out.size))
              clear hb
              go_wp2_with fail
              with_reducible refine (C3.out _).mono ?_
              rintro e w4 ⟨rfl, hb⟩
              have HB4 := Lib.hid (HB3.out.trans (hb.mono HB3.out.size))
              clear hb
              go_wp2_with fail
              with_reducible refine (C4.out _).mono ?_
              rintro e w5 ⟨rfl, hb⟩
              have HB5 := Lib.hid (HB4.out.trans (hb.mono HB4.out.size))
              clear hb
              go_wp2
              go_ret
              exact ⟨rfl, HB5.out⟩
            · skip
              go_enter Try.func5, Try.ntmps5
              go_wp2_with fail
              with_reducible refine (shown8 _).mono ?_
              rintro e w1 ⟨rfl, hb⟩
              have HB1 := Lib.hid hb
              clear hb
              go_wp2_with fail
              with_reducible refine (C1.out _).mono ?_
              rintro e w2 ⟨rfl, hb⟩
              have HB2 := Lib.hid (HB1.out.trans (hb.mono HB1.out.size))
              clear hb
              go_wp2_with fail
              with_reducible refine (C2.out _).mono ?_
              rintro e w3 ⟨rfl, hb⟩
              have HB3 := Lib.hid (HB2.out.trans (hb.mono HB2.out.size))
              clear hb
              go_wp2_with fail
              with_reducible refine (C3.out _).mono ?_
              rintro e w4 ⟨rfl, hb⟩
              have HB4 := Lib.hid (HB3.out.trans (hb.mono HB3.out.size))
              clear hb
              go_wp2_with fail
              with_reducible refine (C4.out _).mono ?_
              rintro e w5 ⟨rfl, hb⟩
              have HB5 := Lib.hid (HB4.out.trans (hb.mono HB4.out.size))
              clear hb
              go_wp2
              go_ret
              exact ⟨rfl, HB5.out⟩
          · obtain ⟨hi4, hi5⟩ : 200 < n ∧ n ≤ 8160 := by omega
            go_enter Try.func5, Try.ntmps5
            go_wp2_with fail
            with_reducible refine (shown8 _).mono ?_
            rintro e w1 ⟨rfl, hb⟩
            have HB1 := Lib.hid hb
            clear hb
            go_wp2
            go_ret
            exact ⟨rfl, HB1.out⟩
        · have hi3 : ¬ (ctx.length : Int) ≤ 260 := by omega
          go_enter Try.func5, Try.ntmps5
          go_wp2_with fail
          with_reducible refine (shown8 _).mono ?_
          rintro e w1 ⟨rfl, hb⟩
          have HB1 := Lib.hid hb
          clear hb
          go_wp2
          go_ret
          exact ⟨rfl, HB1.out⟩
      · have hi2 : ¬ (label.length : Int) ≤ 260 := by omega
        go_enter Try.func5, Try.ntmps5
        go_wp2_with fail
        with_reducible refine (shown8 _).mono ?_
        rintro e w1 ⟨rfl, hb⟩
        have HB1 := Lib.hid hb
        clear hb
        go_wp2
        go_ret
        exact ⟨rfl, HB1.out⟩
    · have hi1 : ¬ (info.length : Int) ≤ 100 := by omega
      go_enter Try.func5, Try.ntmps5
      go_wp2_with fail
      with_reducible refine (shown8 _).mono ?_
      rintro e w1 ⟨rfl, hb⟩
      have HB1 := Lib.hid hb
      clear hb
      go_wp2
      go_ret
      exact ⟨rfl, HB1.out⟩
  · have hi0 : ¬ (k.length : Int) ≤ 100 := by omega
    go_enter Try.func5, Try.ntmps5
    go_wp2_with fail
    with_reducible refine (shown8 _).mono ?_
    rintro e w1 ⟨rfl, hb⟩
    have HB1 := Lib.hid hb
    clear hb
    go_wp2
    go_ret
    exact ⟨rfl, HB1.out⟩
theorem law_expands (k info label ctx : ByteArray) (n : Int) (w : World) (w0 : k.size ≤ maxLen) (w1 : info.size ≤ maxLen) (w2 : label.size ≤ maxLen) (w3 : ctx.size ≤ maxLen) (w4 : (Lit.int .i64 n).wf = true) :
    Calls Try.prog 5 #[.string k, .string info, .string label, .string ctx, .int .i64 n] w fun e w' => e = .returned (.bool true) ∧ Below w.heap.size w w' :=
  expands_law k.data.toList info.data.toList label.data.toList ctx.data.toList n w
end Go.Proofs.Ythjphechdhbenaa.Kd
