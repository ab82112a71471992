/- Layer 9's plain mathematics of packets: a short header and what is behind it, masked: its place, its sample, and back · The walks of layer 9: Protect in one word; what it makes is unprotected by the same state -/
import Derived.Test.YtojoalmldapboaaGreatDoorJa41
import Derived.Test.YtojoalmldapboaaGreatDoorJa47
namespace Go.Proofs.YtojoalmldapboaaGreatDoor.Hd
set_option maxRecDepth 20000
open Vm
set_option linter.unusedVariables false
set_option linter.unusedSimpArgs false

theorem may_short (ph : Bool) (cid : List UInt8) (wide c : Int) (hc : cid.length = 8) (h1 : 1 ≤ wide) (h2 : wide ≤ 4) (h3 : c < 256 ^ wide.toNat) : mayB false false ph 0 0 cid [] [] 0 wide c = true := by
  unfold mayB keptB bndB numB
  simp [hc, h1, h2, h3]
theorem fx_len (n k : Nat) : (fx n k).length = k := fx_length n k
/-- A packet's header. -/
def hdL (ph : Bool) (cid : List UInt8) (wide c : Int) : List UInt8 := putL false false ph 0 0 cid [] [] 0 wide c
theorem hdL_len (ph : Bool) (cid : List UInt8) (wide c : Int) (hc : cid.length = 8) : (hdL ph cid wide c).length = 9 + wide.toNat := by
  unfold hdL putL
  simp [hc, fx_len]
  omega
theorem pk_all (ph : Bool) (cid SL m : List UInt8) (wide c : Int) (hc : cid.length = 8) (h1 : 1 ≤ wide) (h2 : wide ≤ 4) (h0 : 0 ≤ c) (h3 : c < 256 ^ wide.toNat) (hm : m.length = 5) :
    mskE (hdL ph cid wide c ++ SL) m = 0 ∧ getO (hdL ph cid wide c ++ SL) = some (⟨false, false, ph, 0, 0, cid, [], [], 0, wide, c⟩, SL) ∧
    ∃ f num, mskL (hdL ph cid wide c ++ SL) m = f :: (cid ++ (num ++ SL)) ∧ num.length = wide.toNat ∧ f.toNat / 32 = 2 ∧
      plN (mskL (hdL ph cid wide c ++ SL) m) = 9 ∧ plE (mskL (hdL ph cid wide c ++ SL) m) = 0 ∧
      umE (mskL (hdL ph cid wide c ++ SL) m) m = 0 ∧ umL (mskL (hdL ph cid wide c ++ SL) m) m = hdL ph cid wide c ++ SL := by
  have EM := may_short ph cid wide c hc h1 h2 h3
  have hg : getO (hdL ph cid wide c ++ SL) = some (⟨false, false, ph, 0, 0, cid, [], [], 0, wide, c⟩, SL) := get_put EM (by decide) (by decide) (by decide) h0 SL
  have ha : ahO (hdL ph cid wide c ++ SL) = some (preOf false false 0 0 cid [] [] 0 (fx c.toNat wide.toNat ++ SL)) := ah_put EM (by decide) (by decide) (by decide) SL
  obtain ⟨b, pre, num, p, hP, hx⟩ := parts_of hg
  have hp : p = preOf false false 0 0 cid [] [] 0 (fx c.toNat wide.toNat ++ SL) := by
    have := hP.ah
    rw [ha] at this
    exact (Option.some.inj this).symm
  have hre := hP.re
  rw [hp] at hre
  have hnum : num = fx c.toNat wide.toNat := by
    have h : fx c.toNat wide.toNat ++ SL = num ++ SL := hre
    exact (List.append_cancel_right h).symm
  have heq := hP.eq
  have hput : hdL ph cid wide c ++ SL = by1 (fbN false false ph 0 wide) :: (cid ++ (fx c.toNat wide.toNat ++ SL)) := by
    unfold hdL putL
    simp
  rw [hput, hnum] at heq
  injection heq with hb hpre
  have hpre2 : pre = cid := (List.append_cancel_right hpre).symm
  have hnl : num.length = wide.toNat := by rw [hnum, fx_len]
  obtain ⟨m1, m2⟩ := msk_parts hg hP hx hm
  obtain ⟨u1, u2⟩ := um_parts hg hP hm
  have hmd : (m.drop 1).length = 4 := by rw [List.length_drop]; omega
  have hw4 : wide.toNat ≤ 4 := by omega
  have hxl : (xorL num (m.drop 1)).length = wide.toNat := by rw [xorL_length _ _ (by omega)]; exact hnl
  have hta := turn_ah (m := m) hP (m.headD 0) (xorL num (m.drop 1) ++ SL)
  obtain ⟨s1, s2, s3, -⟩ := fb_short h1 h2 false ph 0
  have hbn : b.toNat = fbN false false ph 0 wide := by rw [← hb]; exact by1_nat (by omega)
  have hf := fst_high b (m.headD 0)
  rw [if_pos (by omega)] at hf
  have hb32 : b.toNat / 32 = 2 := by
    have s3' : ¬ fbN false false ph 0 wide / 32 % 2 = 1 := of_decide_eq_false s3
    rw [hbn]; omega
  refine ⟨m1, hg, fstB b (m.headD 0), xorL num (m.drop 1), ?_, hxl, by rw [hf]; exact hb32, ?_, ?_, ?_, ?_⟩
  · rw [m2, hpre2]
  · rw [m2]
    unfold plN
    rw [hta]
    simp [hpre2, hc, hxl]
    omega
  · rw [m2]
    unfold plE
    rw [hta]
  · rw [m2]; exact u1
  · rw [m2]; exact u2
end Go.Proofs.YtojoalmldapboaaGreatDoor.Hd
namespace Go.Proofs.YtojoalmldapboaaGreatDoor.Se
set_option maxRecDepth 20000
open Go.RowKit Vm Dg Kd
set_option linter.unusedVariables false
set_option linter.unusedSimpArgs false

/-- How many bytes a number is told in; what of it is told. -/
def wdN (num acked : Nat) (any : Bool) : Nat := (Pn.by' (Pn.ds num acked any)).toNat
def cuN (num wide : Nat) : Int := (num : Int) % Pn.wn (Pn.cl wide)
def hdN (ph : Bool) (cid : List UInt8) (num wide : Nat) : List UInt8 := Hd.hdL ph cid wide (cuN num wide)
def allL (ph : Bool) (x : K3) (cid plain : List UInt8) (num wide : Nat) : List UInt8 := hdN ph cid num wide ++ sealL x.k x.v num (hdN ph cid num wide) plain
def smpL (l : List UInt8) : List UInt8 := (l.drop 13).take 16
/-- A packet that is protected. -/
def prL (ph : Bool) (x : K3) (cid plain : List UInt8) (num wide : Nat) : List UInt8 := Hd.mskL (allL ph x cid plain num wide) (maskL x.m (smpL (allL ph x cid plain num wide)))
theorem by_range (d : Int) : Pn.by' d = 1 ∨ Pn.by' d = 2 ∨ Pn.by' d = 3 ∨ Pn.by' d = 4 := by
  unfold Pn.by'; split
  · exact .inl rfl
  · split
    · exact .inr (.inl rfl)
    · split
      · exact .inr (.inr (.inl rfl))
      · exact .inr (.inr (.inr rfl))
theorem wd_range (num acked : Nat) (any : Bool) : 1 ≤ wdN num acked any ∧ wdN num acked any ≤ 4 ∧ ((wdN num acked any : Nat) : Int) = Pn.by' (Pn.ds num acked any) := by
  unfold wdN
  have h := by_range (Pn.ds num acked any)
  omega
theorem cu_range (num wide : Nat) (h1 : 1 ≤ wide) (h4 : wide ≤ 4) : 0 ≤ cuN num wide ∧ cuN num wide < 256 ^ ((wide : Nat) : Int).toNat ∧ cuN num wide ≤ 4294967295 := by
  unfold cuN Pn.wn Pn.cl
  rw [if_neg (by omega), if_neg (by omega)]
  have h : wide = 1 ∨ wide = 2 ∨ wide = 3 ∨ wide = 4 := by omega
  rcases h with rfl | rfl | rfl | rfl <;> simp <;> omega
theorem hdN_len (ph : Bool) (cid : List UInt8) (num wide : Nat) (hc : cid.length = 8) : (hdN ph cid num wide).length = 9 + wide := by
  unfold hdN; rw [Hd.hdL_len _ _ _ _ hc]; simp
theorem allL_len (ph : Bool) (x : K3) (cid plain : List UInt8) (num wide : Nat) (hc : cid.length = 8) : (allL ph x cid plain num wide).length = 9 + wide + plain.length + 16 := by
  unfold allL; rw [List.length_append, hdN_len _ _ _ _ hc, sealL_len]; omega
/-- The packet's own bytes. -/
theorem pr_facts (ph : Bool) (x : K3) (cid plain : List UInt8) (num wide : Nat) (hc : cid.length = 8) (h1 : 1 ≤ wide) (h4 : wide ≤ 4) (hp : 4 ≤ plain.length) :
    Hd.mskE (allL ph x cid plain num wide) (maskL x.m (smpL (allL ph x cid plain num wide))) = 0 ∧
    Hd.getO (allL ph x cid plain num wide) = some (⟨false, false, ph, 0, 0, cid, [], [], 0, wide, cuN num wide⟩, sealL x.k x.v num (hdN ph cid num wide) plain) ∧
    ∃ f nn, prL ph x cid plain num wide = f :: (cid ++ (nn ++ sealL x.k x.v num (hdN ph cid num wide) plain)) ∧ nn.length = wide ∧ f.toNat / 32 = 2 ∧
      Hd.plN (prL ph x cid plain num wide) = 9 ∧ Hd.plE (prL ph x cid plain num wide) = 0 ∧
      Hd.umE (prL ph x cid plain num wide) (maskL x.m (smpL (allL ph x cid plain num wide))) = 0 ∧ Hd.umL (prL ph x cid plain num wide) (maskL x.m (smpL (allL ph x cid plain num wide))) = allL ph x cid plain num wide := by
  obtain ⟨c0, c1, -⟩ := cu_range num wide h1 h4
  have h := Hd.pk_all ph cid (sealL x.k x.v num (hdN ph cid num wide) plain) (maskL x.m (smpL (allL ph x cid plain num wide))) wide (cuN num wide) hc (by omega) (by omega) c0 c1 (maskL_len _ _)
  obtain ⟨a, b, f, nn, e, l, r⟩ := h
  exact ⟨a, b, f, nn, e, by simpa using l, r⟩
theorem pr_len (ph : Bool) (x : K3) (cid plain : List UInt8) (num wide : Nat) (hc : cid.length = 8) (h1 : 1 ≤ wide) (h4 : wide ≤ 4) (hp : 4 ≤ plain.length) : (prL ph x cid plain num wide).length = 9 + wide + plain.length + 16 := by
  obtain ⟨-, -, f, nn, e, l, -⟩ := pr_facts ph x cid plain num wide hc h1 h4 hp
  rw [e]
  simp [l, hc, sealL_len]
  omega
/-- Its sample stays. -/
theorem pr_sample (ph : Bool) (x : K3) (cid plain : List UInt8) (num wide : Nat) (hc : cid.length = 8) (h1 : 1 ≤ wide) (h4 : wide ≤ 4) (hp : 4 ≤ plain.length) : smpL (prL ph x cid plain num wide) = smpL (allL ph x cid plain num wide) := by
  obtain ⟨-, -, f, nn, e, l, -⟩ := pr_facts ph x cid plain num wide hc h1 h4 hp
  have hl := hdN_len ph cid num wide hc
  have e1 : (prL ph x cid plain num wide).drop (9 + wide) = sealL x.k x.v num (hdN ph cid num wide) plain := by
    rw [e, show 9 + wide = (8 + wide) + 1 by omega, List.drop_succ_cons, ← List.append_assoc, List.drop_append_of_le_length (by simp [hc, l]), List.drop_of_length_le (by simp [hc, l]), List.nil_append]
  have e2 : (allL ph x cid plain num wide).drop (9 + wide) = sealL x.k x.v num (hdN ph cid num wide) plain := by
    unfold allL
    rw [List.drop_append_of_le_length (by omega), List.drop_of_length_le (by omega), List.nil_append]
  have e3 : ∀ l : List UInt8, l.drop 13 = (l.drop (9 + wide)).drop (4 - wide) := fun l => by rw [List.drop_drop, show 9 + wide + (4 - wide) = 13 by omega]
  unfold smpL
  rw [e3, e3, e1, e2]
theorem and_128 (n : Nat) (h : n < 128) : bits .and .u8 (n : Int) 128 = 0 := by
  have hall : ∀ m : Fin 128, bits .and .u8 ((m.1 : Nat) : Int) 128 = 0 := by decide
  exact hall ⟨n, h⟩
/-- Protect of what may be. -/
theorem protect_any (s : Sst) (num acked : Nat) (any : Bool) (cid plain : List UInt8) (w : World) (ht : Tab w) (hk : s.n.k.length ≤ 1000) (hv : s.n.v.length ≤ 1000) (hm : s.n.m.length ≤ 1000) (hn : num ≤ 4611686018427387903) (hc : cid.length = 8) (hp : 4 ≤ plain.length) (hp2 : plain.length ≤ 5000) :
    Calls Tryz.prog 27 #[.agg s.arr, .int .u64 num, .int .u64 acked, .bool any, .string ⟨cid.toArray⟩, .string ⟨plain.toArray⟩] w fun e w' => e = .returned (.tuple #[.string ⟨(prL s.phase s.n cid plain num (wdN num acked any)).toArray⟩, .int .i64 0]) ∧ Below w.heap.size w w' := by
  obtain ⟨w1, w4, hw⟩ := wd_range num acked any
  obtain ⟨c0, c1, c2⟩ := cu_range num (wdN num acked any) w1 w4
  have hal := allL_len s.phase s.n cid plain num (wdN num acked any) hc
  obtain ⟨f1, -⟩ := pr_facts s.phase s.n cid plain num (wdN num acked any) hc w1 w4 hp
  have hhl := hdN_len s.phase cid num (wdN num acked any) hc
  have hsl := sealL_len s.n.k s.n.v num (hdN s.phase cid num (wdN num acked any)) plain
  have EM := Hd.may_short s.phase cid (wdN num acked any) (cuN num (wdN num acked any)) hc (by omega) (by omega) c1
  refine protect_walk _ _ _ _ _ _ _ _ _ _ ⟨cid.toArray⟩ ⟨plain.toArray⟩ ⟨(hdN s.phase cid num (wdN num acked any)).toArray⟩ ⟨(sealL s.n.k s.n.v num (hdN s.phase cid num (wdN num acked any)) plain).toArray⟩ _ ⟨(allL s.phase s.n cid plain num (wdN num acked any)).toArray⟩ s.old s.phase any num acked (wdN num acked any) (cuN num (wdN num acked any)) 0 w ht (by omega) (by rw [ba_size]; omega) (by rw [ba_size]; omega) (by rw [ba_size]; omega) (ba_app _ _) w4 (by rw [ba_size]; omega) ?_ ?_ ?_ ?_ ?_
  · exact Lib.hid (fun W => by
      rw [hw]
      exact Pn.bytes_any num acked any W (by omega) (by omega) (by omega))
  · exact Lib.hid (fun W => Pn.cut_any num (wdN num acked any) W (by omega) (by omega) (by omega) (by omega))
  · exact Lib.hid (fun W hW => Hd.Put_yes false false s.phase 0 0 cid [] [] 0 (wdN num acked any) (cuN num (wdN num acked any)) W hW (by decide) (by decide) (by decide) (by decide) (by omega) (by decide) (by decide) (by decide) (by decide) (by omega) (by omega) c0 (by omega) EM)
  · exact Lib.hid (fun W => sealed_any s.n.k s.n.v s.n.m num _ plain W hk hv (by omega) (by omega) (by omega))
  · exact Lib.hid (fun W hW => by
      have hM := fun (W : World) (hW : Tab W) => Hd.Mask_any (allL s.phase s.n cid plain num (wdN num acked any)) (maskL s.n.m (smpL (allL s.phase s.n cid plain num (wdN num acked any)))) W hW (by omega)
      rw [f1] at hM
      exact masked_walk _ _ _ _ _ _ _ _ _ _ _ ⟨(smpL (allL s.phase s.n cid plain num (wdN num acked any))).toArray⟩ ⟨(maskL s.n.m (smpL (allL s.phase s.n cid plain num (wdN num acked any)))).toArray⟩ _ _ _ 9 0 W hW
        (Lib.hid fun W => sample_ok _ 9 W (by decide) (by omega))
        (Lib.hid fun W => mask_any s.n.k s.n.v s.n.m _ W hm (by unfold smpL; rw [List.length_take, List.length_drop]; omega))
        (Lib.hid fun W hW => hM W hW))
theorem first_bit (l : List UInt8) (f : UInt8) (t : List UInt8) (e : l = f :: t) (hf : f.toNat < 128) (h0 : 0 < (⟨l.toArray⟩ : ByteArray).size) : bits .and .u8 (((⟨l.toArray⟩ : ByteArray)[0].toNat : Nat) : Int) 128 = 0 := by
  subst e
  exact and_128 f.toNat hf
/-- What is protected is unprotected by the same state. -/
theorem unprotect_same (s : Sst) (num wide largest : Nat) (any2 : Bool) (cid plain : List UInt8) (w : World) (ht : Tab w) (hk : s.n.k.length ≤ 1000) (hv : s.n.v.length ≤ 1000) (hm : s.n.m.length ≤ 1000) (hn : num ≤ 4611686018427387903) (hl : largest < 4611686018427387904) (hc : cid.length = 8) (w1 : 1 ≤ wide) (w4 : wide ≤ 4) (hp : 4 ≤ plain.length) (hp2 : plain.length ≤ 5000)
    (hE : Pn.ex largest any2 (cuN num wide) (Pn.wn (Pn.cl wide)) = num) :
    Calls Tryz.prog 29 #[.agg s.arr, .int .u64 largest, .bool any2, .string ⟨(prL s.phase s.n cid plain num wide).toArray⟩] w fun e w' => e = .returned (.tuple #[.agg s.arr, .int .u64 num, .string ⟨plain.toArray⟩, .int .i64 0]) ∧ Below w.heap.size w w' := by
  obtain ⟨c0, c1, c2⟩ := cu_range num wide w1 w4
  have hal := allL_len s.phase s.n cid plain num wide hc
  have hpl := pr_len s.phase s.n cid plain num wide hc w1 w4 hp
  have hps := pr_sample s.phase s.n cid plain num wide hc w1 w4 hp
  obtain ⟨f1, f2, f, nn, e, l, f32, p1, p2, u1, u2⟩ := pr_facts s.phase s.n cid plain num wide hc w1 w4 hp
  have hhl := hdN_len s.phase cid num wide hc
  have hsl := sealL_len s.n.k s.n.v num (hdN s.phase cid num wide) plain
  have hop := open_seal s.n.k s.n.v num (hdN s.phase cid num wide) plain
  have hsm : (smpL (allL s.phase s.n cid plain num wide)).length = 16 := by unfold smpL; rw [List.length_take, List.length_drop]; omega
  have htk : (allL s.phase s.n cid plain num wide).take (9 + wide) = hdN s.phase cid num wide := by
    unfold allL; rw [List.take_append_of_le_length (by omega), List.take_of_length_le (by omega)]
  have hhd : Hd.gHd (allL s.phase s.n cid plain num wide) = ⟨false, false, s.phase, 0, 0, cid, [], [], 0, wide, cuN num wide⟩ := by unfold Hd.gHd; rw [f2]
  have hrs : Hd.gRs (allL s.phase s.n cid plain num wide) = sealL s.n.k s.n.v num (hdN s.phase cid num wide) plain := by unfold Hd.gRs; rw [f2]
  have her : Hd.gEr (allL s.phase s.n cid plain num wide) = 0 := by unfold Hd.gEr; rw [f2]
  have hT : (⟨(prL s.phase s.n cid plain num wide).toArray⟩ : ByteArray).size = 9 + wide + plain.length + 16 := by rw [ba_size]; exact hpl
  have hT0 : 0 < (⟨(prL s.phase s.n cid plain num wide).toArray⟩ : ByteArray).size := by omega
  have HTK := ba_take (allL s.phase s.n cid plain num wide) (9 + wide)
  rw [htk] at HTK
  refine unprotect_walk _ _ _ _ _ _ _ _ _ _ ⟨(prL s.phase s.n cid plain num wide).toArray⟩ ⟨(hdN s.phase cid num wide).toArray⟩ ⟨(sealL s.n.k s.n.v num (hdN s.phase cid num wide) plain).toArray⟩ ⟨plain.toArray⟩ s.old s.phase any2 false false 0 0 ⟨cid.toArray⟩ ⟨#[]⟩ ⟨#[]⟩ 0 wide (cuN num wide) largest num w ht ?_ ?_ ?_
  · exact Lib.hid (fun W hW => bare_walk _ _ _ _ _ _ _ _ _ _ ⟨(prL s.phase s.n cid plain num wide).toArray⟩ ⟨(smpL (allL s.phase s.n cid plain num wide)).toArray⟩ ⟨(maskL s.n.m (smpL (allL s.phase s.n cid plain num wide))).toArray⟩ ⟨(allL s.phase s.n cid plain num wide).toArray⟩ _ _ s.old s.phase false false s.phase 0 0 ⟨cid.toArray⟩ ⟨#[]⟩ ⟨#[]⟩ 0 wide (cuN num wide) 9 (9 + wide) W hW hT0 (first_bit _ f _ e (by omega) hT0) (by rw [ba_size, ba_size]; omega) (by rw [ba_size]; omega) HTK
      (Lib.hid fun W hW => by
        have h := Hd.Place_any (prL s.phase s.n cid plain num wide) W hW (by omega)
        rw [p1, p2] at h
        exact h)
      (Lib.hid fun W => by
        have h := sample_ok (prL s.phase s.n cid plain num wide) 9 W (by decide) (by omega)
        have hh : ((prL s.phase s.n cid plain num wide).drop (9 + 4)).take 16 = smpL (allL s.phase s.n cid plain num wide) := hps
        rw [hh] at h
        exact h)
      (Lib.hid fun W => mask_any s.n.k s.n.v s.n.m _ W hm hsm)
      (Lib.hid fun W hW => by
        have h := Hd.Unmask_any (prL s.phase s.n cid plain num wide) (maskL s.n.m (smpL (allL s.phase s.n cid plain num wide))) W hW (by omega)
        rw [u1, u2] at h
        exact h)
      (Lib.hid fun W hW => by
        have h := Hd.Get_any (allL s.phase s.n cid plain num wide) W hW (by omega)
        rw [hhd, hrs, her] at h
        exact h))
  · exact Lib.hid (fun W => by
      have h := Pn.expand_any largest (cuN num wide) wide any2 W (by omega) (by omega) c0 (by omega) (by omega) (by omega)
      rw [hE] at h
      exact h)
  · exact Lib.hid (fun W b hb => tried_yes _ _ _ _ _ _ false false s.phase 0 0 ⟨cid.toArray⟩ ⟨#[]⟩ ⟨#[]⟩ 0 wide (cuN num wide) b num W hb (Lib.hid fun W => by
      have h := opened_any s.n.k s.n.v s.n.m num (hdN s.phase cid num wide) (sealL s.n.k s.n.v num (hdN s.phase cid num wide) plain) W hk hv (by omega) (by omega) (by omega)
      rw [hop] at h
      exact h))
end Go.Proofs.YtojoalmldapboaaGreatDoor.Se
