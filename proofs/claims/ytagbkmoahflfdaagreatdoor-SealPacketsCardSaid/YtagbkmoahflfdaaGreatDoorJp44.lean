import Derived.Test.YtagbkmoahflfdaaGreatDoorJp01
import Derived.Test.YtagbkmoahflfdaaGreatDoorJp28
import Derived.Test.YtagbkmoahflfdaaGreatDoorJp36
import Derived.Test.YtagbkmoahflfdaaGreatDoorJp43
import Derived.Test.YtagbkmoahflfdaaGreatDoorJp32
set_option maxRecDepth 20000
set_option linter.unusedVariables false
set_option linter.unusedSimpArgs false
namespace Go.Proofs.YtagbkmoahflfdaaGreatDoor.Se
open Tk Go.RowKit Vm Dg Kd
theorem put_short_ref(ph:Bool)(cid:List UInt8)(wide c:Int)(w:World)(hc:cid.length=8)(h1:1≤wide)(h4:wide≤4)(c0:0≤c)(c1:c≤18446744073709551615)(EM:Hd.mayB false false ph 0 0 cid [] [] 0 wide c=true) :
 Calls Tryz.prog 58 #[.agg #[.bool false,.bool false,.bool ph,.int .i64 0,.int .u32 0,.string ⟨cid.toArray⟩,.string ⟨#[]⟩,.string ⟨#[]⟩,.int .u64 0,.int .i64 wide,.int .u64 c]] w fun e w'=>e=.returned (.tuple #[.string ⟨(Hd.hdL ph cid wide c).toArray⟩,.int .i64 0])∧Below w.heap.size w w':=by
 have e:Hd.hdL ph cid wide c=Hd.by1 (Hd.fbN false false ph 0 wide)::cid++fx c.toNat wide.toNat:=rfl;have CF:=zh (fun w=>rfixed' c wide w c0 c1 h1 (by omega));have gl:(fx c.toNat wide.toNat).length≤4:=by rw[fx_length];omega
 rw[e]
 cases ph
 ·exact Hd.putR_s_false_false 0 0 cid [] [] 0 wide c w (by decide) (by decide) (by decide) (by decide) (by omega) (by decide) (by decide) (by decide) (by decide) (by omega) (by omega) c0 c1 (zh EM) h1 h4 _ _ gl CF (by unfold Hd.fbN;simp;omega) (by omega)
 ·exact Hd.putR_s_false_true 0 0 cid [] [] 0 wide c w (by decide) (by decide) (by decide) (by decide) (by omega) (by decide) (by decide) (by decide) (by decide) (by omega) (by omega) c0 c1 (zh EM) h1 h4 _ _ gl CF (by unfold Hd.fbN;simp;omega) (by omega)
theorem dprotect_any(s:Sst)(num acked:Nat)(any:Bool)(cid plain:List UInt8)(w:World)(hk:s.n.k.length≤1000)(hv:s.n.v.length≤1000)(hm:s.n.m.length≤1000)(hn:num≤4611686018427387903)(hc:cid.length=8)(hp:4≤plain.length)(hp2:plain.length≤5000) :
 Calls Tryz.prog 28 #[.agg s.arr,.int .u64 num,.int .u64 acked,.bool any,.string ⟨cid.toArray⟩,.string ⟨plain.toArray⟩] w fun e w'=>e=.returned (.tuple #[.string ⟨(prL s.phase s.n cid plain num (wdN num acked any)).toArray⟩,.int .i64 0])∧Below w.heap.size w w':=by
 obtain⟨w1,w4,hw⟩:=wd_range num acked any;obtain⟨c0,c1,c2⟩:=cu_range num (wdN num acked any) w1 w4;have hal:=allL_len s.phase s.n cid plain num (wdN num acked any) hc;obtain⟨f1,-⟩:=pr_facts s.phase s.n cid plain num (wdN num acked any) hc w1 w4 hp;have hhl:=hdN_len s.phase cid num (wdN num acked any) hc;have hsl:=sealL_len s.n.k s.n.v num (hdN s.phase cid num (wdN num acked any)) plain;have EM:=Hd.may_short s.phase cid (wdN num acked any) (cuN num (wdN num acked any)) hc (by omega) (by omega) c1;refine dprotect_walk _ _ _ _ _ _ _ _ _ _ ⟨cid.toArray⟩ ⟨plain.toArray⟩ ⟨(hdN s.phase cid num (wdN num acked any)).toArray⟩ ⟨(sealL s.n.k s.n.v num (hdN s.phase cid num (wdN num acked any)) plain).toArray⟩ ⟨(smpL (allL s.phase s.n cid plain num (wdN num acked any))).toArray⟩ ⟨(maskL s.n.m (smpL (allL s.phase s.n cid plain num (wdN num acked any)))).toArray⟩ _ ⟨(allL s.phase s.n cid plain num (wdN num acked any)).toArray⟩ s.old s.phase any num acked (wdN num acked any) (cuN num (wdN num acked any)) 0 w (by omega) (by rw[ba_size];omega) (by rw[ba_size];omega) (by rw[ba_size];omega) (ba_app _ _) w4 (by rw[ba_size];omega) (by rw[ba_size];omega) (by rw[ba_size];omega) (ba_mid _ 13 29) ?_ ?_ ?_ ?_ ?_ ?_
 ·exact zh (fun W=>by
   rw[hw]
   exact (Pn.rbytes_any num acked any W (by omega) (by omega) (by omega)).mono fun e w' ⟨h1,h2⟩=>⟨h1,by rw[←h2];exact Below.refl _ _⟩)
 ·exact zh (fun W=>(Pn.rcut_any num (wdN num acked any) W (by omega) (by omega) (by omega) (by omega)).mono fun e w' ⟨h1,h2⟩=>⟨h1,by rw[←h2];exact Below.refl _ _⟩)
 ·exact zh (fun W=>put_short_ref s.phase cid (wdN num acked any) (cuN num (wdN num acked any)) W hc (by omega) (by omega) c0 (by omega) EM)
 ·exact zh (fun W=>dseal_any s.n.k s.n.v s.n.m num _ plain W hk hv (by omega) (by omega) (by omega))
 ·exact zh (fun W=>dmask_ok s.n.k s.n.v s.n.m _ W hm (by unfold smpL;rw[List.length_take,List.length_drop];omega))
 ·exact zh (fun W=>by
   have hM:=Hd.Mask_ref (allL s.phase s.n cid plain num (wdN num acked any)) (maskL s.n.m (smpL (allL s.phase s.n cid plain num (wdN num acked any)))) W (by omega);rw[f1]at hM
   exact hM)
theorem ex_range(l:Nat)(any:Bool)(x k:Int)(hl:l<4611686018427387904)(hx:0≤x):0≤Pn.ex l any x (Pn.wn (Pn.cl k))∧Pn.ex l any x (Pn.wn (Pn.cl k))<18446744073709551616:=by
 have hc:=Pn.cl_range k;have hw:Pn.IsWin (Pn.wn (Pn.cl k)):=Pn.isWin k
 cases any with
 | false=>
  rw[Pn.ex_none (by rcases hw with h|h|h|h<;>rw[h]<;>decide) hx]
  rcases hw with h|h|h|h<;>rw[h]<;>omega
 | true=>
  have:=Pn.ex_near hw (show (0:Int)≤(l:Int) by omega) (by omega) hx
  rcases hw with h|h|h|h<;>rw[h]at this ⊢<;>omega
theorem and_128b(n:Nat)(h:128≤n)(h2:n<256):bits .and .u8 (n:Int) 128=128:=by
 have hall:∀m:Fin 256,128≤m.1→bits .and .u8 ((m.1:Nat):Int) 128=128:=by decide
 exact hall ⟨n,h2⟩ h
theorem umO_get{l m x:List UInt8}{p:Hd.Pre}(ha:Hd.ahO l=some p)(h:Hd.umO l m=some x):(∃y,Hd.getO x=some y)∧¬p.re.length<Hd.umK l m∧x=Hd.turnM l m (l.length-p.re.length) (Hd.umK l m):=by
 unfold Hd.umO at h;rw[ha]at h;simp only at h
 split at h
 ·cases h
 ·rename_i hn
  split at h
  ·cases h
  ·rename_i y hy
   simp only[Option.some.injEq]at h;exact⟨⟨y,by rw[←h];exact hy⟩,hn,h.symm⟩
def UnS (s:Sst) (largest:Nat) (any:Bool) (l:List UInt8) (s':Sst) (n:Nat) (P:ByteArray) (er:Int):Prop:=
 (∀W:World,Tab W→Calls Tryz.prog 29 #[.agg s.arr,.int .u64 largest,.bool any,.string ⟨l.toArray⟩] W fun e w'=>e=.returned (.tuple #[.agg s'.arr,.int .u64 n,.string P,.int .i64 er])∧Below W.heap.size W w') ∧
 (∀W:World,Calls Tryz.prog 30 #[.agg s.arr,.int .u64 largest,.bool any,.string ⟨l.toArray⟩] W fun e w'=>e=.returned (.tuple #[.agg s'.arr,.int .u64 n,.string P,.int .i64 er])∧Below W.heap.size W w')
theorem opened_is{K V M H S:List UInt8}{n:Nat}{o:Option (List UInt8)}(h:openL K V n H S=o)(hK:K.length≤1000)(hV:V.length≤1000)(hn:n<18446744073709551616)(hh:H.length≤10000)(hs:S.length≤10000) :
 Hid (∀W:World,Calls Tryz.prog 45 #[.agg #[.string ⟨K.toArray⟩,.string ⟨V.toArray⟩,.string ⟨M.toArray⟩],.int .u64 n,.string ⟨H.toArray⟩,.string ⟨S.toArray⟩] W fun e w'=>e=.returned (opV o)∧Below W.heap.size W w'):=
 zh fun W=>h▸opened_any K V M n H S W hK hV hn hh hs
theorem dopened_is{K V M H S:List UInt8}{n:Nat}{o:Option (List UInt8)}(h:openL K V n H S=o)(hK:K.length≤1000)(hV:V.length≤1000)(hn:n<18446744073709551616)(hh:H.length≤10000)(hs:S.length≤10000) :
 Hid (∀W:World,Calls Tryz.prog 18 #[.agg #[.string ⟨K.toArray⟩,.string ⟨V.toArray⟩,.string ⟨M.toArray⟩],.int .u64 n,.string ⟨H.toArray⟩,.string ⟨S.toArray⟩] W fun e w'=>e=.returned (onV o)∧Below W.heap.size W w'):=
 zh fun W=>h▸dopen_any K V M n H S W hK hV hn hh hs
theorem unp_both(sec wk wv wm nk nv nm tk tv tm:List UInt8)(old phase:Bool)(largest:Nat)(any:Bool)(l:List UInt8)(hsec:sec.length≤1000)(hl:largest<4611686018427387904)(hlen:l.length≤5000)
 (hwk:wk.length≤1000)(hwv:wv.length≤1000)(hnk:nk.length≤1000)(hnv:nv.length≤1000)(hnm:nm.length≤1000)(htk:tk.length≤1000)(htv:tv.length≤1000) :
 ∃ s' n P er,UnS ⟨sec,⟨wk,wv,wm⟩,⟨nk,nv,nm⟩,⟨tk,tv,tm⟩,old,phase⟩ largest any l s' n P er:=by
 have DPL:=fun W (hW:Tab W)=>Hd.Place_any l W hW (by omega)
 have RPL:=fun W=>Hd.Place_ref l W (by omega)
 cases ha:Hd.ahO l with
 | none=>
  have e1:Hd.plE l=40:=by unfold Hd.plE;rw[ha]
  rw[e1]at DPL RPL
  exact⟨⟨sec,⟨wk,wv,wm⟩,⟨nk,nv,nm⟩,⟨tk,tv,tm⟩,old,phase⟩,0,⟨#[]⟩,40,fun W hW=>unp_bare _ _ _ _ _ _ _ _ _ _ ⟨l.toArray⟩ old phase any largest 40 W hW (by decide) (zh fun W hW=>bare_pl _ _ _ _ _ _ _ _ _ _ ⟨l.toArray⟩ old phase (Hd.plN l) W hW (zh DPL)),
   fun W=>dun_pl _ _ _ _ _ _ _ _ _ _ ⟨l.toArray⟩ old phase any (Hd.plN l) 40 (by decide) largest W (zh RPL)⟩
 | some p=>
  cases l with
  | nil=>simp[Hd.ahO]at ha
  | cons b t=>
   obtain⟨pre,hf⟩:=Hd.ahO_local ha;have hlp:=Hd.len_parts hf;have e1:Hd.plE (b::t)=0:=by unfold Hd.plE;rw[ha]
   obtain⟨p0,hp0⟩:∃p0,1+pre.length=p0:=⟨_,rfl⟩;have e2:Hd.plN (b::t)=(p0:Int):=by unfold Hd.plN;rw[ha];simp only;omega
   rw[e1,e2]at DPL RPL;have hT0:0<(⟨(b::t).toArray⟩:ByteArray).size:=by rw[ba_size];simp
   have hTb:(⟨(b::t).toArray⟩:ByteArray)[0]=b:=rfl;have hb8:=b.toNat_lt;have hsz:=ba_size (b::t);by_cases hbig:128≤b.toNat
   ·exact⟨⟨sec,⟨wk,wv,wm⟩,⟨nk,nv,nm⟩,⟨tk,tv,tm⟩,old,phase⟩,0,⟨#[]⟩,40,fun W hW=>unp_bare _ _ _ _ _ _ _ _ _ _ ⟨(b::t).toArray⟩ old phase any largest 40 W hW (by decide) (zh fun W hW=>bare_long _ _ _ _ _ _ _ _ _ _ ⟨(b::t).toArray⟩ old phase p0 W hW hT0 (and_128b b.toNat hbig hb8) (zh DPL)),
     fun W=>dun_long _ _ _ _ _ _ _ _ _ _ ⟨(b::t).toArray⟩ old phase any p0 hT0 hbig largest W (zh RPL)⟩
   have hlow:b.toNat<128:=by omega
   have hbit:bits .and .u8 (((⟨(b::t).toArray⟩:ByteArray)[0].toNat:Nat):Int) 128=0:=and_128 b.toNat hlow;by_cases hs:(b::t).length<p0+20
   ·exact⟨⟨sec,⟨wk,wv,wm⟩,⟨nk,nv,nm⟩,⟨tk,tv,tm⟩,old,phase⟩,0,⟨#[]⟩,90,fun W hW=>unp_bare _ _ _ _ _ _ _ _ _ _ ⟨(b::t).toArray⟩ old phase any largest 90 W hW (by decide) (zh fun W hW=>bare_short _ _ _ _ _ _ _ _ _ _ ⟨(b::t).toArray⟩ old phase p0 W hW hT0 hbit (zh DPL) (zh fun W=>sample_short (b::t) p0 W (by omega) hs)),
     fun W=>dun_short _ _ _ _ _ _ _ _ _ _ ⟨(b::t).toArray⟩ old phase any p0 hT0 hlow (by rw[hsz];exact hs) (by omega) largest W (zh RPL)⟩
   have CS:=fun W=>sample_ok (b::t) p0 W (by omega) (by omega)
   have hsm:(⟨(b::t).toArray⟩:ByteArray).extract (p0+4) (p0+20)=⟨(((b::t).drop (p0+4)).take 16).toArray⟩:=by
    have h:=ba_mid (b::t) (p0+4) (p0+20);rw[show p0+20-(p0+4)=16 by omega]at h;exact h
   have hSl:(((b::t).drop (p0+4)).take 16).length=16:=by rw[List.length_take,List.length_drop];omega
   generalize ((b::t).drop (p0+4)).take 16=SM at CS hsm hSl;have CM:=fun W=>mask_any nk nv nm SM W hnm hSl
   have RM:=fun W=>dmask_ok nk nv nm SM W hnm hSl
   have hMl:=maskL_len nm SM;generalize maskL nm SM=MK at CM RM hMl;have CU:=fun W (hW:Tab W)=>Hd.Unmask_any (b::t) MK W hW (by omega)
   have RU:=fun W=>Hd.Unmask_ref (b::t) MK W (by omega)
   cases hu:Hd.umO (b::t) MK with
   | none=>
    have u1:Hd.umE (b::t) MK=40:=by unfold Hd.umE;rw[if_pos hMl,hu]
    have u2:Hd.umL (b::t) MK=[]:=by unfold Hd.umL;rw[if_pos hMl,hu]
    rw[u1,u2]at CU RU
    exact⟨⟨sec,⟨wk,wv,wm⟩,⟨nk,nv,nm⟩,⟨tk,tv,tm⟩,old,phase⟩,0,⟨#[]⟩,40,fun W hW=>unp_bare _ _ _ _ _ _ _ _ _ _ ⟨(b::t).toArray⟩ old phase any largest 40 W hW (by decide) (zh fun W hW=>bare_um _ _ _ _ _ _ _ _ _ _ ⟨(b::t).toArray⟩ ⟨SM.toArray⟩ ⟨MK.toArray⟩ old phase p0 W hW hT0 hbit (zh DPL) (zh CS) (zh CM) (zh CU)),
     fun W=>dun_um _ _ _ _ _ _ _ _ _ _ ⟨(b::t).toArray⟩ ⟨SM.toArray⟩ ⟨MK.toArray⟩ old phase any p0 hT0 hlow (by rw[hsz];omega) (by rw[hsz];omega) hsm largest W (zh RPL) (zh RM) (zh RU)⟩
   | some x=>
    have u1:Hd.umE (b::t) MK=0:=by unfold Hd.umE;rw[if_pos hMl,hu]
    have u2:Hd.umL (b::t) MK=x:=by unfold Hd.umL;rw[if_pos hMl,hu]
    rw[u1,u2]at CU RU;obtain⟨⟨y,hy⟩,hnk2,hxe⟩:=umO_get ha hu;have hk4:Hd.umK (b::t) MK≤4:=by unfold Hd.umK;omega
    have hxl:x.length=(b::t).length:=by rw[hxe];exact Hd.turnM_len _ _ _ _ (by omega) (by omega) hMl hk4
    obtain⟨b2,t2,p2,pre2,hx2,-,hf2,-,hw2,hye⟩:=Hd.get_parts hy;have hlp2:=Hd.len_parts hf2;rw[←hx2]at hlp2;have g1:Hd.gHd x=y.1:=by unfold Hd.gHd;rw[hy]
    have g2:Hd.gRs x=y.2:=by unfold Hd.gRs;rw[hy]
    have g3:Hd.gEr x=0:=by unfold Hd.gEr;rw[hy]
    have CG:=fun W (hW:Tab W)=>Hd.Get_any x W hW (by omega)
    have RG:=fun W=>Hd.Get_ref x W (by omega)
    rw[g1,g2,g3]at CG RG;have hrl:y.2.length≤x.length:=by rw[hye];simp only[List.length_drop];omega
    have hwi:1≤y.1.wi∧y.1.wi≤4:=by rw[hye];simp only[Hd.hdr,Hd.wideB];omega
    have hnu:0≤y.1.nu∧y.1.nu≤18446744073709551615:=by
     rw[hye];simp only[Hd.hdr];have h1:=bk_lt (p2.re.take (Hd.wideB b2));have h2:(p2.re.take (Hd.wideB b2)).length≤4:=by rw[List.length_take];unfold Hd.wideB;omega
     have h3:256^(p2.re.take (Hd.wideB b2)).length≤256^4:=Nat.pow_le_pow_right (by decide) h2;omega
    obtain⟨⟨lg,sp,ph,ty,ve,dc,sc,tok,le,wi,nu⟩,rs⟩:=y;simp only at CG RG hrl hwi hnu;obtain⟨n0,hn0⟩:∃n0,x.length-rs.length=n0:=⟨_,rfl⟩;have hHD:(⟨x.toArray⟩:ByteArray).extract 0 n0=⟨(x.take n0).toArray⟩:=ba_take x n0;have hHl:(x.take n0).length≤5000:=by rw[List.length_take];omega
    generalize x.take n0=HH at hHD hHl;have hrx:(⟨rs.toArray⟩:ByteArray).size+n0=(⟨x.toArray⟩:ByteArray).size:=by rw[ba_size,ba_size];omega
    have hxs:(⟨x.toArray⟩:ByteArray).size≤1000000:=by rw[ba_size];omega
    obtain⟨ex0,ex1⟩:=ex_range largest any nu wi hl hnu.1;have CE:=fun W=>Pn.expand_any largest nu wi any W (by omega) (by omega) hnu.1 hnu.2 (by omega) (by omega)
    have RE:=fun W=>Pn.rexpand_any largest nu wi any W (by omega) (by omega) hnu.1 hnu.2 (by omega) (by omega)
    obtain⟨num,hnum⟩:∃num:Nat,Pn.ex largest any nu (Pn.wn (Pn.cl wi))=(num:Int):=⟨(Pn.ex largest any nu (Pn.wn (Pn.cl wi))).toNat,by omega⟩;rw[hnum]at CE RE ex1;have hnm2:num<18446744073709551616:=by omega
    have hrs:rs.length≤10000:=by omega
    have CBR:=fun W (hW:Tab W)=>bare_walk ⟨sec.toArray⟩ ⟨wk.toArray⟩ ⟨wv.toArray⟩ ⟨wm.toArray⟩ ⟨nk.toArray⟩ ⟨nv.toArray⟩ ⟨nm.toArray⟩ ⟨tk.toArray⟩ ⟨tv.toArray⟩ ⟨tm.toArray⟩ ⟨(b::t).toArray⟩ ⟨SM.toArray⟩ ⟨MK.toArray⟩ ⟨x.toArray⟩ ⟨rs.toArray⟩ ⟨HH.toArray⟩ old phase lg sp ph ty ve ⟨dc.toArray⟩ ⟨sc.toArray⟩ ⟨tok.toArray⟩ le wi nu p0 n0 W hW hT0 hbit hrx hxs hHD (zh DPL) (zh CS) (zh CM) (zh CU) (zh CG)
    by_cases hph:ph=phase
    ·subst hph
     cases ho:openL nk nv num HH rs with
     | none=>
      exact⟨⟨sec,⟨wk,wv,wm⟩,⟨nk,nv,nm⟩,⟨tk,tv,tm⟩,old,ph⟩,0,⟨#[]⟩,90,fun W hW=>unp_no _ _ _ _ _ _ _ _ _ _ ⟨(b::t).toArray⟩ ⟨HH.toArray⟩ ⟨rs.toArray⟩ old ph any lg sp ph ty ve ⟨dc.toArray⟩ ⟨sc.toArray⟩ ⟨tok.toArray⟩ le wi nu _ largest num W hW (zh CBR) (zh CE) (zh fun W=>doors_like _ _ _ _ _ _ _ _ _ _ old ph W)
       (zh fun W v hv=>tried_no _ _ _ _ _ _ lg sp ph ty ve _ _ _ le wi nu num v W hv (opened_is ho hnk hnv hnm2 (by omega) hrs)),
       fun W=>dun_same_no _ _ _ _ _ _ _ _ _ _ ⟨(b::t).toArray⟩ ⟨SM.toArray⟩ ⟨MK.toArray⟩ ⟨x.toArray⟩ ⟨rs.toArray⟩ ⟨HH.toArray⟩ old ph any lg sp ty ve ⟨dc.toArray⟩ ⟨sc.toArray⟩ ⟨tok.toArray⟩ le wi nu p0 n0 num hT0 hlow (by rw[hsz];omega) (by rw[hsz];omega) hsm hrx hxs hHD largest W (zh RPL) (zh RM) (zh RU) (zh RG) (zh RE) (dopened_is ho hnk hnv hnm2 (by omega) hrs)⟩
     | some P=>
      exact⟨⟨sec,⟨wk,wv,wm⟩,⟨nk,nv,nm⟩,⟨tk,tv,tm⟩,old,ph⟩,num,⟨P.toArray⟩,0,fun W hW=>unp_keep _ _ _ _ _ _ _ _ _ _ ⟨(b::t).toArray⟩ ⟨HH.toArray⟩ ⟨rs.toArray⟩ ⟨P.toArray⟩ old ph any lg sp ph ty ve ⟨dc.toArray⟩ ⟨sc.toArray⟩ ⟨tok.toArray⟩ le wi nu _ largest num W hW (zh CBR) (zh CE) (zh fun W=>doors_like _ _ _ _ _ _ _ _ _ _ old ph W)
       (zh fun W v hv=>tried_one _ _ _ _ _ _ _ lg sp ph ty ve _ _ _ le wi nu num v W hv (opened_is ho hnk hnv hnm2 (by omega) hrs)),
       fun W=>dun_same_yes _ _ _ _ _ _ _ _ _ _ ⟨(b::t).toArray⟩ ⟨SM.toArray⟩ ⟨MK.toArray⟩ ⟨x.toArray⟩ ⟨rs.toArray⟩ ⟨HH.toArray⟩ ⟨P.toArray⟩ old ph any lg sp ty ve ⟨dc.toArray⟩ ⟨sc.toArray⟩ ⟨tok.toArray⟩ le wi nu p0 n0 num hT0 hlow (by rw[hsz];omega) (by rw[hsz];omega) hsm hrx hxs hHD largest W (zh RPL) (zh RM) (zh RU) (zh RG) (zh RE) (dopened_is ho hnk hnv hnm2 (by omega) hrs)⟩
    ·have hpe:(ph==phase)=false:=by rw[beq_eq_false_iff_ne];exact hph
     have CTU:=fun W=>turn_any ⟨sec,⟨wk,wv,wm⟩,⟨nk,nv,nm⟩,⟨tk,tv,tm⟩,old,phase⟩ W hsec
     have RTU:=fun W=>dturn_any ⟨sec,⟨wk,wv,wm⟩,⟨nk,nv,nm⟩,⟨tk,tv,tm⟩,old,phase⟩ W hsec
     cases old with
     | true=>
      cases hw:openL wk wv num HH rs with
      | some P=>
       exact⟨⟨sec,⟨wk,wv,wm⟩,⟨nk,nv,nm⟩,⟨tk,tv,tm⟩,true,phase⟩,num,⟨P.toArray⟩,0,fun W hW=>unp_keep _ _ _ _ _ _ _ _ _ _ ⟨(b::t).toArray⟩ ⟨HH.toArray⟩ ⟨rs.toArray⟩ ⟨P.toArray⟩ true phase any lg sp ph ty ve ⟨dc.toArray⟩ ⟨sc.toArray⟩ ⟨tok.toArray⟩ le wi nu _ largest num W hW (zh CBR) (zh CE) (zh fun W=>doors_old _ _ _ _ _ _ _ _ _ _ phase ph W hpe)
        (zh fun W v hv=>tried_first _ _ _ _ _ _ _ _ _ _ _ lg sp ph ty ve _ _ _ le wi nu num v W hv (opened_is hw hwk hwv hnm2 (by omega) hrs)),
        fun W=>dun_old_yes _ _ _ _ _ _ _ _ _ _ ⟨(b::t).toArray⟩ ⟨SM.toArray⟩ ⟨MK.toArray⟩ ⟨x.toArray⟩ ⟨rs.toArray⟩ ⟨HH.toArray⟩ ⟨P.toArray⟩ phase any lg sp ph ty ve ⟨dc.toArray⟩ ⟨sc.toArray⟩ ⟨tok.toArray⟩ le wi nu p0 n0 num hT0 hlow (by rw[hsz];omega) (by rw[hsz];omega) hsm hrx hxs hHD hpe largest W (zh RPL) (zh RM) (zh RU) (zh RG) (zh RE) (dopened_is hw hwk hwv hnm2 (by omega) hrs)⟩
      | none=>
       cases ht:openL tk tv num HH rs with
       | none=>
        exact⟨⟨sec,⟨wk,wv,wm⟩,⟨nk,nv,nm⟩,⟨tk,tv,tm⟩,true,phase⟩,0,⟨#[]⟩,90,fun W hW=>unp_no _ _ _ _ _ _ _ _ _ _ ⟨(b::t).toArray⟩ ⟨HH.toArray⟩ ⟨rs.toArray⟩ true phase any lg sp ph ty ve ⟨dc.toArray⟩ ⟨sc.toArray⟩ ⟨tok.toArray⟩ le wi nu _ largest num W hW (zh CBR) (zh CE) (zh fun W=>doors_old _ _ _ _ _ _ _ _ _ _ phase ph W hpe)
         (zh fun W v hv=>tried_none _ _ _ _ _ _ _ _ _ _ lg sp ph ty ve _ _ _ le wi nu num v W hv (opened_is hw hwk hwv hnm2 (by omega) hrs) (opened_is ht htk htv hnm2 (by omega) hrs)),
         fun W=>dun_old_no _ _ _ _ _ _ _ _ _ _ ⟨(b::t).toArray⟩ ⟨SM.toArray⟩ ⟨MK.toArray⟩ ⟨x.toArray⟩ ⟨rs.toArray⟩ ⟨HH.toArray⟩ phase any lg sp ph ty ve ⟨dc.toArray⟩ ⟨sc.toArray⟩ ⟨tok.toArray⟩ le wi nu p0 n0 num hT0 hlow (by rw[hsz];omega) (by rw[hsz];omega) hsm hrx hxs hHD hpe largest W (zh RPL) (zh RM) (zh RU) (zh RG) (zh RE) (dopened_is hw hwk hwv hnm2 (by omega) hrs) (dopened_is ht htk htv hnm2 (by omega) hrs)⟩
       | some P=>
        exact⟨turnS ⟨sec,⟨wk,wv,wm⟩,⟨nk,nv,nm⟩,⟨tk,tv,tm⟩,true,phase⟩,num,⟨P.toArray⟩,0,fun W hW=>unp_turn _ _ _ _ _ _ _ _ _ _ ⟨(b::t).toArray⟩ ⟨HH.toArray⟩ ⟨rs.toArray⟩ ⟨P.toArray⟩ _ _ _ true phase any lg sp ph ty ve ⟨dc.toArray⟩ ⟨sc.toArray⟩ ⟨tok.toArray⟩ le wi nu _ largest num W hW (zh CBR) (zh CE) (zh fun W=>doors_old _ _ _ _ _ _ _ _ _ _ phase ph W hpe)
         (zh fun W v hv=>tried_second _ _ _ _ _ _ _ _ _ _ _ lg sp ph ty ve _ _ _ le wi nu num v W hv (opened_is hw hwk hwv hnm2 (by omega) hrs) (opened_is ht htk htv hnm2 (by omega) hrs)) (zh CTU),
         fun W=>dun_old_turn _ _ _ _ _ _ _ _ _ _ ⟨(b::t).toArray⟩ ⟨SM.toArray⟩ ⟨MK.toArray⟩ ⟨x.toArray⟩ ⟨rs.toArray⟩ ⟨HH.toArray⟩ ⟨P.toArray⟩ _ _ _ phase any lg sp ph ty ve ⟨dc.toArray⟩ ⟨sc.toArray⟩ ⟨tok.toArray⟩ le wi nu p0 n0 num hT0 hlow (by rw[hsz];omega) (by rw[hsz];omega) hsm hrx hxs hHD hpe largest W (zh RPL) (zh RM) (zh RU) (zh RG) (zh RE) (dopened_is hw hwk hwv hnm2 (by omega) hrs) (dopened_is ht htk htv hnm2 (by omega) hrs) (zh RTU)⟩
     | false=>
      cases ht:openL tk tv num HH rs with
      | none=>
       exact⟨⟨sec,⟨wk,wv,wm⟩,⟨nk,nv,nm⟩,⟨tk,tv,tm⟩,false,phase⟩,0,⟨#[]⟩,90,fun W hW=>unp_no _ _ _ _ _ _ _ _ _ _ ⟨(b::t).toArray⟩ ⟨HH.toArray⟩ ⟨rs.toArray⟩ false phase any lg sp ph ty ve ⟨dc.toArray⟩ ⟨sc.toArray⟩ ⟨tok.toArray⟩ le wi nu _ largest num W hW (zh CBR) (zh CE) (zh fun W=>doors_new _ _ _ _ _ _ _ _ _ _ phase ph W hpe)
        (zh fun W v hv=>tried_no _ _ _ _ _ _ lg sp ph ty ve _ _ _ le wi nu num v W hv (opened_is ht htk htv hnm2 (by omega) hrs)),
        fun W=>dun_new_no _ _ _ _ _ _ _ _ _ _ ⟨(b::t).toArray⟩ ⟨SM.toArray⟩ ⟨MK.toArray⟩ ⟨x.toArray⟩ ⟨rs.toArray⟩ ⟨HH.toArray⟩ phase any lg sp ph ty ve ⟨dc.toArray⟩ ⟨sc.toArray⟩ ⟨tok.toArray⟩ le wi nu p0 n0 num hT0 hlow (by rw[hsz];omega) (by rw[hsz];omega) hsm hrx hxs hHD hpe largest W (zh RPL) (zh RM) (zh RU) (zh RG) (zh RE) (dopened_is ht htk htv hnm2 (by omega) hrs)⟩
      | some P=>
       exact⟨turnS ⟨sec,⟨wk,wv,wm⟩,⟨nk,nv,nm⟩,⟨tk,tv,tm⟩,false,phase⟩,num,⟨P.toArray⟩,0,fun W hW=>unp_turn _ _ _ _ _ _ _ _ _ _ ⟨(b::t).toArray⟩ ⟨HH.toArray⟩ ⟨rs.toArray⟩ ⟨P.toArray⟩ _ _ _ false phase any lg sp ph ty ve ⟨dc.toArray⟩ ⟨sc.toArray⟩ ⟨tok.toArray⟩ le wi nu _ largest num W hW (zh CBR) (zh CE) (zh fun W=>doors_new _ _ _ _ _ _ _ _ _ _ phase ph W hpe)
        (zh fun W v hv=>tried_one _ _ _ _ _ _ _ lg sp ph ty ve _ _ _ le wi nu num v W hv (opened_is ht htk htv hnm2 (by omega) hrs)) (zh CTU),
        fun W=>dun_new_turn _ _ _ _ _ _ _ _ _ _ ⟨(b::t).toArray⟩ ⟨SM.toArray⟩ ⟨MK.toArray⟩ ⟨x.toArray⟩ ⟨rs.toArray⟩ ⟨HH.toArray⟩ ⟨P.toArray⟩ _ _ _ phase any lg sp ph ty ve ⟨dc.toArray⟩ ⟨sc.toArray⟩ ⟨tok.toArray⟩ le wi nu p0 n0 num hT0 hlow (by rw[hsz];omega) (by rw[hsz];omega) hsm hrx hxs hHD hpe largest W (zh RPL) (zh RM) (zh RU) (zh RG) (zh RE) (dopened_is ht htk htv hnm2 (by omega) hrs) (zh RTU)⟩
end Go.Proofs.YtagbkmoahflfdaaGreatDoor.Se
namespace Go.Proofs.YtagbkmoahflfdaaGreatDoor.Se
open Go.RowKit Vm Dg Kd
def tn (S:Sst):Nat→Sst
 | 0=>S
 | k+1=>turnS (tn S k)
theorem tn_sec(l:List UInt8)(k:Nat):(tn (newS l) k).sec.length=32:=by
 cases k with
 | zero=>exact nxt_len l
 | succ k=>exact nxt_len _
end Go.Proofs.YtagbkmoahflfdaaGreatDoor.Se
