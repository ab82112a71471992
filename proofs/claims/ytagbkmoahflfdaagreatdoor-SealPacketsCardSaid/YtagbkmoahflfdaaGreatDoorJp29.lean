import Derived.Test.YtagbkmoahflfdaaGreatDoorJp23
import Derived.Test.YtagbkmoahflfdaaGreatDoorJp01
import Derived.Test.YtagbkmoahflfdaaGreatDoorJp25
set_option maxRecDepth 20000
set_option linter.unusedVariables false
set_option linter.unusedSimpArgs false
set_option maxHeartbeats 8000000
namespace Go.Proofs.YtagbkmoahflfdaaGreatDoor.Hd
open Vm
theorem may_short(ph:Bool)(cid:List UInt8)(wide c:Int)(hc:cid.length=8)(h1:1≤wide)(h2:wide≤4)(h3:c<256^wide.toNat):mayB false false ph 0 0 cid [] [] 0 wide c=true:=by
 unfold mayB keptB bndB numB;simp[hc,h1,h2,h3]
theorem fx_len(n k:Nat):(fx n k).length=k:=fx_length n k
def hdL (ph:Bool) (cid:List UInt8) (wide c:Int):List UInt8:=putL false false ph 0 0 cid [] [] 0 wide c
theorem hdL_len(ph:Bool)(cid:List UInt8)(wide c:Int)(hc:cid.length=8):(hdL ph cid wide c).length=9+wide.toNat:=by
 unfold hdL putL;simp[hc,fx_len];omega
theorem pk_all(ph:Bool)(cid SL m:List UInt8)(wide c:Int)(hc:cid.length=8)(h1:1≤wide)(h2:wide≤4)(h0:0≤c)(h3:c<256^wide.toNat)(hm:m.length=5) :
 mskE (hdL ph cid wide c++SL) m=0∧getO (hdL ph cid wide c++SL)=some (⟨false,false,ph,0,0,cid,[],[],0,wide,c⟩,SL) ∧
 ∃ f num,mskL (hdL ph cid wide c++SL) m=f::(cid++(num++SL))∧num.length=wide.toNat∧f.toNat/32=2 ∧
  plN (mskL (hdL ph cid wide c++SL) m)=9∧plE (mskL (hdL ph cid wide c++SL) m)=0 ∧
  umE (mskL (hdL ph cid wide c++SL) m) m=0∧umL (mskL (hdL ph cid wide c++SL) m) m=hdL ph cid wide c++SL:=by
 have EM:=may_short ph cid wide c hc h1 h2 h3;have hg:getO (hdL ph cid wide c++SL)=some (⟨false,false,ph,0,0,cid,[],[],0,wide,c⟩,SL):=get_put EM (by decide) (by decide) (by decide) h0 SL;have ha:ahO (hdL ph cid wide c++SL)=some (preOf false false 0 0 cid [] [] 0 (fx c.toNat wide.toNat++SL)):=ah_put EM (by decide) (by decide) (by decide) SL;obtain⟨b,pre,num,p,hP,hx⟩:=parts_of hg
 have hp:p=preOf false false 0 0 cid [] [] 0 (fx c.toNat wide.toNat++SL):=by
  have:=hP.ah;rw[ha]at this;exact (Option.some.inj this).symm
 have hre:=hP.re;rw[hp]at hre
 have hnum:num=fx c.toNat wide.toNat:=by
  have h:fx c.toNat wide.toNat++SL=num++SL:=hre;exact (List.append_cancel_right h).symm
 have heq:=hP.eq
 have hput:hdL ph cid wide c++SL=by1 (fbN false false ph 0 wide)::(cid++(fx c.toNat wide.toNat++SL)):=by
  unfold hdL putL;simp
 rw[hput,hnum]at heq;injection heq with hb hpre;have hpre2:pre=cid:=(List.append_cancel_right hpre).symm;have hnl:num.length=wide.toNat:=by rw[hnum,fx_len]
 obtain⟨m1,m2⟩:=msk_parts hg hP hx hm;obtain⟨u1,u2⟩:=um_parts hg hP hm;have hmd:(m.drop 1).length=4:=by rw[List.length_drop];omega
 have hw4:wide.toNat≤4:=by omega
 have hxl:(xorL num (m.drop 1)).length=wide.toNat:=by rw[xorL_length _ _ (by omega)];exact hnl
 have hta:=turn_ah (m:=m) hP (m.headD 0) (xorL num (m.drop 1)++SL);obtain⟨s1,s2,s3,-⟩:=fb_short h1 h2 false ph 0;have hbn:b.toNat=fbN false false ph 0 wide:=by rw[←hb];exact by1_nat (by omega)
 have hf:=fst_high b (m.headD 0);rw[if_pos (by omega)]at hf
 have hb32:b.toNat/32=2:=by
  have s3':¬fbN false false ph 0 wide/32%2=1:=of_decide_eq_false s3;rw[hbn];omega
 refine⟨m1,hg,fstB b (m.headD 0),xorL num (m.drop 1),?_,hxl,by rw[hf];exact hb32,?_,?_,?_,?_⟩
 ·rw[m2,hpre2]
 ·rw[m2]
  unfold plN;rw[hta];simp[hpre2,hc,hxl];omega
 ·rw[m2]
  unfold plE;rw[hta]
 ·rw[m2];exact u1
 ·rw[m2];exact u2
end Go.Proofs.YtagbkmoahflfdaaGreatDoor.Hd
namespace Go.Proofs.YtagbkmoahflfdaaGreatDoor.Se
open Tk Go.RowKit Vm Dg Kd
def wdN (num acked:Nat) (any:Bool):Nat:=(Pn.by' (Pn.ds num acked any)).toNat
def cuN (num wide:Nat):Int:=(num:Int)%Pn.wn (Pn.cl wide)
def hdN (ph:Bool) (cid:List UInt8) (num wide:Nat):List UInt8:=Hd.hdL ph cid wide (cuN num wide)
def allL (ph:Bool) (x:K3) (cid plain:List UInt8) (num wide:Nat):List UInt8:=hdN ph cid num wide++sealL x.k x.v num (hdN ph cid num wide) plain
def smpL (l:List UInt8):List UInt8:=(l.drop 13).take 16
def prL (ph:Bool) (x:K3) (cid plain:List UInt8) (num wide:Nat):List UInt8:=Hd.mskL (allL ph x cid plain num wide) (maskL x.m (smpL (allL ph x cid plain num wide)))
theorem by_range(d:Int):Pn.by' d=1∨Pn.by' d=2∨Pn.by' d=3∨Pn.by' d=4:=by
 unfold Pn.by';split
 ·exact .inl rfl
 ·split
  ·exact .inr (.inl rfl)
  ·split
   ·exact .inr (.inr (.inl rfl))
   ·exact .inr (.inr (.inr rfl))
theorem wd_range(num acked:Nat)(any:Bool):1≤wdN num acked any∧wdN num acked any≤4∧((wdN num acked any:Nat):Int)=Pn.by' (Pn.ds num acked any):=by
 unfold wdN;have h:=by_range (Pn.ds num acked any);omega
theorem cu_range(num wide:Nat)(h1:1≤wide)(h4:wide≤4):0≤cuN num wide∧cuN num wide<256^((wide:Nat):Int).toNat∧cuN num wide≤4294967295:=by
 unfold cuN Pn.wn Pn.cl;rw[if_neg (by omega),if_neg (by omega)];have h:wide=1∨wide=2∨wide=3∨wide=4:=by omega
 rcases h with rfl|rfl|rfl|rfl<;>simp<;>omega
theorem hdN_len(ph:Bool)(cid:List UInt8)(num wide:Nat)(hc:cid.length=8):(hdN ph cid num wide).length=9+wide:=by
 unfold hdN;rw[Hd.hdL_len _ _ _ _ hc];simp
theorem allL_len(ph:Bool)(x:K3)(cid plain:List UInt8)(num wide:Nat)(hc:cid.length=8):(allL ph x cid plain num wide).length=9+wide+plain.length+16:=by
 unfold allL;rw[List.length_append,hdN_len _ _ _ _ hc,sealL_len];omega
theorem pr_facts(ph:Bool)(x:K3)(cid plain:List UInt8)(num wide:Nat)(hc:cid.length=8)(h1:1≤wide)(h4:wide≤4)(hp:4≤plain.length) :
 Hd.mskE (allL ph x cid plain num wide) (maskL x.m (smpL (allL ph x cid plain num wide)))=0 ∧
 Hd.getO (allL ph x cid plain num wide)=some (⟨false,false,ph,0,0,cid,[],[],0,wide,cuN num wide⟩,sealL x.k x.v num (hdN ph cid num wide) plain) ∧
 ∃ f nn,prL ph x cid plain num wide=f::(cid++(nn++sealL x.k x.v num (hdN ph cid num wide) plain))∧nn.length=wide∧f.toNat/32=2 ∧
  Hd.plN (prL ph x cid plain num wide)=9∧Hd.plE (prL ph x cid plain num wide)=0 ∧
  Hd.umE (prL ph x cid plain num wide) (maskL x.m (smpL (allL ph x cid plain num wide)))=0∧Hd.umL (prL ph x cid plain num wide) (maskL x.m (smpL (allL ph x cid plain num wide)))=allL ph x cid plain num wide:=by
 obtain⟨c0,c1,-⟩:=cu_range num wide h1 h4;have h:=Hd.pk_all ph cid (sealL x.k x.v num (hdN ph cid num wide) plain) (maskL x.m (smpL (allL ph x cid plain num wide))) wide (cuN num wide) hc (by omega) (by omega) c0 c1 (maskL_len _ _);obtain⟨a,b,f,nn,e,l,r⟩:=h;exact⟨a,b,f,nn,e,by simpa using l,r⟩
theorem pr_len(ph:Bool)(x:K3)(cid plain:List UInt8)(num wide:Nat)(hc:cid.length=8)(h1:1≤wide)(h4:wide≤4)(hp:4≤plain.length):(prL ph x cid plain num wide).length=9+wide+plain.length+16:=by
 obtain⟨-,-,f,nn,e,l,-⟩:=pr_facts ph x cid plain num wide hc h1 h4 hp;rw[e];simp[l,hc,sealL_len];omega
theorem pr_sample(ph:Bool)(x:K3)(cid plain:List UInt8)(num wide:Nat)(hc:cid.length=8)(h1:1≤wide)(h4:wide≤4)(hp:4≤plain.length):smpL (prL ph x cid plain num wide)=smpL (allL ph x cid plain num wide):=by
 obtain⟨-,-,f,nn,e,l,-⟩:=pr_facts ph x cid plain num wide hc h1 h4 hp;have hl:=hdN_len ph cid num wide hc
 have e1:(prL ph x cid plain num wide).drop (9+wide)=sealL x.k x.v num (hdN ph cid num wide) plain:=by
  rw[e,show 9+wide=(8+wide)+1 by omega,List.drop_succ_cons,←List.append_assoc,List.drop_append_of_le_length (by simp[hc,l]),List.drop_of_length_le (by simp[hc,l]),List.nil_append]
 have e2:(allL ph x cid plain num wide).drop (9+wide)=sealL x.k x.v num (hdN ph cid num wide) plain:=by
  unfold allL;rw[List.drop_append_of_le_length (by omega),List.drop_of_length_le (by omega),List.nil_append]
 have e3:∀l:List UInt8,l.drop 13=(l.drop (9+wide)).drop (4-wide):=fun l=>by rw[List.drop_drop,show 9+wide+(4-wide)=13 by omega]
 unfold smpL;rw[e3,e3,e1,e2]
theorem and_128(n:Nat)(h:n<128):bits .and .u8 (n:Int) 128=0:=by
 have hall:∀m:Fin 128,bits .and .u8 ((m.1:Nat):Int) 128=0:=by decide
 exact hall ⟨n,h⟩
theorem protect_any(s:Sst)(num acked:Nat)(any:Bool)(cid plain:List UInt8)(w:World)(ht:Tab w)(hk:s.n.k.length≤1000)(hv:s.n.v.length≤1000)(hm:s.n.m.length≤1000)(hn:num≤4611686018427387903)(hc:cid.length=8)(hp:4≤plain.length)(hp2:plain.length≤5000) :
 Calls Tryz.prog 27 #[.agg s.arr,.int .u64 num,.int .u64 acked,.bool any,.string ⟨cid.toArray⟩,.string ⟨plain.toArray⟩] w fun e w'=>e=.returned (.tuple #[.string ⟨(prL s.phase s.n cid plain num (wdN num acked any)).toArray⟩,.int .i64 0])∧Below w.heap.size w w':=by
 obtain⟨w1,w4,hw⟩:=wd_range num acked any;obtain⟨c0,c1,c2⟩:=cu_range num (wdN num acked any) w1 w4;have hal:=allL_len s.phase s.n cid plain num (wdN num acked any) hc;obtain⟨f1,-⟩:=pr_facts s.phase s.n cid plain num (wdN num acked any) hc w1 w4 hp;have hhl:=hdN_len s.phase cid num (wdN num acked any) hc;have hsl:=sealL_len s.n.k s.n.v num (hdN s.phase cid num (wdN num acked any)) plain;have EM:=Hd.may_short s.phase cid (wdN num acked any) (cuN num (wdN num acked any)) hc (by omega) (by omega) c1;refine protect_walk _ _ _ _ _ _ _ _ _ _ ⟨cid.toArray⟩ ⟨plain.toArray⟩ ⟨(hdN s.phase cid num (wdN num acked any)).toArray⟩ ⟨(sealL s.n.k s.n.v num (hdN s.phase cid num (wdN num acked any)) plain).toArray⟩ _ ⟨(allL s.phase s.n cid plain num (wdN num acked any)).toArray⟩ s.old s.phase any num acked (wdN num acked any) (cuN num (wdN num acked any)) 0 w ht (by omega) (by rw[ba_size];omega) (by rw[ba_size];omega) (by rw[ba_size];omega) (ba_app _ _) w4 (by rw[ba_size];omega) ?_ ?_ ?_ ?_ ?_
 ·exact zh (fun W=>by
   rw[hw]
   exact Pn.bytes_any num acked any W (by omega) (by omega) (by omega))
 ·exact zh (fun W=>Pn.cut_any num (wdN num acked any) W (by omega) (by omega) (by omega) (by omega))
 ·exact zh (fun W hW=>Hd.Put_yes false false s.phase 0 0 cid [] [] 0 (wdN num acked any) (cuN num (wdN num acked any)) W hW (by decide) (by decide) (by decide) (by decide) (by omega) (by decide) (by decide) (by decide) (by decide) (by omega) (by omega) c0 (by omega) EM)
 ·exact zh (fun W=>sealed_any s.n.k s.n.v s.n.m num _ plain W hk hv (by omega) (by omega) (by omega))
 ·exact zh (fun W hW=>by
   have hM:=fun (W:World) (hW:Tab W)=>Hd.Mask_any (allL s.phase s.n cid plain num (wdN num acked any)) (maskL s.n.m (smpL (allL s.phase s.n cid plain num (wdN num acked any)))) W hW (by omega)
   rw[f1]at hM
   exact masked_walk _ _ _ _ _ _ _ _ _ _ _ ⟨(smpL (allL s.phase s.n cid plain num (wdN num acked any))).toArray⟩ ⟨(maskL s.n.m (smpL (allL s.phase s.n cid plain num (wdN num acked any)))).toArray⟩ _ _ _ 9 0 W hW
    (zh fun W=>sample_ok _ 9 W (by decide) (by omega))
    (zh fun W=>mask_any s.n.k s.n.v s.n.m _ W hm (by unfold smpL;rw[List.length_take,List.length_drop];omega))
    (zh fun W hW=>hM W hW))
theorem first_bit(l:List UInt8)(f:UInt8)(t:List UInt8)(e:l=f::t)(hf:f.toNat<128)(h0:0<(⟨l.toArray⟩:ByteArray).size):bits .and .u8 (((⟨l.toArray⟩:ByteArray)[0].toNat:Nat):Int) 128=0:=by
 subst e;exact and_128 f.toNat hf
theorem unprotect_same(s:Sst)(num wide largest:Nat)(any2:Bool)(cid plain:List UInt8)(w:World)(ht:Tab w)(hk:s.n.k.length≤1000)(hv:s.n.v.length≤1000)(hm:s.n.m.length≤1000)(hn:num≤4611686018427387903)(hl:largest<4611686018427387904)(hc:cid.length=8)(w1:1≤wide)(w4:wide≤4)(hp:4≤plain.length)(hp2:plain.length≤5000)
 (hE:Pn.ex largest any2 (cuN num wide) (Pn.wn (Pn.cl wide))=num) :
 Calls Tryz.prog 29 #[.agg s.arr,.int .u64 largest,.bool any2,.string ⟨(prL s.phase s.n cid plain num wide).toArray⟩] w fun e w'=>e=.returned (.tuple #[.agg s.arr,.int .u64 num,.string ⟨plain.toArray⟩,.int .i64 0])∧Below w.heap.size w w':=by
 obtain⟨c0,c1,c2⟩:=cu_range num wide w1 w4;have hal:=allL_len s.phase s.n cid plain num wide hc;have hpl:=pr_len s.phase s.n cid plain num wide hc w1 w4 hp;have hps:=pr_sample s.phase s.n cid plain num wide hc w1 w4 hp;obtain⟨f1,f2,f,nn,e,l,f32,p1,p2,u1,u2⟩:=pr_facts s.phase s.n cid plain num wide hc w1 w4 hp;have hhl:=hdN_len s.phase cid num wide hc;have hsl:=sealL_len s.n.k s.n.v num (hdN s.phase cid num wide) plain;have hop:=open_seal s.n.k s.n.v num (hdN s.phase cid num wide) plain;have hsm:(smpL (allL s.phase s.n cid plain num wide)).length=16:=by unfold smpL;rw[List.length_take,List.length_drop];omega
 have htk:(allL s.phase s.n cid plain num wide).take (9+wide)=hdN s.phase cid num wide:=by
  unfold allL;rw[List.take_append_of_le_length (by omega),List.take_of_length_le (by omega)]
 have hhd:Hd.gHd (allL s.phase s.n cid plain num wide)=⟨false,false,s.phase,0,0,cid,[],[],0,wide,cuN num wide⟩:=by unfold Hd.gHd;rw[f2]
 have hrs:Hd.gRs (allL s.phase s.n cid plain num wide)=sealL s.n.k s.n.v num (hdN s.phase cid num wide) plain:=by unfold Hd.gRs;rw[f2]
 have her:Hd.gEr (allL s.phase s.n cid plain num wide)=0:=by unfold Hd.gEr;rw[f2]
 have hT:(⟨(prL s.phase s.n cid plain num wide).toArray⟩:ByteArray).size=9+wide+plain.length+16:=by rw[ba_size];exact hpl
 have hT0:0<(⟨(prL s.phase s.n cid plain num wide).toArray⟩:ByteArray).size:=by omega
 have HTK:=ba_take (allL s.phase s.n cid plain num wide) (9+wide);rw[htk]at HTK;refine unprotect_walk _ _ _ _ _ _ _ _ _ _ ⟨(prL s.phase s.n cid plain num wide).toArray⟩ ⟨(hdN s.phase cid num wide).toArray⟩ ⟨(sealL s.n.k s.n.v num (hdN s.phase cid num wide) plain).toArray⟩ ⟨plain.toArray⟩ s.old s.phase any2 false false 0 0 ⟨cid.toArray⟩ ⟨#[]⟩ ⟨#[]⟩ 0 wide (cuN num wide) largest num w ht ?_ ?_ ?_
 ·exact zh (fun W hW=>bare_walk _ _ _ _ _ _ _ _ _ _ ⟨(prL s.phase s.n cid plain num wide).toArray⟩ ⟨(smpL (allL s.phase s.n cid plain num wide)).toArray⟩ ⟨(maskL s.n.m (smpL (allL s.phase s.n cid plain num wide))).toArray⟩ ⟨(allL s.phase s.n cid plain num wide).toArray⟩ _ _ s.old s.phase false false s.phase 0 0 ⟨cid.toArray⟩ ⟨#[]⟩ ⟨#[]⟩ 0 wide (cuN num wide) 9 (9+wide) W hW hT0 (first_bit _ f _ e (by omega) hT0) (by rw[ba_size,ba_size];omega) (by rw[ba_size];omega) HTK
   (zh fun W hW=>by
    have h:=Hd.Place_any (prL s.phase s.n cid plain num wide) W hW (by omega);rw[p1,p2]at h
    exact h)
   (zh fun W=>by
    have h:=sample_ok (prL s.phase s.n cid plain num wide) 9 W (by decide) (by omega);have hh:((prL s.phase s.n cid plain num wide).drop (9+4)).take 16=smpL (allL s.phase s.n cid plain num wide):=hps;rw[hh]at h
    exact h)
   (zh fun W=>mask_any s.n.k s.n.v s.n.m _ W hm hsm)
   (zh fun W hW=>by
    have h:=Hd.Unmask_any (prL s.phase s.n cid plain num wide) (maskL s.n.m (smpL (allL s.phase s.n cid plain num wide))) W hW (by omega);rw[u1,u2]at h
    exact h)
   (zh fun W hW=>by
    have h:=Hd.Get_any (allL s.phase s.n cid plain num wide) W hW (by omega);rw[hhd,hrs,her]at h
    exact h))
 ·exact zh (fun W=>by
   have h:=Pn.expand_any largest (cuN num wide) wide any2 W (by omega) (by omega) c0 (by omega) (by omega) (by omega);rw[hE]at h
   exact h)
 ·exact zh (fun W b hb=>tried_yes _ _ _ _ _ _ false false s.phase 0 0 ⟨cid.toArray⟩ ⟨#[]⟩ ⟨#[]⟩ 0 wide (cuN num wide) b num W hb (zh fun W=>by
   have h:=opened_any s.n.k s.n.v s.n.m num (hdN s.phase cid num wide) (sealL s.n.k s.n.v num (hdN s.phase cid num wide) plain) W hk hv (by omega) (by omega) (by omega);rw[hop]at h
   exact h))
theorem nxt_len(k:List UInt8):(nxt k).length=32:=lab_len _ _ _ _ _
theorem ofK_k(k:List UInt8):(ofK k).k.length=32:=lab_len _ _ _ _ _
theorem ofK_v(k:List UInt8):(ofK k).v.length=12:=lab_len _ _ _ _ _
theorem ofK_m(k:List UInt8):(ofK k).m.length=32:=lab_len _ _ _ _ _
theorem new_any(k:List UInt8)(w:World)(hk:k.length≤1000):Calls Tryz.prog 22 #[.string ⟨k.toArray⟩] w fun e w'=>e=.returned (.agg (newS k).arr)∧Below w.heap.size w w':=
 new_walk ⟨k.toArray⟩ ⟨(kKey k).toArray⟩ ⟨(kIv k).toArray⟩ ⟨(kMask k).toArray⟩ ⟨(nxt k).toArray⟩ ⟨(kKey (nxt k)).toArray⟩ ⟨(kIv (nxt k)).toArray⟩ ⟨(kMask (nxt k)).toArray⟩ w (zh fun W=>of_any k W (by omega)) (zh fun W=>next_any k W (by omega)) (zh fun W=>of_any (nxt k) W (by rw[nxt_len];decide))
theorem turn_any(s:Sst)(w:World)(hk:s.sec.length≤1000):Calls Tryz.prog 25 #[.agg s.arr] w fun e w'=>e=.returned (.agg (turnS s).arr)∧Below w.heap.size w w':=
 turn_walk _ _ _ _ _ _ _ _ _ _ ⟨(nxt s.sec).toArray⟩ ⟨(kKey (nxt s.sec)).toArray⟩ ⟨(kIv (nxt s.sec)).toArray⟩ ⟨(kMask (nxt s.sec)).toArray⟩ _ _ w (zh fun W=>next_any s.sec W (by omega)) (zh fun W=>of_any (nxt s.sec) W (by rw[nxt_len];decide))
theorem shown_walk(x0 x1 x2 x3 x4 x5 x6 x7 x8 x9 P B B4:ByteArray)(xo xp:Bool)(w:World)(ht:Tab w)(hP:(P.size:Int)=31)(hB:B.size=64)(hB4:B.extract 0 4=B4)
 (CN:Hid (∀W:World,Calls Tryz.prog 22 #[.string ⟨#[115,101,99,114,101,116]⟩] W fun e w'=>e=.returned (.agg #[.string x0,.string x1,.string x2,.string x3,.string x4,.string x5,.string x6,.string x7,.string x8,.string x9,.bool xo,.bool xp])∧Below W.heap.size W w'))
 (CP:Hid (∀W:World,Tab W→Calls Tryz.prog 27 #[.agg #[.string x0,.string x1,.string x2,.string x3,.string x4,.string x5,.string x6,.string x7,.string x8,.string x9,.bool xo,.bool xp],.int .u64 5,.int .u64 0,.bool false,.string ⟨#[49,50,51,52,53,54,55,56]⟩,.string ⟨#[104,101,108,108,111]⟩] W fun e w'=>e=.returned (.tuple #[.string P,.int .i64 0])∧Below W.heap.size W w'))
 (CU:Hid (∀W:World,Tab W→Calls Tryz.prog 29 #[.agg #[.string x0,.string x1,.string x2,.string x3,.string x4,.string x5,.string x6,.string x7,.string x8,.string x9,.bool xo,.bool xp],.int .u64 0,.bool false,.string P] W fun e w'=>e=.returned (.tuple #[.agg #[.string x0,.string x1,.string x2,.string x3,.string x4,.string x5,.string x6,.string x7,.string x8,.string x9,.bool xo,.bool xp],.int .u64 5,.string ⟨#[104,101,108,108,111]⟩,.int .i64 0])∧Below W.heap.size W w'))
 (CB:Hid (∀W:World,Calls Tryz.prog 11 #[.string ⟨#[]⟩,.string ⟨#[]⟩,.int .u32 0] W fun e w'=>e=.returned (.string B)∧Below W.heap.size W w'))
 (CH:Hid (∀W:World,Calls Tryz.prog 31 #[.string B4] W fun e w'=>e=.returned (.string ⟨#[55,54,98,56,101,48,97,100]⟩)∧Below W.heap.size W w')) :
 Calls Tryz.prog 9 #[] w fun e w'=>e=.returned (.bool true)∧Below w.heap.size w w':=by
 have HT:=zh ht;clear ht;go_enter Tryz.func9,Tryz.ntmps9;go_wp2_with fail
 with_reducible refine (CN.out _).mono ?_
 rintro e1 w1 ⟨rfl,hb⟩;have HB1:=zh hb;clear hb;have hs1:=HB1.out.size;have HX1:Hid (SX (w1.alloc (.cells #[.string x0,.string x1,.string x2,.string x3,.string x4,.string x5,.string x6,.string x7,.string x8,.string x9,.bool xo,.bool xp] 43)) w1.heap.size x0 x1 x2 x3 x4 x5 x6 x7 x8 x9 xo xp):=zh (heap_alloc_new w1 _);have HB2:=zh (HB1.out.alloc hs1 (.cells #[.string x0,.string x1,.string x2,.string x3,.string x4,.string x5,.string x6,.string x7,.string x8,.string x9,.bool xo,.bool xp] 43));have HT2:=HT.out.below HB2.out HT.out.lt;go_upto_region 2 with (fail)
 generalize w1.alloc (.cells #[.string x0,.string x1,.string x2,.string x3,.string x4,.string x5,.string x6,.string x7,.string x8,.string x9,.bool xo,.bool xp] 43)=W2 at *;generalize w1.heap.size=b1 at *;obtain⟨q0,q1,q2,q3,q4,q5,q6,q7,q8,q9,q10,q11⟩:=cells12 HX1.out;go_wp2_with fail
 with_reducible refine (CP.out _ HT2).mono ?_
 rintro e3 w3 ⟨rfl,hb⟩;have HX3:=zh (HX1.out.keep hb HX1.out.lt);have HB3:=zh (HB2.out.trans (hb.mono HB2.out.size));have HT3:=HT2.below hb HT2.lt;obtain⟨u0,u1,u2,u3,u4,u5,u6,u7,u8,u9,u10,u11⟩:=cells12 HX3.out;clear hb;go_wp2_with fail
 with_reducible refine (CU.out _ HT3).mono ?_
 rintro e4 w4 ⟨rfl,hb⟩;have HB4:=zh (HB3.out.trans (hb.mono HB3.out.size));clear hb;go_wp2_with fail
 with_reducible refine (CB.out _).mono ?_
 rintro e5 w5 ⟨rfl,hb⟩;have HB5:=zh ((HB4.out.alloc HB4.out.size _).trans (hb.mono (by have:=HB4.out.size;simp;omega)));clear hb;go_wp2_with fail
 with_reducible refine (CH.out _).mono ?_
 rintro e6 w6 ⟨rfl,hb⟩;have HB6:=zh (HB5.out.trans (hb.mono HB5.out.size));clear hb;go_wp2_with fail
 go_ret
 exact⟨rfl,HB6.out⟩
theorem shown_any(w:World)(ht:Tab w):Calls Tryz.prog 9 #[] w fun e w'=>e=.returned (.bool true)∧Below w.heap.size w w':=by
 have hk:=ofK_k [115,101,99,114,101,116];have hv:=ofK_v [115,101,99,114,101,116];have hm:=ofK_m [115,101,99,114,101,116];have hwd:wdN 5 0 false=1:=by decide
 have hex:Pn.ex 0 false (cuN 5 1) (Pn.wn (Pn.cl 1))=5:=by decide
 have hpl:=pr_len false (ofK [115,101,99,114,101,116]) [49,50,51,52,53,54,55,56] [104,101,108,108,111] 5 1 rfl (by decide) (by decide) (by decide);have hbt:=ba_take (blk [] [] 0) 4;rw[blk_known]at hbt;refine shown_walk ⟨(nxt [115,101,99,114,101,116]).toArray⟩ ⟨#[]⟩ ⟨#[]⟩ ⟨#[]⟩ ⟨(kKey [115,101,99,114,101,116]).toArray⟩ ⟨(kIv [115,101,99,114,101,116]).toArray⟩ ⟨(kMask [115,101,99,114,101,116]).toArray⟩ ⟨(kKey (nxt [115,101,99,114,101,116])).toArray⟩ ⟨(kIv (nxt [115,101,99,114,101,116])).toArray⟩ ⟨(kMask [115,101,99,114,101,116]).toArray⟩ ⟨(prL false (ofK [115,101,99,114,101,116]) [49,50,51,52,53,54,55,56] [104,101,108,108,111] 5 1).toArray⟩ ⟨(blk [] [] 0).toArray⟩ ⟨#[118,184,224,173]⟩ false false w ht (by rw[ba_size,hpl];rfl) (by rw[ba_size,blk_len]) hbt ?_ ?_ ?_ ?_ ?_
 ·exact zh (fun W=>new_any [115,101,99,114,101,116] W (by decide))
 ·exact zh (fun W hW=>by
   have h:=protect_any (newS [115,101,99,114,101,116]) 5 0 false [49,50,51,52,53,54,55,56] [104,101,108,108,111] W hW (by show (ofK [115,101,99,114,101,116]).k.length≤1000;omega) (by show (ofK [115,101,99,114,101,116]).v.length≤1000;omega) (by show (ofK [115,101,99,114,101,116]).m.length≤1000;omega) (by decide) rfl (by decide) (by decide);rw[hwd]at h
   exact h)
 ·exact zh (fun W hW=>unprotect_same (newS [115,101,99,114,101,116]) 5 1 0 false [49,50,51,52,53,54,55,56] [104,101,108,108,111] W hW (by show (ofK [115,101,99,114,101,116]).k.length≤1000;omega) (by show (ofK [115,101,99,114,101,116]).v.length≤1000;omega) (by show (ofK [115,101,99,114,101,116]).m.length≤1000;omega) (by decide) (by decide) rfl (by decide) (by decide) (by decide) (by decide) hex)
 ·exact zh (fun W=>block_call ⟨#[]⟩ ⟨#[]⟩ 0 W (by decide) (by decide) (by decide))
 ·exact zh (fun W=>hex_any ⟨#[118,184,224,173]⟩ W (by decide))
end Go.Proofs.YtagbkmoahflfdaaGreatDoor.Se
