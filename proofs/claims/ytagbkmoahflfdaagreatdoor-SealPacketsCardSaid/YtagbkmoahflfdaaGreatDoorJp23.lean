import Derived.Test.YtagbkmoahflfdaaGreatDoorJp22
import Derived.Test.YtagbkmoahflfdaaGreatDoorJp01
import Derived.Test.YtagbkmoahflfdaaGreatDoorRows
import Derived.WalkKit
import Derived.WalkSpells
import Derived.WalkLawsBesides
import Derived.Lib.Hide
import Derived.Below
import Derived.Deep.RegionHeld3
set_option maxRecDepth 20000
set_option linter.unusedVariables false
set_option maxHeartbeats 1000000
namespace Go.Proofs.YtagbkmoahflfdaaGreatDoor.Hd
open Go.RowKit Vm
theorem by1_nat{n:Nat}(h:n<256):(by1 n).toNat=n:=by
 show (UInt8.ofNat n).toNat=n;rw[UInt8.toNat_ofNat'];omega
theorem bk_fx_take(n k:Nat)(s:List UInt8)(h:n<256^k):bk ((fx n k++s).take k)=n:=by
 have e:(fx n k).length=k:=fx_length n k;rw[List.take_append_of_le_length (by omega),List.take_of_length_le (by omega),bk_fx,Nat.mod_eq_of_lt h]
theorem drop_fx(n k:Nat)(s:List UInt8):(fx n k++s).drop k=s:=by
 have e:(fx n k).length=k:=fx_length n k;rw[List.drop_append_of_le_length (by omega),List.drop_of_length_le (by omega),List.nil_append]
theorem idO_put(d r:List UInt8)(h:d.length≤20):idO (by1 d.length::(d++r))=some (d,r):=by
 have e:=by1_nat (n:=d.length) (by omega);simp only[idO];rw[e,if_pos ⟨h,by simp⟩];simp
theorem vO_put(n:Nat)(r:List UInt8)(h:n<4611686018427387904):vO (ps n++r)=some (n,r):=by
 have hp:=pl_lt n (by omega);rw[(ps_ok hp).1];have hg:=back_get n hp r;by_cases hk:gk (pt n++r)≤(pt n++r).length
 ·have ho:=g_ok hk
  unfold vO;rw[if_pos hk,←ho.1,←ho.2.1,hg.1,hg.2.1]
 ·have ho:=g_no (l:=pt n++r) (by omega)
  rw[ho.2.2]at hg;exact absurd hg.2.2 (by decide)
theorem tokO_put(t r:List UInt8)(h:t.length≤1000):tokO 0 (ps t.length++(t++r))=some (t,r):=by
 unfold tokO;rw[if_pos rfl,vO_put t.length (t++r) (by omega)];simp only;rw[if_pos ⟨h,by simp⟩];simp
theorem pow_le4{wi nu:Int}(h1:1≤wi)(h2:wi≤4)(h0:0≤nu)(h3:nu<256^wi.toNat):nu.toNat<256^wi.toNat:=by
 have:((256^wi.toNat:Nat):Int)=(256:Int)^wi.toNat:=by rw[Int.natCast_pow];rfl
 omega
def preOf (lg sp:Bool) (ty ve:Int) (dc sc tk:List UInt8) (le:Int) (re:List UInt8):Pre:=⟨lg,if lg then false else sp,ty.toNat,ve.toNat,dc,sc,tk,le.toNat,re⟩
theorem fb_long{ty wi:Int}(h0:0≤ty)(h1:ty≤2)(h2:1≤wi)(h3:wi≤4)(sp ph:Bool):fbN true sp ph ty wi<256∧fbN true sp ph ty wi/64%2=1∧128≤fbN true sp ph ty wi∧fbN true sp ph ty wi/16%4=ty.toNat∧fbN true sp ph ty wi/4%4=0∧1+fbN true sp ph ty wi%4=wi.toNat:=by
 have e:fbN true sp ph ty wi=(191+wi+16*ty).toNat:=rfl;rw[e];omega
theorem fb_short{wi:Int}(h2:1≤wi)(h3:wi≤4)(sp ph:Bool)(ty:Int):fbN false sp ph ty wi<128∧fbN false sp ph ty wi/64%2=1∧decide (fbN false sp ph ty wi/32%2=1)=sp∧decide (fbN false sp ph ty wi/4%2=1)=ph∧fbN false sp ph ty wi/8%4=0∧1+fbN false sp ph ty wi%4=wi.toNat:=by
 have hw:wi=1∨wi=2∨wi=3∨wi=4:=by omega
 have e:fbN false sp ph ty wi=fbN false sp ph 0 wi:=rfl;rw[e];clear e h2 h3 ty
 cases sp<;>cases ph<;>rcases hw with rfl|rfl|rfl|rfl<;>decide
theorem ah_put{lg sp ph:Bool}{ty ve:Int}{dc sc tk:List UInt8}{le wi nu:Int}(EM:mayB lg sp ph ty ve dc sc tk le wi nu=true)(h0:0≤ve)(h1:ve≤4294967295)(h2:0≤le)(s:List UInt8) :
 ahO (putL lg sp ph ty ve dc sc tk le wi nu++s)=some (preOf lg sp ty ve dc sc tk le (fx nu.toNat wi.toNat++s)):=by
 obtain⟨hk,hb,w1,w2,w3⟩:=may_parts EM
 cases lg with
 | true=>
  obtain⟨b1,b2,b3,b4,b5,b6⟩:=bnd_parts hb;obtain⟨f1,f2,f3,f4,f5,f6⟩:=fb_long b1 b2 w1 w2 sp ph;have hbb:=by1_nat f1
  have ht:ty≠0→tk=[]:=by
   unfold keptB at hk;rw[if_pos rfl]at hk;exact (of_decide_eq_true hk).2.2
  unfold putL preOf;rw[if_pos rfl,if_pos rfl]
  have e:by1 (fbN true sp ph ty wi)::lpL ty ve dc sc tk le++fx nu.toNat wi.toNat++s=by1 (fbN true sp ph ty wi)::(fx ve.toNat 4++(by1 dc.length::(dc++(by1 sc.length::(sc++((if ty=0 then ps tk.length++tk else [])++(ps le.toNat++(fx nu.toNat wi.toNat++s)))))))):=by
   unfold lpL;simp
  rw[e];simp only[ahO];rw[hbb,if_neg (by omega),if_neg (by omega)];unfold ahL;rw[hbb];have l4:(fx ve.toNat 4).length=4:=fx_length _ _;rw[if_neg (by simp only[List.length_append,l4];omega),drop_fx,idO_put _ _ b3];simp only;rw[idO_put _ _ b4];simp only;rw[f4]
  have etok:tokO ty.toNat ((if ty=0 then ps tk.length++tk else [])++(ps le.toNat++(fx nu.toNat wi.toNat++s)))=some (tk,ps le.toNat++(fx nu.toNat wi.toNat++s)):=by
   by_cases h:ty=0
   ·rw[if_pos h,h,List.append_assoc];exact tokO_put _ _ b5
   ·rw[if_neg h,List.nil_append,ht h];unfold tokO;rw[if_neg (by omega)]
  rw[etok];simp only;rw[vO_put _ _ (by omega),bk_fx_take _ _ _ (show ve.toNat<256^4 by omega)]
 | false=>
  have b1:=bnd_short hb;obtain⟨f1,f2,f3,f4,f5,f6⟩:=fb_short w1 w2 sp ph ty;have hbb:=by1_nat (n:=fbN false sp ph ty wi) (by omega)
  obtain⟨k1,k2,k3,k4,k5⟩:ty=0∧ve=0∧sc=[]∧tk=[]∧le=0:=by
   unfold keptB at hk;rw[if_neg (by decide)]at hk;exact of_decide_eq_true hk
  unfold putL preOf;rw[if_neg (by decide),if_neg (by decide)];rw[List.cons_append,List.cons_append,List.append_assoc];simp only[ahO];rw[hbb,if_neg (by omega),if_pos f1,if_neg (by simp;omega),f3,List.take_append_of_le_length (by omega),List.drop_append_of_le_length (by omega),List.take_of_length_le (by omega),List.drop_of_length_le (by omega),List.nil_append,k1,k2,k3,k4,k5];rfl
theorem get_put{lg sp ph:Bool}{ty ve:Int}{dc sc tk:List UInt8}{le wi nu:Int}(EM:mayB lg sp ph ty ve dc sc tk le wi nu=true)(h0:0≤ve)(h1:ve≤4294967295)(h2:0≤le)(h3:0≤nu)(s:List UInt8) :
 getO (putL lg sp ph ty ve dc sc tk le wi nu++s)=some (⟨lg,sp,ph,ty,ve,dc,sc,tk,le,wi,nu⟩,s):=by
 have ha:=ah_put EM h0 h1 h2 s;obtain⟨hk,hb,w1,w2,w3⟩:=may_parts EM;have hn:=pow_le4 w1 w2 h3 w3;have ep:putL lg sp ph ty ve dc sc tk le wi nu++s=by1 (fbN lg sp ph ty wi)::((if lg then lpL ty ve dc sc tk le else dc)++fx nu.toNat wi.toNat++s):=by unfold putL;simp
 rw[ep]at ha ⊢;have eg:∀b r p,ahO (b::r)=some p→getO (b::r)=if p.re.length<wideB b∨badB b=true then none else some (hdr b p,p.re.drop (wideB b)):=fun b r p h=>by simp only[getO,h]
 rw[eg _ _ _ ha];have l4:(fx nu.toNat wi.toNat).length=wi.toNat:=fx_length _ _
 cases lg with
 | true=>
  obtain⟨b1,b2,b3,b4,b5,b6⟩:=bnd_parts hb;obtain⟨f1,f2,f3,f4,f5,f6⟩:=fb_long b1 b2 w1 w2 sp ph;have hbb:=by1_nat f1
  obtain⟨k1,k2,_⟩:sp=false∧ph=false∧(ty≠0→tk=[]):=by
   unfold keptB at hk;rw[if_pos rfl]at hk;exact of_decide_eq_true hk
  have ew:wideB (by1 (fbN true sp ph ty wi))=wi.toNat:=by unfold wideB;rw[hbb];exact f6
  have eb:badB (by1 (fbN true sp ph ty wi))=false:=by unfold badB;rw[hbb,if_neg (by omega),f5];rfl
  rw[ew,eb,if_neg (by simp[preOf,l4];omega)];unfold hdr preOf;rw[ew];simp only[drop_fx,bk_fx_take _ _ _ hn];rw[k1,k2];simp only[Option.some.injEq,Prod.mk.injEq,Hdr.mk.injEq];simp;omega
 | false=>
  obtain⟨f1,f2,f3,f4,f5,f6⟩:=fb_short w1 w2 sp ph ty;have hbb:=by1_nat (n:=fbN false sp ph ty wi) (by omega)
  obtain⟨k1,k2,k3,k4,k5⟩:ty=0∧ve=0∧sc=[]∧tk=[]∧le=0:=by
   unfold keptB at hk;rw[if_neg (by decide)]at hk;exact of_decide_eq_true hk
  have ew:wideB (by1 (fbN false sp ph ty wi))=wi.toNat:=by unfold wideB;rw[hbb];exact f6
  have eb:badB (by1 (fbN false sp ph ty wi))=false:=by unfold badB;rw[hbb,if_pos f1,f5];rfl
  rw[ew,eb,if_neg (by simp[preOf,l4];omega)];unfold hdr preOf;rw[ew,hbb,f4];simp only[drop_fx,bk_fx_take _ _ _ hn];rw[k1,k2,k3,k4,k5];simp only[Option.some.injEq,Prod.mk.injEq,Hdr.mk.injEq];simp;omega
theorem hid_lt(c b:UInt8):(c &&& hidB b).toNat<(if b.toNat<128 then 32 else 16):=by
 rw[UInt8.toNat_and];unfold hidB
 split
 ·rw[if_neg (by omega)]
  exact Nat.lt_of_le_of_lt Nat.and_le_right (by decide)
 ·rw[if_pos (by omega)]
  exact Nat.lt_of_le_of_lt Nat.and_le_right (by decide)
theorem xor_high(a c k:Nat)(h:c<2^k):(a ^^^ c)/2^k=a/2^k:=by
 rw[Nat.xor_div_two_pow,Nat.div_eq_of_lt h,Nat.xor_zero]
theorem fst_high(b c:UInt8):if b.toNat<128 then (fstB b c).toNat/32=b.toNat/32 else (fstB b c).toNat/16=b.toNat/16:=by
 have h:=hid_lt c b;unfold fstB;rw[UInt8.toNat_xor]
 split
 ·rename_i hb
  rw[if_pos hb]at h;exact xor_high b.toNat _ 5 h
 ·rename_i hb
  rw[if_neg hb]at h;exact xor_high b.toNat _ 4 h
theorem fst_hid(b c:UInt8):hidB (fstB b c)=hidB b:=by
 have h:=fst_high b c;have hb:=b.toNat_lt;unfold hidB
 split at h
 ·rw[if_neg (by omega),if_neg (by omega)]
 ·rw[if_pos (by omega),if_pos (by omega)]
theorem fst_fst(b c:UInt8):fstB (fstB b c) c=b:=by
 have h:=fst_hid b c;have e:fstB (fstB b c) c=fstB b c ^^^ (c &&& hidB (fstB b c)):=rfl;rw[e,h];unfold fstB;rw[UInt8.xor_assoc,UInt8.xor_self,UInt8.xor_zero]
theorem xorL_xorL(a m:List UInt8)(h:a.length≤m.length):xorL (xorL a m) m=a:=by
 unfold xorL
 induction a generalizing m with
 | nil=>simp
 | cons x a ih=>
  cases m with
  | nil=>simp at h
  | cons y m=>
   simp only[List.zipWith_cons_cons];rw[ih m (by simpa using h),UInt8.xor_assoc,UInt8.xor_self,UInt8.xor_zero]
theorem xorL_length(a m:List UInt8)(h:a.length≤m.length):(xorL a m).length=a.length:=by unfold xorL;simp;omega
structure Parts (l:List UInt8) (b:UInt8) (pre num rest:List UInt8) (p:Pre):Prop where
 eq:l=b::(pre++(num++rest))
 ah:ahO l=some p
 re:p.re=num++rest
 fit:Fits b (pre++(num++rest)) p pre
 wide:num.length=wideB b
 bad:badB b=false
theorem parts_of{l:List UInt8}{x:Hdr×List UInt8}(h:getO l=some x):∃b pre num p,Parts l b pre num x.2 p∧x.1=hdr b p:=by
 obtain⟨b,t,p,pre,e,ha,hf,hb,hw,hx⟩:=get_parts h;have hx2:x.2=p.re.drop (wideB b):=by rw[hx]
 have hre:p.re=p.re.take (wideB b)++x.2:=by rw[hx2,List.take_append_drop]
 refine⟨b,pre,p.re.take (wideB b),p,⟨?_,ha,hre,?_,by rw[List.length_take];omega,hb⟩,by rw[hx]⟩
 ·rw[e,hf.cut,←hre]
 ·rw[←hre,←hf.cut];exact hf
theorem wide_4(b:UInt8):1≤wideB b∧wideB b≤4:=by unfold wideB;omega
theorem turn_parts{l m:List UInt8}{b:UInt8}{pre num rest:List UInt8}{p:Pre}(h:Parts l b pre num rest p)(hm:m.length=5) :
 turnM l m (1+pre.length) (wideB b)=fstB b (m.headD 0)::(pre++(xorL num (m.drop 1)++rest)):=by
 have hw:=h.wide;unfold turnM turnL;rw[h.eq]
 have e1:((b::(pre++(num++rest))).take (1+pre.length)).drop 1=pre:=by
  rw[Nat.add_comm 1];simp
 have e2:((b::(pre++(num++rest))).drop (1+pre.length)).take (wideB b)=num:=by
  rw[Nat.add_comm 1];simp[←hw]
 have e3:(b::(pre++(num++rest))).drop (1+pre.length+wideB b)=rest:=by
  rw[show 1+pre.length+wideB b=(pre.length+wideB b)+1 by omega,List.drop_succ_cons,←List.drop_drop];simp[←hw]
 rw[e1,e2,e3];simp
theorem turn_ah{l m:List UInt8}{b:UInt8}{pre num rest:List UInt8}{p:Pre}(h:Parts l b pre num rest p)(c:UInt8)(re:List UInt8) :
 ahO (fstB b c::(pre++re))=some ⟨p.lg,p.sp,p.ty,p.ve,p.dc,p.sc,p.tk,p.le,re⟩:=h.fit.go (fstB b c) re (fst_high b c)
theorem msk_parts{l m:List UInt8}{x:Hdr×List UInt8}{b:UInt8}{pre num:List UInt8}{p:Pre}(hg:getO l=some x)(h:Parts l b pre num x.2 p)(hx:x.1=hdr b p)(hm:m.length=5) :
 mskE l m=0∧mskL l m=fstB b (m.headD 0)::(pre++(xorL num (m.drop 1)++x.2)):=by
 have hl:l.length=1+pre.length+num.length+x.2.length:=by rw[h.eq];simp;omega
 have hw:x.1.wi=((wideB b:Nat):Int):=by rw[hx];rfl
 have hw2:=h.wide;constructor
 ·unfold mskE;rw[if_pos hm];unfold gEr;rw[hg]
 ·rw[←turn_parts h hm]
  unfold mskL;rw[if_pos hm,hg];simp only;rw[hw,Int.toNat_natCast]
  congr 1
  omega
theorem um_parts{l m:List UInt8}{x:Hdr×List UInt8}{b:UInt8}{pre num:List UInt8}{p:Pre}(hg:getO l=some x)(h:Parts l b pre num x.2 p)(hm:m.length=5) :
 umE (fstB b (m.headD 0)::(pre++(xorL num (m.drop 1)++x.2))) m=0∧umL (fstB b (m.headD 0)::(pre++(xorL num (m.drop 1)++x.2))) m=l:=by
 have hmd:(m.drop 1).length=4:=by rw[List.length_drop];omega
 have hw:=h.wide;have hw4:=wide_4 b;have hxl:=xorL_length num (m.drop 1) (by omega);have ha:=turn_ah (m:=m) h (m.headD 0) (xorL num (m.drop 1)++x.2)
 have hk:umK (fstB b (m.headD 0)::(pre++(xorL num (m.drop 1)++x.2))) m=wideB b:=by
  unfold umK;rw[show (fstB b (m.headD 0)::(pre++(xorL num (m.drop 1)++x.2))).headD 0=fstB b (m.headD 0) from rfl,fst_fst];rfl
 have ht:turnM (fstB b (m.headD 0)::(pre++(xorL num (m.drop 1)++x.2))) m (1+pre.length) (wideB b)=l:=by
  unfold turnM turnL;rw[show (fstB b (m.headD 0)::(pre++(xorL num (m.drop 1)++x.2))).headD 0=fstB b (m.headD 0) from rfl,fst_fst];have e1:((fstB b (m.headD 0)::(pre++(xorL num (m.drop 1)++x.2))).take (1+pre.length)).drop 1=pre:=by rw[Nat.add_comm 1];simp
  have e2:((fstB b (m.headD 0)::(pre++(xorL num (m.drop 1)++x.2))).drop (1+pre.length)).take (wideB b)=xorL num (m.drop 1):=by rw[Nat.add_comm 1,←hw,←hxl];simp[-List.drop_one]
  have e3:(fstB b (m.headD 0)::(pre++(xorL num (m.drop 1)++x.2))).drop (1+pre.length+wideB b)=x.2:=by
   rw[show 1+pre.length+wideB b=(pre.length+wideB b)+1 by omega,List.drop_succ_cons,←List.drop_drop,←hw,←hxl];simp[-List.drop_one]
  rw[e1,e2,e3,xorL_xorL _ _ (by omega),h.eq];simp
 have ho:umO (fstB b (m.headD 0)::(pre++(xorL num (m.drop 1)++x.2))) m=some l:=by
  unfold umO;rw[ha];simp only;have hlen:(fstB b (m.headD 0)::(pre++(xorL num (m.drop 1)++x.2))).length-(xorL num (m.drop 1)++x.2).length=1+pre.length:=by simp;omega
  rw[hk,hlen,ht,hg,if_neg (by rw[List.length_append];omega)]
 unfold umE umL;rw[if_pos hm,if_pos hm,ho];exact⟨rfl,rfl⟩
end Go.Proofs.YtagbkmoahflfdaaGreatDoor.Hd
namespace Go.Proofs.YtagbkmoahflfdaaGreatDoor.Pn
open Tk Go.RowKit
def cl (k:Int):Int:=if k<1 then 1 else if 4<k then 4 else k
def wn (c:Int):Int:=((256^c.toNat:Nat):Int)
theorem cl_low{k:Int}(h:k<1):cl k=1:=by unfold cl;rw[if_pos h]
theorem cl_high{k:Int}(h:4<k):cl k=4:=by unfold cl;rw[if_neg (by omega),if_pos h]
theorem cl_mid{k:Int}(h:1≤k)(h4:k≤4):cl k=k:=by unfold cl;rw[if_neg (by omega),if_neg (by omega)]
theorem cl_range(k:Int):1≤cl k∧cl k≤4:=by unfold cl;split<;>(try split)<;>omega
theorem wn_1:wn 1=256:=by decide
theorem wn_2:wn 2=65536:=by decide
theorem wn_3:wn 3=16777216:=by decide
theorem wn_4:wn 4=4294967296:=by decide
theorem four{c:Int}(h:1≤c)(h4:c≤4):c=1∨c=2∨c=3∨c=4:=by omega
theorem wn_cases{c:Int}(h:1≤c)(h4:c≤4):wn c=256∨wn c=65536∨wn c=16777216∨wn c=4294967296:=by
 rcases four h h4 with rfl|rfl|rfl|rfl
 ·exact .inl wn_1
 ·exact .inr (.inl wn_2)
 ·exact .inr (.inr (.inl wn_3))
 ·exact .inr (.inr (.inr wn_4))
theorem wn_range{c:Int}(h:1≤c)(h4:c≤4):256≤wn c∧wn c≤4294967296:=by
 have:=wn_cases h h4;omega
theorem bcell{W w1:World}(hb:Below W.heap.size W w1):(∀b o,b<W.heap.size→w1.cell? ⟨b,o,none⟩=W.cell? ⟨b,o,none⟩)∧(∀b o,b<W.heap.size→w1.frozen? ⟨b,o,none⟩=W.frozen? ⟨b,o,none⟩):=
 ⟨fun b o h=>hb.cell (p:=⟨b,o,none⟩) h,fun b o h=>hb.frozen (p:=⟨b,o,none⟩) h⟩
theorem windowOf_low(k:Int)(w:World)(h0:k<1)(h1:-9223372036854775808≤k) :
 Calls Tryz.prog 83 #[.int .i64 k] w fun e w'=>e=.returned (.agg #[.int .i64 1])∧Below w.heap.size w w':=by
 go_enter Tryz.func83,Tryz.ntmps83;go_wp2;exact bodyPost_ret (v:=.agg #[.int .i64 1]) (by simp[results,Tryz.results83,go_sem];try omega) rfl ⟨rfl,(Below.refl _ _).alloc zle _⟩
theorem windowOf_mid(k:Int)(w:World)(h0:1≤k)(h1:k≤4) :
 Calls Tryz.prog 83 #[.int .i64 k] w fun e w'=>e=.returned (.agg #[.int .i64 k])∧Below w.heap.size w w':=by
 go_enter Tryz.func83,Tryz.ntmps83;go_wp2
 all_goals exact bodyPost_ret (v:=.agg #[.int .i64 _]) (by simp[results,Tryz.results83,go_sem];try omega) rfl ⟨rfl,(Below.refl _ _).alloc zle _⟩
theorem windowOf_high(k:Int)(w:World)(h0:4<k)(h1:k≤9223372036854775807) :
 Calls Tryz.prog 83 #[.int .i64 k] w fun e w'=>e=.returned (.agg #[.int .i64 4])∧Below w.heap.size w w':=by
 go_enter Tryz.func83,Tryz.ntmps83;go_wp2;exact bodyPost_ret (v:=.agg #[.int .i64 4]) (by simp[results,Tryz.results83,go_sem];try omega) rfl ⟨rfl,(Below.refl _ _).alloc zle _⟩
theorem windowOf_any(k:Int)(w:World)(h0:-9223372036854775808≤k)(h1:k≤9223372036854775807) :
 Calls Tryz.prog 83 #[.int .i64 k] w fun e w'=>e=.returned (.agg #[.int .i64 (cl k)])∧Below w.heap.size w w':=by
 by_cases h:k<1
 ·rw[cl_low h];exact windowOf_low k w h h0
 ·by_cases h4:4<k
  ·rw[cl_high h4];exact windowOf_high k w h4 h1
  ·rw[cl_mid (by omega) (by omega)];exact windowOf_mid k w (by omega) (by omega)
theorem size_any(c:Int)(w:World)(h0:1≤c)(h1:c≤4) :
 Calls Tryz.prog 118 #[.agg #[.int .i64 c]] w fun e w'=>e=.returned (.int .u64 (wn c))∧Below w.heap.size w w':=by
 rcases four h0 h1 with rfl|rfl|rfl|rfl
 all_goals
  first|rw[wn_1]|rw[wn_2]|rw[wn_3]|rw[wn_4]
  go_enter Tryz.func118,Tryz.ntmps118;go_wp2
  go_ret
  exact⟨rfl,(Below.refl _ _).alloc zle _⟩
theorem half_any(c:Int)(w:World)(h0:1≤c)(h1:c≤4) :
 Calls Tryz.prog 132 #[.agg #[.int .i64 c]] w fun e w'=>e=.returned (.int .u64 (wn c/2))∧Below w.heap.size w w':=by
 have hr:=wn_range h0 h1;go_enter Tryz.func132,Tryz.ntmps132;go_wp2_with fail
 refine (size_any _ _ h0 h1).mono ?_;rintro e w1 ⟨rfl,hb⟩;go_wp2
 go_ret
 exact⟨rfl,((Below.refl _ _).alloc zle _).trans (hb.mono (by simp))⟩
theorem low_any(c n:Int)(w:World)(h0:1≤c)(h1:c≤4)(hn:0≤n)(hn1:n≤18446744073709551615) :
 Calls Tryz.prog 89 #[.agg #[.int .i64 c],.int .u64 n] w fun e w'=>e=.returned (.int .u64 (n%wn c))∧Below w.heap.size w w':=by
 have hr:=wn_range h0 h1;go_enter Tryz.func89,Tryz.ntmps89;go_wp2_with fail
 refine (size_any _ _ h0 h1).mono ?_;rintro e w1 ⟨rfl,hb⟩;go_wp2
 go_ret
 exact⟨rfl,((Below.refl _ _).alloc zle _).trans (hb.mono (by simp))⟩
theorem spans_any(c n:Int)(w:World)(h0:1≤c)(h1:c≤4)(hn:0≤n)(hn1:n≤4611686018427387904) :
 Calls Tryz.prog 84 #[.agg #[.int .i64 c],.int .u64 n] w fun e w'=>e=.returned (.bool (decide (2*n<wn c)))∧Below w.heap.size w w':=by
 have hr:=wn_range h0 h1;go_enter Tryz.func84,Tryz.ntmps84;go_wp2_with fail
 refine (size_any _ _ h0 h1).mono ?_;rintro e w1 ⟨rfl,hb⟩;go_wp2
 go_ret
 exact⟨rfl,((Below.refl _ _).alloc zle _).trans (hb.mono (by simp))⟩
def ds (full acked:Int) (any:Bool):Int:=if any then (if acked<full then full-acked else 1) else full+1
def by' (d:Int):Int:=if 2*d<256 then 1 else if 2*d<65536 then 2 else if 2*d<16777216 then 3 else 4
def ep (largest:Int) (any:Bool):Int:=if any then largest+1 else 0
def nr (e c W:Int):Int:=
 if c+W/2≤e∧c<4611686018427387904-W then c+W else if e+W/2<c∧W≤c then c-W else c
def cd (e x W:Int):Int:=e-e%W+x%W
def ex (largest:Int) (any:Bool) (x W:Int):Int:=nr (ep largest any) (cd (ep largest any) x W) W
theorem ds_range(full acked:Int)(any:Bool)(h0:0≤full)(h1:full<4611686018427387904)(h2:0≤acked):1≤ds full acked any∧ds full acked any≤4611686018427387904:=by
 unfold ds;split
 ·split<;>omega
 ·omega
theorem cut_any(n k:Int)(w:World)(hn:0≤n)(hn1:n≤18446744073709551615)(h0:-9223372036854775808≤k)(h1:k≤9223372036854775807) :
 Calls Tryz.prog 55 #[.int .u64 n,.int .i64 k] w fun e w'=>e=.returned (.int .u64 (n%wn (cl k)))∧Below w.heap.size w w':=by
 have hc:=cl_range k;go_enter Tryz.func55,Tryz.ntmps55;go_wp2_with fail
 refine (windowOf_any _ _ h0 h1).mono ?_;rintro e w1 ⟨rfl,hb⟩;have hz:=hb.size;go_wp2_with fail
 refine (low_any _ _ _ hc.1 hc.2 hn hn1).mono ?_;rintro e w2 ⟨rfl,hb2⟩;go_wp2
 go_ret
 exact⟨rfl,hb.trans (hb2.mono hz)⟩
theorem distance_any(full acked:Int)(any:Bool)(w:World)(h0:0≤full)(h1:full<4611686018427387904)(h2:0≤acked) :
 Calls Tryz.prog 82 #[.int .u64 full,.int .u64 acked,.bool any] w fun e w'=>e=.returned (.int .u64 (ds full acked any))∧w=w':=by
 cases any
 ·go_enter Tryz.func82,Tryz.ntmps82
  go_wp2
  go_ret
  exact⟨by simp[ds],rfl⟩
 ·by_cases h:acked<full
  ·go_enter Tryz.func82,Tryz.ntmps82
   go_wp2
   go_ret
   exact⟨by simp[ds,h],rfl⟩
  ·go_enter Tryz.func82,Tryz.ntmps82
   go_wp2
   go_ret
   exact⟨by simp[ds];omega,rfl⟩
theorem windowOf_one(w:World):Calls Tryz.prog 83 #[.int .i64 1] w fun e w'=>e=.returned (.agg #[.int .i64 1])∧Below w.heap.size w w':=windowOf_mid 1 w (by omega) (by omega)
theorem windowOf_two(w:World):Calls Tryz.prog 83 #[.int .i64 2] w fun e w'=>e=.returned (.agg #[.int .i64 2])∧Below w.heap.size w w':=windowOf_mid 2 w (by omega) (by omega)
theorem windowOf_three(w:World):Calls Tryz.prog 83 #[.int .i64 3] w fun e w'=>e=.returned (.agg #[.int .i64 3])∧Below w.heap.size w w':=windowOf_mid 3 w (by omega) (by omega)
theorem spans_true(c W n:Int)(w:World)(h0:1≤c)(h1:c≤4)(hn:0≤n)(hn1:n≤4611686018427387904)(hW:wn c=W)(h:2*n<W) :
 Calls Tryz.prog 84 #[.agg #[.int .i64 c],.int .u64 n] w fun e w'=>e=.returned (.bool true)∧Below w.heap.size w w':=
 (spans_any c n w h0 h1 hn hn1).mono fun e w' hh=>by rw[hW,decide_eq_true h]at hh;exact hh
theorem spans_false(c W n:Int)(w:World)(h0:1≤c)(h1:c≤4)(hn:0≤n)(hn1:n≤4611686018427387904)(hW:wn c=W)(h:W≤2*n) :
 Calls Tryz.prog 84 #[.agg #[.int .i64 c],.int .u64 n] w fun e w'=>e=.returned (.bool false)∧Below w.heap.size w w':=
 (spans_any c n w h0 h1 hn hn1).mono fun e w' hh=>by rw[hW,decide_eq_false (by omega)]at hh;exact hh
theorem bytes_1(full acked:Int)(any:Bool)(w:World)(h0:0≤full)(h1:full<4611686018427387904)(h2:0≤acked)(g1:2*ds full acked any<256) :
 Calls Tryz.prog 53 #[.int .u64 full,.int .u64 acked,.bool any] w fun e w'=>e=.returned (.int .i64 1)∧Below w.heap.size w w':=by
 have hd:=ds_range full acked any h0 h1 h2;go_enter Tryz.func53,Tryz.ntmps53;go_wp2_with fail
 refine (distance_any _ _ _ _ h0 h1 h2).mono ?_;rintro e w1 ⟨rfl,rfl⟩;go_wp2_with fail
 refine wp_loop_rounds 5 ?_;rw[rounds_succ];go_wp2_with fail
 refine (windowOf_one _).mono ?_;rintro e a1 ⟨rfl,ha1⟩;have za1:=ha1.size;go_wp2_with fail
 refine (spans_true 1 256 _ _ (by omega) (by omega) (by omega) hd.2 wn_1 (by omega)).mono ?_;rintro e b1 ⟨rfl,hb1⟩;have zb1:=hb1.size;go_wp2_with fail
 go_ret
 exact⟨rfl,(ha1.trans (hb1.mono (by omega)))⟩
theorem bytes_2(full acked:Int)(any:Bool)(w:World)(h0:0≤full)(h1:full<4611686018427387904)(h2:0≤acked)(g1:256≤2*ds full acked any)(g2:2*ds full acked any<65536) :
 Calls Tryz.prog 53 #[.int .u64 full,.int .u64 acked,.bool any] w fun e w'=>e=.returned (.int .i64 2)∧Below w.heap.size w w':=by
 have hd:=ds_range full acked any h0 h1 h2;go_enter Tryz.func53,Tryz.ntmps53;go_wp2_with fail
 refine (distance_any _ _ _ _ h0 h1 h2).mono ?_;rintro e w1 ⟨rfl,rfl⟩;go_wp2_with fail
 refine wp_loop_rounds 5 ?_;rw[rounds_succ];go_wp2_with fail
 refine (windowOf_one _).mono ?_;rintro e a1 ⟨rfl,ha1⟩;have za1:=ha1.size;go_wp2_with fail
 refine (spans_false 1 256 _ _ (by omega) (by omega) (by omega) hd.2 wn_1 (by omega)).mono ?_;rintro e b1 ⟨rfl,hb1⟩;have zb1:=hb1.size;go_wp2_with fail
 rw[rounds_succ];go_wp2_with fail
 refine (windowOf_two _).mono ?_;rintro e a2 ⟨rfl,ha2⟩;have za2:=ha2.size;go_wp2_with fail
 refine (spans_true 2 65536 _ _ (by omega) (by omega) (by omega) hd.2 wn_2 (by omega)).mono ?_;rintro e b2 ⟨rfl,hb2⟩;have zb2:=hb2.size;go_wp2_with fail
 go_ret
 exact⟨rfl,(ha1.trans ((hb1.mono (by omega)).trans ((ha2.mono (by omega)).trans (hb2.mono (by omega)))))⟩
theorem bytes_3(full acked:Int)(any:Bool)(w:World)(h0:0≤full)(h1:full<4611686018427387904)(h2:0≤acked)(g1:256≤2*ds full acked any)(g2:65536≤2*ds full acked any)(g3:2*ds full acked any<16777216) :
 Calls Tryz.prog 53 #[.int .u64 full,.int .u64 acked,.bool any] w fun e w'=>e=.returned (.int .i64 3)∧Below w.heap.size w w':=by
 have hd:=ds_range full acked any h0 h1 h2;go_enter Tryz.func53,Tryz.ntmps53;go_wp2_with fail
 refine (distance_any _ _ _ _ h0 h1 h2).mono ?_;rintro e w1 ⟨rfl,rfl⟩;go_wp2_with fail
 refine wp_loop_rounds 5 ?_;rw[rounds_succ];go_wp2_with fail
 refine (windowOf_one _).mono ?_;rintro e a1 ⟨rfl,ha1⟩;have za1:=ha1.size;go_wp2_with fail
 refine (spans_false 1 256 _ _ (by omega) (by omega) (by omega) hd.2 wn_1 (by omega)).mono ?_;rintro e b1 ⟨rfl,hb1⟩;have zb1:=hb1.size;go_wp2_with fail
 rw[rounds_succ];go_wp2_with fail
 refine (windowOf_two _).mono ?_;rintro e a2 ⟨rfl,ha2⟩;have za2:=ha2.size;go_wp2_with fail
 refine (spans_false 2 65536 _ _ (by omega) (by omega) (by omega) hd.2 wn_2 (by omega)).mono ?_;rintro e b2 ⟨rfl,hb2⟩;have zb2:=hb2.size;go_wp2_with fail
 rw[rounds_succ];go_wp2_with fail
 refine (windowOf_three _).mono ?_;rintro e a3 ⟨rfl,ha3⟩;have za3:=ha3.size;go_wp2_with fail
 refine (spans_true 3 16777216 _ _ (by omega) (by omega) (by omega) hd.2 wn_3 (by omega)).mono ?_;rintro e b3 ⟨rfl,hb3⟩;have zb3:=hb3.size;go_wp2_with fail
 go_ret
 exact⟨rfl,(ha1.trans ((hb1.mono (by omega)).trans ((ha2.mono (by omega)).trans ((hb2.mono (by omega)).trans ((ha3.mono (by omega)).trans (hb3.mono (by omega)))))))⟩
theorem bytes_4(full acked:Int)(any:Bool)(w:World)(h0:0≤full)(h1:full<4611686018427387904)(h2:0≤acked)(g1:256≤2*ds full acked any)(g2:65536≤2*ds full acked any)(g3:16777216≤2*ds full acked any) :
 Calls Tryz.prog 53 #[.int .u64 full,.int .u64 acked,.bool any] w fun e w'=>e=.returned (.int .i64 4)∧Below w.heap.size w w':=by
 have hd:=ds_range full acked any h0 h1 h2;go_enter Tryz.func53,Tryz.ntmps53;go_wp2_with fail
 refine (distance_any _ _ _ _ h0 h1 h2).mono ?_;rintro e w1 ⟨rfl,rfl⟩;go_wp2_with fail
 refine wp_loop_rounds 5 ?_;rw[rounds_succ];go_wp2_with fail
 refine (windowOf_one _).mono ?_;rintro e a1 ⟨rfl,ha1⟩;have za1:=ha1.size;go_wp2_with fail
 refine (spans_false 1 256 _ _ (by omega) (by omega) (by omega) hd.2 wn_1 (by omega)).mono ?_;rintro e b1 ⟨rfl,hb1⟩;have zb1:=hb1.size;go_wp2_with fail
 rw[rounds_succ];go_wp2_with fail
 refine (windowOf_two _).mono ?_;rintro e a2 ⟨rfl,ha2⟩;have za2:=ha2.size;go_wp2_with fail
 refine (spans_false 2 65536 _ _ (by omega) (by omega) (by omega) hd.2 wn_2 (by omega)).mono ?_;rintro e b2 ⟨rfl,hb2⟩;have zb2:=hb2.size;go_wp2_with fail
 rw[rounds_succ];go_wp2_with fail
 refine (windowOf_three _).mono ?_;rintro e a3 ⟨rfl,ha3⟩;have za3:=ha3.size;go_wp2_with fail
 refine (spans_false 3 16777216 _ _ (by omega) (by omega) (by omega) hd.2 wn_3 (by omega)).mono ?_;rintro e b3 ⟨rfl,hb3⟩;have zb3:=hb3.size;go_wp2_with fail
 rw[rounds_succ];go_wp2
 go_ret
 exact⟨rfl,(ha1.trans ((hb1.mono (by omega)).trans ((ha2.mono (by omega)).trans ((hb2.mono (by omega)).trans ((ha3.mono (by omega)).trans (hb3.mono (by omega)))))))⟩
theorem bytes_any(full acked:Int)(any:Bool)(w:World)(h0:0≤full)(h1:full<4611686018427387904)(h2:0≤acked) :
 Calls Tryz.prog 53 #[.int .u64 full,.int .u64 acked,.bool any] w fun e w'=>e=.returned (.int .i64 (by' (ds full acked any)))∧Below w.heap.size w w':=by
 by_cases g1:2*ds full acked any<256
 ·rw[show by' (ds full acked any)=1 by unfold by';rw[if_pos g1]];exact bytes_1 full acked any w h0 h1 h2 g1
 ·by_cases g2:2*ds full acked any<65536
  ·rw[show by' (ds full acked any)=2 by unfold by';rw[if_neg g1,if_pos g2]];exact bytes_2 full acked any w h0 h1 h2 (by omega) g2
  ·by_cases g3:2*ds full acked any<16777216
   ·rw[show by' (ds full acked any)=3 by unfold by';rw[if_neg g1,if_neg g2,if_pos g3]];exact bytes_3 full acked any w h0 h1 h2 (by omega) (by omega) g3
   ·rw[show by' (ds full acked any)=4 by unfold by';rw[if_neg g1,if_neg g2,if_neg g3]];exact bytes_4 full acked any w h0 h1 h2 (by omega) (by omega) (by omega)
theorem mod_bd{n W:Int}(h:0<W)(hn:0≤n):0≤n%W∧n%W<W∧n%W≤n:=by
 refine⟨Int.emod_nonneg _ (by omega),Int.emod_lt_of_pos _ h,?_⟩;obtain⟨m,rfl⟩:=Int.eq_ofNat_of_zero_le hn;obtain⟨k,rfl⟩:=Int.eq_ofNat_of_zero_le (show 0≤W by omega);exact Int.ofNat_le.2 (Nat.mod_le m k)
theorem wr{x:Int}(h:0≤x)(h1:x≤18446744073709551615):IntKind.u64.wrap x=x:=by rw[IntKind.wrap_u64];omega
theorem box_keep{B:Nat}{v0 v1:Value}{w0 w w1:World}(hb:Below w.heap.size w w1)
 (h:w.cell? ⟨B,0,none⟩=some v0∧w.cell? ⟨B,1,none⟩=some v1∧Below B w0 w∧B<w.heap.size) :
 w1.cell? ⟨B,0,none⟩=some v0∧w1.cell? ⟨B,1,none⟩=some v1∧Below B w0 w1∧B<w1.heap.size:=
 ⟨((bcell hb).1 B 0 h.2.2.2).trans h.1,((bcell hb).1 B 1 h.2.2.2).trans h.2.1,h.2.2.1.trans (hb.mono (by omega)),by have:=hb.size;omega⟩
theorem below_drew{B:Nat}{a w:World}(h:Below B a w):Below B a w.drew:=h.trans ⟨rfl,rfl,rfl,Nat.le_refl _,fun _ _=>rfl⟩
theorem candidate_any(c e x:Int)(w:World)(h0:1≤c)(h1:c≤4)(he:0≤e)(he1:e≤4611686018427387904)(hx:0≤x)(hx1:x≤18446744073709551615) :
 Calls Tryz.prog 102 #[.agg #[.int .i64 c,.int .u64 e],.int .u64 x] w fun y w'=>y=.returned (.int .u64 (cd e x (wn c)))∧Below w.heap.size w w':=by
 have hr:=wn_range h0 h1;have m1:=mod_bd (n:=e) (W:=wn c) (by omega) he;have m2:=mod_bd (n:=x) (W:=wn c) (by omega) hx;have L1:=zh (fun w=>low_any c e w h0 h1 he (by omega));have L2:=zh (fun w=>low_any c x w h0 h1 hx hx1);go_enter Tryz.func102,Tryz.ntmps102;go_wp2_with fail
 go_region_held3 (fun w'=>w'.cell? ⟨w.heap.size,0,none⟩=some (.int .i64 c)∧w'.cell? ⟨w.heap.size,1,none⟩=some (.int .u64 e)∧Below w.heap.size w w'∧w.heap.size<w'.heap.size)
  (first|exact box_keep hb (by assumption)|(refine⟨by simp[go_sem],by simp[go_sem],below_drew ((Below.refl _ _).alloc zle _),by simp⟩)|go_keep)
  (first|(go_at_call 89;(first|(with_reducible refine (L1.out _).mono ?_)|(with_reducible refine (L2.out _).mono ?_));rintro y w1 ⟨rfl,hb⟩))
 rename_i hH
 go_wp2
 go_ret
 exact⟨by unfold cd;rw[wr (x:=e-e%wn c) (by omega) (by omega),wr (by omega) (by omega)];rfl,hH.2.2.1⟩
end Go.Proofs.YtagbkmoahflfdaaGreatDoor.Pn
