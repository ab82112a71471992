import Derived.Test.YtagbkmoahflfdaaGreatDoorJp01
import Derived.Test.YtagbkmoahflfdaaGreatDoorJp18
import Derived.Test.YtagbkmoahflfdaaGreatDoorJp17
import Derived.Test.YtagbkmoahflfdaaGreatDoorJp16
import Derived.OpenShut
set_option maxRecDepth 20000
set_option linter.unusedVariables false
set_option maxHeartbeats 4000000
set_option linter.unusedSimpArgs false
namespace Go.Proofs.YtagbkmoahflfdaaGreatDoor.Hd
open Tk Go.RowKit Vm
def keptB (lg sp ph:Bool) (ty ve:Int) (sc tk:List UInt8) (le:Int):Bool:=
 if lg then decide (sp=false∧ph=false∧(ty≠0→tk=[])) else decide (ty=0∧ve=0∧sc=[]∧tk=[]∧le=0)
def mayB (lg sp ph:Bool) (ty ve:Int) (dc sc tk:List UInt8) (le wi nu:Int):Bool:=
 keptB lg sp ph ty ve sc tk le && bndB lg ty dc sc tk le && numB wi nu
theorem mayB_1{lg sp ph:Bool}{ty ve:Int}{dc sc tk:List UInt8}{le wi nu:Int}(h:keptB lg sp ph ty ve sc tk le=false):mayB lg sp ph ty ve dc sc tk le wi nu=false:=by unfold mayB;rw[h];rfl
theorem mayB_2{lg sp ph:Bool}{ty ve:Int}{dc sc tk:List UInt8}{le wi nu:Int}(h:bndB lg ty dc sc tk le=false):mayB lg sp ph ty ve dc sc tk le wi nu=false:=by unfold mayB;rw[h];simp
theorem mayB_3{lg sp ph:Bool}{ty ve:Int}{dc sc tk:List UInt8}{le wi nu:Int}(h1:keptB lg sp ph ty ve sc tk le=true)(h:bndB lg ty dc sc tk le=true):mayB lg sp ph ty ve dc sc tk le wi nu=numB wi nu:=by unfold mayB;rw[h1,h];simp
theorem may_any(lg sp ph:Bool)(ty ve:Int)(dc sc tk:List UInt8)(le wi nu:Int)(w:World)(wty:-9223372036854775808≤ty)(wty2:ty≤9223372036854775807)(wve:0≤ve)(wve2:ve≤4294967295)(wdc:dc.length≤9223372036854775807)(wsc:sc.length≤9223372036854775807)(wtk:tk.length≤9223372036854775807)(wle:0≤le)(wle2:le≤18446744073709551615)(wwi:-9223372036854775808≤wi)(wwi2:wi≤9223372036854775807)(wnu:0≤nu)(wnu2:nu≤18446744073709551615) :
 Calls Tryz.prog 85 #[.agg #[.bool lg,.bool sp,.bool ph,.int .i64 ty,.int .u32 ve,.string ⟨dc.toArray⟩,.string ⟨sc.toArray⟩,.string ⟨tk.toArray⟩,.int .u64 le,.int .i64 wi,.int .u64 nu]] w fun e w'=>e=.returned (.bool (mayB lg sp ph ty ve dc sc tk le wi nu))∧Below w.heap.size w w':=by
 cases lg with
 | false=>
  by_cases h:ty=0∧ve=0∧sc=[]∧tk=[]∧le=0
  ·have hk:keptB false sp ph ty ve sc tk le=true:=by unfold keptB;rw[if_neg (by decide)];exact decide_eq_true h
   cases hb:bndB false ty dc sc tk le with
   | false=>rw[mayB_2 hb];obtain⟨rfl,rfl,rfl,rfl,rfl⟩:=h;exact may_s10 sp ph dc wi nu w wdc wwi wwi2 wnu wnu2 hb
   | true=>rw[mayB_3 hk hb];obtain⟨rfl,rfl,rfl,rfl,rfl⟩:=h;exact may_s11 sp ph dc wi nu w wdc wwi wwi2 wnu wnu2 hb
  ·have hk:keptB false sp ph ty ve sc tk le=false:=by unfold keptB;rw[if_neg (by decide)];exact decide_eq_false h
   rw[mayB_1 hk];exact may_s2 sp ph ty ve dc sc tk le wi nu w wty wty2 wve wve2 wdc wsc wtk wle wle2 wwi wwi2 wnu wnu2 (zh h)
 | true=>
  by_cases h0:ty=0
  ·subst h0
   cases sp with
   | true=>
    have hk:keptB true true ph 0 ve sc tk le=false:=by simp[keptB]
    rw[mayB_1 hk];exact may_l2 ph ve dc sc tk le wi nu w wve wve2 wdc wsc wtk wle wle2 wwi wwi2 wnu wnu2
   | false=>cases ph with
    | true=>
     have hk:keptB true false true 0 ve sc tk le=false:=by simp[keptB]
     rw[mayB_1 hk];exact may_l3 ve dc sc tk le wi nu w wve wve2 wdc wsc wtk wle wle2 wwi wwi2 wnu wnu2
    | false=>
     have hk:keptB true false false 0 ve sc tk le=true:=by simp[keptB]
     cases hb:bndB true 0 dc sc tk le with
     | false=>rw[mayB_2 hb];exact may_l10 ve dc sc tk le wi nu w wve wve2 wdc wsc wtk wle wle2 wwi wwi2 wnu wnu2 hb
     | true=>rw[mayB_3 hk hb];exact may_l11 ve dc sc tk le wi nu w wve wve2 wdc wsc wtk wle wle2 wwi wwi2 wnu wnu2 hb
  ·have hne:(ty != 0)=true:=by simp[h0]
   cases sp with
   | true=>
    have hk:keptB true true ph ty ve sc tk le=false:=by simp[keptB]
    rw[mayB_1 hk];exact may_n2 ph ty ve dc sc tk le wi nu w wty wty2 wve wve2 wdc wsc wtk wle wle2 wwi wwi2 wnu wnu2 hne
   | false=>cases ph with
    | true=>
     have hk:keptB true false true ty ve sc tk le=false:=by simp[keptB]
     rw[mayB_1 hk];exact may_n3 ty ve dc sc tk le wi nu w wty wty2 wve wve2 wdc wsc wtk wle wle2 wwi wwi2 wnu wnu2 hne
    | false=>
     by_cases ht:tk=[]
     ·subst ht
      have hk:keptB true false false ty ve sc [] le=true:=by simp[keptB]
      cases hb:bndB true ty dc sc [] le with
      | false=>rw[mayB_2 hb];exact may_n10 ty ve dc sc le wi nu w wty wty2 wve wve2 wdc wsc wle wle2 wwi wwi2 wnu wnu2 hne hb
      | true=>rw[mayB_3 hk hb];exact may_n11 ty ve dc sc le wi nu w wty wty2 wve wve2 wdc wsc wle wle2 wwi wwi2 wnu wnu2 hne hb
     ·have hk:keptB true false false ty ve sc tk le=false:=by simp[keptB,h0,ht]
      rw[mayB_1 hk];exact may_n4 ty ve dc sc tk le wi nu w wty wty2 wve wve2 wdc wsc wtk wle wle2 wwi wwi2 wnu wnu2 hne ht
def badN (n:Nat):Bool:=if n<128 then decide (n/8%4≠0) else decide (n/4%4≠0)
theorem badN_eq:∀n:Nat,n<256→(bits .and .u8 (n:Int) (if 128≤n then (12:Int) else 24) != 0)=badN n:=by decide +kernel
theorem t4:∀n:Nat,n<256→(bits .and .u8 (n:Int) 4 != 0)=decide (n/4%2=1):=by decide +kernel
def rn1 (n:Nat) (st:St):St:=⟨st.s,st.w || badN n⟩
def rnV (n:Nat) (st:St):Nat:=bk ((rn1 n st).take (1+n%4))
def rnS (n:Nat) (st:St):St:=(rn1 n st).skip (1+n%4)
theorem readNumber_any(b n:Nat)(st:St)(x2 x3 x5 x6 x7 x8 x9 xa:Value)(w:World)(h:Blk b st x2 x3 (.bool false) x5 x6 x7 x8 x9 xa (.int .i64 0) (.int .u64 0) (.int .u8 n) w)(hl:st.s.length≤9223372036854775807)(hn:n<256) :
 Calls Tryz.prog 131 #[.pointer (some ⟨b,0,none⟩)] w fun e w'=>e=.returned (.tuple #[])∧Blk b (rnS n st) x2 x3 (.bool (decide (n/4%2=1))) x5 x6 x7 x8 x9 xa (.int .i64 (1+n%4:Nat)) (.int .u64 (rnV n st:Nat)) (.int .u8 n) w'∧Below b w w':=by
 obtain⟨s,wr⟩:=st
 cases wr with
 | false=>
  have e:rn1 n ⟨s,false⟩=⟨s,badN n⟩:=rfl;exact readNumber_f b n (1+n%4) (rnV n ⟨s,false⟩) s (rnS n ⟨s,false⟩) x2 x3 x5 x6 x7 x8 x9 xa (badN n) (decide (n/4%2=1)) _ w h (zh ⟨by unfold rnV;rw[e],by unfold rnS;rw[e]⟩) (zh rfl) (zh rfl) (badN_eq n hn) (t4 n hn) hl hn (by omega)
 | true=>
  have e:rn1 n ⟨s,true⟩=⟨s,true⟩:=rfl;exact readNumber_t b n (1+n%4) (rnV n ⟨s,true⟩) s (rnS n ⟨s,true⟩) x2 x3 x5 x6 x7 x8 x9 xa (decide (n/4%2=1)) w h (zh ⟨by unfold rnV;rw[e],by unfold rnS;rw[e]⟩) (zh rfl) (t4 n hn) hl hn (by omega)
theorem good_t(b n:Nat)(s:List UInt8)(lg sp ph:Bool)(ty ve:Int)(dc sc tk:List UInt8)(le wi nu:Int)(w:World)(h:Blk b ⟨s,true⟩ (.bool lg) (.bool sp) (.bool ph) (.int .i64 ty) (.int .u32 ve) (.string ⟨dc.toArray⟩) (.string ⟨sc.toArray⟩) (.string ⟨tk.toArray⟩) (.int .u64 le) (.int .i64 wi) (.int .u64 nu) (.int .u8 n) w) :
 Calls Tryz.prog 128 #[.pointer (some ⟨b,0,none⟩)] w fun e w'=>e=.returned (.bool false)∧Below w.heap.size w w':=by
 have c1:w.cell? ⟨b,1,none⟩=some (.bool true):=h.cell 1;clear h;go_enter Tryz.func128,Tryz.ntmps128;go_wp2
 go_ret
 exact⟨rfl,Below.refl _ _⟩
theorem good_f(b n:Nat)(s:List UInt8)(lg sp ph:Bool)(ty ve:Int)(dc sc tk:List UInt8)(le wi nu:Int)(w:World)(h:Blk b ⟨s,false⟩ (.bool lg) (.bool sp) (.bool ph) (.int .i64 ty) (.int .u32 ve) (.string ⟨dc.toArray⟩) (.string ⟨sc.toArray⟩) (.string ⟨tk.toArray⟩) (.int .u64 le) (.int .i64 wi) (.int .u64 nu) (.int .u8 n) w)(wty:-9223372036854775808≤ty)(wty2:ty≤9223372036854775807)(wve:0≤ve)(wve2:ve≤4294967295)(wdc:dc.length≤9223372036854775807)(wsc:sc.length≤9223372036854775807)(wtk:tk.length≤9223372036854775807)(wle:0≤le)(wle2:le≤18446744073709551615)(wwi:-9223372036854775808≤wi)(wwi2:wi≤9223372036854775807)(wnu:0≤nu)(wnu2:nu≤18446744073709551615) :
 Calls Tryz.prog 128 #[.pointer (some ⟨b,0,none⟩)] w fun e w'=>e=.returned (.bool (mayB lg sp ph ty ve dc sc tk le wi nu))∧Below w.heap.size w w':=by
 have c1:w.cell? ⟨b,1,none⟩=some (.bool false):=h.cell 1;have c2:=h.cell 2;simp only[List.getElem?_toArray,List.getElem?_cons_succ,List.getElem?_cons_zero]at c2;have c3:=h.cell 3;simp only[List.getElem?_toArray,List.getElem?_cons_succ,List.getElem?_cons_zero]at c3;have c4:=h.cell 4;simp only[List.getElem?_toArray,List.getElem?_cons_succ,List.getElem?_cons_zero]at c4;have c5:=h.cell 5;simp only[List.getElem?_toArray,List.getElem?_cons_succ,List.getElem?_cons_zero]at c5;have c6:=h.cell 6;simp only[List.getElem?_toArray,List.getElem?_cons_succ,List.getElem?_cons_zero]at c6;have c7:=h.cell 7;simp only[List.getElem?_toArray,List.getElem?_cons_succ,List.getElem?_cons_zero]at c7;have c8:=h.cell 8;simp only[List.getElem?_toArray,List.getElem?_cons_succ,List.getElem?_cons_zero]at c8;have c9:=h.cell 9;simp only[List.getElem?_toArray,List.getElem?_cons_succ,List.getElem?_cons_zero]at c9;have c10:=h.cell 10;simp only[List.getElem?_toArray,List.getElem?_cons_succ,List.getElem?_cons_zero]at c10;have c11:=h.cell 11;simp only[List.getElem?_toArray,List.getElem?_cons_succ,List.getElem?_cons_zero]at c11;have c12:=h.cell 12;simp only[List.getElem?_toArray,List.getElem?_cons_succ,List.getElem?_cons_zero]at c12;clear h;go_enter Tryz.func128,Tryz.ntmps128;go_wp2_with fail
 refine (may_any lg sp ph ty ve dc sc tk le wi nu _ wty wty2 wve wve2 wdc wsc wtk wle wle2 wwi wwi2 wnu wnu2).mono ?_;rintro e w1 ⟨rfl,hb⟩;go_wp2
 go_ret
 exact⟨rfl,hb⟩
theorem good_any(b n:Nat)(st:St)(lg sp ph:Bool)(ty ve:Int)(dc sc tk:List UInt8)(le wi nu:Int)(w:World)(h:Blk b st (.bool lg) (.bool sp) (.bool ph) (.int .i64 ty) (.int .u32 ve) (.string ⟨dc.toArray⟩) (.string ⟨sc.toArray⟩) (.string ⟨tk.toArray⟩) (.int .u64 le) (.int .i64 wi) (.int .u64 nu) (.int .u8 n) w)(wty:-9223372036854775808≤ty)(wty2:ty≤9223372036854775807)(wve:0≤ve)(wve2:ve≤4294967295)(wdc:dc.length≤9223372036854775807)(wsc:sc.length≤9223372036854775807)(wtk:tk.length≤9223372036854775807)(wle:0≤le)(wle2:le≤18446744073709551615)(wwi:-9223372036854775808≤wi)(wwi2:wi≤9223372036854775807)(wnu:0≤nu)(wnu2:nu≤18446744073709551615) :
 Calls Tryz.prog 128 #[.pointer (some ⟨b,0,none⟩)] w fun e w'=>e=.returned (.bool (!st.w && mayB lg sp ph ty ve dc sc tk le wi nu))∧Below w.heap.size w w':=by
 obtain⟨s,wr⟩:=st
 cases wr with
 | false=>exact good_f b n s lg sp ph ty ve dc sc tk le wi nu w h wty wty2 wve wve2 wdc wsc wtk wle wle2 wwi wwi2 wnu wnu2
 | true=>exact good_t b n s lg sp ph ty ve dc sc tk le wi nu w h
end Go.Proofs.YtagbkmoahflfdaaGreatDoor.Hd
namespace Go.Proofs.YtagbkmoahflfdaaGreatDoor.Hd
open Go.RowKit Vm
theorem St.take_len'(st:St)(n:Nat):(st.take n).length≤st.s.length:=by
 unfold St.take
 split
 ·rw[List.length_take];omega
 ·exact Nat.zero_le _
theorem St.take_ok{s:List UInt8}{w:Bool}{n:Nat}(h:n≤s.length):St.take ⟨s,w⟩ n=s.take n:=if_pos h
theorem St.skip_ok{s:List UInt8}{w:Bool}{n:Nat}(h:n≤s.length):St.skip ⟨s,w⟩ n=⟨s.drop n,w⟩:=if_pos h
theorem St.skip_no{s:List UInt8}{w:Bool}{n:Nat}(h:s.length<n):St.skip ⟨s,w⟩ n=⟨s,true⟩:=if_neg (Nat.not_le.2 h)
theorem gN_lt(l:List UInt8):gN l<4611686018427387904:=by
 unfold gN
 split
 ·have hg:=gk_pos l
  unfold gn;exact Nat.lt_of_lt_of_le (Nat.mod_lt _ (Nat.pow_pos (by decide))) (Nat.le_trans (Nat.pow_le_pow_right (by decide) (show 8*gk l-2≤62 by omega)) (by decide))
 ·decide
theorem rdId_len(st:St):(rdId st).length≤st.s.length:=Nat.le_trans (St.take_len' _ _) (St.skip_len _ _)
theorem rdTok_len(st:St):(rdTok st).length≤st.s.length:=Nat.le_trans (St.take_len' _ _) (St.vs_len _)
structure Bnd (r:Rd) (m:Nat):Prop where
 ty:r.ty≤3
 ve:r.ve≤4294967295
 dc:r.dc.length≤m
 sc:r.sc.length≤m
 tk:r.tk.length≤m
 le:r.le<4611686018427387904
 n:r.n<256
 st:r.st.s.length≤m
theorem raN_lt(l:List UInt8):raN l<256:=bk1 _ (St.take_len _ _)
theorem ra_bnd(l:List UInt8):Bnd (ra l) l.length:=by
 have hn:=raN_lt l;have h1:(raS2 l).s.length≤l.length:=St.skip_len _ _;by_cases h:128≤raN l
 ·have e:ra l=⟨(lgSt (raN l) (raS2 l)).vs,true,false,lgTy (raN l),bk ((raS2 l).take 4),rdId ((raS2 l).skip 4),rdId (rdIdS ((raS2 l).skip 4)),lgTok (raN l) (raS2 l),(lgSt (raN l) (raS2 l)).vn,raN l⟩:=if_pos h
  rw[e];clear e;have h2:=Nat.le_trans (St.skip_len (raS2 l) 4) h1;have h3:=Nat.le_trans (rdIdS_len ((raS2 l).skip 4)) h2;have h4:=Nat.le_trans (rdIdS_len (rdIdS ((raS2 l).skip 4))) h3;have hv:bk ((raS2 l).take 4)≤4294967295:=by have:=(bk4 ((raS2 l).take 4) (St.take_len _ _)).2;omega
  have h5:(lgSt (raN l) (raS2 l)).s.length≤l.length:=by
   unfold lgSt
   split
   ·exact Nat.le_trans (rdTokS_len _) h4
   ·exact h4
  have h6:(lgTok (raN l) (raS2 l)).length≤l.length:=by
   unfold lgTok
   split
   ·exact Nat.le_trans (rdTok_len _) h4
   ·exact Nat.zero_le _
  have h7:=Nat.le_trans (rdId_len ((raS2 l).skip 4)) h2;have h8:=Nat.le_trans (rdId_len (rdIdS ((raS2 l).skip 4))) h3;have h9:(lgSt (raN l) (raS2 l)).vn<4611686018427387904:=gN_lt _;have h10:=Nat.le_trans (St.vs_len (lgSt (raN l) (raS2 l))) h5;have h11:lgTy (raN l)≤3:=by unfold lgTy;omega
  generalize lgSt (raN l) (raS2 l)=a1 at *;generalize lgTok (raN l) (raS2 l)=a2 at *;generalize rdId ((raS2 l).skip 4)=a3 at *;generalize rdId (rdIdS ((raS2 l).skip 4))=a4 at *;generalize bk ((raS2 l).take 4)=a5 at *;generalize lgTy (raN l)=a6 at *;exact⟨h11,hv,h7,h8,h6,h9,hn,h10⟩
 ·have e:ra l=⟨(raS2 l).skip 8,false,decide (raN l/32%2=1),0,0,(raS2 l).take 8,[],[],0,raN l⟩:=if_neg h
  rw[e];clear e;have h7:=Nat.le_trans (St.take_len' (raS2 l) 8) h1;have h10:=Nat.le_trans (St.skip_len (raS2 l) 8) h1;generalize (raS2 l).skip 8=a1 at *;generalize (raS2 l).take 8=a2 at *;exact⟨Nat.zero_le _,Nat.zero_le _,h7,Nat.zero_le _,Nat.zero_le _,(show (0:Nat)<4611686018427387904 by omega),hn,h10⟩
open Tk
def HBk (b:Nat) (x0 x1 x2 x3 x4 x5 x6 x7 x8 x9 x10:Value) (w:World):Prop:=w.heap[b]?=some (.cells #[x0,x1,x2,x3,x4,x5,x6,x7,x8,x9,x10] 101 (0,0))
theorem HBk.made(w:World)(x0 x1 x2 x3 x4 x5 x6 x7 x8 x9 x10:Value):HBk w.heap.size x0 x1 x2 x3 x4 x5 x6 x7 x8 x9 x10 (w.alloc (.cells #[x0,x1,x2,x3,x4,x5,x6,x7,x8,x9,x10] 101)):=by
 unfold HBk World.alloc;simp
theorem HBk.up{b:Nat}{x0 x1 x2 x3 x4 x5 x6 x7 x8 x9 x10:Value}{w w':World}(h:HBk b x0 x1 x2 x3 x4 x5 x6 x7 x8 x9 x10 w){n:Nat}(hb:Below n w w')(hn:b<n):HBk b x0 x1 x2 x3 x4 x5 x6 x7 x8 x9 x10 w':=by
 unfold HBk at *;rw[hb.block b hn];exact h
theorem HBk.lt{b:Nat}{x0 x1 x2 x3 x4 x5 x6 x7 x8 x9 x10:Value}{w:World}(h:HBk b x0 x1 x2 x3 x4 x5 x6 x7 x8 x9 x10 w):b<w.heap.size:=by
 rcases Nat.lt_or_ge b w.heap.size with h1|h1
 ·exact h1
 ·unfold HBk at h;rw[Array.getElem?_eq_none h1]at h;cases h
theorem HBk.keep{b:Nat}{x0 x1 x2 x3 x4 x5 x6 x7 x8 x9 x10:Value}{w w':World}(h:HBk b x0 x1 x2 x3 x4 x5 x6 x7 x8 x9 x10 w)(hb:Below w.heap.size w w'):HBk b x0 x1 x2 x3 x4 x5 x6 x7 x8 x9 x10 w':=h.up hb h.lt
theorem HBk.cell{b:Nat}{x0 x1 x2 x3 x4 x5 x6 x7 x8 x9 x10:Value}{w:World}(h:HBk b x0 x1 x2 x3 x4 x5 x6 x7 x8 x9 x10 w)(j:Nat):w.cell? ⟨b,j,none⟩=(#[x0,x1,x2,x3,x4,x5,x6,x7,x8,x9,x10]:Array Value)[j]?:=Lib.cell_of_heap h j
theorem HBk.fz{b:Nat}{x0 x1 x2 x3 x4 x5 x6 x7 x8 x9 x10:Value}{w:World}(h:HBk b x0 x1 x2 x3 x4 x5 x6 x7 x8 x9 x10 w)(j:Nat):w.frozen? ⟨b,j,none⟩=false:=Lib.frozen_of_heap h j
theorem get_g(l s0:List UInt8)(wr lg sp:Bool)(ty ve le n:Nat)(dc sc tk:List UInt8)(k v:Nat)(rest:List UInt8)(bad:Bool)(w:World)(ht:Tab w)(ER:Hid (ra l=⟨⟨s0,wr⟩,lg,sp,ty,ve,dc,sc,tk,le,n⟩))(EK:Hid (1+n%4=k))(EV:Hid (rnV n ⟨s0,wr⟩=v))(ES:Hid (rnS n ⟨s0,wr⟩=⟨rest,bad⟩))(HB:Hid (Bnd (ra l) l.length))(hl:l.length≤140737488351232)
 (EG:Hid ((!bad && mayB lg sp (decide (n/4%2=1)) (ty:Nat) (ve:Nat) dc sc tk (le:Nat) (k:Nat) (v:Nat))=true))(EK4:k≤4)(EV4:((v:Nat):Int)<4294967296) :
 Calls Tryz.prog 100 #[.string ⟨l.toArray⟩] w fun e w'=>e=.returned (.tuple #[.agg #[.bool lg,.bool sp,.bool (decide (n/4%2=1)),.int .i64 (ty:Nat),.int .u32 (ve:Nat),.string ⟨dc.toArray⟩,.string ⟨sc.toArray⟩,.string ⟨tk.toArray⟩,.int .u64 (le:Nat),.int .i64 (k:Nat),.int .u64 (v:Nat)],.string ⟨rest.toArray⟩,.int .i64 0])∧Below w.heap.size w w':=by
 have HR:=zh (fun (w:World) (ht:Tab w)=>readAhead_any l w ht (by omega));rw[ER.out]at HR HB;have bn:=HB.out.n;have bl:=HB.out.st;have hty:((ty:Nat):Int)≤3:=Int.ofNat_le.2 HB.out.ty;have hve:((ve:Nat):Int)≤4294967295:=Int.ofNat_le.2 HB.out.ve;have hdc:=HB.out.dc;have hsc:=HB.out.sc;have htk:=HB.out.tk;have hle:((le:Nat):Int)<4611686018427387904:=Int.ofNat_lt.2 HB.out.le;simp only at bn bl hdc hsc htk;have hlt:=ht.lt;have HT:=zh ht;clear ht ER HB;go_enter Tryz.func100,Tryz.ntmps100;go_wp2_with fail
 refine (HR.out _ ?_).mono ?_
 ·exact HT.out.below ((Below.refl _ _).alloc zle _) hlt
 rintro e w1 ⟨rfl,hb1⟩;have R:=zh ((HBk.made w (.bool false) (.bool false) (.bool false) (.int .i64 0) (.int .u32 0) (.string ⟨#[]⟩) (.string ⟨#[]⟩) (.string ⟨#[]⟩) (.int .u64 0) (.int .i64 0) (.int .u64 0)).keep hb1);have HBL:=zh (((Below.refl w.heap.size w).alloc zle (.cells #[.bool false,.bool false,.bool false,.int .i64 0,.int .u32 0,.string ⟨#[]⟩,.string ⟨#[]⟩,.string ⟨#[]⟩,.int .u64 0,.int .i64 0,.int .u64 0] 101)).trans (hb1.mono (by simp)));have hz1:=R.out.lt;go_wp2_with fail
 refine (readNumber_any w1.heap.size n ⟨s0,wr⟩ (.bool lg) (.bool sp) (.int .i64 (ty:Nat)) (.int .u32 (ve:Nat)) (.string ⟨dc.toArray⟩) (.string ⟨sc.toArray⟩) (.string ⟨tk.toArray⟩) (.int .u64 (le:Nat)) _ (Blk.made w1 ⟨s0,wr⟩ (.bool lg) (.bool sp) (.bool false) (.int .i64 (ty:Nat)) (.int .u32 (ve:Nat)) (.string ⟨dc.toArray⟩) (.string ⟨sc.toArray⟩) (.string ⟨tk.toArray⟩) (.int .u64 (le:Nat)) (.int .i64 0) (.int .u64 0) (.int .u8 (n:Nat))) (by show s0.length≤_;omega) bn).mono ?_;rintro e w2 ⟨rfl,h2,hb2⟩;rw[EK.out,EV.out,ES.out]at h2;replace R:=zh ((R.out.keep ((Below.refl _ _).alloc zle (.cells #[.string ⟨s0.toArray⟩,.bool wr,.bool lg,.bool sp,.bool false,.int .i64 (ty:Nat),.int .u32 (ve:Nat),.string ⟨dc.toArray⟩,.string ⟨sc.toArray⟩,.string ⟨tk.toArray⟩,.int .u64 (le:Nat),.int .i64 0,.int .u64 0,.int .u8 (n:Nat)] 172))).up hb2 hz1);have hz2:=hb2.size;simp at hz2;replace HBL:=zh ((HBL.out.alloc (by omega) (.cells #[.string ⟨s0.toArray⟩,.bool wr,.bool lg,.bool sp,.bool false,.int .i64 (ty:Nat),.int .u32 (ve:Nat),.string ⟨dc.toArray⟩,.string ⟨sc.toArray⟩,.string ⟨tk.toArray⟩,.int .u64 (le:Nat),.int .i64 0,.int .u64 0,.int .u8 (n:Nat)] 172)).trans (hb2.mono (by omega)));have H:=zh h2;clear h2 hb2;go_wp2_with fail
 refine (good_any w1.heap.size n ⟨rest,bad⟩ (lg) (sp) ((decide (n/4%2=1))) ((ty:Nat)) ((ve:Nat)) (dc) (sc) (tk) ((le:Nat)) ((k:Nat)) ((v:Nat)) _ H.out (by omega) (by omega) (by omega) (by omega) (by omega) (by omega) (by omega) (by omega) (by omega) (by omega) (by omega) (by omega) (by omega)).mono ?_;rintro e w3 ⟨rfl,hb3⟩;rw[EG.out];replace H:=zh (H.out.below hb3);replace R:=zh (R.out.keep hb3);replace HBL:=zh (HBL.out.trans (hb3.mono (by omega)));clear hb1 hb3;have za:=R.out.cell;have zb:=R.out.fz;have zc:=H.out.cell;have r0:=za 0;have r1:=za 1;have r2:=za 2;have r3:=za 3;have r4:=za 4;have r5:=za 5;have r6:=za 6;have r7:=za 7;have r8:=za 8;have r9:=za 9;have r10:=za 10;have q0:=zb 0;have q1:=zb 1;have q2:=zb 2;have q3:=zb 3;have q4:=zb 4;have q5:=zb 5;have q6:=zb 6;have q7:=zb 7;have q8:=zb 8;have q9:=zb 9;have q10:=zb 10;have g0:=zc 0;have g1:=zc 1;have g2:=zc 2;have g3:=zc 3;have g4:=zc 4;have g5:=zc 5;have g6:=zc 6;have g7:=zc 7;have g8:=zc 8;have g9:=zc 9;have g10:=zc 10;have g11:=zc 11;have g12:=zc 12;clear za zb zc;simp only[J7,J8,J9]at r0 r1 r2 r3 r4 r5 r6 r7 r8 r9 r10 g0 g1 g2 g3 g4 g5 g6 g7 g8 g9 g10 g11 g12;go_wp2_with fail
 go_region
 all_goals go_wp2
 all_goals
  refine bodyPost_ret (v:=.tuple #[.agg #[.bool lg,.bool sp,.bool (decide (n/4%2=1)),.int .i64 (ty:Nat),.int .u32 (ve:Nat),.string ⟨dc.toArray⟩,.string ⟨sc.toArray⟩,.string ⟨tk.toArray⟩,.int .u64 (le:Nat),.int .i64 (k:Nat),.int .u64 (v:Nat)],.string ⟨rest.toArray⟩,.int .i64 0]) (by simp[results,Tryz.results100,go_sem, *]) rfl ⟨rfl,?_⟩;refine below_drew ?_
  iterate 11 (refine Below.setCell ?_ (by exact Nat.le_refl _) _)
  exact HBL.out
theorem get_b(l s0:List UInt8)(wr lg sp:Bool)(ty ve le n:Nat)(dc sc tk:List UInt8)(k v:Nat)(rest:List UInt8)(bad:Bool)(w:World)(ht:Tab w)(ER:Hid (ra l=⟨⟨s0,wr⟩,lg,sp,ty,ve,dc,sc,tk,le,n⟩))(EK:Hid (1+n%4=k))(EV:Hid (rnV n ⟨s0,wr⟩=v))(ES:Hid (rnS n ⟨s0,wr⟩=⟨rest,bad⟩))(HB:Hid (Bnd (ra l) l.length))(hl:l.length≤140737488351232)
 (EG:Hid ((!bad && mayB lg sp (decide (n/4%2=1)) (ty:Nat) (ve:Nat) dc sc tk (le:Nat) (k:Nat) (v:Nat))=false))(EK4:k≤4)(EV4:((v:Nat):Int)<4294967296) :
 Calls Tryz.prog 100 #[.string ⟨l.toArray⟩] w fun e w'=>e=.returned (.tuple #[.agg #[.bool false,.bool false,.bool false,.int .i64 0,.int .u32 0,.string ⟨#[]⟩,.string ⟨#[]⟩,.string ⟨#[]⟩,.int .u64 0,.int .i64 0,.int .u64 0],.string ⟨#[]⟩,.int .i64 40])∧Below w.heap.size w w':=by
 have HR:=zh (fun (w:World) (ht:Tab w)=>readAhead_any l w ht (by omega));rw[ER.out]at HR HB;have bn:=HB.out.n;have bl:=HB.out.st;have hty:((ty:Nat):Int)≤3:=Int.ofNat_le.2 HB.out.ty;have hve:((ve:Nat):Int)≤4294967295:=Int.ofNat_le.2 HB.out.ve;have hdc:=HB.out.dc;have hsc:=HB.out.sc;have htk:=HB.out.tk;have hle:((le:Nat):Int)<4611686018427387904:=Int.ofNat_lt.2 HB.out.le;simp only at bn bl hdc hsc htk;have hlt:=ht.lt;have HT:=zh ht;clear ht ER HB;go_enter Tryz.func100,Tryz.ntmps100;go_wp2_with fail
 refine (HR.out _ ?_).mono ?_
 ·exact HT.out.below ((Below.refl _ _).alloc zle _) hlt
 rintro e w1 ⟨rfl,hb1⟩;have R:=zh ((HBk.made w (.bool false) (.bool false) (.bool false) (.int .i64 0) (.int .u32 0) (.string ⟨#[]⟩) (.string ⟨#[]⟩) (.string ⟨#[]⟩) (.int .u64 0) (.int .i64 0) (.int .u64 0)).keep hb1);have HBL:=zh (((Below.refl w.heap.size w).alloc zle (.cells #[.bool false,.bool false,.bool false,.int .i64 0,.int .u32 0,.string ⟨#[]⟩,.string ⟨#[]⟩,.string ⟨#[]⟩,.int .u64 0,.int .i64 0,.int .u64 0] 101)).trans (hb1.mono (by simp)));have hz1:=R.out.lt;go_wp2_with fail
 refine (readNumber_any w1.heap.size n ⟨s0,wr⟩ (.bool lg) (.bool sp) (.int .i64 (ty:Nat)) (.int .u32 (ve:Nat)) (.string ⟨dc.toArray⟩) (.string ⟨sc.toArray⟩) (.string ⟨tk.toArray⟩) (.int .u64 (le:Nat)) _ (Blk.made w1 ⟨s0,wr⟩ (.bool lg) (.bool sp) (.bool false) (.int .i64 (ty:Nat)) (.int .u32 (ve:Nat)) (.string ⟨dc.toArray⟩) (.string ⟨sc.toArray⟩) (.string ⟨tk.toArray⟩) (.int .u64 (le:Nat)) (.int .i64 0) (.int .u64 0) (.int .u8 (n:Nat))) (by show s0.length≤_;omega) bn).mono ?_;rintro e w2 ⟨rfl,h2,hb2⟩;rw[EK.out,EV.out,ES.out]at h2;replace R:=zh ((R.out.keep ((Below.refl _ _).alloc zle (.cells #[.string ⟨s0.toArray⟩,.bool wr,.bool lg,.bool sp,.bool false,.int .i64 (ty:Nat),.int .u32 (ve:Nat),.string ⟨dc.toArray⟩,.string ⟨sc.toArray⟩,.string ⟨tk.toArray⟩,.int .u64 (le:Nat),.int .i64 0,.int .u64 0,.int .u8 (n:Nat)] 172))).up hb2 hz1);have hz2:=hb2.size;simp at hz2;replace HBL:=zh ((HBL.out.alloc (by omega) (.cells #[.string ⟨s0.toArray⟩,.bool wr,.bool lg,.bool sp,.bool false,.int .i64 (ty:Nat),.int .u32 (ve:Nat),.string ⟨dc.toArray⟩,.string ⟨sc.toArray⟩,.string ⟨tk.toArray⟩,.int .u64 (le:Nat),.int .i64 0,.int .u64 0,.int .u8 (n:Nat)] 172)).trans (hb2.mono (by omega)));have H:=zh h2;clear h2 hb2;go_wp2_with fail
 refine (good_any w1.heap.size n ⟨rest,bad⟩ (lg) (sp) ((decide (n/4%2=1))) ((ty:Nat)) ((ve:Nat)) (dc) (sc) (tk) ((le:Nat)) ((k:Nat)) ((v:Nat)) _ H.out (by omega) (by omega) (by omega) (by omega) (by omega) (by omega) (by omega) (by omega) (by omega) (by omega) (by omega) (by omega) (by omega)).mono ?_;rintro e w3 ⟨rfl,hb3⟩;rw[EG.out];replace H:=zh (H.out.below hb3);replace R:=zh (R.out.keep hb3);replace HBL:=zh (HBL.out.trans (hb3.mono (by omega)));clear hb1 hb3;have za:=R.out.cell;have zb:=R.out.fz;have zc:=H.out.cell;have r0:=za 0;have r1:=za 1;have r2:=za 2;have r3:=za 3;have r4:=za 4;have r5:=za 5;have r6:=za 6;have r7:=za 7;have r8:=za 8;have r9:=za 9;have r10:=za 10;have q0:=zb 0;have q1:=zb 1;have q2:=zb 2;have q3:=zb 3;have q4:=zb 4;have q5:=zb 5;have q6:=zb 6;have q7:=zb 7;have q8:=zb 8;have q9:=zb 9;have q10:=zb 10;have g0:=zc 0;have g1:=zc 1;have g2:=zc 2;have g3:=zc 3;have g4:=zc 4;have g5:=zc 5;have g6:=zc 6;have g7:=zc 7;have g8:=zc 8;have g9:=zc 9;have g10:=zc 10;have g11:=zc 11;have g12:=zc 12;clear za zb zc;simp only[J7,J8,J9]at r0 r1 r2 r3 r4 r5 r6 r7 r8 r9 r10 g0 g1 g2 g3 g4 g5 g6 g7 g8 g9 g10 g11 g12;go_wp2_with fail
 all_goals
  refine bodyPost_ret (v:=.tuple #[.agg #[.bool false,.bool false,.bool false,.int .i64 0,.int .u32 0,.string ⟨#[]⟩,.string ⟨#[]⟩,.string ⟨#[]⟩,.int .u64 0,.int .i64 0,.int .u64 0],.string ⟨#[]⟩,.int .i64 40]) (by simp[results,Tryz.results100,go_sem, *]) rfl ⟨rfl,?_⟩
  skip
  iterate 11 (refine Below.setCell ?_ (by exact Nat.le_refl _) _)
  exact HBL.out
theorem place_g(l s0:List UInt8)(wr lg sp:Bool)(ty ve le n:Nat)(dc sc tk:List UInt8) (w:World)(ht:Tab w)(ER:Hid (ra l=⟨⟨s0,wr⟩,lg,sp,ty,ve,dc,sc,tk,le,n⟩)) (HB:Hid (Bnd (ra l) l.length))(hl:l.length≤140737488351232)
 (EG:Hid ((!wr && mayB lg sp false (ty:Nat) (ve:Nat) dc sc tk (le:Nat) 1 0)=true))  :
 Calls Tryz.prog 98 #[.string ⟨l.toArray⟩] w fun e w'=>e=.returned (.tuple #[.int .i64 ((l.length:Int)-(s0.length:Int)),.int .i64 0])∧Below w.heap.size w w':=by
 have HR:=zh (fun (w:World) (ht:Tab w)=>readAhead_any l w ht (by omega));rw[ER.out]at HR HB;have bn:=HB.out.n;have bl:=HB.out.st;have hty:((ty:Nat):Int)≤3:=Int.ofNat_le.2 HB.out.ty;have hve:((ve:Nat):Int)≤4294967295:=Int.ofNat_le.2 HB.out.ve;have hdc:=HB.out.dc;have hsc:=HB.out.sc;have htk:=HB.out.tk;have hle:((le:Nat):Int)<4611686018427387904:=Int.ofNat_lt.2 HB.out.le;simp only at bn bl hdc hsc htk;have hlt:=ht.lt;have HT:=zh ht;clear ht ER HB;go_enter Tryz.func98,Tryz.ntmps98;go_wp2_with fail
 refine (HR.out _ HT.out).mono ?_;rintro e w1 ⟨rfl,hb1⟩;have hz1:=hb1.size;have HBL:=zh (hb1.trans (((Below.refl w1.heap.size w1).alloc zle (.cells #[.string ⟨s0.toArray⟩,.bool wr,.bool lg,.bool sp,.bool false,.int .i64 (ty:Nat),.int .u32 (ve:Nat),.string ⟨dc.toArray⟩,.string ⟨sc.toArray⟩,.string ⟨tk.toArray⟩,.int .u64 (le:Nat),.int .i64 1,.int .u64 0,.int .u8 (n:Nat)] 172)).mono hz1));have H:=zh (Blk.made w1 ⟨s0,wr⟩ (.bool lg) (.bool sp) (.bool false) (.int .i64 (ty:Nat)) (.int .u32 (ve:Nat)) (.string ⟨dc.toArray⟩) (.string ⟨sc.toArray⟩) (.string ⟨tk.toArray⟩) (.int .u64 (le:Nat)) (.int .i64 1) (.int .u64 0) (.int .u8 (n:Nat)));clear hb1;go_wp2_with fail
 refine (good_any w1.heap.size n ⟨s0,wr⟩ lg sp false (ty:Nat) (ve:Nat) dc sc tk (le:Nat) 1 0 _ H.out (by omega) (by omega) (by omega) (by omega) (by omega) (by omega) (by omega) (by omega) (by omega) (by omega) (by omega) (by omega) (by omega)).mono ?_;rintro e w3 ⟨rfl,hb3⟩;rw[EG.out];replace HBL:=zh (HBL.out.trans (hb3.mono (by simp;omega)));replace H:=zh (H.out.below hb3);clear hb3;have h0:=H.out.cell 0;simp only[J7,J8,J9]at h0;go_wp2
 go_ret2
 exact⟨rfl,HBL.out⟩
theorem place_b(l s0:List UInt8)(wr lg sp:Bool)(ty ve le n:Nat)(dc sc tk:List UInt8) (w:World)(ht:Tab w)(ER:Hid (ra l=⟨⟨s0,wr⟩,lg,sp,ty,ve,dc,sc,tk,le,n⟩)) (HB:Hid (Bnd (ra l) l.length))(hl:l.length≤140737488351232)
 (EG:Hid ((!wr && mayB lg sp false (ty:Nat) (ve:Nat) dc sc tk (le:Nat) 1 0)=false))  :
 Calls Tryz.prog 98 #[.string ⟨l.toArray⟩] w fun e w'=>e=.returned (.tuple #[.int .i64 0,.int .i64 40])∧Below w.heap.size w w':=by
 have HR:=zh (fun (w:World) (ht:Tab w)=>readAhead_any l w ht (by omega));rw[ER.out]at HR HB;have bn:=HB.out.n;have bl:=HB.out.st;have hty:((ty:Nat):Int)≤3:=Int.ofNat_le.2 HB.out.ty;have hve:((ve:Nat):Int)≤4294967295:=Int.ofNat_le.2 HB.out.ve;have hdc:=HB.out.dc;have hsc:=HB.out.sc;have htk:=HB.out.tk;have hle:((le:Nat):Int)<4611686018427387904:=Int.ofNat_lt.2 HB.out.le;simp only at bn bl hdc hsc htk;have hlt:=ht.lt;have HT:=zh ht;clear ht ER HB;go_enter Tryz.func98,Tryz.ntmps98;go_wp2_with fail
 refine (HR.out _ HT.out).mono ?_;rintro e w1 ⟨rfl,hb1⟩;have hz1:=hb1.size;have HBL:=zh (hb1.trans (((Below.refl w1.heap.size w1).alloc zle (.cells #[.string ⟨s0.toArray⟩,.bool wr,.bool lg,.bool sp,.bool false,.int .i64 (ty:Nat),.int .u32 (ve:Nat),.string ⟨dc.toArray⟩,.string ⟨sc.toArray⟩,.string ⟨tk.toArray⟩,.int .u64 (le:Nat),.int .i64 1,.int .u64 0,.int .u8 (n:Nat)] 172)).mono hz1));have H:=zh (Blk.made w1 ⟨s0,wr⟩ (.bool lg) (.bool sp) (.bool false) (.int .i64 (ty:Nat)) (.int .u32 (ve:Nat)) (.string ⟨dc.toArray⟩) (.string ⟨sc.toArray⟩) (.string ⟨tk.toArray⟩) (.int .u64 (le:Nat)) (.int .i64 1) (.int .u64 0) (.int .u8 (n:Nat)));clear hb1;go_wp2_with fail
 refine (good_any w1.heap.size n ⟨s0,wr⟩ lg sp false (ty:Nat) (ve:Nat) dc sc tk (le:Nat) 1 0 _ H.out (by omega) (by omega) (by omega) (by omega) (by omega) (by omega) (by omega) (by omega) (by omega) (by omega) (by omega) (by omega) (by omega)).mono ?_;rintro e w3 ⟨rfl,hb3⟩;rw[EG.out];replace HBL:=zh (HBL.out.trans (hb3.mono (by simp;omega)));replace H:=zh (H.out.below hb3);clear hb3;have h0:=H.out.cell 0;simp only[J7,J8,J9]at h0;go_wp2
 go_ret2
 exact⟨rfl,HBL.out⟩
end Go.Proofs.YtagbkmoahflfdaaGreatDoor.Hd
namespace Go.Proofs.YtagbkmoahflfdaaGreatDoor.Hd
open Go.RowKit Vm
theorem skip_true{st:St}(h:st.w=true)(n:Nat):(st.skip n).w=true:=by
 unfold St.skip
 split
 ·exact h
 ·rfl
theorem vs_true{st:St}(h:st.w=true):st.vs.w=true:=by
 show (st.w || _)=true;rw[h];rfl
theorem rdIdS_true{st:St}(h:st.w=true):(rdIdS st).w=true:=skip_true (skip_true h _) _
theorem rdTokS_true{st:St}(h:st.w=true):(rdTokS st).w=true:=skip_true (vs_true h) _
theorem lgSt_true{st:St}(h:st.w=true)(n:Nat):(lgSt n st).w=true:=by
 unfold lgSt
 split
 ·exact rdTokS_true (rdIdS_true (rdIdS_true (skip_true h _)))
 ·exact rdIdS_true (rdIdS_true (skip_true h _))
theorem bk_one(b:UInt8):bk [b]=b.toNat:=by simp[bk]
theorem id_rel(s:List UInt8):(∃d r,idO s=some (d,r)∧rdId ⟨s,false⟩=d∧rdIdS ⟨s,false⟩=⟨r,false⟩)∨(idO s=none∧((rdIdS ⟨s,false⟩).w=true∨20<(rdId ⟨s,false⟩).length)):=by
 cases s with
 | nil=>exact .inr ⟨rfl,.inl rfl⟩
 | cons b r=>
  have e1:St.take ⟨b::r,false⟩ 1=[b]:=by rw[St.take_ok (by simp)];rfl
  have e2:St.skip ⟨b::r,false⟩ 1=⟨r,false⟩:=by rw[St.skip_ok (by simp)];rfl
  have f1:rdId ⟨b::r,false⟩=St.take ⟨r,false⟩ b.toNat:=by unfold rdId;rw[e1,e2,bk_one]
  have f2:rdIdS ⟨b::r,false⟩=St.skip ⟨r,false⟩ b.toNat:=by unfold rdIdS;rw[e1,e2,bk_one]
  rw[f1,f2];by_cases h1:b.toNat≤r.length
  ·by_cases h2:b.toNat≤20
   ·exact .inl ⟨_,_,by simp only[idO];rw[if_pos ⟨h2,h1⟩],St.take_ok h1,St.skip_ok h1⟩
   ·exact .inr ⟨by simp only[idO];rw[if_neg (fun h=>h2 h.1)],.inr (by rw[St.take_ok h1,List.length_take];omega)⟩
  ·exact .inr ⟨by simp only[idO];rw[if_neg (fun h=>h1 h.2)],.inl (by rw[St.skip_no (by omega)])⟩
theorem v_rel(s:List UInt8):(∃n r,vO s=some (n,r)∧St.vn ⟨s,false⟩=n∧St.vs ⟨s,false⟩=⟨r,false⟩)∨(vO s=none∧(St.vs ⟨s,false⟩).w=true):=by
 by_cases h:gk s≤s.length
 ·have hg:=g_ok h
  refine .inl ⟨_,_,if_pos h,hg.1,?_⟩;unfold St.vs;rw[hg.2.1];have:decide (s.length<gk s)=false:=decide_eq_false (by omega);simp only[this,Bool.or_self]
 ·refine .inr ⟨if_neg h,?_⟩
  show (false || decide (s.length<gk s))=true;rw[Bool.false_or];exact decide_eq_true (by omega)
theorem tok_rel(s:List UInt8):(∃t r,tokO 0 s=some (t,r)∧rdTok ⟨s,false⟩=t∧rdTokS ⟨s,false⟩=⟨r,false⟩)∨(tokO 0 s=none∧((rdTokS ⟨s,false⟩).w=true∨1000<(rdTok ⟨s,false⟩).length)):=by
 rcases v_rel s with ⟨n,r,h1,h2,h3⟩|⟨h1,h2⟩
 ·have f1:rdTok ⟨s,false⟩=St.take ⟨r,false⟩ n:=by unfold rdTok;rw[h2,h3]
  have f2:rdTokS ⟨s,false⟩=St.skip ⟨r,false⟩ n:=by unfold rdTokS;rw[h2,h3]
  rw[f1,f2]
  have e:tokO 0 s=if n≤1000∧n≤r.length then some (r.take n,r.drop n) else none:=by
   unfold tokO;rw[if_pos rfl,h1]
  rw[e];by_cases h4:n≤r.length
  ·by_cases h5:n≤1000
   ·exact .inl ⟨_,_,if_pos ⟨h5,h4⟩,St.take_ok h4,St.skip_ok h4⟩
   ·exact .inr ⟨if_neg (fun h=>h5 h.1),.inr (by rw[St.take_ok h4,List.length_take];omega)⟩
  ·exact .inr ⟨if_neg (fun h=>h4 h.2),.inl (by rw[St.skip_no (by omega)])⟩
 ·exact .inr ⟨by unfold tokO;rw[if_pos rfl,h1],.inl (skip_true h2 _)⟩
def Rel (l:List UInt8):Prop:=
 (∃p,ahO l=some p∧ra l=⟨⟨p.re,false⟩,p.lg,p.sp,p.ty,p.ve,p.dc,p.sc,p.tk,p.le,raN l⟩) ∨
 (ahO l=none∧((ra l).st.w=true∨bndB (ra l).lg (ra l).ty (ra l).dc (ra l).sc (ra l).tk (ra l).le=false))
theorem raN_cons(b:UInt8)(r:List UInt8):raN (b::r)=b.toNat:=by
 unfold raN;rw[St.take_ok (by simp)];exact bk_one b
theorem raS2_cons(b:UInt8)(r:List UInt8):raS2 (b::r)=⟨r,decide (b.toNat/64%2=0)⟩:=by
 unfold raS2 raS1;rw[raN_cons,St.skip_ok (by simp)];rfl
theorem bnd_no_dc{lg:Bool}{ty:Int}{dc sc tk:List UInt8}{le:Int}(h:lg=true)(h1:20<dc.length):bndB lg ty dc sc tk le=false:=by
 unfold bndB;rw[if_pos h];exact decide_eq_false (by omega)
theorem bnd_no_sc{lg:Bool}{ty:Int}{dc sc tk:List UInt8}{le:Int}(h:lg=true)(h1:20<sc.length):bndB lg ty dc sc tk le=false:=by
 unfold bndB;rw[if_pos h];exact decide_eq_false (by omega)
theorem bnd_no_tk{lg:Bool}{ty:Int}{dc sc tk:List UInt8}{le:Int}(h:lg=true)(h1:1000<tk.length):bndB lg ty dc sc tk le=false:=by
 unfold bndB;rw[if_pos h];exact decide_eq_false (by omega)
theorem bnd_no_ty{lg:Bool}{ty:Int}{dc sc tk:List UInt8}{le:Int}(h:lg=true)(h1:2<ty):bndB lg ty dc sc tk le=false:=by
 unfold bndB;rw[if_pos h];exact decide_eq_false (by omega)
theorem rel(l:List UInt8):Rel l:=by
 cases l with
 | nil=>exact .inr ⟨rfl,.inl rfl⟩
 | cons b r=>
  have hb:=b.toNat_lt;have hN:=raN_cons b r;have hS:=raS2_cons b r;by_cases h1:b.toNat/64%2=0
  ·refine .inr ⟨by simp only[ahO];rw[if_pos h1],.inl ?_⟩
   have hw:(raS2 (b::r)).w=true:=by rw[hS];exact decide_eq_true h1
   unfold ra
   split
   ·exact vs_true (lgSt_true hw _)
   ·exact skip_true hw _
  have hS2:raS2 (b::r)=⟨r,false⟩:=by rw[hS];rw[decide_eq_false h1]
  by_cases h2:b.toNat<128
  ·have e:ra (b::r)=⟨St.skip ⟨r,false⟩ 8,false,decide (b.toNat/32%2=1),0,0,St.take ⟨r,false⟩ 8,[],[],0,b.toNat⟩:=by
    unfold ra;rw[if_neg (by omega),hS2,hN]
   by_cases h3:r.length<8
   ·refine .inr ⟨by simp only[ahO];rw[if_neg h1,if_pos h2,if_pos h3],.inl ?_⟩
    rw[e,St.skip_no h3]
   ·refine .inl ⟨_,by simp only[ahO];rw[if_neg h1,if_pos h2,if_neg h3],?_⟩
    rw[e,St.skip_ok (by omega),St.take_ok (by omega),hN]
  ·have e:ra (b::r)=⟨(lgSt b.toNat ⟨r,false⟩).vs,true,false,lgTy b.toNat,bk (St.take ⟨r,false⟩ 4),rdId (St.skip ⟨r,false⟩ 4),rdId (rdIdS (St.skip ⟨r,false⟩ 4)),lgTok b.toNat ⟨r,false⟩,(lgSt b.toNat ⟨r,false⟩).vn,b.toNat⟩:=by
    unfold ra;rw[if_pos (by omega),hS2,hN]
   have ea:ahO (b::r)=ahL b r:=by simp only[ahO];rw[if_neg h1,if_neg h2]
   unfold Rel;rw[ea,hN,e];clear e ea hN hS hS2;unfold ahL;by_cases h3:r.length<4
   ·refine .inr ⟨by rw[if_pos (.inl h3)],.inl ?_⟩
    have hw:(St.skip ⟨r,false⟩ 4).w=true:=by rw[St.skip_no h3]
    show (lgSt _ _).vs.w=true;apply vs_true;unfold lgSt
    split
    ·exact rdTokS_true (rdIdS_true (rdIdS_true hw))
    ·exact rdIdS_true (rdIdS_true hw)
   by_cases h4:b.toNat/16%4=3
   ·refine .inr ⟨by rw[if_pos (.inr h4)],.inr (bnd_no_ty rfl ?_)⟩
    show (2:Int)<((lgTy b.toNat:Nat):Int);unfold lgTy;omega
   rw[if_neg (by omega)];have k4:St.skip ⟨r,false⟩ 4=⟨r.drop 4,false⟩:=St.skip_ok (by omega);have t4:St.take ⟨r,false⟩ 4=r.take 4:=St.take_ok (by omega);have es:lgSt b.toNat ⟨r,false⟩=if lgTy b.toNat=0 then rdTokS (rdIdS (rdIdS ⟨r.drop 4,false⟩)) else rdIdS (rdIdS ⟨r.drop 4,false⟩):=by unfold lgSt;rw[k4]
   have et:lgTok b.toNat ⟨r,false⟩=if lgTy b.toNat=0 then rdTok (rdIdS (rdIdS ⟨r.drop 4,false⟩)) else []:=by unfold lgTok;rw[k4]
   rw[k4,t4,es,et];clear k4 t4 es et;have ety:b.toNat/16%4=lgTy b.toNat:=rfl;rw[ety];generalize lgTy b.toNat=ty at *;generalize r.drop 4=s at *;rcases id_rel s with ⟨d,r1,i1,i2,i3⟩|⟨i1,i2⟩
   ·rw[i1,i2,i3]
    simp only;rcases id_rel r1 with ⟨c,r2,j1,j2,j3⟩|⟨j1,j2⟩
    ·rw[j1,j2,j3]
     simp only;by_cases ht:ty=0
     ·subst ht
      rw[if_pos rfl,if_pos rfl];rcases tok_rel r2 with ⟨t,r3,k1,k2,k3⟩|⟨k1,k2⟩
      ·rw[k1,k2,k3]
       simp only;rcases v_rel r3 with ⟨n,r4,v1,v2,v3⟩|⟨v1,v2⟩
       ·rw[v1,v2,v3]
        exact .inl ⟨_,rfl,rfl⟩
       ·rw[v1];exact .inr ⟨rfl,.inl v2⟩
      ·rw[k1]
       refine .inr ⟨rfl,?_⟩;rcases k2 with k2|k2
       ·exact .inl (vs_true k2)
       ·exact .inr (bnd_no_tk rfl k2)
     ·rw[if_neg ht,if_neg ht]
      have k1:tokO ty r2=some ([],r2):=by unfold tokO;rw[if_neg ht]
      rw[k1];simp only;rcases v_rel r2 with ⟨n,r4,v1,v2,v3⟩|⟨v1,v2⟩
      ·rw[v1,v2,v3]
       exact .inl ⟨_,rfl,rfl⟩
      ·rw[v1];exact .inr ⟨rfl,.inl v2⟩
    ·rw[j1]
     refine .inr ⟨rfl,?_⟩;rcases j2 with j2|j2
     ·left
      show (St.vs _).w=true;apply vs_true
      split
      ·exact rdTokS_true j2
      ·exact j2
     ·exact .inr (bnd_no_sc rfl j2)
   ·rw[i1]
    refine .inr ⟨rfl,?_⟩;rcases i2 with i2|i2
    ·left
     show (St.vs _).w=true;apply vs_true
     split
     ·exact rdTokS_true (rdIdS_true i2)
     ·exact rdIdS_true i2
    ·exact .inr (bnd_no_dc rfl i2)
end Go.Proofs.YtagbkmoahflfdaaGreatDoor.Hd
