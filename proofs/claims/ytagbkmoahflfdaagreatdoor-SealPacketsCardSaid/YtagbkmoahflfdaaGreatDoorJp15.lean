import Derived.Test.YtagbkmoahflfdaaGreatDoorJp08
import Derived.Test.YtagbkmoahflfdaaGreatDoorJp01
import Derived.Lib.Builder
import Derived.Lib.Hide
import Derived.Lib.SmallJoins
import Derived.Deep.RegionWith
set_option maxRecDepth 20000
set_option linter.unusedVariables false
set_option maxHeartbeats 4000000
namespace Go.Proofs.YtagbkmoahflfdaaGreatDoor.Hd
open Vm
structure Hdr where
 lg:Bool
 sp:Bool
 ph:Bool
 ty:Int
 ve:Int
 dc:List UInt8
 sc:List UInt8
 tk:List UInt8
 le:Int
 wi:Int
 nu:Int
structure Pre where
 lg:Bool
 sp:Bool
 ty:Nat
 ve:Nat
 dc:List UInt8
 sc:List UInt8
 tk:List UInt8
 le:Nat
 re:List UInt8
def idO:List UInt8→Option (List UInt8×List UInt8)
 | []=>none
 | b::r=>if b.toNat≤20∧b.toNat≤r.length then some (r.take b.toNat,r.drop b.toNat) else none
def vO (l:List UInt8):Option (Nat×List UInt8):=if gk l≤l.length then some (gn l (gk l),l.drop (gk l)) else none
def tokO (ty:Nat) (l:List UInt8):Option (List UInt8×List UInt8):=
 if ty=0 then match vO l with
  | none=>none
  | some (n,r)=>if n≤1000∧n≤r.length then some (r.take n,r.drop n) else none
 else some ([],l)
def ahL (b:UInt8) (r:List UInt8):Option Pre:=
 if r.length<4∨b.toNat/16%4=3 then none else
 match idO (r.drop 4) with
 | none=>none
 | some (d,r1)=>match idO r1 with
  | none=>none
  | some (c,r2)=>match tokO (b.toNat/16%4) r2 with
   | none=>none
   | some (t,r3)=>match vO r3 with
    | none=>none
    | some (n,r4)=>some ⟨true,false,b.toNat/16%4,bk (r.take 4),d,c,t,n,r4⟩
def ahO:List UInt8→Option Pre
 | []=>none
 | b::r=>if b.toNat/64%2=0 then none
  else if b.toNat<128 then (if r.length<8 then none else some ⟨false,decide (b.toNat/32%2=1),0,0,r.take 8,[],[],0,r.drop 8⟩)
  else ahL b r
def badB (b:UInt8):Bool:=if b.toNat<128 then decide (b.toNat/8%4≠0) else decide (b.toNat/4%4≠0)
def wideB (b:UInt8):Nat:=1+b.toNat%4
def hdr (b:UInt8) (p:Pre):Hdr:=⟨p.lg,p.sp,!p.lg && decide (b.toNat/4%2=1),p.ty,p.ve,p.dc,p.sc,p.tk,p.le,wideB b,bk (p.re.take (wideB b))⟩
def getO:List UInt8→Option (Hdr×List UInt8)
 | []=>none
 | b::r=>match ahO (b::r) with
  | none=>none
  | some p=>if p.re.length<wideB b∨badB b=true then none else some (hdr b p,p.re.drop (wideB b))
theorem idO_local{l d r:List UInt8}(h:idO l=some (d,r)):∃pre,l=pre++r∧d.length≤20∧∀r',idO (pre++r')=some (d,r'):=by
 cases l with
 | nil=>simp[idO]at h
 | cons b t=>
  simp only[idO]at h
  split at h
  ·rename_i hc
   simp only[Option.some.injEq,Prod.mk.injEq]at h;obtain⟨rfl,rfl⟩:=h;refine⟨b::t.take b.toNat,by simp,by rw[List.length_take];omega,fun r'=>?_⟩;have hl:(t.take b.toNat).length=b.toNat:=by rw[List.length_take];omega
   simp only[List.cons_append,idO];rw[if_pos ⟨hc.1,by rw[List.length_append,hl];omega⟩];rw[List.take_append_of_le_length (by omega),List.drop_append_of_le_length (by omega)];rw[List.take_of_length_le (by omega),List.drop_of_length_le (by omega)];rfl
  ·cases h
theorem gk_pos(l:List UInt8):1≤gk l∧gk l≤8:=by
 cases l with
 | nil=>exact⟨by decide,by decide⟩
 | cons b t=>
  have hb:=b.toNat_lt;have:b.toNat/64=0∨b.toNat/64=1∨b.toNat/64=2∨b.toNat/64=3:=by omega
  show 1≤gw b∧gw b≤8;unfold gw wd
  rcases this with h|h|h|h<;>rw[h]<;>decide
theorem vO_local{l r:List UInt8}{n:Nat}(h:vO l=some (n,r)):∃pre,l=pre++r∧n<4611686018427387904∧1≤pre.length∧∀r',vO (pre++r')=some (n,r'):=by
 have hg:=gk_pos l;unfold vO at h
 split at h
 ·rename_i hc
  simp only[Option.some.injEq,Prod.mk.injEq]at h;obtain⟨rfl,rfl⟩:=h;have hl:(l.take (gk l)).length=gk l:=by rw[List.length_take];omega
  refine⟨l.take (gk l),by simp,?_,by omega,fun r'=>?_⟩
  ·unfold gn
   exact Nat.lt_of_lt_of_le (Nat.mod_lt _ (Nat.pow_pos (by decide))) (Nat.le_trans (Nat.pow_le_pow_right (by decide) (show 8*gk l-2≤62 by omega)) (by decide))
  ·have hk:gk (l.take (gk l)++r')=gk l:=by
    cases l with
    | nil=>simp at hc;omega
    | cons b t=>
     have:1≤gk (b::t):=hg.1;obtain⟨m,hm⟩:∃m,gk (b::t)=m+1:=⟨gk (b::t)-1,by omega⟩;rw[hm];show gw b=m+1;rw[←hm];rfl
   unfold vO gn;rw[hk,if_pos (by rw[List.length_append,hl];omega)];rw[List.take_append_of_le_length (by omega),List.drop_append_of_le_length (by omega)];rw[List.take_take,Nat.min_self,List.drop_of_length_le (by omega)];rfl
 ·cases h
theorem tokO_local{ty:Nat}{l t r:List UInt8}(h:tokO ty l=some (t,r)):∃pre,l=pre++r∧t.length≤1000∧(ty≠0→t=[])∧∀r',tokO ty (pre++r')=some (t,r'):=by
 unfold tokO at h
 split at h
 ·rename_i h0
  cases hv:vO l with
  | none=>rw[hv]at h;cases h
  | some x=>
   obtain⟨n,r1⟩:=x;rw[hv]at h;simp only at h
   split at h
   ·rename_i hc
    simp only[Option.some.injEq,Prod.mk.injEq]at h;obtain⟨rfl,rfl⟩:=h;obtain⟨pre,rfl,_,_,hp⟩:=vO_local hv;have hl:(r1.take n).length=n:=by rw[List.length_take];omega
    refine⟨pre++r1.take n,by simp,by rw[hl];omega,fun h=>absurd h0 h,fun r'=>?_⟩;unfold tokO;rw[if_pos h0,List.append_assoc,hp];simp only;rw[if_pos ⟨hc.1,by rw[List.length_append,hl];omega⟩];rw[List.take_append_of_le_length (by omega),List.drop_append_of_le_length (by omega)];rw[List.take_take,Nat.min_self,List.drop_of_length_le (by omega)];rfl
   ·cases h
 ·rename_i h0
  simp only[Option.some.injEq,Prod.mk.injEq]at h;obtain⟨rfl,rfl⟩:=h;refine⟨[],by simp,by simp,fun _=>rfl,fun r'=>?_⟩;unfold tokO;rw[if_neg h0];rfl
structure Fits (b:UInt8) (r:List UInt8) (p:Pre) (pre:List UInt8):Prop where
 cut:r=pre++p.re
 dc:if p.lg then p.dc.length≤20 else p.dc.length=8
 sc:p.sc.length≤20
 tk:p.tk.length≤1000
 tt:p.ty≠0→p.tk=[]
 ty:p.ty≤2
 le:p.le<4611686018427387904
 ve:p.ve<4294967296
 lg:p.lg=decide (128≤b.toNat)
 short:p.lg=false→p.ty=0∧p.ve=0∧p.sc=[]∧p.tk=[]∧p.le=0
 long:p.lg=true→p.sp=false
 go:∀(b':UInt8) r',(if b.toNat<128 then b'.toNat/32=b.toNat/32 else b'.toNat/16=b.toNat/16)→ahO (b'::(pre++r'))=some ⟨p.lg,p.sp,p.ty,p.ve,p.dc,p.sc,p.tk,p.le,r'⟩
theorem ahO_local{b:UInt8}{r:List UInt8}{p:Pre}(h:ahO (b::r)=some p):∃pre,Fits b r p pre:=by
 have hb:=b.toNat_lt;simp only[ahO]at h
 split at h
 ·cases h
 rename_i h1
 split at h
 ·rename_i h2
  split at h
  ·cases h
  rename_i h3
  simp only[Option.some.injEq]at h;subst h;have hl:(r.take 8).length=8:=by rw[List.length_take];omega
  refine⟨r.take 8,⟨by simp,by simp;omega,by simp,by simp,by simp,by simp,by simp,by simp,by simp;omega,by simp,by simp,fun b' r' hb'=>?_⟩⟩;rw[if_pos h2]at hb';simp only[ahO];rw[if_neg (by omega),if_pos (by omega),if_neg (by rw[List.length_append,hl];omega)];rw[List.take_append_of_le_length (by omega),List.drop_append_of_le_length (by omega)];rw[List.take_take,Nat.min_self,List.drop_of_length_le (by omega)];have:b'.toNat/32%2=b.toNat/32%2:=by omega
  rw[this];rfl
 ·rename_i h2
  unfold ahL at h
  split at h
  ·cases h
  rename_i h3
  cases h4:idO (r.drop 4) with
  | none=>rw[h4]at h;cases h
  | some x=>
   obtain⟨d,r1⟩:=x;rw[h4]at h;simp only at h
   cases h5:idO r1 with
   | none=>rw[h5]at h;cases h
   | some x=>
    obtain⟨c,r2⟩:=x;rw[h5]at h;simp only at h
    cases h6:tokO (b.toNat/16%4) r2 with
    | none=>rw[h6]at h;cases h
    | some x=>
     obtain⟨t,r3⟩:=x;rw[h6]at h;simp only at h
     cases h7:vO r3 with
     | none=>rw[h7]at h;cases h
     | some x=>
      obtain⟨n,r4⟩:=x;rw[h7]at h;simp only[Option.some.injEq]at h;subst h;obtain⟨p4,e4,l4,g4⟩:=idO_local h4;obtain⟨p5,rfl,l5,g5⟩:=idO_local h5;obtain⟨p6,rfl,l6,t6,g6⟩:=tokO_local h6;obtain⟨p7,rfl,l7,_,g7⟩:=vO_local h7;have hl:(r.take 4).length=4:=by rw[List.length_take];omega
      have hv:=bk_lt (r.take 4);rw[hl]at hv;refine⟨r.take 4++(p4++(p5++(p6++p7))),⟨?_,by simp;exact l4,l5,l6,t6,by simp;omega,l7,by simp;omega,by simp;omega,by simp,by simp,fun b' r' hb'=>?_⟩⟩
      ·simp only[List.append_assoc]
       rw[←e4,List.take_append_drop]
      ·rw[if_neg h2]at hb'
       have e16:b'.toNat/16%4=b.toNat/16%4:=by omega
       simp only[ahO];rw[if_neg (by omega),if_neg (by omega)];unfold ahL;rw[if_neg (by simp only[List.length_append,hl];omega),e16];simp only[List.append_assoc];rw[List.drop_append_of_le_length (by omega),List.drop_of_length_le (by omega),List.nil_append,g4];simp only[g5,g6,g7];rw[List.take_append_of_le_length (by omega),List.take_take,Nat.min_self]
open Tk Go.RowKit
structure St where
 s:List UInt8
 w:Bool
def St.take (st:St) (n:Nat):List UInt8:=if n≤st.s.length then st.s.take n else []
def St.skip (st:St) (n:Nat):St:=if n≤st.s.length then ⟨st.s.drop n,st.w⟩ else ⟨st.s,true⟩
def St.vn (st:St):Nat:=gN st.s
def St.vs (st:St):St:=⟨gR st.s,st.w || decide (st.s.length<gk st.s)⟩
def Blk (b:Nat) (st:St) (x2 x3 x4 x5 x6 x7 x8 x9 xa xb xc xd:Value) (w:World):Prop:=
 w.heap[b]?=some (.cells #[.string ⟨st.s.toArray⟩,.bool st.w,x2,x3,x4,x5,x6,x7,x8,x9,xa,xb,xc,xd] 172 (0,0))
theorem Blk.below{b:Nat}{st:St}{x2 x3 x4 x5 x6 x7 x8 x9 xa xb xc xd:Value}{w w':World}(h:Blk b st x2 x3 x4 x5 x6 x7 x8 x9 xa xb xc xd w)(hb:Below w.heap.size w w'):Blk b st x2 x3 x4 x5 x6 x7 x8 x9 xa xb xc xd w':=by
 have hlt:b<w.heap.size:=by
  rcases Nat.lt_or_ge b w.heap.size with h1|h1
  ·exact h1
  ·unfold Blk at h;rw[Array.getElem?_eq_none h1]at h;cases h
 unfold Blk at *;rw[hb.block b hlt];exact h
theorem Blk.set0{b:Nat}{st:St}{x2 x3 x4 x5 x6 x7 x8 x9 xa xb xc xd:Value}{w:World}(h:Blk b st x2 x3 x4 x5 x6 x7 x8 x9 xa xb xc xd w)(l:List UInt8):Blk b ⟨l,st.w⟩ x2 x3 x4 x5 x6 x7 x8 x9 xa xb xc xd (w.setCell ⟨b,0,none⟩ (.string ⟨l.toArray⟩)):=Joins.block_setCell (i:=0) h _
theorem Blk.set1{b:Nat}{st:St}{x2 x3 x4 x5 x6 x7 x8 x9 xa xb xc xd:Value}{w:World}(h:Blk b st x2 x3 x4 x5 x6 x7 x8 x9 xa xb xc xd w)(t:Bool):Blk b ⟨st.s,t⟩ x2 x3 x4 x5 x6 x7 x8 x9 xa xb xc xd (w.setCell ⟨b,1,none⟩ (.bool t)):=Joins.block_setCell (i:=1) h _
theorem Blk.set2{b:Nat}{st:St}{x2 x3 x4 x5 x6 x7 x8 x9 xa xb xc xd:Value}{w:World}(h:Blk b st x2 x3 x4 x5 x6 x7 x8 x9 xa xb xc xd w)(v:Value):Blk b st v x3 x4 x5 x6 x7 x8 x9 xa xb xc xd (w.setCell ⟨b,2,none⟩ v):=Joins.block_setCell (i:=2) h _
theorem Blk.set3{b:Nat}{st:St}{x2 x3 x4 x5 x6 x7 x8 x9 xa xb xc xd:Value}{w:World}(h:Blk b st x2 x3 x4 x5 x6 x7 x8 x9 xa xb xc xd w)(v:Value):Blk b st x2 v x4 x5 x6 x7 x8 x9 xa xb xc xd (w.setCell ⟨b,3,none⟩ v):=Joins.block_setCell (i:=3) h _
theorem Blk.set4{b:Nat}{st:St}{x2 x3 x4 x5 x6 x7 x8 x9 xa xb xc xd:Value}{w:World}(h:Blk b st x2 x3 x4 x5 x6 x7 x8 x9 xa xb xc xd w)(v:Value):Blk b st x2 x3 v x5 x6 x7 x8 x9 xa xb xc xd (w.setCell ⟨b,4,none⟩ v):=Joins.block_setCell (i:=4) h _
theorem Blk.set5{b:Nat}{st:St}{x2 x3 x4 x5 x6 x7 x8 x9 xa xb xc xd:Value}{w:World}(h:Blk b st x2 x3 x4 x5 x6 x7 x8 x9 xa xb xc xd w)(v:Value):Blk b st x2 x3 x4 v x6 x7 x8 x9 xa xb xc xd (w.setCell ⟨b,5,none⟩ v):=Joins.block_setCell (i:=5) h _
theorem Blk.set6{b:Nat}{st:St}{x2 x3 x4 x5 x6 x7 x8 x9 xa xb xc xd:Value}{w:World}(h:Blk b st x2 x3 x4 x5 x6 x7 x8 x9 xa xb xc xd w)(v:Value):Blk b st x2 x3 x4 x5 v x7 x8 x9 xa xb xc xd (w.setCell ⟨b,6,none⟩ v):=Joins.block_setCell (i:=6) h _
theorem Blk.set7{b:Nat}{st:St}{x2 x3 x4 x5 x6 x7 x8 x9 xa xb xc xd:Value}{w:World}(h:Blk b st x2 x3 x4 x5 x6 x7 x8 x9 xa xb xc xd w)(v:Value):Blk b st x2 x3 x4 x5 x6 v x8 x9 xa xb xc xd (w.setCell ⟨b,7,none⟩ v):=Joins.block_setCell (i:=7) h _
theorem Blk.set8{b:Nat}{st:St}{x2 x3 x4 x5 x6 x7 x8 x9 xa xb xc xd:Value}{w:World}(h:Blk b st x2 x3 x4 x5 x6 x7 x8 x9 xa xb xc xd w)(v:Value):Blk b st x2 x3 x4 x5 x6 x7 v x9 xa xb xc xd (w.setCell ⟨b,8,none⟩ v):=Joins.block_setCell (i:=8) h _
theorem Blk.set9{b:Nat}{st:St}{x2 x3 x4 x5 x6 x7 x8 x9 xa xb xc xd:Value}{w:World}(h:Blk b st x2 x3 x4 x5 x6 x7 x8 x9 xa xb xc xd w)(v:Value):Blk b st x2 x3 x4 x5 x6 x7 x8 v xa xb xc xd (w.setCell ⟨b,9,none⟩ v):=Joins.block_setCell (i:=9) h _
theorem Blk.set10{b:Nat}{st:St}{x2 x3 x4 x5 x6 x7 x8 x9 xa xb xc xd:Value}{w:World}(h:Blk b st x2 x3 x4 x5 x6 x7 x8 x9 xa xb xc xd w)(v:Value):Blk b st x2 x3 x4 x5 x6 x7 x8 x9 v xb xc xd (w.setCell ⟨b,10,none⟩ v):=Joins.block_setCell (i:=10) h _
theorem Blk.set11{b:Nat}{st:St}{x2 x3 x4 x5 x6 x7 x8 x9 xa xb xc xd:Value}{w:World}(h:Blk b st x2 x3 x4 x5 x6 x7 x8 x9 xa xb xc xd w)(v:Value):Blk b st x2 x3 x4 x5 x6 x7 x8 x9 xa v xc xd (w.setCell ⟨b,11,none⟩ v):=Joins.block_setCell (i:=11) h _
theorem Blk.set12{b:Nat}{st:St}{x2 x3 x4 x5 x6 x7 x8 x9 xa xb xc xd:Value}{w:World}(h:Blk b st x2 x3 x4 x5 x6 x7 x8 x9 xa xb xc xd w)(v:Value):Blk b st x2 x3 x4 x5 x6 x7 x8 x9 xa xb v xd (w.setCell ⟨b,12,none⟩ v):=Joins.block_setCell (i:=12) h _
theorem Blk.set13{b:Nat}{st:St}{x2 x3 x4 x5 x6 x7 x8 x9 xa xb xc xd:Value}{w:World}(h:Blk b st x2 x3 x4 x5 x6 x7 x8 x9 xa xb xc xd w)(v:Value):Blk b st x2 x3 x4 x5 x6 x7 x8 x9 xa xb xc v (w.setCell ⟨b,13,none⟩ v):=Joins.block_setCell (i:=13) h _
theorem Blk.cell{b:Nat}{st:St}{x2 x3 x4 x5 x6 x7 x8 x9 xa xb xc xd:Value}{w:World}(h:Blk b st x2 x3 x4 x5 x6 x7 x8 x9 xa xb xc xd w)(j:Nat):w.cell? ⟨b,j,none⟩=(#[.string ⟨st.s.toArray⟩,.bool st.w,x2,x3,x4,x5,x6,x7,x8,x9,xa,xb,xc,xd]:Array Value)[j]?:=Lib.cell_of_heap h j
theorem Blk.fz{b:Nat}{st:St}{x2 x3 x4 x5 x6 x7 x8 x9 xa xb xc xd:Value}{w:World}(h:Blk b st x2 x3 x4 x5 x6 x7 x8 x9 xa xb xc xd w)(j:Nat):w.frozen? ⟨b,j,none⟩=false:=Lib.frozen_of_heap h j
theorem Blk.drew{b:Nat}{st:St}{x2 x3 x4 x5 x6 x7 x8 x9 xa xb xc xd:Value}{w:World}(h:Blk b st x2 x3 x4 x5 x6 x7 x8 x9 xa xb xc xd w):Blk b st x2 x3 x4 x5 x6 x7 x8 x9 xa xb xc xd w.drew:=h.below (below_drewN (Below.refl _ _) 1)
theorem _root_.Go.Proofs.YtagbkmoahflfdaaGreatDoor.Vm.Tab.drew{w:World}(h:Vm.Tab w):Vm.Tab w.drew:=h.drewN 1
theorem below_drew{n:Nat}{w w':World}(h:Below n w w'):Below n w w'.drew:=below_drewN h 1
theorem sv_size(l:List UInt8):(⟨l.toArray⟩:ByteArray).size=l.length:=size_len _
theorem sv_to(l:List UInt8)(n:Nat):(⟨l.toArray⟩:ByteArray).extract 0 n=⟨(l.take n).toArray⟩:=by
 apply ByteArray.ext;simp
theorem sv_from(l:List UInt8)(n:Nat):(⟨l.toArray⟩:ByteArray).extract n l.length=⟨(l.drop n).toArray⟩:=by
 apply ByteArray.ext;apply Array.toList_inj.1;rw[Lib.extract_data];simp[List.take_of_length_le]
theorem take_ok(b:Nat)(l:List UInt8)(wr:Bool)(x2 x3 x4 x5 x6 x7 x8 x9 xa xb xc xd:Value)(n:Nat)(w:World)(h:Blk b ⟨l,wr⟩ x2 x3 x4 x5 x6 x7 x8 x9 xa xb xc xd w)(hl:l.length≤9223372036854775807)(hn:n≤l.length) :
 Calls Tryz.prog 154 #[.pointer (some ⟨b,0,none⟩),.int .u64 n] w fun e w'=>e=.returned (.string ⟨(l.take n).toArray⟩)∧Blk b ⟨l.drop n,wr⟩ x2 x3 x4 x5 x6 x7 x8 x9 xa xb xc xd w'∧Below b w w':=by
 have c0:w.cell? ⟨b,0,none⟩=some (.string ⟨l.toArray⟩):=h.cell 0;have f0:w.frozen? ⟨b,0,none⟩=false:=h.fz 0;have HH:=zh (h.set0 (l.drop n));have H1:=zh (sv_to l n);have H2:=zh (sv_from l n);clear h;go_enter Tryz.func154,Tryz.ntmps154;go_wp2
 go_ret
 exact⟨by rw[←H1.out];rfl,by rw[H2.out];exact HH.out,(Below.refl _ _).setCell (p:=⟨b,0,none⟩) zle _⟩
theorem take_no(b:Nat)(l:List UInt8)(wr:Bool)(x2 x3 x4 x5 x6 x7 x8 x9 xa xb xc xd:Value)(n:Nat)(w:World)(h:Blk b ⟨l,wr⟩ x2 x3 x4 x5 x6 x7 x8 x9 xa xb xc xd w)(hl:l.length≤9223372036854775807)(hn:l.length<n) :
 Calls Tryz.prog 154 #[.pointer (some ⟨b,0,none⟩),.int .u64 n] w fun e w'=>e=.returned (.string ⟨#[]⟩)∧Blk b ⟨l,true⟩ x2 x3 x4 x5 x6 x7 x8 x9 xa xb xc xd w'∧Below b w w':=by
 have c0:w.cell? ⟨b,0,none⟩=some (.string ⟨l.toArray⟩):=h.cell 0;have c1:w.cell? ⟨b,1,none⟩=some (.bool wr):=h.cell 1;have f1:w.frozen? ⟨b,1,none⟩=false:=h.fz 1;have HH:=zh (h.set1 true);clear h;go_enter Tryz.func154,Tryz.ntmps154;go_wp2
 go_ret
 exact⟨rfl,HH.out,(Below.refl _ _).setCell (p:=⟨b,1,none⟩) zle _⟩
theorem take_any(b:Nat)(st:St)(x2 x3 x4 x5 x6 x7 x8 x9 xa xb xc xd:Value)(n:Nat)(w:World)(h:Blk b st x2 x3 x4 x5 x6 x7 x8 x9 xa xb xc xd w)(hl:st.s.length≤9223372036854775807) :
 Calls Tryz.prog 154 #[.pointer (some ⟨b,0,none⟩),.int .u64 n] w fun e w'=>e=.returned (.string ⟨(st.take n).toArray⟩)∧Blk b (st.skip n) x2 x3 x4 x5 x6 x7 x8 x9 xa xb xc xd w'∧Below b w w':=by
 by_cases hn:n≤st.s.length
 ·have e1:st.take n=st.s.take n:=by unfold St.take;rw[if_pos hn]
  have e2:st.skip n=⟨st.s.drop n,st.w⟩:=by unfold St.skip;rw[if_pos hn]
  rw[e1,e2];exact take_ok b st.s st.w x2 x3 x4 x5 x6 x7 x8 x9 xa xb xc xd n w h hl hn
 ·have e1:st.take n=[]:=by unfold St.take;rw[if_neg hn]
  have e2:st.skip n=⟨st.s,true⟩:=by unfold St.skip;rw[if_neg hn]
  rw[e1,e2];exact take_no b st.s st.w x2 x3 x4 x5 x6 x7 x8 x9 xa xb xc xd n w h hl (by omega)
theorem St.take_len(st:St)(n:Nat):(st.take n).length≤n:=by
 unfold St.take
 split
 ·rw[List.length_take];omega
 ·exact Nat.zero_le _
theorem St.skip_len(st:St)(n:Nat):(st.skip n).s.length≤st.s.length:=by
 unfold St.skip
 split
 ·show (List.drop _ _).length≤_;rw[List.length_drop];omega
 ·exact Nat.le_refl _
theorem St.vs_len(st:St):st.vs.s.length≤st.s.length:=by
 show (gR st.s).length≤_;unfold gR
 split
 ·rw[List.length_drop];omega
 ·exact Nat.zero_le _
theorem vbackL(l:List UInt8)(w:World)(hs:l.length≤8) :
 Calls Tryz.prog 172 #[.string ⟨l.toArray⟩] w fun e w'=>e=.returned (.int .u64 (bk l:Nat))∧w=w':=
 vback ⟨l.toArray⟩ w (by rw[sv_size];exact hs)
theorem vgetL(l:List UInt8)(w:World)(ht:Tab w)(hs:l.length≤9223372036854775807) :
 Calls Tryz.prog 178 #[.string ⟨l.toArray⟩] w fun e w'=>e=.returned (.tuple #[.int .u64 (gN l:Nat),.string ⟨(gR l).toArray⟩,.int .i64 (gE l)])∧∃m,w'=w.drewN m:=
 vget ⟨l.toArray⟩ w ht (by rw[sv_size];exact hs)
theorem number_any(b:Nat)(st:St)(x2 x3 x4 x5 x6 x7 x8 x9 xa xb xc xd:Value)(n:Nat)(w:World)(h:Blk b st x2 x3 x4 x5 x6 x7 x8 x9 xa xb xc xd w)(hl:st.s.length≤9223372036854775807)(hn:n≤8) :
 Calls Tryz.prog 152 #[.pointer (some ⟨b,0,none⟩),.int .i64 n] w fun e w'=>e=.returned (.int .u64 (bk (st.take n):Nat))∧Blk b (st.skip n) x2 x3 x4 x5 x6 x7 x8 x9 xa xb xc xd w'∧Below b w w':=by
 have HH:=zh h;clear h;have hk:=St.take_len st n;go_enter Tryz.func152,Tryz.ntmps152;go_wp2_with fail
 refine (take_any b st x2 x3 x4 x5 x6 x7 x8 x9 xa xb xc xd n _ HH.out hl).mono ?_;rintro e w1 ⟨rfl,h1,hb1⟩;have H1:=zh h1;clear h1;go_wp2_with fail
 refine (vbackL _ _ (by omega)).mono ?_;rintro e w2 ⟨rfl,rfl⟩;go_wp2
 go_ret
 exact⟨rfl,H1.out,hb1⟩
theorem number_1(b:Nat)(st:St)(x2 x3 x4 x5 x6 x7 x8 x9 xa xb xc xd:Value)(w:World)(h:Blk b st x2 x3 x4 x5 x6 x7 x8 x9 xa xb xc xd w)(hl:st.s.length≤9223372036854775807) :
 Calls Tryz.prog 152 #[.pointer (some ⟨b,0,none⟩),.int .i64 1] w fun e w'=>e=.returned (.int .u64 (bk (st.take 1):Nat))∧Blk b (st.skip 1) x2 x3 x4 x5 x6 x7 x8 x9 xa xb xc xd w'∧Below b w w':=number_any b st x2 x3 x4 x5 x6 x7 x8 x9 xa xb xc xd 1 w h hl (by decide)
theorem number_4(b:Nat)(st:St)(x2 x3 x4 x5 x6 x7 x8 x9 xa xb xc xd:Value)(w:World)(h:Blk b st x2 x3 x4 x5 x6 x7 x8 x9 xa xb xc xd w)(hl:st.s.length≤9223372036854775807) :
 Calls Tryz.prog 152 #[.pointer (some ⟨b,0,none⟩),.int .i64 4] w fun e w'=>e=.returned (.int .u64 (bk (st.take 4):Nat))∧Blk b (st.skip 4) x2 x3 x4 x5 x6 x7 x8 x9 xa xb xc xd w'∧Below b w w':=number_any b st x2 x3 x4 x5 x6 x7 x8 x9 xa xb xc xd 4 w h hl (by decide)
theorem take_8(b:Nat)(st:St)(x2 x3 x4 x5 x6 x7 x8 x9 xa xb xc xd:Value)(w:World)(h:Blk b st x2 x3 x4 x5 x6 x7 x8 x9 xa xb xc xd w)(hl:st.s.length≤9223372036854775807) :
 Calls Tryz.prog 154 #[.pointer (some ⟨b,0,none⟩),.int .u64 8] w fun e w'=>e=.returned (.string ⟨(st.take 8).toArray⟩)∧Blk b (st.skip 8) x2 x3 x4 x5 x6 x7 x8 x9 xa xb xc xd w'∧Below b w w':=take_any b st x2 x3 x4 x5 x6 x7 x8 x9 xa xb xc xd 8 w h hl
theorem gE_cases(l:List UInt8):(gE l=0∧decide (l.length<gk l)=false)∨(gE l=10∧decide (l.length<gk l)=true):=by
 by_cases h:gk l≤l.length
 ·exact .inl ⟨(g_ok h).2.2,decide_eq_false (by omega)⟩
 ·exact .inr ⟨(g_no (by omega)).2.2,decide_eq_true (by omega)⟩
theorem varint_any(b:Nat)(st:St)(x2 x3 x4 x5 x6 x7 x8 x9 xa xb xc xd:Value)(w:World)(ht:Tab w)(h:Blk b st x2 x3 x4 x5 x6 x7 x8 x9 xa xb xc xd w)(hl:st.s.length≤9223372036854775807) :
 Calls Tryz.prog 173 #[.pointer (some ⟨b,0,none⟩)] w fun e w'=>e=.returned (.int .u64 (st.vn:Nat))∧Blk b st.vs x2 x3 x4 x5 x6 x7 x8 x9 xa xb xc xd w'∧Below b w w':=by
 have HH:=zh h;have HT:=zh ht;have c0:w.cell? ⟨b,0,none⟩=some (.string ⟨st.s.toArray⟩):=h.cell 0;have hE:=gE_cases st.s;have HV:Hid (st.vs=⟨gR st.s,st.w || decide (st.s.length<gk st.s)⟩):=zh rfl;clear h ht;obtain⟨s,wr⟩:=st;simp only at HV hE c0 hl;rcases hE with ⟨hE,hD⟩|⟨hE,hD⟩
 all_goals
  have HE:=zh hE;rw[hD]at HV;clear hE hD;go_enter Tryz.func173,Tryz.ntmps173;go_wp2_with fail
  refine (vgetL s _ HT.out hl).mono ?_;rintro e w1 ⟨rfl,m,rfl⟩;rw[HE.out];have H1:=zh (HH.out.below (below_drewN (Below.refl _ _) m));have f0:(w.drewN m).frozen? ⟨b,0,none⟩=false:=H1.out.fz 0;have f1:(w.drewN m).frozen? ⟨b,1,none⟩=false:=H1.out.fz 1;have c1:(w.drewN m).cell? ⟨b,1,none⟩=some (.bool wr):=H1.out.cell 1
  cases wr
  all_goals
   go_wp2
   go_ret
   refine⟨rfl,?_,(((below_drewN (Below.refl _ _) m).setCell (p:=⟨b,0,none⟩) zle _).setCell (p:=⟨b,1,none⟩) zle _)⟩;rw[HV.out];exact (H1.out.set0 (gR s)).set1 _
def rdId (st:St):List UInt8:=(st.skip 1).take (bk (st.take 1))
def rdIdS (st:St):St:=(st.skip 1).skip (bk (st.take 1))
def rdTok (st:St):List UInt8:=st.vs.take st.vn
def rdTokS (st:St):St:=st.vs.skip st.vn
theorem bk4(l:List UInt8)(h:l.length≤4):(0:Int)≤(bk l:Nat)∧((bk l:Nat):Int)≤4294967295:=by
 have h1:=bk_lt l;have h2:256^l.length≤256^4:=Nat.pow_le_pow_right (by decide) h;omega
theorem rdIdS_len(st:St):(rdIdS st).s.length≤st.s.length:=Nat.le_trans (St.skip_len _ _) (St.skip_len _ _)
theorem rdTokS_len(st:St):(rdTokS st).s.length≤st.s.length:=Nat.le_trans (St.skip_len _ _) (St.vs_len _)
theorem t48:∀n:Nat,n<256→(bits .and .u8 (n:Int) 48/16=((n/16%4:Nat):Int)∧(0:Int)≤bits .and .u8 (n:Int) 48∧bits .and .u8 (n:Int) 48≤48):=by decide +kernel
theorem takeE(b:Nat)(st st':St)(v:List UInt8)(x2 x3 x4 x5 x6 x7 x8 x9 xa xb xc xd:Value)(n:Nat)(w:World)(e:Hid (st.take n=v∧st.skip n=st'))(h:Hid (Blk b st x2 x3 x4 x5 x6 x7 x8 x9 xa xb xc xd w))(hl:st.s.length≤9223372036854775807) :
 Calls Tryz.prog 154 #[.pointer (some ⟨b,0,none⟩),.int .u64 n] w fun e w'=>e=.returned (.string ⟨v.toArray⟩)∧Blk b st' x2 x3 x4 x5 x6 x7 x8 x9 xa xb xc xd w'∧Below b w w':=by
 obtain⟨rfl,rfl⟩:=e.out;exact take_any b st x2 x3 x4 x5 x6 x7 x8 x9 xa xb xc xd n w h.out hl
theorem numberE1(b:Nat)(st st':St)(n:Nat)(x2 x3 x4 x5 x6 x7 x8 x9 xa xb xc xd:Value)(w:World)(e:Hid (bk (st.take 1)=n∧st.skip 1=st'))(h:Hid (Blk b st x2 x3 x4 x5 x6 x7 x8 x9 xa xb xc xd w))(hl:st.s.length≤9223372036854775807) :
 Calls Tryz.prog 152 #[.pointer (some ⟨b,0,none⟩),.int .i64 1] w fun e w'=>e=.returned (.int .u64 (n:Nat))∧Blk b st' x2 x3 x4 x5 x6 x7 x8 x9 xa xb xc xd w'∧Below b w w':=by
 obtain⟨rfl,rfl⟩:=e.out;exact number_1 b st x2 x3 x4 x5 x6 x7 x8 x9 xa xb xc xd w h.out hl
theorem numberE4(b:Nat)(st st':St)(n:Nat)(x2 x3 x4 x5 x6 x7 x8 x9 xa xb xc xd:Value)(w:World)(e:Hid (bk (st.take 4)=n∧st.skip 4=st'))(h:Hid (Blk b st x2 x3 x4 x5 x6 x7 x8 x9 xa xb xc xd w))(hl:st.s.length≤9223372036854775807) :
 Calls Tryz.prog 152 #[.pointer (some ⟨b,0,none⟩),.int .i64 4] w fun e w'=>e=.returned (.int .u64 (n:Nat))∧Blk b st' x2 x3 x4 x5 x6 x7 x8 x9 xa xb xc xd w'∧Below b w w':=by
 obtain⟨rfl,rfl⟩:=e.out;exact number_4 b st x2 x3 x4 x5 x6 x7 x8 x9 xa xb xc xd w h.out hl
theorem varintE(b:Nat)(st st':St)(n:Nat)(x2 x3 x4 x5 x6 x7 x8 x9 xa xb xc xd:Value)(w:World)(e:Hid (st.vn=n∧st.vs=st'))(ht:Hid (Tab w))(h:Hid (Blk b st x2 x3 x4 x5 x6 x7 x8 x9 xa xb xc xd w))(hl:st.s.length≤9223372036854775807) :
 Calls Tryz.prog 173 #[.pointer (some ⟨b,0,none⟩)] w fun e w'=>e=.returned (.int .u64 (n:Nat))∧Blk b st' x2 x3 x4 x5 x6 x7 x8 x9 xa xb xc xd w'∧Below b w w':=by
 obtain⟨rfl,rfl⟩:=e.out;exact varint_any b st x2 x3 x4 x5 x6 x7 x8 x9 xa xb xc xd w ht.out h.out hl
theorem readLong_0c(b n:Nat) (s0 s1 s2 s3 s4 s5 s6 s7 s8:St)(n4 n1 n2 n3 n8:Nat)(v7 v8 v9:List UInt8)(E4:Hid (bk (s0.take 4)=n4∧s0.skip 4=s1))(E1:Hid (bk (s1.take 1)=n1∧s1.skip 1=s2))(E2:Hid (s2.take n1=v7∧s2.skip n1=s3))(E3:Hid (bk (s3.take 1)=n2∧s3.skip 1=s4))(E5:Hid (s4.take n2=v8∧s4.skip n2=s5))(E6:Hid (s5.vn=n3∧s5.vs=s6))(E7:Hid (s6.take n3=v9∧s6.skip n3=s7))(E8:Hid (s7.vn=n8∧s7.vs=s8))(hl0:s0.s.length≤9223372036854775807)(hl1:s1.s.length≤9223372036854775807)(hl2:s2.s.length≤9223372036854775807)(hl3:s3.s.length≤9223372036854775807)(hl4:s4.s.length≤9223372036854775807)(hl5:s5.s.length≤9223372036854775807)(hl6:s6.s.length≤9223372036854775807)(hl7:s7.s.length≤9223372036854775807)(hv0:(0:Int)≤(n4:Nat))(hv1:((n4:Nat):Int)≤4294967295)(x2 x3 x4 x5 x6 x7 x8 x9 xa xb xc:Value)(w:World)(HT:Hid (Tab w))(A1:Hid (bits .and .u8 (n:Int) 48/16=0))(a1:(0:Int)≤bits .and .u8 (n:Int) 48∧bits .and .u8 (n:Int) 48≤48)(h:Blk b s0 x2 x3 x4 x5 x6 x7 x8 x9 xa xb xc (.int .u8 n) w)(hB:0<b) :
 Calls Tryz.prog 153 #[.pointer (some ⟨b,0,none⟩)] w fun e w'=>e=.returned (.tuple #[])∧Blk b s8 x2 x3 x4 (.int .i64 0) (.int .u32 (n4:Nat)) (.string ⟨v7.toArray⟩) (.string ⟨v8.toArray⟩) (.string ⟨v9.toArray⟩) (.int .u64 (n8:Nat)) xb xc (.int .u8 n) w'∧Below b w w':=by
 have cd:w.cell? ⟨b,13,none⟩=some (.int .u8 n):=h.cell 13;have c5:=h.cell 5;have f5:w.frozen? ⟨b,5,none⟩=false:=h.fz 5;have HB:=zh ((Below.refl b w).setCell (p:=⟨b,5,none⟩) zle (.int .i64 0));have H:=zh (h.set5 (.int .i64 0));clear h;simp only[List.getElem?_toArray,List.getElem?_cons_succ,List.getElem?_cons_zero]at c5;go_enter Tryz.func153,Tryz.ntmps153;go_wp2_with fail
 rw[A1.out];refine (numberE4 b s0 s1 n4 _ _ _ _ _ _ _ _ _ _ _ _ _ E4 H hl0).mono ?_;clear cd c5 f5;rintro e w1 ⟨rfl,h1,hb1⟩;have c6:w1.cell? ⟨b,6,none⟩=some x6:=h1.cell 6;have f6:=h1.fz 6;replace HB:=zh ((HB.out.trans hb1).setCell (p:=⟨b,6,none⟩) zle (.int .u32 n4));replace H:=zh (h1.set6 (.int .u32 n4));clear h1 hb1;go_wp2_with fail
 clear c6 f6;have HD:=zh H.out.drew;have HBD:=zh (below_drew HB.out)
 go_region_with (first|(go_at_call 152;(with_reducible refine (numberE1 b s1 s2 n1 _ _ _ _ _ _ _ _ _ _ _ _ _ E1 HD hl1).mono ?_);rintro e w2 ⟨rfl,h2,hb2⟩;have H2:=zh h2;clear h2)|(go_at_call 154;(with_reducible refine (takeE b s2 s3 v7 _ _ _ _ _ _ _ _ _ _ _ _ n1 _ E2 H2 hl2).mono ?_);rintro e w3 ⟨rfl,h3,hb3⟩;replace HB:=zh (((HBD.out.trans hb2).trans hb3).setCell (p:=⟨b,7,none⟩) zle (.string ⟨v7.toArray⟩));replace H:=zh (h3.set7 (.string ⟨v7.toArray⟩));have c7:=h3.cell 7;have f7:=h3.fz 7;simp only[List.getElem?_toArray,List.getElem?_cons_succ,List.getElem?_cons_zero]at c7;clear h3 hb2 hb3))
 clear H2 c7 f7 HD HBD;generalize w3.setCell _ _=W3 at H HB ⊢;clear A1;go_wp2_with fail
 have HD:=zh H.out.drew;have HBD:=zh (below_drew HB.out)
 go_region_with (first|(go_at_call 152;(with_reducible refine (numberE1 b s3 s4 n2 _ _ _ _ _ _ _ _ _ _ _ _ _ E3 HD hl3).mono ?_);rintro e w4 ⟨rfl,h4,hb4⟩;have H4:=zh h4;clear h4)|(go_at_call 154;(with_reducible refine (takeE b s4 s5 v8 _ _ _ _ _ _ _ _ _ _ _ _ n2 _ E5 H4 hl4).mono ?_);rintro e w5 ⟨rfl,h5,hb5⟩;replace HB:=zh (((HBD.out.trans hb4).trans hb5).setCell (p:=⟨b,8,none⟩) zle (.string ⟨v8.toArray⟩));replace H:=zh (h5.set8 (.string ⟨v8.toArray⟩));have c8:=h5.cell 8;have f8:=h5.fz 8;simp only[List.getElem?_toArray,List.getElem?_cons_succ,List.getElem?_cons_zero]at c8;clear h5 hb4 hb5))
 clear H4 c8 f8 HD HBD;generalize w5.setCell _ _=W5 at H HB ⊢;have c5:=H.out.cell 5;simp only[J7,J8,J9]at c5;go_wp2_with fail
 clear c5;have HD:=zh H.out.drew;have HBD:=zh (below_drew HB.out);have HT2:=zh (HT.out.below HB.out hB).drew
 go_region_with (first|(go_at_call 173;(with_reducible refine (varintE b s5 s6 n3 _ _ _ _ _ _ _ _ _ _ _ _ _ E6 HT2 HD hl5).mono ?_);rintro e w6 ⟨rfl,h6,hb6⟩;have H6:=zh h6;clear h6)|(go_at_call 154;(with_reducible refine (takeE b s6 s7 v9 _ _ _ _ _ _ _ _ _ _ _ _ n3 _ E7 H6 hl6).mono ?_);rintro e w7 ⟨rfl,h7,hb7⟩;replace HB:=zh (((HBD.out.trans hb6).trans hb7).setCell (p:=⟨b,9,none⟩) zle (.string ⟨v9.toArray⟩));replace H:=zh (h7.set9 (.string ⟨v9.toArray⟩));have c9:=h7.cell 9;have f9:=h7.fz 9;simp only[List.getElem?_toArray,List.getElem?_cons_succ,List.getElem?_cons_zero]at c9;clear h7 hb6 hb7))
 clear H6 c9 f9 HD HBD;clear HT2;generalize w7.setCell _ _=W7 at H HB ⊢;go_wp2_with fail
 have HT3:=zh (HT.out.below HB.out hB);refine (varintE b s7 s8 n8 _ _ _ _ _ _ _ _ _ _ _ _ _ E8 HT3 H hl7).mono ?_;rintro e w8 ⟨rfl,h8,hb8⟩;have ca:=h8.cell 10;have fa:=h8.fz 10;simp only[List.getElem?_toArray,List.getElem?_cons_succ,List.getElem?_cons_zero]at ca;replace HB:=zh ((HB.out.trans hb8).setCell (p:=⟨b,10,none⟩) zle (.int .u64 n8));replace H:=zh (h8.set10 (.int .u64 n8));clear h8 hb8;go_wp2
 go_end0
 exact⟨rfl,H.out,HB.out⟩
theorem readLong_nc(b n:Nat)(t:Int)(t1:0<t)(t2:t≤3)(s0 s1 s2 s3 s4 s5 s8:St)(n4 n1 n2 n8:Nat)(v7 v8:List UInt8)(E4:Hid (bk (s0.take 4)=n4∧s0.skip 4=s1))(E1:Hid (bk (s1.take 1)=n1∧s1.skip 1=s2))(E2:Hid (s2.take n1=v7∧s2.skip n1=s3))(E3:Hid (bk (s3.take 1)=n2∧s3.skip 1=s4))(E5:Hid (s4.take n2=v8∧s4.skip n2=s5))(E8:Hid (s5.vn=n8∧s5.vs=s8))(hl0:s0.s.length≤9223372036854775807)(hl1:s1.s.length≤9223372036854775807)(hl2:s2.s.length≤9223372036854775807)(hl3:s3.s.length≤9223372036854775807)(hl4:s4.s.length≤9223372036854775807)(hl5:s5.s.length≤9223372036854775807)(hv0:(0:Int)≤(n4:Nat))(hv1:((n4:Nat):Int)≤4294967295)(x2 x3 x4 x5 x6 x7 x8 x9 xa xb xc:Value)(w:World)(HT:Hid (Tab w))(A1:Hid (bits .and .u8 (n:Int) 48/16=t))(a1:(0:Int)≤bits .and .u8 (n:Int) 48∧bits .and .u8 (n:Int) 48≤48)(h:Blk b s0 x2 x3 x4 x5 x6 x7 x8 x9 xa xb xc (.int .u8 n) w)(hB:0<b) :
 Calls Tryz.prog 153 #[.pointer (some ⟨b,0,none⟩)] w fun e w'=>e=.returned (.tuple #[])∧Blk b s8 x2 x3 x4 (.int .i64 t) (.int .u32 (n4:Nat)) (.string ⟨v7.toArray⟩) (.string ⟨v8.toArray⟩) x9 (.int .u64 (n8:Nat)) xb xc (.int .u8 n) w'∧Below b w w':=by
 have cd:w.cell? ⟨b,13,none⟩=some (.int .u8 n):=h.cell 13;have c5:=h.cell 5;have f5:w.frozen? ⟨b,5,none⟩=false:=h.fz 5;have HB:=zh ((Below.refl b w).setCell (p:=⟨b,5,none⟩) zle (.int .i64 t));have H:=zh (h.set5 (.int .i64 t));clear h;simp only[List.getElem?_toArray,List.getElem?_cons_succ,List.getElem?_cons_zero]at c5;go_enter Tryz.func153,Tryz.ntmps153;go_wp2_with fail
 rw[A1.out];refine (numberE4 b s0 s1 n4 _ _ _ _ _ _ _ _ _ _ _ _ _ E4 H hl0).mono ?_;clear cd c5 f5;rintro e w1 ⟨rfl,h1,hb1⟩;have c6:w1.cell? ⟨b,6,none⟩=some x6:=h1.cell 6;have f6:=h1.fz 6;replace HB:=zh ((HB.out.trans hb1).setCell (p:=⟨b,6,none⟩) zle (.int .u32 n4));replace H:=zh (h1.set6 (.int .u32 n4));clear h1 hb1;go_wp2_with fail
 clear c6 f6;have HD:=zh H.out.drew;have HBD:=zh (below_drew HB.out)
 go_region_with (first|(go_at_call 152;(with_reducible refine (numberE1 b s1 s2 n1 _ _ _ _ _ _ _ _ _ _ _ _ _ E1 HD hl1).mono ?_);rintro e w2 ⟨rfl,h2,hb2⟩;have H2:=zh h2;clear h2)|(go_at_call 154;(with_reducible refine (takeE b s2 s3 v7 _ _ _ _ _ _ _ _ _ _ _ _ n1 _ E2 H2 hl2).mono ?_);rintro e w3 ⟨rfl,h3,hb3⟩;replace HB:=zh (((HBD.out.trans hb2).trans hb3).setCell (p:=⟨b,7,none⟩) zle (.string ⟨v7.toArray⟩));replace H:=zh (h3.set7 (.string ⟨v7.toArray⟩));have c7:=h3.cell 7;have f7:=h3.fz 7;simp only[List.getElem?_toArray,List.getElem?_cons_succ,List.getElem?_cons_zero]at c7;clear h3 hb2 hb3))
 clear H2 c7 f7 HD HBD;generalize w3.setCell _ _=W3 at H HB ⊢;clear A1;go_wp2_with fail
 have HD:=zh H.out.drew;have HBD:=zh (below_drew HB.out)
 go_region_with (first|(go_at_call 152;(with_reducible refine (numberE1 b s3 s4 n2 _ _ _ _ _ _ _ _ _ _ _ _ _ E3 HD hl3).mono ?_);rintro e w4 ⟨rfl,h4,hb4⟩;have H4:=zh h4;clear h4)|(go_at_call 154;(with_reducible refine (takeE b s4 s5 v8 _ _ _ _ _ _ _ _ _ _ _ _ n2 _ E5 H4 hl4).mono ?_);rintro e w5 ⟨rfl,h5,hb5⟩;replace HB:=zh (((HBD.out.trans hb4).trans hb5).setCell (p:=⟨b,8,none⟩) zle (.string ⟨v8.toArray⟩));replace H:=zh (h5.set8 (.string ⟨v8.toArray⟩));have c8:=h5.cell 8;have f8:=h5.fz 8;simp only[List.getElem?_toArray,List.getElem?_cons_succ,List.getElem?_cons_zero]at c8;clear h5 hb4 hb5))
 clear H4 c8 f8 HD HBD;generalize w5.setCell _ _=W5 at H HB ⊢;have c5:=H.out.cell 5;simp only[J7,J8,J9]at c5;go_wp2_with fail
 clear c5;have HT3:=zh (HT.out.below HB.out hB);refine (varintE b s5 s8 n8 _ _ _ _ _ _ _ _ _ _ _ _ _ E8 HT3 H hl5).mono ?_;rintro e w8 ⟨rfl,h8,hb8⟩;have ca:=h8.cell 10;have fa:=h8.fz 10;simp only[List.getElem?_toArray,List.getElem?_cons_succ,List.getElem?_cons_zero]at ca;replace HB:=zh ((HB.out.trans hb8).setCell (p:=⟨b,10,none⟩) zle (.int .u64 n8));replace H:=zh (h8.set10 (.int .u64 n8));clear h8 hb8;go_wp2
 go_end0
 exact⟨rfl,H.out,HB.out⟩
def lgTy (n:Nat):Nat:=n/16%4
def lgTok (n:Nat) (st:St):List UInt8:=if lgTy n=0 then rdTok (rdIdS (rdIdS (st.skip 4))) else []
def lgSt (n:Nat) (st:St):St:=if lgTy n=0 then rdTokS (rdIdS (rdIdS (st.skip 4))) else rdIdS (rdIdS (st.skip 4))
theorem readLong_any(b n:Nat)(st:St)(x2 x3 x4 x5 x6 x7 x8 xa xb xc:Value)(w:World)(ht:Tab w)(h:Blk b st x2 x3 x4 x5 x6 x7 x8 (.string ⟨#[]⟩) xa xb xc (.int .u8 n) w)(hl:st.s.length≤9223372036854775807)(hn:n<256)(hB:0<b) :
 Calls Tryz.prog 153 #[.pointer (some ⟨b,0,none⟩)] w fun e w'=>e=.returned (.tuple #[])∧Blk b (lgSt n st).vs x2 x3 x4 (.int .i64 (lgTy n:Nat)) (.int .u32 (bk (st.take 4):Nat)) (.string ⟨(rdId (st.skip 4)).toArray⟩) (.string ⟨(rdId (rdIdS (st.skip 4))).toArray⟩) (.string ⟨(lgTok n st).toArray⟩) (.int .u64 ((lgSt n st).vn:Nat)) xb xc (.int .u8 n) w'∧Below b w w':=by
 have hl1:=Nat.le_trans (St.skip_len st 4) hl;have hl2:=Nat.le_trans (St.skip_len (st.skip 4) 1) hl1;have hl3:=Nat.le_trans (rdIdS_len (st.skip 4)) hl1;have hl4:=Nat.le_trans (St.skip_len (rdIdS (st.skip 4)) 1) hl3;have hl5:=Nat.le_trans (rdIdS_len (rdIdS (st.skip 4))) hl3;have hl6:=Nat.le_trans (St.vs_len (rdIdS (rdIdS (st.skip 4)))) hl5;have hl7:=Nat.le_trans (rdTokS_len (rdIdS (rdIdS (st.skip 4)))) hl5;have hv:=bk4 (st.take 4) (St.take_len _ _);by_cases h0:lgTy n=0
 ·have e1:lgTok n st=rdTok (rdIdS (rdIdS (st.skip 4))):=if_pos h0
  have e2:lgSt n st=rdTokS (rdIdS (rdIdS (st.skip 4))):=if_pos h0;rw[e1,e2,h0];exact readLong_0c b n st _ _ _ _ _ _ _ _ _ _ _ _ _ _ _ _ (zh ⟨rfl,rfl⟩) (zh ⟨rfl,rfl⟩) (zh ⟨rfl,rfl⟩) (zh ⟨rfl,rfl⟩) (zh ⟨rfl,rfl⟩) (zh ⟨rfl,rfl⟩) (zh ⟨rfl,rfl⟩) (zh ⟨rfl,rfl⟩) hl hl1 hl2 hl3 hl4 hl5 hl6 hl7 hv.1 hv.2 x2 x3 x4 x5 x6 x7 x8 (.string ⟨#[]⟩) xa xb xc w (zh ht) (zh (by rw[(t48 n hn).1];unfold lgTy at h0;rw[h0];rfl)) (t48 n hn).2 h hB
 ·have e1:lgTok n st=[]:=if_neg h0
  have e2:lgSt n st=rdIdS (rdIdS (st.skip 4)):=if_neg h0;rw[e1,e2];exact readLong_nc b n (lgTy n:Nat) (by omega) (by unfold lgTy;omega) st _ _ _ _ _ _ _ _ _ _ _ _ (zh ⟨rfl,rfl⟩) (zh ⟨rfl,rfl⟩) (zh ⟨rfl,rfl⟩) (zh ⟨rfl,rfl⟩) (zh ⟨rfl,rfl⟩) (zh ⟨rfl,rfl⟩) hl hl1 hl2 hl3 hl4 hl5 hv.1 hv.2 x2 x3 x4 x5 x6 x7 x8 (.string ⟨#[]⟩) xa xb xc w (zh ht) (zh (t48 n hn).1) (t48 n hn).2 h hB
end Go.Proofs.YtagbkmoahflfdaaGreatDoor.Hd
