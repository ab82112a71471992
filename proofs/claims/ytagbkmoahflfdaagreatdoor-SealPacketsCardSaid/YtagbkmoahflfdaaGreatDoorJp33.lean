import Derived.Test.YtagbkmoahflfdaaGreatDoorJp01
import Derived.Test.YtagbkmoahflfdaaGreatDoorJp06
import Derived.Test.YtagbkmoahflfdaaGreatDoorJp31
import Derived.Great.Walk
import Derived.Great.Ranges
import Derived.Deep.RegionWith
import Derived.BigQuiet
import Derived.Test.YtagbkmoahflfdaaGreatDoorJp09
import Derived.Laws.OwnMore
import Derived.Laws.BytesArg
import Derived.Lib.ConvBytes
import Derived.Laws.IdiomStrings
import Derived.Laws.Bits64
set_option maxHeartbeats 16000000
set_option maxRecDepth 20000
set_option linter.unusedVariables false
set_option linter.unusedSimpArgs false
namespace Go.Proofs.YtagbkmoahflfdaaGreatDoor.Se
open Tk Go.RowKit Vm Dg
theorem rl_zero(x:Nat)(hx:x<4294967296):rl x 0=x:=by
 unfold rl;rw[Nat.pow_zero,Nat.mul_one,Nat.mod_eq_of_lt hx,Nat.div_eq_of_lt (by simpa using hx),Nat.add_zero]
theorem left_ref(x n:Nat)(w:World)(hx:x<4294967296)(hn:n≤31):Calls Tryz.prog 74 #[.int .u64 x,.int .i64 n] w fun e w'=>e=.returned (.int .u64 (rl x n:Nat))∧w'=w:=by
 have HX:=zh hx;have h0:=zh (rl_zero x hx);have hnI:(n:Int)≤31:=by omega
 clear hx;go_enter Tryz.func74,Tryz.ntmps74;go_wp2
 go_loop [0,5] (fun xv iv=>∃k:Nat,k≤n∧iv=.int .i64 k∧xv=.int .u64 (rl x k:Nat)) (fun _ iv=>n-(intOf iv).toNat)
 case atStart=>exact⟨0,Nat.zero_le _,rfl,by rw[h0.out]⟩
 case round=>
  clear h0;obtain⟨k,hk,rfl,rfl⟩:=hrel;by_cases hlt:k<n
  ·have hs:=rl_step x k HX.out (by omega)
   have hl:=rl_lt x k HX.out (by omega);have hl2:=rl_lt x (k+1) HX.out (by omega);generalize rl x k=y at *;obtain⟨z,hz⟩:∃z,rl x (k+1)=z:=⟨_,rfl⟩;rw[hz]at hs hl2;have HZ:=zh hz;have e2:((y:Int)*2)%4294967296+(y:Int)/2147483648=(z:Int):=by omega
   have HE:=zh e2;have hyI:(y:Int)<4294967296:=by omega
   have hkI:(k:Int)<(n:Int):=by omega
   clear hs hl2 e2 hz;go_wp2
   go_round
   case rel=>exact⟨k+1,by omega,by go_num,by rw[HZ.out,←HE.out]⟩
   case measure=>simp[intOf];omega
  ·obtain rfl:k=n:=by omega
   go_wp2
   go_ret
   exact⟨rfl,rfl⟩
def nbi (s:List UInt8) (i:Nat):Nat→Nat
 | 0=>0
 | k+1=>nbi s i k*256+(s.getD (4*i+(3-k)) 0).toNat
theorem nbi_lt(s:List UInt8)(i k:Nat):nbi s i k<256^k:=by
 induction k with
 | zero=>simp[nbi]
 | succ k ih=>
  have:=(s.getD (4*i+(3-k)) 0).toNat_lt;simp only[nbi,Nat.pow_succ];omega
theorem nbi_four(s:List UInt8)(i:Nat):nbi s i 4=lw s i:=by
 simp[nbi,lw];omega
theorem word_ref(s:ByteArray)(i:Nat)(w:World)(hs:s.size≤100000)(hi:i≤1000):Calls Tryz.prog 38 #[.string s,.int .i64 i] w fun e w'=>e=.returned (.int .u64 (lw s.data.toList i:Nat))∧w'=w:=by
 have hsI:(s.size:Int)≤100000:=by omega
 have H4:=zh (nbi_four s.data.toList i);have HB:=zh (nbi_lt s.data.toList i);have HSTEP:Hid (∀k,nbi s.data.toList i (k+1)=nbi s.data.toList i k*256+(s.data.toList.getD (4*i+(3-k)) 0).toNat):=zh (fun k=>rfl);obtain⟨I,hI⟩:∃I,4*i=I:=⟨_,rfl⟩;have hIi:(4:Int)*(i:Int)=(I:Int):=by omega
 have hIle:I≤4000:=by omega
 rw[hI]at HSTEP;rw[←H4.out];clear hs hI H4;go_enter Tryz.func38,Tryz.ntmps38;go_wp2
 go_loop [5,6] (fun nv kv=>∃k:Nat,k≤4∧kv=.int .i64 (3-(k:Int))∧nv=.int .u64 (nbi s.data.toList i k:Nat)) (fun _ kv=>(intOf kv+1).toNat)
 case atStart=>exact⟨0,by omega,rfl,rfl⟩
 case round=>
  obtain⟨k,hk,rfl,rfl⟩:=hrel;by_cases hlt:k<4
  ·obtain⟨j,hj⟩:∃j,3-k=j:=⟨_,rfl⟩
   have hji:(3:Int)-(k:Int)=(j:Int):=by omega
   obtain⟨q,hq⟩:∃q,I+j=q:=⟨_,rfl⟩;have hqi:(I:Int)+(j:Int)=(q:Int):=by omega
   have hqle:q≤4003:=by omega
   have hs:=HSTEP.out k;rw[hj,hq]at hs;have hb:=HB.out k;have hp:256^k≤256^3:=Nat.pow_le_pow_right (by decide) (by omega);have hx8:=(s.data.toList.getD q 0).toNat_lt;have hb1:nbi s.data.toList i k<16777216:=by omega
   have HK:=zh (And.intro hlt hj);have hj3:(j:Int)≤3:=by omega
   by_cases hin:q<s.size
   ·have hinI:(q:Int)<(s.size:Int):=by omega
    have hx:s.data.toList.getD q 0=s[q]:=by
     have:q<s.data.toList.length:=by simpa using hin
     simp[List.getD,List.getElem?_eq_getElem this];rfl
    rw[hx]at hs hx8;obtain⟨z,hz⟩:∃z,nbi s.data.toList i (k+1)=z:=⟨_,rfl⟩;rw[hz]at hs;have HZ:=zh hz;clear hz;generalize nbi s.data.toList i k=y at *;have e1:(y:Int)*256+(s[q].toNat:Int)=(z:Int):=by omega
    have HE:=zh e1;have hyI:(y:Int)<16777216:=by omega
    rw[hji];clear hs hb hp hb1 hlt hj hji hq HB HSTEP hx e1;go_wp2
    go_round
    case rel=>exact⟨k+1,by have:=HK.out;omega,by have:=HK.out;push_cast;congr 1;omega,by rw[HZ.out,←HE.out]⟩
    case measure=>have:=HK.out;simp only[intOf];omega
   ·have hinI:¬(q:Int)<(s.size:Int):=by omega
    have hx:s.data.toList.getD q 0=0:=by
     have:¬q<s.data.toList.length:=by simpa using hin
     rw[List.getD,List.getElem?_eq_none (by omega)];rfl
    rw[hx]at hs;obtain⟨z,hz⟩:∃z,nbi s.data.toList i (k+1)=z:=⟨_,rfl⟩;rw[hz]at hs;have HZ:=zh hz;clear hz;generalize nbi s.data.toList i k=y at *;have e1:(y:Int)*256=(z:Int):=by simp at hs;omega
    have HE:=zh e1;have hyI:(y:Int)<16777216:=by omega
    rw[hji];clear hs hb hp hb1 hlt hj hji hq HB HSTEP hx e1 hx8;go_wp2
    go_round
    case rel=>exact⟨k+1,by have:=HK.out;omega,by have:=HK.out;push_cast;congr 1;omega,by rw[HZ.out,←HE.out]⟩
    case measure=>have:=HK.out;simp only[intOf];omega
  ·have hk4:k=4:=by omega
   subst hk4;have h4:((3:Int)-((4:Nat):Int))=-1:=by omega
   rw[h4];go_wp2
   go_ret
   exact⟨rfl,rfl⟩
theorem infQ16:(Tryz.prog.info? 76).map (·.size)=some 16:=by kernel_rfl
theorem alloc_q16(w:World):(Instr.alloc 76 true (.tuple #[])).run Tryz.prog w=.ok (.pointer (some ⟨w.heap.size,0,none⟩)) (w.alloc (.cells ((List.replicate 16 0).map fun x:Nat=>Value.int .u64 x).toArray 76)):=by
 show _=_
 kernel_rfl
def qv (l:List Nat):Value:=.agg (l.map fun x:Nat=>Value.int .u64 x).toArray
structure QW (w W:World) (l:List Nat):Prop where
 a:AQ 76 W w.heap.size l
 r:AQ 76 W (w.heap.size+1) (List.replicate 16 0)
 b:Below w.heap.size w W
theorem QW.set{w W:World}{l:List Nat}(h:QW w W l)(i x:Nat):QW w (W.setCell ⟨w.heap.size,i,none⟩ (.int .u64 x)) (l.set i x):=
 ⟨h.a.set i x,h.r.other (by omega) _ _,h.b.setCell (p:=⟨w.heap.size,i,none⟩) zle _⟩
theorem QW.drew{w W:World}{l:List Nat}(h:QW w W l):QW w W.drew l:=⟨h.a,h.r,below_drew h.b⟩
theorem QW.drewN{w W:World}{n:Nat}{l:List Nat}(h:QW w W l):QW w (W.drewN n) l:=⟨h.a,h.r,Dg.below_drewN h.b _⟩
theorem quarter_ref(L0:List Nat)(p q r t:Nat)(w:World)(hl:L0.length=16)(h32:W32 L0)(hp:p<16)(hq:q<16)(hr:r<16)(ht:t<16) :
 Calls Tryz.prog 39 #[qv L0,.int .i64 p,.int .i64 q,.int .i64 r,.int .i64 t] w fun e w'=>e=.returned (qv (quarterW L0 p q r t))∧Below w.heap.size w w':=by
 unfold quarterW qv;have hl0:=hl;have hw0:=h32;have HA0:=zh (heap_alloc_new w (.cells (L0.map fun x:Nat=>Value.int .u64 x).toArray 76));have hl1:=(mixW_len L0 p q t 16).trans hl0;have hw1:=hw0.mix p q t 16 (by decide);have HM0:Hid (mixW L0 p q t 16=(L0.set p ((L0.getD p 0+L0.getD q 0)%4294967296)).set t (rl ((L0.set p ((L0.getD p 0+L0.getD q 0)%4294967296)).getD t 0 ^^^ (L0.set p ((L0.getD p 0+L0.getD q 0)%4294967296)).getD p 0) 16)):=zh rfl;generalize mixW L0 p q t 16=L1 at *;have hl2:=(mixW_len L1 r t q 12).trans hl1;have hw2:=hw1.mix r t q 12 (by decide);have HM1:Hid (mixW L1 r t q 12=(L1.set r ((L1.getD r 0+L1.getD t 0)%4294967296)).set q (rl ((L1.set r ((L1.getD r 0+L1.getD t 0)%4294967296)).getD q 0 ^^^ (L1.set r ((L1.getD r 0+L1.getD t 0)%4294967296)).getD r 0) 12)):=zh rfl;generalize mixW L1 r t q 12=L2 at *;have hl3:=(mixW_len L2 p q t 8).trans hl2;have hw3:=hw2.mix p q t 8 (by decide);have HM2:Hid (mixW L2 p q t 8=(L2.set p ((L2.getD p 0+L2.getD q 0)%4294967296)).set t (rl ((L2.set p ((L2.getD p 0+L2.getD q 0)%4294967296)).getD t 0 ^^^ (L2.set p ((L2.getD p 0+L2.getD q 0)%4294967296)).getD p 0) 8)):=zh rfl;generalize mixW L2 p q t 8=L3 at *;have hl4:=(mixW_len L3 r t q 7).trans hl3;have hw4:=hw3.mix r t q 7 (by decide);have HM3:Hid (mixW L3 r t q 7=(L3.set r ((L3.getD r 0+L3.getD t 0)%4294967296)).set q (rl ((L3.set r ((L3.getD r 0+L3.getD t 0)%4294967296)).getD q 0 ^^^ (L3.set r ((L3.getD r 0+L3.getD t 0)%4294967296)).getD r 0) 7)):=zh rfl;generalize mixW L3 r t q 7=L4 at *;have hpI:(p:Int)<16:=by omega
 have hqI:(q:Int)<16:=by omega
 have hrI:(r:Int)<16:=by omega
 have htI:(t:Int)<16:=by omega
 have HQ:=zh (And.intro hp (And.intro hq (And.intro hr ht)));have HLW:=zh (And.intro hl0 (And.intro hw0 (And.intro hl1 (And.intro hw1 (And.intro hl2 (And.intro hw2 (And.intro hl3 (And.intro hw3 hl4))))))));clear hl h32 hp hq hr ht hl0 hw0 hl1 hw1 hl2 hw2 hl3 hw3 hl4 hw4;go_enter Tryz.func39,Tryz.ntmps39;go_upto_region 0 with (fail)
 refine wp_region_lit ?_;refine Go.Great.wpList_boxTo rfl _ _ rfl (some 5) rfl w.heap.size rfl (L0.map fun x:Nat=>Value.int .u64 x).toArray rfl ?_;refine wpList_allocQ rfl _ rfl _ alloc_q16 ?_
 have HQ0:Hid (QW w ((w.alloc (.cells (L0.map fun x:Nat=>Value.int .u64 x).toArray 76)).alloc (.cells ((List.replicate 16 0).map fun x:Nat=>Value.int .u64 x).toArray 76)) L0):=zh ⟨(Lib.alloc_old _ _ _ (by simp)).trans HA0.out,by
  have e:w.heap.size+1=(w.alloc (.cells (L0.map fun x:Nat=>Value.int .u64 x).toArray 76)).heap.size:=by simp
  rw[e]
  exact heap_alloc_new _ _,((Below.refl _ _).alloc zle _).alloc (by simp) _⟩
 go_upto_region 1 with (fail)
 try rw[World.size_alloc]
 simp only[Act.put,List.getElem_toArray,List.getElem_cons_zero,List.getElem_cons_succ,List.setIfInBounds_toArray,List.set_cons_zero,List.set_cons_succ];generalize (w.alloc (.cells (L0.map fun x:Nat=>Value.int .u64 x).toArray 76)).alloc (.cells ((List.replicate 16 0).map fun x:Nat=>Value.int .u64 x).toArray 76)=W0 at *;clear HA0;go_wp2_with fail
 have HS0:Hid (∃(l1:List Nat) (x0 x1 s0 q0 y0 y1 y z:Nat),(∀W:World,QW w W L0→W.cell? ⟨w.heap.size,p,none⟩=some (.int .u64 x0)∧W.cell? ⟨w.heap.size,q,none⟩=some (.int .u64 x1)∧W.frozen? ⟨w.heap.size,p,none⟩=false∧QW w (W.setCell ⟨w.heap.size,p,none⟩ (.int .u64 q0)) l1) ∧
  (∀W:World,QW w W l1→W.cell? ⟨w.heap.size,t,none⟩=some (.int .u64 y0)∧W.cell? ⟨w.heap.size,p,none⟩=some (.int .u64 y1)∧W.frozen? ⟨w.heap.size,t,none⟩=false∧QW w (W.setCell ⟨w.heap.size,t,none⟩ (.int .u64 z)) L1) ∧
  (x0:Int)<4294967296∧(x1:Int)<4294967296∧((x0:Int)+(x1:Int))%4294967296=(q0:Int)∧bits .xor .u64 (y0:Int) (y1:Int)=(y:Int)∧(∀W:World,Calls Tryz.prog 74 #[.int .u64 (y:Int),.int .i64 16] W fun e w'=>e=.returned (.int .u64 (z:Nat))∧w'=W)):=zh (by
  obtain⟨hp,hq,hr,ht⟩:=HQ.out;obtain⟨hl0,hw0,hl1,hw1,hl2,hw2,hl3,hw3,hl4⟩:=HLW.out;have hx0:=hw0.get p;have hx1:=hw0.get q;have hw':=hw0.set p ((L0.getD p 0+L0.getD q 0)%4294967296) (Nat.mod_lt _ (by decide));refine⟨L0.set p ((L0.getD p 0+L0.getD q 0)%4294967296),L0.getD p 0,L0.getD q 0,L0.getD p 0+L0.getD q 0,(L0.getD p 0+L0.getD q 0)%4294967296,_,_,_,_,?_,?_,by omega,by omega,by omega,xorQ _ _ (hw'.get t) (hw'.get p),fun W=>left_ref _ 16 W (Nat.xor_lt_two_pow (n:=32) (hw'.get t) (hw'.get p)) (by decide)⟩
  ·intro W h
   exact⟨h.a.cell p (by omega),h.a.cell q (by omega),h.a.fz p,h.set p _⟩
  ·intro W h
   rw[HM0.out]
   exact⟨h.a.cell t (by simp[hl0];omega),h.a.cell p (by simp[hl0];omega),h.a.fz t,h.set t _⟩)
 obtain⟨l1,x0,x1,s0,q0,y0,y1,y,z,F1,F2,e0,e1,e2,e3,CL0⟩:=HS0.out;have CL:=zh CL0;clear CL0;have EQ:Hid ((IntKind.u64.wrap ((x0:Int)+(x1:Int))).tmod 4294967296=(q0:Int)):=zh (by rw[IntKind.wrap_u64,Int.tmod_eq_emod_of_nonneg (by omega)];omega);obtain⟨c0,c1,fz0,hn1⟩:=F1 _ HQ0.out;have HN1:=zh hn1;have HF2:=zh F2;clear hn1 F1 F2 HS0
 go_cut [10] from 11 to 20 (fun v10 W=>v10=.pointer (some ⟨w.heap.size+1,0,none⟩)∧QW w W l1)
 case first=>
  go_region
  all_goals (
   go_wp2_with fail
   go_meet
   case rel=>exact⟨rfl,by first|exact HN1.out.drew|(rw[EQ.out];exact HN1.out.drew)⟩)
 case rest=>
  obtain⟨rfl,hq⟩:=hcut;clear HN1 EQ c0 c1 fz0 e0 e1 e2;obtain⟨d0,d1,fz1,hn2⟩:=HF2.out _ hq;have HN2:=zh hn2;clear hn2 hq HF2;go_upto_region 2 with (fail)
  go_cut [10] from 21 to 30 (fun v10 W=>v10=.pointer (some ⟨w.heap.size+1,0,none⟩)∧QW w W L1)
  case first=>
   go_region_with (go_at_call 74;(with_reducible refine (CL.out _).mono ?_);rintro f1 v1 ⟨rfl,rfl⟩)
   all_goals (
    go_wp2_with fail
    go_meet
    case rel=>exact⟨rfl,by first|exact HN2.out|exact HN2.out.drew|exact HN2.out.drew.drew⟩)
  case rest=>
   obtain⟨rfl,hq⟩:=hcut;have HQ1:=zh hq;clear hq HN2 d0 d1 fz1 e3 CL;go_upto_region 3 with (fail)
   have HS1:Hid (∃(l1:List Nat) (x0 x1 s0 q0 y0 y1 y z:Nat),(∀W:World,QW w W L1→W.cell? ⟨w.heap.size,r,none⟩=some (.int .u64 x0)∧W.cell? ⟨w.heap.size,t,none⟩=some (.int .u64 x1)∧W.frozen? ⟨w.heap.size,r,none⟩=false∧QW w (W.setCell ⟨w.heap.size,r,none⟩ (.int .u64 q0)) l1) ∧
    (∀W:World,QW w W l1→W.cell? ⟨w.heap.size,q,none⟩=some (.int .u64 y0)∧W.cell? ⟨w.heap.size,r,none⟩=some (.int .u64 y1)∧W.frozen? ⟨w.heap.size,q,none⟩=false∧QW w (W.setCell ⟨w.heap.size,q,none⟩ (.int .u64 z)) L2) ∧
    (x0:Int)<4294967296∧(x1:Int)<4294967296∧((x0:Int)+(x1:Int))%4294967296=(q0:Int)∧bits .xor .u64 (y0:Int) (y1:Int)=(y:Int)∧(∀W:World,Calls Tryz.prog 74 #[.int .u64 (y:Int),.int .i64 12] W fun e w'=>e=.returned (.int .u64 (z:Nat))∧w'=W)):=zh (by
    obtain⟨hp,hq,hr,ht⟩:=HQ.out;obtain⟨hl0,hw0,hl1,hw1,hl2,hw2,hl3,hw3,hl4⟩:=HLW.out;have hx0:=hw1.get r;have hx1:=hw1.get t;have hw':=hw1.set r ((L1.getD r 0+L1.getD t 0)%4294967296) (Nat.mod_lt _ (by decide));refine⟨L1.set r ((L1.getD r 0+L1.getD t 0)%4294967296),L1.getD r 0,L1.getD t 0,L1.getD r 0+L1.getD t 0,(L1.getD r 0+L1.getD t 0)%4294967296,_,_,_,_,?_,?_,by omega,by omega,by omega,xorQ _ _ (hw'.get q) (hw'.get r),fun W=>left_ref _ 12 W (Nat.xor_lt_two_pow (n:=32) (hw'.get q) (hw'.get r)) (by decide)⟩
    ·intro W h
     exact⟨h.a.cell r (by omega),h.a.cell t (by omega),h.a.fz r,h.set r _⟩
    ·intro W h
     rw[HM1.out]
     exact⟨h.a.cell q (by simp[hl1];omega),h.a.cell r (by simp[hl1];omega),h.a.fz q,h.set q _⟩)
   obtain⟨l1,x0,x1,s0,q0,y0,y1,y,z,F1,F2,e0,e1,e2,e3,CL0⟩:=HS1.out;have CL:=zh CL0;clear CL0;have EQ:Hid ((IntKind.u64.wrap ((x0:Int)+(x1:Int))).tmod 4294967296=(q0:Int)):=zh (by rw[IntKind.wrap_u64,Int.tmod_eq_emod_of_nonneg (by omega)];omega);obtain⟨c0,c1,fz0,hn1⟩:=F1 _ HQ1.out;have HN1:=zh hn1;have HF2:=zh F2;clear hn1 F1 F2 HS1
   go_cut [10] from 31 to 40 (fun v10 W=>v10=.pointer (some ⟨w.heap.size+1,0,none⟩)∧QW w W l1)
   case first=>
    go_region
    all_goals (
     go_wp2_with fail
     go_meet
     case rel=>exact⟨rfl,by first|exact HN1.out.drew|(rw[EQ.out];exact HN1.out.drew)⟩)
   case rest=>
    obtain⟨rfl,hq⟩:=hcut;clear HN1 EQ c0 c1 fz0 e0 e1 e2;obtain⟨d0,d1,fz1,hn2⟩:=HF2.out _ hq;have HN2:=zh hn2;clear hn2 hq HF2;go_upto_region 4 with (fail)
    go_cut [10] from 41 to 50 (fun v10 W=>v10=.pointer (some ⟨w.heap.size+1,0,none⟩)∧QW w W L2)
    case first=>
     go_region_with (go_at_call 74;(with_reducible refine (CL.out _).mono ?_);rintro f1 v1 ⟨rfl,rfl⟩)
     all_goals (
      go_wp2_with fail
      go_meet
      case rel=>exact⟨rfl,by first|exact HN2.out|exact HN2.out.drew|exact HN2.out.drew.drew⟩)
    case rest=>
     obtain⟨rfl,hq⟩:=hcut;have HQ2:=zh hq;clear hq HN2 d0 d1 fz1 e3 CL;go_upto_region 5 with (fail)
     have HS2:Hid (∃(l1:List Nat) (x0 x1 s0 q0 y0 y1 y z:Nat),(∀W:World,QW w W L2→W.cell? ⟨w.heap.size,p,none⟩=some (.int .u64 x0)∧W.cell? ⟨w.heap.size,q,none⟩=some (.int .u64 x1)∧W.frozen? ⟨w.heap.size,p,none⟩=false∧QW w (W.setCell ⟨w.heap.size,p,none⟩ (.int .u64 q0)) l1) ∧
      (∀W:World,QW w W l1→W.cell? ⟨w.heap.size,t,none⟩=some (.int .u64 y0)∧W.cell? ⟨w.heap.size,p,none⟩=some (.int .u64 y1)∧W.frozen? ⟨w.heap.size,t,none⟩=false∧QW w (W.setCell ⟨w.heap.size,t,none⟩ (.int .u64 z)) L3) ∧
      (x0:Int)<4294967296∧(x1:Int)<4294967296∧((x0:Int)+(x1:Int))%4294967296=(q0:Int)∧bits .xor .u64 (y0:Int) (y1:Int)=(y:Int)∧(∀W:World,Calls Tryz.prog 74 #[.int .u64 (y:Int),.int .i64 8] W fun e w'=>e=.returned (.int .u64 (z:Nat))∧w'=W)):=zh (by
      obtain⟨hp,hq,hr,ht⟩:=HQ.out;obtain⟨hl0,hw0,hl1,hw1,hl2,hw2,hl3,hw3,hl4⟩:=HLW.out;have hx0:=hw2.get p;have hx1:=hw2.get q;have hw':=hw2.set p ((L2.getD p 0+L2.getD q 0)%4294967296) (Nat.mod_lt _ (by decide));refine⟨L2.set p ((L2.getD p 0+L2.getD q 0)%4294967296),L2.getD p 0,L2.getD q 0,L2.getD p 0+L2.getD q 0,(L2.getD p 0+L2.getD q 0)%4294967296,_,_,_,_,?_,?_,by omega,by omega,by omega,xorQ _ _ (hw'.get t) (hw'.get p),fun W=>left_ref _ 8 W (Nat.xor_lt_two_pow (n:=32) (hw'.get t) (hw'.get p)) (by decide)⟩
      ·intro W h
       exact⟨h.a.cell p (by omega),h.a.cell q (by omega),h.a.fz p,h.set p _⟩
      ·intro W h
       rw[HM2.out]
       exact⟨h.a.cell t (by simp[hl2];omega),h.a.cell p (by simp[hl2];omega),h.a.fz t,h.set t _⟩)
     obtain⟨l1,x0,x1,s0,q0,y0,y1,y,z,F1,F2,e0,e1,e2,e3,CL0⟩:=HS2.out;have CL:=zh CL0;clear CL0;have EQ:Hid ((IntKind.u64.wrap ((x0:Int)+(x1:Int))).tmod 4294967296=(q0:Int)):=zh (by rw[IntKind.wrap_u64,Int.tmod_eq_emod_of_nonneg (by omega)];omega);obtain⟨c0,c1,fz0,hn1⟩:=F1 _ HQ2.out;have HN1:=zh hn1;have HF2:=zh F2;clear hn1 F1 F2 HS2
     go_cut [10] from 51 to 60 (fun v10 W=>v10=.pointer (some ⟨w.heap.size+1,0,none⟩)∧QW w W l1)
     case first=>
      go_region
      all_goals (
       go_wp2_with fail
       go_meet
       case rel=>exact⟨rfl,by first|exact HN1.out.drew|(rw[EQ.out];exact HN1.out.drew)⟩)
     case rest=>
      obtain⟨rfl,hq⟩:=hcut;clear HN1 EQ c0 c1 fz0 e0 e1 e2;obtain⟨d0,d1,fz1,hn2⟩:=HF2.out _ hq;have HN2:=zh hn2;clear hn2 hq HF2;go_upto_region 6 with (fail)
      go_cut [10] from 61 to 70 (fun v10 W=>v10=.pointer (some ⟨w.heap.size+1,0,none⟩)∧QW w W L3)
      case first=>
       go_region_with (go_at_call 74;(with_reducible refine (CL.out _).mono ?_);rintro f1 v1 ⟨rfl,rfl⟩)
       all_goals (
        go_wp2_with fail
        go_meet
        case rel=>exact⟨rfl,by first|exact HN2.out|exact HN2.out.drew|exact HN2.out.drew.drew⟩)
      case rest=>
       obtain⟨rfl,hq⟩:=hcut;have HQ3:=zh hq;clear hq HN2 d0 d1 fz1 e3 CL;go_upto_region 7 with (fail)
       have HS3:Hid (∃(l1:List Nat) (x0 x1 s0 q0 y0 y1 y z:Nat),(∀W:World,QW w W L3→W.cell? ⟨w.heap.size,r,none⟩=some (.int .u64 x0)∧W.cell? ⟨w.heap.size,t,none⟩=some (.int .u64 x1)∧W.frozen? ⟨w.heap.size,r,none⟩=false∧QW w (W.setCell ⟨w.heap.size,r,none⟩ (.int .u64 q0)) l1) ∧
        (∀W:World,QW w W l1→W.cell? ⟨w.heap.size,q,none⟩=some (.int .u64 y0)∧W.cell? ⟨w.heap.size,r,none⟩=some (.int .u64 y1)∧W.frozen? ⟨w.heap.size,q,none⟩=false∧QW w (W.setCell ⟨w.heap.size,q,none⟩ (.int .u64 z)) L4) ∧
        (x0:Int)<4294967296∧(x1:Int)<4294967296∧((x0:Int)+(x1:Int))%4294967296=(q0:Int)∧bits .xor .u64 (y0:Int) (y1:Int)=(y:Int)∧(∀W:World,Calls Tryz.prog 74 #[.int .u64 (y:Int),.int .i64 7] W fun e w'=>e=.returned (.int .u64 (z:Nat))∧w'=W)):=zh (by
        obtain⟨hp,hq,hr,ht⟩:=HQ.out;obtain⟨hl0,hw0,hl1,hw1,hl2,hw2,hl3,hw3,hl4⟩:=HLW.out;have hx0:=hw3.get r;have hx1:=hw3.get t;have hw':=hw3.set r ((L3.getD r 0+L3.getD t 0)%4294967296) (Nat.mod_lt _ (by decide));refine⟨L3.set r ((L3.getD r 0+L3.getD t 0)%4294967296),L3.getD r 0,L3.getD t 0,L3.getD r 0+L3.getD t 0,(L3.getD r 0+L3.getD t 0)%4294967296,_,_,_,_,?_,?_,by omega,by omega,by omega,xorQ _ _ (hw'.get q) (hw'.get r),fun W=>left_ref _ 7 W (Nat.xor_lt_two_pow (n:=32) (hw'.get q) (hw'.get r)) (by decide)⟩
        ·intro W h
         exact⟨h.a.cell r (by omega),h.a.cell t (by omega),h.a.fz r,h.set r _⟩
        ·intro W h
         rw[HM3.out]
         exact⟨h.a.cell q (by simp[hl3];omega),h.a.cell r (by simp[hl3];omega),h.a.fz q,h.set q _⟩)
       obtain⟨l1,x0,x1,s0,q0,y0,y1,y,z,F1,F2,e0,e1,e2,e3,CL0⟩:=HS3.out;have CL:=zh CL0;clear CL0;have EQ:Hid ((IntKind.u64.wrap ((x0:Int)+(x1:Int))).tmod 4294967296=(q0:Int)):=zh (by rw[IntKind.wrap_u64,Int.tmod_eq_emod_of_nonneg (by omega)];omega);obtain⟨c0,c1,fz0,hn1⟩:=F1 _ HQ3.out;have HN1:=zh hn1;have HF2:=zh F2;clear hn1 F1 F2 HS3
       go_cut [10] from 71 to 80 (fun v10 W=>v10=.pointer (some ⟨w.heap.size+1,0,none⟩)∧QW w W l1)
       case first=>
        go_region
        all_goals (
         go_wp2_with fail
         go_meet
         case rel=>exact⟨rfl,by first|exact HN1.out.drew|(rw[EQ.out];exact HN1.out.drew)⟩)
       case rest=>
        obtain⟨rfl,hq⟩:=hcut;clear HN1 EQ c0 c1 fz0 e0 e1 e2;obtain⟨d0,d1,fz1,hn2⟩:=HF2.out _ hq;have HN2:=zh hn2;clear hn2 hq HF2;go_upto_region 8 with (fail)
        go_cut [10] from 81 to 90 (fun v10 W=>v10=.pointer (some ⟨w.heap.size+1,0,none⟩)∧QW w W L4)
        case first=>
         go_region_with (go_at_call 74;(with_reducible refine (CL.out _).mono ?_);rintro f1 v1 ⟨rfl,rfl⟩)
         all_goals (
          go_wp2_with fail
          go_meet
          case rel=>exact⟨rfl,by first|exact HN2.out|exact HN2.out.drew|exact HN2.out.drew.drew⟩)
        case rest=>
         obtain⟨rfl,hq⟩:=hcut;have HQ4:=zh hq;clear hq HN2 d0 d1 fz1 e3 CL;go_upto_region 9 with (fail)
         obtain⟨hl0,hw0,hl1,hw1,hl2,hw2,hl3,hw3,hl4⟩:=HLW.out;refine wp_region_lit ?_;refine wpList_load_row rfl _ _ rfl w.heap.size rfl _ _ _ _ HQ4.out.a Tryz.underlying76 rfl (by rw[infQ16,w64_len,hl4]) ?_;refine wpList_store_row rfl _ _ _ rfl (w.heap.size+1) (L4.map fun x:Nat=>Value.int .u64 x).toArray rfl rfl _ _ HQ4.out.r (by rw[infQ16,w64_len,hl4]) (by rw[w64_len,w64_len,hl4,List.length_replicate]) (all_words64 _) ?_;have HRW:=zh (setRow_heap _ (w.heap.size+1) _ (L4.map fun x:Nat=>Value.int .u64 x).toArray _ _ HQ4.out.r);have HBW:=zh (below_setRow (g:=w.heap.size+1) HQ4.out.b (Nat.le_succ _) (L4.map fun x:Nat=>Value.int .u64 x).toArray);generalize World.setRow _ _ _=W at HRW HBW ⊢;go_wp2;exact bodyPost_ret (v:=.agg (L4.map fun x:Nat=>Value.int .u64 x).toArray) (results_cell_row Tryz.results39 _ W (w.heap.size+1) _ _ _ _ rfl HRW.out Tryz.underlying76 rfl (by rw[infQ16,w64_len,hl4])) rfl ⟨rfl,HBW.out⟩
end Go.Proofs.YtagbkmoahflfdaaGreatDoor.Se
namespace Go.Proofs.YtagbkmoahflfdaaGreatDoor.Dg
open Tk Go.RowKit
def XrR (Z:Nat) (wr:World) (xv kv:Value) (wx:World):Prop:=∃j m:Nat,j≤8∧kv=.int .i64 (2^j:Nat)∧xv=.int .i64 (Z%2^j:Nat)∧wx=wr.drewN m
set_option maxRecDepth 20000 in
theorem xor_ref(a b:ByteArray)(w:World)(ha:a.size≤100000)(hb:b.size≤100000) :
 Calls Tryz.prog 40 #[.string a,.string b] w fun e w'=>e=.returned (.string ⟨(xorL a.data.toList b.data.toList).toArray⟩)∧Below w.heap.size w w':=by
 obtain⟨i0,hi,hz0,hz1,hz2⟩:=info_parts Bld.infoB;have hi:=zh hi;have hz0:=zh hz0;have hz1:=zh hz1;have hz2:=zh hz2;have hla:a.data.toList.length=a.size:=by simp
 have hlb:b.data.toList.length=b.size:=by simp
 obtain⟨M,hM⟩:∃M,min a.size b.size=M:=⟨_,rfl⟩;have hMa:M≤a.size:=by omega
 have hMb:M≤b.size:=by omega
 have hMM:a.size≤M∨(M<a.size∧b.size≤M):=by omega
 obtain⟨X,hX⟩:∃X,xorL a.data.toList b.data.toList=X:=⟨_,rfl⟩;have hXl:X.length=M:=by rw[←hX,xorL_len,hla,hlb,hM]
 rw[hX];have HX:=zh hX;have HLA:=zh hla;have HLB:=zh hlb;have ha':(a.size:Int)≤100000:=by omega
 have hb':(b.size:Int)≤100000:=by omega
 have hM1:M≤100000:=by omega
 have HM1:=zh hM1;clear hla hlb hX hM ha hb hM1;go_enter Tryz.func40,Tryz.ntmps40;go_wp2
 go_loopw [5,6] (fun tv iv wr=>∃(k:Nat) (ad:Option Addr) (c:Nat),k≤M∧iv=.int .i64 k∧tv=.slice ad k c∧Own8 wr w.heap.size (.slice ad k c) (X.take k)∧Below w.heap.size w wr) (fun _ iv _=>M-(intOf iv).toNat)
 case atStart=>
  refine⟨0,some ⟨w.heap.size,0,none⟩,0,Nat.zero_le _,rfl,rfl,?_,(Below.refl _ _).alloc zle _⟩;exact World.ownsRow_lit (e:=5) (size:=1) w #[] 0 zle (by decide) rfl
 case round=>
  obtain⟨k,ad,c,hk,rfl,rfl,hO,hb⟩:=hrel;have HO:=zh hO;have hsz:=hb.size;have HBr:=zh hb;clear hb hO;by_cases hlt:k<M
  ·have hka:k<a.size:=by omega
   have hkb:k<b.size:=by omega
   obtain⟨x,hx⟩:∃x,a[k]=x:=⟨_,rfl⟩;obtain⟨y,hy⟩:∃y,b[k]=y:=⟨_,rfl⟩
   have hgx:a.data.toList[k]?=some x:=by
    rw[List.getElem?_eq_getElem (by rw[HLA.out];exact hka),←hx];rfl
   have hgy:b.data.toList[k]?=some y:=by
    rw[List.getElem?_eq_getElem (by rw[HLB.out];exact hkb),←hy];rfl
   have HS:Hid (X.take (k+1)=X.take k++[x ^^^ y]):=zh (by rw[←HX.out,xorL_step _ _ _ _ _ hgx hgy]);obtain⟨Z,hZ⟩:∃Z,x.toNat ^^^ y.toNat=Z:=⟨_,rfl⟩;have hZ1:Z<256:=by rw[←hZ];exact Nat.xor_lt_two_pow (n:=8) x.toNat_lt y.toNat_lt
   have HZ:=zh hZ;have hx8:=x.toNat_lt;have hy8:=y.toNat_lt;clear hgx hgy hZ;go_wp2
   go_loopw [7,8] (fun xv kv wx=>XrR Z wr xv kv wx) (fun _ kv _=>256-(intOf kv).toNat)
   case atStart=>exact⟨0,0,by omega,rfl,by simp,rfl⟩
   case round=>
    obtain⟨j,m,hj,rfl,rfl,rfl⟩:=hrel;by_cases hj8:j<8
    ·have hK1:2^j≤2^7:=Nat.pow_le_pow_right (by decide) (by omega)
     have hK0:1≤2^j:=Nat.one_le_two_pow;have HK2:Hid (2^(j+1)=2*2^j):=zh (by rw[Nat.pow_succ];omega);have hBS:=bit_step x.toNat y.toNat j;rw[HZ.out]at hBS;have hT:Z%2^j<2^j:=Nat.mod_lt _ (by omega);have HBS:=zh hBS;clear hBS;obtain⟨N,hN⟩:∃N,Z%2^(j+1)=N:=⟨_,rfl⟩;have HN:=zh hN;rw[hN]at HBS;clear hN;generalize Z%2^j=T at *;obtain⟨K,hK⟩:∃K,2^j=K:=⟨_,rfl⟩;rw[hK]at hK1 hK0 HK2 hT HBS;rw[hK];clear hK;obtain⟨P,hP⟩:∃P,x.toNat/K=P:=⟨_,rfl⟩;obtain⟨Q,hQ⟩:∃Q,y.toNat/K=Q:=⟨_,rfl⟩;have eP:(x.toNat:Int)/(K:Int)=(P:Int):=by rw[←hP];push_cast;rfl
     have eQ:(y.toNat:Int)/(K:Int)=(Q:Int):=by rw[←hQ];push_cast;rfl
     have eP2:(x.toNat:Int).tdiv (K:Int)=(P:Int):=by rw[Int.tdiv_eq_ediv_of_nonneg (by omega)];exact eP
     have eQ2:(y.toNat:Int).tdiv (K:Int)=(Q:Int):=by rw[Int.tdiv_eq_ediv_of_nonneg (by omega)];exact eQ
     have hP1:(P:Int)≤255:=by have:=Nat.div_le_self x.toNat K;omega
     have hQ1:(Q:Int)≤255:=by have:=Nat.div_le_self y.toNat K;omega
     rw[hP,hQ]at HBS;have hKne:((K:Int)==0)=false:=by rw[beq_eq_false_iff_ne];omega
     have k1:(K:Int)≤128:=by omega
     have k2:(1:Int)≤(K:Int):=by omega
     clear hP hQ;obtain⟨p,hp⟩:∃p,P%2=p:=⟨_,rfl⟩;obtain⟨q,hq⟩:∃q,Q%2=q:=⟨_,rfl⟩;have ep:(P:Int)%2=(p:Int):=by omega
     have eq:(Q:Int)%2=(q:Int):=by omega
     rw[hp,hq]at HBS;clear hp hq;have HKS:=zh hKne;clear hx8 hy8 hZ1;have q1:(x.toNat:Int)≤255:=by have:=x.toNat_lt;omega
     have q2:(y.toNat:Int)≤255:=by have:=y.toNat_lt;omega
     by_cases hpq:p=q
     ·subst hpq
      rw[if_pos rfl]at HBS;have HNT:Hid (N=T):=zh (by have:=HBS.out;omega);go_wp2;go_quiet (fail)
      all_goals
       go_wp2
       go_roundw
       case rel=>exact⟨j+1,_,by omega,by rw[HK2.out];go_num,by rw[HN.out,HNT.out],rfl⟩
       case measure=>simp[intOf];omega
     ·rw[if_neg hpq]at HBS
      have HNT:Hid (N=T+K):=zh (by have:=HBS.out;omega);go_wp2;go_quiet (fail)
      all_goals
       go_wp2
       go_roundw
       case rel=>exact⟨j+1,_,by omega,by rw[HK2.out];go_num,by rw[HN.out,HNT.out];go_num,rfl⟩
       case measure=>simp[intOf];omega
    ·obtain rfl:j=8:=by omega
     have hz8:Z%2^8=Z:=Nat.mod_eq_of_lt hZ1;rw[hz8,show (2:Nat)^8=256 from rfl];have hcv:(Z:Int)%256=(Z:Int):=by omega
     have HO2:Hid ((wr.drewN m).ownsRow w.heap.size 5 1 (.slice ad k c) k (Lib.byteCells (X.take k))):=zh (show wr.ownsRow w.heap.size 5 1 (.slice ad k c) k (Lib.byteCells (X.take k)) from (by
      have h1:=HO.out;unfold Own8 at h1;rw[List.length_take,Nat.min_eq_left (by omega)]at h1
      exact h1))
     have HBm:=zh (below_drewN HBr.out m);have hszm:w.heap.size≤(wr.drewN m).heap.size:=hsz;generalize wr.drewN m=Wm at HO2 HBm hszm ⊢
     have HNW:Hid (∀(j:Nat) (u:Value),([.int .u8 Z]:List Value)[j]?=some u→(Wm.alloc (.cells #[.int .u8 Z] 5)).cell? ((⟨Wm.heap.size,0,none⟩:Addr).add j)=some u):=zh (by
      intro j u hj
      cases j with
      | zero=>
       simp only[List.getElem?_cons_zero,Option.some.injEq]at hj;subst hj;simp[Addr.add,go_sem]
      | succ j=>simp at hj)
     have HZc:Hid (Lib.byteCells [x ^^^ y]=[.int .u8 (Z:Nat)]):=zh (by rw[←HZ.out,←UInt8.toNat_xor];rfl);have HO3:=zh (World.ownsRow.alloc HO2.out (.cells #[.int .u8 Z] 5));go_wp2_with (at_builtin;refine wpList_append_own _ rfl _ _ 66 rfl w.heap.size 5 i0 (.int .u8 0) 1 1 Tryz.underlying66 hi.out hz0.out hz1.out hz2.out rfl (by decide) _ _ _ rfl HO3.out ⟨Wm.heap.size,0,none⟩ 1 1 [.int .u8 Z] rfl rfl HNW.out ?c2 ?c3 ?c4 ?c5 ?_)
     case c2=>first|rfl|(intro u hu;rw[List.mem_singleton.1 hu];rfl)
     case c3=>have:=HM1.out;unfold maxLen;omega
     case c4=>have:=HM1.out;omega
     case c5=>simp;omega
     intro v' w2 hown' hgrow _
     have hO8:Own8 w2 w.heap.size v' (X.take (k+1)):=by
      rw[HS.out];exact Own8.of (by rw[List.length_take,Nat.min_eq_left (by omega)]) (by rw[HZc.out];exact hown')
     obtain⟨a2,c2,rfl⟩:=hO8.form;rw[List.length_take,Nat.min_eq_left (by omega)]at hO8 ⊢;have HO8:=zh hO8;have HB8:Hid (Below w.heap.size w w2):=zh ((HBm.out.alloc hszm _).grown hgrow (by simp;omega) (fun i hi=>(HO2.out.lt i hi).1));clear hown' hgrow hO8;go_wp2
     go_roundw
     case rel=>exact⟨k+1,a2,c2,by omega,by go_num,rfl,HO8.out,HB8.out⟩
     case measure=>simp[intOf];omega
  ·obtain rfl:k=M:=by omega
   have HO2:Hid (wr.ownsRow w.heap.size 5 1 (.slice ad X.length c) X.length (Lib.byteCells X)):=zh (by
    have h1:=HO.out;unfold Own8 at h1;rw[List.take_of_length_le (by omega)]at h1;rw[hXl]at h1 ⊢
    exact h1)
   have HC:Hid ((convert 66 9 (.slice ad X.length c)).run Tryz.prog wr=.ok (.string ⟨X.toArray⟩) wr):=zh (conv_owned X HO2.out);rw[hXl]at HC;have hconv:=HC.out;rcases hMM with hMM|⟨hMM1,hMM⟩
   all_goals
    go_wp2
    go_ret
    exact⟨rfl,HBr.out⟩
end Go.Proofs.YtagbkmoahflfdaaGreatDoor.Dg
