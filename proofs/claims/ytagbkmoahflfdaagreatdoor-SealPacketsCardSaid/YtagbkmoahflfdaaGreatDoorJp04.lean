import Derived.Test.YtagbkmoahflfdaaGreatDoorJp01
import Derived.Test.YtagbkmoahflfdaaGreatDoorJp03
import Derived.Laws.AppendOwn
import Derived.Laws.OwnMore
import Derived.WalkMore
import Derived.Test.YtagbkmoahflfdaaGreatDoorShelf
import Derived.Deep.QuietTactic
import Derived.BigQuiet
import Derived.Deep.RegionHeld3
import Derived.Laws.CopyOwn
import Derived.Deep.CutRange
import Derived.Test.YtagbkmoahflfdaaGreatDoorRows
import Derived.Shelf.Strings.Builder1
import Derived.Shelf.Strings.BuilderF
import Derived.Lib.Hide
set_option maxHeartbeats 8000000
set_option maxRecDepth 20000
set_option linter.unusedVariables false
set_option linter.unusedSimpArgs false
namespace Go.Proofs.YtagbkmoahflfdaaGreatDoor.Dg
open Tk Go.RowKit
def ints (l:List Nat):List Value:=l.map fun x:Nat=>Value.int .u64 x
def Own64 (w:World) (B:Nat) (v:Value) (l:List Nat):Prop:=w.ownsRow B 27 1 v l.length (ints l)
theorem Own64.form{w:World}{B:Nat}{v:Value}{l:List Nat}(h:Own64 w B v l):∃a c,v=.slice a l.length c:=by
 rcases h.2 with ⟨hv,hl⟩|⟨g,cap,cur,hv,_⟩
 ·refine⟨none,0,?_⟩
  rw[hv];rw[hl]
 ·exact⟨_,_,hv⟩
theorem Own64.cell{w:World}{B:Nat}{a:Option Addr}{c:Nat}{l:List Nat}(h:Own64 w B (.slice a l.length c) l)(j:Nat)(hj:j<l.length):∃g,a=some ⟨g,0,none⟩∧w.cell? ⟨g,j,none⟩=some (.int .u64 (l.getD j 0:Nat)):=by
 have h':=h;rcases h.2 with ⟨hv,hl⟩|⟨g,cap,cur,hv,_⟩
 ·omega
 ·injection hv with h1 h2 h3
  subst h1 h3;refine⟨g,rfl,?_⟩;rw[World.ownsRow.cellAt h' j (by omega)];simp[ints,List.getD,List.getElem?_eq_getElem hj]
theorem info64:(Tryz.prog.info? 27).map (fun i=>(i.zero,i.size,i.bytes))=some (some (.int .u64 0),1,8):=by kernel_rfl
theorem goP_done{f n:Nat}{l:List Nat}(h:l.length=64):goP f n l=l:=by
 cases f with
 | zero=>rfl
 | succ f=>unfold goP;rw[if_neg (by omega)]
theorem goP_step{f n:Nat}{l:List Nat}(h:l.length<64)(hg:goP f n l=P0):∃g,f=g+1∧goP g (n+1) (if isP n l=true then l++[n] else l)=P0:=by
 cases f with
 | zero=>
  unfold goP at hg;rw[hg]at h;exact absurd h (by decide)
 | succ f=>
  unfold goP at hg;rw[if_pos h]at hg;exact⟨f,rfl,hg⟩
theorem isP_big{n p:Nat}{t:List Nat}(h:n<p*p):isP n (p::t)=true:=by unfold isP;rw[if_pos h]
theorem isP_div{n p:Nat}{t:List Nat}(h:¬n<p*p)(h2:n%p=0):isP n (p::t)=false:=by unfold isP;rw[if_neg h,if_pos h2]
theorem isP_next{n p:Nat}{t:List Nat}(h:¬n<p*p)(h2:¬n%p=0):isP n (p::t)=isP n t:=by
 conv=>lhs;unfold isP
 rw[if_neg h,if_neg h2]
structure PrR (w:World) (f n:Nat) (l:List Nat) (a:Option Addr) (c:Nat) (wr:World):Prop where
 own:Own64 wr w.heap.size (.slice a l.length c) l
 go:goP f n l=P0
 n2:2≤n
 nf:n+f=312
 few:l.length≤64
 lt:∀j,j<l.length→l.getD j 0<n∧1≤l.getD j 0
 bel:Below w.heap.size w wr
theorem PrR.skip{w wr:World}{g n:Nat}{l:List Nat}{a:Option Addr}{c:Nat}(h:PrR w (g+1) n l a c wr)(hP:Hid (isP n l=false))(hG:goP g (n+1) (if isP n l=true then l++[n] else l)=P0):PrR w g (n+1) l a c wr:=
 ⟨h.own,by rw[hP.out]at hG;simpa using hG,by have:=h.n2;omega,by have:=h.nf;omega,h.few,fun j hj=>by have:=h.lt j hj;omega,h.bel⟩
theorem ints_app(l:List Nat)(n:Nat):ints (l++[n])=ints l++[.int .u64 n]:=by simp[ints]
theorem PrR.app{w wr w2:World}{g n:Nat}{l:List Nat}{a:Option Addr}{c:Nat}{o:Obj}{v':Value}(h:PrR w (g+1) n l a c wr)(hP:Hid (isP n l=true))(hG:goP g (n+1) (if isP n l=true then l++[n] else l)=P0)(hl:l.length<64)
 (hown:w2.ownsRow w.heap.size 27 1 v' (l.length+1) (ints l++[.int .u64 n])) (hg:(wr.alloc o).grownBy w2 (Value.slice a l.length c).ownBlock):∃a2 c2,v'=.slice a2 (l.length+1) c2∧PrR w g (n+1) (l++[n]) a2 c2 w2:=by
 have hO:Own64 w2 w.heap.size v' (l++[n]):=by
  unfold Own64;rw[ints_app,List.length_append];exact hown
 obtain⟨a2,c2,rfl⟩:=hO.form;have hlen:(l++[n]).length=l.length+1:=by simp
 refine⟨a2,c2,by rw[hlen],⟨hO,?_,by have:=h.n2;omega,by have:=h.nf;omega,by rw[hlen];omega,?_,?_⟩⟩
 ·rw[hP.out]at hG;simpa using hG
 ·intro j hj
  rw[hlen]at hj;by_cases hjl:j<l.length
  ·have:=h.lt j hjl
   rw[List.getD,List.getElem?_append_left hjl,←List.getD];omega
  ·obtain rfl:j=l.length:=by omega
   have:=h.n2;simp[List.getD];omega
 ·exact (h.bel.alloc h.bel.size o).grown hg (by have:=h.bel.size;simp;omega) (fun k hk=>(h.own.lt k hk).1)
def PrPost (w:World) (e:Ending) (w':World):Prop:=∃a c,e=.returned (.slice a 64 c)∧Own64 w' w.heap.size (.slice a 64 c) P0∧Below w.heap.size w w'
theorem primes_any(w:World):Calls Tryz.prog 164 #[.int .i64 64] w (PrPost w):=by
 obtain⟨i0,hi,hz0,hz1,hz2⟩:=info_parts info64;have hi:=zh hi;have hz0:=zh hz0;have hz1:=zh hz1;have hz2:=zh hz2;go_enter Tryz.func164,Tryz.ntmps164;go_wp2
 go_step3
 go_wp2
 go_step3
 go_wp2
 go_loopw [3,4] (fun lv nv wr=>∃(f n:Nat) (l:List Nat) (a:Option Addr) (c:Nat),lv=.slice a l.length c∧nv=.int .u64 n∧PrR w f n l a c wr) (fun _ nv _=>312-(intOf nv).toNat)
 case atStart=>exact⟨310,2,[],none,0,rfl,rfl,⟨World.ownsRow_nil _ _ _ _,goP_all,by omega,by omega,by decide,fun j hj=>by simp at hj,Below.refl _ _⟩⟩
 case round=>
  obtain⟨f,n,l,a,c,rfl,rfl,hr⟩:=hrel;have hfew:=hr.few;have hnf:=hr.nf;by_cases hlt:l.length<64
  ·obtain⟨g,rfl,hgo⟩:=goP_step hlt hr.go
   have hn1:n≤311:=by omega
   have HR:=zh hr;have HG:=zh hgo;clear hr hgo;go_wp2
   go_loop [15] (fun iv=>∃k:Nat,k≤l.length∧iv=.int .i64 k∧isP n (l.drop k)=isP n l) (fun iv=>l.length-(intOf iv).toNat)
   case atStart=>exact⟨0,by omega,rfl,rfl⟩
   case round=>
    obtain⟨k,hk,rfl,hP⟩:=hrel;by_cases hkl:k<l.length
    ·obtain⟨g0,rfl,hc⟩:=HR.out.own.cell k hkl
     have hp:=HR.out.lt k hkl
     have hd:l.drop k=l.getD k 0::l.drop (k+1):=by
      rw[List.drop_eq_getElem_cons hkl]
      congr 1
      simp[List.getD,hkl]
     rw[hd]at hP;have HP:=zh hP;clear hP hd;generalize l.getD k 0=p at hc hp HP;obtain⟨hp1,hp2⟩:=hp;obtain⟨Q,hQ⟩:∃Q,p*p=Q:=⟨_,rfl⟩;have hQ1:Q≤96100:=by rw[←hQ];exact Nat.mul_le_mul (show p≤310 by omega) (show p≤310 by omega)
     have e1:(p:Int)*(p:Int)=(Q:Int):=by rw[←hQ];push_cast;rfl
     obtain⟨R,hR0⟩:∃R,n%p=R:=⟨_,rfl⟩;have hR1:R<p:=by rw[←hR0];exact Nat.mod_lt _ (by omega)
     have e2:(n:Int)%(p:Int)=(R:Int):=by rw[←hR0];push_cast;rfl
     have e3:(n:Int).tmod (p:Int)=(R:Int):=by rw[Int.tmod_eq_emod_of_nonneg (by omega)];exact e2
     by_cases hb:n<Q
     ·have HP:isP n l=true:=by rw[←HP.out];exact isP_big (by rw[hQ];exact hb)
      have HP:=zh HP;clear hQ hR0 e2 e3
      have HN:Hid (∀(j:Nat) (u:Value),([.int .u64 n]:List Value)[j]?=some u→(wr.alloc (.cells #[.int .u64 n] 27)).cell? ((⟨wr.heap.size,0,none⟩:Addr).add j)=some u):=zh (by
       intro j u hj
       cases j with
       | zero=>
        simp only[List.getElem?_cons_zero,Option.some.injEq]at hj;subst hj;simp[Addr.add,go_sem]
       | succ j=>simp at hj)
      go_wp2_with (at_builtin;refine wpList_append_own _ rfl _ _ 205 rfl w.heap.size 27 i0 (.int .u64 0) 1 8 Tryz.underlying205 hi.out hz0.out hz1.out hz2.out rfl (by decide) _ _ _ rfl (World.ownsRow.alloc HR.out.own _) ⟨wr.heap.size,0,none⟩ 1 1 [.int .u64 n] rfl rfl HN.out ?c2 ?c3 ?c4 ?c5 ?_)
      case c2=>first|rfl|(intro u hu;rw[List.mem_singleton.1 hu];rfl)
      case c3=>unfold maxLen;omega
      case c4=>omega
      case c5=>have:=HR.out.bel.size;simp;omega
      intro v' w2 hown' hgrow _;obtain⟨a2,c2,rfl,hr2⟩:=PrR.app HR.out HP HG.out (by omega) hown' hgrow;clear hown' hgrow;go_wp2
      go_roundw
      case rel=>exact⟨g,n+1,l++[n],a2,c2,by simp,by go_num,hr2⟩
      case measure=>simp[intOf];omega
     ·by_cases hz:R=0
      ·subst hz
       have HP:Hid (isP n l=false):=zh (by rw[←HP.out];exact isP_div (by rw[hQ];exact hb) hR0);clear hQ hR0;go_wp2
       go_roundw
       case rel=>exact⟨g,n+1,l,_,c,rfl,by go_num,PrR.skip HR.out HP HG.out⟩
       case measure=>simp[intOf];omega
      ·have HP:Hid (isP n (l.drop (k+1))=isP n l):=zh (by rw[←HP.out,isP_next (by rw[hQ];exact hb) (by rw[hR0];exact hz)])
       clear hQ hR0;go_wp2
       go_round
       case rel=>exact⟨k+1,by omega,by go_num,HP.out⟩
       case measure=>simp[intOf];omega
    ·obtain rfl:k=l.length:=by omega
     rw[List.drop_length]at hP;have HP:Hid (isP n l=true):=zh (by rw[←hP];rfl);clear hP
     have HN:Hid (∀(j:Nat) (u:Value),([.int .u64 n]:List Value)[j]?=some u→(wr.alloc (.cells #[.int .u64 n] 27)).cell? ((⟨wr.heap.size,0,none⟩:Addr).add j)=some u):=zh (by
      intro j u hj
      cases j with
      | zero=>
       simp only[List.getElem?_cons_zero,Option.some.injEq]at hj;subst hj;simp[Addr.add,go_sem]
      | succ j=>simp at hj)
     go_wp2_with (at_builtin;refine wpList_append_own _ rfl _ _ 205 rfl w.heap.size 27 i0 (.int .u64 0) 1 8 Tryz.underlying205 hi.out hz0.out hz1.out hz2.out rfl (by decide) _ _ _ rfl (World.ownsRow.alloc HR.out.own _) ⟨wr.heap.size,0,none⟩ 1 1 [.int .u64 n] rfl rfl HN.out ?c2 ?c3 ?c4 ?c5 ?_)
     case c2=>first|rfl|(intro u hu;rw[List.mem_singleton.1 hu];rfl)
     case c3=>unfold maxLen;omega
     case c4=>omega
     case c5=>have:=HR.out.bel.size;simp;omega
     intro v' w2 hown' hgrow _;obtain⟨a2,c2,rfl,hr2⟩:=PrR.app HR.out HP HG.out (by omega) hown' hgrow;clear hown' hgrow;go_wp2
     go_roundw
     case rel=>exact⟨g,n+1,l++[n],a2,c2,by simp,by go_num,hr2⟩
     case measure=>simp[intOf];omega
  ·have hl:l.length=64:=by omega
   have hlp:l=P0:=by rw[←goP_done hl];exact hr.go
   have ho:=hr.own;have hb:=hr.bel;clear hr;have HO:Hid (Own64 wr w.heap.size (.slice a 64 c) P0):=zh (by rw[hl,hlp]at ho;exact ho);have HB:=zh hb;clear ho hb hlp;rw[hl];go_wp2
   go_ret
   exact⟨a,c,rfl,HO.out,HB.out⟩
def bitv:Nat→Nat
 | 0=>0
 | k+1=>2^k
theorem bitv_half(k:Nat):bitv (k+1)/2=bitv k:=by
 cases k with
 | zero=>rfl
 | succ k=>show 2^(k+1)/2=2^k;rw[Nat.pow_succ];omega
theorem bitv_le(k:Nat)(h:k≤35):bitv k≤17179869184:=by
 cases k with
 | zero=>exact Nat.zero_le _
 | succ k=>exact Nat.pow_le_pow_right (n:=2) (by decide) (show k≤34 by omega)
theorem bitv_pos(k:Nat):1≤bitv (k+1):=Nat.one_le_two_pow
theorem or35{n k:Nat}(hn:n<34359738368)(hk:k≤34):n ||| 2^k<34359738368:=
 Nat.or_lt_two_pow (n:=35) hn (Nat.pow_lt_pow_right (by decide) (by omega))
def GrPost (f:Nat→Bool) (w:World) (e:Ending) (w':World):Prop:=e=.returned (.int .u64 (grt f 35 0:Nat))∧∃k,w'=w.drewN k
def GrR (f:Nat→Bool) (w:World) (nv bv:Value) (wr:World):Prop:=∃k n m:Nat,k≤35∧nv=.int .u64 n∧bv=.int .u64 (bitv k:Nat)∧n<34359738368∧grt f k n=grt f 35 0∧wr=w.drewN m
theorem grt_yes{f:Nat→Bool}{k n:Nat}(h:f (n ||| 2^k)=true):grt f (k+1) n=grt f k (n ||| 2^k):=by rw[grt,if_pos h]
theorem grt_no{f:Nat→Bool}{k n:Nat}(h:¬f (n ||| 2^k)=true):grt f (k+1) n=grt f k n:=by rw[grt,if_neg h]
theorem greatest_any(f:Nat→Bool)(p1 p2:Addr)(w:World)
 (HC:Hid (∀(m n:Nat),n<34359738368→Calls Tryz.prog 175 #[.int .u64 n,.pointer (some p1),.pointer (some p2)] (w.drewN m) fun e w'=>e=.returned (.bool (f n))∧∃k,w'=w.drewN k)) :
 Calls Tryz.prog 176 #[.func (.func 175) #[] #[.pointer (some p1),.pointer (some p2)]] w (GrPost f w):=by
 go_enter Tryz.func176,Tryz.ntmps176;go_wp2
 go_loopw [3,4] (fun nv bv wr=>GrR f w nv bv wr) (fun _ bv _=>(intOf bv).toNat)
 case atStart=>exact⟨35,0,0,by omega,rfl,rfl,by decide,rfl,rfl⟩
 case round=>
  obtain⟨k,n,m,hk,rfl,rfl,hn,hg,rfl⟩:=hrel;have HG:=zh hg;clear hg
  cases k with
  | zero=>
   have hb0:bitv 0=0:=rfl;rw[hb0];go_wp2
   go_ret
   exact⟨by rw[←HG.out];rfl,m,rfl⟩
  | succ k=>
   have hb1:=bitv_pos k;have hb2:=bitv_le (k+1) hk;have e1:((bitv (k+1):Nat):Int)/2=(bitv k:Nat):=by rw[←bitv_half k];omega
   have e2:bits .or .u64 (n:Int) ((bitv (k+1):Nat):Int)=((n ||| 2^k:Nat):Int):=bits_or_u64_nat n (bitv (k+1)) (by omega) (by omega);have ho:=or35 hn (show k≤34 by omega);have HY:Hid (f (n ||| 2^k)=true→grt f k (n ||| 2^k)=grt f 35 0):=zh (fun h=>by rw[←HG.out];exact (grt_yes h).symm);have HN:Hid (¬f (n ||| 2^k)=true→grt f k n=grt f 35 0):=zh (fun h=>by rw[←HG.out];exact (grt_no h).symm);have hbb:=bitv_half k;generalize n ||| 2^k=x at *
   have hbb:bitv k<bitv (k+1):=by omega
   generalize bitv (k+1)=B at *;obtain⟨B2,hB2⟩:∃B2,bitv k=B2:=⟨_,rfl⟩;rw[hB2]at e1 hbb;have HB2:=zh hB2;clear hB2;go_wp2_with fail
   refine (HC.out _ x ho).mono ?_;rintro e w1 ⟨rfl,m2,rfl⟩;by_cases hf:f x=true
   ·rw[hf]
    have HF:=zh hf;clear hf;go_wp2
    go_roundw
    case rel=>exact⟨k,x,_,by omega,rfl,by rw[HB2.out],ho,HY.out HF.out,rfl⟩
    case measure=>simp[intOf];omega
   ·have hf2:f x=false:=by simpa using hf
    rw[hf2];have HF:=zh hf;clear hf hf2;go_wp2
    go_roundw
    case rel=>exact⟨k,n,_,by omega,rfl,by rw[HB2.out],hn,HN.out HF.out,rfl⟩
    case measure=>simp[intOf];omega
theorem sq_any(n:Nat)(w:World)(hn:n<34359738368):Calls Tryz.prog 162 #[.int .u64 n] w fun e w'=>e=.returned (.int .u64 (sq n:Nat))∧w'=w:=by
 have CM:=zh (fun w=>Tryz.bits_Mul64 n n (by omega) (by omega) w);obtain⟨S,hS⟩:∃S,n*n/18446744073709551616=S:=⟨_,rfl⟩;rw[hS]at CM;have HS:Hid (sq n=S):=zh hS;clear hS;go_enter Tryz.func162,Tryz.ntmps162;go_wp2_with fail
 refine (CM.out _).mono ?_;rintro e w1 ⟨rfl,rfl⟩;go_wp2
 go_ret
 exact⟨by rw[HS.out];rfl,rfl⟩
theorem cb_any(n:Nat)(w:World)(hn:n<34359738368):Calls Tryz.prog 163 #[.int .u64 n] w fun e w'=>e=.returned (.int .u64 (cb n:Nat))∧w'=w:=by
 have CM:=zh (fun w=>Tryz.bits_Mul64 n n (by omega) (by omega) w);obtain⟨S,hS⟩:∃S,n*n/18446744073709551616=S:=⟨_,rfl⟩;obtain⟨T,hT⟩:∃T,n*n%18446744073709551616=T:=⟨_,rfl⟩;have hT1:T<18446744073709551616:=by rw[←hT];exact Nat.mod_lt _ (by decide)
 have hnn:n*n≤34359738367*34359738367:=Nat.mul_le_mul (by omega) (by omega);have hS1:S≤63:=by rw[←hS];exact Nat.le_trans (Nat.div_le_div_right hnn) (by decide)
 have CN:=zh (fun w=>Tryz.bits_Mul64 T n hT1 (by omega) w);obtain⟨U,hU⟩:∃U,T*n/18446744073709551616=U:=⟨_,rfl⟩;have hU1:U≤34359738367:=by rw[←hU];exact Nat.le_trans (Nat.div_le_div_right (Nat.mul_le_mul (show T≤18446744073709551616 by omega) (show n≤34359738367 by omega))) (by decide)
 obtain⟨X,hX⟩:∃X,S*n=X:=⟨_,rfl⟩;have hX1:X≤63*34359738367:=by rw[←hX];exact Nat.mul_le_mul hS1 (by omega)
 have eX:(S:Int)*(n:Int)=(X:Int):=by rw[←hX];push_cast;rfl
 have HR:Hid (cb n=(X+U)/4294967296):=zh (by unfold cb;rw[hS,hT,hU,hX]);rw[hS,hT]at CM;rw[hU]at CN;clear hS hT hU hX hnn;generalize T*n%18446744073709551616=Y at CN;have eF:Hid ((((X+U)/4294967296:Nat):Int)=((X:Int)+(U:Int))/4294967296):=zh (by omega);have i1:(S:Int)≤63:=by omega
 have i2:(U:Int)≤34359738367:=by omega
 have i3:(X:Int)≤2164663517121:=by omega
 clear hT1 hS1 hU1 hX1 hn;go_enter Tryz.func163,Tryz.ntmps163;go_wp2_with fail
 refine (CM.out _).mono ?_;rintro e w1 ⟨rfl,rfl⟩;go_wp2_with fail
 refine (CN.out _).mono ?_;rintro e w1 ⟨rfl,rfl⟩;go_wp2
 go_ret
 exact⟨by rw[HR.out,eF.out];rfl,rfl⟩
theorem below_sq(q n:Nat)(p1 p2:Addr)(w:World)(hn:n<34359738368)(c1:w.cell? p1=some (.func (.func 162) #[] #[]))(c2:w.cell? p2=some (.int .u64 q)) :
 Calls Tryz.prog 175 #[.int .u64 n,.pointer (some p1),.pointer (some p2)] w fun e w'=>e=.returned (.bool (decide (sq n<q)))∧∃k,w'=w.drewN k:=by
 have C:=zh (fun w=>sq_any n w hn);obtain⟨S,hS⟩:∃S,sq n=S:=⟨_,rfl⟩;rw[hS]at C ⊢;have e1:decide ((S:Int)<(q:Int))=decide (S<q):=by simp
 clear hS;go_enter Tryz.func175,Tryz.ntmps175;go_wp2_with fail
 go_quiet ((go_at_call 162;exact Calls.quiet_of_same (C.out _)))
 go_wp2
 go_ret
 exact⟨rfl,_,rfl⟩
theorem below_cb(q n:Nat)(p1 p2:Addr)(w:World)(hn:n<34359738368)(c1:w.cell? p1=some (.func (.func 163) #[] #[]))(c2:w.cell? p2=some (.int .u64 q)) :
 Calls Tryz.prog 175 #[.int .u64 n,.pointer (some p1),.pointer (some p2)] w fun e w'=>e=.returned (.bool (decide (cb n<q)))∧∃k,w'=w.drewN k:=by
 have C:=zh (fun w=>cb_any n w hn);obtain⟨S,hS⟩:∃S,cb n=S:=⟨_,rfl⟩;rw[hS]at C ⊢;have e1:decide ((S:Int)<(q:Int))=decide (S<q):=by simp
 clear hS;go_enter Tryz.func175,Tryz.ntmps175;go_wp2_with fail
 go_quiet ((go_at_call 163;exact Calls.quiet_of_same (C.out _)))
 go_wp2
 go_ret
 exact⟨rfl,_,rfl⟩
def words (l:List Nat):List Value:=l.map fun x:Nat=>Value.int .u32 x
def Own32 (w:World) (B:Nat) (v:Value) (l:List Nat):Prop:=w.ownsRow B 22 1 v l.length (words l)
theorem Own32.form{w:World}{B:Nat}{v:Value}{l:List Nat}(h:Own32 w B v l):∃a c,v=.slice a l.length c:=by
 rcases h.2 with ⟨hv,hl⟩|⟨g,cap,cur,hv,_⟩
 ·refine⟨none,0,?_⟩
  rw[hv];rw[hl]
 ·exact⟨_,_,hv⟩
theorem info32:(Tryz.prog.info? 22).map (fun i=>(i.zero,i.size,i.bytes))=some (some (.int .u32 0),1,4):=by kernel_rfl
theorem words_app(l:List Nat)(n:Nat):words (l++[n])=words l++[.int .u32 n]:=by simp[words]
theorem Own32.of{w:World}{B:Nat}{v:Value}{l:List Nat}{n:Nat}(h:w.ownsRow B 22 1 v (l.length+1) (words l++[.int .u32 n])):Own32 w B v (l++[n]):=by
 unfold Own32;rw[words_app,List.length_append];exact h
theorem Own32.keepBelow{w w':World}{B B':Nat}{v:Value}{l:List Nat}(h:Own32 w B v l)(hb:Below w.heap.size w w'):Own32 w' B v l:=
 h.kept (row:=none) ⟨hb.os,hb.tape,hb.output,hb.size,fun k hk _=>hb.block k hk⟩ (by
  cases hv:v.ownBlock with
  | none=>exact .inl rfl
  | some g=>exact .inr (by intro e;cases e))
def Row64 (w:World) (b:Nat) (l:List Nat):Prop:=b<w.heap.size∧∀j,j<l.length→w.cell? ⟨b,j,none⟩=some (.int .u64 (l.getD j 0:Nat))
theorem Row64.below{w w':World}{b B:Nat}{l:List Nat}(h:Row64 w b l)(hb:Below B w w')(hB:b<B):Row64 w' b l:=
 ⟨Nat.lt_of_lt_of_le h.1 hb.size,fun j hj=>(hb.cell (p:=⟨b,j,none⟩) hB).trans (h.2 j hj)⟩
def RtPost (pw:Nat→Nat) (l:List Nat) (w:World) (e:Ending) (w':World):Prop:=∃a c,e=.returned (.slice a l.length c)∧Own32 w' (w.heap.size+1) (.slice a l.length c) (l.map (rt pw))∧Below w.heap.size w w'
structure RtR (pw:Nat→Nat) (l:List Nat) (F:Value) (w:World) (k:Nat) (a:Option Addr) (c:Nat) (wr:World):Prop where
 own:Own32 wr (w.heap.size+1) (.slice a k c) ((l.take k).map (rt pw))
 box:wr.cell? ⟨w.heap.size,0,none⟩=some F
 lt:w.heap.size<wr.heap.size
 bel:Below w.heap.size w wr
theorem RtR.app{pw:Nat→Nat}{l:List Nat}{F:Value}{w wr w1 w2:World}{k:Nat}{a:Option Addr}{c:Nat}{v':Value}{q:Nat}{o:Obj}(h:RtR pw l F w k a c wr)(hk:k<l.length)(hq:l.getD k 0=q)(hb:Below wr.heap.size wr w1)
 (hown:w2.ownsRow (w.heap.size+1) 22 1 v' (k+1) (words ((l.take k).map (rt pw))++[.int .u32 (rt pw q)])) (hg:(w1.alloc o).grownBy w2 (Value.slice a k c).ownBlock):∃a2 c2,v'=.slice a2 (k+1) c2∧RtR pw l F w (k+1) a2 c2 w2:=by
 have hlen:((l.take k).map (rt pw)).length=k:=by simp;omega
 have hO:Own32 w2 (w.heap.size+1) v' ((l.take k).map (rt pw)++[rt pw q]):=Own32.of (by rw[hlen];exact hown)
 have e:(l.take k).map (rt pw)++[rt pw q]=(l.take (k+1)).map (rt pw):=by
  rw[List.take_succ_eq_append_getElem hk,List.map_append,←hq];simp[List.getD,hk]
 rw[e]at hO;have hlen2:((l.take (k+1)).map (rt pw)).length=k+1:=by simp;omega
 obtain⟨a2,c2,rfl⟩:=hO.form;rw[hlen2]at hO ⊢;have hlt:=h.lt;have hs:=hb.size
 have hgb:∀j,(Value.slice a k c).ownBlock=some j→w.heap.size+1≤j:=fun j hj=>by
  have:=h.own.lt j (by rw[←hj]);omega
 refine⟨a2,c2,rfl,⟨hO,?_,?_,?_⟩⟩
 ·have h1:(w1.alloc o).cell? ⟨w.heap.size,0,none⟩=some F:=by
   rw[World.cell?_alloc_lt _ _ _ (show w.heap.size<w1.heap.size by omega)];exact (hb.cell (p:=⟨w.heap.size,0,none⟩) h.lt).trans h.box
  have hblk:=hg.block w.heap.size (by simp;omega) (fun e=>by have:=hgb _ e.symm;omega);rw[World.cell?]at h1 ⊢;rw[hblk];exact h1
 ·have:=hg.size
  simp at this;omega
 ·exact ((h.bel.trans (hb.mono h.bel.size)).alloc (by have:=h.bel.size;omega) o).grown hg (by have:=h.bel.size;simp;omega) (fun j hj=>by have:=hgb j hj;omega)
theorem roots_any(pw:Nat→Nat)(F:Nat)(b c0:Nat)(l:List Nat)(w:World)(hr:Row64 w b l)(hl:l.length≤64)
 (CB:Hid (∀(q n:Nat) (p1 p2:Addr) (w:World),n<34359738368→w.cell? p1=some (.func (.func F) #[] #[])→w.cell? p2=some (.int .u64 q)→Calls Tryz.prog 175 #[.int .u64 n,.pointer (some p1),.pointer (some p2)] w fun e w'=>e=.returned (.bool (decide (pw n<q)))∧∃k,w'=w.drewN k)) :
 Calls Tryz.prog 165 #[.func (.func F) #[] #[],.slice (some ⟨b,0,none⟩) l.length c0] w (RtPost pw l w):=by
 obtain⟨i0,hi,hz0,hz1,hz2⟩:=info_parts info32;have hi:=zh hi;have hz0:=zh hz0;have hz1:=zh hz1;have hz2:=zh hz2;have hblt:=hr.1;have HR:=zh hr;clear hr;have hmf:∀(fn:Fn) (first cap:Array Value) (w:World),(Instr.makeFunc fn first cap).run Tryz.prog w=.ok (.func fn first cap) w:=fun _ _ _ _=>rfl
 go_enter Tryz.func165,Tryz.ntmps165;go_wp2
 go_loopw [5,11] (fun tv iv wr=>∃(k:Nat) (a:Option Addr) (c:Nat),k≤l.length∧iv=.int .i64 k∧tv=.slice a k c∧RtR pw l (.func (.func F) #[] #[]) w k a c wr) (fun _ iv _=>l.length-(intOf iv).toNat)
 case atStart=>exact⟨0,none,0,by omega,rfl,rfl,⟨World.ownsRow_nil _ _ _ _,by simp[go_sem],by simp,(Below.refl _ _).alloc zle _⟩⟩
 case round=>
  obtain⟨k,a,c,hk,rfl,rfl,hr⟩:=hrel;by_cases hlt:k<l.length
  ·have hc:=(HR.out.below hr.bel hblt).2 k hlt
   have HRr:=zh hr;have hwl:=hr.lt;have hbx:=hr.box;clear hr;obtain⟨q,hq⟩:∃q,l.getD k 0=q:=⟨_,rfl⟩;rw[hq]at hc;have HQ:=zh hq;clear hq
   have HC:Hid (∀(m n:Nat),n<34359738368→Calls Tryz.prog 175 #[.int .u64 n,.pointer (some ⟨w.heap.size,0,none⟩),.pointer (some ⟨wr.heap.size,0,none⟩)] ((wr.alloc (.cells #[.int .u64 q] 27)).drewN m) fun e w'=>e=.returned (.bool (decide (pw n<q)))∧∃k,w'=((wr.alloc (.cells #[.int .u64 q] 27)).drewN m).drewN k):=zh (fun m n hn=>
    CB.out q n ⟨w.heap.size,0,none⟩ ⟨wr.heap.size,0,none⟩ _ hn
     (show (wr.alloc (.cells #[.int .u64 q] 27)).cell? ⟨w.heap.size,0,none⟩=_ by rw[World.cell?_alloc_lt _ _ _ hwl];exact hbx)
     (show (wr.alloc (.cells #[.int .u64 q] 27)).cell? ⟨wr.heap.size,0,none⟩=_ by simp[go_sem]))
   have HC2:Hid (∀(m n:Nat),n<34359738368→Calls Tryz.prog 175 #[.int .u64 n,.pointer (some ⟨w.heap.size,0,none⟩),.pointer (some ⟨wr.heap.size,0,none⟩)] ((wr.alloc (.cells #[.int .u64 q] 27)).drewN m) fun e w'=>e=.returned (.bool ((fun n=>decide (pw n<q)) n))∧∃k,w'=(wr.alloc (.cells #[.int .u64 q] 27)).drewN k):=zh (fun m n hn=>(HC.out m n hn).mono (by rintro e w' ⟨h1,k,h2⟩;exact⟨h1,m+k,by rw[h2,World.drewN_drewN]⟩));clear HC;have CG:=zh (greatest_any (fun n=>decide (pw n<q)) ⟨w.heap.size,0,none⟩ ⟨wr.heap.size,0,none⟩ _ HC2);clear HC2;obtain⟨G,hG⟩:∃G,grt (fun n=>decide (pw n<q)) 35 0=G:=⟨_,rfl⟩
   have CG2:Hid (Calls Tryz.prog 176 #[.func (.func 175) #[] #[.pointer (some ⟨w.heap.size,0,none⟩),.pointer (some ⟨wr.heap.size,0,none⟩)]] (wr.alloc (.cells #[.int .u64 q] 27)) fun e w'=>e=.returned (.int .u64 G)∧Below wr.heap.size wr w'):=zh (CG.out.mono (by
    rintro e w' ⟨h1,k,h2⟩;rw[hG]at h1
    exact⟨h1,by rw[h2];exact below_drewN ((Below.refl _ _).alloc zle _) k⟩))
   have HG:Hid (rt pw q=G%4294967296):=zh (by unfold rt;rw[hG]);clear CG hG;go_wp2_with fail
   refine CG2.out.mono ?_;rintro e w1 ⟨rfl,hb⟩;have HB:=zh hb;have hs1:=hb.size;clear hb hc hbx CG2;obtain⟨N,hN⟩:∃N:Nat,G%4294967296=N:=⟨_,rfl⟩;have eN:(G:Int)%4294967296=(N:Int):=by rw[←hN];omega
   rw[hN]at HG;clear hN
   have HN:Hid (∀(j:Nat) (u:Value),([.int .u32 N]:List Value)[j]?=some u→(w1.alloc (.cells #[.int .u32 N] 22)).cell? ((⟨w1.heap.size,0,none⟩:Addr).add j)=some u):=zh (by
    intro j u hj
    cases j with
    | zero=>
     simp only[List.getElem?_cons_zero,Option.some.injEq]at hj;subst hj;simp[Addr.add,go_sem]
    | succ j=>simp at hj)
   have HO:Hid ((w1.alloc (.cells #[.int .u32 N] 22)).ownsRow (w.heap.size+1) 22 1 (.slice a k c) k (words ((l.take k).map (rt pw)))):=zh (by
    have h1:=HRr.out.own.keepBelow (B':=0) HB.out;have h2:((l.take k).map (rt pw)).length=k:=by simp;omega
    unfold Own32 at h1;rw[h2]at h1
    exact World.ownsRow.alloc h1 _)
   go_wp2_with (at_builtin;refine wpList_append_own _ rfl _ _ 193 rfl (w.heap.size+1) 22 i0 (.int .u32 0) 1 4 Tryz.underlying193 hi.out hz0.out hz1.out hz2.out rfl (by decide) _ _ _ rfl HO.out ⟨w1.heap.size,0,none⟩ 1 1 [.int .u32 N] rfl rfl HN.out ?c2 ?c3 ?c4 ?c5 ?_)
   case c2=>first|rfl|(intro u hu;rw[List.mem_singleton.1 hu];rfl)
   case c3=>unfold maxLen;omega
   case c4=>omega
   case c5=>simp;omega
   intro v' w2 hown' hgrow _;rw[←HG.out,←List.map_take]at hown';obtain⟨a2,c2,rfl,hr2⟩:=RtR.app HRr.out hlt HQ.out HB.out hown' hgrow;clear hown' hgrow;have H2:=zh hr2;clear hr2;go_wp2
   go_roundw
   case rel=>exact⟨k+1,a2,c2,by omega,by go_num,rfl,H2.out⟩
   case measure=>simp[intOf];omega
  ·obtain rfl:k=l.length:=by omega
   have ho:=hr.own;rw[List.take_length]at ho;have HO:=zh ho;have HB:=zh hr.bel;clear ho hr;go_wp2
   go_ret
   exact⟨a,c,rfl,HO.out,HB.out⟩
theorem row64_of{w:World}{B c:Nat}{a:Option Addr}{l:List Nat}(h:Own64 w B (.slice a l.length c) l)(h0:0<l.length):∃g,a=some ⟨g,0,none⟩∧B≤g∧l.length≤c∧Row64 w g l:=by
 have h':=h;rcases h.2 with ⟨hv,hl⟩|⟨g,cap,cur,hv,_⟩
 ·omega
 ·injection hv with h1 h2 h3
  subst h1 h3;have hl:=World.ownsRow.lt h' g rfl
  rename_i hrest
  refine⟨g,rfl,hl.1,by obtain⟨_,_,hx,_⟩:=hrest;omega,hl.2,fun j hj=>?_⟩;obtain⟨g1,e1,hc⟩:=Own64.cell h' j hj;obtain rfl:g=g1:=by cases e1;rfl
  exact hc
theorem row32_of{w:World}{B c:Nat}{a:Option Addr}{l:List Nat}(h:Own32 w B (.slice a l.length c) l)(h0:0<l.length):∃g,a=some ⟨g,0,none⟩∧B≤g∧g<w.heap.size∧∀(j:Nat) (v:Value),(words l)[j]?=some v→w.cell? ((⟨g,0,none⟩:Addr).add j)=some v:=by
 have h':=h;rcases h.2 with ⟨hv,hl⟩|⟨g,cap,cur,hv,_⟩
 ·omega
 ·injection hv with h1 h2 h3
  subst h1 h3;have hl:=World.ownsRow.lt h' g rfl;exact⟨g,rfl,hl.1,hl.2,World.ownsRow.cells h' rfl⟩
def RtP (out:List Nat) (m:Nat) (w:World) (e:Ending) (w':World):Prop:=∃g c,e=.returned (.slice (some ⟨g,0,none⟩) m c)∧(∀(j:Nat) (v:Value),(words out)[j]?=some v→w'.cell? ((⟨g,0,none⟩:Addr).add j)=some v)∧Below w.heap.size w w'
theorem roots_sq(g c:Nat)(w:World)(hr:Row64 w g P0):Calls Tryz.prog 165 #[.func (.func 162) #[] #[],.slice (some ⟨g,0,none⟩) 8 c] w (RtP H0.toL 8 w):=by
 have hr8:Row64 w g (P0.take 8):=⟨hr.1,fun j hj=>by
  have hj8:j<8:=by have:(P0.take 8).length=8:=rfl;omega
  have:=hr.2 j (by have:P0.length=64:=rfl;omega);rw[this]
  congr 3
  simp only[List.getD,List.getElem?_take,if_pos hj8]⟩
 refine (roots_any sq 162 g c (P0.take 8) w hr8 (by decide) (zh fun q n p1 p2 w hn c1 c2=>below_sq q n p1 p2 w hn c1 c2)).mono ?_;rintro e w' ⟨a,c2,rfl,ho,hb⟩;rw[rt_sq]at ho;obtain⟨g2,rfl,_,_,hc⟩:=row32_of (l:=H0.toL) ho (by decide);exact⟨g2,c2,rfl,hc,hb⟩
theorem roots_cb(g c:Nat)(w:World)(hr:Row64 w g P0):Calls Tryz.prog 165 #[.func (.func 163) #[] #[],.slice (some ⟨g,0,none⟩) 64 c] w (RtP K0 64 w):=by
 refine (roots_any cb 163 g c P0 w hr (by decide) (zh fun q n p1 p2 w hn c1 c2=>below_cb q n p1 p2 w hn c1 c2)).mono ?_;rintro e w' ⟨a,c2,rfl,ho,hb⟩;rw[rt_cb]at ho;obtain⟨g2,rfl,_,_,hc⟩:=row32_of (l:=K0) ho (by decide);exact⟨g2,c2,rfl,hc,hb⟩
def z72:List Value:=List.replicate 72 (.int .u32 0)
theorem zero_state:(Tryz.prog.info? 188).map (fun i=>(i.zero,i.size))=some (some (.agg z72.toArray),72):=by kernel_rfl
theorem inf_state:(Tryz.prog.info? 188).map (·.size)=some 72:=by kernel_rfl
theorem lt_of_heap{w:World}{i:Nat}{o:Obj}(h:w.heap[i]?=some o):i<w.heap.size:=by
 rcases Nat.lt_or_ge i w.heap.size with h1|h1
 ·exact h1
 ·rw[Array.getElem?_eq_none h1]at h;cases h
theorem inf_u32:(Tryz.prog.info? 22).map (·.size)=some 1:=by kernel_rfl
theorem words_one(l:List Nat):∀v ∈ words l,v.oneCell'=true:=by
 intro v hv;obtain⟨x,_,rfl⟩:=List.mem_map.1 hv;rfl
theorem splice_all:splice (splice z72 0 (words H0.toL)) 8 (words K0)=words (H0.toL++K0):=by rfl
theorem begun_any(w:World):Calls Tryz.prog 140 #[] w fun e w'=>e=.returned (.agg (words (H0.toL++K0)).toArray)∧Below w.heap.size w w':=by
 have hz:=(zero_of_info (P:=Tryz.prog) zero_state).1;go_enter Tryz.func140,Tryz.ntmps140;go_wp2_with fail
 refine (primes_any _).mono ?_;rintro e w1 ⟨a,c,rfl,ho,hb⟩;obtain⟨g,rfl,hg,hc,hr⟩:=row64_of (l:=P0) ho (by decide);have hc64:64≤c:=hc;have hs1:=hb.size;simp at hs1;have HR:=zh hr;have hglt:=hr.1;have HZ0:Hid (w1.heap[w.heap.size]?=some (.cells z72.toArray 188 (0,0))):=zh ((hb.block _ (by simp)).trans (heap_alloc_new w _));have HB1:Hid (Below w.heap.size w w1):=zh (((Below.refl _ _).alloc zle _).trans (hb.mono (by simp)));clear ho hb hr hg hc;have hwz:w.heap.size<w1.heap.size:=by omega
 have HRW:Hid (Row64 (w1.alloc (.cells z72.toArray 188)).drew g P0):=zh (show Row64 (w1.alloc (.cells z72.toArray 188)) g P0 from HR.out.below ((Below.refl _ _).alloc zle _) hglt);have hc8:(8:Int)≤(c:Int):=by omega
 go_wp2_with fail
 refine wp_region_noPanic ?_;refine wp_region_held_drew (S:=fun _=>True) (by kernel_rfl) ?_ (fun hHeld=>?_)
 ·exact trivial
 iterate 5
  refine zqb [0,1,2,3,4] rfl rfl ?_ ?_ ?_;rotate_left
  ·(intro w hSw;(try dsimp only at hSw);go_simp;(try with_reducible rfl))
  try simp only[Act.put,J1,J2,J3,J4,J5,J6]
 refine zqf [5] (AllReadyH.cons rfl (fun K hK=>?_) AllReadyH.nil);rw[if_pos (by rfl)];go_simp;refine (roots_sq g c _ HRW.out).mono ?_;rintro e w2 ⟨g2,c2,rfl,hc2,hb2⟩;have HB2:Hid (Below w1.heap.size w1 w2):=zh (((Below.refl _ _).alloc zle (.cells z72.toArray 188)).trans ((show Below (w1.alloc (.cells z72.toArray 188)).heap.size (w1.alloc (.cells z72.toArray 188)) w2 from ⟨hb2.os,hb2.tape,hb2.output,hb2.size,hb2.block⟩).mono (by simp)));have HZ2:Hid (w2.heap[w1.heap.size]?=some (.cells z72.toArray 188 (0,0))):=zh ((hb2.block w1.heap.size (by simp)).trans (heap_alloc_new w1 _));have HC2:=zh hc2;clear hb2 hc2;refine hK.out _ _ trivial (fun hHeld=>?_);clear hK K
 try simp only[Act.put,J1,J2,J3,J4,J5,J6]
 refine zqf [6] (AllReadyH.cons rfl (fun K hK=>?_) AllReadyH.nil);refine step_copy_splice rfl (.tmp 7) (.tmp 11) 193 193 rfl 22 Tryz.underlying193 inf_u32 (some ⟨w1.heap.size,0,none⟩) (some ⟨g2,0,none⟩) 8 8 8 c2 rfl rfl w1.heap.size 0 z72 188 HZ2.out (words H0.toL) rfl (fun _=>⟨rfl,_,rfl,HC2.out⟩) (by decide) (words_one _) w1.heap.size w1 HB2.out zle ?_;intro w3 hg3 hb3;have HB3:=zh hb3;have HRW3:Hid (Row64 w3 g P0):=zh (HR.out.below hb3 hglt);clear hb3;refine hK.out _ _ trivial (fun hHeld=>?_);clear hK K
 try simp only[Act.put,J1,J2,J3,J4,J5,J6]
 refine zqe (NoPanic.normal ?_);go_upto_region 6 with (fail)
 refine wp_region_noPanic ?_;refine wp_region_held_drew (S:=fun _=>True) (by kernel_rfl) ?_ (fun hHeld=>?_)
 ·exact trivial
 iterate 4
  refine zqb [0,1,2,3] rfl rfl ?_ ?_ ?_;rotate_left
  ·(intro w hSw;(try dsimp only at hSw);go_simp;(try with_reducible rfl))
  try simp only[Act.put,J1,J2,J3,J4,J5,J6]
 refine zqf [4] (AllReadyH.cons rfl (fun K hK=>?_) AllReadyH.nil);rw[if_pos (by rfl)];go_simp;refine (roots_cb g c w3.drew (show Row64 w3.drew g P0 from HRW3.out)).mono ?_;rintro e w4 ⟨g4,c4,rfl,hc4,hb4⟩;have hs3:=HB3.out.size;have hlt3:w1.heap.size<w3.heap.size:=lt_of_heap hg3.out;have hb4:Below w3.heap.size w3 w4:=⟨hb4.os,hb4.tape,hb4.output,hb4.size,hb4.block⟩;have HB4:Hid (Below w1.heap.size w1 w4):=zh (HB3.out.trans (hb4.mono hs3));have HZ4:Hid (w4.heap[w1.heap.size]?=some (.cells (splice z72 0 (words H0.toL)).toArray 188 (0,0))):=zh ((hb4.block w1.heap.size hlt3).trans hg3.out);have HC4:=zh hc4;clear hb4 hc4 hg3;refine hK.out _ _ trivial (fun hHeld=>?_);clear hK K
 try simp only[Act.put,J1,J2,J3,J4,J5,J6]
 refine zqf [5] (AllReadyH.cons rfl (fun K hK=>?_) AllReadyH.nil);refine step_copy_splice rfl (.tmp 14) (.tmp 17) 193 193 rfl 22 Tryz.underlying193 inf_u32 (some ⟨w1.heap.size,8,none⟩) (some ⟨g4,0,none⟩) 64 64 64 c4 rfl rfl w1.heap.size 8 (splice z72 0 (words H0.toL)) 188 HZ4.out (words K0) rfl (fun _=>⟨rfl,_,rfl,HC4.out⟩) (by decide) (words_one _) w1.heap.size w1 HB4.out zle ?_;intro w5 hg5 hb5;rw[splice_all]at hg5;have HG5:=hg5;have HB5:=zh hb5;have HS5:Hid (w5.heap[w.heap.size]?=some (.cells z72.toArray 188 (0,0))):=zh ((hb5.block _ hwz).trans HZ0.out);clear hb5;refine hK.out _ _ trivial (fun hHeld=>?_);clear hK K
 try simp only[Act.put,J1,J2,J3,J4,J5,J6]
 refine zqe (NoPanic.normal ?_);go_upto_region 7 with (fail)
 refine wp_region_lit ?_;refine wpList_load_row rfl _ _ rfl w1.heap.size rfl _ _ _ _ HG5.out Tryz.underlying188 rfl (by rw[inf_state];decide) ?_;refine wpList_store_row rfl _ _ _ rfl w.heap.size _ rfl rfl _ _ HS5.out (by rw[inf_state];decide) (by decide) (all_oneCell_toArray (words_one _)) ?_;have HW:Hid ((w5.setRow w.heap.size (words (H0.toL++K0)).toArray).heap[w.heap.size]?=some (.cells (words (H0.toL++K0)).toArray 188 (0,0))):=zh (setRow_heap w5 w.heap.size _ _ _ _ HS5.out);have HBW:Hid (Below w.heap.size w (w5.setRow w.heap.size (words (H0.toL++K0)).toArray)):=zh (below_setRow (HB1.out.trans (HB5.out.mono HB1.out.size)) zle _);generalize w5.setRow w.heap.size (words (H0.toL++K0)).toArray=W at *;go_wp2;exact bodyPost_ret (v:=.agg (words (H0.toL++K0)).toArray) (results_cell_row Tryz.results140 _ W w.heap.size _ _ _ _ rfl HW.out Tryz.underlying188 rfl (by rw[inf_state];decide)) rfl ⟨rfl,HBW.out⟩
end Go.Proofs.YtagbkmoahflfdaaGreatDoor.Dg
namespace Go.Proofs.YtagbkmoahflfdaaGreatDoor.Bld
open Tk Go.RowKit
theorem sizeB:(Tryz.prog.info? 68).map (·.size)=some 2:=by kernel_rfl
theorem liesB:liesAt Tryz.prog Tryz.prog.depth 68 (2/Tryz.prog.cellsOf 68) 0 68 1=true:=by kernel_rfl
theorem infoB:(Tryz.prog.info? 5).map (fun i=>(i.zero,i.size,i.bytes))=some (some (.int .u8 0),1,1):=by kernel_rfl
set_option maxRecDepth 100000 in
theorem copyCheck_used(b:Nat)(w:World)(h0:w.cell? ⟨b,0,none⟩=some (.pointer (some ⟨b,0,none⟩))) :
 Calls Tryz.prog 73 #[.pointer (some ⟨b,0,none⟩)] w fun e w'=>e=.returned (.tuple #[])∧w'=w:=by
 obtain⟨j,hj,_⟩:=Option.map_eq_some_iff.1 sizeB;go_enter Tryz.func73,Tryz.ntmps73;go_wp2;rw[Lib.run_neq_ptr_same w _ Tryz.underlying65 hj];go_wp2
 go_end0
 exact⟨rfl,rfl⟩
set_option maxRecDepth 100000 in
theorem copyCheck_fresh(b:Nat)(w:World)(h0:w.cell? ⟨b,0,none⟩=some (.pointer none))(hsh:w.shape? b=some (68,2))(hfz:w.frozen? ⟨b,0,none⟩=false) :
 Calls Tryz.prog 73 #[.pointer (some ⟨b,0,none⟩)] w fun e w'=>e=.returned (.tuple #[])∧w'=w.setCell ⟨b,0,none⟩ (.pointer (some ⟨b,0,none⟩)):=by
 obtain⟨j,hj,hjs⟩:=Option.map_eq_some_iff.1 sizeB;go_enter Tryz.func73,Tryz.ntmps73;go_wp2;rw[Lib.run_to_unsafe w ⟨b,0,none⟩ Tryz.underlying65 Tryz.underlying155 hj (by rw[hjs];decide) hsh (Nat.zero_lt_succ 1)];simp only[Result.andThen];rw[Oper.upon_value];go_wp2;rw[run_callFunc_extern Tryz.func107 (by kernel_rfl) (by kernel_rfl) (by kernel_rfl) (e:=Extern.AbiNoEscape.same) (by kernel_rfl)];rw[Lib.run_noEscape];simp only[Result.andThen];rw[Oper.upon_value];go_wp2;rw[Lib.run_from_unsafe w ⟨b,0,none⟩ Tryz.underlying155 Tryz.underlying65 hj hsh liesB];simp only[Result.andThen];rw[Oper.upon_value];go_wp2
 go_end0
 exact⟨rfl,rfl⟩
theorem copyCheck(B b:Nat)(bs:List Value)(w:World)(h:Lib.IsBuilder 68 5 B b bs w) :
 Calls Tryz.prog 73 #[.pointer (some ⟨b,0,none⟩)] w fun e w'=>e=.returned (.tuple #[])∧(Lib.BuilderAt 68 5 B b (.pointer (some ⟨b,0,none⟩)) bs w'∧Below B w w'):=by
 rcases h with h|h
 ·refine (copyCheck_fresh b w h.cell0 h.shape h.frozen0).mono ?_
  rintro e w' ⟨rfl,rfl⟩;exact⟨rfl,h.used _,(Below.refl B w).setCell (p:=⟨b,0,none⟩) h.1 _⟩
 ·refine (copyCheck_used b w h.cell0).mono ?_
  rintro e w' ⟨rfl,rfl⟩;exact⟨rfl,h,Below.refl B _⟩
set_option maxRecDepth 100000 in
theorem writeString(B b:Nat)(bs:List Value)(s:ByteArray)(w:World)(h:Lib.IsBuilder 68 5 B b bs w)(hlen:bs.length+s.size≤140737488355328)(hBw:B≤w.heap.size) :
 Calls Tryz.prog 36 #[.pointer (some ⟨b,0,none⟩),.string s] w fun e w'=>e=.returned (.tuple #[.int .i64 s.size,.nilIface])∧(Lib.IsBuilder 68 5 B b (bs++Lib.strCells s) w'∧Below B w w'):=by
 obtain⟨i0,hi,hz0,hz1,hz2⟩:=info_parts infoB;have hi:=zh hi;have hz0:=zh hz0;have hz1:=zh hz1;have hz2:=zh hz2;go_enter Tryz.func36,Tryz.ntmps36;go_wp2_with (go_at_call 73;refine (copyCheck B b bs _ h).mono ?_)
 rintro e w1 ⟨rfl,h1,hb1⟩;obtain⟨hB,v,hbk,hown,hne⟩:=h1;have c0:w1.cell? ⟨b,0,none⟩=some (.pointer (some ⟨b,0,none⟩)):=by rw[Lib.cell_of_heap hbk];rfl
 have c1:w1.cell? ⟨b,1,none⟩=some v:=by rw[Lib.cell_of_heap hbk];rfl
 go_wp2_with (at_builtin;refine Lib.wpList_append_own_string _ rfl _ _ 66 9 rfl B 5 i0 Tryz.underlying66 Tryz.underlying9 hi.out hz0.out hz1.out hz2.out _ _ _ rfl hown s rfl ?c3 ?c4 ?c5 ?_)
 case c3=>unfold maxLen;omega
 case c4=>omega
 case c5=>have:=hb1.size;omega
 intro v' w2 hown' hgrow _
 have hlt:b<w1.heap.size:=by
  rcases Nat.lt_or_ge b w1.heap.size with h'|h'
  ·exact h'
  ·simp[Array.getElem?_eq_none h']at hbk
 have hb2:w2.heap[b]?=some (.cells #[.pointer (some ⟨b,0,none⟩),v] 68 (0,0)):=by
  rw[hgrow.block b hlt (fun e=>hne e.symm)];exact hbk
 have d0:w2.cell? ⟨b,0,none⟩=some (.pointer (some ⟨b,0,none⟩)):=by rw[Lib.cell_of_heap hb2];rfl
 have d1:w2.cell? ⟨b,1,none⟩=some v:=by rw[Lib.cell_of_heap hb2];rfl
 have f1:w2.frozen? ⟨b,1,none⟩=false:=Lib.frozen_of_heap hb2 1
 obtain⟨ao,n',cap,rfl⟩:∃ao n' cap,v'=.slice ao n' cap:=by
  rcases hown'.2 with ⟨hv,_⟩|⟨g,cap,cur,hv,_⟩
  ·exact⟨_,_,_,hv⟩
  ·exact⟨_,_,_,hv⟩
 go_wp2
 go_ret2
 refine⟨rfl,.inr ?_,?_⟩
 ·exact Lib.BuilderAt.put (T:=68) (e:=5) hB hb2 (bs':=bs++Lib.strCells s) (by simpa[Lib.strCells_length] using hown') (by decide)
 ·exact (hb1.grown hgrow (by have:=hb1.size;omega) (fun k hk=>(hown.lt k hk).1)).setCell (p:=⟨b,1,none⟩) hB _
set_option maxRecDepth 100000 in
theorem writeByte(B b:Nat)(bs:List Value)(c:Int)(w:World)(h:Lib.IsBuilder 68 5 B b bs w)(hlen:bs.length+1≤140737488355328)(hBw:B≤w.heap.size) :
 Calls Tryz.prog 69 #[.pointer (some ⟨b,0,none⟩),.int .u8 c] w fun e w'=>e=.returned .nilIface∧(Lib.IsBuilder 68 5 B b (bs++[.int .u8 c]) w'∧Below B w w'):=by
 obtain⟨i0,hi,hz0,hz1,hz2⟩:=info_parts infoB;have hi:=zh hi;have hz0:=zh hz0;have hz1:=zh hz1;have hz2:=zh hz2;go_enter Tryz.func69,Tryz.ntmps69;go_wp2_with (go_at_call 73;refine (copyCheck B b bs _ h).mono ?_)
 rintro e w1 ⟨rfl,h1,hb1⟩;have hsz:=hb1.size;obtain⟨hB,v,hbk,hown,hne⟩:=h1;have c0:w1.cell? ⟨b,0,none⟩=some (.pointer (some ⟨b,0,none⟩)):=by rw[Lib.cell_of_heap hbk];rfl
 have c1:w1.cell? ⟨b,1,none⟩=some v:=by rw[Lib.cell_of_heap hbk];rfl
 have hlt:b<w1.heap.size:=by
  rcases Nat.lt_or_ge b w1.heap.size with h'|h'
  ·exact h'
  ·rw[Array.getElem?_eq_none h']at hbk;cases hbk
 have HN:Hid (∀(j:Nat) (u:Value),([.int .u8 c]:List Value)[j]?=some u→(w1.alloc (.cells #[.int .u8 c] 5)).cell? ((⟨w1.heap.size,0,none⟩:Addr).add j)=some u):=zh (by
  intro j u hj
  cases j with
  | zero=>
   simp only[List.getElem?_cons_zero,Option.some.injEq]at hj;subst hj;simp[Addr.add,go_sem]
  | succ j=>simp at hj)
 go_wp2_with (at_builtin;refine wpList_append_own _ rfl _ _ 66 rfl B 5 i0 (.int .u8 0) 1 1 Tryz.underlying66 hi.out hz0.out hz1.out hz2.out rfl (by decide) _ _ _ rfl (hown.alloc _) ⟨w1.heap.size,0,none⟩ 1 1 [.int .u8 c] rfl rfl HN.out ?c2 ?c3 ?c4 ?c5 ?_)
 case c2=>intro u hu;rw[List.mem_singleton.1 hu];rfl
 case c3=>unfold maxLen;omega
 case c4=>omega
 case c5=>simp;omega
 intro v' w2 hown' hgrow _
 have hb2:w2.heap[b]?=some (.cells #[.pointer (some ⟨b,0,none⟩),v] 68 (0,0)):=by
  rw[hgrow.block b (by simp;omega) (fun e=>hne e.symm),Lib.alloc_old w1 _ b hlt];exact hbk
 have d0:w2.cell? ⟨b,0,none⟩=some (.pointer (some ⟨b,0,none⟩)):=by rw[Lib.cell_of_heap hb2];rfl
 have d1:w2.cell? ⟨b,1,none⟩=some v:=by rw[Lib.cell_of_heap hb2];rfl
 have f1:w2.frozen? ⟨b,1,none⟩=false:=Lib.frozen_of_heap hb2 1
 obtain⟨ao,n',cap,rfl⟩:∃ao n' cap,v'=.slice ao n' cap:=by
  rcases hown'.2 with ⟨hv,_⟩|⟨g,cap,cur,hv,_⟩
  ·exact⟨_,_,_,hv⟩
  ·exact⟨_,_,_,hv⟩
 go_wp2
 go_ret
 refine⟨rfl,.inr ?_,?_⟩
 ·exact Lib.BuilderAt.put (T:=68) (e:=5) hB hb2 (bs':=bs++[.int .u8 c]) (by simpa using hown') (by decide)
 ·exact ((hb1.alloc (by omega) _).grown hgrow (by simp;omega) (fun k hk=>(hown.lt k hk).1)).setCell (p:=⟨b,1,none⟩) hB _
end Go.Proofs.YtagbkmoahflfdaaGreatDoor.Bld
