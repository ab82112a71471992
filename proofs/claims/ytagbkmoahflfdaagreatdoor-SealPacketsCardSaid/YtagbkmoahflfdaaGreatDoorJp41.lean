import Derived.Test.YtagbkmoahflfdaaGreatDoorJp01
import Derived.Test.YtagbkmoahflfdaaGreatDoorJp22
import Derived.Test.YtagbkmoahflfdaaGreatDoorJp40
import Derived.Lib.ConvBytes
import Derived.Laws.BytesArg
set_option maxHeartbeats 4000000
set_option maxRecDepth 20000
set_option linter.unusedVariables false
set_option linter.unusedSimpArgs false
namespace Go.Proofs.YtagbkmoahflfdaaGreatDoor.Hd
open Tk Go.RowKit Vm
def hiN (x i:Nat):Nat:=x/2^i*2^i
theorem hi_step(a b i:Nat):(if a/2^i%2=b/2^i%2 then hiN (a ^^^ b) i=hiN (a ^^^ b) (i+1) else hiN (a ^^^ b) i=hiN (a ^^^ b) (i+1)+2^i):=by
 have h1:(a ^^^ b)/2^i%2=(a/2^i%2+b/2^i%2)%2:=by
  rw[Nat.xor_div_two_pow];generalize a/2^i=u;generalize b/2^i=v;have h:=Nat.testBit_xor u v 0;rw[Nat.testBit_zero,Nat.testBit_zero,Nat.testBit_zero]at h;have hu:=Nat.mod_two_eq_zero_or_one u;have hv:=Nat.mod_two_eq_zero_or_one v;have hw:=Nat.mod_two_eq_zero_or_one (u ^^^ v)
  rcases hu with hu|hu<;>rcases hv with hv|hv<;>rcases hw with hw|hw<;>rw[hu,hv,hw]at h<;>simp at h<;>omega
 have h2:(a ^^^ b)/2^(i+1)=(a ^^^ b)/2^i/2:=by rw[Nat.pow_succ,Nat.div_div_eq_div_mul]
 have h3:2^(i+1)=2^i*2:=Nat.pow_succ 2 i;have h4:(a ^^^ b)/2^i=2*((a ^^^ b)/2^i/2)+(a ^^^ b)/2^i%2:=by omega
 have ha:=Nat.mod_lt (a/2^i) (show 0<2 by decide);have hb:=Nat.mod_lt (b/2^i) (show 0<2 by decide);unfold hiN;rw[h2,h3];generalize (a ^^^ b)/2^i=q at *;generalize 2^i=t at *
 split
 ·have:q%2=0:=by omega
  have e:q=2*(q/2):=by omega
  rw[Nat.mul_comm t 2,←Nat.mul_assoc,Nat.mul_comm (q/2) 2,←e]
 ·have:q%2=1:=by omega
  have e:q=2*(q/2)+1:=by omega
  rw[Nat.mul_comm t 2,←Nat.mul_assoc,Nat.mul_comm (q/2) 2]
  conv=>lhs;rw[e]
  rw[Nat.add_mul,Nat.one_mul]
def TurnRel (x:Nat) (w:World) (ov kv:Value) (wr:World):Prop:=
 ∃ j:Nat,j≤8∧kv=.int .u8 ((if j=0 then 0 else 2^(j-1):Nat):Int)∧ov=.int .u8 ((hiN x j:Nat):Int)∧Below w.heap.size w wr
theorem turned_ref(a b:UInt8)(w:World) :
 Calls Tryz.prog 126 #[.int .u8 ((a.toNat:Nat):Int),.int .u8 ((b.toNat:Nat):Int)] w fun e w'=>e=.returned (.int .u8 (((a ^^^ b).toNat:Nat):Int))∧Below w.heap.size w w':=by
 have ha:=a.toNat_lt;have hb:=b.toNat_lt;have hx:(a ^^^ b).toNat=a.toNat ^^^ b.toNat:=UInt8.toNat_xor ..;have hx8:=(a ^^^ b).toNat_lt;rw[hx];rw[hx]at hx8;clear hx;generalize a.toNat=p at *;generalize b.toNat=q at *;have H8:hiN (p ^^^ q) 8=0:=by unfold hiN;rw[Nat.div_eq_of_lt hx8,Nat.zero_mul]
 have H0:hiN (p ^^^ q) 0=p ^^^ q:=by unfold hiN;rw[Nat.pow_zero,Nat.div_one,Nat.mul_one]
 have S0:=hi_step p q 0;have S1:=hi_step p q 1;have S2:=hi_step p q 2;have S3:=hi_step p q 3;have S4:=hi_step p q 4;have S5:=hi_step p q 5;have S6:=hi_step p q 6;have S7:=hi_step p q 7;generalize p ^^^ q=x at *;replace H8:=zh H8;replace H0:=zh H0;replace S0:=zh S0;replace S1:=zh S1;replace S2:=zh S2;replace S3:=zh S3;replace S4:=zh S4;replace S5:=zh S5;replace S6:=zh S6;replace S7:=zh S7;go_enter Tryz.func126,Tryz.ntmps126;go_wp2
 go_loopw [5,6] (fun ov kv wr=>TurnRel x w ov kv wr) (fun _ kv _=>(intOf kv).toNat)
 case atStart=>exact⟨8,by omega,rfl,by rw[H8.out];exact rfl,Below.refl _ _⟩
 case round=>
  obtain⟨j,hj,rfl,rfl,hb⟩:=hrel;have hjj:j=0∨j=1∨j=2∨j=3∨j=4∨j=5∨j=6∨j=7∨j=8:=by omega
  rcases hjj with rfl|rfl|rfl|rfl|rfl|rfl|rfl|rfl|rfl
  ·go_wp2
   go_ret
   refine⟨?_,hb⟩;have:=H0.out
   first|rfl|(rw[this];done)|(rw[this];rfl)|simp[this]
  ·have hd0:hiN x 1≤255:=by unfold hiN;have:=Nat.div_mul_le_self x (2^1);omega
   have hd1:hiN x 0≤255:=by unfold hiN;have:=Nat.div_mul_le_self x (2^0);omega
   have e1:(if 1=0 then 0 else 2^(1-1):Nat)=1:=rfl;rw[e1];clear e1;have t1:(p:Int).tdiv 1=(p:Int)/1:=Int.tdiv_eq_ediv_of_nonneg (by omega);have t2:(q:Int).tdiv 1=(q:Int)/1:=Int.tdiv_eq_ediv_of_nonneg (by omega);have v1:IntKind.u8.wrap ((p:Int)/1)=(p:Int)/1:=by rw[IntKind.wrap_u8];omega
   have v2:IntKind.u8.wrap ((q:Int)/1)=(q:Int)/1:=by rw[IntKind.wrap_u8];omega
   have m1:((p:Int)/1).tmod 2=(p:Int)/1%2:=Int.tmod_eq_emod_of_nonneg (by omega);have m2:((q:Int)/1).tmod 2=(q:Int)/1%2:=Int.tmod_eq_emod_of_nonneg (by omega);have v3:IntKind.u8.wrap (p:Int)=(p:Int):=by rw[IntKind.wrap_u8];omega
   have v4:IntKind.u8.wrap (q:Int)=(q:Int):=by rw[IntKind.wrap_u8];omega
   have m3:(p:Int).tmod 2=(p:Int)%2:=Int.tmod_eq_emod_of_nonneg (by omega);have m4:(q:Int).tmod 2=(q:Int)%2:=Int.tmod_eq_emod_of_nonneg (by omega);by_cases hd:p/2^0%2=q/2^0%2
   ·have S:(if p/2^0%2=q/2^0%2 then hiN x 0=hiN x 1 else hiN x 0=hiN x 1+1):=S0.out
    rw[if_pos hd]at S;have d1:((p:Int)%2 != (q:Int)%2)=false:=by rw[bne_eq_false_iff_eq];omega
    replace S:=zh S;clear hd;go_wp2_with fail
    refine wp_region_noPanic ?_;refine wp_region_held_drew (S:=fun w'=>Below w.heap.size w w') (by kernel_rfl) ?_ (fun hHeld=>?_)
    ·exact below_drew hb
    iterate 9
     refine zqb [0,1,2,3,4,5,6,7,8] rfl rfl ?_ ?_ ?_;rotate_left
     ·(intro w hSw;skip;go_simp;(try with_reducible rfl))
     try simp only[Act.put,J1,J2,J3,J4,J5,J6]
    refine zqe (NoPanic.normal ?_);have HB:=zh hHeld;clear hHeld;go_wp2
    go_roundw
    case rel=>exact⟨0,by omega,rfl,by have:=S.out;congr 1;omega,HB.out⟩
    case measure=>simp[intOf]
   ·have S:(if p/2^0%2=q/2^0%2 then hiN x 0=hiN x 1 else hiN x 0=hiN x 1+1):=S0.out
    rw[if_neg hd]at S;have d1:((p:Int)%2 != (q:Int)%2)=true:=by rw[bne_iff_ne];omega
    replace S:=zh S;clear hd;have hs:((hiN x 1:Nat):Int)+1≤255:=by have:=S.out;omega
    go_wp2_with fail
    refine wp_region_noPanic ?_;refine wp_region_held_drew (S:=fun w'=>Below w.heap.size w w') (by kernel_rfl) ?_ (fun hHeld=>?_)
    ·exact below_drew hb
    iterate 9
     refine zqb [0,1,2,3,4,5,6,7,8] rfl rfl ?_ ?_ ?_;rotate_left
     ·(intro w hSw;skip;go_simp;(try with_reducible rfl))
     try simp only[Act.put,J1,J2,J3,J4,J5,J6]
    refine zqe (NoPanic.normal ?_);have HB:=zh hHeld;clear hHeld;go_wp2
    go_roundw
    case rel=>exact⟨0,by omega,rfl,by have:=S.out;congr 1;omega,HB.out⟩
    case measure=>simp[intOf]
  ·have hd0:hiN x 2≤255:=by unfold hiN;have:=Nat.div_mul_le_self x (2^2);omega
   have hd1:hiN x 1≤255:=by unfold hiN;have:=Nat.div_mul_le_self x (2^1);omega
   have e1:(if 2=0 then 0 else 2^(2-1):Nat)=2:=rfl;rw[e1];clear e1;have t1:(p:Int).tdiv 2=(p:Int)/2:=Int.tdiv_eq_ediv_of_nonneg (by omega);have t2:(q:Int).tdiv 2=(q:Int)/2:=Int.tdiv_eq_ediv_of_nonneg (by omega);have v1:IntKind.u8.wrap ((p:Int)/2)=(p:Int)/2:=by rw[IntKind.wrap_u8];omega
   have v2:IntKind.u8.wrap ((q:Int)/2)=(q:Int)/2:=by rw[IntKind.wrap_u8];omega
   have m1:((p:Int)/2).tmod 2=(p:Int)/2%2:=Int.tmod_eq_emod_of_nonneg (by omega);have m2:((q:Int)/2).tmod 2=(q:Int)/2%2:=Int.tmod_eq_emod_of_nonneg (by omega);by_cases hd:p/2^1%2=q/2^1%2
   ·have S:(if p/2^1%2=q/2^1%2 then hiN x 1=hiN x 2 else hiN x 1=hiN x 2+2):=S1.out
    rw[if_pos hd]at S;have d1:((p:Int)/2%2 != (q:Int)/2%2)=false:=by rw[bne_eq_false_iff_eq];omega
    replace S:=zh S;clear hd;go_wp2_with fail
    refine wp_region_noPanic ?_;refine wp_region_held_drew (S:=fun w'=>Below w.heap.size w w') (by kernel_rfl) ?_ (fun hHeld=>?_)
    ·exact below_drew hb
    iterate 9
     refine zqb [0,1,2,3,4,5,6,7,8] rfl rfl ?_ ?_ ?_;rotate_left
     ·(intro w hSw;skip;go_simp;(try with_reducible rfl))
     try simp only[Act.put,J1,J2,J3,J4,J5,J6]
    refine zqe (NoPanic.normal ?_);have HB:=zh hHeld;clear hHeld;go_wp2
    go_roundw
    case rel=>exact⟨1,by omega,rfl,by have:=S.out;congr 1;omega,HB.out⟩
    case measure=>simp[intOf]
   ·have S:(if p/2^1%2=q/2^1%2 then hiN x 1=hiN x 2 else hiN x 1=hiN x 2+2):=S1.out
    rw[if_neg hd]at S;have d1:((p:Int)/2%2 != (q:Int)/2%2)=true:=by rw[bne_iff_ne];omega
    replace S:=zh S;clear hd;have hs:((hiN x 2:Nat):Int)+2≤255:=by have:=S.out;omega
    go_wp2_with fail
    refine wp_region_noPanic ?_;refine wp_region_held_drew (S:=fun w'=>Below w.heap.size w w') (by kernel_rfl) ?_ (fun hHeld=>?_)
    ·exact below_drew hb
    iterate 9
     refine zqb [0,1,2,3,4,5,6,7,8] rfl rfl ?_ ?_ ?_;rotate_left
     ·(intro w hSw;skip;go_simp;(try with_reducible rfl))
     try simp only[Act.put,J1,J2,J3,J4,J5,J6]
    refine zqe (NoPanic.normal ?_);have HB:=zh hHeld;clear hHeld;go_wp2
    go_roundw
    case rel=>exact⟨1,by omega,rfl,by have:=S.out;congr 1;omega,HB.out⟩
    case measure=>simp[intOf]
  ·have hd0:hiN x 3≤255:=by unfold hiN;have:=Nat.div_mul_le_self x (2^3);omega
   have hd1:hiN x 2≤255:=by unfold hiN;have:=Nat.div_mul_le_self x (2^2);omega
   have e1:(if 3=0 then 0 else 2^(3-1):Nat)=4:=rfl;rw[e1];clear e1;have t1:(p:Int).tdiv 4=(p:Int)/4:=Int.tdiv_eq_ediv_of_nonneg (by omega);have t2:(q:Int).tdiv 4=(q:Int)/4:=Int.tdiv_eq_ediv_of_nonneg (by omega);have v1:IntKind.u8.wrap ((p:Int)/4)=(p:Int)/4:=by rw[IntKind.wrap_u8];omega
   have v2:IntKind.u8.wrap ((q:Int)/4)=(q:Int)/4:=by rw[IntKind.wrap_u8];omega
   have m1:((p:Int)/4).tmod 2=(p:Int)/4%2:=Int.tmod_eq_emod_of_nonneg (by omega);have m2:((q:Int)/4).tmod 2=(q:Int)/4%2:=Int.tmod_eq_emod_of_nonneg (by omega);by_cases hd:p/2^2%2=q/2^2%2
   ·have S:(if p/2^2%2=q/2^2%2 then hiN x 2=hiN x 3 else hiN x 2=hiN x 3+4):=S2.out
    rw[if_pos hd]at S;have d1:((p:Int)/4%2 != (q:Int)/4%2)=false:=by rw[bne_eq_false_iff_eq];omega
    replace S:=zh S;clear hd;go_wp2_with fail
    refine wp_region_noPanic ?_;refine wp_region_held_drew (S:=fun w'=>Below w.heap.size w w') (by kernel_rfl) ?_ (fun hHeld=>?_)
    ·exact below_drew hb
    iterate 9
     refine zqb [0,1,2,3,4,5,6,7,8] rfl rfl ?_ ?_ ?_;rotate_left
     ·(intro w hSw;skip;go_simp;(try with_reducible rfl))
     try simp only[Act.put,J1,J2,J3,J4,J5,J6]
    refine zqe (NoPanic.normal ?_);have HB:=zh hHeld;clear hHeld;go_wp2
    go_roundw
    case rel=>exact⟨2,by omega,rfl,by have:=S.out;congr 1;omega,HB.out⟩
    case measure=>simp[intOf]
   ·have S:(if p/2^2%2=q/2^2%2 then hiN x 2=hiN x 3 else hiN x 2=hiN x 3+4):=S2.out
    rw[if_neg hd]at S;have d1:((p:Int)/4%2 != (q:Int)/4%2)=true:=by rw[bne_iff_ne];omega
    replace S:=zh S;clear hd;have hs:((hiN x 3:Nat):Int)+4≤255:=by have:=S.out;omega
    go_wp2_with fail
    refine wp_region_noPanic ?_;refine wp_region_held_drew (S:=fun w'=>Below w.heap.size w w') (by kernel_rfl) ?_ (fun hHeld=>?_)
    ·exact below_drew hb
    iterate 9
     refine zqb [0,1,2,3,4,5,6,7,8] rfl rfl ?_ ?_ ?_;rotate_left
     ·(intro w hSw;skip;go_simp;(try with_reducible rfl))
     try simp only[Act.put,J1,J2,J3,J4,J5,J6]
    refine zqe (NoPanic.normal ?_);have HB:=zh hHeld;clear hHeld;go_wp2
    go_roundw
    case rel=>exact⟨2,by omega,rfl,by have:=S.out;congr 1;omega,HB.out⟩
    case measure=>simp[intOf]
  ·have hd0:hiN x 4≤255:=by unfold hiN;have:=Nat.div_mul_le_self x (2^4);omega
   have hd1:hiN x 3≤255:=by unfold hiN;have:=Nat.div_mul_le_self x (2^3);omega
   have e1:(if 4=0 then 0 else 2^(4-1):Nat)=8:=rfl;rw[e1];clear e1;have t1:(p:Int).tdiv 8=(p:Int)/8:=Int.tdiv_eq_ediv_of_nonneg (by omega);have t2:(q:Int).tdiv 8=(q:Int)/8:=Int.tdiv_eq_ediv_of_nonneg (by omega);have v1:IntKind.u8.wrap ((p:Int)/8)=(p:Int)/8:=by rw[IntKind.wrap_u8];omega
   have v2:IntKind.u8.wrap ((q:Int)/8)=(q:Int)/8:=by rw[IntKind.wrap_u8];omega
   have m1:((p:Int)/8).tmod 2=(p:Int)/8%2:=Int.tmod_eq_emod_of_nonneg (by omega);have m2:((q:Int)/8).tmod 2=(q:Int)/8%2:=Int.tmod_eq_emod_of_nonneg (by omega);by_cases hd:p/2^3%2=q/2^3%2
   ·have S:(if p/2^3%2=q/2^3%2 then hiN x 3=hiN x 4 else hiN x 3=hiN x 4+8):=S3.out
    rw[if_pos hd]at S;have d1:((p:Int)/8%2 != (q:Int)/8%2)=false:=by rw[bne_eq_false_iff_eq];omega
    replace S:=zh S;clear hd;go_wp2_with fail
    refine wp_region_noPanic ?_;refine wp_region_held_drew (S:=fun w'=>Below w.heap.size w w') (by kernel_rfl) ?_ (fun hHeld=>?_)
    ·exact below_drew hb
    iterate 9
     refine zqb [0,1,2,3,4,5,6,7,8] rfl rfl ?_ ?_ ?_;rotate_left
     ·(intro w hSw;skip;go_simp;(try with_reducible rfl))
     try simp only[Act.put,J1,J2,J3,J4,J5,J6]
    refine zqe (NoPanic.normal ?_);have HB:=zh hHeld;clear hHeld;go_wp2
    go_roundw
    case rel=>exact⟨3,by omega,rfl,by have:=S.out;congr 1;omega,HB.out⟩
    case measure=>simp[intOf]
   ·have S:(if p/2^3%2=q/2^3%2 then hiN x 3=hiN x 4 else hiN x 3=hiN x 4+8):=S3.out
    rw[if_neg hd]at S;have d1:((p:Int)/8%2 != (q:Int)/8%2)=true:=by rw[bne_iff_ne];omega
    replace S:=zh S;clear hd;have hs:((hiN x 4:Nat):Int)+8≤255:=by have:=S.out;omega
    go_wp2_with fail
    refine wp_region_noPanic ?_;refine wp_region_held_drew (S:=fun w'=>Below w.heap.size w w') (by kernel_rfl) ?_ (fun hHeld=>?_)
    ·exact below_drew hb
    iterate 9
     refine zqb [0,1,2,3,4,5,6,7,8] rfl rfl ?_ ?_ ?_;rotate_left
     ·(intro w hSw;skip;go_simp;(try with_reducible rfl))
     try simp only[Act.put,J1,J2,J3,J4,J5,J6]
    refine zqe (NoPanic.normal ?_);have HB:=zh hHeld;clear hHeld;go_wp2
    go_roundw
    case rel=>exact⟨3,by omega,rfl,by have:=S.out;congr 1;omega,HB.out⟩
    case measure=>simp[intOf]
  ·have hd0:hiN x 5≤255:=by unfold hiN;have:=Nat.div_mul_le_self x (2^5);omega
   have hd1:hiN x 4≤255:=by unfold hiN;have:=Nat.div_mul_le_self x (2^4);omega
   have e1:(if 5=0 then 0 else 2^(5-1):Nat)=16:=rfl;rw[e1];clear e1;have t1:(p:Int).tdiv 16=(p:Int)/16:=Int.tdiv_eq_ediv_of_nonneg (by omega);have t2:(q:Int).tdiv 16=(q:Int)/16:=Int.tdiv_eq_ediv_of_nonneg (by omega);have v1:IntKind.u8.wrap ((p:Int)/16)=(p:Int)/16:=by rw[IntKind.wrap_u8];omega
   have v2:IntKind.u8.wrap ((q:Int)/16)=(q:Int)/16:=by rw[IntKind.wrap_u8];omega
   have m1:((p:Int)/16).tmod 2=(p:Int)/16%2:=Int.tmod_eq_emod_of_nonneg (by omega);have m2:((q:Int)/16).tmod 2=(q:Int)/16%2:=Int.tmod_eq_emod_of_nonneg (by omega);by_cases hd:p/2^4%2=q/2^4%2
   ·have S:(if p/2^4%2=q/2^4%2 then hiN x 4=hiN x 5 else hiN x 4=hiN x 5+16):=S4.out
    rw[if_pos hd]at S;have d1:((p:Int)/16%2 != (q:Int)/16%2)=false:=by rw[bne_eq_false_iff_eq];omega
    replace S:=zh S;clear hd;go_wp2_with fail
    refine wp_region_noPanic ?_;refine wp_region_held_drew (S:=fun w'=>Below w.heap.size w w') (by kernel_rfl) ?_ (fun hHeld=>?_)
    ·exact below_drew hb
    iterate 9
     refine zqb [0,1,2,3,4,5,6,7,8] rfl rfl ?_ ?_ ?_;rotate_left
     ·(intro w hSw;skip;go_simp;(try with_reducible rfl))
     try simp only[Act.put,J1,J2,J3,J4,J5,J6]
    refine zqe (NoPanic.normal ?_);have HB:=zh hHeld;clear hHeld;go_wp2
    go_roundw
    case rel=>exact⟨4,by omega,rfl,by have:=S.out;congr 1;omega,HB.out⟩
    case measure=>simp[intOf]
   ·have S:(if p/2^4%2=q/2^4%2 then hiN x 4=hiN x 5 else hiN x 4=hiN x 5+16):=S4.out
    rw[if_neg hd]at S;have d1:((p:Int)/16%2 != (q:Int)/16%2)=true:=by rw[bne_iff_ne];omega
    replace S:=zh S;clear hd;have hs:((hiN x 5:Nat):Int)+16≤255:=by have:=S.out;omega
    go_wp2_with fail
    refine wp_region_noPanic ?_;refine wp_region_held_drew (S:=fun w'=>Below w.heap.size w w') (by kernel_rfl) ?_ (fun hHeld=>?_)
    ·exact below_drew hb
    iterate 9
     refine zqb [0,1,2,3,4,5,6,7,8] rfl rfl ?_ ?_ ?_;rotate_left
     ·(intro w hSw;skip;go_simp;(try with_reducible rfl))
     try simp only[Act.put,J1,J2,J3,J4,J5,J6]
    refine zqe (NoPanic.normal ?_);have HB:=zh hHeld;clear hHeld;go_wp2
    go_roundw
    case rel=>exact⟨4,by omega,rfl,by have:=S.out;congr 1;omega,HB.out⟩
    case measure=>simp[intOf]
  ·have hd0:hiN x 6≤255:=by unfold hiN;have:=Nat.div_mul_le_self x (2^6);omega
   have hd1:hiN x 5≤255:=by unfold hiN;have:=Nat.div_mul_le_self x (2^5);omega
   have e1:(if 6=0 then 0 else 2^(6-1):Nat)=32:=rfl;rw[e1];clear e1;have t1:(p:Int).tdiv 32=(p:Int)/32:=Int.tdiv_eq_ediv_of_nonneg (by omega);have t2:(q:Int).tdiv 32=(q:Int)/32:=Int.tdiv_eq_ediv_of_nonneg (by omega);have v1:IntKind.u8.wrap ((p:Int)/32)=(p:Int)/32:=by rw[IntKind.wrap_u8];omega
   have v2:IntKind.u8.wrap ((q:Int)/32)=(q:Int)/32:=by rw[IntKind.wrap_u8];omega
   have m1:((p:Int)/32).tmod 2=(p:Int)/32%2:=Int.tmod_eq_emod_of_nonneg (by omega);have m2:((q:Int)/32).tmod 2=(q:Int)/32%2:=Int.tmod_eq_emod_of_nonneg (by omega);by_cases hd:p/2^5%2=q/2^5%2
   ·have S:(if p/2^5%2=q/2^5%2 then hiN x 5=hiN x 6 else hiN x 5=hiN x 6+32):=S5.out
    rw[if_pos hd]at S;have d1:((p:Int)/32%2 != (q:Int)/32%2)=false:=by rw[bne_eq_false_iff_eq];omega
    replace S:=zh S;clear hd;go_wp2_with fail
    refine wp_region_noPanic ?_;refine wp_region_held_drew (S:=fun w'=>Below w.heap.size w w') (by kernel_rfl) ?_ (fun hHeld=>?_)
    ·exact below_drew hb
    iterate 9
     refine zqb [0,1,2,3,4,5,6,7,8] rfl rfl ?_ ?_ ?_;rotate_left
     ·(intro w hSw;skip;go_simp;(try with_reducible rfl))
     try simp only[Act.put,J1,J2,J3,J4,J5,J6]
    refine zqe (NoPanic.normal ?_);have HB:=zh hHeld;clear hHeld;go_wp2
    go_roundw
    case rel=>exact⟨5,by omega,rfl,by have:=S.out;congr 1;omega,HB.out⟩
    case measure=>simp[intOf]
   ·have S:(if p/2^5%2=q/2^5%2 then hiN x 5=hiN x 6 else hiN x 5=hiN x 6+32):=S5.out
    rw[if_neg hd]at S;have d1:((p:Int)/32%2 != (q:Int)/32%2)=true:=by rw[bne_iff_ne];omega
    replace S:=zh S;clear hd;have hs:((hiN x 6:Nat):Int)+32≤255:=by have:=S.out;omega
    go_wp2_with fail
    refine wp_region_noPanic ?_;refine wp_region_held_drew (S:=fun w'=>Below w.heap.size w w') (by kernel_rfl) ?_ (fun hHeld=>?_)
    ·exact below_drew hb
    iterate 9
     refine zqb [0,1,2,3,4,5,6,7,8] rfl rfl ?_ ?_ ?_;rotate_left
     ·(intro w hSw;skip;go_simp;(try with_reducible rfl))
     try simp only[Act.put,J1,J2,J3,J4,J5,J6]
    refine zqe (NoPanic.normal ?_);have HB:=zh hHeld;clear hHeld;go_wp2
    go_roundw
    case rel=>exact⟨5,by omega,rfl,by have:=S.out;congr 1;omega,HB.out⟩
    case measure=>simp[intOf]
  ·have hd0:hiN x 7≤255:=by unfold hiN;have:=Nat.div_mul_le_self x (2^7);omega
   have hd1:hiN x 6≤255:=by unfold hiN;have:=Nat.div_mul_le_self x (2^6);omega
   have e1:(if 7=0 then 0 else 2^(7-1):Nat)=64:=rfl;rw[e1];clear e1;have t1:(p:Int).tdiv 64=(p:Int)/64:=Int.tdiv_eq_ediv_of_nonneg (by omega);have t2:(q:Int).tdiv 64=(q:Int)/64:=Int.tdiv_eq_ediv_of_nonneg (by omega);have v1:IntKind.u8.wrap ((p:Int)/64)=(p:Int)/64:=by rw[IntKind.wrap_u8];omega
   have v2:IntKind.u8.wrap ((q:Int)/64)=(q:Int)/64:=by rw[IntKind.wrap_u8];omega
   have m1:((p:Int)/64).tmod 2=(p:Int)/64%2:=Int.tmod_eq_emod_of_nonneg (by omega);have m2:((q:Int)/64).tmod 2=(q:Int)/64%2:=Int.tmod_eq_emod_of_nonneg (by omega);by_cases hd:p/2^6%2=q/2^6%2
   ·have S:(if p/2^6%2=q/2^6%2 then hiN x 6=hiN x 7 else hiN x 6=hiN x 7+64):=S6.out
    rw[if_pos hd]at S;have d1:((p:Int)/64%2 != (q:Int)/64%2)=false:=by rw[bne_eq_false_iff_eq];omega
    replace S:=zh S;clear hd;go_wp2_with fail
    refine wp_region_noPanic ?_;refine wp_region_held_drew (S:=fun w'=>Below w.heap.size w w') (by kernel_rfl) ?_ (fun hHeld=>?_)
    ·exact below_drew hb
    iterate 9
     refine zqb [0,1,2,3,4,5,6,7,8] rfl rfl ?_ ?_ ?_;rotate_left
     ·(intro w hSw;skip;go_simp;(try with_reducible rfl))
     try simp only[Act.put,J1,J2,J3,J4,J5,J6]
    refine zqe (NoPanic.normal ?_);have HB:=zh hHeld;clear hHeld;go_wp2
    go_roundw
    case rel=>exact⟨6,by omega,rfl,by have:=S.out;congr 1;omega,HB.out⟩
    case measure=>simp[intOf]
   ·have S:(if p/2^6%2=q/2^6%2 then hiN x 6=hiN x 7 else hiN x 6=hiN x 7+64):=S6.out
    rw[if_neg hd]at S;have d1:((p:Int)/64%2 != (q:Int)/64%2)=true:=by rw[bne_iff_ne];omega
    replace S:=zh S;clear hd;have hs:((hiN x 7:Nat):Int)+64≤255:=by have:=S.out;omega
    go_wp2_with fail
    refine wp_region_noPanic ?_;refine wp_region_held_drew (S:=fun w'=>Below w.heap.size w w') (by kernel_rfl) ?_ (fun hHeld=>?_)
    ·exact below_drew hb
    iterate 9
     refine zqb [0,1,2,3,4,5,6,7,8] rfl rfl ?_ ?_ ?_;rotate_left
     ·(intro w hSw;skip;go_simp;(try with_reducible rfl))
     try simp only[Act.put,J1,J2,J3,J4,J5,J6]
    refine zqe (NoPanic.normal ?_);have HB:=zh hHeld;clear hHeld;go_wp2
    go_roundw
    case rel=>exact⟨6,by omega,rfl,by have:=S.out;congr 1;omega,HB.out⟩
    case measure=>simp[intOf]
  ·have hd0:hiN x 8≤255:=by unfold hiN;have:=Nat.div_mul_le_self x (2^8);omega
   have hd1:hiN x 7≤255:=by unfold hiN;have:=Nat.div_mul_le_self x (2^7);omega
   have e1:(if 8=0 then 0 else 2^(8-1):Nat)=128:=rfl;rw[e1];clear e1;have t1:(p:Int).tdiv 128=(p:Int)/128:=Int.tdiv_eq_ediv_of_nonneg (by omega);have t2:(q:Int).tdiv 128=(q:Int)/128:=Int.tdiv_eq_ediv_of_nonneg (by omega);have v1:IntKind.u8.wrap ((p:Int)/128)=(p:Int)/128:=by rw[IntKind.wrap_u8];omega
   have v2:IntKind.u8.wrap ((q:Int)/128)=(q:Int)/128:=by rw[IntKind.wrap_u8];omega
   have m1:((p:Int)/128).tmod 2=(p:Int)/128%2:=Int.tmod_eq_emod_of_nonneg (by omega);have m2:((q:Int)/128).tmod 2=(q:Int)/128%2:=Int.tmod_eq_emod_of_nonneg (by omega);by_cases hd:p/2^7%2=q/2^7%2
   ·have S:(if p/2^7%2=q/2^7%2 then hiN x 7=hiN x 8 else hiN x 7=hiN x 8+128):=S7.out
    rw[if_pos hd]at S;have d1:((p:Int)/128%2 != (q:Int)/128%2)=false:=by rw[bne_eq_false_iff_eq];omega
    replace S:=zh S;clear hd;go_wp2_with fail
    refine wp_region_noPanic ?_;refine wp_region_held_drew (S:=fun w'=>Below w.heap.size w w') (by kernel_rfl) ?_ (fun hHeld=>?_)
    ·exact below_drew hb
    iterate 9
     refine zqb [0,1,2,3,4,5,6,7,8] rfl rfl ?_ ?_ ?_;rotate_left
     ·(intro w hSw;skip;go_simp;(try with_reducible rfl))
     try simp only[Act.put,J1,J2,J3,J4,J5,J6]
    refine zqe (NoPanic.normal ?_);have HB:=zh hHeld;clear hHeld;go_wp2
    go_roundw
    case rel=>exact⟨7,by omega,rfl,by have:=S.out;congr 1;omega,HB.out⟩
    case measure=>simp[intOf]
   ·have S:(if p/2^7%2=q/2^7%2 then hiN x 7=hiN x 8 else hiN x 7=hiN x 8+128):=S7.out
    rw[if_neg hd]at S;have d1:((p:Int)/128%2 != (q:Int)/128%2)=true:=by rw[bne_iff_ne];omega
    replace S:=zh S;clear hd;have hs:((hiN x 8:Nat):Int)+128≤255:=by have:=S.out;omega
    go_wp2_with fail
    refine wp_region_noPanic ?_;refine wp_region_held_drew (S:=fun w'=>Below w.heap.size w w') (by kernel_rfl) ?_ (fun hHeld=>?_)
    ·exact below_drew hb
    iterate 9
     refine zqb [0,1,2,3,4,5,6,7,8] rfl rfl ?_ ?_ ?_;rotate_left
     ·(intro w hSw;skip;go_simp;(try with_reducible rfl))
     try simp only[Act.put,J1,J2,J3,J4,J5,J6]
    refine zqe (NoPanic.normal ?_);have HB:=zh hHeld;clear hHeld;go_wp2
    go_roundw
    case rel=>exact⟨7,by omega,rfl,by have:=S.out;congr 1;omega,HB.out⟩
    case measure=>simp[intOf]
theorem and_15(c:UInt8):(c &&& 15).toNat=c.toNat%16:=by
 rw[UInt8.toNat_and];exact Nat.and_two_pow_sub_one_eq_mod c.toNat 4
theorem and_31(c:UInt8):(c &&& 31).toNat=c.toNat%32:=by
 rw[UInt8.toNat_and];exact Nat.and_two_pow_sub_one_eq_mod c.toNat 5
theorem first_l_ref(l mm:List UInt8)(b c:UInt8)(w:World)(h0:0<l.length)(h1:0<mm.length)(hb:l[0]=b)(hc:mm[0]=c)(hl:l.length≤9223372036854775807)(hm:mm.length≤9223372036854775807)(g:(128:Int)≤((b.toNat:Nat):Int)) :
 Calls Tryz.prog 97 #[.string ⟨l.toArray⟩,.string ⟨mm.toArray⟩] w fun e w'=>e=.returned (.int .u8 (((b ^^^ (c &&& 15)).toNat:Nat):Int))∧Below w.heap.size w w':=by
 have I0:((⟨l.toArray⟩:ByteArray)[0]'(by rw[sv_size];exact h0))=b:=hb;have I1:((⟨mm.toArray⟩:ByteArray)[0]'(by rw[sv_size];exact h1))=c:=hc;have ha:=and_15 c;obtain⟨h,Eh⟩:∃h,h=c &&& 15:=⟨_,rfl⟩;rw[←Eh]at ha;rw[←Eh];have hcn:=c.toNat_lt;have m1:((c.toNat:Nat):Int)%16=((h.toNat:Nat):Int):=by omega
 have m2:((c.toNat:Nat):Int).tmod 16=((h.toNat:Nat):Int):=by rw[Int.tmod_eq_emod_of_nonneg (by omega)];exact m1
 have v1:IntKind.u8.wrap ((h.toNat:Nat):Int)=((h.toNat:Nat):Int):=by have:=h.toNat_lt;rw[IntKind.wrap_u8];omega
 have hbn:((b.toNat:Nat):Int)≤255:=by have:=b.toNat_lt;omega
 clear hb hc ha Eh hcn;go_enter Tryz.func97,Tryz.ntmps97;go_wp2_with fail
 refine wp_region_noPanic ?_;refine wp_region_held_drew (S:=fun w'=>Below w.heap.size w w') (by kernel_rfl) ?_ (fun hHeld=>?_)
 ·exact below_drew (Below.refl _ _)
 iterate 5
  refine zqb [0,1,2,3,4] rfl rfl ?_ ?_ ?_;rotate_left
  ·(intro w hSw;skip;go_simp;(try with_reducible rfl))
  try simp only[Act.put,J1,J2,J3,J4,J5,J6]
 refine zqf [5] (AllReadyH.cons rfl (fun K hK=>?_) AllReadyH.nil);rw[if_pos (by rfl)];go_simp;refine (turned_ref b h _).mono ?_;rintro e w1 ⟨rfl,hb⟩;refine hK.out _ _ ?_ (fun hHeld=>?_)
 ·exact hHeld.trans (hb.mono hHeld.size)
 clear hK K
 try simp only[Act.put,J1,J2,J3,J4,J5,J6]
 refine zqa 6 rfl ?_ ?_ ?_;rotate_left
 ·(intro w hSw;skip;go_simp;(try with_reducible rfl))
 try simp only[Act.put,J1,J2,J3,J4,J5,J6]
 refine zqe (NoPanic.normal ?_);have HB:=zh hHeld;clear hHeld;go_wp2
 go_ret
 exact⟨rfl,HB.out⟩
theorem first_s_ref(l mm:List UInt8)(b c:UInt8)(w:World)(h0:0<l.length)(h1:0<mm.length)(hb:l[0]=b)(hc:mm[0]=c)(hl:l.length≤9223372036854775807)(hm:mm.length≤9223372036854775807)(g:¬(128:Int)≤((b.toNat:Nat):Int)) :
 Calls Tryz.prog 97 #[.string ⟨l.toArray⟩,.string ⟨mm.toArray⟩] w fun e w'=>e=.returned (.int .u8 (((b ^^^ (c &&& 31)).toNat:Nat):Int))∧Below w.heap.size w w':=by
 have I0:((⟨l.toArray⟩:ByteArray)[0]'(by rw[sv_size];exact h0))=b:=hb;have I1:((⟨mm.toArray⟩:ByteArray)[0]'(by rw[sv_size];exact h1))=c:=hc;have ha:=and_31 c;obtain⟨h,Eh⟩:∃h,h=c &&& 31:=⟨_,rfl⟩;rw[←Eh]at ha;rw[←Eh];have hcn:=c.toNat_lt;have m1:((c.toNat:Nat):Int)%32=((h.toNat:Nat):Int):=by omega
 have m2:((c.toNat:Nat):Int).tmod 32=((h.toNat:Nat):Int):=by rw[Int.tmod_eq_emod_of_nonneg (by omega)];exact m1
 have v1:IntKind.u8.wrap ((h.toNat:Nat):Int)=((h.toNat:Nat):Int):=by have:=h.toNat_lt;rw[IntKind.wrap_u8];omega
 have hbn:((b.toNat:Nat):Int)≤255:=by have:=b.toNat_lt;omega
 clear hb hc ha Eh hcn;go_enter Tryz.func97,Tryz.ntmps97;go_wp2_with fail
 refine wp_region_noPanic ?_;refine wp_region_held_drew (S:=fun w'=>Below w.heap.size w w') (by kernel_rfl) ?_ (fun hHeld=>?_)
 ·exact below_drew (Below.refl _ _)
 iterate 5
  refine zqb [0,1,2,3,4] rfl rfl ?_ ?_ ?_;rotate_left
  ·(intro w hSw;skip;go_simp;(try with_reducible rfl))
  try simp only[Act.put,J1,J2,J3,J4,J5,J6]
 refine zqf [5] (AllReadyH.cons rfl (fun K hK=>?_) AllReadyH.nil);rw[if_pos (by rfl)];go_simp;refine (turned_ref b h _).mono ?_;rintro e w1 ⟨rfl,hb⟩;refine hK.out _ _ ?_ (fun hHeld=>?_)
 ·exact hHeld.trans (hb.mono hHeld.size)
 clear hK K
 try simp only[Act.put,J1,J2,J3,J4,J5,J6]
 refine zqa 6 rfl ?_ ?_ ?_;rotate_left
 ·(intro w hSw;skip;go_simp;(try with_reducible rfl))
 try simp only[Act.put,J1,J2,J3,J4,J5,J6]
 refine zqe (NoPanic.normal ?_);have HB:=zh hHeld;clear hHeld;go_wp2
 go_ret
 exact⟨rfl,HB.out⟩
theorem first_ref(l mm:List UInt8)(w:World)(h0:0<l.length)(h1:0<mm.length)(hl:l.length≤9223372036854775807)(hm:mm.length≤9223372036854775807) :
 Calls Tryz.prog 97 #[.string ⟨l.toArray⟩,.string ⟨mm.toArray⟩] w fun e w'=>e=.returned (.int .u8 (((fstB (l.headD 0) (mm.headD 0)).toNat:Nat):Int))∧Below w.heap.size w w':=by
 unfold fstB hidB
 split
 ·exact first_l_ref l mm _ _ w h0 h1 (head_get h0) (head_get h1) hl hm (by omega)
 ·exact first_s_ref l mm _ _ w h0 h1 (head_get h0) (head_get h1) hl hm (by omega)
def BRow (g:Nat) (l:List UInt8) (w:World):Prop:=
 ∃ cs m,w.heap[g]?=some (.cells cs 5 (m,m+1))∧l.length≤m∧∀i (h:i<l.length),cs[i]?=some (.int .u8 ((l[i].toNat:Nat):Int))
theorem BRow.cell{g:Nat}{l:List UInt8}{w:World}(h:BRow g l w)(i:Nat)(hi:i<l.length):w.cell? ⟨g,i,none⟩=some (.int .u8 ((l[i].toNat:Nat):Int)):=by
 obtain⟨cs,m,h1,h2,h3⟩:=h;rw[show w.cell? ⟨g,i,none⟩=cs[i]? from Lib.cell_of_heap h1 i];exact h3 i hi
theorem BRow.fz{g:Nat}{l:List UInt8}{w:World}(h:BRow g l w)(i:Nat)(hi:i<l.length):w.frozen? ⟨g,i,none⟩=false:=by
 obtain⟨cs,m,h1,h2,h3⟩:=h;simp[World.frozen?,h1];omega
theorem BRow.lt{g:Nat}{l:List UInt8}{w:World}(h:BRow g l w):g<w.heap.size:=by
 obtain⟨cs,m,h1,h2,h3⟩:=h;rcases Nat.lt_or_ge g w.heap.size with h4|h4
 ·exact h4
 ·rw[Array.getElem?_eq_none h4]at h1;cases h1
theorem BRow.keep{g:Nat}{l:List UInt8}{w w':World}(h:BRow g l w)(hb:Below w.heap.size w w'):BRow g l w':=by
 have hlt:=h.lt;obtain⟨cs,m,h1,h2,h3⟩:=h;exact⟨cs,m,by rw[hb.block g hlt];exact h1,h2,h3⟩
theorem BRow.set{g:Nat}{l:List UInt8}{w:World}(h:BRow g l w)(i:Nat)(x:UInt8):BRow g (l.set i x) (w.setCell ⟨g,i,none⟩ (.int .u8 ((x.toNat:Nat):Int))):=by
 obtain⟨cs,m,h1,h2,h3⟩:=h;refine⟨_,m,Joins.block_setCell h1 _,by simpa using h2,fun k hk=>?_⟩;have hk':k<l.length:=by simpa using hk
 have:=h3 k hk'
 have hks:k<cs.size:=by
  rcases Nat.lt_or_ge k cs.size with h|h
  ·exact h
  ·rw[Array.getElem?_eq_none h]at this;cases this
 by_cases e:i=k
 ·subst e;simp[hks]
 ·rw[Array.getElem?_setIfInBounds_ne e,List.getElem_set_ne e];exact this
theorem bytes_row(W:World)(l:List UInt8):∃c W',(convert 9 66 (.string ⟨l.toArray⟩)).run Tryz.prog W=.ok (.slice (some ⟨W.heap.size,0,none⟩) l.length c) W'∧Below W.heap.size W W'∧BRow W.heap.size l W':=by
 have h:=Lib.run_convert_string_bytes (P:=Tryz.prog) W 9 66 5 ⟨l.toArray⟩ Tryz.underlying9 Tryz.underlying66 Tryz.underlying5;rw[sv_size]at h;refine⟨_,_,h,⟨rfl,rfl,rfl,by rw[Lib.bytesWorld_size];omega,fun k hk=>Lib.bytesWorld_at_old _ _ _ _ hk⟩,_,_,Lib.bytesWorld_at_new _ _ _,?_,fun i hi=>?_⟩
 ·simp[Lib.bytesCells]
 ·have:=Lib.bytesWorld_cell W 5 ⟨l.toArray⟩ i (by rw[sv_size];exact hi)
  rw[show (Lib.bytesWorld W 5 ⟨l.toArray⟩).cell? ⟨W.heap.size,i,none⟩=(Lib.bytesCells W 5 ⟨l.toArray⟩)[i]? from Lib.cell_of_heap (Lib.bytesWorld_at_new _ _ _) i]at this;rw[this];simp[List.getD,List.getElem?_eq_getElem hi]
theorem strOf_bytes(l:List UInt8):strOfNums (l.map fun x=>((x.toNat:Nat):Int))=⟨l.toArray⟩:=by
 unfold strOfNums
 congr 1
 rw[List.map_map]
 have:(fun n:Int=>UInt8.ofNat n.toNat)∘(fun x:UInt8=>((x.toNat:Nat):Int))=id:=by
  funext x;simp
 rw[this,List.map_id]
theorem back_row(W:World)(g:Nat)(l:List UInt8)(c:Nat)(h:BRow g l W):(convert 66 9 (.slice (some ⟨g,0,none⟩) l.length c)).run Tryz.prog W=.ok (.string ⟨l.toArray⟩) W:=by
 have:=run_convert_bytes_arg (P:=Tryz.prog) W 66 5 Tryz.underlying66 Tryz.underlying5 g 0 l.length c (l.map fun x=>((x.toNat:Nat):Int)) (by simp) (fun i hi=>by
  rw[Nat.zero_add,h.cell i hi]
  simp[List.getD,List.getElem?_eq_getElem hi]) 9 Tryz.underlying9
 rw[this,strOf_bytes]
def curL (b:UInt8) (l m:List UInt8) (p k:Nat):List UInt8:=
 l.mapIdx fun i x=>if i=0 then b else if p≤i∧i<p+k then x ^^^ m.getD (1+i-p) 0 else x
theorem curL_len(b:UInt8)(l m:List UInt8)(p k:Nat):(curL b l m p k).length=l.length:=by simp[curL]
theorem curL_zero(b:UInt8)(l m:List UInt8)(p:Nat):l.set 0 b=curL b l m p 0:=by
 apply List.ext_getElem
 ·simp[curL]
 ·intro i h1 h2
  simp only[curL,List.getElem_mapIdx];by_cases h:i=0
  ·subst h;simp
  ·rw[List.getElem_set_ne (fun e=>h e.symm),if_neg h,if_neg (by omega)]
theorem curL_succ(b:UInt8)(l m:List UInt8)(p k:Nat)(hp:1≤p)(hl:p+k<l.length)(hm:1+k<m.length):(curL b l m p k).set (p+k) (l[p+k] ^^^ m[1+k])=curL b l m p (k+1):=by
 apply List.ext_getElem
 ·simp[curL]
 ·intro i h1 h2
  by_cases h:p+k=i
  ·subst h
   rw[List.getElem_set_self];simp only[curL,List.getElem_mapIdx];rw[if_neg (by omega),if_pos (by omega)];have:1+(p+k)-p=1+k:=by omega
   rw[this];simp[List.getD,List.getElem?_eq_getElem hm]
  ·rw[List.getElem_set_ne h]
   simp only[curL,List.getElem_mapIdx]
   split
   ·rfl
   ·by_cases h3:p≤i∧i<p+k
    ·rw[if_pos h3,if_pos (by omega)]
    ·rw[if_neg h3,if_neg (by omega)]
theorem curL_turn(b:UInt8)(l m:List UInt8)(p k:Nat)(hp:1≤p)(hl:p+k≤l.length)(hm:k+1≤m.length):curL b l m p k=b::(l.take p).drop 1++xorL ((l.drop p).take k) (m.drop 1)++l.drop (p+k):=by
 apply List.ext_getElem
 ·simp[curL,xorL];omega
 ·intro i h1 h2
  have hi:i<l.length:=by simpa[curL] using h1
  have hx:(xorL ((l.drop p).take k) (m.drop 1)).length=k:=by simp[xorL];omega
  have hd:(b::(l.take p).drop 1).length=p:=by simp;omega
  simp only[curL,List.getElem_mapIdx];by_cases h3:i<p
  ·rw[List.getElem_append_left (by rw[List.length_append,hx,hd];omega),List.getElem_append_left (by rw[hd];exact h3)]
   cases i with
   | zero=>simp
   | succ i=>rw[if_neg (by omega),if_neg (by omega)];simp[Nat.add_comm]
  ·rw[if_neg (by omega)]
   by_cases h4:i<p+k
   ·rw[List.getElem_append_left (by rw[List.length_append,hx,hd];omega),List.getElem_append_right (by rw[hd];omega),if_pos (by omega)]
    simp only[hd];unfold xorL;rw[List.getElem_zipWith];have e1:p+(i-p)=i:=by omega
    have e2:1+(i-p)=1+i-p:=by omega
    simp only[List.getElem_take,List.getElem_drop,e1,e2];rw[List.getD,List.getElem?_eq_getElem (show 1+i-p<m.length by omega)];rfl
   ·rw[List.getElem_append_right (by rw[List.length_append,hx,hd];omega),if_neg (by omega)]
    simp only[List.length_append,hx,hd];have e1:p+k+(i-(p+k))=i:=by omega
    simp only[List.getElem_drop,e1]
def LRel (b:UInt8) (l m:List UInt8) (p k0:Nat) (g:Nat) (w:World) (iv:Value) (wr:World):Prop:=
 ∃ k:Nat,k≤k0∧iv=.int .i64 k∧BRow g (curL b l m p k) wr∧Below w.heap.size w wr
theorem laid_ref0(l m o:List UInt8)(b:UInt8)(p k0:Nat)(w:World)(HT:Hid (curL b l m p k0=o))(hp:1≤p)(hk4:k0≤4)(hpk:p+k0≤l.length)(hm5:m.length=5)(hl:l.length≤140737488351232) :
 Calls Tryz.prog 96 #[.string ⟨l.toArray⟩,.string ⟨m.toArray⟩,.int .u8 ((b.toNat:Nat):Int),.int .i64 p,.int .i64 k0] w fun e w'=>e=.returned (.string ⟨o.toArray⟩)∧Below w.heap.size w w':=by
 obtain⟨c,W,hcv,hbw,hrow⟩:=bytes_row w l;have HCV:=zh hcv;have HBW:=zh hbw;have hl0:0<l.length:=by omega
 have c0:=hrow.cell 0 hl0;have f0:=hrow.fz 0 hl0;have HR:Hid (BRow w.heap.size (curL b l m p 0) (W.setCell ⟨w.heap.size,0,none⟩ (.int .u8 ((b.toNat:Nat):Int)))):=zh (by rw[←curL_zero];exact hrow.set 0 b);replace hm5:=zh hm5;clear hcv hbw hrow;go_enter Tryz.func96,Tryz.ntmps96;go_wp2_with fail
 rw[HCV.out];go_wp2;clear c0 f0
 go_loopw [12] (fun iv wr=>LRel b l m p k0 w.heap.size w iv wr) (fun iv _=>k0-(intOf iv).toNat)
 case atStart=>exact⟨0,Nat.zero_le _,rfl,HR.out,HBW.out.setCell (p:=⟨w.heap.size,0,none⟩) zle _⟩
 case round=>
  obtain⟨k,hk,rfl,hrow,hb⟩:=hrel;have HROW:=zh hrow;clear hrow;by_cases hlt:k<k0
  ·have hpk':p+k<l.length:=by omega
   have hmk:1+k<m.length:=by rw[hm5.out];omega
   have HS:=zh (curL_succ b l m p k hp hpk' hmk);have hpc:p+k<(curL b l m p k).length:=by rw[curL_len];exact hpk'
   have HTU:=zh (fun w=>turned_ref l[p+k] m[1+k] w);obtain⟨z,Ez⟩:∃z,z=l[p+k] ^^^ m[1+k]:=⟨_,rfl⟩;rw[←Ez]at HTU HS;clear Ez;have IL:((⟨l.toArray⟩:ByteArray)[p+k]'(by rw[sv_size];exact hpk'))=l[p+k]:=rfl;have IM:((⟨m.toArray⟩:ByteArray)[1+k]'(by rw[sv_size];exact hmk))=m[1+k]:=rfl;have e1:((p:Int)+(k:Int)).toNat=p+k:=by omega
   have e2:((1:Int)+(k:Int)).toNat=1+k:=by omega
   have e3:(0:Int)≤(p:Int)+(k:Int):=by omega
   have e4:(p:Int)+(k:Int)<(l.length:Nat):=by omega
   have e5:(0:Int)≤(1:Int)+(k:Int):=by omega
   have e6:(1:Int)+(k:Int)<(m.length:Nat):=by omega
   have e7:IntKind.i64.wrap ((p:Int)+(k:Int))=(p:Int)+(k:Int):=IntWalk.i64_in _ (by omega);have e8:IntKind.i64.wrap ((1:Int)+(k:Int))=(1:Int)+(k:Int):=IntWalk.i64_in _ (by omega);obtain⟨x,Ex⟩:∃x,x=l[p+k]:=⟨_,rfl⟩;obtain⟨y,Ey⟩:∃y,y=m[1+k]:=⟨_,rfl⟩;rw[←Ex]at IL HTU;rw[←Ey]at IM HTU;clear Ex Ey;go_wp2_with fail
   go_region_with ((go_at_call 126;(with_reducible refine (HTU.out _).mono ?_);rintro e w2 ⟨rfl,hb2⟩;have HB2:=zh ((below_drew hb).trans (hb2.mono hb.size));have HR2:=zh ((HROW.out.keep (below_drew (Below.refl _ _))).keep hb2);have c2:=HR2.out.cell _ hpc;have f2:=HR2.out.fz _ hpc;clear hb2))
   all_goals
    clear IL IM e7 e8 c2 f2;go_wp2
    go_roundw
    case rel=>exact⟨k+1,by omega,by go_num,by rw[←HS.out];exact HR2.out.set _ z,HB2.out.setCell (p:=⟨w.heap.size,p+k,none⟩) zle _⟩
    case measure=>simp[intOf];omega
  ·obtain rfl:k=k0:=by omega
   have HBK:=zh (back_row wr w.heap.size _ c HROW.out);rw[curL_len]at HBK;go_wp2_with fail
   rw[HBK.out,HT.out];go_wp2
   go_ret
   exact⟨rfl,hb⟩
theorem laid_ref(l m:List UInt8)(p k0:Nat)(w:World)(hp:1≤p)(hk4:k0≤4)(hpk:p+k0≤l.length)(hm5:m.length=5)(hl:l.length≤140737488351232) :
 Calls Tryz.prog 96 #[.string ⟨l.toArray⟩,.string ⟨m.toArray⟩,.int .u8 (((fstB (l.headD 0) (m.headD 0)).toNat:Nat):Int),.int .i64 p,.int .i64 k0] w fun e w'=>e=.returned (.string ⟨(turnM l m p k0).toArray⟩)∧Below w.heap.size w w':=
 laid_ref0 l m _ _ p k0 w (zh (curL_turn _ l m p k0 hp hpk (by omega))) hp hk4 hpk hm5 hl
end Go.Proofs.YtagbkmoahflfdaaGreatDoor.Hd
