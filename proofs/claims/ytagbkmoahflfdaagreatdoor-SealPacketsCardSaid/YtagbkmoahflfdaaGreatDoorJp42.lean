import Derived.Test.YtagbkmoahflfdaaGreatDoorJp01
import Derived.Test.YtagbkmoahflfdaaGreatDoorJp39
import Derived.Test.YtagbkmoahflfdaaGreatDoorJp40
import Derived.Test.YtagbkmoahflfdaaGreatDoorJp08
import Derived.Test.YtagbkmoahflfdaaGreatDoorJp41
import Derived.Test.YtagbkmoahflfdaaGreatDoorJp22
set_option maxHeartbeats 4000000
set_option maxRecDepth 20000
set_option linter.unusedVariables false
set_option linter.unusedSimpArgs false
namespace Go.Proofs.YtagbkmoahflfdaaGreatDoor.Hd
open Tk Go.RowKit Vm
def ahV (l:List UInt8):Value:=match ahO l with
 | some p=>.tuple #[.agg #[.bool p.lg,.bool p.sp,.bool false,.int .i64 (p.ty:Nat),.int .u32 (p.ve:Nat),.string ⟨p.dc.toArray⟩,.string ⟨p.sc.toArray⟩,.string ⟨p.tk.toArray⟩,.int .u64 (p.le:Nat),.int .i64 0,.int .u64 0],.string ⟨p.re.toArray⟩,.bool true]
 | none=>.tuple #[.agg #[.bool false,.bool false,.bool false,.int .i64 0,.int .u32 0,.string ⟨#[]⟩,.string ⟨#[]⟩,.string ⟨#[]⟩,.int .u64 0,.int .i64 0,.int .u64 0],.string ⟨#[]⟩,.bool false]
theorem ahV_none{l:List UInt8}(h:ahO l=none):ahV l=.tuple #[.agg #[.bool false,.bool false,.bool false,.int .i64 0,.int .u32 0,.string ⟨#[]⟩,.string ⟨#[]⟩,.string ⟨#[]⟩,.int .u64 0,.int .i64 0,.int .u64 0],.string ⟨#[]⟩,.bool false]:=by
 unfold ahV;rw[h]
theorem ahV_some{l:List UInt8}{p:Pre}(h:ahO l=some p):ahV l=.tuple #[.agg #[.bool p.lg,.bool p.sp,.bool false,.int .i64 (p.ty:Nat),.int .u32 (p.ve:Nat),.string ⟨p.dc.toArray⟩,.string ⟨p.sc.toArray⟩,.string ⟨p.tk.toArray⟩,.int .u64 (p.le:Nat),.int .i64 0,.int .u64 0],.string ⟨p.re.toArray⟩,.bool true]:=by
 unfold ahV;rw[h]
theorem id_c(l:List UInt8)(hl:l.length≤140737488351232):(idO l=none∧Hid (∀w:World,Calls Tryz.prog 133 #[.string ⟨l.toArray⟩] w fun e w'=>e=.returned (.tuple #[.string ⟨#[]⟩,.string ⟨#[]⟩,.bool false])∧Below w.heap.size w w')) ∨
 ∃ d r,idO l=some (d,r)∧r.length≤l.length∧Hid (∀w:World,Calls Tryz.prog 133 #[.string ⟨l.toArray⟩] w fun e w'=>e=.returned (.tuple #[.string ⟨d.toArray⟩,.string ⟨r.toArray⟩,.bool true])∧Below w.heap.size w w'):=by
 have H:=fun w=>id_any l (by omega) w
 unfold idV at H
 cases h:idO l with
 | none=>rw[h]at H;exact .inl ⟨rfl,zh H⟩
 | some x=>
  obtain⟨d,r⟩:=x;rw[h]at H;obtain⟨pre,e,_⟩:=idO_local h;exact .inr ⟨d,r,rfl,by rw[e,List.length_append];omega,zh H⟩
theorem get_c(l:List UInt8)(hl:l.length≤140737488351232):(vO l=none∧Hid (∀w:World,Calls Tryz.prog 134 #[.string ⟨l.toArray⟩] w fun e w'=>e=.returned (.tuple #[.int .u64 0,.string ⟨#[]⟩,.int .i64 10])∧Below w.heap.size w w')) ∨
 ∃ n r,vO l=some (n,r)∧r.length≤l.length∧n<4611686018427387904∧Hid (∀w:World,Calls Tryz.prog 134 #[.string ⟨l.toArray⟩] w fun e w'=>e=.returned (.tuple #[.int .u64 (n:Nat),.string ⟨r.toArray⟩,.int .i64 0])∧Below w.heap.size w w'):=by
 have H:∀w:World,Calls Tryz.prog 134 #[.string ⟨l.toArray⟩] w fun e w'=>e=.returned (.tuple #[.int .u64 (gN l:Nat),.string ⟨(gR l).toArray⟩,.int .i64 (gE l)])∧Below w.heap.size w w':=fun w=>
  (rget ⟨l.toArray⟩ w (by rw[sv_size];omega)).mono fun e w' ⟨he,m,hw⟩=>⟨he,by rw[hw];exact below_drewN (Below.refl _ _) m⟩
 by_cases h:gk l≤l.length
 ·have hg:=g_ok h
  have hv:vO l=some (gn l (gk l),l.drop (gk l)):=if_pos h;obtain⟨pre,e,hn,_⟩:=vO_local hv;rw[hg.1,hg.2.1,hg.2.2]at H;exact .inr ⟨_,_,hv,by rw[List.length_drop];omega,hn,zh H⟩
 ·have hg:=g_no (l:=l) (by omega)
  rw[hg.1,hg.2.1,hg.2.2]at H;exact .inl ⟨if_neg h,zh H⟩
theorem ahead_any(l:List UInt8)(w:World)(hl:l.length≤140737488351232) :
 Calls Tryz.prog 103 #[.string ⟨l.toArray⟩] w fun e w'=>e=.returned (ahV l)∧Below w.heap.size w w':=by
 cases l with
 | nil=>rw[ahV_none (l:=[]) rfl];exact ahead_nil _ rfl w
 | cons b r=>
  have hp:0<(⟨(b::r).toArray⟩:ByteArray).size:=by rw[sv_size];simp
  have hs:(⟨(b::r).toArray⟩:ByteArray).size=r.length+1:=by rw[sv_size];simp
  have hl1:r.length+1≤140737488351232:=by simpa using hl
  have hl2:(⟨(b::r).toArray⟩:ByteArray).size≤9223372036854775807:=by rw[hs];omega
  have hbb:=b.toNat_lt;have b0:(0:Int)≤((b.toNat:Nat):Int):=by omega
  have b1:((b.toNat:Nat):Int)≤255:=by omega
  by_cases h64:b.toNat/64%2=0
  ·rw[ahV_none (by simp only[ahO];rw[if_pos h64])]
   exact ahead_bit _ b hp hl2 rfl b0 b1 (by rw[beq_iff_eq];omega) w
  have i64:(((b.toNat:Nat):Int)/64%2==0)=false:=by rw[beq_eq_false_iff_ne];omega
  by_cases h128:b.toNat<128
  ·have i128:decide (128≤((b.toNat:Nat):Int))=false:=decide_eq_false (by omega)
   by_cases h8:r.length<8
   ·rw[ahV_none (by simp only[ahO];rw[if_neg h64,if_pos h128,if_pos h8])]
    exact ahead_few _ b hp hl2 rfl b0 b1 i64 i128 (by rw[hs];omega) w
   ·have e:ahO (b::r)=some ⟨false,decide (b.toNat/32%2=1),0,0,r.take 8,[],[],0,r.drop 8⟩:=by simp only[ahO];rw[if_neg h64,if_pos h128,if_neg h8]
    rw[ahV_some e]
    have h32:decide (b.toNat/32%2=1)=(((b.toNat:Nat):Int)/32%2==1):=by
     rw[Bool.eq_iff_iff,decide_eq_true_iff,beq_iff_eq];omega
    simp only[h32];refine ahead_short _ _ _ b hp hl2 rfl b0 b1 i64 i128 (by rw[hs];omega) (by rw[hs];omega) ?_ ?_ w
    ·rw[sv_sub];congr 2
    ·rw[hs,sv_sub];congr 2;rw[List.drop_succ_cons];exact List.take_of_length_le (by rw[List.length_drop];omega)
  have i128:decide (128≤((b.toNat:Nat):Int))=true:=decide_eq_true (by omega);have eL:ahO (b::r)=ahL b r:=by simp only[ahO];rw[if_neg h64,if_neg h128]
  by_cases h4:r.length<4
  ·rw[ahV_none (by rw[eL];unfold ahL;rw[if_pos (.inl h4)])]
   exact ahead_l4 _ b hp hl2 rfl b0 b1 i64 i128 (by rw[hs];omega) w
  have i5:¬(((⟨(b::r).toArray⟩:ByteArray).size:Nat):Int)<5:=by rw[hs];omega
  have i5':5≤(⟨(b::r).toArray⟩:ByteArray).size:=by rw[hs];omega
  by_cases h3:b.toNat/16%4=3
  ·rw[ahV_none (by rw[eL];unfold ahL;rw[if_pos (.inr h3)])]
   exact ahead_t3 _ b hp hl2 rfl b0 b1 i64 i128 i5 (by rw[beq_iff_eq];omega) w
  have eL2:ahL b r=match idO (r.drop 4) with
   | none=>none
   | some (d,r1)=>match idO r1 with
    | none=>none
    | some (c,r2)=>match tokO (b.toNat/16%4) r2 with
     | none=>none
     | some (t,r3)=>match vO r3 with
      | none=>none
      | some (n,r4)=>some ⟨true,false,b.toNat/16%4,bk (r.take 4),d,c,t,n,r4⟩:=by
   unfold ahL;rw[if_neg (fun h=>by rcases h with h|h;exact h4 h;exact h3 h)];rfl
  obtain⟨ty,Ety⟩:∃ty,ty=b.toNat/16%4:=⟨_,rfl⟩;rw[←Ety]at eL2 h3;have hty0:(0:Int)≤((ty:Nat):Int):=by omega
  have hty:((ty:Nat):Int)≤2:=by omega
  have i3:(((ty:Nat):Int)==3)=false:=by rw[beq_eq_false_iff_ne];omega
  have iE:((b.toNat:Nat):Int)/16%4=((ty:Nat):Int):=by omega
  have X1:(⟨(b::r).toArray⟩:ByteArray).extract 1 5=⟨(r.take 4).toArray⟩:=by rw[sv_sub];congr 2
  have X2:(⟨(b::r).toArray⟩:ByteArray).extract 5 (⟨(b::r).toArray⟩:ByteArray).size=⟨(r.drop 4).toArray⟩:=by
   rw[hs,sv_sub];congr 2;rw[List.drop_succ_cons];exact List.take_of_length_le (by rw[List.length_drop];omega)
  have lt4:(r.take 4).length=4:=by rw[List.length_take];omega
  have hv:=bk_lt (r.take 4);rw[lt4]at hv;have hve:((bk (r.take 4):Nat):Int)≤4294967295:=by omega
  have CB:Hid (∀w:World,Calls Tryz.prog 104 #[.string ⟨(r.take 4).toArray⟩] w fun e w'=>e=.returned (.int .u64 (bk (r.take 4):Nat))∧w=w'):=zh fun w=>rback ⟨(r.take 4).toArray⟩ w (by rw[sv_size];omega)
  have hd4:(r.drop 4).length≤140737488351232:=by rw[List.length_drop];omega
  generalize bk (r.take 4)=ve at *;rcases id_c (r.drop 4) hd4 with ⟨h1,C1⟩|⟨d,r1,h1,hr1,C1⟩
  ·rw[ahV_none (by rw[eL,eL2,h1])]
   exact ahead_i1 _ _ _ b ve hp hl2 rfl b0 b1 i64 i128 hve i5 i5' _ hty0 hty iE i3 X1 X2 CB C1 w
  rw[h1]at eL2;simp only at eL2;rcases id_c r1 (by omega) with ⟨h2,C2⟩|⟨c,r2,h2,hr2,C2⟩
  ·rw[ahV_none (by rw[eL,eL2,h2])]
   exact ahead_i2 _ _ _ _ _ b ve hp hl2 rfl b0 b1 i64 i128 hve i5 i5' _ hty0 hty iE i3 X1 X2 CB C1 C2 w
  rw[h2]at eL2;simp only at eL2;by_cases ht0:ty=0
  ·have e0:(((ty:Nat):Int)==0)=true:=by rw[beq_iff_eq];omega
   have eT:tokO ty r2=match vO r2 with
    | none=>none
    | some (n,r)=>if n≤1000∧n≤r.length then some (r.take n,r.drop n) else none:=by unfold tokO;rw[if_pos ht0];rfl
   rcases get_c r2 (by omega) with ⟨h5,C3⟩|⟨n,r3,h5,hr3,hn,C3⟩
   ·rw[ahV_none (by rw[eL,eL2,eT,h5])]
    exact ahead_g0 _ _ _ _ _ _ _ b ve hp hl2 rfl b0 b1 i64 i128 hve i5 i5' _ hty0 hty iE i3 X1 X2 CB C1 C2 e0 C3 w
   rw[h5]at eT;simp only at eT;have s3:(⟨r3.toArray⟩:ByteArray).size=r3.length:=sv_size _;by_cases hn1:n≤1000
   ·by_cases hn2:n≤r3.length
    ·rw[if_pos ⟨hn1,hn2⟩]at eT
     rw[eT]at eL2;simp only at eL2;have X3:(⟨r3.toArray⟩:ByteArray).extract 0 n=⟨(r3.take n).toArray⟩:=sv_to _ _;have X4:(⟨r3.toArray⟩:ByteArray).extract n (⟨r3.toArray⟩:ByteArray).size=⟨(r3.drop n).toArray⟩:=by rw[s3];exact sv_from _ _
     rcases get_c (r3.drop n) (by rw[List.length_drop];omega) with ⟨h6,C4⟩|⟨le,r4,h6,hr4,hle,C4⟩
     ·rw[ahV_none (by rw[eL,eL2,h6])]
      exact ahead_v0 _ _ _ _ _ _ _ _ _ _ b ve hp hl2 rfl b0 b1 i64 i128 hve i5 i5' _ hty0 hty iE i3 X1 X2 CB C1 C2 e0 n C3 (by omega) hn (by omega) (by omega) (by omega) X3 X4 C4 w
     ·rw[ahV_some (by rw[eL,eL2,h6])]
      exact ahead_ok0 _ _ _ _ _ _ _ _ _ _ _ b ve hp hl2 rfl b0 b1 i64 i128 hve i5 i5' _ hty0 hty iE i3 X1 X2 CB C1 C2 e0 n C3 (by omega) hn (by omega) (by omega) (by omega) X3 X4 le C4 hle w
    ·rw[if_neg (fun h=>hn2 h.2)]at eT
     rw[ahV_none (by rw[eL,eL2,eT])];exact ahead_g2 _ _ _ _ _ _ _ _ b ve hp hl2 rfl b0 b1 i64 i128 hve i5 i5' _ hty0 hty iE i3 X1 X2 CB C1 C2 e0 n C3 (by omega) hn (by omega) (by omega) w
   ·rw[if_neg (fun h=>hn1 h.1)]at eT
    rw[ahV_none (by rw[eL,eL2,eT])];exact ahead_g1 _ _ _ _ _ _ _ _ b ve hp hl2 rfl b0 b1 i64 i128 hve i5 i5' _ hty0 hty iE i3 X1 X2 CB C1 C2 e0 n C3 (by omega) hn (by omega) w
  ·have e0:(((ty:Nat):Int)==0)=false:=by rw[beq_eq_false_iff_ne];omega
   have eT:tokO ty r2=some ([],r2):=by unfold tokO;rw[if_neg ht0]
   rw[eT]at eL2;simp only at eL2;rcases get_c r2 (by omega) with ⟨h6,C4⟩|⟨le,r4,h6,hr4,hle,C4⟩
   ·rw[ahV_none (by rw[eL,eL2,h6])]
    exact ahead_v1 _ _ _ _ _ _ _ b ve hp hl2 rfl b0 b1 i64 i128 hve i5 i5' _ hty0 hty iE i3 X1 X2 CB C1 C2 e0 C4 w
   ·rw[ahV_some (by rw[eL,eL2,h6])]
    exact ahead_ok1 _ _ _ _ _ _ _ _ b ve hp hl2 rfl b0 b1 i64 i128 hve i5 i5' _ hty0 hty iE i3 X1 X2 CB C1 C2 e0 le C4 hle w
theorem ahO_len{l:List UInt8}{p:Pre}(h:ahO l=some p):p.re.length+1≤l.length:=by
 cases l with
 | nil=>simp[ahO]at h
 | cons b r=>
  obtain⟨pre,hf⟩:=ahO_local h;have:=len_parts hf;omega
theorem badB_int{b:UInt8}{p:Pre}{r pre:List UInt8}(hf:Fits b r p pre):(p.lg=false→badB b=(((b.toNat:Nat):Int)/8%4 != 0))∧(p.lg=true→badB b=(((b.toNat:Nat):Int)/4%4 != 0)):=by
 have h:=hf.lg;refine⟨fun e=>?_,fun e=>?_⟩
 ·rw[e]at h
  have:¬128≤b.toNat:=of_decide_eq_false h.symm;unfold badB;rw[if_pos (by omega),Bool.eq_iff_iff,decide_eq_true_iff,bne_iff_ne];omega
 ·rw[e]at h
  have:128≤b.toNat:=of_decide_eq_true h.symm;unfold badB;rw[if_neg (by omega),Bool.eq_iff_iff,decide_eq_true_iff,bne_iff_ne];omega
theorem Get_ref(l:List UInt8)(w:World)(hl:l.length≤140737488351232) :
 Calls Tryz.prog 67 #[.string ⟨l.toArray⟩] w fun e w'=>e=.returned (.tuple #[.agg #[.bool (gHd l).lg,.bool (gHd l).sp,.bool (gHd l).ph,.int .i64 (gHd l).ty,.int .u32 (gHd l).ve,.string ⟨((gHd l).dc).toArray⟩,.string ⟨((gHd l).sc).toArray⟩,.string ⟨((gHd l).tk).toArray⟩,.int .u64 (gHd l).le,.int .i64 (gHd l).wi,.int .u64 (gHd l).nu],.string ⟨(gRs l).toArray⟩,.int .i64 (gEr l)])∧Below w.heap.size w w':=by
 have hA:=fun w=>ahead_any l w hl
 have hno:getO l=none→gHd l=⟨false,false,false,0,0,[],[],[],0,0,0⟩∧gRs l=[]∧gEr l=40:=fun h=>by
  refine⟨?_,?_,?_⟩
  ·unfold gHd;rw[h]
  ·unfold gRs;rw[h]
  ·unfold gEr;rw[h]
 cases l with
 | nil=>
  obtain⟨e1,e2,e3⟩:=hno rfl;rw[ahV_none (l:=[]) rfl]at hA;rw[e1,e2,e3];exact refGet_none _ (zh hA) w
 | cons b r=>
  have hp:0<(⟨(b::r).toArray⟩:ByteArray).size:=by rw[sv_size];simp
  have hl2:(⟨(b::r).toArray⟩:ByteArray).size≤140737488351232:=by rw[sv_size];exact hl
  have hbb:=b.toNat_lt;have b0:(0:Int)≤((b.toNat:Nat):Int):=by omega
  have b1:((b.toNat:Nat):Int)≤255:=by omega
  cases ha:ahO (b::r) with
  | none=>
   obtain⟨e1,e2,e3⟩:=hno (by simp only[getO,ha]);rw[ahV_none ha]at hA;rw[e1,e2,e3];exact refGet_none _ (zh hA) w
  | some p=>
   obtain⟨pre,hf⟩:=ahO_local ha;have hlen:=ahO_len ha;have hbi:=badB_int hf;have hg:getO (b::r)=if p.re.length<wideB b∨badB b=true then none else some (hdr b p,p.re.drop (wideB b)):=by simp only[getO,ha]
   rw[ahV_some ha]at hA;have k1:1≤wideB b:=by unfold wideB;omega
   have k4:wideB b≤4:=by unfold wideB;omega
   have kE:1+((b.toNat:Nat):Int)%4=((wideB b:Nat):Int):=by unfold wideB;omega
   have hrl:(⟨p.re.toArray⟩:ByteArray).size=p.re.length:=sv_size _;have hre:(⟨p.re.toArray⟩:ByteArray).size≤140737488351232:=by rw[hrl];omega
   obtain⟨lg,sp,ty,ve,dc,sc,tk,le,re⟩:=p;simp only at hA hbi hg hrl hre hlen;by_cases hs:re.length<wideB b
   ·obtain⟨e1,e2,e3⟩:=hno (by rw[hg,if_pos (.inl hs)])
    rw[e1,e2,e3]
    cases lg with
    | false=>exact refGet_few_s _ _ b sp ty ve le _ _ _ hp hl2 rfl b0 b1 hre _ k1 k4 kE (zh hA) (by rw[hrl];exact hs) w
    | true=>exact refGet_few_l _ _ b sp ty ve le _ _ _ hp hl2 rfl b0 b1 hre _ k1 k4 kE (zh hA) (by rw[hrl];exact hs) w
   ·cases hbd:badB b with
    | true=>
     obtain⟨e1,e2,e3⟩:=hno (by rw[hg,if_pos (.inr hbd)]);rw[e1,e2,e3];rw[hbd]at hbi
     cases lg with
     | false=>exact refGet_bad_s _ _ b sp ty ve le _ _ _ hp hl2 rfl b0 b1 hre _ k1 k4 kE (zh hA) (by rw[hrl];exact hs) (hbi.1 rfl).symm w
     | true=>exact refGet_bad_l _ _ b sp ty ve le _ _ _ hp hl2 rfl b0 b1 hre _ k1 k4 kE (zh hA) (by rw[hrl];exact hs) (hbi.2 rfl).symm w
    | false=>
     have hg2:getO (b::r)=some (hdr b ⟨lg,sp,ty,ve,dc,sc,tk,le,re⟩,re.drop (wideB b)):=by rw[hg,if_neg (fun h=>by rcases h with h|h;exact hs h;rw[hbd]at h;cases h)]
     have e1:gHd (b::r)=hdr b ⟨lg,sp,ty,ve,dc,sc,tk,le,re⟩:=by unfold gHd;rw[hg2]
     have e2:gRs (b::r)=re.drop (wideB b):=by unfold gRs;rw[hg2]
     have e3:gEr (b::r)=0:=by unfold gEr;rw[hg2]
     rw[e1,e2,e3];rw[hbd]at hbi;have X1:(⟨re.toArray⟩:ByteArray).extract 0 (wideB b)=⟨(re.take (wideB b)).toArray⟩:=sv_to _ _;have X2:(⟨re.toArray⟩:ByteArray).extract (wideB b) (⟨re.toArray⟩:ByteArray).size=⟨(re.drop (wideB b)).toArray⟩:=by rw[hrl];exact sv_from _ _
     have CB:Hid (∀w:World,Calls Tryz.prog 104 #[.string ⟨(re.take (wideB b)).toArray⟩] w fun e w'=>e=.returned (.int .u64 (bk (re.take (wideB b)):Nat))∧w=w'):=zh fun w=>rback ⟨(re.take (wideB b)).toArray⟩ w (by rw[sv_size,List.length_take];omega)
     cases lg with
     | false=>
      have h4:decide (b.toNat/4%2=1)=(((b.toNat:Nat):Int)/4%2==1):=by
       rw[Bool.eq_iff_iff,decide_eq_true_iff,beq_iff_eq];omega
      unfold hdr;simp only[Bool.not_false,Bool.true_and,h4];exact refGet_ok_s _ _ _ _ _ b sp ty ve le _ _ _ hp hl2 rfl b0 b1 hre _ k1 k4 kE (zh hA) (by rw[hrl];exact hs) (by rw[hrl];omega) (hbi.1 rfl).symm X1 X2 CB w
     | true=>
      unfold hdr;simp only[Bool.not_true,Bool.false_and];exact refGet_ok_l _ _ _ _ _ b sp ty ve le _ _ _ hp hl2 rfl b0 b1 hre _ k1 k4 kE (zh hA) (by rw[hrl];exact hs) (by rw[hrl];omega) (hbi.2 rfl).symm X1 X2 CB w
theorem Place_ref(l:List UInt8)(w:World)(hl:l.length≤140737488351232) :
 Calls Tryz.prog 65 #[.string ⟨l.toArray⟩] w fun e w'=>e=.returned (.tuple #[.int .i64 (plN l),.int .i64 (plE l)])∧Below w.heap.size w w':=by
 have hA:=fun w=>ahead_any l w hl
 have hl2:(⟨l.toArray⟩:ByteArray).size≤140737488351232:=by rw[sv_size];exact hl
 cases ha:ahO l with
 | none=>
  have e1:plN l=0:=by unfold plN;rw[ha]
  have e2:plE l=40:=by unfold plE;rw[ha]
  rw[e1,e2];rw[ahV_none ha]at hA;exact refPlace_none _ (zh hA) w
 | some p=>
  have hlen:=ahO_len ha;have e1:plN l=(((⟨l.toArray⟩:ByteArray).size:Nat):Int)-(((⟨p.re.toArray⟩:ByteArray).size:Nat):Int):=by unfold plN;rw[ha,sv_size,sv_size]
  have e2:plE l=0:=by unfold plE;rw[ha]
  rw[e1,e2];rw[ahV_some ha]at hA;have hre:(⟨p.re.toArray⟩:ByteArray).size≤140737488351232:=by rw[sv_size];omega
  obtain⟨lg,sp,ty,ve,dc,sc,tk,le,re⟩:=p;simp only at hA hre
  cases lg with
  | false=>exact refPlace_ok_s _ _ sp ty ve le _ _ _ hl2 hre (zh hA) w
  | true=>exact refPlace_ok_l _ _ sp ty ve le _ _ _ hl2 hre (zh hA) w
theorem Mask_five_ref(l m:List UInt8)(w:World)(hm:(((m.length:Nat):Int) != 5)=true) :
 Calls Tryz.prog 60 #[.string ⟨l.toArray⟩,.string ⟨m.toArray⟩] w fun e w'=>e=.returned (.tuple #[.string ⟨#[]⟩,.int .i64 1])∧Below w.heap.size w w':=by
 go_enter Tryz.func60,Tryz.ntmps60;go_wp2
 go_ret2
 exact⟨rfl,Below.refl _ _⟩
theorem Unmask_five_ref(l m:List UInt8)(w:World)(hm:(((m.length:Nat):Int) != 5)=true) :
 Calls Tryz.prog 66 #[.string ⟨l.toArray⟩,.string ⟨m.toArray⟩] w fun e w'=>e=.returned (.tuple #[.string ⟨#[]⟩,.int .i64 1])∧Below w.heap.size w w':=by
 go_enter Tryz.func66,Tryz.ntmps66;go_wp2
 go_ret2
 exact⟨rfl,Below.refl _ _⟩
theorem Mask_none_ref(l m:List UInt8)(w:World)(hm:(((m.length:Nat):Int) != 5)=false)(hl:l.length≤140737488351232)(hE:Hid (gEr l=40)) :
 Calls Tryz.prog 60 #[.string ⟨l.toArray⟩,.string ⟨m.toArray⟩] w fun e w'=>e=.returned (.tuple #[.string ⟨#[]⟩,.int .i64 40])∧Below w.heap.size w w':=by
 have HG:=zh (fun w=>Get_ref l w hl);rw[hE.out]at HG;generalize gHd l=h at HG;generalize gRs l=rs at HG;obtain⟨lg,sp,ph,ty,ve,dc,sc,tk,le,wi,nu⟩:=h;go_enter Tryz.func60,Tryz.ntmps60;go_wp2_with fail
 refine (HG.out _).mono ?_;rintro e w1 ⟨rfl,hb⟩;go_wp2
 go_ret2
 exact⟨rfl,hb.alloc hb.size _⟩
theorem Mask_some_ref(l m:List UInt8)(p k:Nat)(w:World)(hm:(((m.length:Nat):Int) != 5)=false)(hm5:Hid (m.length=5))(hl:l.length≤140737488351232)(hE:Hid (gEr l=0))(hW:Hid ((gHd l).wi=(k:Int)))(hR:Hid (l.length=p+k+(gRs l).length))(h0:0<l.length)(hp:1≤p)(hk:k≤4) :
 Calls Tryz.prog 60 #[.string ⟨l.toArray⟩,.string ⟨m.toArray⟩] w fun e w'=>e=.returned (.tuple #[.string ⟨(turnM l m p k).toArray⟩,.int .i64 0])∧Below w.heap.size w w':=by
 have HG:=zh (fun w=>Get_ref l w hl);rw[hE.out]at HG;have HM:=zh (fun w=>laid_ref l m p k w hp hk (by have:=hR.out;omega) hm5.out hl);have HF:=zh (fun w=>first_ref l m w h0 (by have:=hm5.out;omega) (by omega) (by have:=hm5.out;omega));generalize fstB (l.headD 0) (m.headD 0)=x at HM HF;generalize gHd l=h at HG hW;generalize gRs l=rs at HG hR;obtain⟨lg,sp,ph,ty,ve,dc,sc,tk,le,wi,nu⟩:=h;have hwi:wi=(k:Int):=hW.out;subst hwi;have hrs:rs.length≤140737488351232:=by have:=hR.out;omega
 have hrl:rs.length≤l.length:=by have:=hR.out;omega
 have e1:((l.length:Nat):Int)-((rs.length:Nat):Int)-(k:Int)=(p:Int):=by have:=hR.out;omega
 have hpp:(p:Int)≤140737488351232:=by omega
 have e2:IntKind.i64.wrap (((l.length:Nat):Int)-((rs.length:Nat):Int))=((l.length:Nat):Int)-((rs.length:Nat):Int):=IntWalk.i64_in _ (by omega);have e3:IntKind.i64.wrap (p:Int)=(p:Int):=IntWalk.i64_in _ (by omega);go_enter Tryz.func60,Tryz.ntmps60;go_wp2_with fail
 refine (HG.out _).mono ?_;rintro e w1 ⟨rfl,hb⟩;have hg1:w1.heap.size<w1.heap.size+1:=Nat.lt_succ_self _;go_wp2_with fail
 refine wp_region_noPanic ?_;refine wp_region_held_drew (S:=fun w'=>w'.cell? ⟨w1.heap.size,9,none⟩=some (.int .i64 (k:Int))∧w1.heap.size+1≤w'.heap.size∧Below w.heap.size w w') (by kernel_rfl) ?_ (fun hHeld=>?_)
 ·exact⟨by simp[go_sem],by simp,below_drew (hb.alloc hb.size _)⟩
 iterate 14
  refine zqb [0,1,2,3,5,6,7,8,9,10,11,12,13,14] rfl rfl ?_ ?_ ?_;rotate_left
  ·(intro w hSw;(try (have cA:=hSw.1));(try clear hSw);go_simp;(try with_reducible rfl))
  try simp only[Act.put,J1,J2,J3,J4,J5,J6]
 refine zqf [4] (AllReadyH.cons rfl (fun K hK=>?_) AllReadyH.nil);rw[if_pos (by rfl)];go_simp;refine (HF.out _).mono ?_;rintro e w2 ⟨rfl,hb2⟩;refine hK.out _ _ ?_ (fun hHeld=>?_)
 ·exact⟨(hb2.cell (p:=⟨w1.heap.size,9,none⟩) (Nat.lt_of_lt_of_le hg1 hHeld.2.1)).trans hHeld.1,Nat.le_trans hHeld.2.1 hb2.size,hHeld.2.2.trans (hb2.mono hHeld.2.2.size)⟩
 clear hK K
 try simp only[Act.put,J1,J2,J3,J4,J5,J6]
 refine zqf [15] (AllReadyH.cons rfl (fun K hK=>?_) AllReadyH.nil);rw[if_pos (by rfl)];go_simp;refine (HM.out _).mono ?_;rintro e w3 ⟨rfl,hb3⟩;refine hK.out _ _ ?_ (fun hHeld=>?_)
 ·exact⟨(hb3.cell (p:=⟨w1.heap.size,9,none⟩) (Nat.lt_of_lt_of_le hg1 hHeld.2.1)).trans hHeld.1,Nat.le_trans hHeld.2.1 hb3.size,hHeld.2.2.trans (hb3.mono hHeld.2.2.size)⟩
 clear hK K
 try simp only[Act.put,J1,J2,J3,J4,J5,J6]
 iterate 2
  refine zqb [16,17] rfl rfl ?_ ?_ ?_;rotate_left
  ·(intro w hSw;(try (have cA:=hSw.1));(try clear hSw);go_simp;(try with_reducible rfl))
  try simp only[Act.put,J1,J2,J3,J4,J5,J6]
 refine zqe (NoPanic.normal ?_);have HB:=zh hHeld.2.2;clear hHeld e2 e3;go_wp2
 go_ret2
 exact⟨rfl,HB.out⟩
theorem Mask_ref(l m:List UInt8)(w:World)(hl:l.length≤140737488351232) :
 Calls Tryz.prog 60 #[.string ⟨l.toArray⟩,.string ⟨m.toArray⟩] w fun e w'=>e=.returned (.tuple #[.string ⟨(mskL l m).toArray⟩,.int .i64 (mskE l m)])∧Below w.heap.size w w':=by
 by_cases h5:m.length=5
 ·have e1:mskE l m=gEr l:=if_pos h5
  cases hg:getO l with
  | none=>
   have e2:mskL l m=[]:=by unfold mskL;rw[if_pos h5,hg]
   have e3:gEr l=40:=by unfold gEr;rw[hg]
   rw[e1,e2,e3];exact Mask_none_ref l m w (ne5 h5) hl (zh e3)
  | some x=>
   obtain⟨b,t,p,pre,hlb,ha,hf,hbb,hw,hx⟩:=get_parts hg;have hlen:=len_parts hf;rw[←hlb]at hlen;have hx1:x.1.wi=((wideB b:Nat):Int):=by rw[hx];rfl
   have hx2:x.2.length=p.re.length-wideB b:=by rw[hx];simp
   have hwb:wideB b≤4:=by unfold wideB;omega
   have e2:mskL l m=turnM l m (1+pre.length) (wideB b):=by
    unfold mskL;rw[if_pos h5,hg];simp only;rw[hx1,Int.toNat_natCast]
    congr 1
    omega
   have e3:gEr l=0:=by unfold gEr;rw[hg]
   have e4:(gHd l).wi=((wideB b:Nat):Int):=by unfold gHd;rw[hg];exact hx1
   have e5:(gRs l).length=p.re.length-wideB b:=by unfold gRs;rw[hg];exact hx2
   rw[e1,e2,e3];exact Mask_some_ref l m (1+pre.length) (wideB b) w (ne5 h5) (zh h5) hl (zh e3) (zh e4) (zh (by omega)) (by omega) (by omega) hwb
 ·have e1:mskE l m=1:=if_neg h5
  have e2:mskL l m=[]:=if_neg h5;rw[e1,e2];exact Mask_five_ref l m w (ne5' h5)
theorem Unmask_none_ref(l m:List UInt8)(w:World)(hm:(((m.length:Nat):Int) != 5)=false)(hl:l.length≤140737488351232)(hE:Hid (plE l=40)) :
 Calls Tryz.prog 66 #[.string ⟨l.toArray⟩,.string ⟨m.toArray⟩] w fun e w'=>e=.returned (.tuple #[.string ⟨#[]⟩,.int .i64 40])∧Below w.heap.size w w':=by
 have HG:=zh (fun w=>Place_ref l w hl);rw[hE.out]at HG;go_enter Tryz.func66,Tryz.ntmps66;go_wp2_with fail
 refine (HG.out _).mono ?_;rintro e w1 ⟨rfl,hb⟩;go_wp2
 go_ret2
 exact⟨rfl,hb⟩
theorem Unmask_short_ref(l m:List UInt8)(p k:Nat)(w:World)(hm:(((m.length:Nat):Int) != 5)=false)(hm5:Hid (m.length=5))(hl:l.length≤140737488351232)(h0:0<l.length)(hE:Hid (plE l=0))(hN:Hid (plN l=(p:Int)))(hK:Hid (umK l m=k))(hp:1≤p)(hpl:p≤l.length)(hs:((l.length:Nat):Int)<(p:Int)+(k:Int)) :
 Calls Tryz.prog 66 #[.string ⟨l.toArray⟩,.string ⟨m.toArray⟩] w fun e w'=>e=.returned (.tuple #[.string ⟨#[]⟩,.int .i64 40])∧Below w.heap.size w w':=by
 have HG:=zh (fun w=>Place_ref l w hl);rw[hE.out,hN.out]at HG;have HF:=zh (fun w=>first_ref l m w h0 (by have:=hm5.out;omega) (by omega) (by have:=hm5.out;omega));have HK:=hK.out;unfold umK at HK;have hk4:k≤4:=by omega
 generalize fstB (l.headD 0) (m.headD 0)=x at HF HK;have hx0:(0:Int)≤((x.toNat:Nat):Int):=by omega
 have hx1:((x.toNat:Nat):Int)≤255:=by have:=x.toNat_lt;omega
 have kE:1+((x.toNat:Nat):Int)%4=(k:Int):=by omega
 have hpp:(p:Int)≤140737488351232:=by omega
 replace HK:=zh HK;go_enter Tryz.func66,Tryz.ntmps66;go_wp2_with fail
 refine (HG.out _).mono ?_;rintro e w1 ⟨rfl,hb1⟩;go_wp2_with fail
 refine (HF.out _).mono ?_;rintro e w2 ⟨rfl,hb2⟩;have hb12:=hb1.trans (hb2.mono hb1.size);clear hb1 hb2;go_wp2
 go_ret2
 exact⟨rfl,hb12⟩
theorem Unmask_bad_ref(l m:List UInt8)(p k:Nat)(w:World)(hm:(((m.length:Nat):Int) != 5)=false)(hm5:Hid (m.length=5))(hl:l.length≤140737488351232)(h0:0<l.length)(hE:Hid (plE l=0))(hN:Hid (plN l=(p:Int)))(hK:Hid (umK l m=k))(hp:1≤p)(hpl:p≤l.length)(hs:¬((l.length:Nat):Int)<(p:Int)+(k:Int))(hB:Hid (gEr (turnM l m p k)=40)) :
 Calls Tryz.prog 66 #[.string ⟨l.toArray⟩,.string ⟨m.toArray⟩] w fun e w'=>e=.returned (.tuple #[.string ⟨#[]⟩,.int .i64 40])∧Below w.heap.size w w':=by
 have HG:=zh (fun w=>Place_ref l w hl);rw[hE.out,hN.out]at HG;have HF:=zh (fun w=>first_ref l m w h0 (by have:=hm5.out;omega) (by omega) (by have:=hm5.out;omega));have HK:=hK.out;unfold umK at HK;have hk4:k≤4:=by omega
 have HM:=zh (fun w=>laid_ref l m p k w hp hk4 (by omega) hm5.out hl);generalize fstB (l.headD 0) (m.headD 0)=x at HF HK HM;have hx0:(0:Int)≤((x.toNat:Nat):Int):=by omega
 have hx1:((x.toNat:Nat):Int)≤255:=by have:=x.toNat_lt;omega
 have kE:1+((x.toNat:Nat):Int)%4=(k:Int):=by omega
 have hpp:(p:Int)≤140737488351232:=by omega
 replace HK:=zh HK;have hol:(turnM l m p k).length≤140737488351232:=by rw[turnM_len l m p k hp (by omega) hm5.out hk4];exact hl
 have HG2:=zh (fun w=>Get_ref (turnM l m p k) w hol);rw[hB.out]at HG2;generalize turnM l m p k=o at *;generalize gHd o=h at HG2;generalize gRs o=rs at HG2;obtain⟨lg,sp,ph,ty,ve,dc,sc,tk,le,wi,nu⟩:=h;go_enter Tryz.func66,Tryz.ntmps66;go_wp2_with fail
 refine (HG.out _).mono ?_;rintro e w1 ⟨rfl,hb1⟩;go_wp2_with fail
 refine (HF.out _).mono ?_;rintro e w2 ⟨rfl,hb2⟩;have hb12:=hb1.trans (hb2.mono hb1.size);clear hb1 hb2;go_wp2_with fail
 refine (HM.out _).mono ?_;rintro e w4 ⟨rfl,hb4⟩;have hb:=hb12.trans (hb4.mono hb12.size);clear hb12 hb4;go_wp2_with fail
 refine (HG2.out _).mono ?_;rintro e w5 ⟨rfl,hb5⟩;have hb6:=hb.trans (hb5.mono hb.size);go_wp2
 go_ret2
 exact⟨rfl,hb6.alloc hb6.size _⟩
theorem Unmask_ok_ref(l m:List UInt8)(p k:Nat)(w:World)(hm:(((m.length:Nat):Int) != 5)=false)(hm5:Hid (m.length=5))(hl:l.length≤140737488351232)(h0:0<l.length)(hE:Hid (plE l=0))(hN:Hid (plN l=(p:Int)))(hK:Hid (umK l m=k))(hp:1≤p)(hpl:p≤l.length)(hs:¬((l.length:Nat):Int)<(p:Int)+(k:Int))(hB:Hid (gEr (turnM l m p k)=0)) :
 Calls Tryz.prog 66 #[.string ⟨l.toArray⟩,.string ⟨m.toArray⟩] w fun e w'=>e=.returned (.tuple #[.string ⟨(turnM l m p k).toArray⟩,.int .i64 0])∧Below w.heap.size w w':=by
 have HG:=zh (fun w=>Place_ref l w hl);rw[hE.out,hN.out]at HG;have HF:=zh (fun w=>first_ref l m w h0 (by have:=hm5.out;omega) (by omega) (by have:=hm5.out;omega));have HK:=hK.out;unfold umK at HK;have hk4:k≤4:=by omega
 have HM:=zh (fun w=>laid_ref l m p k w hp hk4 (by omega) hm5.out hl);generalize fstB (l.headD 0) (m.headD 0)=x at HF HK HM;have hx0:(0:Int)≤((x.toNat:Nat):Int):=by omega
 have hx1:((x.toNat:Nat):Int)≤255:=by have:=x.toNat_lt;omega
 have kE:1+((x.toNat:Nat):Int)%4=(k:Int):=by omega
 have hpp:(p:Int)≤140737488351232:=by omega
 replace HK:=zh HK;have hol:(turnM l m p k).length≤140737488351232:=by rw[turnM_len l m p k hp (by omega) hm5.out hk4];exact hl
 have HG2:=zh (fun w=>Get_ref (turnM l m p k) w hol);rw[hB.out]at HG2;generalize turnM l m p k=o at *;generalize gHd o=h at HG2;generalize gRs o=rs at HG2;obtain⟨lg,sp,ph,ty,ve,dc,sc,tk,le,wi,nu⟩:=h;go_enter Tryz.func66,Tryz.ntmps66;go_wp2_with fail
 refine (HG.out _).mono ?_;rintro e w1 ⟨rfl,hb1⟩;go_wp2_with fail
 refine (HF.out _).mono ?_;rintro e w2 ⟨rfl,hb2⟩;have hb12:=hb1.trans (hb2.mono hb1.size);clear hb1 hb2;go_wp2_with fail
 refine (HM.out _).mono ?_;rintro e w4 ⟨rfl,hb4⟩;have hb:=hb12.trans (hb4.mono hb12.size);clear hb12 hb4;go_wp2_with fail
 refine (HG2.out _).mono ?_;rintro e w5 ⟨rfl,hb5⟩;have hb6:=hb.trans (hb5.mono hb.size);go_wp2
 go_ret2
 exact⟨rfl,hb6.alloc hb6.size _⟩
theorem Unmask_ref(l m:List UInt8)(w:World)(hl:l.length≤140737488351232) :
 Calls Tryz.prog 66 #[.string ⟨l.toArray⟩,.string ⟨m.toArray⟩] w fun e w'=>e=.returned (.tuple #[.string ⟨(umL l m).toArray⟩,.int .i64 (umE l m)])∧Below w.heap.size w w':=by
 by_cases h5:m.length=5
 ·have e1:umE l m=match umO l m with
   | some x=>0
   | none=>40:=if_pos h5
  have e2:umL l m=match umO l m with
   | some x=>x
   | none=>[]:=if_pos h5
  cases l with
  | nil=>
   have e3:umO [] m=none:=rfl;rw[e1,e2,e3];exact Unmask_none_ref [] m w (ne5 h5) hl (zh rfl)
  | cons b t=>
   cases ha:ahO (b::t) with
   | none=>
    have e3:umO (b::t) m=none:=by unfold umO;rw[ha]
    rw[e1,e2,e3];exact Unmask_none_ref _ m w (ne5 h5) hl (zh (by unfold plE;rw[ha]))
   | some p=>
    obtain⟨pre,hf⟩:=ahO_local ha;have hlen:=len_parts hf;have hE:plE (b::t)=0:=by unfold plE;rw[ha]
    have hN:plN (b::t)=((1+pre.length:Nat):Int):=by unfold plN;rw[ha];simp only;omega
    have hpl:(b::t).length-p.re.length=1+pre.length:=by omega
    have h0:0<(b::t).length:=by simp
    generalize b::t=l at *
    have e3:umO l m=if p.re.length<umK l m then none else match getO (turnM l m (1+pre.length) (umK l m)) with
     | none=>none
     | some _=>some (turnM l m (1+pre.length) (umK l m)):=by unfold umO;rw[ha];simp only;rw[hpl];cases getO (turnM l m (1+pre.length) (umK l m))<;>rfl
    by_cases hs:p.re.length<umK l m
    ·rw[e1,e2,e3,if_pos hs]
     exact Unmask_short_ref l m (1+pre.length) (umK l m) w (ne5 h5) (zh h5) hl h0 (zh hE) (zh hN) (zh rfl) (by omega) (by omega) (by omega)
    ·rw[e1,e2,e3,if_neg hs]
     cases hg:getO (turnM l m (1+pre.length) (umK l m)) with
     | none=>exact Unmask_bad_ref l m (1+pre.length) (umK l m) w (ne5 h5) (zh h5) hl h0 (zh hE) (zh hN) (zh rfl) (by omega) (by omega) (by omega) (zh (by unfold gEr;rw[hg]))
     | some x=>exact Unmask_ok_ref l m (1+pre.length) (umK l m) w (ne5 h5) (zh h5) hl h0 (zh hE) (zh hN) (zh rfl) (by omega) (by omega) (by omega) (zh (by unfold gEr;rw[hg]))
 ·have e1:umE l m=1:=if_neg h5
  have e2:umL l m=[]:=if_neg h5;rw[e1,e2];exact Unmask_five_ref l m w (ne5' h5)
end Go.Proofs.YtagbkmoahflfdaaGreatDoor.Hd
