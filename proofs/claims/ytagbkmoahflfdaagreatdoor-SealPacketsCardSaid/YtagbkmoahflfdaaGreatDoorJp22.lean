import Derived.Test.YtagbkmoahflfdaaGreatDoorJp01
import Derived.Test.YtagbkmoahflfdaaGreatDoorJp21
import Derived.Lib.ConvBytes
import Derived.Test.YtagbkmoahflfdaaGreatDoorJp20
set_option maxHeartbeats 4000000
set_option maxRecDepth 20000
set_option linter.unusedVariables false
set_option linter.unusedSimpArgs false
namespace Go.Proofs.YtagbkmoahflfdaaGreatDoor.Hd
open Tk Go.RowKit Vm
theorem xor_u8(a b:UInt8):bits .xor .u8 ((a.toNat:Nat):Int) ((b.toNat:Nat):Int)=(((a ^^^ b).toNat:Nat):Int):=by
 have ha:=a.toNat_lt;have hb:=b.toNat_lt
 have h1:(BitVec.ofInt 8 ((a.toNat:Nat):Int)).toNat=a.toNat:=by
  rw[BitVec.ofInt_natCast,BitVec.toNat_ofNat];exact Nat.mod_eq_of_lt ha
 have h2:(BitVec.ofInt 8 ((b.toNat:Nat):Int)).toNat=b.toNat:=by
  rw[BitVec.ofInt_natCast,BitVec.toNat_ofNat];exact Nat.mod_eq_of_lt hb
 have hx:a.toNat ^^^ b.toNat<2^8:=Nat.xor_lt_two_pow ha hb;show IntKind.u8.wrap ((BitVec.ofInt 8 ((a.toNat:Nat):Int) ^^^ BitVec.ofInt 8 ((b.toNat:Nat):Int)).toNat:Int)=_;rw[BitVec.toNat_xor,h1,h2,UInt8.toNat_xor,IntKind.wrap_u8];omega
def xorL (a m:List UInt8):List UInt8:=List.zipWith (fun x y=>x ^^^ y) a m
theorem xorL_succ(a m:List UInt8)(k:Nat)(h:k<a.length)(hm:k<m.length):xorL (a.take (k+1)) m=xorL (a.take k) m++[a[k] ^^^ m[k]]:=by
 unfold xorL
 induction a generalizing m k with
 | nil=>simp at h
 | cons x a ih=>
  cases m with
  | nil=>simp at hm
  | cons y m=>
   cases k with
   | zero=>simp
   | succ k=>
    simp only[List.take_succ_cons,List.zipWith_cons_cons,List.cons_append,List.getElem_cons_succ];rw[ih m k (by simpa using h) (by simpa using hm)]
theorem xorL_len(a m:List UInt8)(k:Nat)(h:k≤a.length)(hm:a.length≤m.length):(xorL (a.take k) m).length=k:=by
 unfold xorL;simp;omega
def LaidRel (a m:List UInt8) (w:World) (iv:Value) (wr:World):Prop:=
 ∃ k:Nat,k≤a.length∧iv=.int .i64 k∧Lib.IsBuilder 68 5 w.heap.size w.heap.size (Lib.byteCells (xorL (a.take k) m)) wr∧Below w.heap.size w wr
theorem laid_any(a m:List UInt8)(g cap:Nat)(w:World)(hg:g<w.heap.size)(hc:Hid (∀i (h:i<a.length),w.cell? ⟨g,i,none⟩=some (.int .u8 (a[i].toNat:Nat))))(ha:a.length≤2000)(hm:a.length≤m.length)(hm2:m.length≤140737488351232) :
 Calls Tryz.prog 150 #[.string ⟨m.toArray⟩,.slice (some ⟨g,0,none⟩) a.length cap] w fun e w'=>e=.returned (.string ⟨(xorL a m).toArray⟩)∧Below w.heap.size w w':=by
 have HB:=zh (Lib.fresh_isBuilder 68 5 w);go_enter Tryz.func150,Tryz.ntmps150;go_wp2
 go_loopw [9] (fun iv wr=>LaidRel a m w iv wr) (fun iv _=>a.length-(intOf iv).toNat)
 case atStart=>exact⟨0,Nat.zero_le _,rfl,HB.out,(Below.refl _ _).alloc zle _⟩
 case round=>
  obtain⟨k,hk,rfl,hI,hb⟩:=hrel;have HI:=zh hI;clear hI;have hsz:=hb.size;by_cases hlt:k<a.length
  ·have hcd:=(hb.cell (p:=⟨g,k,none⟩) hg).trans (hc.out k hlt)
   have hm3:k<m.length:=by omega
   have HS:=zh (xorL_succ a m k hlt hm3);have HLN:=zh (xorL_len a m k hk hm);have HXO:Hid (bits .xor .u8 ((a[k].toNat:Nat):Int) ((((⟨m.toArray⟩:ByteArray)[k]'(by rw[sv_size];exact hm3)).toNat:Nat):Int)=(((a[k] ^^^ m[k]).toNat:Nat):Int)):=zh (xor_u8 a[k] m[k]);have HD:=zh (builder_below HI.out (below_drew (Below.refl _ _)));have HL:Hid ((Lib.byteCells (xorL (a.take k) m)).length+1≤140737488355328):=zh (by rw[Lib.byteCells_length,HLN.out];omega);have hszd:w.heap.size≤wr.drew.heap.size:=hsz;go_wp2_with fail
   refine wp_region_noPanic ?_;refine wp_region_held_drew (S:=fun w'=>w'.cell? ⟨g,k,none⟩=some (.int .u8 (a[k].toNat:Nat))∧Below w.heap.size w w') (by kernel_rfl) ?_ (fun hHeld=>?_)
   ·exact⟨hcd,below_drew hb⟩
   iterate 8
    refine zqb [0,1,2,3,4,5,6,7] rfl rfl ?_ ?_ ?_;rotate_left
    ·(intro w hSw;(try (have cA:=hSw.1));(try clear hSw);go_simp;(try with_reducible rfl))
    try simp only[Act.put,J1,J2,J3,J4,J5,J6]
   refine zqf [8] (AllReadyH.cons rfl (fun K hK=>?_) AllReadyH.nil);rw[if_pos (by rfl)];go_simp;rw[HXO.out];refine (Bld.writeByte w.heap.size w.heap.size _ _ _ HD.out HL.out hszd).mono ?_;rintro e w2 ⟨rfl,hi,hb⟩;have HI2:=zh hi;clear hi;refine hK.out _ _ ?_ (fun hHeld=>?_)
   ·exact⟨(hb.cell (p:=⟨g,k,none⟩) hg).trans hHeld.1,hHeld.2.trans hb⟩
   clear hK K
   try simp only[Act.put,J1,J2,J3,J4,J5,J6]
   refine zqe (NoPanic.normal ?_);have hb2:=hHeld.2;clear hHeld;go_wp2
   go_roundw
   case rel=>exact⟨k+1,by omega,by go_num,by rw[HS.out,Lib.byteCells_append];exact HI2.out,hb2⟩
   case measure=>simp[intOf];omega
  ·obtain rfl:k=a.length:=by omega
   go_wp2_with fail
   refine (Tryz.Builder_String_any w.heap.size w.heap.size _ _ HI.out hsz).mono ?_;rintro e w1 ⟨rfl,hb1⟩;go_wp2
   go_ret
   exact⟨by first|rfl|rw[List.take_length],hb.trans hb1⟩
theorem and_u8(a b:UInt8):bits .and .u8 ((a.toNat:Nat):Int) ((b.toNat:Nat):Int)=(((a &&& b).toNat:Nat):Int):=by
 have ha:=a.toNat_lt;have hb:=b.toNat_lt
 have h1:(BitVec.ofInt 8 ((a.toNat:Nat):Int)).toNat=a.toNat:=by
  rw[BitVec.ofInt_natCast,BitVec.toNat_ofNat];exact Nat.mod_eq_of_lt ha
 have h2:(BitVec.ofInt 8 ((b.toNat:Nat):Int)).toNat=b.toNat:=by
  rw[BitVec.ofInt_natCast,BitVec.toNat_ofNat];exact Nat.mod_eq_of_lt hb
 have hx:a.toNat &&& b.toNat<2^8:=Nat.and_lt_two_pow _ hb;show IntKind.u8.wrap ((BitVec.ofInt 8 ((a.toNat:Nat):Int) &&& BitVec.ofInt 8 ((b.toNat:Nat):Int)).toNat:Int)=_;rw[BitVec.toNat_and,h1,h2,UInt8.toNat_and,IntKind.wrap_u8];omega
def hidB (b:UInt8):UInt8:=if 128≤b.toNat then 15 else 31
theorem hidB_eq(b:UInt8):(if 128≤b.toNat then (15:Int) else 31)=(((hidB b).toNat:Nat):Int):=by
 unfold hidB
 split<;>rfl
def fstB (b c:UInt8):UInt8:=b ^^^ (c &&& hidB b)
def turnL (b c:UInt8) (l m:List UInt8) (p k:Nat):List UInt8:=
 fstB b c::(l.take p).drop 1++xorL ((l.drop p).take k) (m.drop 1)++l.drop (p+k)
theorem hiddenB(b:UInt8)(w:World) :
 Calls Tryz.prog 155 #[.int .u8 ((b.toNat:Nat):Int)] w fun e w'=>e=.returned (.int .u8 (((hidB b).toNat:Nat):Int))∧w'=w:=by
 have h:=hidden_any b.toNat w b.toNat_lt;rw[hidB_eq]at h;exact h
theorem fixed1(b:UInt8)(w:World) :
 Calls Tryz.prog 88 #[.int .u64 ((b.toNat:Nat):Int),.int .i64 1] w fun e w'=>e=.returned (.string ⟨[b].toArray⟩)∧Below w.heap.size w w':=by
 have hb:=b.toNat_lt;have h:=vfixed' ((b.toNat:Nat):Int) 1 w (Int.natCast_nonneg _) (by omega) (by decide) (by decide)
 have e:fx ((b.toNat:Nat):Int).toNat (1:Int).toNat=[b]:=by
  show fx b.toNat 1=[b];rw[show (1:Nat)=0+1 from rfl,fx_succ]
  have:UInt8.ofNat (b.toNat/256^0%256)=b:=by
   apply UInt8.toNat_inj.1;rw[UInt8.toNat_ofNat'];omega
  rw[this];rfl
 rw[e]at h;exact h
theorem laid1(b h:UInt8)(g:Nat)(w:World)(hg:g<w.heap.size)(hc:w.cell? ⟨g,0,none⟩=some (.int .u8 ((b.toNat:Nat):Int))) :
 Calls Tryz.prog 150 #[.string ⟨[h].toArray⟩,.slice (some ⟨g,0,none⟩) 1 1] w fun e w'=>e=.returned (.string ⟨[b ^^^ h].toArray⟩)∧Below w.heap.size w w':=
 laid_any [b] [h] g 1 w hg (zh fun i hi=>by
  have:i=0:=by simp at hi;omega
  subst this
  exact hc) (by simp) (by simp) (by simp)
theorem wrap_byte(x:UInt8):IntKind.u64.wrap ((x.toNat:Nat):Int)=((x.toNat:Nat):Int):=by
 have:=x.toNat_lt;rw[IntKind.wrap_u64];omega
theorem turnedFirst_any(l m:List UInt8)(b c:UInt8)(w:World)(h0:0<l.length)(h1:0<m.length)(hb:l[0]=b)(hc:m[0]=c)(hl:l.length≤140737488351232)(hm:m.length≤140737488351232) :
 Calls Tryz.prog 130 #[.string ⟨l.toArray⟩,.string ⟨m.toArray⟩] w fun e w'=>e=.returned (.string ⟨[fstB b c].toArray⟩)∧Below w.heap.size w w':=by
 have I0:((⟨l.toArray⟩:ByteArray)[0]'(by rw[sv_size];exact h0))=b:=hb;have I1:((⟨m.toArray⟩:ByteArray)[0]'(by rw[sv_size];exact h1))=c:=hc;have HH:=zh (fun w=>hiddenB b w);have AN:=and_u8 c (hidB b);have EF:fstB b c=b ^^^ (c &&& hidB b):=rfl;obtain⟨kb,Ek⟩:∃k,k=hidB b:=⟨_,rfl⟩;rw[←Ek]at HH AN EF;obtain⟨h,Eh⟩:∃h,h=c &&& kb:=⟨_,rfl⟩;rw[←Eh]at AN EF;have WN:=wrap_byte h;rw[EF];clear hb hc Ek Eh EF;go_enter Tryz.func130,Tryz.ntmps130;go_wp2_with fail
 refine wp_region_noPanic ?_;refine wp_region_held_drew (S:=fun w'=>Below w.heap.size w w') (by kernel_rfl) ?_ (fun hHeld=>?_)
 ·exact below_drew (Below.refl _ _)
 iterate 4
  refine zqb [0,1,2,3] rfl rfl ?_ ?_ ?_;rotate_left
  ·(intro w hSw;skip;go_simp;(try with_reducible rfl))
  try simp only[Act.put,J1,J2,J3,J4,J5,J6]
 refine zqf [4] (AllReadyH.cons rfl (fun K hK=>?_) AllReadyH.nil);rw[if_pos (by rfl)];go_simp;refine (HH.out _).mono ?_;rintro e w1 ⟨rfl,rfl⟩;refine hK.out _ _ ?_ (fun hHeld=>?_)
 ·exact hHeld
 clear hK K
 try simp only[Act.put,J1,J2,J3,J4,J5,J6]
 iterate 2
  refine zqb [5,6] rfl rfl ?_ ?_ ?_;rotate_left
  ·(intro w hSw;skip;go_simp;(try with_reducible rfl))
  try simp only[Act.put,J1,J2,J3,J4,J5,J6]
 refine zqf [7] (AllReadyH.cons rfl (fun K hK=>?_) AllReadyH.nil);rw[if_pos (by rfl)];go_simp;refine (fixed1 h _).mono ?_;rintro e w2 ⟨rfl,hb⟩;refine hK.out _ _ ?_ (fun hHeld=>?_)
 ·exact hHeld.trans (hb.mono hHeld.size)
 clear hK K
 try simp only[Act.put,J1,J2,J3,J4,J5,J6]
 refine zqa 8 rfl ?_ ?_ ?_;rotate_left
 ·(intro w hSw;skip;go_simp;(try with_reducible rfl))
 try simp only[Act.put,J1,J2,J3,J4,J5,J6]
 refine zqe (NoPanic.normal ?_);have HB:=zh hHeld;clear hHeld;clear AN WN;go_wp2_with fail
 refine (laid1 b h w2.heap.size _ (by simp) (by simp[go_sem])).mono ?_;rintro e w3 ⟨rfl,hb3⟩;go_wp2
 go_ret
 exact⟨rfl,(HB.out.alloc HB.out.size _).trans (hb3.mono (by have:=HB.out.size;simp;omega))⟩
theorem bytes_made(W:World)(l:List UInt8):∃c W',(convert 9 66 (.string ⟨l.toArray⟩)).run Tryz.prog W=.ok (.slice (some ⟨W.heap.size,0,none⟩) l.length c) W'∧Below W.heap.size W W'∧W'.heap.size=W.heap.size+1 ∧
 ∀ i (h:i<l.length),W'.cell? ⟨W.heap.size,i,none⟩=some (.int .u8 ((l[i].toNat:Nat):Int)):=by
 have h:=Lib.run_convert_string_bytes (P:=Tryz.prog) W 9 66 5 ⟨l.toArray⟩ Tryz.underlying9 Tryz.underlying66 Tryz.underlying5;rw[sv_size]at h;refine⟨_,_,h,⟨rfl,rfl,rfl,by rw[Lib.bytesWorld_size];omega,fun k hk=>Lib.bytesWorld_at_old _ _ _ _ hk⟩,Lib.bytesWorld_size _ _ _,fun i hi=>?_⟩;rw[Lib.bytesWorld_cell _ _ _ _ (by rw[sv_size];exact hi)];simp[List.getD,List.getElem?_eq_getElem hi]
theorem sv_sub(l:List UInt8)(a b:Nat):(⟨l.toArray⟩:ByteArray).extract a b=⟨((l.drop a).take (b-a)).toArray⟩:=by
 apply ByteArray.ext;apply Array.toList_inj.1;rw[Lib.extract_data]
theorem turned_any(l m:List UInt8)(b c:UInt8)(p k:Nat)(w:World)(h0:0<l.length)(h1:0<m.length)(hb:l[0]=b)(hc:m[0]=c)(hp:1≤p)(hk:k≤4)(hpk:p+k≤l.length)(hm5:m.length=5)(hl:l.length≤140737488351232) :
 Calls Tryz.prog 123 #[.string ⟨l.toArray⟩,.string ⟨m.toArray⟩,.int .i64 p,.int .i64 k] w fun e w'=>e=.returned (.string ⟨(turnL b c l m p k).toArray⟩)∧Below w.heap.size w w':=by
 have HF:=zh (fun w=>turnedFirst_any l m b c w h0 h1 hb hc hl (by omega));have X1:(⟨m.toArray⟩:ByteArray).extract 1 m.length=⟨(m.drop 1).toArray⟩:=sv_from m 1;have hm2:(m.drop 1).length≤140737488351232:=by rw[List.length_drop];omega
 have hn1:((l.drop p).take k).length=k:=by rw[List.length_take,List.length_drop];omega
 have X2:(⟨l.toArray⟩:ByteArray).extract p (p+k)=⟨((l.drop p).take k).toArray⟩:=by rw[sv_sub,Nat.add_sub_cancel_left]
 have X3:(⟨l.toArray⟩:ByteArray).extract 1 p=⟨((l.take p).drop 1).toArray⟩:=by rw[sv_sub,List.drop_take]
 have X4:(⟨l.toArray⟩:ByteArray).extract (p+k) l.length=⟨(l.drop (p+k)).toArray⟩:=sv_from l (p+k);have hxl:(xorL ((l.drop p).take k) (m.drop 1)).length≤4:=by unfold xorL;simp;omega
 have EV:turnL b c l m p k=[fstB b c]++(l.take p).drop 1++xorL ((l.drop p).take k) (m.drop 1)++l.drop (p+k):=rfl;have hn2:((l.take p).drop 1).length≤l.length:=by simp;omega
 have hn3:(l.drop (p+k)).length≤l.length:=by simp
 have hmd:(m.drop 1).length=4:=by rw[List.length_drop];omega
 obtain⟨nb,Enb⟩:∃x,x=(l.drop p).take k:=⟨_,rfl⟩;rw[←Enb]at X2 EV hn1 hxl;obtain⟨mid,Emid⟩:∃x,x=(l.take p).drop 1:=⟨_,rfl⟩;rw[←Emid]at X3 EV hn2;obtain⟨rest,Erest⟩:∃x,x=l.drop (p+k):=⟨_,rfl⟩;rw[←Erest]at X4 EV hn3;obtain⟨md,Emd⟩:∃x,x=m.drop 1:=⟨_,rfl⟩;rw[←Emd]at X1 hm2 hxl EV hmd;have b1:(1:Int)≤(m.length:Nat):=by omega
 have b2:0≤(p:Int)+(k:Int):=by omega
 have b3:(p:Int)+(k:Int)≤(l.length:Nat):=by omega
 have b4:(p:Int)≤(p:Int)+(k:Int):=by omega
 have b5:((p:Int)+(k:Int)).toNat=p+k:=by omega
 have b6:(1:Int)≤(p:Nat):=by omega
 have b7:((p:Nat):Int)≤(l.length:Nat):=by omega
 have b8:p+k≤l.length:=hpk;obtain⟨xl,Exl⟩:∃x,x=xorL nb md:=⟨_,rfl⟩;obtain⟨cc,W2,hcv,hbw,hsz2,hcells⟩:=bytes_made w.drew nb;have HCV:=zh hcv;have HC:=zh hcells;have HS:=below_drew (Below.refl w.heap.size w) |>.trans (hbw.mono zle)
 have HG:w.drew.heap.size<W2.heap.size:=by omega
 have hnb2:nb.length≤2000:=by omega
 have hnb3:nb.length≤md.length:=by omega
 have HEV:=zh EV;clear EV hcv hcells hbw Emid Erest hb hc hmd Emd;replace Enb:=zh Enb;replace hn1:=zh hn1;replace hm5:=zh hm5;replace hsz2:=zh hsz2;have hl63:l.length≤9223372036854775807:=by omega
 go_enter Tryz.func123,Tryz.ntmps123;go_wp2_with fail
 refine wp_region_noPanic ?_;refine wp_region_held_drew (S:=fun w'=>Below w.heap.size w w') (by kernel_rfl) ?_ (fun hHeld=>?_)
 ·exact below_drew (Below.refl _ _)
 iterate 6
  refine zqb [0,1,2,3,4,5] rfl rfl ?_ ?_ ?_;rotate_left
  ·(intro w hSw;skip;go_simp;(try with_reducible rfl))
  try simp only[Act.put,J1,J2,J3,J4,J5,J6]
 refine zqf [6] (AllReadyH.cons rfl (fun K hK=>?_) AllReadyH.nil);rw[if_pos (by rfl)];go_simp;rw[HCV.out];go_simp;refine hK.out _ _ ?_ (fun hHeld=>?_)
 ·exact HS
 clear hK K
 try simp only[Act.put,J1,J2,J3,J4,J5,J6]
 refine zqf [7] (AllReadyH.cons rfl (fun K hK=>?_) AllReadyH.nil);rw[if_pos (by rfl)];go_simp;refine (laid_any nb md w.drew.heap.size cc W2 HG HC hnb2 hnb3 hm2).mono ?_;rintro e w3 ⟨rfl,hb3⟩;refine hK.out _ _ ?_ (fun hHeld=>?_)
 ·exact HS.trans (hb3.mono HS.size)
 clear hK K
 try simp only[Act.put,J1,J2,J3,J4,J5,J6]
 refine zqa 8 rfl ?_ ?_ ?_;rotate_left
 ·(intro w hSw;skip;go_simp;(try with_reducible rfl))
 try simp only[Act.put,J1,J2,J3,J4,J5,J6]
 refine zqe (NoPanic.normal ?_);have HB:=zh hHeld;clear hHeld;rw[←Exl];rw[←Exl]at hxl HEV;replace Exl:=zh Exl;have gs1:¬9223372036854775807<1+mid.length:=by omega
 have gs2:¬9223372036854775807<1+mid.length+xl.length:=by omega
 have gs3:¬9223372036854775807<1+mid.length+xl.length+rest.length:=by omega
 have gs4:¬9223372036854775807<mid.length+1:=by omega
 have gs5:¬9223372036854775807<mid.length+1+xl.length:=by omega
 have gs6:¬9223372036854775807<mid.length+1+xl.length+rest.length:=by omega
 go_wp2_with fail
 refine wp_region_noPanic ?_;refine wp_region_held_drew (S:=fun w'=>Below w.heap.size w w') (by kernel_rfl) ?_ (fun hHeld=>?_)
 ·exact below_drew HB.out
 iterate 9
  refine zqb [0,1,3,4,5,7,9,10,11] rfl rfl ?_ ?_ ?_;rotate_left
  ·(intro w hSw;skip;go_simp;(try with_reducible rfl))
  try simp only[Act.put,J1,J2,J3,J4,J5,J6]
 refine zqf [2] (AllReadyH.cons rfl (fun K hK=>?_) AllReadyH.nil);rw[if_pos (by rfl)];go_simp;refine (HF.out _).mono ?_;rintro e w4 ⟨rfl,hb4⟩;refine hK.out _ _ ?_ (fun hHeld=>?_)
 ·exact hHeld.trans (hb4.mono hHeld.size)
 clear hK K
 try simp only[Act.put,J1,J2,J3,J4,J5,J6]
 iterate 4
  refine zqb [6,8,12,13] rfl rfl ?_ ?_ ?_;rotate_left
  ·(intro w hSw;skip;go_simp;(try with_reducible rfl))
  try simp only[Act.put,J1,J2,J3,J4,J5,J6]
 refine zqe (NoPanic.normal ?_);have HB2:=zh hHeld;clear hHeld;go_wp2
 go_ret
 exact⟨by rw[HEV.out,app_two,app_two,app_two];rfl,HB2.out⟩
def turnM (l m:List UInt8) (p k:Nat):List UInt8:=turnL (l.headD 0) (m.headD 0) l m p k
def mskL (l m:List UInt8):List UInt8:=if m.length=5 then (match getO l with
 | some x=>turnM l m (l.length-x.2.length-x.1.wi.toNat) x.1.wi.toNat
 | none=>[]) else []
def mskE (l m:List UInt8):Int:=if m.length=5 then gEr l else 1
def umK (l m:List UInt8):Nat:=1+(fstB (l.headD 0) (m.headD 0)).toNat%4
def umO (l m:List UInt8):Option (List UInt8):=match ahO l with
 | none=>none
 | some p=>if p.re.length<umK l m then none else match getO (turnM l m (l.length-p.re.length) (umK l m)) with
  | none=>none
  | some _=>some (turnM l m (l.length-p.re.length) (umK l m))
def umL (l m:List UInt8):List UInt8:=if m.length=5 then (match umO l m with
 | some x=>x
 | none=>[]) else []
def umE (l m:List UInt8):Int:=if m.length=5 then (match umO l m with
 | some x=>0
 | none=>40) else 1
theorem head_get{l:List UInt8}(h:0<l.length):l[0]=l.headD 0:=by
 cases l with
 | nil=>simp at h
 | cons b r=>rfl
theorem turned_M(l m:List UInt8)(p k:Nat)(w:World)(h0:0<l.length)(hp:1≤p)(hk:k≤4)(hpk:p+k≤l.length)(hm5:m.length=5)(hl:l.length≤140737488351232) :
 Calls Tryz.prog 123 #[.string ⟨l.toArray⟩,.string ⟨m.toArray⟩,.int .i64 p,.int .i64 k] w fun e w'=>e=.returned (.string ⟨(turnM l m p k).toArray⟩)∧Below w.heap.size w w':=
 turned_any l m (l.headD 0) (m.headD 0) p k w h0 (by omega) (head_get h0) (head_get (by omega)) hp hk hpk hm5 hl
theorem get_parts{l:List UInt8}{x:Hdr×List UInt8}(h:getO l=some x):∃b t p pre,l=b::t∧ahO l=some p∧Fits b t p pre∧badB b=false∧wideB b≤p.re.length∧x=(hdr b p,p.re.drop (wideB b)):=by
 cases l with
 | nil=>cases h
 | cons b t=>
  simp only[getO]at h
  cases ha:ahO (b::t) with
  | none=>rw[ha]at h;cases h
  | some p=>
   rw[ha]at h;simp only at h
   split at h
   ·cases h
   ·rename_i hc
    obtain⟨pre,hf⟩:=ahO_local ha;refine⟨b,t,p,pre,rfl,rfl,hf,?_,by omega,by simpa using h.symm⟩
    cases hbb:badB b with
    | false=>rfl
    | true=>exact absurd (.inr hbb) hc
theorem len_parts{b:UInt8}{t:List UInt8}{p:Pre}{pre:List UInt8}(hf:Fits b t p pre):(b::t).length=1+pre.length+p.re.length:=by
 have:=hf.cut;rw[this];simp;omega
theorem Mask_five(l m:List UInt8)(w:World)(hm:(((m.length:Nat):Int) != 5)=true) :
 Calls Tryz.prog 91 #[.string ⟨l.toArray⟩,.string ⟨m.toArray⟩] w fun e w'=>e=.returned (.tuple #[.string ⟨#[]⟩,.int .i64 1])∧Below w.heap.size w w':=by
 go_enter Tryz.func91,Tryz.ntmps91;go_wp2
 go_ret2
 exact⟨rfl,Below.refl _ _⟩
theorem Mask_none(l m:List UInt8)(w:World)(ht:Tab w)(hm:(((m.length:Nat):Int) != 5)=false)(hl:l.length≤140737488351232)(hE:Hid (gEr l=40)) :
 Calls Tryz.prog 91 #[.string ⟨l.toArray⟩,.string ⟨m.toArray⟩] w fun e w'=>e=.returned (.tuple #[.string ⟨#[]⟩,.int .i64 40])∧Below w.heap.size w w':=by
 have HG:=zh (fun w (ht:Tab w)=>Get_any l w ht hl);have HT:=zh ht;clear ht;rw[hE.out]at HG;generalize gHd l=h at HG;generalize gRs l=rs at HG;obtain⟨lg,sp,ph,ty,ve,dc,sc,tk,le,wi,nu⟩:=h;go_enter Tryz.func91,Tryz.ntmps91;go_wp2_with fail
 refine (HG.out _ HT.out).mono ?_;rintro e w1 ⟨rfl,hb⟩;go_wp2
 go_ret2
 exact⟨rfl,hb.alloc hb.size _⟩
theorem Mask_some(l m:List UInt8)(p k:Nat)(w:World)(ht:Tab w)(hm:(((m.length:Nat):Int) != 5)=false)(hm5:Hid (m.length=5))(hl:l.length≤140737488351232)(hE:Hid (gEr l=0))(hW:Hid ((gHd l).wi=(k:Int)))(hR:Hid (l.length=p+k+(gRs l).length))(h0:0<l.length)(hp:1≤p)(hk:k≤4) :
 Calls Tryz.prog 91 #[.string ⟨l.toArray⟩,.string ⟨m.toArray⟩] w fun e w'=>e=.returned (.tuple #[.string ⟨(turnM l m p k).toArray⟩,.int .i64 0])∧Below w.heap.size w w':=by
 have HG:=zh (fun w (ht:Tab w)=>Get_any l w ht hl);have HT:=zh ht;clear ht;rw[hE.out]at HG;have HM:=zh (fun w=>turned_M l m p k w h0 hp hk (by have:=hR.out;omega) hm5.out hl);generalize gHd l=h at HG hW;generalize gRs l=rs at HG hR;obtain⟨lg,sp,ph,ty,ve,dc,sc,tk,le,wi,nu⟩:=h;have hwi:wi=(k:Int):=hW.out;subst hwi;have hrs:rs.length≤140737488351232:=by have:=hR.out;omega
 have e1:((l.length:Nat):Int)-((rs.length:Nat):Int)-(k:Int)=(p:Int):=by have:=hR.out;omega
 go_enter Tryz.func91,Tryz.ntmps91;go_wp2_with fail
 refine (HG.out _ HT.out).mono ?_;rintro e w1 ⟨rfl,hb⟩;go_wp2_with fail
 refine (HM.out _).mono ?_;rintro e w2 ⟨rfl,hb2⟩;go_wp2
 go_ret2
 exact⟨rfl,(hb.alloc hb.size _).trans (hb2.mono (by have:=hb.size;simp;omega))⟩
theorem ne5{m:List UInt8}(h:m.length=5):(((m.length:Nat):Int) != 5)=false:=by rw[h];rfl
theorem ne5'{m:List UInt8}(h:¬m.length=5):(((m.length:Nat):Int) != 5)=true:=by
 simp only[bne_iff_ne];omega
theorem Mask_any(l m:List UInt8)(w:World)(ht:Tab w)(hl:l.length≤140737488351232) :
 Calls Tryz.prog 91 #[.string ⟨l.toArray⟩,.string ⟨m.toArray⟩] w fun e w'=>e=.returned (.tuple #[.string ⟨(mskL l m).toArray⟩,.int .i64 (mskE l m)])∧Below w.heap.size w w':=by
 by_cases h5:m.length=5
 ·have e1:mskE l m=gEr l:=if_pos h5
  cases hg:getO l with
  | none=>
   have e2:mskL l m=[]:=by unfold mskL;rw[if_pos h5,hg]
   have e3:gEr l=40:=by unfold gEr;rw[hg]
   rw[e1,e2,e3];exact Mask_none l m w ht (ne5 h5) hl (zh e3)
  | some x=>
   obtain⟨b,t,p,pre,hlb,ha,hf,hbb,hw,hx⟩:=get_parts hg;have hlen:=len_parts hf;rw[←hlb]at hlen;have hx1:x.1.wi=((wideB b:Nat):Int):=by rw[hx];rfl
   have hx2:x.2.length=p.re.length-wideB b:=by rw[hx];simp
   have hwb:wideB b≤4:=by unfold wideB;omega
   have e2:mskL l m=turnM l m (1+pre.length) (wideB b):=by
    unfold mskL;rw[if_pos h5,hg];simp only;rw[hx1,Int.toNat_natCast]
    congr 1
    omega
   have e3:gEr l=0:=by unfold gEr;rw[hg]
   have e4:(gHd l).wi=((wideB b:Nat):Int):=by unfold gHd;rw[hg];exact hx1
   have e5:(gRs l).length=p.re.length-wideB b:=by unfold gRs;rw[hg];exact hx2
   rw[e1,e2,e3];exact Mask_some l m (1+pre.length) (wideB b) w ht (ne5 h5) (zh h5) hl (zh e3) (zh e4) (zh (by omega)) (by omega) (by omega) hwb
 ·have e1:mskE l m=1:=if_neg h5
  have e2:mskL l m=[]:=if_neg h5;rw[e1,e2];exact Mask_five l m w (ne5' h5)
theorem Unmask_five(l m:List UInt8)(w:World)(hm:(((m.length:Nat):Int) != 5)=true) :
 Calls Tryz.prog 99 #[.string ⟨l.toArray⟩,.string ⟨m.toArray⟩] w fun e w'=>e=.returned (.tuple #[.string ⟨#[]⟩,.int .i64 1])∧Below w.heap.size w w':=by
 go_enter Tryz.func99,Tryz.ntmps99;go_wp2
 go_ret2
 exact⟨rfl,Below.refl _ _⟩
theorem Unmask_none(l m:List UInt8)(w:World)(ht:Tab w)(hm:(((m.length:Nat):Int) != 5)=false)(hl:l.length≤140737488351232)(hE:Hid (plE l=40)) :
 Calls Tryz.prog 99 #[.string ⟨l.toArray⟩,.string ⟨m.toArray⟩] w fun e w'=>e=.returned (.tuple #[.string ⟨#[]⟩,.int .i64 40])∧Below w.heap.size w w':=by
 have HG:=zh (fun w (ht:Tab w)=>Place_any l w ht hl);have HT:=zh ht;clear ht;rw[hE.out]at HG;go_enter Tryz.func99,Tryz.ntmps99;go_wp2_with fail
 refine (HG.out _ HT.out).mono ?_;rintro e w1 ⟨rfl,hb⟩;go_wp2
 go_ret2
 exact⟨rfl,hb⟩
theorem first_M(l m:List UInt8)(w:World)(h0:0<l.length)(h1:0<m.length)(hl:l.length≤140737488351232)(hm:m.length≤140737488351232) :
 Calls Tryz.prog 130 #[.string ⟨l.toArray⟩,.string ⟨m.toArray⟩] w fun e w'=>e=.returned (.string ⟨[fstB (l.headD 0) (m.headD 0)].toArray⟩)∧Below w.heap.size w w':=
 turnedFirst_any l m _ _ w h0 h1 (head_get h0) (head_get h1) hl hm
theorem Unmask_short(l m:List UInt8)(p k:Nat)(w:World)(ht:Tab w)(hm:(((m.length:Nat):Int) != 5)=false)(hm5:Hid (m.length=5))(hl:l.length≤140737488351232)(h0:0<l.length)(hE:Hid (plE l=0))(hN:Hid (plN l=(p:Int)))(hK:Hid (umK l m=k))(hp:1≤p)(hpl:p≤l.length)(hs:((l.length:Nat):Int)-(p:Int)<(k:Int)) :
 Calls Tryz.prog 99 #[.string ⟨l.toArray⟩,.string ⟨m.toArray⟩] w fun e w'=>e=.returned (.tuple #[.string ⟨#[]⟩,.int .i64 40])∧Below w.heap.size w w':=by
 have HG:=zh (fun w (ht:Tab w)=>Place_any l w ht hl);rw[hE.out,hN.out]at HG;have HF:=zh (fun w=>first_M l m w h0 (by have:=hm5.out;omega) hl (by have:=hm5.out;omega));have HK:=hK.out;unfold umK at HK;generalize fstB (l.headD 0) (m.headD 0)=x at HF HK;have HW:=zh (fun w=>wideQ x.toNat k w x.toNat_lt (zh HK));have hk4:k≤4:=by omega
 replace HK:=zh HK;have hlt:=ht.lt;have HT:=zh ht;clear ht;go_enter Tryz.func99,Tryz.ntmps99;go_wp2_with fail
 refine (HG.out _ HT.out).mono ?_;rintro e w1 ⟨rfl,hb1⟩;replace HT:=zh (HT.out.below hb1 hlt);go_wp2_with fail
 refine (HF.out _).mono ?_;rintro e w2 ⟨rfl,hb2⟩;have hb12:=hb1.trans (hb2.mono hb1.size);replace HT:=zh (HT.out.below hb2 (Nat.lt_of_lt_of_le hlt hb1.size));clear hb1 hb2;go_wp2_with fail
 refine (HW.out _).mono ?_;rintro e w3 ⟨rfl,rfl⟩;go_wp2
 go_ret2
 exact⟨rfl,hb12⟩
theorem turnM_len(l m:List UInt8)(p k:Nat)(hp:1≤p)(hpk:p+k≤l.length)(hm5:m.length=5)(hk:k≤4):(turnM l m p k).length=l.length:=by
 unfold turnM turnL xorL;simp;omega
theorem Unmask_bad(l m:List UInt8)(p k:Nat)(w:World)(ht:Tab w)(hm:(((m.length:Nat):Int) != 5)=false)(hm5:Hid (m.length=5))(hl:l.length≤140737488351232)(h0:0<l.length)(hE:Hid (plE l=0))(hN:Hid (plN l=(p:Int)))(hK:Hid (umK l m=k))(hp:1≤p)(hpl:p≤l.length)(hs:p+k≤l.length)(hB:Hid (gEr (turnM l m p k)=40)) :
 Calls Tryz.prog 99 #[.string ⟨l.toArray⟩,.string ⟨m.toArray⟩] w fun e w'=>e=.returned (.tuple #[.string ⟨#[]⟩,.int .i64 40])∧Below w.heap.size w w':=by
 have HG:=zh (fun w (ht:Tab w)=>Place_any l w ht hl);rw[hE.out,hN.out]at HG;have HF:=zh (fun w=>first_M l m w h0 (by have:=hm5.out;omega) hl (by have:=hm5.out;omega));have HK:=hK.out;unfold umK at HK;generalize fstB (l.headD 0) (m.headD 0)=x at HF HK;have HW:=zh (fun w=>wideQ x.toNat k w x.toNat_lt (zh HK));have hk4:k≤4:=by omega
 replace HK:=zh HK;have HM:=zh (fun w=>turned_M l m p k w h0 hp hk4 (by omega) hm5.out hl);have HG2:=zh (fun w (ht:Tab w)=>Get_any (turnM l m p k) w ht (by rw[turnM_len l m p k hp (by omega) hm5.out hk4];exact hl));rw[hB.out]at HG2;have hol:(turnM l m p k).length≤140737488351232:=by rw[turnM_len l m p k hp (by omega) hm5.out hk4];exact hl
 generalize turnM l m p k=o at *;generalize gHd o=h at HG2;generalize gRs o=rs at HG2;obtain⟨lg,sp,ph,ty,ve,dc,sc,tk,le,wi,nu⟩:=h;have hlt:=ht.lt;have HT:=zh ht;clear ht;go_enter Tryz.func99,Tryz.ntmps99;go_wp2_with fail
 refine (HG.out _ HT.out).mono ?_;rintro e w1 ⟨rfl,hb1⟩;replace HT:=zh (HT.out.below hb1 hlt);go_wp2_with fail
 refine (HF.out _).mono ?_;rintro e w2 ⟨rfl,hb2⟩;have hb12:=hb1.trans (hb2.mono hb1.size);replace HT:=zh (HT.out.below hb2 (Nat.lt_of_lt_of_le hlt hb1.size));clear hb1 hb2;go_wp2_with fail
 refine (HW.out _).mono ?_;rintro e w3 ⟨rfl,rfl⟩;have hs2:¬((l.length:Nat):Int)-(p:Int)<(k:Int):=by omega
 go_wp2_with fail
 refine (HM.out _).mono ?_;rintro e w4 ⟨rfl,hb4⟩;have hb:=hb12.trans (hb4.mono hb12.size);replace HT:=zh (HT.out.below hb4 (Nat.lt_of_lt_of_le hlt hb12.size));clear hb12 hb4;go_wp2_with fail
 refine (HG2.out _ HT.out).mono ?_;rintro e w5 ⟨rfl,hb5⟩;have hb6:=hb.trans (hb5.mono hb.size);go_wp2
 go_ret2
 exact⟨rfl,hb6.alloc hb6.size _⟩
theorem Unmask_ok(l m:List UInt8)(p k:Nat)(w:World)(ht:Tab w)(hm:(((m.length:Nat):Int) != 5)=false)(hm5:Hid (m.length=5))(hl:l.length≤140737488351232)(h0:0<l.length)(hE:Hid (plE l=0))(hN:Hid (plN l=(p:Int)))(hK:Hid (umK l m=k))(hp:1≤p)(hpl:p≤l.length)(hs:p+k≤l.length)(hB:Hid (gEr (turnM l m p k)=0)) :
 Calls Tryz.prog 99 #[.string ⟨l.toArray⟩,.string ⟨m.toArray⟩] w fun e w'=>e=.returned (.tuple #[.string ⟨(turnM l m p k).toArray⟩,.int .i64 0])∧Below w.heap.size w w':=by
 have HG:=zh (fun w (ht:Tab w)=>Place_any l w ht hl);rw[hE.out,hN.out]at HG;have HF:=zh (fun w=>first_M l m w h0 (by have:=hm5.out;omega) hl (by have:=hm5.out;omega));have HK:=hK.out;unfold umK at HK;generalize fstB (l.headD 0) (m.headD 0)=x at HF HK;have HW:=zh (fun w=>wideQ x.toNat k w x.toNat_lt (zh HK));have hk4:k≤4:=by omega
 replace HK:=zh HK;have HM:=zh (fun w=>turned_M l m p k w h0 hp hk4 (by omega) hm5.out hl);have HG2:=zh (fun w (ht:Tab w)=>Get_any (turnM l m p k) w ht (by rw[turnM_len l m p k hp (by omega) hm5.out hk4];exact hl));rw[hB.out]at HG2;have hol:(turnM l m p k).length≤140737488351232:=by rw[turnM_len l m p k hp (by omega) hm5.out hk4];exact hl
 generalize turnM l m p k=o at *;generalize gHd o=h at HG2;generalize gRs o=rs at HG2;obtain⟨lg,sp,ph,ty,ve,dc,sc,tk,le,wi,nu⟩:=h;have hlt:=ht.lt;have HT:=zh ht;clear ht;go_enter Tryz.func99,Tryz.ntmps99;go_wp2_with fail
 refine (HG.out _ HT.out).mono ?_;rintro e w1 ⟨rfl,hb1⟩;replace HT:=zh (HT.out.below hb1 hlt);go_wp2_with fail
 refine (HF.out _).mono ?_;rintro e w2 ⟨rfl,hb2⟩;have hb12:=hb1.trans (hb2.mono hb1.size);replace HT:=zh (HT.out.below hb2 (Nat.lt_of_lt_of_le hlt hb1.size));clear hb1 hb2;go_wp2_with fail
 refine (HW.out _).mono ?_;rintro e w3 ⟨rfl,rfl⟩;have hs2:¬((l.length:Nat):Int)-(p:Int)<(k:Int):=by omega
 go_wp2_with fail
 refine (HM.out _).mono ?_;rintro e w4 ⟨rfl,hb4⟩;have hb:=hb12.trans (hb4.mono hb12.size);replace HT:=zh (HT.out.below hb4 (Nat.lt_of_lt_of_le hlt hb12.size));clear hb12 hb4;go_wp2_with fail
 refine (HG2.out _ HT.out).mono ?_;rintro e w5 ⟨rfl,hb5⟩;have hb6:=hb.trans (hb5.mono hb.size);go_wp2
 go_ret2
 exact⟨rfl,hb6.alloc hb6.size _⟩
theorem Unmask_any(l m:List UInt8)(w:World)(ht:Tab w)(hl:l.length≤140737488351232) :
 Calls Tryz.prog 99 #[.string ⟨l.toArray⟩,.string ⟨m.toArray⟩] w fun e w'=>e=.returned (.tuple #[.string ⟨(umL l m).toArray⟩,.int .i64 (umE l m)])∧Below w.heap.size w w':=by
 by_cases h5:m.length=5
 ·have e1:umE l m=match umO l m with
   | some x=>0
   | none=>40:=if_pos h5
  have e2:umL l m=match umO l m with
   | some x=>x
   | none=>[]:=if_pos h5
  cases l with
  | nil=>
   have e3:umO [] m=none:=rfl;rw[e1,e2,e3];exact Unmask_none [] m w ht (ne5 h5) hl (zh rfl)
  | cons b t=>
   cases ha:ahO (b::t) with
   | none=>
    have e3:umO (b::t) m=none:=by unfold umO;rw[ha]
    rw[e1,e2,e3];exact Unmask_none _ m w ht (ne5 h5) hl (zh (by unfold plE;rw[ha]))
   | some p=>
    obtain⟨pre,hf⟩:=ahO_local ha;have hlen:=len_parts hf;have hE:plE (b::t)=0:=by unfold plE;rw[ha]
    have hN:plN (b::t)=((1+pre.length:Nat):Int):=by unfold plN;rw[ha];simp only;omega
    have hpl:(b::t).length-p.re.length=1+pre.length:=by omega
    have h0:0<(b::t).length:=by simp
    generalize b::t=l at *
    have e3:umO l m=if p.re.length<umK l m then none else match getO (turnM l m (1+pre.length) (umK l m)) with
     | none=>none
     | some _=>some (turnM l m (1+pre.length) (umK l m)):=by unfold umO;rw[ha];simp only;rw[hpl];try(cases getO (turnM l m (1+pre.length) (umK l m))<;>rfl)
    by_cases hs:p.re.length<umK l m
    ·rw[e1,e2,e3,if_pos hs]
     exact Unmask_short l m (1+pre.length) (umK l m) w ht (ne5 h5) (zh h5) hl h0 (zh hE) (zh hN) (zh rfl) (by omega) (by omega) (by omega)
    ·rw[e1,e2,e3,if_neg hs]
     cases hg:getO (turnM l m (1+pre.length) (umK l m)) with
     | none=>exact Unmask_bad l m (1+pre.length) (umK l m) w ht (ne5 h5) (zh h5) hl h0 (zh hE) (zh hN) (zh rfl) (by omega) (by omega) (by omega) (zh (by unfold gEr;rw[hg]))
     | some x=>exact Unmask_ok l m (1+pre.length) (umK l m) w ht (ne5 h5) (zh h5) hl h0 (zh hE) (zh hN) (zh rfl) (by omega) (by omega) (by omega) (zh (by unfold gEr;rw[hg]))
 ·have e1:umE l m=1:=if_neg h5
  have e2:umL l m=[]:=if_neg h5;rw[e1,e2];exact Unmask_five l m w (ne5' h5)
def putL (lg sp ph:Bool) (ty ve:Int) (dc sc tk:List UInt8) (le wi nu:Int):List UInt8:=
 by1 (fbN lg sp ph ty wi)::(if lg then lpL ty ve dc sc tk le else dc)++fx nu.toNat wi.toNat
theorem may_parts{lg sp ph:Bool}{ty ve:Int}{dc sc tk:List UInt8}{le wi nu:Int}(h:mayB lg sp ph ty ve dc sc tk le wi nu=true):keptB lg sp ph ty ve sc tk le=true∧bndB lg ty dc sc tk le=true∧1≤wi∧wi≤4∧nu<256^wi.toNat:=by
 unfold mayB at h;simp only[Bool.and_eq_true]at h;have h2:=h.2;unfold numB at h2;have:=of_decide_eq_true h2;exact⟨h.1.1,h.1.2,this⟩
theorem bnd_parts{ty:Int}{dc sc tk:List UInt8}{le:Int}(h:bndB true ty dc sc tk le=true):0≤ty∧ty≤2∧dc.length≤20∧sc.length≤20∧tk.length≤1000∧le≤4611686018427387903:=by
 unfold bndB at h;rw[if_pos rfl]at h;exact of_decide_eq_true h
theorem bnd_short{ty:Int}{dc sc tk:List UInt8}{le:Int}(h:bndB false ty dc sc tk le=true):dc.length=8:=by
 unfold bndB at h;rw[if_neg (by decide)]at h;exact of_decide_eq_true h
theorem Put_yes(lg sp ph:Bool)(ty ve:Int)(dc sc tk:List UInt8)(le wi nu:Int)(w:World)(ht:Tab w)(wty:-9223372036854775808≤ty)(wty2:ty≤9223372036854775807)(wve:0≤ve)(wve2:ve≤4294967295)(wdc:dc.length≤9223372036854775807)(wsc:sc.length≤9223372036854775807)(wtk:tk.length≤9223372036854775807)(wle:0≤le)(wle2:le≤18446744073709551615)(wwi:-9223372036854775808≤wi)(wwi2:wi≤9223372036854775807)(wnu:0≤nu)(wnu2:nu≤18446744073709551615)(EM:mayB lg sp ph ty ve dc sc tk le wi nu=true) :
 Calls Tryz.prog 54 #[.agg #[.bool lg,.bool sp,.bool ph,.int .i64 ty,.int .u32 ve,.string ⟨dc.toArray⟩,.string ⟨sc.toArray⟩,.string ⟨tk.toArray⟩,.int .u64 le,.int .i64 wi,.int .u64 nu]] w fun e w'=>e=.returned (.tuple #[.string ⟨(putL lg sp ph ty ve dc sc tk le wi nu).toArray⟩,.int .i64 0])∧Below w.heap.size w w':=by
 have hp:=may_parts EM
 cases lg with
 | true=>
  have hb:=bnd_parts hp.2.1;exact put_l sp ph ty ve dc sc tk le wi nu w ht wty wty2 wve wve2 wdc wsc wtk wle wle2 wwi wwi2 wnu wnu2 (zh EM) hp.2.2.1 hp.2.2.2.1 hb.1 hb.2.1 hb.2.2.1 hb.2.2.2.1 hb.2.2.2.2.1
 | false=>
  have hb:=bnd_short hp.2.1;exact put_s sp ph ty ve dc sc tk le wi nu w ht wty wty2 wve wve2 wdc wsc wtk wle wle2 wwi wwi2 wnu wnu2 (zh EM) hp.2.2.1 hp.2.2.2.1 (by omega)
end Go.Proofs.YtagbkmoahflfdaaGreatDoor.Hd
