import Derived.Test.YtagbkmoahflfdaaGreatDoorJp11
import Derived.SliceStrings
import Derived.SizedLaws
import Derived.Test.YtagbkmoahflfdaaGreatDoorJp01
import Derived.Test.YtagbkmoahflfdaaGreatDoorJp09
import Derived.Test.YtagbkmoahflfdaaGreatDoorJp07
import Derived.Deep.RegionHeld3
set_option maxRecDepth 20000
set_option linter.unusedVariables false
set_option linter.unusedSimpArgs false
set_option maxHeartbeats 8000000
namespace Go.Proofs.YtagbkmoahflfdaaGreatDoor.Dg
open Go.RowKit
def ArgS (w:World) (a:Option Addr) (len cap:Nat) (xs:List ByteArray):Prop:=
 xs.length=len∧len≤cap∧len≤140737488355328∧(∀s ∈ xs,s.size≤140737488355328)∧(xs≠[]→∃b o,a=some ⟨b,o,none⟩∧RowS w b o xs)
theorem ArgS.nil{w:World}{a:Option Addr}{len cap:Nat}{xs:List ByteArray}(h:ArgS w a len cap xs)(hx:xs=[]):len=0:=by
 rw[←h.1,hx];rfl
theorem ArgS.keep{w w':World}{a:Option Addr}{len cap:Nat}{xs:List ByteArray}(h:ArgS w a len cap xs)(hb:Below w.heap.size w w'):ArgS w' a len cap xs:=
 ⟨h.1,h.2.1,h.2.2.1,h.2.2.2.1,fun hne=>by
  obtain⟨b,o,ha,hr⟩:=h.2.2.2.2 hne
  exact⟨b,o,ha,hr.below hb hr.1⟩⟩
end Go.Proofs.YtagbkmoahflfdaaGreatDoor.Dg
namespace Go.Proofs.YtagbkmoahflfdaaGreatDoor.Kd
open Tk Go.RowKit Go.Proofs.YtagbkmoahflfdaaGreatDoor.Dg
open Go.Proofs.YtagbkmoahflfdaaGreatDoor.Vm (fx fx_length vfixed)
set_option linter.unusedVariables false
set_option linter.unusedSimpArgs false
theorem join_row(b o c:Nat)(xs:List ByteArray)(W:World)(hr:RowS W b o xs)(hn:xs.length≤140737488355328)(hc:xs.length≤c)(hl:(cat xs).length≤140737488355328) :
 Calls Tryz.prog 142 #[.slice (some ⟨b,o,none⟩) xs.length c,.string ⟨#[]⟩] W fun e w'=>e=.returned (.string ⟨(cat xs).toArray⟩)∧Below W.heap.size W w':=by
 have hj:Lib.join (xs.map (·.data.toList)) (⟨#[]⟩:ByteArray).data.toList=cat xs:=join_cat _;have h:=Tryz.strings_Join b o c xs ⟨#[]⟩ W hr.2 hr.1 hn hc (by rw[hj];exact hl);rw[hj]at h;exact h
theorem join_new(xs:List ByteArray)(cs:Array Value)(hcs:cs=(xs.map Value.string).toArray)(n:Nat)(hn:xs.length=n)(hn2:n≤1000)(l:List UInt8)(hc:cat xs=l)(hl:l.length≤100000)(W W':World)(g:Nat)(hg:g=W.heap.size)
 (hb:Below (W.alloc (.cells cs 9)).heap.size (W.alloc (.cells cs 9)) W') :
 Calls Tryz.prog 142 #[.slice (some ⟨g,0,none⟩) n n,.string ⟨#[]⟩] W' fun e w'=>e=.returned (.string ⟨l.toArray⟩)∧Below W'.heap.size W' w':=by
 subst hg hn hc;have hr:=(rows_made W cs xs hcs 9).below hb (by simp);exact join_row W.heap.size 0 xs.length xs W' hr (by omega) zle (by omega)
theorem mac_of(k l:List UInt8)(vs:Value)(w:World)(hk:k.length≤100000)(hl:l.length≤50000)
 (CJ:Hid (∀W:World,Below w.heap.size w W→Calls Tryz.prog 142 #[vs,.string ⟨#[]⟩] W fun e w'=>e=.returned (.string ⟨l.toArray⟩)∧Below W.heap.size W w')) :
 Calls Tryz.prog 114 #[.string ⟨k.toArray⟩,vs] w fun e w'=>e=.returned (.string ⟨(mac k l).toArray⟩)∧Below w.heap.size w w':=by
 have C1:=zh (fun W=>macOf_list k W hk)
 have C2:Hid (∀W:World,Below w.heap.size w W→Calls Tryz.prog 145 #[.agg #[.string ⟨(ko k).toArray⟩,.string ⟨(ki k).toArray⟩],vs] W fun e w'=>e=.returned (.string ⟨(mac k l).toArray⟩)∧Below W.heap.size W w'):=zh (fun W hW=>
  of_of ⟨(ko k).toArray⟩ ⟨(ki k).toArray⟩ vs l (mac k l) W (by show (ko k).length≤_;rw[ko_len];omega) (by show (ki k).length≤_;rw[ki_len];omega) hl rfl (zh fun W' hW'=>CJ.out W' (hW.trans (hW'.mono hW.size))))
 generalize mac k l=M at *;generalize ko k=KO at *;generalize ki k=KI at *;clear CJ;go_enter Tryz.func114,Tryz.ntmps114;go_wp2_with fail
 with_reducible refine (C1.out _).mono ?_
 rintro e w1 ⟨rfl,hb⟩;have HB1:=zh hb;clear hb;go_wp2_with fail
 with_reducible refine (C2.out _ HB1.out).mono ?_
 rintro e w2 ⟨rfl,hb⟩;have HB2:=zh (HB1.out.trans (hb.mono HB1.out.size));clear hb;go_wp2
 go_ret
 exact⟨rfl,HB2.out⟩
theorem inf_secret:(Tryz.prog.info? 82).map (·.size)=some 2:=by kernel_rfl
theorem secretOf_any(k:List UInt8)(w:World)(hk:k.length≤100000) :
 Calls Tryz.prog 41 #[.string ⟨k.toArray⟩] w fun e w'=>e=.returned (.agg #[.string ⟨(ko k).toArray⟩,.string ⟨(ki k).toArray⟩])∧Below w.heap.size w w':=by
 have C1:=zh (fun W=>macOf_list k W hk);generalize ko k=KO at *;generalize ki k=KI at *;go_enter Tryz.func41,Tryz.ntmps41;go_wp2_with fail
 with_reducible refine (C1.out _).mono ?_
 rintro e w1 ⟨rfl,hb⟩;have HB1:=zh (((Below.refl w.heap.size w).alloc zle (.cells #[.string ⟨#[]⟩,.string ⟨#[]⟩] 82)).trans (hb.mono (by simp)));have HZ1:Hid (w1.heap[w.heap.size]?=some (.cells #[.string ⟨#[]⟩,.string ⟨#[]⟩] 82 (0,0))):=zh ((hb.block w.heap.size (by simp)).trans (heap_alloc_new w _));have hz0:w1.cell? ⟨w.heap.size,0,none⟩=some (.string ⟨#[]⟩):=by rw[Lib.cell_of_heap HZ1.out];rfl
 have hz1:w1.cell? ⟨w.heap.size,1,none⟩=some (.string ⟨#[]⟩):=by rw[Lib.cell_of_heap HZ1.out];rfl
 have hf:∀j,w1.frozen? ⟨w.heap.size,j,none⟩=false:=fun j=>Lib.frozen_of_heap HZ1.out j
 clear hb;go_wp2_with fail
 exact bodyPost_ret (v:=.agg #[.string ⟨KO.toArray⟩,.string ⟨KI.toArray⟩]) (results_cell_row Tryz.results41 _ _ w.heap.size _ _ _ _ rfl (two_put HZ1.out) Tryz.underlying82 rfl inf_secret) rfl ⟨rfl,Below.setCell (p:=⟨w.heap.size,1,none⟩) (Below.setCell (p:=⟨w.heap.size,0,none⟩) HB1.out zle _) zle _⟩
theorem counted_any(s:List UInt8)(w:World)(hs:s.length≤100000):Calls Tryz.prog 110 #[.string ⟨s.toArray⟩] w fun e w'=>e=.returned (.string ⟨(cnt s).toArray⟩)∧Below w.heap.size w w':=by
 obtain⟨n,hn⟩:∃n,s.length=n:=⟨_,rfl⟩;have C1:Hid (∀W:World,Calls Tryz.prog 88 #[.int .u64 n,.int .i64 1] W fun e w'=>e=.returned (.string ⟨(fx n 1).toArray⟩)∧Below W.heap.size W w'):=zh (fun W=>vfixed n 1 W (by omega) (by decide) (by decide));have hsz:(⟨s.toArray⟩:ByteArray).size=n:=hn;have hc:(⟨(fx n 1).toArray⟩:ByteArray)++⟨s.toArray⟩=⟨(cnt s).toArray⟩:=by rw[app_two,←hn];rfl
 have hf:(⟨(fx n 1).toArray⟩:ByteArray).size=1:=fx_length n 1;have hw:IntKind.u64.wrap (n:Int)=(n:Int):=by rw[IntKind.wrap_u64];omega
 have g1:¬9223372036854775807<1+n:=by omega
 generalize cnt s=C at *;generalize fx n 1=F at *;clear hs;go_enter Tryz.func110,Tryz.ntmps110;go_wp2_with fail
 with_reducible refine (C1.out _).mono ?_
 rintro e w1 ⟨rfl,hb⟩;have HB1:=zh hb;clear hb;go_wp2
 go_ret
 exact⟨rfl,HB1.out⟩
open Go.Proofs.YtagbkmoahflfdaaGreatDoor.Vm (fx fx_length vfixed)
set_option linter.unusedVariables false
set_option linter.unusedSimpArgs false
theorem ib_keep{T e:TypeId}{B b:Nat}{bs:List Value}{w w':World}(h:Lib.IsBuilder T e B b bs w)(hb:Below w.heap.size w w'):Lib.IsBuilder T e B b bs w':=by
 have k:∀p,Lib.BuilderAt T e B b p bs w→Lib.BuilderAt T e B b p bs w':=by
  rintro p ⟨h1,v,h2,h3,h4⟩;refine⟨h1,v,by rw[hb.block b (Array.getElem?_eq_some_iff.1 h2).1];exact h2,?_,h4⟩
  exact h3.kept (row:=none) ⟨hb.os,hb.tape,hb.output,hb.size,fun k hk _=>hb.block k hk⟩ (by
   cases hv:v.ownBlock with
   | none=>exact .inl rfl
   | some g=>exact .inr (by intro e;cases e))
 exact h.imp (k _) (k _)
theorem two_below{b q r B:Nat}{v u:Value}{w w':World}(h:w.cell? ⟨b,q,none⟩=some v∧w.cell? ⟨b,r,none⟩=some u)(hb:Below B w w')(hB:b<B):w'.cell? ⟨b,q,none⟩=some v∧w'.cell? ⟨b,r,none⟩=some u:=
 ⟨(hb.cell (p:=⟨b,q,none⟩) hB).trans h.1,(hb.cell (p:=⟨b,r,none⟩) hB).trans h.2⟩
theorem strCells_of(l:List UInt8):Lib.strCells ⟨l.toArray⟩=Lib.byteCells l:=by
 simp[Lib.strCells,Lib.byteCells]
theorem cat_3(a b c:List UInt8):cat [⟨a.toArray⟩,⟨b.toArray⟩,⟨c.toArray⟩]=a++b++c:=by simp[cat]
theorem expanded_of(O I info:List UInt8)(n:Nat)(vs:Value)(w:World)(hO:O.length≤100)(hI:I.length≤100)(hi:info.length≤10000)(hn:n≤8160)
 (CJ:Hid (∀W:World,Below w.heap.size w W→Calls Tryz.prog 142 #[vs,.string ⟨#[]⟩] W fun e w'=>e=.returned (.string ⟨info.toArray⟩)∧Below W.heap.size W w')) :
 Calls Tryz.prog 109 #[.agg #[.string ⟨O.toArray⟩,.string ⟨I.toArray⟩],.int .i64 n,vs] w fun e w'=>e=.returned (.string ⟨(exq O I info n).toArray⟩)∧Below w.heap.size w w':=by
 have HW0:Hid (Below w.heap.size w (w.alloc (.cells #[.string ⟨O.toArray⟩,.string ⟨I.toArray⟩] 82))):=zh ((Below.refl _ _).alloc zle _)
 have HT0:Hid ((w.alloc (.cells #[.string ⟨O.toArray⟩,.string ⟨I.toArray⟩] 82)).cell? ⟨w.heap.size,0,none⟩=some (.string ⟨O.toArray⟩)∧(w.alloc (.cells #[.string ⟨O.toArray⟩,.string ⟨I.toArray⟩] 82)).cell? ⟨w.heap.size,1,none⟩=some (.string ⟨I.toArray⟩)):=zh (by constructor<;>simp[go_sem])
 obtain⟨M,hM⟩:∃M,(n+31)/32=M:=⟨_,rfl⟩;have hMn:n≤32*M:=by omega
 have HX:Hid (exq O I info n=(outs O I info M).take n):=zh (by unfold exq;rw[hM]);have HMM:=zh hM;generalize exq O I info n=X at *;clear hM;have hni:(n:Int)≤8160:=by omega
 go_enter Tryz.func109,Tryz.ntmps109;go_wp2_with fail
 with_reducible refine (CJ.out _ HW0.out).mono ?_
 rintro e w1 ⟨rfl,hb1⟩;have HB1:=zh (HW0.out.trans (hb1.mono HW0.out.size));have HT1:=zh (two_alloc (two_call HT0.out hb1) (.cells #[.pointer none,.slice none 0 0] 68));have HIB:=zh (Lib.fresh_isBuilder 68 5 w1);have hs1:=HB1.out.size;have hlt0:w.heap.size<w1.heap.size:=by have:=hb1.size;simp at this;omega
 have HBA:=zh (HB1.out.alloc (B:=w.heap.size) hs1 (.cells #[.pointer none,.slice none 0 0] 68));have hbw:w1.heap.size≤(w1.alloc (.cells #[.pointer none,.slice none 0 0] 68)).heap.size:=by simp
 clear hb1 HT0 HW0 CJ;go_wp2_with fail
 go_loopw [9,10] (fun lv kv wr=>∃i:Nat,i≤M∧lv=.string ⟨(tk O I info i).toArray⟩∧kv=.int .u64 (i+1:Nat)∧Lib.IsBuilder 68 5 w1.heap.size w1.heap.size (Lib.byteCells (outs O I info i)) wr∧(wr.cell? ⟨w.heap.size,0,none⟩=some (.string ⟨O.toArray⟩)∧wr.cell? ⟨w.heap.size,1,none⟩=some (.string ⟨I.toArray⟩))∧Below w.heap.size w wr∧w1.heap.size≤wr.heap.size) (fun _ kv _=>M+1-(intOf kv).toNat)
 case atStart=>exact⟨0,Nat.zero_le _,rfl,rfl,HIB.out,HT1.out,HBA.out,hbw⟩
 case round=>
  clear HIB HT1 HBA hbw HB1;generalize w1.heap.size=b at *;obtain⟨i,hi2,rfl,rfl,hIB,hT,hB,hbr⟩:=hrel;have HI:=zh hIB;have HT:=zh hT;have HBr:=zh hB;have hL:(Lib.byteCells (outs O I info i)).length=32*i:=by rw[byteCells_len,outs_len]
  have hM300:M≤255:=by have:=HMM.out;omega
  have hlenr:=Tryz.Builder_Len b b (Lib.byteCells (outs O I info i)) wr hIB;rw[hL]at hlenr;have HLEN:=zh hlenr;clear hlenr hIB hT hB;by_cases hlt:32*i<n
  ·have hiM:i<M:=by have:=HMM.out;omega
   have hlti:(((32*i:Nat):Int))<(n:Int):=by omega
   have CF:Hid (∀W:World,Calls Tryz.prog 88 #[.int .u64 (i+1:Nat),.int .i64 1] W fun e w'=>e=.returned (.string ⟨(fx (i+1) 1).toArray⟩)∧Below W.heap.size W w'):=zh (fun W=>vfixed (i+1) 1 W (by omega) (by decide) (by decide));have hT1:=tk_len O I info i
   have CO:Hid (∀W:World,Calls Tryz.prog 145 #[.agg #[.string ⟨O.toArray⟩,.string ⟨I.toArray⟩],.slice (some ⟨W.heap.size,0,none⟩) 3 3] (W.alloc (.cells #[.string ⟨(tk O I info i).toArray⟩,.string ⟨info.toArray⟩,.string ⟨(fx (i+1) 1).toArray⟩] 9)) fun e w'=>e=.returned (.string ⟨(tk O I info (i+1)).toArray⟩)∧Below W.heap.size W w'):=zh (fun W=>by
    have hf:(fx (i+1) 1).length=1:=fx_length _ _;have hlen:(tk O I info i++info++fx (i+1) 1).length≤50000:=by rw[List.length_append,List.length_append,hf];omega
    refine (of_of ⟨O.toArray⟩ ⟨I.toArray⟩ _ (tk O I info i++info++fx (i+1) 1) (tk O I info (i+1)) _ hO hI hlen rfl (zh fun W' hW'=>join_new [⟨(tk O I info i).toArray⟩,⟨info.toArray⟩,⟨(fx (i+1) 1).toArray⟩] _ rfl 3 rfl (by omega) _ (cat_3 _ _ _) (by omega) W W' W.heap.size rfl hW')).mono ?_;rintro e w' ⟨h1,h2⟩
    exact⟨h1,((Below.refl _ _).alloc zle _).trans (h2.mono (by simp))⟩)
   have HOS:Hid (Lib.byteCells (outs O I info (i+1))=Lib.byteCells (outs O I info i)++Lib.strCells ⟨(tk O I info (i+1)).toArray⟩):=zh (by rw[strCells_of,←byteCells_app];rfl);have ht2:(⟨(tk O I info (i+1)).toArray⟩:ByteArray).size=32:=hm_len _ _ _;obtain⟨T2,hT2⟩:∃T2,tk O I info (i+1)=T2:=⟨_,rfl⟩;rw[hT2]at CO HOS ht2;have HT2E:=zh hT2;clear hT2;generalize tk O I info i=T1 at *;generalize fx (i+1) 1=F1 at *;obtain⟨q,hq⟩:∃q,32*i=q:=⟨_,rfl⟩;obtain⟨k1,hk1⟩:∃k1,i+1=k1:=⟨_,rfl⟩;rw[hq]at HLEN hlti hL;rw[hk1]at CF ⊢;have HQ:=zh hq;have HK1:=zh hk1;have hk256:k1≤256:=by omega
   have hq1:q≤8160:=by omega
   clear hq hk1 hlt;go_wp2_with fail
   refine HLEN.out.mono ?_;rintro e w' ⟨rfl,hw'⟩;rw[hw'];clear HLEN hw';go_wp2_with fail
   refine wp_region_noPanic ?_;refine wp_region_held_drew (S:=fun w':World=>w'.cell? ⟨w.heap.size,0,none⟩=some (.string ⟨O.toArray⟩)∧w'.cell? ⟨w.heap.size,1,none⟩=some (.string ⟨I.toArray⟩)) (by kernel_rfl) ?_ (fun hHeld=>?_)
   ·exact (show wr.cell? _=_∧wr.cell? _=_ from HT.out)
   iterate 5
    refine zqb [0,1,2,3,4] rfl rfl ?_ ?_ ?_;rotate_left
    ·(intro w hSw;(obtain⟨hS0,hS1⟩:=hSw);go_simp;(try with_reducible rfl))
    try simp only[Act.put,J1,J2,J3,J4,J5,J6]
   refine zqf [5] (AllReadyH.cons rfl (fun K hK=>?_) AllReadyH.nil);rw[if_pos (by rfl)];go_simp;with_reducible refine (CF.out _).mono ?_
   rintro e w2 ⟨rfl,hb2⟩;have HT2:=zh (two_call (show wr.drew.cell? _=_∧wr.drew.cell? _=_ from HT.out) hb2);have HI2:=zh (ib_keep (show Lib.IsBuilder 68 5 b b _ wr.drew from HI.out) hb2);have HB2:=zh ((below_drew HBr.out).trans (hb2.mono HBr.out.size));have hs2:wr.heap.size≤w2.heap.size:=hb2.size;clear hb2;refine hK.out _ _ ?_ (fun hHeld=>?_)
   ·exact HT2.out
   clear hK K
   try simp only[Act.put,J1,J2,J3,J4,J5,J6]
   refine zqf [6] (AllReadyH.cons rfl (fun K hK=>?_) AllReadyH.nil);rw[if_pos (by rfl)];go_simp;refine hK.out _ _ ?_ (fun hHeld=>?_)
   ·exact two_alloc HT2.out _
   clear hK K
   try simp only[Act.put,J1,J2,J3,J4,J5,J6]
   refine zqf [7] (AllReadyH.cons rfl (fun K hK=>?_) AllReadyH.nil);rw[if_pos (by rfl)];go_simp;with_reducible refine (CO.out w2).mono ?_
   rintro e w3 ⟨rfl,hb3⟩;have HT3:=zh (two_call HT2.out hb3);have HI3:=zh (ib_keep HI2.out hb3);have HB3:=zh (HB2.out.trans (hb3.mono HB2.out.size));have hs3:=hb3.size;clear hb3;refine hK.out _ _ ?_ (fun hHeld=>?_)
   ·exact HT3.out
   clear hK K
   try simp only[Act.put,J1,J2,J3,J4,J5,J6]
   refine zqa 8 rfl ?_ ?_ ?_;rotate_left
   ·(intro w hSw;(obtain⟨hS0,hS1⟩:=hSw);go_simp;(try with_reducible rfl))
   try simp only[Act.put,J1,J2,J3,J4,J5,J6]
   refine zqe (NoPanic.normal ?_);go_wp2_with fail
   refine (Bld.writeString b b _ _ _ HI3.out (by rw[hL];rw[ht2];omega) (by omega)).mono ?_;rintro e w4 ⟨rfl,h4,hb4⟩;rw[←HOS.out]at h4;have HI4:=zh h4;have HT4:=zh (two_below HT3.out hb4 hlt0);have HB4:=zh (HB3.out.trans (hb4.mono (by omega)));have hs4:=hb4.size;clear h4 hb4;go_wp2
   go_roundw
   case rel=>exact⟨k1,by have:=HK1.out;omega,by rw[←HK1.out,HT2E.out],by go_num,by rw[←HK1.out];exact HI4.out,HT4.out,HB4.out,by omega⟩
   case measure=>simp[intOf];have:=HK1.out;omega
  ·have hiM:i=M:=by have:=HMM.out;omega
   have hlti:¬(((32*i:Nat):Int))<(n:Int):=by omega
   subst hiM;have HSTR:=zh (Tryz.Builder_String_any b b (outs O I info i) wr HI.out hbr);obtain⟨Y,hY⟩:∃Y:ByteArray,⟨(outs O I info i).toArray⟩=Y:=⟨_,rfl⟩;have hYs:Y.size=32*i:=by rw[←hY];exact outs_len O I info i
   have HYX:Hid (Y.extract 0 n=⟨X.toArray⟩):=zh (by rw[←hY,HX.out];exact sv_to _ n);rw[hY]at HSTR;obtain⟨q,hq⟩:∃q,32*i=q:=⟨_,rfl⟩;rw[hq]at HLEN hlti hL hYs;have hnq:(n:Int)≤(q:Int):=by omega
   clear hY hq hlt;go_wp2_with fail
   refine HLEN.out.mono ?_;rintro e w' ⟨rfl,hw'⟩;rw[hw'];clear HLEN hw';go_wp2_with fail
   refine HSTR.out.mono ?_;rintro e w5 ⟨rfl,hb5⟩;have HB5:=zh (HBr.out.trans (hb5.mono (by omega)));clear hb5 HSTR;go_wp2
   go_ret
   exact⟨by rw[←HYX.out];rfl,HB5.out⟩
open Go.Proofs.YtagbkmoahflfdaaGreatDoor.Vm (fx fx_length vfixed)
set_option linter.unusedVariables false
set_option linter.unusedSimpArgs false
theorem labelled_of(O I label ctx:List UInt8)(n:Nat)(w:World)(hO:O.length≤100)(hI:I.length≤100)(hl:label.length≤1000)(hc:ctx.length≤1000)(hn:n≤8160) :
 Calls Tryz.prog 76 #[.agg #[.string ⟨O.toArray⟩,.string ⟨I.toArray⟩],.string ⟨label.toArray⟩,.string ⟨ctx.toArray⟩,.int .i64 n] w fun e w'=>e=.returned (.string ⟨(lab O I label ctx n).toArray⟩)∧Below w.heap.size w w':=by
 have HB0:Hid (Below w.heap.size w (w.alloc (.cells #[.string ⟨O.toArray⟩,.string ⟨I.toArray⟩] 82)).drew):=zh (below_drew ((Below.refl _ _).alloc zle _))
 have HT0:Hid ((w.alloc (.cells #[.string ⟨O.toArray⟩,.string ⟨I.toArray⟩] 82)).drew.cell? ⟨w.heap.size,0,none⟩=some (.string ⟨O.toArray⟩)∧(w.alloc (.cells #[.string ⟨O.toArray⟩,.string ⟨I.toArray⟩] 82)).drew.cell? ⟨w.heap.size,1,none⟩=some (.string ⟨I.toArray⟩)):=zh (by constructor<;>simp[go_sem])
 have CF:Hid (∀W:World,Calls Tryz.prog 88 #[.int .u64 n,.int .i64 2] W fun e w'=>e=.returned (.string ⟨(fx n 2).toArray⟩)∧Below W.heap.size W w'):=zh (fun W=>vfixed n 2 W (by omega) (by decide) (by decide));have hw:IntKind.u64.wrap (n:Int)=(n:Int):=by rw[IntKind.wrap_u64];omega
 have htl:(tls++label).length=6+label.length:=by rw[List.length_append];rfl
 have CC1:=zh (fun W=>counted_any (tls++label) W (by rw[htl];omega));have CC2:=zh (fun W=>counted_any ctx W (by omega));have hil:=inf_len label ctx n
 have CX:Hid (∀W:World,Calls Tryz.prog 109 #[.agg #[.string ⟨O.toArray⟩,.string ⟨I.toArray⟩],.int .i64 n,.slice (some ⟨W.heap.size,0,none⟩) 3 3] (W.alloc (.cells #[.string ⟨(fx n 2).toArray⟩,.string ⟨(cnt (tls++label)).toArray⟩,.string ⟨(cnt ctx).toArray⟩] 9)) fun e w'=>e=.returned (.string ⟨(lab O I label ctx n).toArray⟩)∧Below W.heap.size W w'):=zh (fun W=>by
  refine (expanded_of O I (inf label ctx n) n _ _ hO hI (by omega) hn (zh fun W' hW'=>join_new [⟨(fx n 2).toArray⟩,⟨(cnt (tls++label)).toArray⟩,⟨(cnt ctx).toArray⟩] _ rfl 3 rfl (by omega) _ (cat_3 _ _ _) (by show (inf label ctx n).length≤_;omega) W W' W.heap.size rfl hW')).mono ?_;rintro e w' ⟨h1,h2⟩
  exact⟨h1,((Below.refl _ _).alloc zle _).trans (h2.mono (by simp))⟩)
 have hcat:(⟨#[116,108,115,49,51,32]⟩:ByteArray)++⟨label.toArray⟩=⟨(tls++label).toArray⟩:=app_two tls label;have hls:(⟨label.toArray⟩:ByteArray).size=label.length:=rfl;have g1:¬9223372036854775807<6+label.length:=by omega
 generalize lab O I label ctx n=X at *;generalize tls++label=TL at *;generalize cnt TL=C1 at *;generalize cnt ctx=C2 at *;generalize fx n 2=F at *;clear hil htl;go_enter Tryz.func76,Tryz.ntmps76;go_wp2;refine wp_region_noPanic ?_;refine wp_region_held_drew (S:=fun w':World=>w'.cell? ⟨w.heap.size,0,none⟩=some (.string ⟨O.toArray⟩)∧w'.cell? ⟨w.heap.size,1,none⟩=some (.string ⟨I.toArray⟩)) (by kernel_rfl) ?_ (fun hHeld=>?_)
 ·exact HT0.out
 iterate 7
  refine zqb [0,1,2,3,5,6,8] rfl rfl ?_ ?_ ?_;rotate_left
  ·(intro w hSw;(obtain⟨hS0,hS1⟩:=hSw);go_simp;(try with_reducible rfl))
  try simp only[Act.put,J1,J2,J3,J4,J5,J6]
 refine zqf [4] (AllReadyH.cons rfl (fun K hK=>?_) AllReadyH.nil);rw[if_pos (by rfl)];go_simp;with_reducible refine (CF.out _).mono ?_
 rintro e w1 ⟨rfl,hb1⟩;have HT1:=zh (two_call HT0.out hb1);have HB1:=zh (HB0.out.trans (hb1.mono HB0.out.size));clear hb1;refine hK.out _ _ ?_ (fun hHeld=>?_)
 ·exact HT1.out
 clear hK K
 try simp only[Act.put,J1,J2,J3,J4,J5,J6]
 refine zqf [7] (AllReadyH.cons rfl (fun K hK=>?_) AllReadyH.nil);rw[if_pos (by rfl)];go_simp;with_reducible refine (CC1.out _).mono ?_
 rintro e w2 ⟨rfl,hb2⟩;have HT2:=zh (two_call HT1.out hb2);have HB2:=zh (HB1.out.trans (hb2.mono HB1.out.size));clear hb2;refine hK.out _ _ ?_ (fun hHeld=>?_)
 ·exact HT2.out
 clear hK K
 try simp only[Act.put,J1,J2,J3,J4,J5,J6]
 refine zqf [9] (AllReadyH.cons rfl (fun K hK=>?_) AllReadyH.nil);rw[if_pos (by rfl)];go_simp;with_reducible refine (CC2.out _).mono ?_
 rintro e w3 ⟨rfl,hb3⟩;have HT3:=zh (two_call HT2.out hb3);have HB3:=zh (HB2.out.trans (hb3.mono HB2.out.size));clear hb3;refine hK.out _ _ ?_ (fun hHeld=>?_)
 ·exact HT3.out
 clear hK K
 try simp only[Act.put,J1,J2,J3,J4,J5,J6]
 refine zqf [10] (AllReadyH.cons rfl (fun K hK=>?_) AllReadyH.nil);rw[if_pos (by rfl)];go_simp;refine hK.out _ _ ?_ (fun hHeld=>?_)
 ·exact two_alloc HT3.out _
 clear hK K
 try simp only[Act.put,J1,J2,J3,J4,J5,J6]
 refine zqf [11] (AllReadyH.cons rfl (fun K hK=>?_) AllReadyH.nil);rw[if_pos (by rfl)];go_simp;with_reducible refine (CX.out w3).mono ?_
 rintro e w4 ⟨rfl,hb4⟩;have HT4:=zh (two_call HT3.out hb4);have HB4:=zh (HB3.out.trans (hb4.mono HB3.out.size));clear hb4;refine hK.out _ _ ?_ (fun hHeld=>?_)
 ·exact HT4.out
 clear hK K
 try simp only[Act.put,J1,J2,J3,J4,J5,J6]
 refine zqa 12 rfl ?_ ?_ ?_;rotate_left
 ·(intro w hSw;(obtain⟨hS0,hS1⟩:=hSw);go_simp;(try with_reducible rfl))
 try simp only[Act.put,J1,J2,J3,J4,J5,J6]
 refine zqe (NoPanic.normal ?_);go_wp2
 go_ret
 exact⟨rfl,HB4.out⟩
theorem labelled_key(k label ctx:List UInt8)(n:Nat)(w:World)(hl:label.length≤1000)(hc:ctx.length≤1000)(hn:n≤8160) :
 Calls Tryz.prog 76 #[.agg #[.string ⟨(ko k).toArray⟩,.string ⟨(ki k).toArray⟩],.string ⟨label.toArray⟩,.string ⟨ctx.toArray⟩,.int .i64 n] w fun e w'=>e=.returned (.string ⟨(lab (ko k) (ki k) label ctx n).toArray⟩)∧Below w.heap.size w w':=
 labelled_of (ko k) (ki k) label ctx n w (by rw[ko_len];omega) (by rw[ki_len];omega) hl hc hn
def exP (k info:List UInt8) (n:Int):Ending:=if 0≤n∧n≤8160 then .returned (.tuple #[.string ⟨(exq (ko k) (ki k) info n.toNat).toArray⟩,.int .i64 0]) else .returned (.tuple #[.string ⟨#[]⟩,.int .i64 1])
def lbP (k label ctx:List UInt8) (n:Int):Ending:=if (0≤n∧n≤8160)∧label.length≤249∧ctx.length≤255 then .returned (.tuple #[.string ⟨(lab (ko k) (ki k) label ctx n.toNat).toArray⟩,.int .i64 0]) else .returned (.tuple #[.string ⟨#[]⟩,.int .i64 1])
def nxt (k:List UInt8):List UInt8:=lab (ko k) (ki k) [113,117,105,99,32,107,117] [] 32
theorem next_any(k:List UInt8)(w:World)(hk:k.length≤100000) :
 Calls Tryz.prog 49 #[.string ⟨k.toArray⟩] w fun e w'=>e=.returned (.string ⟨(nxt k).toArray⟩)∧Below w.heap.size w w':=by
 have C1:=zh (fun W=>secretOf_any k W hk);have C2:Hid (∀W:World,Calls Tryz.prog 76 #[.agg #[.string ⟨(ko k).toArray⟩,.string ⟨(ki k).toArray⟩],.string ⟨#[113,117,105,99,32,107,117]⟩,.string ⟨#[]⟩,.int .i64 32] W fun e w'=>e=.returned (.string ⟨(nxt k).toArray⟩)∧Below W.heap.size W w'):=zh (fun W=>labelled_key k [113,117,105,99,32,107,117] [] 32 W (by decide) (by decide) (by decide));generalize nxt k=X at *;generalize ko k=KO at *;generalize ki k=KI at *;go_enter Tryz.func49,Tryz.ntmps49;go_wp2_with fail
 with_reducible refine (C1.out _).mono ?_
 rintro e w2 ⟨rfl,hb⟩;have HB2:=zh hb;clear hb;go_wp2_with fail
 with_reducible refine (C2.out _).mono ?_
 rintro e w3 ⟨rfl,hb⟩;have HB3:=zh (HB2.out.trans (hb.mono HB2.out.size));clear hb;go_wp2
 go_ret
 exact⟨rfl,HB3.out⟩
open Go.Proofs.YtagbkmoahflfdaaGreatDoor.Vm (fx fx_length vfixed)
set_option linter.unusedVariables false
set_option linter.unusedSimpArgs false
def KB (w:World) (b:Nat) (o i x y z:ByteArray):Prop:=w.heap[b]?=some (.cells #[.string o,.string i,.string x,.string y,.string z] 85 (0,0))
theorem KB.lt{w:World}{b:Nat}{o i x y z:ByteArray}(h:KB w b o i x y z):b<w.heap.size:=(Array.getElem?_eq_some_iff.1 h).1
theorem KB.keep{w w':World}{b:Nat}{o i x y z:ByteArray}(h:KB w b o i x y z)(hb:Below w.heap.size w w'):KB w' b o i x y z:=(hb.block b h.lt).trans h
theorem KB.cells{w:World}{b:Nat}{o i x y z:ByteArray}(h:KB w b o i x y z):w.cell? ⟨b,0,none⟩=some (.string o)∧w.cell? ⟨b,1,none⟩=some (.string i)∧w.cell? ⟨b,2,none⟩=some (.string x)∧w.cell? ⟨b,3,none⟩=some (.string y)∧w.cell? ⟨b,4,none⟩=some (.string z):=by
 refine⟨?_,?_,?_,?_,?_⟩<;>(rw[Lib.cell_of_heap h];rfl)
theorem KB.fz{w:World}{b:Nat}{o i x y z:ByteArray}(h:KB w b o i x y z)(j:Nat):w.frozen? ⟨b,j,none⟩=false:=Lib.frozen_of_heap h j
theorem KB.put2{w:World}{b:Nat}{o i x y z:ByteArray}(h:KB w b o i x y z)(v:ByteArray):KB (w.setCell ⟨b,2,none⟩ (.string v)) b o i v y z:=by
 have:=Joins.block_setCell (i:=2) h (.string v);unfold KB;rw[this];simp
theorem KB.put3{w:World}{b:Nat}{o i x y z:ByteArray}(h:KB w b o i x y z)(v:ByteArray):KB (w.setCell ⟨b,3,none⟩ (.string v)) b o i x v z:=by
 have:=Joins.block_setCell (i:=3) h (.string v);unfold KB;rw[this];simp
theorem KB.put4{w:World}{b:Nat}{o i x y z:ByteArray}(h:KB w b o i x y z)(v:ByteArray):KB (w.setCell ⟨b,4,none⟩ (.string v)) b o i x y v:=by
 have:=Joins.block_setCell (i:=4) h (.string v);unfold KB;rw[this];simp
def kKey (k:List UInt8):List UInt8:=lab (ko k) (ki k) [113,117,105,99,32,107,101,121] [] 32
def kIv (k:List UInt8):List UInt8:=lab (ko k) (ki k) [113,117,105,99,32,105,118] [] 12
def kMask (k:List UInt8):List UInt8:=lab (ko k) (ki k) [113,117,105,99,32,104,112] [] 32
theorem below_put{B b:Nat}{w0 w:World}(h:Below B w0 w)(hb:B≤b)(j:Nat)(v:Value):Below B w0 (w.setCell ⟨b,j,none⟩ v):=h.setCell (p:=⟨b,j,none⟩) hb v
theorem fill_at(k:List UInt8)(b B:Nat)(w0 w:World)(x y z:ByteArray)(h:KB w b ⟨(ko k).toArray⟩ ⟨(ki k).toArray⟩ x y z)(hB:B≤b)(hw:Below B w0 w) :
 Calls Tryz.prog 42 #[.pointer (some ⟨b,0,none⟩)] w fun e w'=>e=.returned (.tuple #[])∧KB w' b ⟨(ko k).toArray⟩ ⟨(ki k).toArray⟩ ⟨(kKey k).toArray⟩ ⟨(kIv k).toArray⟩ ⟨(kMask k).toArray⟩∧Below B w0 w':=by
 have L1:Hid (∀W:World,Calls Tryz.prog 76 #[.agg #[.string ⟨(ko k).toArray⟩,.string ⟨(ki k).toArray⟩],.string ⟨#[113,117,105,99,32,107,101,121]⟩,.string ⟨#[]⟩,.int .i64 32] W fun e w'=>e=.returned (.string ⟨(kKey k).toArray⟩)∧Below W.heap.size W w'):=zh (fun W=>labelled_key k [113,117,105,99,32,107,101,121] [] 32 W (by decide) (by decide) (by decide));have L2:Hid (∀W:World,Calls Tryz.prog 76 #[.agg #[.string ⟨(ko k).toArray⟩,.string ⟨(ki k).toArray⟩],.string ⟨#[113,117,105,99,32,105,118]⟩,.string ⟨#[]⟩,.int .i64 12] W fun e w'=>e=.returned (.string ⟨(kIv k).toArray⟩)∧Below W.heap.size W w'):=zh (fun W=>labelled_key k [113,117,105,99,32,105,118] [] 12 W (by decide) (by decide) (by decide));have L3:Hid (∀W:World,Calls Tryz.prog 76 #[.agg #[.string ⟨(ko k).toArray⟩,.string ⟨(ki k).toArray⟩],.string ⟨#[113,117,105,99,32,104,112]⟩,.string ⟨#[]⟩,.int .i64 32] W fun e w'=>e=.returned (.string ⟨(kMask k).toArray⟩)∧Below W.heap.size W w'):=zh (fun W=>labelled_key k [113,117,105,99,32,104,112] [] 32 W (by decide) (by decide) (by decide));generalize kKey k=K1 at *;generalize kIv k=K2 at *;generalize kMask k=K3 at *;generalize ko k=KO at *;generalize ki k=KI at *;have HK:=zh h;have HW:=zh hw;obtain⟨c0,c1,c2,c3,c4⟩:=h.cells;have hs:B≤w.heap.size:=by have:=h.lt;omega
 clear h hw;go_enter Tryz.func42,Tryz.ntmps42;go_wp2_with fail
 with_reducible refine (L1.out _).mono ?_
 rintro e w1 ⟨rfl,hb⟩;have hk1:=HK.out.keep hb;have HK1:=zh (hk1.put2 ⟨K1.toArray⟩);have HB1:=zh (below_put (HW.out.trans (hb.mono hs)) hB 2 (.string ⟨K1.toArray⟩));obtain⟨d0,d1,d2,d3,d4⟩:=hk1.cells;have df:=hk1.fz;have hs1:B≤(w1.setCell ⟨b,2,none⟩ (.string ⟨K1.toArray⟩)).heap.size:=by have:=HK1.out.lt;omega
 clear hk1 hb c0 c1 c2 c3 c4;go_wp2_with fail
 with_reducible refine (L2.out _).mono ?_
 rintro e w2 ⟨rfl,hb⟩;have hk2:=HK1.out.keep hb;have HK2:=zh (hk2.put3 ⟨K2.toArray⟩);have HB2:=zh (below_put (HB1.out.trans (hb.mono hs1)) hB 3 (.string ⟨K2.toArray⟩));obtain⟨e0,e1,e2,e3,e4⟩:=hk2.cells;have ef:=hk2.fz;have hs2:B≤(w2.setCell ⟨b,3,none⟩ (.string ⟨K2.toArray⟩)).heap.size:=by have:=HK2.out.lt;omega
 clear hk2 hb d0 d1 d2 d3 d4 df HK1 HB1;go_wp2_with fail
 with_reducible refine (L3.out _).mono ?_
 rintro e w3 ⟨rfl,hb⟩;have hk3:=HK2.out.keep hb;have HK3:=zh (hk3.put4 ⟨K3.toArray⟩);have HB3:=zh (below_put (HB2.out.trans (hb.mono hs2)) hB 4 (.string ⟨K3.toArray⟩));obtain⟨f0,f1,f2,f3,f4⟩:=hk3.cells;have ff:=hk3.fz;clear hk3 hb e0 e1 e2 e3 e4 ef HK2 HB2;go_wp2
 go_end0
 exact⟨rfl,HK3.out,HB3.out⟩
theorem inf_keys:(Tryz.prog.info? 29).map (·.size)=some 3:=by kernel_rfl
theorem three_put{w:World}{b:Nat}{T:TypeId}{v0 v1 v2 x y z:Value}(h:w.heap[b]?=some (.cells #[v0,v1,v2] T (0,0))):(((w.setCell ⟨b,0,none⟩ x).setCell ⟨b,1,none⟩ y).setCell ⟨b,2,none⟩ z).heap[b]?=some (.cells #[x,y,z] T (0,0)):=by
 have h0:=Joins.block_setCell (i:=0) h x;have h1:=Joins.block_setCell (i:=1) h0 y;have h2:=Joins.block_setCell (i:=2) h1 z;rw[h2];simp
theorem of_any(k:List UInt8)(w:World)(hk:k.length≤100000) :
 Calls Tryz.prog 14 #[.string ⟨k.toArray⟩] w fun e w'=>e=.returned (.agg #[.string ⟨(kKey k).toArray⟩,.string ⟨(kIv k).toArray⟩,.string ⟨(kMask k).toArray⟩])∧Below w.heap.size w w':=by
 have C1:=zh (fun W=>secretOf_any k W hk);have C2:=zh (fun b B w0 W x y z h hB hw=>fill_at k b B w0 W x y z h hB hw);generalize kKey k=K1 at *;generalize kIv k=K2 at *;generalize kMask k=K3 at *;generalize ko k=KO at *;generalize ki k=KI at *;go_enter Tryz.func14,Tryz.ntmps14;go_wp2_with fail
 with_reducible refine (C1.out _).mono ?_
 rintro e w1 ⟨rfl,hb⟩;have HB1:=zh (((Below.refl w.heap.size w).alloc zle (.cells #[.string ⟨#[]⟩,.string ⟨#[]⟩,.string ⟨#[]⟩] 29)).trans (hb.mono (by simp)));have HZ1:Hid (w1.heap[w.heap.size]?=some (.cells #[.string ⟨#[]⟩,.string ⟨#[]⟩,.string ⟨#[]⟩] 29 (0,0))):=zh ((hb.block w.heap.size (by simp)).trans (heap_alloc_new w _));have hlt1:w.heap.size<w1.heap.size:=by have:=hb.size;simp at this;omega
 have HKB:Hid (KB (w1.alloc (.cells #[.string ⟨KO.toArray⟩,.string ⟨KI.toArray⟩,.string ⟨#[]⟩,.string ⟨#[]⟩,.string ⟨#[]⟩] 85)) w1.heap.size ⟨KO.toArray⟩ ⟨KI.toArray⟩ ⟨#[]⟩ ⟨#[]⟩ ⟨#[]⟩):=zh (heap_alloc_new w1 _);have C3:=zh (C2.out w1.heap.size w1.heap.size w1 _ _ _ _ HKB.out zle ((Below.refl _ _).alloc zle _));clear hb;go_wp2_with fail
 with_reducible refine C3.out.mono ?_
 rintro e w2 ⟨rfl,hk2,hb2⟩;have HB2:=zh (HB1.out.trans (hb2.mono (Nat.le_of_lt hlt1)));have HZ2:Hid (w2.heap[w.heap.size]?=some (.cells #[.string ⟨#[]⟩,.string ⟨#[]⟩,.string ⟨#[]⟩] 29 (0,0))):=zh ((hb2.block w.heap.size hlt1).trans HZ1.out);obtain⟨c0,c1,c2,c3,c4⟩:=hk2.cells;have hz0:w2.cell? ⟨w.heap.size,0,none⟩=some (.string ⟨#[]⟩):=by rw[Lib.cell_of_heap HZ2.out];rfl
 have hz1:w2.cell? ⟨w.heap.size,1,none⟩=some (.string ⟨#[]⟩):=by rw[Lib.cell_of_heap HZ2.out];rfl
 have hz2:w2.cell? ⟨w.heap.size,2,none⟩=some (.string ⟨#[]⟩):=by rw[Lib.cell_of_heap HZ2.out];rfl
 have hf:∀j,w2.frozen? ⟨w.heap.size,j,none⟩=false:=fun j=>Lib.frozen_of_heap HZ2.out j
 clear hb2 hk2;go_wp2_with fail
 exact bodyPost_ret (v:=.agg #[.string ⟨K1.toArray⟩,.string ⟨K2.toArray⟩,.string ⟨K3.toArray⟩]) (results_cell_row Tryz.results14 _ _ w.heap.size _ _ _ _ rfl (three_put HZ2.out) Tryz.underlying29 rfl inf_keys) rfl ⟨rfl,below_put (below_put (below_put HB2.out zle _ _) zle _ _) zle _ _⟩
end Go.Proofs.YtagbkmoahflfdaaGreatDoor.Kd
