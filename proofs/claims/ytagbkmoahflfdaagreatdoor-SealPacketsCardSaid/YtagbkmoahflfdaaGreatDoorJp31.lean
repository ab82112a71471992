import Derived.Test.YtagbkmoahflfdaaGreatDoorJp01
import Derived.Test.YtagbkmoahflfdaaGreatDoorJp30
import Derived.Deep.RegionHeld3
import Derived.Test.YtagbkmoahflfdaaGreatDoorJp12
set_option maxHeartbeats 8000000
set_option maxRecDepth 20000
namespace Go.Proofs.YtagbkmoahflfdaaGreatDoor.Kd
open Tk Go.RowKit Go.Proofs.YtagbkmoahflfdaaGreatDoor.Dg
open Go.Proofs.YtagbkmoahflfdaaGreatDoor.Vm (fx fx_length vfixed)
set_option linter.unusedVariables false
set_option linter.unusedSimpArgs false
theorem run_append_M2(w:World)(B:Nat)(i:TypeInfo)(ty:TypeId)(hi:Tryz.prog.info? 5=some i)(hz:i.zero=some (.int .u8 0))(hs:i.size=1)(hby:i.bytes=1)
 (g n c:Nat)(l m:List UInt8)(hn:n=l.length)(h:OwnM w B (.slice (some ⟨g,0,none⟩) n c) l)(a:Addr)(k ca:Nat)(hk:k=m.length)(hnews:∀j u,(Lib.byteCells m)[j]?=some u→w.cell? (a.add j)=some u)
 (h63:l.length+m.length≤1000000)(hbase:B≤w.heap.size) :
 ∃ g' c' w',(Builtin.append_ #[66,66] ty #[.slice (some ⟨g,0,none⟩) n c,.slice (some a) k ca]).run Tryz.prog w=.ok (.slice (some ⟨g',0,none⟩) (l++m).length c') w'∧OwnM w' B (.slice (some ⟨g',0,none⟩) (l++m).length c') (l++m)∧w.grownBy w' (some g)∧(g'=g∨g'=w.heap.size):=by
 subst hn hk;have hmx:l.length+m.length≤maxLen:=by unfold maxLen;omega
 have h1:∀u ∈ Lib.byteCells m,u.oneCell'=true:=by
  intro u hu;obtain⟨x,_,rfl⟩:=List.mem_map.1 hu;rfl
 have hcl:=h.cell;obtain⟨g',cap,cur,fz,hv,hb,hg,hfz,hnc,hcm,hcs,ht⟩:=h;simp only[Value.slice.injEq,Option.some.injEq,Addr.mk.injEq,and_true,true_and]at hv;obtain⟨rfl,rfl⟩:=hv;rw[List.length_append];by_cases hroom:l.length+m.length≤c
 ·have hf:=run_firstCells_some (P:=Tryz.prog) w i.size m.length a m.length ca (Lib.byteCells m) (by rw[byteCells_len,hs,Nat.mul_one]) hnews
  have hst:=run_storeCells_atM Tryz.prog g l.length 5 fz (Lib.byteCells m) 0 cur w hg hfz (by rw[byteCells_len];omega) h1;simp only[Nat.add_zero]at hst;refine⟨g,c,w.setRow g (cur.toList.take l.length++Lib.byteCells m++cur.toList.drop (l.length+(Lib.byteCells m).length)).toArray,?_,⟨g,c,_,fz,by rw[List.length_append],hb,setRow_heap w g cur _ _ fz hg,?_,by rw[List.length_append];exact hroom,hcm,?_,?_⟩,⟨rfl,rfl,rfl,by simp,fun k _ hk=>setRow_other w g k _ (fun e=>hk (by rw[e]))⟩,.inl rfl⟩
  ·rw[hs]at hf
   simp[Builtin.append_,run_underlying Tryz.underlying66,sizeOf,typeInfo,hi,hs,Builtin.lenOf,hroom,hf,Addr.add_lit,hst]
  ·refine hfz.imp ?_ id
   intro h;simp only[List.size_toArray,List.length_append,List.length_take,List.length_drop,Array.length_toList,byteCells_len];omega
  ·simp only[List.size_toArray,List.length_append,List.length_take,List.length_drop,Array.length_toList,byteCells_len]
   omega
  ·rw[ht,byteCells_app]
   refine (List.take_append_of_le_length ?_).trans (List.take_of_length_le ?_)
   ·simp[byteCells_len]
   ·simp[byteCells_len]
 ·have hr:=run_append_grow (P:=Tryz.prog) w 66 ty 5 i (.int .u8 0) Tryz.underlying66 hi hz ⟨g,0,none⟩ l.length c (Lib.byteCells l) (by rw[byteCells_len,hs,Nat.mul_one])
   (by
    intro j u hu
    have hj:j<l.length:=by
     have:=(List.getElem?_eq_some_iff.1 hu).1
     rwa[byteCells_len]at this
    have e:(⟨g,0,none⟩:Addr).add j=⟨g,j,none⟩:=by unfold Addr.add;split<;>simp_all
    rw[e,hcl j hj,hu]) a m.length ca (Lib.byteCells m) (by rw[byteCells_len,hs,Nat.mul_one]) hnews (by omega) (by omega) (by rw[hby];exact growslice_fits (by omega) (by omega))
  have hge:=grownCap_ge w (l.length+m.length) c 5;have hcm2:grownCap w (l.length+m.length) c 5≤maxLen:=grownCap_le_maxLen w (l.length+m.length) c 5 hmx;refine⟨w.heap.size,_,_,hr,⟨w.heap.size,_,_,(0,0),by rw[List.length_append],hbase,heap_alloc_new w.drew _,.inr rfl,by rw[List.length_append];exact hge,hcm2,?_,?_⟩,⟨rfl,rfl,rfl,by simp,fun k hk _=>World.grownBy.block (World.grownBy_alloc w.drew _ none) k hk (by simp)⟩,.inr rfl⟩
  ·have hz1:(Value.int IntKind.u8 0).cells.size=1:=rfl
   simp only[Array.size_append,List.size_toArray,size_zeroCells,hz1,byteCells_len];omega
  ·rw[byteCells_app]
   simp only[Array.toList_append];refine (List.take_append_of_le_length ?_).trans (List.take_of_length_le ?_)
   ·simp[byteCells_len]
   ·simp[byteCells_len]
theorem push_M2(w:World)(B:Nat)(ty:TypeId)(g n c:Nat)(l:List UInt8)(x:UInt8)(hn:n=l.length)(h:OwnM w B (.slice (some ⟨g,0,none⟩) n c) l)(hl:l.length≤900000)(hbase:B≤w.heap.size) :
 ∃ g' c' w',(Builtin.append_ #[66,66] ty #[.slice (some ⟨g,0,none⟩) n c,.slice (some ⟨w.heap.size,0,none⟩) 1 1]).run Tryz.prog (w.alloc (.cells #[.int .u8 (x.toNat:Nat)] 5))=.ok (.slice (some ⟨g',0,none⟩) (n+1) c') w' ∧
  OwnM w' B (.slice (some ⟨g',0,none⟩) (n+1) c') (l++[x])∧Below B w w'∧∀(g2 n2 c2:Nat) (m:List UInt8),n2=m.length→g2≠g→OwnM w B (.slice (some ⟨g2,0,none⟩) n2 c2) m→OwnM w' B (.slice (some ⟨g2,0,none⟩) n2 c2) m∧g2≠g':=by
 obtain⟨i0,hi,hz0,hz1,hz2⟩:=info_parts Bld.infoB;have hlt:B≤g:=by subst hn;exact h.lt.1
 obtain⟨g',c',w',h1,h2,h3,h4⟩:=run_append_M2 (w.alloc (.cells #[.int .u8 (x.toNat:Nat)] 5)) B i0 ty hi hz0 hz1 hz2 g n c l [x] hn (h.alloc _) ⟨w.heap.size,0,none⟩ 1 1 rfl (one_cell w x) (by simp;omega) (by simp;omega);rw[List.length_append,←hn]at h1 h2;refine⟨g',c',w',h1,h2,((Below.refl _ _).alloc hbase _).grown h3 (by simp;omega) (fun k hk=>by cases hk;exact hlt),?_⟩;intro g2 n2 c2 m hm hne ho;subst hm;have hlt2:=ho.lt.2;refine⟨?_,?_⟩
 ·obtain⟨q,cap,cur,fz,hv,hbg,hg,r⟩:=ho
  simp only[Value.slice.injEq,Option.some.injEq,Addr.mk.injEq,and_true,true_and]at hv;obtain⟨rfl,rfl⟩:=hv;refine⟨g2,c2,cur,fz,rfl,hbg,?_,r⟩;rw[h3.block g2 (by simp;omega) (by intro e;cases e;exact hne rfl),Lib.alloc_old _ _ _ hlt2];exact hg
 ·rcases h4 with h4|h4
  ·rw[h4];exact hne
  ·rw[h4];simp;omega
theorem byteOf_ref(n:Nat)(w:World)(hn:n≤1000000):Calls Tryz.prog 112 #[.int .i64 n] w fun e w'=>e=.returned (.string ⟨(fx n 1).toArray⟩)∧Below w.heap.size w w':=by
 obtain⟨x,hx⟩:∃x,UInt8.ofNat (n%256)=x:=⟨_,rfl⟩;have hxn:x.toNat=n%256:=by rw[←hx,UInt8.toNat_ofNat',Nat.mod_eq_of_lt (Nat.mod_lt _ (by decide))]
 have hw:IntKind.u8.wrap (n:Int)=((x.toNat:Nat):Int):=by rw[IntKind.wrap_u8,hxn];omega
 have hw2:(n:Int)%256=((x.toNat:Nat):Int):=by rw[hxn];omega
 have HF:Hid (fx n 1=[x]):=zh (by rw[←hx];simp[fx]);have HO:OwnM (w.alloc (.cells #[.int .u8 (x.toNat:Nat)] 5)) w.heap.size (.slice (some ⟨w.heap.size,0,none⟩) 1 1) [x]:=⟨w.heap.size,1,_,(0,0),rfl,Nat.le_refl _,heap_alloc_new w _,.inr rfl,Nat.le_refl _,by decide,rfl,rfl⟩;have hc:(convert 66 9 (.slice (some ⟨w.heap.size,0,none⟩) 1 1)).run Tryz.prog (w.alloc (.cells #[.int .u8 (x.toNat:Nat)] 5))=.ok (.string ⟨[x].toArray⟩) (w.alloc (.cells #[.int .u8 (x.toNat:Nat)] 5)):=conv_ownM [x] rfl HO;clear hx hxn HO hn;go_enter Tryz.func112,Tryz.ntmps112;go_wp2
 go_ret
 exact⟨by rw[HF.out];rfl,(Below.refl _ _).alloc zle _⟩
theorem kb_get(k:List UInt8)(i:Nat)(hi:i<64):(kb k)[i]?=some (if i<(kl k).length then (kl k).getD i 0 else 0):=by
 have h:=kl_len k;unfold kb;by_cases hlt:i<(kl k).length
 ·rw[if_pos hlt,List.getElem?_append_left hlt,List.getD,List.getElem?_eq_getElem hlt]
  rfl
 ·rw[if_neg hlt,List.getElem?_append_right (by omega),List.getElem?_replicate,if_pos (by omega)]
theorem pad_step(k:List UInt8)(c:UInt8)(i:Nat)(x:UInt8)(hi:i<64)(hx:(kb k)[i]?=some x):(xorL (kb k) (List.replicate 64 c)).take (i+1)=(xorL (kb k) (List.replicate 64 c)).take i++[x ^^^ c]:=
 xorL_step _ _ _ _ _ hx (by rw[List.getElem?_replicate,if_pos hi])
theorem xor_c(x:UInt8)(c:UInt8)(n:Int)(hc:((c.toNat:Nat):Int)=n):bits .xor .u8 (x.toNat:Int) n=(((x ^^^ c).toNat:Nat):Int):=by
 rw[←hc,xor8,UInt8.toNat_xor]
theorem mac_ref(k l:List UInt8)(w:World)(hk:k.length≤100000)(hl:l.length≤50000) :
 Calls Tryz.prog 80 #[.string ⟨k.toArray⟩,.string ⟨l.toArray⟩] w fun e w'=>e=.returned (.string ⟨(mac k l).toArray⟩)∧Below w.heap.size w w':=by
 have C0:=zh (fun W=>sum_ref ⟨k.toArray⟩ W hk);obtain⟨Q,hQ⟩:∃Q,kl k=Q:=⟨_,rfl⟩;have hQl:=kl_len k;rw[hQ]at hQl;obtain⟨qs,hqs⟩:∃qs:ByteArray,⟨Q.toArray⟩=qs:=⟨_,rfl⟩;have zq:qs.size=Q.length:=by rw[←hqs];rfl
 have HG:Hid (∀i (h:i<qs.size),qs[i]=Q.getD i 0):=zh (by
  subst hqs;intro i h;have h2:i<Q.length:=h;rw[List.getD,List.getElem?_eq_getElem h2]
  rfl)
 have KG:=zh (fun i hi=>kb_get k i hi);rw[hQ]at KG;have PI:=zh (fun i x hi hx=>pad_step k 54 i x hi hx);have PO:=zh (fun i x hi hx=>pad_step k 92 i x hi hx);have hki:=ki_len k;have hko:=ko_len k;have CS1:Hid (∀W:World,Calls Tryz.prog 116 #[.string ⟨(ki k++l).toArray⟩] W fun e w'=>e=.returned (.string ⟨(sha (ki k++l)).toArray⟩)∧Below W.heap.size W w'):=zh (fun W=>sum_ref ⟨(ki k++l).toArray⟩ W (by show (ki k++l).length≤_;rw[List.length_append,hki];omega));have CS2:Hid (∀W:World,Calls Tryz.prog 116 #[.string ⟨(ko k++sha (ki k++l)).toArray⟩] W fun e w'=>e=.returned (.string ⟨(mac k l).toArray⟩)∧Below W.heap.size W w'):=zh (fun W=>sum_ref ⟨(ko k++sha (ki k++l)).toArray⟩ W (by show (ko k++sha (ki k++l)).length≤_;rw[List.length_append,hko,sha_len];omega));have a1:(⟨(ki k).toArray⟩:ByteArray)++⟨l.toArray⟩=⟨(ki k++l).toArray⟩:=app_two _ _;have a2:(⟨(ko k).toArray⟩:ByteArray)++⟨(sha (ki k++l)).toArray⟩=⟨(ko k++sha (ki k++l)).toArray⟩:=app_two _ _;have z1:(⟨(ki k).toArray⟩:ByteArray).size=64:=hki;have z2:(⟨l.toArray⟩:ByteArray).size=l.length:=rfl;have z3:(⟨(ko k).toArray⟩:ByteArray).size=64:=hko;have z4:(⟨(sha (ki k++l)).toArray⟩:ByteArray).size=32:=sha_len _;have z5:(⟨k.toArray⟩:ByteArray).size=k.length:=rfl;have g1:¬9223372036854775807<64+l.length:=by omega
 generalize sha (ki k++l)=Y at *;generalize ki k++l=IL at *;generalize ko k++Y=OY at *;generalize mac k l=M at *;have PI2:Hid (∀(i:Nat) (x:UInt8),i<64→(kb k)[i]?=some x→(ki k).take (i+1)=(ki k).take i++[x ^^^ 54]):=PI;have PO2:Hid (∀(i:Nat) (x:UInt8),i<64→(kb k)[i]?=some x→(ko k).take (i+1)=(ko k).take i++[x ^^^ 92]):=PO;clear PI PO;have KG2:Hid (∀i,i<64→∃x,(kb k)[i]?=some x∧x=if i<Q.length then Q.getD i 0 else 0):=zh (fun i hi=>⟨_,KG.out i hi,rfl⟩);clear KG;generalize kb k=Z at *;obtain⟨KI,hKI⟩:∃KI,ki k=KI:=⟨_,rfl⟩;obtain⟨KO,hKO⟩:∃KO,ko k=KO:=⟨_,rfl⟩;rw[hKI]at hki a1 z1 PI2;rw[hKO]at hko a2 z3 PO2;clear hKI hKO;have hlo:=hko;have hli:=hki;by_cases h64:64<k.length
 ·have hq:Q=sha k:=by rw[←hQ];exact if_pos h64
  have h64i:(64:Int)<(k.length:Int):=by omega
  rw[show (⟨k.toArray⟩:ByteArray).data.toList=k from rfl,←hq,hqs]at C0;clear hq hQ hqs;go_enter Tryz.func80,Tryz.ntmps80;go_wp2_with fail
  with_reducible refine (C0.out _).mono ?_
  rintro e W0 ⟨rfl,hb⟩;have HBQ:=zh hb;clear hb C0;go_wp2_with fail
  have HBw:Hid (Below w.heap.size w ((W0.alloc (.cells #[] 5)).alloc (.cells #[] 5))):=zh ((HBQ.out.alloc (B:=w.heap.size) HBQ.out.size _).alloc (by have:=HBQ.out.size;simp<;>omega) _)
  have HI0:Hid (OwnM ((W0.alloc (.cells #[] 5)).alloc (.cells #[] 5)) w.heap.size (.slice (some ⟨W0.heap.size,0,none⟩) 0 0) []):=zh (by
   have h:OwnM (W0.alloc (.cells #[] 5)) w.heap.size (.slice (some ⟨W0.heap.size,0,none⟩) 0 0) []:=⟨W0.heap.size,0,#[],(0,0),rfl,HBQ.out.size,heap_alloc_new W0 _,.inr rfl,Nat.le_refl _,by decide,rfl,rfl⟩
   exact h.alloc _)
  have HO0:Hid (OwnM ((W0.alloc (.cells #[] 5)).alloc (.cells #[] 5)) w.heap.size (.slice (some ⟨W0.heap.size+1,0,none⟩) 0 0) []):=zh (by
   have e:W0.heap.size+1=(W0.alloc (.cells #[] 5)).heap.size:=by simp
   rw[e]
   exact⟨_,0,#[],(0,0),rfl,by have:=HBQ.out.size;simp<;>omega,heap_alloc_new _ _,.inr rfl,Nat.le_refl _,by decide,rfl,rfl⟩)
  go_loopw [5,6,7] (fun nv uv iv wr=>∃(i gi ci go co:Nat),i≤64∧iv=.int .i64 i∧nv=.slice (some ⟨gi,0,none⟩) i ci∧uv=.slice (some ⟨go,0,none⟩) i co∧OwnM wr w.heap.size (.slice (some ⟨gi,0,none⟩) i ci) (KI.take i)∧OwnM wr w.heap.size (.slice (some ⟨go,0,none⟩) i co) (KO.take i)∧gi≠go∧Below w.heap.size w wr) (fun _ _ iv _=>64-(intOf iv).toNat)
  case atStart=>exact⟨0,W0.heap.size,0,W0.heap.size+1,0,by omega,rfl,rfl,rfl,HI0.out,HO0.out,by omega,HBw.out⟩
  case round=>
   clear HI0 HO0 HBw HBQ;obtain⟨i,gi,ci,go,co,hi,rfl,rfl,rfl,hOI,hOO,hne,hB⟩:=hrel;have HOI:=zh hOI;have HOO:=zh hOO;have HBr:=zh hB;have hsz:=hB.size;clear hOI hOO hB;by_cases hi64:i<64
   ·obtain⟨x,hx,hxe⟩:=KG2.out i hi64
    have e1:=PI2.out i x hi64 hx;have e2:=PO2.out i x hi64 hx;obtain⟨g2,c2,w2,ha,ho2,hb2,hk2⟩:=push_M2 wr w.heap.size 66 gi i ci _ (x ^^^ 54) (by rw[List.length_take,hki];omega) HOI.out (by rw[List.length_take,hki];omega) hsz;obtain⟨hOO2,hne2⟩:=hk2 go i co _ (by rw[List.length_take,hko];omega) (fun e=>hne e.symm) HOO.out;obtain⟨g3,c3,w3,ha3,ho3,hb3,hk3⟩:=push_M2 w2 w.heap.size 66 go i co _ (x ^^^ 92) (by rw[List.length_take,hko];omega) hOO2 (by rw[List.length_take,hko];omega) (by have:=hb2.size;omega);rw[←e1]at ho2;rw[←e2]at ho3;obtain⟨ho4,hne4⟩:=hk3 g2 (i+1) c2 _ (by rw[List.length_take,hki];omega) (fun e=>hne2 e.symm) ho2;have X1:=xor_c x 54 54 rfl;have X2:=xor_c x 92 92 rfl;have HA:=zh ha;have HA3:=zh ha3;have HO3:=zh ho3;have HI3:=zh ho4;have HB3:=zh ((HBr.out.trans hb2).trans hb3);have HNE:=zh hne4;clear ha ha3 ho2 ho3 ho4 hb2 hb3 hk2 hk3 hOO2 hne2 e1 e2 hx HOI HOO;by_cases hq:i<Q.length
    ·rw[if_pos hq]at hxe
     have hqi:(i:Int)<(Q.length:Int):=by omega
     have hiq:i<qs.size:=by rw[zq];exact hq
     have hgx:qs[i]=x:=by rw[HG.out i hiq,hxe]
     obtain⟨n54,hn54⟩:∃n54,(x ^^^ (54:UInt8)).toNat=n54:=⟨_,rfl⟩;obtain⟨n92,hn92⟩:∃n92,(x ^^^ (92:UInt8)).toNat=n92:=⟨_,rfl⟩;rw[hn54]at HA X1;rw[hn92]at HA3 X2;clear hn54 hn92 hxe;go_wp2_with (at_builtin;first|refine Lib.wpList_append_run _ rfl _ _ _ _ rfl _ _ rfl rfl _ _ HA.out ?_|refine Lib.wpList_append_run _ rfl _ _ _ _ rfl _ _ rfl rfl _ _ HA3.out ?_)
     go_roundw
     case rel=>exact⟨i+1,g2,c2,g3,c3,by omega,by go_num,rfl,rfl,HI3.out,HO3.out,HNE.out,HB3.out⟩
     case measure=>simp[intOf];omega
    ·rw[if_neg hq]at hxe
     have hqi:¬(i:Int)<(Q.length:Int):=by omega
     have e54:(((x ^^^ (54:UInt8)).toNat:Nat):Int)=54:=by rw[hxe];rfl
     have e92:(((x ^^^ (92:UInt8)).toNat:Nat):Int)=92:=by rw[hxe];rfl
     rw[e54]at HA;rw[e92]at HA3;clear X1 X2 e54 e92 hxe;go_wp2_with (at_builtin;first|refine Lib.wpList_append_run _ rfl _ _ _ _ rfl _ _ rfl rfl _ _ HA.out ?_|refine Lib.wpList_append_run _ rfl _ _ _ _ rfl _ _ rfl rfl _ _ HA3.out ?_)
     go_roundw
     case rel=>exact⟨i+1,g2,c2,g3,c3,by omega,by go_num,rfl,rfl,HI3.out,HO3.out,HNE.out,HB3.out⟩
     case measure=>simp[intOf];omega
   ·obtain rfl:i=64:=by omega
    rw[List.take_of_length_le (by omega)]at HOI HOO;go_wp2;refine wp_region_noPanic ?_;refine wp_region_held_drew (S:=fun w':World=>OwnM w' w.heap.size (.slice (some ⟨go,0,none⟩) 64 co) KO∧OwnM w' w.heap.size (.slice (some ⟨gi,0,none⟩) 64 ci) KI) (by kernel_rfl) ?_ (fun hHeld=>?_)
    ·exact⟨HOO.out.keep (below_drew (Below.refl _ _)),HOI.out.keep (below_drew (Below.refl _ _))⟩
    iterate 6
     refine zqb [0,1,2,3,4,5] rfl rfl ?_ ?_ ?_;rotate_left
     ·(intro w hSw;(obtain⟨hS0,hS1⟩:=hSw;have q0:=conv_ownM KO hlo.symm hS0;have q1:=conv_ownM KI hli.symm hS1);go_simp;(try with_reducible rfl))
     try simp only[Act.put,J1,J2,J3,J4,J5,J6]
    refine zqf [6] (AllReadyH.cons rfl (fun K hK=>?_) AllReadyH.nil);rw[if_pos (by rfl)];go_simp;with_reducible refine (CS1.out _).mono ?_
    rintro e w2 ⟨rfl,hb2⟩;have HO2:=zh (OwnM.keep (show OwnM wr.drew w.heap.size _ _ from HOO.out) hb2);have HI2:=zh (OwnM.keep (show OwnM wr.drew w.heap.size _ _ from HOI.out) hb2);have HB2:=zh ((below_drew HBr.out).trans (hb2.mono HBr.out.size));clear hb2;refine hK.out _ _ ?_ (fun hHeld=>?_)
    ·exact⟨HO2.out,HI2.out⟩
    clear hK K
    try simp only[Act.put,J1,J2,J3,J4,J5,J6]
    refine zqa 7 rfl ?_ ?_ ?_;rotate_left
    ·(intro w hSw;(obtain⟨hS0,hS1⟩:=hSw;have q0:=conv_ownM KO hlo.symm hS0;have q1:=conv_ownM KI hli.symm hS1);go_simp;(try with_reducible rfl))
    try simp only[Act.put,J1,J2,J3,J4,J5,J6]
    refine zqf [8] (AllReadyH.cons rfl (fun K hK=>?_) AllReadyH.nil);rw[if_pos (by rfl)];go_simp;with_reducible refine (CS2.out _).mono ?_
    rintro e w3 ⟨rfl,hb3⟩;have HO3:=zh (OwnM.keep HO2.out hb3);have HI3:=zh (OwnM.keep HI2.out hb3);have HB3:=zh (HB2.out.trans (hb3.mono HB2.out.size));clear hb3;refine hK.out _ _ ?_ (fun hHeld=>?_)
    ·exact⟨HO3.out,HI3.out⟩
    clear hK K
    try simp only[Act.put,J1,J2,J3,J4,J5,J6]
    refine zqa 9 rfl ?_ ?_ ?_;rotate_left
    ·(intro w hSw;(obtain⟨hS0,hS1⟩:=hSw;have q0:=conv_ownM KO hlo.symm hS0;have q1:=conv_ownM KI hli.symm hS1);go_simp;(try with_reducible rfl))
    try simp only[Act.put,J1,J2,J3,J4,J5,J6]
    refine zqe (NoPanic.normal ?_);go_wp2
    go_ret
    exact⟨rfl,HB3.out⟩
 ·have hq:Q=k:=by rw[←hQ];exact if_neg h64
  have h64i:¬(64:Int)<(k.length:Int):=by omega
  subst hq;rw[hqs];clear hQ C0 z5 hqs;have HBQ:Hid (Below w.heap.size w w):=zh (Below.refl _ _);go_enter Tryz.func80,Tryz.ntmps80;go_wp2_with fail
  have HBw:Hid (Below w.heap.size w ((w.alloc (.cells #[] 5)).alloc (.cells #[] 5))):=zh ((HBQ.out.alloc (B:=w.heap.size) HBQ.out.size _).alloc (by have:=HBQ.out.size;simp<;>omega) _)
  have HI0:Hid (OwnM ((w.alloc (.cells #[] 5)).alloc (.cells #[] 5)) w.heap.size (.slice (some ⟨w.heap.size,0,none⟩) 0 0) []):=zh (by
   have h:OwnM (w.alloc (.cells #[] 5)) w.heap.size (.slice (some ⟨w.heap.size,0,none⟩) 0 0) []:=⟨w.heap.size,0,#[],(0,0),rfl,HBQ.out.size,heap_alloc_new w _,.inr rfl,Nat.le_refl _,by decide,rfl,rfl⟩
   exact h.alloc _)
  have HO0:Hid (OwnM ((w.alloc (.cells #[] 5)).alloc (.cells #[] 5)) w.heap.size (.slice (some ⟨w.heap.size+1,0,none⟩) 0 0) []):=zh (by
   have e:w.heap.size+1=(w.alloc (.cells #[] 5)).heap.size:=by simp
   rw[e]
   exact⟨_,0,#[],(0,0),rfl,by have:=HBQ.out.size;simp<;>omega,heap_alloc_new _ _,.inr rfl,Nat.le_refl _,by decide,rfl,rfl⟩)
  go_loopw [5,6,7] (fun nv uv iv wr=>∃(i gi ci go co:Nat),i≤64∧iv=.int .i64 i∧nv=.slice (some ⟨gi,0,none⟩) i ci∧uv=.slice (some ⟨go,0,none⟩) i co∧OwnM wr w.heap.size (.slice (some ⟨gi,0,none⟩) i ci) (KI.take i)∧OwnM wr w.heap.size (.slice (some ⟨go,0,none⟩) i co) (KO.take i)∧gi≠go∧Below w.heap.size w wr) (fun _ _ iv _=>64-(intOf iv).toNat)
  case atStart=>exact⟨0,w.heap.size,0,w.heap.size+1,0,by omega,rfl,rfl,rfl,HI0.out,HO0.out,by omega,HBw.out⟩
  case round=>
   clear HI0 HO0 HBw HBQ;obtain⟨i,gi,ci,go,co,hi,rfl,rfl,rfl,hOI,hOO,hne,hB⟩:=hrel;have HOI:=zh hOI;have HOO:=zh hOO;have HBr:=zh hB;have hsz:=hB.size;clear hOI hOO hB;by_cases hi64:i<64
   ·obtain⟨x,hx,hxe⟩:=KG2.out i hi64
    have e1:=PI2.out i x hi64 hx;have e2:=PO2.out i x hi64 hx;obtain⟨g2,c2,w2,ha,ho2,hb2,hk2⟩:=push_M2 wr w.heap.size 66 gi i ci _ (x ^^^ 54) (by rw[List.length_take,hki];omega) HOI.out (by rw[List.length_take,hki];omega) hsz;obtain⟨hOO2,hne2⟩:=hk2 go i co _ (by rw[List.length_take,hko];omega) (fun e=>hne e.symm) HOO.out;obtain⟨g3,c3,w3,ha3,ho3,hb3,hk3⟩:=push_M2 w2 w.heap.size 66 go i co _ (x ^^^ 92) (by rw[List.length_take,hko];omega) hOO2 (by rw[List.length_take,hko];omega) (by have:=hb2.size;omega);rw[←e1]at ho2;rw[←e2]at ho3;obtain⟨ho4,hne4⟩:=hk3 g2 (i+1) c2 _ (by rw[List.length_take,hki];omega) (fun e=>hne2 e.symm) ho2;have X1:=xor_c x 54 54 rfl;have X2:=xor_c x 92 92 rfl;have HA:=zh ha;have HA3:=zh ha3;have HO3:=zh ho3;have HI3:=zh ho4;have HB3:=zh ((HBr.out.trans hb2).trans hb3);have HNE:=zh hne4;clear ha ha3 ho2 ho3 ho4 hb2 hb3 hk2 hk3 hOO2 hne2 e1 e2 hx HOI HOO;by_cases hq:i<Q.length
    ·rw[if_pos hq]at hxe
     have hqi:(i:Int)<(Q.length:Int):=by omega
     have hiq:i<qs.size:=by rw[zq];exact hq
     have hgx:qs[i]=x:=by rw[HG.out i hiq,hxe]
     obtain⟨n54,hn54⟩:∃n54,(x ^^^ (54:UInt8)).toNat=n54:=⟨_,rfl⟩;obtain⟨n92,hn92⟩:∃n92,(x ^^^ (92:UInt8)).toNat=n92:=⟨_,rfl⟩;rw[hn54]at HA X1;rw[hn92]at HA3 X2;clear hn54 hn92 hxe;go_wp2_with (at_builtin;first|refine Lib.wpList_append_run _ rfl _ _ _ _ rfl _ _ rfl rfl _ _ HA.out ?_|refine Lib.wpList_append_run _ rfl _ _ _ _ rfl _ _ rfl rfl _ _ HA3.out ?_)
     go_roundw
     case rel=>exact⟨i+1,g2,c2,g3,c3,by omega,by go_num,rfl,rfl,HI3.out,HO3.out,HNE.out,HB3.out⟩
     case measure=>simp[intOf];omega
    ·rw[if_neg hq]at hxe
     have hqi:¬(i:Int)<(Q.length:Int):=by omega
     have e54:(((x ^^^ (54:UInt8)).toNat:Nat):Int)=54:=by rw[hxe];rfl
     have e92:(((x ^^^ (92:UInt8)).toNat:Nat):Int)=92:=by rw[hxe];rfl
     rw[e54]at HA;rw[e92]at HA3;clear X1 X2 e54 e92 hxe;go_wp2_with (at_builtin;first|refine Lib.wpList_append_run _ rfl _ _ _ _ rfl _ _ rfl rfl _ _ HA.out ?_|refine Lib.wpList_append_run _ rfl _ _ _ _ rfl _ _ rfl rfl _ _ HA3.out ?_)
     go_roundw
     case rel=>exact⟨i+1,g2,c2,g3,c3,by omega,by go_num,rfl,rfl,HI3.out,HO3.out,HNE.out,HB3.out⟩
     case measure=>simp[intOf];omega
   ·obtain rfl:i=64:=by omega
    rw[List.take_of_length_le (by omega)]at HOI HOO;go_wp2;refine wp_region_noPanic ?_;refine wp_region_held_drew (S:=fun w':World=>OwnM w' w.heap.size (.slice (some ⟨go,0,none⟩) 64 co) KO∧OwnM w' w.heap.size (.slice (some ⟨gi,0,none⟩) 64 ci) KI) (by kernel_rfl) ?_ (fun hHeld=>?_)
    ·exact⟨HOO.out.keep (below_drew (Below.refl _ _)),HOI.out.keep (below_drew (Below.refl _ _))⟩
    iterate 6
     refine zqb [0,1,2,3,4,5] rfl rfl ?_ ?_ ?_;rotate_left
     ·(intro w hSw;(obtain⟨hS0,hS1⟩:=hSw;have q0:=conv_ownM KO hlo.symm hS0;have q1:=conv_ownM KI hli.symm hS1);go_simp;(try with_reducible rfl))
     try simp only[Act.put,J1,J2,J3,J4,J5,J6]
    refine zqf [6] (AllReadyH.cons rfl (fun K hK=>?_) AllReadyH.nil);rw[if_pos (by rfl)];go_simp;with_reducible refine (CS1.out _).mono ?_
    rintro e w2 ⟨rfl,hb2⟩;have HO2:=zh (OwnM.keep (show OwnM wr.drew w.heap.size _ _ from HOO.out) hb2);have HI2:=zh (OwnM.keep (show OwnM wr.drew w.heap.size _ _ from HOI.out) hb2);have HB2:=zh ((below_drew HBr.out).trans (hb2.mono HBr.out.size));clear hb2;refine hK.out _ _ ?_ (fun hHeld=>?_)
    ·exact⟨HO2.out,HI2.out⟩
    clear hK K
    try simp only[Act.put,J1,J2,J3,J4,J5,J6]
    refine zqa 7 rfl ?_ ?_ ?_;rotate_left
    ·(intro w hSw;(obtain⟨hS0,hS1⟩:=hSw;have q0:=conv_ownM KO hlo.symm hS0;have q1:=conv_ownM KI hli.symm hS1);go_simp;(try with_reducible rfl))
    try simp only[Act.put,J1,J2,J3,J4,J5,J6]
    refine zqf [8] (AllReadyH.cons rfl (fun K hK=>?_) AllReadyH.nil);rw[if_pos (by rfl)];go_simp;with_reducible refine (CS2.out _).mono ?_
    rintro e w3 ⟨rfl,hb3⟩;have HO3:=zh (OwnM.keep HO2.out hb3);have HI3:=zh (OwnM.keep HI2.out hb3);have HB3:=zh (HB2.out.trans (hb3.mono HB2.out.size));clear hb3;refine hK.out _ _ ?_ (fun hHeld=>?_)
    ·exact⟨HO3.out,HI3.out⟩
    clear hK K
    try simp only[Act.put,J1,J2,J3,J4,J5,J6]
    refine zqa 9 rfl ?_ ?_ ?_;rotate_left
    ·(intro w hSw;(obtain⟨hS0,hS1⟩:=hSw;have q0:=conv_ownM KO hlo.symm hS0;have q1:=conv_ownM KI hli.symm hS1);go_simp;(try with_reducible rfl))
    try simp only[Act.put,J1,J2,J3,J4,J5,J6]
    refine zqe (NoPanic.normal ?_);go_wp2
    go_ret
    exact⟨rfl,HB3.out⟩
open Go.Proofs.YtagbkmoahflfdaaGreatDoor.Vm (fx fx_length vfixed)
set_option linter.unusedVariables false
set_option linter.unusedSimpArgs false
theorem app3(a b c:List UInt8):(⟨a.toArray⟩:ByteArray)++⟨b.toArray⟩++⟨c.toArray⟩=⟨(a++b++c).toArray⟩:=by rw[app_two,app_two]
theorem expand_ref(k info:List UInt8)(n:Int)(w:World)(hk:k.length≤100000)(hi:info.length≤10000) :
 Calls Tryz.prog 111 #[.string ⟨k.toArray⟩,.string ⟨info.toArray⟩,.int .i64 n] w fun e w'=>e=exP k info n∧Below w.heap.size w w':=by
 obtain⟨ks,hks0⟩:∃ks:ByteArray,⟨k.toArray⟩=ks:=⟨_,rfl⟩;obtain⟨is,his0⟩:∃is:ByteArray,⟨info.toArray⟩=is:=⟨_,rfl⟩;have his:is.size=info.length:=by rw[←his0];rfl
 by_cases hn:0≤n∧n≤8160
 ·obtain⟨m,rfl⟩:∃m:Nat,n=(m:Int):=⟨n.toNat,by omega⟩
  have hm:m≤8160:=by omega
  have hmi:(m:Int)≤8160:=by omega
  have hm0:(0:Int)≤(m:Int):=by omega
  have HE:Hid (exP k info m=.returned (.tuple #[.string ⟨(exq (ko k) (ki k) info m).toArray⟩,.int .i64 0])):=zh (by unfold exP;rw[if_pos hn];rfl);obtain⟨M,hM⟩:∃M,(m+31)/32=M:=⟨_,rfl⟩;have HMM:=zh hM;have HX:Hid (exq (ko k) (ki k) info m=(outs (ko k) (ki k) info M).take m):=zh (by unfold exq;rw[hM]);have HMAC:Hid (∀i,mac k (tk (ko k) (ki k) info i++info++fx (i+1) 1)=tk (ko k) (ki k) info (i+1)):=zh (fun i=>rfl);have HC:=zh (fun (l:List UInt8) (hl:l.length≤50000) W=>mac_ref k l W hk hl);generalize exq (ko k) (ki k) info m=X at *;rw[hks0,his0];rw[hks0]at HC;have HIS:=zh his0;clear hM hn hks0 his0;have HOL:=zh (fun i=>outs_len (ko k) (ki k) info i);have HTL:=zh (fun i=>tk_len (ko k) (ki k) info i);have HOS:Hid (∀i,outs (ko k) (ki k) info (i+1)=outs (ko k) (ki k) info i++tk (ko k) (ki k) info (i+1)):=zh (fun i=>rfl);have HT0:Hid (tk (ko k) (ki k) info 0=[]):=zh rfl;have HO0:Hid (outs (ko k) (ki k) info 0=[]):=zh rfl;have HT32:Hid (∀i,(tk (ko k) (ki k) info (i+1)).length=32):=zh (fun i=>hm_len _ _ _);generalize outs (ko k) (ki k) info=OU at *;generalize tk (ko k) (ki k) info=TK at *;go_enter Tryz.func111,Tryz.ntmps111;go_wp2
  go_loopw [8,9,10] (fun ov tv kv wr=>∃i:Nat,i≤M∧ov=.string ⟨(OU i).toArray⟩∧tv=.string ⟨(TK i).toArray⟩∧kv=.int .i64 (i+1:Nat)∧Below w.heap.size w wr) (fun _ _ kv _=>M+1-(intOf kv).toNat)
  case atStart=>exact⟨0,Nat.zero_le _,by rw[HO0.out],by rw[HT0.out],rfl,Below.refl _ _⟩
  case round=>
   obtain⟨i,hiM,rfl,rfl,rfl,hB⟩:=hrel;have HBr:=zh hB;have hM300:M≤255:=by have:=HMM.out;omega
   obtain⟨os,hos⟩:∃os:ByteArray,⟨(OU i).toArray⟩=os:=⟨_,rfl⟩;have hosz:os.size=32*i:=by rw[←hos];exact HOL.out i
   clear hB;by_cases hlt:32*i<m
   ·have hiM2:i<M:=by have:=HMM.out;omega
    obtain⟨k1,hk1⟩:∃k1,i+1=k1:=⟨_,rfl⟩;obtain⟨q,hq⟩:∃q,32*i=q:=⟨_,rfl⟩;rw[hq]at hosz hlt;have CB:=zh (fun W=>byteOf_ref k1 W (by omega));have hMA:=HMAC.out i;have hT2:=HT32.out i;have hOS:=HOS.out i;have hTi:=HTL.out i;rw[hk1]at hMA hT2 hOS ⊢;have hf1:(fx k1 1).length=1:=fx_length _ _;have hcat:(⟨(TK i).toArray⟩:ByteArray)++is++⟨(fx k1 1).toArray⟩=⟨(TK i++info++fx k1 1).toArray⟩:=by rw[←HIS.out];exact app3 _ _ _
    have CM:=zh (fun W=>HC.out (TK i++info++fx k1 1) (by rw[List.length_append,List.length_append,hf1];omega) W);rw[hMA]at CM;rw[←hcat]at CM;have hoc:os++⟨(TK k1).toArray⟩=⟨(OU k1).toArray⟩:=by rw[←hos,app_two,←hOS]
    obtain⟨ts,hts⟩:∃ts:ByteArray,⟨(TK i).toArray⟩=ts:=⟨_,rfl⟩;obtain⟨t2,ht2⟩:∃t2:ByteArray,⟨(TK k1).toArray⟩=t2:=⟨_,rfl⟩;obtain⟨fs,hfs⟩:∃fs:ByteArray,⟨(fx k1 1).toArray⟩=fs:=⟨_,rfl⟩;have z1:ts.size≤32:=by rw[←hts];exact hTi
    have z2:t2.size=32:=by rw[←ht2];exact hT2
    have z3:fs.size=1:=by rw[←hfs];exact hf1
    rw[hos,hts];rw[hts,hfs,ht2]at CM;rw[hfs]at CB;rw[ht2]at hoc;have g1:¬9223372036854775807<ts.size+is.size:=by omega
    have g2:¬9223372036854775807<ts.size+is.size+1:=by omega
    have g3:¬9223372036854775807<q+32:=by omega
    have hlti:(q:Int)<(m:Int):=by omega
    have hsz2:(ts++is).size=ts.size+is.size:=by simp
    have hk255:k1≤255:=by omega
    have HK1:=zh hk1;have HT2E:=zh ht2;have HOC:=zh hoc;clear hk1 hq hMA hT2 hOS hTi hf1 hcat hos hts ht2 hfs hoc hlt HC HMAC;go_wp2_with fail
    with_reducible refine (CB.out _).mono ?_
    rintro e w1 ⟨rfl,hb⟩;have HB1:=zh (HBr.out.trans (hb.mono HBr.out.size));clear hb;go_wp2_with fail
    with_reducible refine (CM.out _).mono ?_
    rintro e w2 ⟨rfl,hb⟩;have HB2:=zh (HB1.out.trans (hb.mono HB1.out.size));clear hb;go_wp2
    go_roundw
    case rel=>exact⟨k1,by have:=HK1.out;omega,by rw[HOC.out],by rw[HT2E.out],by have:=HK1.out;go_num,HB2.out⟩
    case measure=>have:=HK1.out;simp[intOf];omega
   ·have hiM2:i=M:=by have:=HMM.out;omega
    subst hiM2;have hnlt:¬(((32*i:Nat):Int)<(m:Int)):=by omega
    obtain⟨q,hq⟩:∃q,32*i=q:=⟨_,rfl⟩;rw[hq]at hosz hnlt;have HYX:Hid (os.extract 0 m=⟨X.toArray⟩):=zh (by rw[←hos,HX.out];exact sv_to _ m);have hmq:(m:Int)≤(q:Int):=by omega
    rw[hos];clear hos hq hlt HC HMAC;go_wp2
    go_ret2
    exact⟨by rw[HE.out,←HYX.out];rfl,HBr.out⟩
 ·have HE:Hid (exP k info n=.returned (.tuple #[.string ⟨#[]⟩,.int .i64 1])):=zh (by unfold exP;rw[if_neg hn])
  rw[hks0,his0];clear hks0 his0;by_cases h0:0≤n
  ·have h8:¬n≤8160:=fun h=>hn ⟨h0,h⟩
   clear hn;go_enter Tryz.func111,Tryz.ntmps111;go_wp2
   go_ret2
   exact⟨HE.out.symm,Below.refl _ _⟩
  ·clear hn
   go_enter Tryz.func111,Tryz.ntmps111;go_wp2
   go_ret2
   exact⟨HE.out.symm,Below.refl _ _⟩
end Go.Proofs.YtagbkmoahflfdaaGreatDoor.Kd
namespace Go.Proofs.YtagbkmoahflfdaaGreatDoor.Kd
open Go.RowKit Go.Proofs.YtagbkmoahflfdaaGreatDoor.Dg
theorem exP_yes(k info:List UInt8)(m:Nat)(hm:m≤8160):exP k info m=.returned (.tuple #[.string ⟨(exq (ko k) (ki k) info m).toArray⟩,.int .i64 0]):=by unfold exP;rw[if_pos (by omega)];rfl
theorem lbP_yes(k label ctx:List UInt8)(m:Nat)(hm:m≤8160)(hl:label.length≤249)(hc:ctx.length≤255):lbP k label ctx m=.returned (.tuple #[.string ⟨(lab (ko k) (ki k) label ctx m).toArray⟩,.int .i64 0]):=by unfold lbP;rw[if_pos (by omega)];rfl
theorem lbP_no(k label ctx:List UInt8)(n:Int)(hn:¬((0≤n∧n≤8160)∧label.length≤249∧ctx.length≤255)):lbP k label ctx n=.returned (.tuple #[.string ⟨#[]⟩,.int .i64 1]):=by unfold lbP;rw[if_neg hn]
open Tk
open Go.Proofs.YtagbkmoahflfdaaGreatDoor.Vm (fx fx_length vfixed)
set_option linter.unusedVariables false
set_option linter.unusedSimpArgs false
theorem fx_two(n:Nat):fx (n/256) 1++fx (n%256) 1=fx n 2:=by
 have e:∀x,UInt8.ofNat (x%256%256)=UInt8.ofNat (x%256):=by intro x;rw[Nat.mod_mod]
 simp[fx]
theorem inf_parts(label ctx:List UInt8)(n:Nat):fx (n/256) 1++fx (n%256) 1++fx (label.length+6) 1++tls++label++fx ctx.length 1++ctx=inf label ctx n:=by
 have e:(tls++label).length=label.length+6:=by rw[List.length_append,Nat.add_comm];rfl
 rw[fx_two];unfold inf cnt;rw[e];simp only[List.append_assoc]
theorem app7(a b c d e f g:List UInt8):(⟨a.toArray⟩:ByteArray)++⟨b.toArray⟩++⟨c.toArray⟩++⟨d.toArray⟩++⟨e.toArray⟩++⟨f.toArray⟩++⟨g.toArray⟩=⟨(a++b++c++d++e++f++g).toArray⟩:=by rw[app_two,app_two,app_two,app_two,app_two,app_two]
theorem label_ref(k label ctx:List UInt8)(n:Int)(w:World)(hk:k.length≤100000)(hl:label.length≤4000000)(hc:ctx.length≤4000000) :
 Calls Tryz.prog 77 #[.string ⟨k.toArray⟩,.string ⟨label.toArray⟩,.string ⟨ctx.toArray⟩,.int .i64 n] w fun e w'=>e=lbP k label ctx n∧Below w.heap.size w w':=by
 obtain⟨ks,hks0⟩:∃ks:ByteArray,⟨k.toArray⟩=ks:=⟨_,rfl⟩;obtain⟨ls,hls0⟩:∃ls:ByteArray,⟨label.toArray⟩=ls:=⟨_,rfl⟩;obtain⟨cs,hcs0⟩:∃cs:ByteArray,⟨ctx.toArray⟩=cs:=⟨_,rfl⟩;have hls:ls.size=label.length:=by rw[←hls0];rfl
 have hcs:cs.size=ctx.length:=by rw[←hcs0];rfl
 by_cases hg:(0≤n∧n≤8160)∧label.length≤249∧ctx.length≤255
 ·obtain⟨hn,hl2,hc2⟩:=hg
  obtain⟨m,rfl⟩:∃m:Nat,n=(m:Int):=⟨n.toNat,by omega⟩;have hm:m≤8160:=by omega
  have hmi:(m:Int)≤8160:=by omega
  have hm0:(0:Int)≤(m:Int):=by omega
  have i1:(label.length:Int)≤249:=by omega
  have i2:(ctx.length:Int)≤255:=by omega
  have hil:=inf_len label ctx m;have HE:Hid (lbP k label ctx m=exP k (inf label ctx m) m):=zh (by rw[lbP_yes k label ctx m hm hl2 hc2,exP_yes k _ m hm];rfl);have CE:=zh (fun W=>expand_ref k (inf label ctx m) m W hk (by omega));rw[←inf_parts,←app7,hks0,hls0,hcs0]at CE;rw[HE.out,←inf_parts,exP_yes k _ m hm];rw[exP_yes k _ m hm]at CE;generalize exq (ko k) (ki k) (fx (m/256) 1++fx (m%256) 1++fx (label.length+6) 1++tls++label++fx ctx.length 1++ctx) m=X at *;obtain⟨q,hq⟩:∃q,m/256=q:=⟨_,rfl⟩;obtain⟨r,hr⟩:∃r,m%256=r:=⟨_,rfl⟩;obtain⟨p,hp⟩:∃p,label.length+6=p:=⟨_,rfl⟩;rw[hq,hr,hp]at CE;have e1:(m:Int)/256=(q:Int):=by omega
  have e1':(m:Int).tdiv 256=(q:Int):=by rw[Int.tdiv_eq_ediv_of_nonneg (by omega)];exact e1
  have e2:(m:Int)%256=(r:Int):=by omega
  have e2':(m:Int).tmod 256=(r:Int):=by rw[Int.tmod_eq_emod_of_nonneg (by omega)];exact e2
  have e3:(label.length:Int)+6=(p:Int):=by omega
  have B1:=zh (fun W=>byteOf_ref q W (by omega));have B2:=zh (fun W=>byteOf_ref r W (by omega));have B3:=zh (fun W=>byteOf_ref p W (by omega));have B4:=zh (fun W=>byteOf_ref ctx.length W (by omega));have f1:(fx q 1).length=1:=fx_length _ _;have f2:(fx r 1).length=1:=fx_length _ _;have f3:(fx p 1).length=1:=fx_length _ _;have f4:(fx ctx.length 1).length=1:=fx_length _ _;obtain⟨s1,h1⟩:∃s:ByteArray,⟨(fx q 1).toArray⟩=s:=⟨_,rfl⟩;obtain⟨s2,h2⟩:∃s:ByteArray,⟨(fx r 1).toArray⟩=s:=⟨_,rfl⟩;obtain⟨s3,h3⟩:∃s:ByteArray,⟨(fx p 1).toArray⟩=s:=⟨_,rfl⟩;obtain⟨s4,h4⟩:∃s:ByteArray,⟨(fx ctx.length 1).toArray⟩=s:=⟨_,rfl⟩;have z1:s1.size=1:=by rw[←h1];exact f1
  have z2:s2.size=1:=by rw[←h2];exact f2
  have z3:s3.size=1:=by rw[←h3];exact f3
  have z4:s4.size=1:=by rw[←h4];exact f4
  rw[h1,h2,h3,h4]at CE;rw[h1]at B1;rw[h2]at B2;rw[h3]at B3;rw[h4]at B4;have CE2:Hid (∀W:World,Calls Tryz.prog 111 #[.string ks,.string (s1++s2++s3++⟨#[116,108,115,49,51,32]⟩++ls++s4++cs),.int .i64 m] W fun e w'=>e=.returned (.tuple #[.string ⟨X.toArray⟩,.int .i64 0])∧Below W.heap.size W w'):=CE;have g1:¬9223372036854775807<9+label.length:=by omega
  have g2:¬9223372036854775807<9+label.length+1:=by omega
  have g3:¬9223372036854775807<9+label.length+1+ctx.length:=by omega
  rw[hks0,hls0,hcs0];clear CE HE h1 h2 h3 h4 f1 f2 f3 f4 hq hr hp hil hks0 hls0 hcs0 hn hl2 hc2;go_enter Tryz.func77,Tryz.ntmps77;go_wp2_with fail
  with_reducible refine (B1.out _).mono ?_
  rintro e w1 ⟨rfl,hb⟩;have HB1:=zh hb;clear hb;go_wp2_with fail
  with_reducible refine (B2.out _).mono ?_
  rintro e w2 ⟨rfl,hb⟩;have HB2:=zh (HB1.out.trans (hb.mono HB1.out.size));clear hb;go_wp2_with fail
  with_reducible refine (B3.out _).mono ?_
  rintro e w3 ⟨rfl,hb⟩;have HB3:=zh (HB2.out.trans (hb.mono HB2.out.size));clear hb;go_wp2_with fail
  with_reducible refine (B4.out _).mono ?_
  rintro e w4 ⟨rfl,hb⟩;have HB4:=zh (HB3.out.trans (hb.mono HB3.out.size));clear hb;go_wp2_with fail
  with_reducible refine (CE2.out _).mono ?_
  rintro e w5 ⟨rfl,hb⟩;have HB5:=zh (HB4.out.trans (hb.mono HB4.out.size));clear hb;go_wp2
  go_ret2
  exact⟨rfl,HB5.out⟩
 ·rw[lbP_no k label ctx n hg,hks0,hls0,hcs0]
  clear hks0 hls0 hcs0;by_cases h0:0≤n
  ·by_cases h8:n≤8160
   ·by_cases hl2:label.length≤249
    ·have i1:(label.length:Int)≤249:=by omega
     have i2:¬(ctx.length:Int)≤255:=by omega
     clear hg;go_enter Tryz.func77,Tryz.ntmps77;go_wp2
     go_ret2
     exact⟨rfl,Below.refl _ _⟩
    ·have i1:¬(label.length:Int)≤249:=by omega
     clear hg;go_enter Tryz.func77,Tryz.ntmps77;go_wp2
     go_ret2
     exact⟨rfl,Below.refl _ _⟩
   ·clear hg
    go_enter Tryz.func77,Tryz.ntmps77;go_wp2
    go_ret2
    exact⟨rfl,Below.refl _ _⟩
  ·clear hg
   go_enter Tryz.func77,Tryz.ntmps77;go_wp2
   go_ret2
   exact⟨rfl,Below.refl _ _⟩
open Go.Proofs.YtagbkmoahflfdaaGreatDoor.Vm (fx fx_length vfixed)
set_option linter.unusedVariables false
set_option linter.unusedSimpArgs false
theorem of_ref(k label ctx:List UInt8)(n:Nat)(w:World)(hk:k.length≤100000)(hl:label.length≤249)(hc:ctx.length≤255)(hn:n≤8160) :
 Calls Tryz.prog 43 #[.string ⟨k.toArray⟩,.string ⟨label.toArray⟩,.string ⟨ctx.toArray⟩,.int .i64 n] w fun e w'=>e=.returned (.string ⟨(lab (ko k) (ki k) label ctx n).toArray⟩)∧Below w.heap.size w w':=by
 have CL:=zh (fun W=>label_ref k label ctx n W hk (by omega) (by omega));rw[lbP_yes k label ctx n hn hl hc]at CL;generalize lab (ko k) (ki k) label ctx n=X at *;go_enter Tryz.func43,Tryz.ntmps43;go_wp2_with fail
 with_reducible refine (CL.out _).mono ?_
 rintro e w1 ⟨rfl,hb⟩;have HB1:=zh hb;clear hb;go_wp2
 go_ret
 exact⟨rfl,HB1.out⟩
theorem inf_keysr:(Tryz.prog.info? 31).map (·.size)=some 3:=by kernel_rfl
theorem ofs_ref(k:List UInt8)(w:World)(hk:k.length≤100000) :
 Calls Tryz.prog 15 #[.string ⟨k.toArray⟩] w fun e w'=>e=.returned (.agg #[.string ⟨(kKey k).toArray⟩,.string ⟨(kIv k).toArray⟩,.string ⟨(kMask k).toArray⟩])∧Below w.heap.size w w':=by
 have L1:Hid (∀W:World,Calls Tryz.prog 43 #[.string ⟨k.toArray⟩,.string ⟨#[113,117,105,99,32,107,101,121]⟩,.string ⟨#[]⟩,.int .i64 32] W fun e w'=>e=.returned (.string ⟨(kKey k).toArray⟩)∧Below W.heap.size W w'):=zh (fun W=>of_ref k [113,117,105,99,32,107,101,121] [] 32 W hk (by decide) (by decide) (by decide));have L2:Hid (∀W:World,Calls Tryz.prog 43 #[.string ⟨k.toArray⟩,.string ⟨#[113,117,105,99,32,105,118]⟩,.string ⟨#[]⟩,.int .i64 12] W fun e w'=>e=.returned (.string ⟨(kIv k).toArray⟩)∧Below W.heap.size W w'):=zh (fun W=>of_ref k [113,117,105,99,32,105,118] [] 12 W hk (by decide) (by decide) (by decide));have L3:Hid (∀W:World,Calls Tryz.prog 43 #[.string ⟨k.toArray⟩,.string ⟨#[113,117,105,99,32,104,112]⟩,.string ⟨#[]⟩,.int .i64 32] W fun e w'=>e=.returned (.string ⟨(kMask k).toArray⟩)∧Below W.heap.size W w'):=zh (fun W=>of_ref k [113,117,105,99,32,104,112] [] 32 W hk (by decide) (by decide) (by decide));generalize kKey k=K1 at *;generalize kIv k=K2 at *;generalize kMask k=K3 at *;go_enter Tryz.func15,Tryz.ntmps15;go_wp2_with fail
 with_reducible refine (L1.out _).mono ?_
 rintro e w1 ⟨rfl,hb⟩;have HZ1:Hid (w1.heap[w.heap.size]?=some (.cells #[.string ⟨#[]⟩,.string ⟨#[]⟩,.string ⟨#[]⟩] 31 (0,0))):=zh ((hb.block w.heap.size (by simp)).trans (heap_alloc_new w _));have HB1:=zh (((Below.refl w.heap.size w).alloc zle (.cells #[.string ⟨#[]⟩,.string ⟨#[]⟩,.string ⟨#[]⟩] 31)).trans (hb.mono (by simp)));have hlt1:w.heap.size<w1.heap.size:=by have:=hb.size;simp at this;omega
 clear hb;go_wp2_with fail
 with_reducible refine (L2.out _).mono ?_
 rintro e w2 ⟨rfl,hb⟩;have HZ2:=zh ((hb.block w.heap.size hlt1).trans HZ1.out);have HB2:=zh (HB1.out.trans (hb.mono HB1.out.size));have hlt2:w.heap.size<w2.heap.size:=Nat.lt_of_lt_of_le hlt1 hb.size;clear hb;go_wp2_with fail
 with_reducible refine (L3.out _).mono ?_
 rintro e w3 ⟨rfl,hb⟩;have HZ3:=zh ((hb.block w.heap.size hlt2).trans HZ2.out);have HB3:=zh (HB2.out.trans (hb.mono HB2.out.size));have hz0:w3.cell? ⟨w.heap.size,0,none⟩=some (.string ⟨#[]⟩):=by rw[Lib.cell_of_heap HZ3.out];rfl
 have hz1:w3.cell? ⟨w.heap.size,1,none⟩=some (.string ⟨#[]⟩):=by rw[Lib.cell_of_heap HZ3.out];rfl
 have hz2:w3.cell? ⟨w.heap.size,2,none⟩=some (.string ⟨#[]⟩):=by rw[Lib.cell_of_heap HZ3.out];rfl
 have hf:∀j,w3.frozen? ⟨w.heap.size,j,none⟩=false:=fun j=>Lib.frozen_of_heap HZ3.out j
 clear hb;go_wp2_with fail
 exact bodyPost_ret (v:=.agg #[.string ⟨K1.toArray⟩,.string ⟨K2.toArray⟩,.string ⟨K3.toArray⟩]) (results_cell_row Tryz.results15 _ _ w.heap.size _ _ _ _ rfl (three_put HZ3.out) Tryz.underlying31 rfl inf_keysr) rfl ⟨rfl,below_put (below_put (below_put HB3.out zle _ _) zle _ _) zle _ _⟩
theorem next_ref(k:List UInt8)(w:World)(hk:k.length≤100000) :
 Calls Tryz.prog 51 #[.string ⟨k.toArray⟩] w fun e w'=>e=.returned (.string ⟨(nxt k).toArray⟩)∧Below w.heap.size w w':=by
 have L1:Hid (∀W:World,Calls Tryz.prog 43 #[.string ⟨k.toArray⟩,.string ⟨#[113,117,105,99,32,107,117]⟩,.string ⟨#[]⟩,.int .i64 32] W fun e w'=>e=.returned (.string ⟨(nxt k).toArray⟩)∧Below W.heap.size W w'):=zh (fun W=>of_ref k [113,117,105,99,32,107,117] [] 32 W hk (by decide) (by decide) (by decide));generalize nxt k=X at *;go_enter Tryz.func51,Tryz.ntmps51;go_wp2_with fail
 with_reducible refine (L1.out _).mono ?_
 rintro e w1 ⟨rfl,hb⟩;have HB1:=zh hb;clear hb;go_wp2
 go_ret
 exact⟨rfl,HB1.out⟩
end Go.Proofs.YtagbkmoahflfdaaGreatDoor.Kd
