import Derived.Test.YtagbkmoahflfdaaGreatDoorJp01
import Derived.Test.YtagbkmoahflfdaaGreatDoorJp09
import Derived.Lib.AppendZeros
import Derived.Laws.Tables
import Derived.Lib.FrozenHead
set_option maxRecDepth 20000
set_option linter.unusedVariables false
set_option linter.unusedSimpArgs false
set_option maxHeartbeats 4000000
namespace Go.Proofs.YtagbkmoahflfdaaGreatDoor.Dg
open Tk Go.RowKit
def OwnM (w:World) (B:Nat) (v:Value) (l:List UInt8):Prop:=
 ∃ g cap cur fz,v=.slice (some ⟨g,0,none⟩) l.length cap∧B≤g∧w.heap[g]?=some (.cells cur 5 fz)∧(cur.size≤fz.1∨fz.2=0)∧l.length≤cap∧cap≤maxLen∧cur.size=cap∧cur.toList.take l.length=Lib.byteCells l
theorem OwnM.form{w:World}{B:Nat}{v:Value}{l:List UInt8}(h:OwnM w B v l):∃g c,v=.slice (some ⟨g,0,none⟩) l.length c:=by
 obtain⟨g,cap,_,_,hv,_⟩:=h;exact⟨g,cap,hv⟩
theorem OwnM.lt{w:World}{B g c:Nat}{l:List UInt8}(h:OwnM w B (.slice (some ⟨g,0,none⟩) l.length c) l):B≤g∧g<w.heap.size:=by
 obtain⟨g',cap,cur,fz,hv,hb,hg,_⟩:=h;simp only[Value.slice.injEq,Option.some.injEq,Addr.mk.injEq,and_true,true_and]at hv;obtain⟨rfl,rfl⟩:=hv;exact⟨hb,(Array.getElem?_eq_some_iff.1 hg).1⟩
theorem OwnM.keep{w w':World}{B:Nat}{v:Value}{l:List UInt8}(h:OwnM w B v l)(hb:Below w.heap.size w w'):OwnM w' B v l:=by
 obtain⟨g,cap,cur,fz,hv,hbg,hg,r⟩:=h;exact⟨g,cap,cur,fz,hv,hbg,by rw[hb.block g (Array.getElem?_eq_some_iff.1 hg).1];exact hg,r⟩
theorem OwnM.cell{w:World}{B g c:Nat}{l:List UInt8}(h:OwnM w B (.slice (some ⟨g,0,none⟩) l.length c) l)(j:Nat)(hj:j<l.length):w.cell? ⟨g,j,none⟩=(Lib.byteCells l)[j]?:=by
 obtain⟨g',cap,cur,fz,hv,hb,hg,_,_,_,_,ht⟩:=h;simp only[Value.slice.injEq,Option.some.injEq,Addr.mk.injEq,and_true,true_and]at hv;obtain⟨rfl,rfl⟩:=hv;rw[cell_of_row w g j cur _ fz hg,←ht,List.getElem?_take,if_pos hj];simp
theorem run_storeCells_atM(P:Program)(g o:Nat)(t:TypeId)(fz:Nat×Nat):∀(vs:List Value) (i:Nat) (cur:Array Value) (w:World),w.heap[g]?=some (.cells cur t fz)→(cur.size≤fz.1∨fz.2=0)→o+i+vs.length≤cur.size→(∀v ∈ vs,v.oneCell'=true) →
 (storeCells ⟨g,o,none⟩ vs i).run P w=.ok () (w.setRow g (cur.toList.take (o+i)++vs++cur.toList.drop (o+i+vs.length)).toArray)
 | [],i,cur,w,hg,_,_,_=>by
  simp only[storeCells,List.append_nil,List.length_nil,Nat.add_zero,List.take_append_drop,Array.toArray_toList];rw[setRow_self w g cur t fz hg];rfl
 | v::rest,i,cur,w,hg,hfz,hl,h1=>by
  have hi:o+i<cur.size:=by simp at hl;omega
  have hadd:(⟨g,o,none⟩:Addr).add i=⟨g,o+i,none⟩:=by unfold Addr.add;split<;>simp_all
  have hcell:w.cell? ⟨g,o+i,none⟩=some cur[o+i]:=by simp[World.cell?,hg,hi]
  have hfro:w.frozen? ⟨g,o+i,none⟩=false:=by
   obtain⟨lo,hi'⟩:=fz;simp only[World.frozen?,hg,Bool.and_eq_false_iff,decide_eq_false_iff_not];simp only at hfz;omega
  have hst:(store ((⟨g,o,none⟩:Addr).add i) v).run P w=.ok () (w.setRow g (cur.setIfInBounds (o+i) v)):=by
   rw[hadd,run_store P w _ v _ (h1 v (by simp)),hcell];simp[hfro,setCell_eq_setRow w g (o+i) cur t fz v hg]
  have ih:=run_storeCells_atM P g o t fz rest (i+1) (cur.setIfInBounds (o+i) v) (w.setRow g (cur.setIfInBounds (o+i) v)) (setRow_heap w g cur _ t _ hg) (by simpa using hfz) (by simp at hl ⊢;omega) (fun x hx=>h1 x (by simp[hx]));simp only[storeCells,Sem.run_bind,hst,Result.andThen_ok,ih,setRow_setRow]
  congr 3
  have e:=list_seg_step cur.toList (o+i) v rest (by simp at hl ⊢;omega)
  simpa[Array.toList_setIfInBounds,Nat.add_assoc] using e
theorem run_append_M(w:World)(B:Nat)(i:TypeInfo)(ty:TypeId)(hi:Tryz.prog.info? 5=some i)(hz:i.zero=some (.int .u8 0))(hs:i.size=1)(hby:i.bytes=1)
 (g n c:Nat)(l m:List UInt8)(hn:n=l.length)(h:OwnM w B (.slice (some ⟨g,0,none⟩) n c) l)(a:Addr)(k ca:Nat)(hk:k=m.length)(hnews:∀j u,(Lib.byteCells m)[j]?=some u→w.cell? (a.add j)=some u)
 (h63:l.length+m.length≤1000000)(hbase:B≤w.heap.size) :
 ∃ g' c' w',(Builtin.append_ #[66,66] ty #[.slice (some ⟨g,0,none⟩) n c,.slice (some a) k ca]).run Tryz.prog w=.ok (.slice (some ⟨g',0,none⟩) (l++m).length c') w'∧OwnM w' B (.slice (some ⟨g',0,none⟩) (l++m).length c') (l++m)∧w.grownBy w' (some g):=by
 subst hn hk;have hmx:l.length+m.length≤maxLen:=by unfold maxLen;omega
 have h1:∀u ∈ Lib.byteCells m,u.oneCell'=true:=by
  intro u hu;obtain⟨x,_,rfl⟩:=List.mem_map.1 hu;rfl
 have hcl:=h.cell;obtain⟨g',cap,cur,fz,hv,hb,hg,hfz,hnc,hcm,hcs,ht⟩:=h;simp only[Value.slice.injEq,Option.some.injEq,Addr.mk.injEq,and_true,true_and]at hv;obtain⟨rfl,rfl⟩:=hv;rw[List.length_append];by_cases hroom:l.length+m.length≤c
 ·have hf:=run_firstCells_some (P:=Tryz.prog) w i.size m.length a m.length ca (Lib.byteCells m) (by rw[byteCells_len,hs,Nat.mul_one]) hnews
  have hst:=run_storeCells_atM Tryz.prog g l.length 5 fz (Lib.byteCells m) 0 cur w hg hfz (by rw[byteCells_len];omega) h1;simp only[Nat.add_zero]at hst;refine⟨g,c,w.setRow g (cur.toList.take l.length++Lib.byteCells m++cur.toList.drop (l.length+(Lib.byteCells m).length)).toArray,?_,⟨g,c,_,fz,by rw[List.length_append],hb,setRow_heap w g cur _ _ fz hg,?_,by rw[List.length_append];exact hroom,hcm,?_,?_⟩,⟨rfl,rfl,rfl,by simp,fun k _ hk=>setRow_other w g k _ (fun e=>hk (by rw[e]))⟩⟩
  ·rw[hs]at hf
   simp[Builtin.append_,run_underlying Tryz.underlying66,sizeOf,typeInfo,hi,hs,Builtin.lenOf,hroom,hf,Addr.add_lit,hst]
  ·refine hfz.imp ?_ id
   intro h;simp only[List.size_toArray,List.length_append,List.length_take,List.length_drop,Array.length_toList,byteCells_len];omega
  ·simp only[List.size_toArray,List.length_append,List.length_take,List.length_drop,Array.length_toList,byteCells_len]
   omega
  ·rw[ht,byteCells_app]
   refine (List.take_append_of_le_length ?_).trans (List.take_of_length_le ?_)
   ·simp[byteCells_len]
   ·simp[byteCells_len]
 ·have hr:=run_append_grow (P:=Tryz.prog) w 66 ty 5 i (.int .u8 0) Tryz.underlying66 hi hz ⟨g,0,none⟩ l.length c (Lib.byteCells l) (by rw[byteCells_len,hs,Nat.mul_one])
   (by
    intro j u hu
    have hj:j<l.length:=by
     have:=(List.getElem?_eq_some_iff.1 hu).1
     rwa[byteCells_len]at this
    have e:(⟨g,0,none⟩:Addr).add j=⟨g,j,none⟩:=by unfold Addr.add;split<;>simp_all
    rw[e,hcl j hj,hu]) a m.length ca (Lib.byteCells m) (by rw[byteCells_len,hs,Nat.mul_one]) hnews (by omega) (by omega) (by rw[hby];exact growslice_fits (by omega) (by omega))
  have hge:=grownCap_ge w (l.length+m.length) c 5;have hcm2:grownCap w (l.length+m.length) c 5≤maxLen:=grownCap_le_maxLen w (l.length+m.length) c 5 hmx;refine⟨w.heap.size,_,_,hr,⟨w.heap.size,_,_,(0,0),by rw[List.length_append],hbase,heap_alloc_new w.drew _,.inr rfl,by rw[List.length_append];exact hge,hcm2,?_,?_⟩,⟨rfl,rfl,rfl,by simp,fun k hk _=>World.grownBy.block (World.grownBy_alloc w.drew _ none) k hk (by simp)⟩⟩
  ·have hz1:(Value.int IntKind.u8 0).cells.size=1:=rfl
   simp only[Array.size_append,List.size_toArray,size_zeroCells,hz1,byteCells_len];omega
  ·rw[byteCells_app]
   simp only[Array.toList_append];refine (List.take_append_of_le_length ?_).trans (List.take_of_length_le ?_)
   ·simp[byteCells_len]
   ·simp[byteCells_len]
theorem bytes_own(W:World)(s:ByteArray)(hs:s.size≤1000000):∃c W',(convert 9 66 (.string s)).run Tryz.prog W=.ok (.slice (some ⟨W.heap.size,0,none⟩) s.size c) W'∧Below W.heap.size W W'∧OwnM W' W.heap.size (.slice (some ⟨W.heap.size,0,none⟩) s.size c) s.data.toList:=by
 have h:=Lib.run_convert_string_bytes (P:=Tryz.prog) W 9 66 5 s Tryz.underlying9 Tryz.underlying66 Tryz.underlying5;have hl:s.data.toList.length=s.size:=by simp
 refine⟨_,_,h,⟨rfl,rfl,rfl,by rw[Lib.bytesWorld_size];omega,fun k hk=>Lib.bytesWorld_at_old _ _ _ _ hk⟩,W.heap.size,_,_,_,by rw[hl],Nat.le_refl _,Lib.bytesWorld_at_new _ _ _,.inl zle,?_,?_,?_,?_⟩
 ·rw[hl];exact grownCap_ge _ _ _ _
 ·exact grownCap_le_maxLen _ _ _ _ (by unfold maxLen;omega)
 ·have:=grownCap_ge W s.size 0 5
  have h2:s.data.size=s.size:=rfl;simp only[Lib.bytesCells,Array.size_append,Array.size_map,Array.size_replicate,h2];omega
 ·unfold Lib.bytesCells Lib.byteCells
  rw[Array.toList_append,Array.toList_map,List.take_append_of_le_length (by simp),List.take_of_length_le (by simp)]
theorem conv_ownM{wr:World}{B g n c:Nat}(l:List UInt8)(hn:n=l.length)(h:OwnM wr B (.slice (some ⟨g,0,none⟩) n c) l) :
 (convert 66 9 (.slice (some ⟨g,0,none⟩) n c)).run Tryz.prog wr=.ok (.string ⟨l.toArray⟩) wr:=by
 subst hn;refine run_convert_bytes_back (P:=Tryz.prog) wr 66 9 5 _ c l Tryz.underlying66 Tryz.underlying5 Tryz.underlying9 ?_;intro j hj
 have e:(⟨g,0,none⟩:Addr).add j=⟨g,j,none⟩:=by unfold Addr.add;split<;>simp_all
 rw[e,h.cell j hj];simp[Lib.byteCells,List.getElem?_eq_getElem hj]
theorem wpList_built{P:Program}{ops:Array Oper}{rest:List Oper}{o:Oper}{a:Act}{w:World}{Q:Exit→Act→World→Prop}(hg:o.guard=none)(t:TypeId)(parts:Array (Nat×Operand))(ho:o.op=.build t parts)
 (cells:Array Value)(hf:P.built t (parts.map fun (i,x)=>(i,a.eval x)).toList=some cells)
 (h:wpList P ops Q rest (a.put o.dst (.agg cells)) w):wpList P ops Q (o::rest) a w:=
 wpList_build hg t parts ho (by rw[hf];rfl) (by rw[hf];exact h)
def AQ (T:TypeId) (w:World) (b:Nat) (l:List Nat):Prop:=w.heap[b]?=some (.cells (l.map fun x:Nat=>Value.int .u64 x).toArray T (0,0))
theorem AQ.lt{T:TypeId}{w:World}{b:Nat}{l:List Nat}(h:AQ T w b l):b<w.heap.size:=by
 rcases Nat.lt_or_ge b w.heap.size with h1|h1
 ·exact h1
 ·unfold AQ at h;rw[Array.getElem?_eq_none h1]at h;cases h
theorem AQ.keep{T:TypeId}{w w':World}{b:Nat}{l:List Nat}(h:AQ T w b l)(hb:Below w.heap.size w w'):AQ T w' b l:=by
 have hlt:=h.lt;unfold AQ at *;rw[hb.block b hlt];exact h
theorem AQ.cell{T:TypeId}{w:World}{b:Nat}{l:List Nat}(h:AQ T w b l)(j:Nat)(hj:j<l.length):w.cell? ⟨b,j,none⟩=some (.int .u64 (l.getD j 0:Nat)):=by
 rw[Lib.cell_of_heap h];simp[List.getD,List.getElem?_eq_getElem hj]
theorem AQ.fz{T:TypeId}{w:World}{b:Nat}{l:List Nat}(h:AQ T w b l)(j:Nat):w.frozen? ⟨b,j,none⟩=false:=Lib.frozen_of_heap h j
theorem AQ.set{T:TypeId}{w:World}{b:Nat}{l:List Nat}(h:AQ T w b l)(j x:Nat):AQ T (w.setCell ⟨b,j,none⟩ (.int .u64 x)) b (l.set j x):=by
 have:=Joins.block_setCell (i:=j) h (.int .u64 (x:Int));unfold AQ;rw[this];simp[List.map_set]
theorem AQ.other{T:TypeId}{w:World}{b c:Nat}{l:List Nat}(h:AQ T w b l)(hc:b≠c)(j:Nat)(v:Value):AQ T (w.setCell ⟨c,j,none⟩ v) b l:=by
 unfold AQ at *;rw[heap_setCell_other _ _ _ _ hc];exact h
theorem AQ.drew{T:TypeId}{w:World}{b:Nat}{l:List Nat}(h:AQ T w b l):AQ T w.drew b l:=h
theorem AQ.drewN{T:TypeId}{w:World}{b n:Nat}{l:List Nat}(h:AQ T w b l):AQ T (w.drewN n) b l:=h
theorem all_words64(l:List Nat):(l.map fun x:Nat=>Value.int .u64 x).toArray.all (·.oneCell')=true:=by
 refine all_oneCell_toArray ?_;intro v hv;obtain⟨x,_,rfl⟩:=List.mem_map.1 hv;rfl
theorem infQ64:(Tryz.prog.info? 211).map (·.size)=some 64:=by kernel_rfl
theorem infQ8:(Tryz.prog.info? 194).map (·.size)=some 8:=by kernel_rfl
theorem w64_len(l:List Nat):(l.map fun x:Nat=>Value.int .u64 x).toArray.size=l.length:=by simp
theorem constants_ref(w:World):Calls Tryz.prog 168 #[] w fun e w'=>e=.returned (.agg (K0.map fun x:Nat=>Value.int .u64 x).toArray)∧Below w.heap.size w w':=by
 obtain⟨K,hK⟩:∃K,K0=K:=⟨_,rfl⟩;have hl:K.length=64:=by rw[←hK];rfl
 rw[hK];have HK:=zh hK;clear hK;go_enter Tryz.func168,Tryz.ntmps168;go_upto_region 1 with (fail)
 refine wp_region_lit ?_;refine (fun (h:∀W0:World,AQ 211 W0 w.heap.size (List.replicate 64 0)→Below w.heap.size w W0→wpList _ _ _ _ _ W0)=>h _ (heap_alloc_new w _) ((Below.refl _ _).alloc zle _)) ?_;intro W0 HA HB0;refine wpList_built rfl _ _ rfl (K.map fun x:Nat=>Value.int .u64 x).toArray (by rw[←HK.out];kernel_rfl) ?_;refine wpList_store_row rfl _ _ _ rfl w.heap.size _ rfl rfl _ _ HA (by rw[infQ64,w64_len,hl]) (by rw[w64_len,w64_len,hl,List.length_replicate]) (all_words64 _) ?_;have HRW:Hid (AQ 211 (W0.setRow w.heap.size (K.map fun x:Nat=>Value.int .u64 x).toArray) w.heap.size K):=zh (setRow_heap _ w.heap.size _ _ _ _ HA);have HBW:=zh (below_setRow HB0 zle (K.map fun x:Nat=>Value.int .u64 x).toArray);clear HA HB0;generalize W0.setRow w.heap.size (K.map fun x:Nat=>Value.int .u64 x).toArray=W at *;go_wp2;exact bodyPost_ret (v:=.agg (K.map fun x:Nat=>Value.int .u64 x).toArray) (results_cell_row Tryz.results168 _ W w.heap.size _ _ _ _ rfl HRW.out Tryz.underlying211 rfl (by rw[infQ64,w64_len,hl])) rfl ⟨rfl,HBW.out⟩
def l8 (n:Nat):List UInt8:=bes [8*n/4294967296,8*n%4294967296]
theorem l8_step(n j:Nat)(hn:n≤100000)(hj:j<8):(l8 n).take (j+1)=(l8 n).take j++[UInt8.ofNat (8*n/2^(8*(7-j))%256)]:=by
 have h0:8*n/4294967296=0:=by omega
 have h1:8*n%4294967296=8*n:=by omega
 unfold l8;rw[h0,h1]
 have e:∀x,UInt8.ofNat (x%256)=UInt8.ofNat x:=by
  intro x;apply UInt8.toNat_inj.1;simp[UInt8.toNat_ofNat']
 have:j=0∨j=1∨j=2∨j=3∨j=4∨j=5∨j=6∨j=7:=by omega
 have g:∀k,32≤k→8*n/2^k=0:=by
  intro k hk;apply Nat.div_eq_of_lt;have:2^32≤2^k:=Nat.pow_le_pow_right (by decide) hk;omega
 rcases this with rfl|rfl|rfl|rfl|rfl|rfl|rfl|rfl<;>rw[e]<;>first|(rw[g _ (by decide)];rfl)|rfl|(simp[bes,be])
theorem l8_len(n:Nat):(l8 n).length=8:=rfl
theorem zs_stop(n k:Nat)(hk:k≤zs n):((n+1+k)%64=56 ↔ k=zs n):=by
 unfold zs at *;omega
theorem pad_eq(l:List UInt8):pad l=l++[128]++List.replicate (zs l.length) 0++l8 l.length:=rfl
theorem rep_step(l:List UInt8)(k:Nat):l++[128]++List.replicate (k+1) 0=(l++[128]++List.replicate k 0)++[0]:=by
 rw[List.replicate_succ',List.append_assoc,List.append_assoc,List.append_assoc]
theorem one_cell(W:World)(x:UInt8):∀j u,(Lib.byteCells [x])[j]?=some u→(W.alloc (.cells #[.int .u8 (x.toNat:Nat)] 5)).cell? ((⟨W.heap.size,0,none⟩:Addr).add j)=some u:=by
 intro j u hu
 cases j with
 | zero=>
  simp only[Lib.byteCells,List.map_cons,List.map_nil,List.getElem?_cons_zero,Option.some.injEq]at hu;subst hu;simp[Addr.add,go_sem]
 | succ j=>simp[Lib.byteCells]at hu
theorem OwnM.alloc{w:World}{B:Nat}{v:Value}{l:List UInt8}(h:OwnM w B v l)(o:Obj):OwnM (w.alloc o) B v l:=h.keep ((Below.refl _ _).alloc zle _)
def slLen:Value→Nat
 | .slice _ n _=>n
 | _=>0
theorem push_M(w:World)(B:Nat)(ty:TypeId)(g n c:Nat)(l:List UInt8)(x:UInt8)(hn:n=l.length)(h:OwnM w B (.slice (some ⟨g,0,none⟩) n c) l)(hl:l.length≤900000)(hbase:B≤w.heap.size) :
 ∃ g' c' w',(Builtin.append_ #[66,66] ty #[.slice (some ⟨g,0,none⟩) n c,.slice (some ⟨w.heap.size,0,none⟩) 1 1]).run Tryz.prog (w.alloc (.cells #[.int .u8 (x.toNat:Nat)] 5))=.ok (.slice (some ⟨g',0,none⟩) (n+1) c') w' ∧
  OwnM w' B (.slice (some ⟨g',0,none⟩) (n+1) c') (l++[x])∧Below B w w':=by
 obtain⟨i0,hi,hz0,hz1,hz2⟩:=info_parts Bld.infoB;have hlt:B≤g:=by subst hn;exact h.lt.1
 obtain⟨g',c',w',h1,h2,h3⟩:=run_append_M (w.alloc (.cells #[.int .u8 (x.toNat:Nat)] 5)) B i0 ty hi hz0 hz1 hz2 g n c l [x] hn (h.alloc _) ⟨w.heap.size,0,none⟩ 1 1 rfl (one_cell w x) (by simp;omega) (by simp;omega);rw[List.length_append,←hn]at h1 h2;refine⟨g',c',w',h1,h2,((Below.refl _ _).alloc hbase _).grown h3 (by simp;omega) (fun k hk=>by cases hk;exact hlt)⟩
theorem filled_ref(s:ByteArray)(w:World)(hs:s.size≤100000) :
 Calls Tryz.prog 146 #[.string s] w fun e w'=>e=.returned (.string ⟨(pad s.data.toList).toArray⟩)∧Below w.heap.size w w':=by
 have hls:s.data.toList.length=s.size:=by simp
 obtain⟨c0,w1,hconv,hb1,ho1⟩:=bytes_own w s (by omega);obtain⟨Z,hZ⟩:∃Z,zs s.size=Z:=⟨_,rfl⟩;have hZ64:Z≤63:=by rw[←hZ];unfold zs;omega
 have HST:=zh (fun k hk=>zs_stop s.size k hk);have HP:=zh (pad_eq s.data.toList);rw[hls,hZ]at HP;rw[hZ]at HST;have HL8:=zh (fun j hj=>l8_step s.size j hs hj);have HLS:=zh hls;have hsi:(s.size:Int)≤100000:=by omega
 obtain⟨g1,c1,w2,ha,ho2,hb2⟩:=push_M w1 w.heap.size 66 w.heap.size s.size c0 s.data.toList 128 hls.symm ho1 (by omega) hb1.size;have HA:=zh ha;have HO2:=zh ho2;have HB2:=zh (hb1.trans hb2);have hs2:=(hb1.trans hb2).size;clear ha ho2 hb1 hb2 ho1 hZ hls;go_enter Tryz.func146,Tryz.ntmps146;go_wp2_with (at_builtin;refine Lib.wpList_append_run _ rfl _ _ _ _ rfl _ _ rfl rfl _ _ HA.out ?_)
 go_loopw [3] (fun bv wr=>∃(k g c:Nat),k≤Z∧bv=.slice (some ⟨g,0,none⟩) (s.size+1+k) c∧OwnM wr w.heap.size (.slice (some ⟨g,0,none⟩) (s.size+1+k) c) (s.data.toList++[128]++List.replicate k 0)∧Below w.heap.size w wr) (fun bv _=>s.size+1+Z-slLen bv)
 case atStart=>exact⟨0,g1,c1,Nat.zero_le _,rfl,by simpa using HO2.out,HB2.out⟩
 case round=>
  clear HO2 HB2 HA hs2;obtain⟨k,g,c,hk,rfl,hO,hB⟩:=hrel;have HO:=zh hO;have HB:=zh hB;have hsz:=hB.size;have hstop:=HST.out k hk;clear hO hB;obtain⟨n,hn⟩:∃n,s.size+1+k=n:=⟨_,rfl⟩;rw[hn]at HO hstop;rw[hn];have hn1:n≤200000:=by omega
  have HN:=zh hn;clear hn;by_cases hlt:k<Z
  ·have hne:¬((n:Int)%64=56):=by omega
   obtain⟨g2,c2,w3,ha,ho3,hb3⟩:=push_M wr w.heap.size 66 g n c _ 0 (by have:=HN.out;have:=HLS.out;simp only[List.length_append,List.length_replicate,List.length_cons,List.length_nil];omega) HO.out (by have:=HN.out;have:=HLS.out;simp only[List.length_append,List.length_replicate,List.length_cons,List.length_nil];omega) hsz;have HA:=zh ha;have HO3:=zh ho3;have HB3:=zh (HB.out.trans hb3);clear ha ho3 hb3 hstop HB;go_wp2_with (at_builtin;refine Lib.wpList_append_run _ rfl _ _ _ _ rfl _ _ rfl rfl _ _ HA.out ?_)
   go_roundw
   case rel=>exact⟨k+1,g2,c2,by omega,by rw[←HN.out,Nat.add_assoc],by rw[rep_step,←Nat.add_assoc,HN.out];exact HO3.out,HB3.out⟩
   case measure=>have:=HN.out;simp[slLen];omega
  ·obtain rfl:k=Z:=by omega
   have heq:(n:Int)%64=56:=by omega
   obtain⟨X,hX⟩:∃X,s.data.toList++[128]++List.replicate k 0=X:=⟨_,rfl⟩;rw[hX]at HO HP;have hXl:X.length=n:=by have:=HN.out;have:=HLS.out;rw[←hX];simp only[List.length_append,List.length_replicate,List.length_cons,List.length_nil];omega
   have HXL:=zh hXl;clear hX hXl hstop;go_wp2
   go_loopw [3,4] (fun bv iv wx=>∃(j g c:Nat),j≤8∧iv=.int .i64 (7-(j:Int))∧bv=.slice (some ⟨g,0,none⟩) (n+j) c∧OwnM wx w.heap.size (.slice (some ⟨g,0,none⟩) (n+j) c) (X++(l8 s.size).take j)∧Below w.heap.size w wx) (fun _ iv _=>(intOf iv+1).toNat)
   case atStart=>exact⟨0,g,c,Nat.zero_le _,rfl,rfl,by simpa using HO.out,HB.out⟩
   case round=>
    clear HO HB hsz;obtain⟨j,g,c,hj,rfl,rfl,hO,hB⟩:=hrel;have HO:=zh hO;have HB:=zh hB;have hsz:=hB.size;clear hO hB;by_cases hj8:j<8
    ·obtain⟨m,hm⟩:∃m,7-j=m:=⟨_,rfl⟩
     have him:7-(j:Int)=(m:Int):=by omega
     have HS:=zh (HL8.out j hj8);rw[hm]at HS;obtain⟨E,hE⟩:∃E,8*m=E:=⟨_,rfl⟩;rw[hE]at HS;have hE1:E≤56:=by omega
     have CP:=zh (fun w=>power_ref E w (by omega));have e1:(8:Int)*(m:Int)=(E:Int):=by omega
     have e1':IntKind.i64.wrap (E:Int)=(E:Int):=by rw[IntWalk.i64_in _ (by omega)]
     have hp0:1≤2^E:=Nat.one_le_two_pow;obtain⟨P,hP⟩:∃P,2^E=P:=⟨_,rfl⟩;rw[hP]at HS CP hp0;obtain⟨M,hM⟩:∃M,8*s.size=M:=⟨_,rfl⟩;rw[hM]at HS;have hM1:M≤800000:=by omega
     have e2:IntKind.u64.wrap (s.size:Int)=(s.size:Int):=by rw[IntKind.wrap_u64];omega
     have e3:(s.size:Int)*8=(M:Int):=by omega
     have e3':IntKind.u64.wrap (M:Int)=(M:Int):=by rw[IntKind.wrap_u64];omega
     obtain⟨D,hD⟩:∃D,M/P=D:=⟨_,rfl⟩;rw[hD]at HS;have hD1:D≤800000:=by have:=Nat.div_le_self M P;omega
     have e4:(M:Int)/(P:Int)=(D:Int):=by rw[←hD];push_cast;rfl
     have e4':(M:Int).tdiv (P:Int)=(D:Int):=by rw[Int.tdiv_eq_ediv_of_nonneg (by omega)];exact e4
     have e4'':IntKind.u64.wrap (D:Int)=(D:Int):=by rw[IntKind.wrap_u64];omega
     obtain⟨R,hR⟩:∃R,D%256=R:=⟨_,rfl⟩;rw[hR]at HS;have hR1:R<256:=by omega
     have e5:(D:Int)%256=(R:Int):=by omega
     have e5':(D:Int).tmod 256=(R:Int):=by rw[Int.tmod_eq_emod_of_nonneg (by omega)];exact e5
     have e6:IntKind.u8.wrap (R:Int)=(R:Int):=by rw[IntKind.wrap_u8];omega
     have e6':(R:Int)%256=(R:Int):=by omega
     have e7:(UInt8.ofNat R).toNat=R:=by rw[UInt8.toNat_ofNat',Nat.mod_eq_of_lt (by omega)]
     have hPne:((P:Int)==0)=false:=by rw[beq_eq_false_iff_ne];omega
     have hXj:n+j=(X++(l8 s.size).take j).length:=by rw[List.length_append,HXL.out,List.length_take,l8_len];omega
     obtain⟨g2,c2,w3,ha,ho3,hb3⟩:=push_M wr w.heap.size 66 g (n+j) c _ (UInt8.ofNat R) hXj HO.out (by omega) hsz;rw[e7]at ha;rw[List.append_assoc,←HS.out]at ho3;have HA:=zh ha;have HO3:=zh ho3;have HB3:=zh (HB.out.trans hb3);have HM:=zh hm;clear ha ho3 hb3 HB hXj e7 hE hD hM hP hR hm HS heq;rw[him];go_wp2_with (first|(go_at_call 148;(with_reducible refine (CP.out _).mono ?_);rintro e w4 ⟨rfl,rfl⟩)|(at_builtin;refine Lib.wpList_append_run _ rfl _ _ _ _ rfl _ _ rfl rfl _ _ HA.out ?_))
     go_roundw
     case rel=>exact⟨j+1,g2,c2,by omega,by have:=HM.out;go_num,rfl,HO3.out,HB3.out⟩
     case measure=>have:=HM.out;simp[intOf]
    ·obtain rfl:j=8:=by omega
     have hc:(convert 66 9 (.slice (some ⟨g,0,none⟩) (n+8) c)).run Tryz.prog wr=.ok (.string ⟨(pad s.data.toList).toArray⟩) wr:=by
      rw[HP.out];have h:=HO.out;rw[List.take_of_length_le (by rw[l8_len];exact Nat.le_refl _)]at h;exact conv_ownM _ (by rw[List.length_append,HXL.out,l8_len]) h
     clear HO;go_wp2
     go_ret
     exact⟨rfl,HB.out⟩
end Go.Proofs.YtagbkmoahflfdaaGreatDoor.Dg
