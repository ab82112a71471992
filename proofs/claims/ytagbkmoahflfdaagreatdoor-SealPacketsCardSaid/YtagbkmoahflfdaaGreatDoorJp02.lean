import Derived.Test.YtagbkmoahflfdaaGreatDoorJp01
import Derived.Lib.SmallJoins
import Derived.Deep.MidRow
import Derived.Deep.WholeRow
import Derived.Deep.RegionHeld3
import Derived.IntWalk
import Derived.Deep.CutRange
import Derived.Laws.CopyOwn
import Derived.Laws.IdiomStrings
import Derived.RangeFuncNested
import Derived.RangeFuncBound
import Derived.RangeFuncLeaves
import Derived.WalkKit
import Derived.Test.YtagbkmoahflfdaaGreatDoorProg
set_option maxHeartbeats 4000000
set_option maxRecDepth 20000
set_option linter.unusedVariables false
set_option linter.unusedSimpArgs false
namespace Go.Proofs.YtagbkmoahflfdaaGreatDoor.Dg
open Tk Go.RowKit
def AB (w:World) (b:Nat) (l:List Nat):Prop:=w.heap[b]?=some (.cells (l.map fun x:Nat=>Value.int .u32 x).toArray 186 (0,0))
theorem AB.lt{w:World}{b:Nat}{l:List Nat}(h:AB w b l):b<w.heap.size:=by
 rcases Nat.lt_or_ge b w.heap.size with h1|h1
 ·exact h1
 ·unfold AB at h;rw[Array.getElem?_eq_none h1]at h;cases h
theorem AB.keep{w w':World}{b:Nat}{l:List Nat}(h:AB w b l)(hb:Below w.heap.size w w'):AB w' b l:=by
 have hlt:=h.lt;unfold AB at *;rw[hb.block b hlt];exact h
theorem AB.cell{w:World}{b:Nat}{l:List Nat}(h:AB w b l)(j:Nat)(hj:j<l.length):w.cell? ⟨b,j,none⟩=some (.int .u32 (l.getD j 0:Nat)):=by
 rw[Lib.cell_of_heap h];simp[List.getD,List.getElem?_eq_getElem hj]
theorem AB.fz{w:World}{b:Nat}{l:List Nat}(h:AB w b l)(j:Nat):w.frozen? ⟨b,j,none⟩=false:=Lib.frozen_of_heap h j
theorem AB.set{w:World}{b:Nat}{l:List Nat}(h:AB w b l)(j x:Nat):AB (w.setCell ⟨b,j,none⟩ (.int .u32 x)) b (l.set j x):=by
 have:=Joins.block_setCell (i:=j) h (.int .u32 (x:Int));unfold AB;rw[this];simp[List.map_set]
theorem AB.other{w:World}{b c:Nat}{l:List Nat}(h:AB w b l)(hc:b≠c)(j:Nat)(v:Value):AB (w.setCell ⟨c,j,none⟩ v) b l:=by
 unfold AB at *;rw[heap_setCell_other _ _ _ _ hc];exact h
def ld (s:List UInt8) (k:Nat):List Nat:=(List.range 64).map fun j=>pt s j (min 4 (k-4*j))
theorem ld_zero(s:List UInt8):ld s 0=List.replicate 64 0:=by
 apply List.ext_getElem
 ·simp[ld]
 ·intro i h1 h2
  rw[List.getElem_replicate];simp[ld,pt]
theorem ld_all(s:List UInt8):ld s 64=heads s++List.replicate 48 0:=rfl
theorem ld_len(s:List UInt8)(k:Nat):(ld s k).length=64:=by simp[ld]
theorem ld_get(s:List UInt8)(k j:Nat)(hj:j<64):(ld s k).getD j 0=pt s j (min 4 (k-4*j)):=by
 simp[ld,List.getD,hj]
theorem ld_set(s:List UInt8)(j m:Nat)(hj:j<16)(hm:m<4):(ld s (4*j+m)).set j (pt s j (m+1))=ld s (4*j+m+1):=by
 apply List.ext_getElem
 ·simp[ld]
 ·intro i h1 h2
  simp only[ld,List.getElem_set,List.getElem_map,List.getElem_range];by_cases hij:j=i
  ·subst hij
   rw[if_pos rfl]
   congr 1;omega
  ·rw[if_neg hij]
   congr 1;omega
theorem pt_lt(s:List UInt8)(j m:Nat):pt s j m<256^m:=by
 induction m with
 | zero=>simp[pt]
 | succ m ih=>
  have:=(s.getD (4*j+m) 0).toNat_lt;simp only[pt,Nat.pow_succ];omega
theorem pt_step(s:ByteArray)(j m k:Nat)(hm:m<4)(hk:k=4*j+m)(hlt:k<s.size):bits .or .u32 (((pt s.data.toList j m:Nat):Int)*256%4294967296) ((s[k].toNat:Int)%4294967296)=((pt s.data.toList j (m+1):Nat):Int):=by
 have h1:=pt_lt s.data.toList j m;have h2:256^m≤256^3:=Nat.pow_le_pow_right (by decide) (by omega);have h3:=s[k].toNat_lt;have e:(((pt s.data.toList j m:Nat):Int)*256)%4294967296=((pt s.data.toList j m*2^8:Nat):Int):=by omega
 have e2:(s[k].toNat:Int)%4294967296=(s[k].toNat:Int):=by omega
 have e3:s.data.toList.getD (4*j+m) 0=s[k]:=by
  subst hk;have:4*j+m<s.data.toList.length:=by simpa using hlt
  simp[List.getD,List.getElem?_eq_getElem this];rfl
 rw[e,e2,or32 _ _ (by omega) (by omega),or_add _ _ _ (by omega)];simp only[pt,e3]
theorem AB.drew{w:World}{b:Nat}{l:List Nat}(h:AB w b l):AB w.drew b l:=h
theorem AB.drewN{w:World}{b n:Nat}{l:List Nat}(h:AB w b l):AB (w.drewN n) b l:=h
theorem below_drew{B:Nat}{a w:World}(h:Below B a w):Below B a w.drew:=h.trans ⟨rfl,rfl,rfl,Nat.le_refl _,fun _ _=>rfl⟩
theorem nx_lt(l:List Nat):nx l<4294967296:=Nat.mod_lt _ (by decide)
theorem ws_len(s:List UInt8)(k:Nat):(ws s k).length=16+k:=by
 induction k with
 | zero=>rfl
 | succ k ih=>simp[ws,ih];omega
theorem pt4_lt(s:List UInt8)(j:Nat):pt s j 4<4294967296:=pt_lt s j 4
theorem ws_lt(s:List UInt8)(k j:Nat):(ws s k).getD j 0<4294967296:=by
 have hall:∀k,∀x ∈ ws s k,x<4294967296:=by
  intro k
  induction k with
  | zero=>
   intro x hx;simp only[ws,heads,List.mem_cons,List.not_mem_nil,or_false]at hx
   rcases hx with h|h|h|h|h|h|h|h|h|h|h|h|h|h|h|h<;>(rw[h];exact pt4_lt s _)
  | succ k ih=>
   intro x hx;simp only[ws,List.mem_append,List.mem_singleton]at hx;rcases hx with h|h
   ·exact ih x h
   ·rw[h];exact nx_lt _
 rcases Nat.lt_or_ge j (ws s k).length with h|h
 ·rw[List.getD,List.getElem?_eq_getElem h];exact hall k _ (List.getElem_mem _)
 ·rw[List.getD,List.getElem?_eq_none h];decide
def wl (s:List UInt8) (q:Nat):List Nat:=ws s q++List.replicate (48-q) 0
theorem wl_len(s:List UInt8)(q:Nat)(hq:q≤48):(wl s q).length=64:=by simp[wl,ws_len];omega
theorem wl_get(s:List UInt8)(q j:Nat)(hj:j<16+q):(wl s q).getD j 0=(ws s q).getD j 0:=by
 simp only[wl,List.getD];rw[List.getElem?_append_left (by rw[ws_len];exact hj)]
theorem wl_set(s:List UInt8)(q:Nat)(hq:q<48):(wl s q).set (16+q) (nx (ws s q))=wl s (q+1):=by
 simp only[wl];rw[List.set_append_right _ _ (by rw[ws_len];omega),ws_len,Nat.sub_self];obtain⟨r,hr⟩:∃r,48-q=r+1:=⟨47-q,by omega⟩;rw[hr,show 48-(q+1)=r by omega];simp[ws,List.replicate_succ]
theorem wl_all(s:List UInt8):wl s 48=ws s 48:=by simp[wl]
theorem two_alloc{b q r:Nat}{v u:Value}{w:World}(h:w.cell? ⟨b,q,none⟩=some v∧w.cell? ⟨b,r,none⟩=some u)(o:Obj):(w.alloc o).cell? ⟨b,q,none⟩=some v∧(w.alloc o).cell? ⟨b,r,none⟩=some u:=
 ⟨by rw[World.cell?_alloc_lt _ _ _ (World.block_lt_of_cell? w _ h.1)];exact h.1,by rw[World.cell?_alloc_lt _ _ _ (World.block_lt_of_cell? w _ h.2)];exact h.2⟩
theorem two_drew{b q r:Nat}{v u:Value}{w:World}(h:w.cell? ⟨b,q,none⟩=some v∧w.cell? ⟨b,r,none⟩=some u):w.drew.cell? ⟨b,q,none⟩=some v∧w.drew.cell? ⟨b,r,none⟩=some u:=h
theorem two_set{b q r i:Nat}{v u x:Value}{w:World}(h:w.cell? ⟨b,q,none⟩=some v∧w.cell? ⟨b,r,none⟩=some u)(h1:i≠q)(h2:i≠r):(w.setCell ⟨b,i,none⟩ x).cell? ⟨b,q,none⟩=some v∧(w.setCell ⟨b,i,none⟩ x).cell? ⟨b,r,none⟩=some u:=
 ⟨by rw[World.cell?_setCell_other _ _ _ _ (by intro e;injection e;contradiction)];exact h.1,by rw[World.cell?_setCell_other _ _ _ _ (by intro e;injection e;contradiction)];exact h.2⟩
theorem fin_step{w wr:World}{b r i N B0:Nat}{lr l l':List Nat}(A B:Obj)(hR:AB wr r lr)(hA:AB wr b l)(hne:r≠b)(hset:l.set i N=l')(hB:Below B0 w wr)(hb:B0≤b) :
 AB (((wr.alloc A).alloc B).setCell ⟨b,i,none⟩ (.int .u32 N)).drew.drew r lr∧AB (((wr.alloc A).alloc B).setCell ⟨b,i,none⟩ (.int .u32 N)).drew.drew b l'∧Below B0 w (((wr.alloc A).alloc B).setCell ⟨b,i,none⟩ (.int .u32 N)).drew.drew:=by
 have k:Below wr.heap.size wr ((wr.alloc A).alloc B):=((Below.refl _ _).alloc zle _).alloc (by simp) _;have hl:=hA.lt;refine⟨(((hR.keep k).other hne _ _).drew).drew,?_,below_drew (below_drew ((hB.trans (k.mono (by omega))).setCell (p:=⟨b,i,none⟩) hb _))⟩;rw[←hset];exact ((hA.keep k).set i N).drew.drew
theorem wpList_store_row{P:Program}{ops:Array Oper}{rest:List Oper}{op:Oper}{a:Act}{w:World}{Q:Exit→Act→World→Prop}(hgd:op.guard=none)(ty:TypeId)(x y:Operand)(ho:op.op=.store ty x y)
 (g:Nat) (cells:Array Value)(hx:a.eval x=.pointer (some ⟨g,0,none⟩))(hy:a.eval y=.agg cells)(t:TypeId)(old:Array Value)(hg:w.heap[g]?=some (.cells old t (0,0)))
 (hi:(P.info? ty).map (·.size)=some cells.size)(hs:old.size=cells.size)(h1:cells.all (·.oneCell')=true)
 (h:wpList P ops Q rest (a.put op.dst undef) (w.setRow g cells)):wpList P ops Q (op::rest) a w:=
 wpList_plain hgd fun _ hK=>by
  unfold Oper.wp execOp;simp only[ho,hx,hy,Instr.storeAt,Instr.sureAddr,Sem.run_bind,Sem.run_pure,Result.andThen_ok,run_storeVar_row w g t ty old cells hg hi hs h1];exact hK _ _ h
theorem all_words(l:List Nat):(l.map fun x:Nat=>Value.int .u32 x).toArray.all (·.oneCell')=true:=by
 refine all_oneCell_toArray ?_;intro v hv;obtain⟨x,_,rfl⟩:=List.mem_map.1 hv;rfl
theorem inf64:(Tryz.prog.info? 186).map (·.size)=some 64:=by kernel_rfl
theorem nx_eq(s:List UInt8)(q:Nat):nx (ws s q)=((ws s q).getD q 0+(ws s q).getD (q+9) 0+sg0 ((ws s q).getD (q+1) 0)+sg1 ((ws s q).getD (q+14) 0))%4294967296:=by
 simp only[nx,ws_len];rw[show 16+q-16=q by omega,show 16+q-7=q+9 by omega,show 16+q-15=q+1 by omega,show 16+q-2=q+14 by omega]
theorem spread_any(s:ByteArray)(w:World)(hs:s.size=64) :
 Calls Tryz.prog 166 #[.string s] w fun e w'=>
  e=.returned (.agg ((ws s.data.toList 48).map fun x:Nat=>Value.int .u32 x).toArray)∧Below w.heap.size w w':=by
 go_enter Tryz.func166,Tryz.ntmps166;go_wp2_with (fail)
 go_loopw [10] (fun iv wr=>∃k:Nat,k≤64∧iv=.int .i64 k∧AB wr w.heap.size (List.replicate 64 0)∧AB wr (w.heap.size+1) (ld s.data.toList k)∧Below w.heap.size w wr) (fun iv _=>64-(intOf iv).toNat)
 case atStart=>
  refine⟨0,by omega,rfl,?_,?_,?_⟩
  ·unfold AB
   rw[Lib.alloc_old _ _ _ (by simp),heap_alloc_new];rfl
  ·rw[ld_zero]
   unfold AB;have e:w.heap.size+1=(w.alloc (.cells ((List.replicate 64 0).map fun x:Nat=>Value.int .u32 x).toArray 186)).heap.size:=by simp
   rw[e];exact heap_alloc_new _ _
  ·exact ((Below.refl _ _).alloc zle _).alloc (by simp) _
 case round=>
  obtain⟨k,hk,rfl,hR,hA,hb⟩:=hrel;by_cases hlt:k<64
  ·obtain⟨j,m,hm,hkk⟩:∃j m,m<4∧k=4*j+m:=⟨k/4,k%4,by omega,by omega⟩
   have q1:(k:Int)/4=(j:Int):=by omega
   have c1:=hA.cell j (by rw[ld_len];omega);rw[ld_get _ _ _ (by omega),show min 4 (k-4*j)=m by omega]at c1;have f1:=hA.fz j;have hks:k<s.size:=by omega
   have p1:=pt_step s j m k hm hkk hks;have HN:=zh (hA.set j (pt s.data.toList j (m+1)));have HL:=zh (ld_set s.data.toList j m (by omega) hm);rw[←hkk]at HL;have HR:=zh hR;have HB:=zh hb;have HK:Hid (k<64):=zh hlt;clear hkk hA hR hb;go_wp2
   go_region
   go_wp2
   go_roundw
   case rel=>exact⟨k+1,by omega,by go_num,(HR.out.other (by omega) _ _).drew,by rw[←HL.out];exact HN.out.drew,below_drew (HB.out.setCell (p:=⟨w.heap.size+1,j,none⟩) (Nat.le_succ _) _)⟩
   case measure=>simp[intOf];omega
  ·obtain rfl:k=64:=by omega
   rw[ld_all]at hA;have e0:heads s.data.toList++List.replicate 48 0=wl s.data.toList 0:=rfl;rw[e0]at hA;have HR:=zh hR;have HB:=zh hb;have HA:=zh hA;clear hA hR hb e0;go_wp2;rw[show ((64:Nat):Int)=64 from rfl]
   go_loopw [5] (fun iv wr=>∃q:Nat,q≤48∧iv=.int .i64 (16+q:Nat)∧AB wr w.heap.size (List.replicate 64 0)∧AB wr (w.heap.size+1) (wl s.data.toList q)∧Below w.heap.size w wr) (fun iv _=>64-(intOf iv).toNat)
   case atStart=>exact⟨0,by omega,rfl,HR.out,HA.out,HB.out⟩
   case round=>
    clear HR HB HA;obtain⟨q,hq,rfl,hR,hA,hb⟩:=hrel;by_cases hlt:q<48
    ·have c1:=hA.cell q (by rw[wl_len _ _ hq];omega)
     have c2:=hA.cell (q+1) (by rw[wl_len _ _ hq];omega);have c3:=hA.cell (q+9) (by rw[wl_len _ _ hq];omega);have c4:=hA.cell (q+14) (by rw[wl_len _ _ hq];omega);rw[wl_get _ _ _ (by omega)]at c1 c2 c3 c4;have HNX:=zh (nx_eq s.data.toList q);have l0:=ws_lt s.data.toList q q;have l1:=ws_lt s.data.toList q (q+1);have l9:=ws_lt s.data.toList q (q+9);have l14:=ws_lt s.data.toList q (q+14);have HR:=zh hR;have HB:=zh hb;have hbl:=hA.lt;have f1:=hA.fz (16+q);have c5:=hA.cell (16+q) (by rw[wl_len _ _ hq];omega);have HW:=zh (wl_set s.data.toList q hlt);have HA:=zh hA;clear hA hR hb;generalize nx (ws s.data.toList q)=N at *;generalize (ws s.data.toList q).getD q 0=a0 at *;generalize (ws s.data.toList q).getD (q+1) 0=a1 at *;generalize (ws s.data.toList q).getD (q+9) 0=a9 at *;generalize (ws s.data.toList q).getD (q+14) 0=a14 at *;obtain⟨i,hi⟩:∃i,16+q=i:=⟨_,rfl⟩;rw[hi]at HW f1 c5 ⊢;have o1:(i:Int)-15=((q+1:Nat):Int):=by omega
     have o2:(i:Int)-2=((q+14:Nat):Int):=by omega
     have o3:(i:Int)-16=(q:Int):=by omega
     have o4:(i:Int)-7=((q+9:Nat):Int):=by omega
     have hne1:i≠q:=by omega
     have hne2:i≠q+9:=by omega
     have HI:Hid (16+q=i):=zh hi;have CR0:=zh (fun w b c0 c1=>right2 a1 7 18 b w l1 (by decide) (by decide) (by decide) (by decide) c0 c1);have CR1:=zh (fun w b c0 c1=>right2 a14 17 19 b w l14 (by decide) (by decide) (by decide) (by decide) c0 c1);have X0:bits .xor .u32 ((rr a1 7 ^^^ rr a1 18:Nat):Int) ((a1:Int)/8)=((sg0 a1:Nat):Int):=xor32 (rr a1 7 ^^^ rr a1 18) (a1/8) (xor_lt (rr_lt l1 (by decide)) (rr_lt l1 (by decide))) (by omega);have X1:bits .xor .u32 ((rr a14 17 ^^^ rr a14 19:Nat):Int) ((a14:Int)/1024)=((sg1 a14:Nat):Int):=xor32 (rr a14 17 ^^^ rr a14 19) (a14/1024) (xor_lt (rr_lt l14 (by decide)) (rr_lt l14 (by decide))) (by omega);clear hi;go_wp2
     go_region
     clear o1 o2 o3 o4;have hi:=HI.out;have o3:IntKind.i64.wrap ((i:Int)-16)=(q:Int):=by rw[IntWalk.i64_in _ (by omega)];omega
     obtain⟨q9,hq9⟩:∃q9,q+9=q9:=⟨_,rfl⟩;rw[hq9]at c3 hne2;have o4:IntKind.i64.wrap ((i:Int)-7)=(q9:Int):=by rw[IntWalk.i64_in _ (by omega)];omega
     have b1:(0:Int)≤(q:Int):=by omega
     have b2:(q:Int)<64:=by omega
     have b3:(0:Int)≤(q9:Int):=by omega
     have b4:(q9:Int)<64:=by omega
     have b5:(0:Int)≤(i:Int):=by omega
     have b6:(i:Int)<64:=by omega
     clear hq9 hi;go_wp2
     have HC:∀(X:World),X.cell? ⟨w.heap.size+1,i,none⟩=wr.cell? ⟨w.heap.size+1,i,none⟩→X.frozen? ⟨w.heap.size+1,i,none⟩=false→∀A B,((X.alloc A).alloc B).cell? ⟨w.heap.size+1,i,none⟩=some (.int .u32 (List.getD (wl s.data.toList q) i 0:Nat))∧((X.alloc A).alloc B).frozen? ⟨w.heap.size+1,i,none⟩=false:=fun X hX hF A B=>
      ⟨(two_alloc (two_alloc (r:=i) ⟨hX.trans c5,hX.trans c5⟩ A) B).1,by rw[World.frozen?_alloc_past _ _ _ (World.block_lt_of_cell? _ _ (two_alloc (r:=i) ⟨hX.trans c5,hX.trans c5⟩ A).1),World.frozen?_alloc_past _ _ _ (World.block_lt_of_cell? _ _ (hX.trans c5))];exact hF⟩
     have g1:=fun A B=>(HC wr rfl f1 A B).1
     have g2:=fun A B=>(HC wr rfl f1 A B).2
     have g3:=fun A B=>(HC wr.drew rfl f1 A B).1
     have g4:=fun A B=>(HC wr.drew rfl f1 A B).2
     have g5:=fun A B=>(HC wr.drew.drew rfl f1 A B).1
     have g6:=fun A B=>(HC wr.drew.drew rfl f1 A B).2
     clear HC;have HV:Hid (IntKind.u32.wrap (IntKind.u32.wrap (IntKind.u32.wrap ((a0:Int)+a9)+(sg0 a1:Nat))+(sg1 a14:Nat))=(N:Int)):=zh (by rw[HNX.out];simp only[IntKind.wrap_u32];omega)
     go_region_held3 (fun w'=>w'.cell? ⟨w.heap.size+1,q,none⟩=some (.int .u32 (a0:Nat))∧w'.cell? ⟨w.heap.size+1,q9,none⟩=some (.int .u32 (a9:Nat)))
      (first|(refine two_alloc ?_ _;assumption)|(refine two_drew ?_;assumption)|(refine two_set ?_ hne1 hne2;assumption)|exact⟨c1,c3⟩|go_keep)
      (first|(go_at_call 177;(with_reducible refine (CR0.out _ _ ?_ ?_).mono ?_);(simp[go_sem]);(simp[go_sem]);rintro y w1 ⟨rfl,rfl⟩)|(go_at_call 177;(with_reducible refine (CR1.out _ _ ?_ ?_).mono ?_);(simp[go_sem]);(simp[go_sem]);rintro y w1 ⟨rfl,rfl⟩))
     all_goals
      rw[HV.out];go_wp2
      go_roundw
      case rel=>exact⟨q+1,by omega,by have:=HI.out;subst this;go_num,fin_step _ _ HR.out HA.out (by omega) HW.out HB.out (by omega)⟩
      case measure=>have:=HI.out;simp[intOf];omega
    ·obtain rfl:q=48:=by omega
     rw[wl_all]at hA;have HB:=zh hb;have HR:=zh hR;have HA:=zh hA;clear hA hR hb;go_upto_region 12 with (fail)
     refine wp_region_lit ?_;refine wpList_load_row rfl _ _ rfl (w.heap.size+1) rfl _ _ _ _ HA.out Tryz.underlying186 rfl (by rw[inf64];simp[ws_len]) ?_;refine wpList_store_row rfl _ _ _ rfl w.heap.size _ rfl rfl _ _ HR.out (by rw[inf64];simp[ws_len]) (by simp[ws_len]) (all_words _) ?_;have HRW:Hid (AB (wr.setRow w.heap.size ((ws s.data.toList 48).map fun x:Nat=>Value.int .u32 x).toArray) w.heap.size (ws s.data.toList 48)):=zh (setRow_heap wr w.heap.size _ _ _ _ HR.out);have HBW:=zh (below_setRow HB.out zle ((ws s.data.toList 48).map fun x:Nat=>Value.int .u32 x).toArray);generalize wr.setRow w.heap.size ((ws s.data.toList 48).map fun x:Nat=>Value.int .u32 x).toArray=W at *;go_wp2;exact bodyPost_ret (v:=.agg ((ws s.data.toList 48).map fun x:Nat=>Value.int .u32 x).toArray) (results_cell_row Tryz.results166 _ W w.heap.size _ _ _ _ rfl HRW.out Tryz.underlying186 rfl (by rw[inf64];simp[ws_len])) rfl ⟨rfl,HBW.out⟩
end Go.Proofs.YtagbkmoahflfdaaGreatDoor.Dg
namespace Go.Proofs.YtagbkmoahflfdaaGreatDoor.Se
open Tk Go.RowKit Vm Dg
def fit (s:List UInt8) (n:Nat):List UInt8:=if n≤s.length then s.take n else s++List.replicate (n-s.length) 0
theorem fit_len(s:List UInt8)(n:Nat):(fit s n).length=n:=by
 unfold fit
 split
 ·rw[List.length_take];omega
 ·rw[List.length_append,List.length_replicate];omega
theorem fit_get(s:List UInt8)(n j:Nat)(hj:j<n):(fit s n).getD j 0=s.getD j 0:=by
 unfold fit
 split
 ·rename_i h
  rw[List.getD_eq_getElem?_getD,List.getD_eq_getElem?_getD,List.getElem?_take_of_lt hj]
 ·rename_i h
  rw[List.getD_eq_getElem?_getD,List.getD_eq_getElem?_getD];by_cases hs:j<s.length
  ·rw[List.getElem?_append_left hs]
  ·rw[List.getElem?_append_right (by omega),List.getElem?_replicate,if_pos (by omega),List.getElem?_eq_none (by omega)]
   rfl
theorem gl(a b:List UInt8)(j:Nat)(h:j<a.length):(a++b).getD j 0=a.getD j 0:=by
 rw[List.getD_eq_getElem?_getD,List.getD_eq_getElem?_getD,List.getElem?_append_left h]
theorem gr(a b:List UInt8)(j:Nat)(h:a.length≤j):(a++b).getD j 0=b.getD (j-a.length) 0:=by
 rw[List.getD_eq_getElem?_getD,List.getD_eq_getElem?_getD,List.getElem?_append_right h]
def beg:List UInt8:=[101,120,112,97,110,100,32,51,50,45,98,121,116,101,32,107]
def txt (key nonce:List UInt8):List UInt8:=((beg++fit key 32)++fit [] 4)++fit nonce 12
theorem txt_len(key nonce:List UInt8):(txt key nonce).length=64:=by
 unfold txt;rw[List.length_append,List.length_append,List.length_append,fit_len,fit_len,fit_len];rfl
theorem txt_get(key nonce:List UInt8)(j:Nat)(hj:j<64):(txt key nonce).getD j 0=if j<16 then beg.getD j 0 else if j<48 then key.getD (j-16) 0 else if j<52 then 0 else nonce.getD (j-52) 0:=by
 unfold txt;have l0:beg.length=16:=rfl;have l1:=fit_len key 32;have l2:=fit_len [] 4;have l3:=fit_len nonce 12;by_cases h1:j<16
 ·rw[if_pos h1,gl _ _ _ (by simp[l0,l1,l2];omega),gl _ _ _ (by simp[l0,l1];omega),gl _ _ _ (by omega)]
 ·rw[if_neg h1]
  by_cases h2:j<48
  ·rw[if_pos h2,gl _ _ _ (by simp[l0,l1,l2];omega),gl _ _ _ (by simp[l0,l1];omega),gr _ _ _ (by omega),l0,fit_get _ _ _ (by omega)]
  ·rw[if_neg h2]
   by_cases h3:j<52
   ·rw[if_pos h3,gl _ _ _ (by simp[l0,l1,l2];omega),gr _ _ _ (by simp[l0,l1];omega),fit_get _ _ _ (by simp[l0,l1];omega)]
    try simp
   ·rw[if_neg h3,gr _ _ _ (by simp[l0,l1,l2];omega),fit_get _ _ _ (by simp[l0,l1,l2];omega)]
    congr 1
    simp[l0,l1,l2]
    try omega
theorem txt_words(key nonce:List UInt8):(List.range 16).map (lw (txt key nonce))=ini key nonce 0:=by
 have g:=txt_get key nonce
 have e:∀i,i<16→lw (txt key nonce) i=(ini key nonce 0).getD i 0:=by
  intro i hi;have h:i=0∨i=1∨i=2∨i=3∨i=4∨i=5∨i=6∨i=7∨i=8∨i=9∨i=10∨i=11∨i=12∨i=13∨i=14∨i=15:=by omega
  unfold lw;rw[g _ (by omega),g _ (by omega),g _ (by omega),g _ (by omega)]
  rcases h with rfl|rfl|rfl|rfl|rfl|rfl|rfl|rfl|rfl|rfl|rfl|rfl|rfl|rfl|rfl|rfl<;>first|(simp[ini,lw,beg];done)|decide
 apply List.ext_getElem
 ·simp[ini]
 ·intro i h1 h2
  have hi:i<16:=by simpa using h1
  rw[List.getElem_map,List.getElem_range,e i hi,List.getD_eq_getElem?_getD,List.getElem?_eq_getElem h2];rfl
def nb (s:List UInt8):Nat→Nat
 | 0=>0
 | k+1=>nb s k*256+(s.getD (3-k) 0).toNat
theorem nb_lt(s:List UInt8)(k:Nat):nb s k<256^k:=by
 induction k with
 | zero=>simp[nb]
 | succ k ih=>
  have:=(s.getD (3-k) 0).toNat_lt;simp only[nb,Nat.pow_succ];omega
theorem nb_four(s:List UInt8):nb s 4=lw s 0:=by
 simp[nb,lw];omega
theorem nb_step(s:ByteArray)(k j:Nat)(hk:k<4)(hj:j=3-k)(hlt:j<s.size):bits .or .u32 (((nb s.data.toList k:Nat):Int)*256%4294967296) ((s[j].toNat:Int)%4294967296)=((nb s.data.toList (k+1):Nat):Int):=by
 have h1:=nb_lt s.data.toList k;have h2:256^k≤256^3:=Nat.pow_le_pow_right (by decide) (by omega);have h3:=s[j].toNat_lt;have e:(((nb s.data.toList k:Nat):Int)*256)%4294967296=((nb s.data.toList k*2^8:Nat):Int):=by omega
 have e2:(s[j].toNat:Int)%4294967296=(s[j].toNat:Int):=by omega
 have e3:s.data.toList.getD (3-k) 0=s[j]:=by
  subst hj;have:3-k<s.data.toList.length:=by simpa using hlt
  simp[List.getD,List.getElem?_eq_getElem this];rfl
 rw[e,e2,or32 _ _ (by omega) (by omega),or_add _ _ _ (by omega)];simp only[nb,e3]
theorem number_any(s:ByteArray)(w:World)(hs:s.size=4):Calls Tryz.prog 71 #[.string s] w fun e w'=>e=.returned (.int .u32 (lw s.data.toList 0:Nat))∧w'=w:=by
 have hsI:(s.size:Int)=4:=by omega
 go_enter Tryz.func71,Tryz.ntmps71;go_wp2
 go_loopw [3,4] (fun nv iv wr=>∃k:Nat,k≤4∧iv=.int .i64 (3-(k:Int))∧nv=.int .u32 (nb s.data.toList k:Nat)∧wr=w) (fun _ iv _=>(intOf iv+1).toNat)
 case atStart=>exact⟨0,by omega,by simp[hs],rfl,rfl⟩
 case round=>
  obtain⟨k,hk,rfl,rfl,rfl⟩:=hrel;by_cases hlt:k<4
  ·obtain⟨j,hj⟩:∃j,3-k=j:=⟨_,rfl⟩
   have hjs:j<s.size:=by omega
   have hji:(3:Int)-(k:Int)=(j:Int):=by omega
   have HS:=zh (nb_step s k j hlt hj.symm hjs);have p1:=HS.out;have HK:=zh (And.intro hlt hj);rw[hji];clear hlt hj hji HS;go_wp2
   go_roundw
   case rel=>exact⟨k+1,by have:=HK.out;omega,by have:=HK.out;push_cast;congr 1;omega,rfl,by first|rfl|trivial⟩
   case measure=>have:=HK.out;simp only[intOf];omega
  ·have hk4:k=4:=by omega
   subst hk4;have h4:((3:Int)-((4:Nat):Int))=-1:=by omega
   rw[h4];have h5:=nb_four s.data.toList;go_wp2
   go_ret
   rw[h5];exact⟨rfl,rfl⟩
end Go.Proofs.YtagbkmoahflfdaaGreatDoor.Se
namespace Go.Proofs.YtagbkmoahflfdaaGreatDoor.It
open Go.RowKit
structure Only (O:Nat→Prop) (A B:World):Prop where
 os:B.os=A.os
 tape:B.tape=A.tape
 output:B.output=A.output
 size:A.heap.size≤B.heap.size
 block:∀k,k<A.heap.size→¬O k→B.heap[k]?=A.heap[k]?
theorem Only.refl(O:Nat→Prop)(A:World):Only O A A:=⟨rfl,rfl,rfl,Nat.le_refl _,fun _ _ _=>rfl⟩
theorem Only.mono{O O':Nat→Prop}{A B:World}(h:Only O A B)(ho:∀k,O k→O' k):Only O' A B:=⟨h.os,h.tape,h.output,h.size,fun k hk hn=>h.block k hk (fun h'=>hn (ho k h'))⟩
theorem Only.trans{O:Nat→Prop}{A B C:World}(h:Only O A B)(k:Only O B C):Only O A C:=
 ⟨k.os.trans h.os,k.tape.trans h.tape,k.output.trans h.output,Nat.le_trans h.size k.size,fun i hi hn=>(k.block i (Nat.lt_of_lt_of_le hi h.size) hn).trans (h.block i hi hn)⟩
theorem Only.alloc(O:Nat→Prop)(A:World)(o:Obj):Only O A (A.alloc o):=⟨rfl,rfl,rfl,by simp,fun k hk _=>Below.heap_alloc A o k hk⟩
theorem Only.setCell{O:Nat→Prop}{p:Addr}(hl:O p.block)(A:World)(v:Value):Only O A (A.setCell p v):=
 ⟨rfl,rfl,rfl,by simp[World.setCell],fun k hk hn=>Below.heap_setCell A p v k (fun e=>hn (by rw[e];exact hl))⟩
theorem Only.drew(O:Nat→Prop)(A:World):Only O A A.drew:=⟨rfl,rfl,rfl,Nat.le_refl _,fun _ _ _=>rfl⟩
theorem Only.of_all{A B:World}(h:Below A.heap.size A B)(O:Nat→Prop):Only O A B:=
 ⟨h.os,h.tape,h.output,h.size,fun k hk _=>h.block k hk⟩
theorem Only.below{O:Nat→Prop}{A B:World}{n:Nat}(h:Only O A B)(hn:n≤A.heap.size)(ho:∀k,O k→n≤k):Below n A B:=
 ⟨h.os,h.tape,h.output,h.size,fun k hk=>h.block k (Nat.lt_of_lt_of_le hk hn) (fun e=>by have:=ho k e;omega)⟩
theorem Only.heap{O:Nat→Prop}{A B:World}(h:Only O A B){k:Nat}{o:Obj}(hk:A.heap[k]?=some o)(hn:¬O k):B.heap[k]?=some o:=
 (h.block k (Array.getElem?_eq_some_iff.1 hk).1 hn).trans hk
theorem Only.cell{O:Nat→Prop}{A B:World}(h:Only O A B){a:Addr}{v:Value}(hv:A.cell? a=some v)(hn:¬O a.block):B.cell? a=some v:=
 (World.cell?_of_block (h.block a.block (World.block_lt_of_cell? A a hv) hn)).trans hv
end Go.Proofs.YtagbkmoahflfdaaGreatDoor.It
