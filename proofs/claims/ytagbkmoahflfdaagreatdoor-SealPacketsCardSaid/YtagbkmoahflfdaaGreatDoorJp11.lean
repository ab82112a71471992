import Derived.Test.YtagbkmoahflfdaaGreatDoorJp01
import Derived.Test.YtagbkmoahflfdaaGreatDoorJp10
import Derived.Deep.RegionHeld3
set_option maxHeartbeats 8000000
set_option maxRecDepth 20000
set_option linter.unusedVariables false
set_option linter.unusedSimpArgs false
namespace Go.Proofs.YtagbkmoahflfdaaGreatDoor.Dg
open Tk Go.RowKit
theorem xorQ(a b:Nat)(ha:a<4294967296)(hb:b<4294967296):bits .xor .u64 (a:Int) (b:Int)=((a ^^^ b:Nat):Int):=by
 have h1:(BitVec.ofInt 64 (a:Int)).toNat=a:=by
  rw[BitVec.ofInt_natCast,BitVec.toNat_ofNat];exact Nat.mod_eq_of_lt (by omega)
 have h2:(BitVec.ofInt 64 (b:Int)).toNat=b:=by
  rw[BitVec.ofInt_natCast,BitVec.toNat_ofNat];exact Nat.mod_eq_of_lt (by omega)
 have hx:=xor_lt ha hb;show IntKind.u64.wrap ((BitVec.ofInt 64 (a:Int) ^^^ BitVec.ofInt 64 (b:Int)).toNat:Int)=_;rw[BitVec.toNat_xor,h1,h2,IntKind.wrap_u64];omega
theorem andQ(a b:Nat)(ha:a<4294967296)(hb:b<4294967296):bits .and .u64 (a:Int) (b:Int)=((a &&& b:Nat):Int):=by
 have h1:(BitVec.ofInt 64 (a:Int)).toNat=a:=by
  rw[BitVec.ofInt_natCast,BitVec.toNat_ofNat];exact Nat.mod_eq_of_lt (by omega)
 have h2:(BitVec.ofInt 64 (b:Int)).toNat=b:=by
  rw[BitVec.ofInt_natCast,BitVec.toNat_ofNat];exact Nat.mod_eq_of_lt (by omega)
 have hx:=and_lt (y:=b) ha;show IntKind.u64.wrap ((BitVec.ofInt 64 (a:Int) &&& BitVec.ofInt 64 (b:Int)).toNat:Int)=_;rw[BitVec.toNat_and,h1,h2,IntKind.wrap_u64];omega
def VQ (w:World) (b:Nat) (v:V):Prop:=w.heap[b]?=some (.cells #[.int .u64 v.a,.int .u64 v.b,.int .u64 v.c,.int .u64 v.d,.int .u64 v.e,.int .u64 v.f,.int .u64 v.g,.int .u64 v.h] 194 (0,0))
theorem VQ.cells{w:World}{b:Nat}{v:V}(h:VQ w b v):w.cell? ⟨b,0,none⟩=some (.int .u64 v.a)∧w.cell? ⟨b,1,none⟩=some (.int .u64 v.b)∧w.cell? ⟨b,2,none⟩=some (.int .u64 v.c)∧w.cell? ⟨b,3,none⟩=some (.int .u64 v.d)∧w.cell? ⟨b,4,none⟩=some (.int .u64 v.e)∧w.cell? ⟨b,5,none⟩=some (.int .u64 v.f)∧w.cell? ⟨b,6,none⟩=some (.int .u64 v.g)∧w.cell? ⟨b,7,none⟩=some (.int .u64 v.h):=by
 refine⟨?_,?_,?_,?_,?_,?_,?_,?_⟩<;>(rw[Lib.cell_of_heap h];rfl)
theorem VQ.fz{w:World}{b:Nat}{v:V}(h:VQ w b v)(j:Nat):w.frozen? ⟨b,j,none⟩=false:=Lib.frozen_of_heap h j
theorem VQ.lt{w:World}{b:Nat}{v:V}(h:VQ w b v):b<w.heap.size:=by
 rcases Nat.lt_or_ge b w.heap.size with h1|h1
 ·exact h1
 ·unfold VQ at h;rw[Array.getElem?_eq_none h1]at h;cases h
theorem VQ.drew{w:World}{b:Nat}{v:V}(h:VQ w b v):VQ w.drew b v:=h
theorem VQ.drewN{w:World}{b n:Nat}{v:V}(h:VQ w b v):VQ (w.drewN n) b v:=h
theorem VQ.of{w:World}{b:Nat}{n:V}{y0 y1 y2 y3 y4 y5 y6 y7:Int}(h:w.heap[b]?=some (.cells #[.int .u64 y0,.int .u64 y1,.int .u64 y2,.int .u64 y3,.int .u64 y4,.int .u64 y5,.int .u64 y6,.int .u64 y7] 194 (0,0)))
 (e0:y0=(n.a:Int)) (e1:y1=(n.b:Int)) (e2:y2=(n.c:Int)) (e3:y3=(n.d:Int)) (e4:y4=(n.e:Int)) (e5:y5=(n.f:Int)) (e6:y6=(n.g:Int)) (e7:y7=(n.h:Int)):VQ w b n:=by
 subst e0 e1 e2 e3 e4 e5 e6 e7;exact h
theorem AQ.of{T:TypeId}{w w':World}{b:Nat}{l l':List Nat}(h:AQ T w' b l)(e:l=l'):AQ T w' b l':=e▸h
structure BK (w wr:World) (bK bW:Nat) (h:V) (L:List Nat):Prop where
 ph:AQ 194 wr w.heap.size h.toL
 rs:AQ 194 wr (w.heap.size+1) (List.replicate 8 0)
 ks:AQ 211 wr bK K0
 wd:AQ 211 wr bW L
 bel:Below w.heap.size w wr
 lk:w.heap.size+2≤bK
 lw:bK<bW
theorem BK.drew{w wr:World}{bK bW:Nat}{h:V}{L:List Nat}(k:BK w wr bK bW h L):BK w wr.drew bK bW h L:=⟨k.ph,k.rs,k.ks,k.wd,below_drew k.bel,k.lk,k.lw⟩
theorem BK.drewN{w wr:World}{bK bW n:Nat}{h:V}{L:List Nat}(k:BK w wr bK bW h L):BK w (wr.drewN n) bK bW h L:=⟨k.ph,k.rs,k.ks,k.wd,below_drewN k.bel _,k.lk,k.lw⟩
theorem BK.setW{w wr:World}{bK bW:Nat}{h:V}{L L':List Nat}(k:BK w wr bK bW h L)(i:Nat)(N:Int)(x:Nat)(hN:N=(x:Int))(e:L.set i x=L'):BK w (wr.setCell ⟨bW,i,none⟩ (.int .u64 N)) bK bW h L':=by
 subst hN e;have h1:=k.lk;have h2:=k.lw;exact⟨k.ph.other (by omega) _ _,k.rs.other (by omega) _ _,k.ks.other (by omega) _ _,k.wd.set i x,k.bel.setCell (p:=⟨bW,i,none⟩) (by show w.heap.size≤bW;omega) _,h1,h2⟩
theorem BK.setV{w wr:World}{bK bW c:Nat}{h:V}{L:List Nat}(k:BK w wr bK bW h L)(hc:bW<c)(i:Nat)(v:Value):BK w (wr.setCell ⟨c,i,none⟩ v) bK bW h L:=by
 have h1:=k.lk;have h2:=k.lw;exact⟨k.ph.other (by omega) _ _,k.rs.other (by omega) _ _,k.ks.other (by omega) _ _,k.wd.other (by omega) _ _,k.bel.setCell (p:=⟨c,i,none⟩) (by show w.heap.size≤c;omega) _,h1,h2⟩
theorem BK.keep{w wr w':World}{bK bW:Nat}{h:V}{L:List Nat}(k:BK w wr bK bW h L)(hb:Below wr.heap.size wr w'):BK w w' bK bW h L:=
 ⟨k.ph.keep hb,k.rs.keep hb,k.ks.keep hb,k.wd.keep hb,k.bel.trans (hb.mono k.bel.size),k.lk,k.lw⟩
def wi (s:List UInt8) (i:Nat):List Nat:=if i≤16 then ld s (4*i) else wl s (i-16)
theorem wi_lo(s:List UInt8)(i:Nat)(h:i≤16):wi s i=ld s (4*i):=if_pos h
theorem wi_hi(s:List UInt8)(q:Nat):wi s (16+q)=wl s q:=by
 unfold wi;by_cases h:q=0
 ·subst h;rfl
 ·rw[if_neg (by omega),show 16+q-16=q by omega]
theorem pt_next(s:ByteArray)(i m k:Nat)(hk:4*i+m=k)(hlt:k<s.size):pt s.data.toList i (m+1)=pt s.data.toList i m*256+s[k].toNat:=by
 subst hk;have:4*i+m<s.data.toList.length:=by simpa using hlt
 simp only[pt,List.getD,List.getElem?_eq_getElem this];rfl
def zq:List Nat:=List.replicate 64 0
theorem wpList_allocQ{P:Program}{ops:Array Oper}{rest:List Oper}{op:Oper}{a:Act}{w:World}{Q:Exit→Act→World→Prop}(hgd:op.guard=none)(t:TypeId)(ho:op.op=.alloc t)
 (c:Array Value)(hrun:∀w:World,(Instr.alloc t true (.tuple #[])).run P w=.ok (.pointer (some ⟨w.heap.size,0,none⟩)) (w.alloc (.cells c t)))
 (h:wpList P ops Q rest (a.put op.dst (.pointer (some ⟨w.heap.size,0,none⟩))) (w.alloc (.cells c t))):wpList P ops Q (op::rest) a w:=
 wpList_plain hgd fun _ hK=>by
  unfold Oper.wp execOp;simp only[ho,hrun,Sem.run_bind,Sem.run_pure,Result.andThen_ok];exact hK _ _ h
theorem alloc_q(w:World):(Instr.alloc 211 true (.tuple #[])).run Tryz.prog w=.ok (.pointer (some ⟨w.heap.size,0,none⟩)) (w.alloc (.cells (zq.map fun x:Nat=>Value.int .u64 x).toArray 211)):=by
 show _=_
 kernel_rfl
theorem K0_lt(j:Nat):K0.getD j 0<4294967296:=by
 rcases Nat.lt_or_ge j K0.length with h|h
 ·have hall:∀x ∈ K0,x<4294967296:=by decide
  rw[List.getD,List.getElem?_eq_getElem h];exact hall _ (List.getElem_mem _)
 ·rw[List.getD,List.getElem?_eq_none h]
  decide
theorem turn_at(x n:Nat)(N:Int)(hN:(n:Int)=N)(hx:x<4294967296)(h1:1≤n)(h2:n≤31)(w:World):Calls Tryz.prog 169 #[.int .u64 x,.int .i64 N] w fun e w'=>e=.returned (.int .u64 (rr x n:Nat))∧∃m,w'=w.drewN m:=
 hN▸turn_ref x n w hx h1 h2
theorem block_ref(h:V)(s:ByteArray)(w:World)(hv:h.ok)(hs:s.size=64) :
 Calls Tryz.prog 147 #[.agg #[.int .u64 h.a,.int .u64 h.b,.int .u64 h.c,.int .u64 h.d,.int .u64 h.e,.int .u64 h.f,.int .u64 h.g,.int .u64 h.h],.string s] w fun e w'=>
  e=.returned (.agg ((take1 h s.data.toList).toL.map fun x:Nat=>Value.int .u64 x).toArray)∧Below w.heap.size w w':=by
 have CC:=zh (fun W=>constants_ref W);have HVO:=zh hv;obtain⟨K,hK⟩:∃K,K0=K:=⟨_,rfl⟩;have hKl:K.length=64:=by rw[←hK];rfl
 have HK:=zh hK;rw[hK]at CC;clear hK;go_enter Tryz.func147,Tryz.ntmps147;go_wp2_with fail
 refine (CC.out _).mono ?_;rintro e w1 ⟨rfl,hb1⟩
 have hst:(storeCells ⟨w1.heap.size,0,none⟩ (K.map fun x:Nat=>Value.int .u64 x)).run Tryz.prog (w1.alloc (.cells #[.int .u64 0,.int .u64 0,.int .u64 0,.int .u64 0,.int .u64 0,.int .u64 0,.int .u64 0,.int .u64 0,.int .u64 0,.int .u64 0,.int .u64 0,.int .u64 0,.int .u64 0,.int .u64 0,.int .u64 0,.int .u64 0,.int .u64 0,.int .u64 0,.int .u64 0,.int .u64 0,.int .u64 0,.int .u64 0,.int .u64 0,.int .u64 0,.int .u64 0,.int .u64 0,.int .u64 0,.int .u64 0,.int .u64 0,.int .u64 0,.int .u64 0,.int .u64 0,.int .u64 0,.int .u64 0,.int .u64 0,.int .u64 0,.int .u64 0,.int .u64 0,.int .u64 0,.int .u64 0,.int .u64 0,.int .u64 0,.int .u64 0,.int .u64 0,.int .u64 0,.int .u64 0,.int .u64 0,.int .u64 0,.int .u64 0,.int .u64 0,.int .u64 0,.int .u64 0,.int .u64 0,.int .u64 0,.int .u64 0,.int .u64 0,.int .u64 0,.int .u64 0,.int .u64 0,.int .u64 0,.int .u64 0,.int .u64 0,.int .u64 0,.int .u64 0] 211))=.ok () (w1.alloc (.cells (K.map fun x:Nat=>Value.int .u64 x).toArray 211)):=by
  have h:=run_storeCells_new (P:=Tryz.prog) w1 211 #[.int .u64 0,.int .u64 0,.int .u64 0,.int .u64 0,.int .u64 0,.int .u64 0,.int .u64 0,.int .u64 0,.int .u64 0,.int .u64 0,.int .u64 0,.int .u64 0,.int .u64 0,.int .u64 0,.int .u64 0,.int .u64 0,.int .u64 0,.int .u64 0,.int .u64 0,.int .u64 0,.int .u64 0,.int .u64 0,.int .u64 0,.int .u64 0,.int .u64 0,.int .u64 0,.int .u64 0,.int .u64 0,.int .u64 0,.int .u64 0,.int .u64 0,.int .u64 0,.int .u64 0,.int .u64 0,.int .u64 0,.int .u64 0,.int .u64 0,.int .u64 0,.int .u64 0,.int .u64 0,.int .u64 0,.int .u64 0,.int .u64 0,.int .u64 0,.int .u64 0,.int .u64 0,.int .u64 0,.int .u64 0,.int .u64 0,.int .u64 0,.int .u64 0,.int .u64 0,.int .u64 0,.int .u64 0,.int .u64 0,.int .u64 0,.int .u64 0,.int .u64 0,.int .u64 0,.int .u64 0,.int .u64 0,.int .u64 0,.int .u64 0,.int .u64 0] (K.map fun x:Nat=>Value.int .u64 x).toArray (by rw[infQ64,w64_len,hKl]) (by rw[w64_len,hKl];rfl) (all_words64 _);rw[List.toList_toArray]at h;exact h
 go_upto_region 2 with (fail)
 have HPH:Hid (AQ 194 w1 w.heap.size h.toL):=zh ((hb1.block w.heap.size (by simp;omega)).trans ((Lib.alloc_old _ _ _ (by simp)).trans (heap_alloc_new w _)))
 have HRS:Hid (AQ 194 w1 (w.heap.size+1) (List.replicate 8 0)):=zh ((hb1.block (w.heap.size+1) (by simp)).trans (by
  have e:w.heap.size+1=(w.alloc (.cells (h.toL.map fun x:Nat=>Value.int .u64 x).toArray 194)).heap.size:=by simp
  rw[e]
  exact heap_alloc_new _ _))
 have HB1:Hid (Below w.heap.size w w1):=zh ((((Below.refl _ _).alloc zle _).alloc (by simp) _).trans (hb1.mono (by simp;omega)));have hs1:w.heap.size+2≤w1.heap.size:=by have:=hb1.size;simp at this;omega
 clear hb1 hst
 have HBK:Hid (BK w ((((w1.alloc (.cells (K.map fun x:Nat=>Value.int .u64 x).toArray 211)).alloc (.cells (zq.map fun x:Nat=>Value.int .u64 x).toArray 211))).setRow (w1.heap.size+1) (zq.map fun x:Nat=>Value.int .u64 x).toArray) w1.heap.size (w1.heap.size+1) h zq):=zh (by
  have b1:Below w1.heap.size w1 ((w1.alloc (.cells (K.map fun x:Nat=>Value.int .u64 x).toArray 211)).alloc (.cells (zq.map fun x:Nat=>Value.int .u64 x).toArray 211)):=((Below.refl _ _).alloc zle _).alloc (by simp) _
  have e1:AQ 211 ((w1.alloc (.cells (K.map fun x:Nat=>Value.int .u64 x).toArray 211)).alloc (.cells (zq.map fun x:Nat=>Value.int .u64 x).toArray 211)) w1.heap.size K0:=by
   rw[HK.out];exact (Lib.alloc_old _ _ _ (by simp)).trans (heap_alloc_new w1 _)
  have e2:AQ 211 ((w1.alloc (.cells (K.map fun x:Nat=>Value.int .u64 x).toArray 211)).alloc (.cells (zq.map fun x:Nat=>Value.int .u64 x).toArray 211)) (w1.heap.size+1) zq:=by
   have e:w1.heap.size+1=(w1.alloc (.cells (K.map fun x:Nat=>Value.int .u64 x).toArray 211)).heap.size:=by simp
   rw[e];exact heap_alloc_new _ _
  have b2:=below_setRow (g:=w1.heap.size+1) b1 (Nat.le_succ _) (zq.map fun x:Nat=>Value.int .u64 x).toArray
  exact⟨HPH.out.keep b2,HRS.out.keep b2,(setRow_other _ _ _ _ (by omega)).trans e1,setRow_heap _ _ _ _ _ _ e2,HB1.out.trans (b2.mono (by omega)),hs1,Nat.lt_succ_self _⟩)
 refine wp_region_lit ?_;refine wpList_built rfl _ _ rfl (zq.map fun x:Nat=>Value.int .u64 x).toArray (by kernel_rfl) ?_;refine wpList_allocQ rfl _ rfl _ alloc_q ?_
 refine wpList_store_row rfl _ _ _ rfl (w1.heap.size+1) (zq.map fun x:Nat=>Value.int .u64 x).toArray (by simp[go_sem]) rfl 211 (zq.map fun x:Nat=>Value.int .u64 x).toArray (by
  have e:w1.heap.size+1=(w1.alloc (.cells (K.map fun x:Nat=>Value.int .u64 x).toArray 211)).heap.size:=by simp
  rw[e]
  exact heap_alloc_new _ _) (by rw[infQ64];rfl) rfl (all_words64 _) ?_
 generalize ((((w1.alloc (.cells (K.map fun x:Nat=>Value.int .u64 x).toArray 211)).alloc (.cells (zq.map fun x:Nat=>Value.int .u64 x).toArray 211))).setRow (w1.heap.size+1) (zq.map fun x:Nat=>Value.int .u64 x).toArray)=W3 at *;clear HPH HRS HB1;go_wp2;obtain⟨bK,hbK⟩:∃bK,w1.heap.size=bK:=⟨_,rfl⟩;rw[hbK]at HBK hs1 ⊢;obtain⟨bW,hbW⟩:∃bW,bK+1=bW:=⟨_,rfl⟩;rw[hbW]at HBK ⊢;clear hbK hbW
 go_loopw [7] (fun iv wr=>∃i:Nat,i≤64∧iv=.int .i64 i∧BK w wr bK bW h (wi s.data.toList i)) (fun iv _=>64-(intOf iv).toNat)
 case atStart=>exact⟨0,by omega,rfl,by rw[wi_lo _ _ (by omega),ld_zero];exact HBK.out⟩
 case round=>
  clear HBK;obtain⟨i,hi,rfl,hbk⟩:=hrel;have HBK:=zh hbk;clear hbk;by_cases h64:i<64
  ·by_cases h16:i<16
   ·rw[wi_lo _ _ (by omega)]at HBK
    go_wp2
    go_loopw [8] (fun nv wx=>∃n:Nat,n≤4∧nv=.int .i64 n∧BK w wx bK bW h (ld s.data.toList (4*i+n))) (fun nv _=>4-(intOf nv).toNat)
    case atStart=>exact⟨0,by omega,rfl,HBK.out⟩
    case round=>
     clear HBK;obtain⟨n,hn,rfl,hbk⟩:=hrel;by_cases hn4:n<4
     ·have c1:=hbk.wd.cell i (by rw[ld_len];omega)
      rw[ld_get _ _ _ (by omega),show min 4 (4*i+n-4*i)=n by omega]at c1;have f1:=hbk.wd.fz i;obtain⟨k,hk⟩:∃k,4*i+n=k:=⟨_,rfl⟩;have hks:k<s.size:=by omega
      have hp:=pt_next s i n k hk hks;have hx:=ld_set s.data.toList i n h16 hn4;have hp1:=pt_lt s.data.toList i n;have hp2:256^n≤256^3:=Nat.pow_le_pow_right (by decide) (by omega);obtain⟨p,hpp⟩:∃p,pt s.data.toList i n=p:=⟨_,rfl⟩;obtain⟨p2,hpp2⟩:∃p,pt s.data.toList i (n+1)=p:=⟨_,rfl⟩;rw[hpp,hpp2]at hp;rw[hpp2]at hx;rw[hpp]at c1 hp1;rw[hk]at hbk;obtain⟨j,hj⟩:∃j,4*i=j:=⟨_,rfl⟩;have e0:IntKind.i64.wrap ((4:Int)*(i:Int))=(j:Int):=by rw[IntWalk.i64_in _ (by omega)];omega
      have e0':(4:Int)*(i:Int)=(j:Int):=by omega
      have e1:IntKind.i64.wrap ((j:Int)+(n:Int))=(k:Int):=by rw[IntWalk.i64_in _ (by omega)];omega
      have k0:(0:Int)≤(k:Int):=by omega
      have k1:(k:Int)<64:=by omega
      have HP:=zh hp;have HX:=zh hx;have HBK:=zh hbk;have hpl:(p:Int)≤16777215:=by omega
      have HJ:=zh hj;have HKK:=zh hk;clear hpp hpp2 hp hx hbk hp1 hp2 hj hk;go_wp2
      go_region
      go_wp2
      go_roundw
      case rel=>
       have hk:=HKK.out;refine⟨n+1,by omega,by go_num,(HBK.out.setW i _ p2 ?_ (by rw[←hk];exact HX.out)).drew⟩;have:=HP.out;have:=s[k].toNat_lt;simp only[IntKind.wrap_u64];omega
      case measure=>simp[intOf];omega
     ·obtain rfl:n=4:=by omega
      have HBK:=zh hbk;clear hbk;go_wp2
      go_roundw
      case rel=>exact⟨i+1,by omega,by go_num,by rw[wi_lo _ _ (by omega)];exact HBK.out⟩
      case measure=>simp[intOf];omega
   ·obtain⟨q,rfl⟩:∃q,i=16+q:=⟨i-16,by omega⟩
    have hq48:q<48:=by omega
    rw[wi_hi]at HBK;have hA:=HBK.out.wd;have c1:=hA.cell q (by rw[wl_len _ _ (by omega)];omega);have c2:=hA.cell (q+1) (by rw[wl_len _ _ (by omega)];omega);have c3:=hA.cell (q+9) (by rw[wl_len _ _ (by omega)];omega);have c4:=hA.cell (q+14) (by rw[wl_len _ _ (by omega)];omega);rw[wl_get _ _ _ (by omega)]at c1 c2 c3 c4;have HNX:=zh (nx_eq s.data.toList q);have l0:=ws_lt s.data.toList q q;have l1:=ws_lt s.data.toList q (q+1);have l9:=ws_lt s.data.toList q (q+9);have l14:=ws_lt s.data.toList q (q+14);have f1:=hA.fz (16+q);have c5:=hA.cell (16+q) (by rw[wl_len _ _ (by omega)];omega);have HW:=zh (wl_set s.data.toList q hq48);clear hA;generalize nx (ws s.data.toList q)=N at *;generalize (ws s.data.toList q).getD q 0=a0 at *;generalize (ws s.data.toList q).getD (q+1) 0=a1 at *;generalize (ws s.data.toList q).getD (q+9) 0=a9 at *;generalize (ws s.data.toList q).getD (q+14) 0=a14 at *;obtain⟨i,hi2⟩:∃i,16+q=i:=⟨_,rfl⟩;rw[hi2]at HW f1 c5 h64 h16 ⊢;have o1:IntKind.i64.wrap ((i:Int)-15)=((q+1:Nat):Int):=by rw[IntWalk.i64_in _ (by omega)];omega
    have o2:IntKind.i64.wrap ((i:Int)-2)=((q+14:Nat):Int):=by rw[IntWalk.i64_in _ (by omega)];omega
    have o3:IntKind.i64.wrap ((i:Int)-16)=(q:Int):=by rw[IntWalk.i64_in _ (by omega)];omega
    have o4:IntKind.i64.wrap ((i:Int)-7)=((q+9:Nat):Int):=by rw[IntWalk.i64_in _ (by omega)];omega
    have hne1:i≠q:=by omega
    have hne2:i≠q+9:=by omega
    have HI:=zh hi2;have T1:=zh (turn_at a1 7 7 rfl l1 (by decide) (by decide));have T2:=zh (turn_at a1 18 18 rfl l1 (by decide) (by decide));have T3:=zh (turn_at a14 17 17 rfl l14 (by decide) (by decide));have T4:=zh (turn_at a14 19 19 rfl l14 (by decide) (by decide));have r1:=rr_lt (n:=7) l1 (by decide);have r2:=rr_lt (n:=18) l1 (by decide);have r3:=rr_lt (n:=17) l14 (by decide);have r4:=rr_lt (n:=19) l14 (by decide);have d1:a1/8<4294967296:=by omega
    have d2:a14/1024<4294967296:=by omega
    have X0:=xorQ _ _ r1 r2;have X1:=xorQ _ _ (xor_lt r1 r2) d1;have X2:=xorQ _ _ r3 r4;have X3:=xorQ _ _ (xor_lt r3 r4) d2;have s0:=xor_lt (xor_lt r1 r2) d1;have s1:=xor_lt (xor_lt r3 r4) d2;have HS0:Hid (sg0 a1=rr a1 7 ^^^ rr a1 18 ^^^ a1/8):=zh rfl;have HS1:Hid (sg1 a14=rr a14 17 ^^^ rr a14 19 ^^^ a14/1024):=zh rfl;generalize rr a1 7=R1 at *;generalize rr a1 18=R2 at *;generalize rr a14 17=R3 at *;generalize rr a14 19=R4 at *;have v1:(a1:Int)/8=((a1/8:Nat):Int):=by omega
    have u1:IntKind.u64.wrap ((a1/8:Nat):Int)=((a1/8:Nat):Int):=by rw[IntKind.wrap_u64];omega
    have u2:IntKind.u64.wrap ((a14/1024:Nat):Int)=((a14/1024:Nat):Int):=by rw[IntKind.wrap_u64];omega
    have v2:(a14:Int)/1024=((a14/1024:Nat):Int):=by omega
    generalize R1 ^^^ R2 ^^^ a1/8=S0 at *;generalize R3 ^^^ R4 ^^^ a14/1024=S1 at *;generalize a1/8=D1 at *;generalize a14/1024=D2 at *;generalize R1 ^^^ R2=Y1 at *;generalize R3 ^^^ R4=Y2 at *;clear hi2;go_wp2;clear o1 o2;obtain⟨q9,hq9⟩:∃q9,q+9=q9:=⟨_,rfl⟩;rw[hq9]at c3 hne2 o4;have hi2:=HI.out;have b1:(0:Int)≤(q:Int):=by omega
    have b2:(q:Int)<64:=by omega
    have b3:(0:Int)≤(q9:Int):=by omega
    have b4:(q9:Int)<64:=by omega
    have b5:(0:Int)≤(i:Int):=by omega
    have b6:(i:Int)<64:=by omega
    clear hq9 hi2
    go_region_held3 (fun w'=>w'.cell? ⟨bW,q,none⟩=some (.int .u64 (a0:Nat))∧w'.cell? ⟨bW,q9,none⟩=some (.int .u64 (a9:Nat)))
     (first|(refine two_set ?_ hne1 hne2;assumption)|go_keep)
     (first|(go_at_call 169;(with_reducible refine (T1.out _).mono ?_);rintro y w1 ⟨rfl,m,rfl⟩)|(go_at_call 169;(with_reducible refine (T2.out _).mono ?_);rintro y w1 ⟨rfl,m,rfl⟩)|(go_at_call 169;(with_reducible refine (T3.out _).mono ?_);rintro y w1 ⟨rfl,m,rfl⟩)|(go_at_call 169;(with_reducible refine (T4.out _).mono ?_);rintro y w1 ⟨rfl,m,rfl⟩))
    all_goals
     go_wp2
     go_roundw
     case rel=>
      have hi2:=HI.out;have e:wi s.data.toList (i+1)=wl s.data.toList (q+1):=by rw[←hi2];exact wi_hi _ (q+1)
      refine⟨i+1,by omega,by go_num,?_⟩;rw[e];refine HBK.out.drewN.setW i _ N ?_ HW.out;have h1:=HNX.out;rw[HS0.out,HS1.out]at h1
      (try simp only[IntKind.wrap_u64])
      (try rw[Int.tmod_eq_emod_of_nonneg (by omega)])
      omega
     case measure=>simp[intOf];omega
  ·obtain rfl:i=64:=by omega
   have e64:wi s.data.toList 64=ws s.data.toList 48:=(wi_hi _ 48).trans (wl_all _);rw[e64]at HBK;have HWL:=zh (fun j=>ws_lt s.data.toList 48 j);have HWN:Hid ((ws s.data.toList 48).length=64):=zh (ws_len _ 48);have HKB:=zh (fun j=>K0_lt j);rw[HK.out]at HKB;have HT1:Hid (take1 h s.data.toList=plus h (mix K (ws s.data.toList 48) h)):=zh (by rw[←HK.out];rfl);generalize ws s.data.toList 48=L at *;obtain⟨c0,c1,c2,c3,c4,c5,c6,c7⟩:=VQ.cells (show VQ wr w.heap.size h from HBK.out.ph);clear e64;go_wp2;clear c0 c1 c2 c3 c4 c5 c6 c7;have HV0:Hid (VQ (wr.alloc (.cells #[.int .u64 h.a,.int .u64 h.b,.int .u64 h.c,.int .u64 h.d,.int .u64 h.e,.int .u64 h.f,.int .u64 h.g,.int .u64 h.h] 194)) wr.heap.size h):=zh (heap_alloc_new wr _);have HB0:=zh (HBK.out.keep ((Below.refl _ _).alloc zle (.cells #[.int .u64 h.a,.int .u64 h.b,.int .u64 h.c,.int .u64 h.d,.int .u64 h.e,.int .u64 h.f,.int .u64 h.g,.int .u64 h.h] 194)));have hbv:=HBK.out.wd.lt;clear HBK;generalize (wr.alloc (.cells #[.int .u64 h.a,.int .u64 h.b,.int .u64 h.c,.int .u64 h.d,.int .u64 h.e,.int .u64 h.f,.int .u64 h.g,.int .u64 h.h] 194))=W4 at HV0 HB0 ⊢;obtain⟨bV,hbV⟩:∃bV,wr.heap.size=bV:=⟨_,rfl⟩;rw[hbV]at HV0 hbv ⊢;clear hbV
   go_loopw [12] (fun iv wx=>∃(i:Nat) (u:V),i≤64∧iv=.int .i64 i∧u.ok∧VQ wx bV u∧BK w wx bK bW h L∧mix (K.drop i) (L.drop i) u=mix K L h) (fun iv _=>64-(intOf iv).toNat)
   case atStart=>exact⟨0,h,by omega,rfl,HVO.out,HV0.out,HB0.out,rfl⟩
   case round=>
    clear HV0 HB0;obtain⟨i,u,hi,rfl,hu,hV,hB,hm⟩:=hrel;have HVr:=zh hV;have HBr:=zh hB;have HM:=zh hm;have HUR:=zh hu;by_cases h64:i<64
    ·have HST:=zh (mix_step (ks:=K) (l:=L) (k:=i) (v:=u) (by rw[hKl];exact h64) (by rw[HWN.out];exact h64))
     have ca:=hB.ks.cell i (by rw[K0_len];exact h64);rw[HK.out]at ca;have cb:=hB.wd.cell i (by rw[HWN.out];exact h64);have hx:=HWL.out i;have hk:=HKB.out i;generalize K.getD i 0=k at *;generalize L.getD i 0=x at *;obtain⟨c0,c1,c2,c3,c4,c5,c6,c7⟩:=hV.cells;have HRN:Hid (rnd u (wk x k)=rnd u (wk x k)):=zh rfl;obtain⟨N,hN⟩:∃N,rnd u (wk x k)=N:=⟨_,rfl⟩;rw[hN]at HST;have HN:=zh hN;have HNO:Hid N.ok:=zh (by rw[←hN];exact rnd_ok hu);obtain⟨a,b,c,d,e,f,g,z⟩:=u;obtain⟨ha,hb,hc,hd,he,hf,hg,hz⟩:=hu;simp only at ha hb hc hd he hf hg hz c0 c1 c2 c3 c4 c5 c6 c7;have HNA:Hid (N.a=((z+bs1 e+ch e f g+wk x k)%4294967296+(bs0 a+mj a b c)%4294967296)%4294967296):=zh (by rw[←hN];rfl);have HNE:Hid (N.e=(d+(z+bs1 e+ch e f g+wk x k)%4294967296)%4294967296):=zh (by rw[←hN];rfl);have HNR:Hid (N.b=a∧N.c=b∧N.d=c∧N.f=e∧N.g=f∧N.h=g):=zh (by rw[←hN];exact⟨rfl,rfl,rfl,rfl,rfl,rfl⟩);clear hN HRN hV hB hm HUR HN;have T1:=zh (turn_at e 6 6 rfl he (by decide) (by decide));have T2:=zh (turn_at e 11 11 rfl he (by decide) (by decide));have T3:=zh (turn_at e 25 25 rfl he (by decide) (by decide));have T4:=zh (turn_at a 2 2 rfl ha (by decide) (by decide));have T5:=zh (turn_at a 13 13 rfl ha (by decide) (by decide));have T6:=zh (turn_at a 22 22 rfl ha (by decide) (by decide));have r1:=rr_lt (n:=6) he (by decide);have r2:=rr_lt (n:=11) he (by decide);have r3:=rr_lt (n:=25) he (by decide);have r4:=rr_lt (n:=2) ha (by decide);have r5:=rr_lt (n:=13) ha (by decide);have r6:=rr_lt (n:=22) ha (by decide);have X1:=xorQ _ _ r1 r2;have X2:=xorQ _ _ (xor_lt r1 r2) r3;have X3:=xorQ _ _ r4 r5;have X4:=xorQ _ _ (xor_lt r4 r5) r6;have A1:=andQ e f he hf;have i1:IntKind.u64.wrap ((4294967295:Int)-(e:Int))=((4294967295-e:Nat):Int):=by rw[IntKind.wrap_u64];omega
     have hie:4294967295-e<4294967296:=by omega
     have A2:=andQ (4294967295-e) g hie hg;have X5:=xorQ _ _ (and_lt (y:=f) he) (and_lt (y:=g) hie);have A3:=andQ a b ha hb;have A4:=andQ a c ha hc;have A5:=andQ b c hb hc;have X6:=xorQ _ _ (and_lt (y:=b) ha) (and_lt (y:=c) ha);have X7:=xorQ _ _ (xor_lt (and_lt (y:=b) ha) (and_lt (y:=c) ha)) (and_lt (y:=c) hb);have s1:=xor_lt (xor_lt r1 r2) r3;have s2:=xor_lt (xor_lt r4 r5) r6;have s3:=xor_lt (and_lt (y:=f) he) (and_lt (y:=g) hie);have s4:=xor_lt (xor_lt (and_lt (y:=b) ha) (and_lt (y:=c) ha)) (and_lt (y:=c) hb);unfold bs1 ch at HNA HNE;unfold bs0 mj at HNA;generalize 4294967295-e=e9 at *;generalize rr e 6=R1 at *;generalize rr e 11=R2 at *;generalize rr e 25=R3 at *;generalize rr a 2=R4 at *;generalize rr a 13=R5 at *;generalize rr a 22=R6 at *;generalize R1 ^^^ R2 ^^^ R3=S1 at *;generalize R1 ^^^ R2=Y1 at *;generalize R4 ^^^ R5 ^^^ R6=S2 at *;generalize R4 ^^^ R5=Y2 at *;generalize (e &&& f) ^^^ (e9 &&& g)=S3 at *;generalize e &&& f=Y3 at *;generalize e9 &&& g=Y4 at *;generalize (a &&& b) ^^^ (a &&& c) ^^^ (b &&& c)=S4 at *;generalize (a &&& b) ^^^ (a &&& c)=Y5 at *;generalize a &&& b=Y6 at *;generalize a &&& c=Y7 at *;generalize b &&& c=Y8 at *;go_wp2;go_quiet (first|(go_at_call 169;with_reducible exact Calls.quiet_of (T1.out _))|(go_at_call 169;with_reducible exact Calls.quiet_of (T2.out _))|(go_at_call 169;with_reducible exact Calls.quiet_of (T3.out _)))
     have HB2:=zh (BK.drewN (n:=nq) HBr.out);have HV2:=zh (VQ.drewN (n:=nq) HVr.out);clear c0 c1 c2 c3 c4 c5 c6 c7 HBr HVr ca cb;generalize wr.drewN nq=W5 at HB2 HV2 ⊢;obtain⟨c0,c1,c2,c3,c4,c5,c6,c7⟩:=HV2.out.cells;simp only at c0 c1 c2 c3 c4 c5 c6 c7;have df:=HV2.out.fz;go_wp2;go_quiet (first|(go_at_call 169;with_reducible exact Calls.quiet_of (T4.out _))|(go_at_call 169;with_reducible exact Calls.quiet_of (T5.out _))|(go_at_call 169;with_reducible exact Calls.quiet_of (T6.out _)))
     go_wp2
     go_roundw
     case rel=>
      have h1:=HNA.out;have h2:=HNE.out;have hw:wk x k=(x+k)%4294967296:=rfl;rw[hw]at h1 h2;obtain⟨n1,n2,n3,n5,n6,n7⟩:=HNR.out;refine⟨i+1,N,by omega,by go_num,HNO.out,VQ.of (Dg.put8 _ _ _ _ _ _ _ _ _ _ _ _ _ _ _ _ (VQ.drewN HV2.out)) ?_ ?_ ?_ ?_ ?_ ?_ ?_ ?_,?_,by rw[←HST.out];exact HM.out⟩
      ·omega
      ·omega
      ·omega
      ·omega
      ·omega
      ·omega
      ·omega
      ·omega
      ·iterate 8 (with_reducible refine BK.setV ?_ hbv _ _)
       exact BK.drewN HB2.out
     case measure=>simp[intOf];omega
    ·obtain rfl:i=64:=by omega
     rw[List.drop_of_length_le (by rw[hKl];exact Nat.le_refl _),mix_nil]at HM;have hu2:u=mix K L h:=HM.out;clear HM;subst hu2;obtain⟨u,hu2⟩:∃u,mix K L h=u:=⟨_,rfl⟩;rw[hu2]at HVr HT1;obtain⟨A,hA⟩:∃A,(plus h u).toL=A:=⟨_,rfl⟩;have hAl:A.length=8:=by rw[←hA];rfl
     have HPL:=zh (fun k hk=>plus_get h u k hk);rw[hA]at HPL;have HAA:Hid ((take1 h s.data.toList).toL=A):=zh (by rw[HT1.out,hA]);have HE:Hid (AQ 194 wr bV (A.take 0++(u.toL.drop 0++[]))):=zh HVr.out;clear hu2 hA HVr HT1 hV hB hm hu HUR HVO HWL HKB;go_wp2
     go_loopw [17] (fun iv wx=>∃k:Nat,k≤8∧iv=.int .i64 k∧AQ 194 wx bV (A.take k++(u.toL.drop k++[]))∧BK w wx bK bW h L) (fun iv _=>8-(intOf iv).toNat)
     case atStart=>exact⟨0,by omega,rfl,HE.out,HBr.out⟩
     case round=>
      clear HE HBr;obtain⟨k,hk8,rfl,hE,hB⟩:=hrel;have HB:=zh hB;by_cases hlt8:k<8
      ·have ck:=hE.cell k (by simp[toL_len];omega)
       rw[pl_get _ _ _ _ (by omega) hlt8]at ck;have fk:=hE.fz k;have cp:=hB.ph.cell k (by rw[toL_len];exact hlt8)
       have HN:Hid (∀(N:Int),N=((A.getD k 0:Nat):Int)→AQ 194 (wr.setCell ⟨bV,k,none⟩ (.int .u64 N)) bV (A.take (k+1)++(u.toL.drop (k+1)++[]))):=zh (by
        intro N hN;subst hN;have:=hE.set k (A.getD k 0);rw[pl_set _ _ _ _ (by omega) hlt8]at this
        exact this)
       rw[HPL.out k hlt8]at HN;clear hE hB;have b1:(0:Int)≤(k:Int):=by omega
       have b2:(k:Int)<8:=by omega
       generalize h.toL.getD k 0=x at *;generalize u.toL.getD k 0=y at *;go_wp2
       go_region
       go_wp2
       go_roundw
       case rel=>
        refine⟨k+1,by omega,by go_num,(HN.out _ ?_).drew,(HB.out.setV hbv _ _).drew⟩;simp only[IntKind.wrap_u64];rw[Int.tmod_eq_emod_of_nonneg (by omega)];omega
       case measure=>simp[intOf];omega
      ·obtain rfl:k=8:=by omega
       rw[List.take_of_length_le (by omega),List.drop_of_length_le (by rw[toL_len];omega),List.nil_append,List.append_nil]at hE;have HE:=zh hE;clear hE hB;have hb1:w.heap.size+1≠bV:=by have:=HB.out.lk;have:=HB.out.lw;omega
       go_upto_region 27 with (fail)
       refine wp_region_lit ?_;refine wpList_load_row rfl _ _ rfl bV rfl _ _ _ _ HE.out Tryz.underlying194 rfl (by rw[infQ8,w64_len,hAl]) ?_;refine wpList_store_row rfl _ _ _ rfl (w.heap.size+1) _ rfl rfl _ _ HB.out.rs (by rw[infQ8,w64_len,hAl]) (by rw[w64_len,w64_len,hAl,List.length_replicate]) (all_words64 _) ?_;have HRW:Hid (AQ 194 (wr.setRow (w.heap.size+1) (A.map fun x:Nat=>Value.int .u64 x).toArray) (w.heap.size+1) A):=zh (setRow_heap wr _ _ _ _ _ HB.out.rs);have HBW:=zh (below_setRow (g:=w.heap.size+1) HB.out.bel (Nat.le_succ _) (A.map fun x:Nat=>Value.int .u64 x).toArray);generalize wr.setRow (w.heap.size+1) (A.map fun x:Nat=>Value.int .u64 x).toArray=W at *;go_wp2;exact bodyPost_ret (v:=.agg (A.map fun x:Nat=>Value.int .u64 x).toArray) (results_cell_row Tryz.results147 _ W (w.heap.size+1) _ _ _ _ rfl HRW.out Tryz.underlying194 rfl (by rw[infQ8,w64_len,hAl])) rfl ⟨by rw[HAA.out],HBW.out⟩
theorem be_step(x j:Nat)(hj:j<4):(be x).take (j+1)=(be x).take j++[UInt8.ofNat (x/2^(8*(3-j))%256)]:=by
 have e:∀x,UInt8.ofNat (x%256)=UInt8.ofNat x:=by
  intro x;apply UInt8.toNat_inj.1;simp[UInt8.toNat_ofNat']
 have:j=0∨j=1∨j=2∨j=3:=by omega
 rcases this with rfl|rfl|rfl|rfl<;>rw[e]<;>simp[be]
theorem toL_lt{v:V}(h:v.ok)(j:Nat):v.toL.getD j 0<4294967296:=by
 obtain⟨h0,h1,h2,h3,h4,h5,h6,h7⟩:=h;rcases Nat.lt_or_ge j 8 with hj|hj
 ·have:j=0∨j=1∨j=2∨j=3∨j=4∨j=5∨j=6∨j=7:=by omega
  rcases this with rfl|rfl|rfl|rfl|rfl|rfl|rfl|rfl<;>assumption
 ·rw[List.getD,List.getElem?_eq_none (show v.toL.length≤j from hj)]
  decide
theorem hcell_alloc{w:World}{p:Addr}{v:Value}(h:w.cell? p=some v)(o:Obj):(w.alloc o).cell? p=some v:=by
 rw[World.cell?_alloc_lt _ _ _ (World.block_lt_of_cell? w _ h)];exact h
theorem ext_blk(T:List UInt8)(i:Nat)(h:i+64≤T.length):((⟨T.toArray⟩:ByteArray).extract i (i+64)).data.toList=(T.drop i).take 64:=by
 rw[Lib.extract_data,show i+64-i=64 by omega]
theorem VQ.keep{w w':World}{b B:Nat}{v:V}(h:VQ w b v)(hb:Below B w w')(hB:b<B):VQ w' b v:=by
 unfold VQ at *;rw[hb.block b hB];exact h
theorem VQ.aq{w:World}{b:Nat}{v:V}(h:VQ w b v):AQ 194 w b v.toL:=h
theorem AQ.keepB{T:TypeId}{w w':World}{b B:Nat}{l:List Nat}(h:AQ T w b l)(hb:Below B w w')(hB:b<B):AQ T w' b l:=by
 unfold AQ at *;rw[hb.block b hB];exact h
theorem block_lit(h:V)(s:ByteArray)(w:World)(hv:h.ok)(hs:s.size=64) :
 Calls Tryz.prog 147 #[.agg #[.int .u64 h.a,.int .u64 h.b,.int .u64 h.c,.int .u64 h.d,.int .u64 h.e,.int .u64 h.f,.int .u64 h.g,.int .u64 h.h],.string s] w fun e w'=>
  e=.returned (.agg #[.int .u64 (take1 h s.data.toList).a,.int .u64 (take1 h s.data.toList).b,.int .u64 (take1 h s.data.toList).c,.int .u64 (take1 h s.data.toList).d,.int .u64 (take1 h s.data.toList).e,.int .u64 (take1 h s.data.toList).f,.int .u64 (take1 h s.data.toList).g,.int .u64 (take1 h s.data.toList).h])∧Below w.heap.size w w':=
 block_ref h s w hv hs
theorem VQ.put8{w0 w:World}{b B:Nat}{u:V}(h:VQ w b u)(n:V)(hB:Below B w0 w)(hb:B≤b) :
 VQ ((((((((w.setCell ⟨b,0,none⟩ (.int .u64 n.a)).setCell ⟨b,1,none⟩ (.int .u64 n.b)).setCell ⟨b,2,none⟩ (.int .u64 n.c)).setCell ⟨b,3,none⟩ (.int .u64 n.d)).setCell ⟨b,4,none⟩ (.int .u64 n.e)).setCell ⟨b,5,none⟩ (.int .u64 n.f)).setCell ⟨b,6,none⟩ (.int .u64 n.g)).setCell ⟨b,7,none⟩ (.int .u64 n.h)) b n ∧
 Below B w0 ((((((((w.setCell ⟨b,0,none⟩ (.int .u64 n.a)).setCell ⟨b,1,none⟩ (.int .u64 n.b)).setCell ⟨b,2,none⟩ (.int .u64 n.c)).setCell ⟨b,3,none⟩ (.int .u64 n.d)).setCell ⟨b,4,none⟩ (.int .u64 n.e)).setCell ⟨b,5,none⟩ (.int .u64 n.f)).setCell ⟨b,6,none⟩ (.int .u64 n.g)).setCell ⟨b,7,none⟩ (.int .u64 n.h)):=by
 refine⟨Dg.put8 _ _ _ _ _ _ _ _ _ _ _ _ _ _ _ _ h,?_⟩
 iterate 8 (with_reducible refine Below.setCell ?_ hb _)
 exact hB
theorem sum_ref(s:ByteArray)(w:World)(hs:s.size≤100000) :
 Calls Tryz.prog 116 #[.string s] w fun e w'=>e=.returned (.string ⟨(sha s.data.toList).toArray⟩)∧Below w.heap.size w w':=by
 have CF:=zh (fun W=>filled_ref s W hs);obtain⟨N,hN⟩:=pad_len s.data.toList;have HF:Hid (sha s.data.toList=bes (blocks N (pad s.data.toList) H0).toL):=zh (by unfold sha;rw[hN,Nat.mul_div_cancel_left N (by decide)]);obtain⟨F,hF⟩:∃F,blocks N (pad s.data.toList) H0=F:=⟨_,rfl⟩;rw[hF]at HF
 have hp:(pad s.data.toList).length≤200000:=by
  have h1:s.data.toList.length=s.size:=by simp
  simp only[pad,List.length_append,List.length_replicate,bes_len,List.length_cons,List.length_nil];unfold zs;omega
 generalize pad s.data.toList=T at *;have hN1:N≤4000:=by omega
 have HBL:=zh hF;clear hF
 have CB:=zh (fun (k:Nat) (v:V) (hv:v.ok) (hk:k<N) (W:World)=>block_lit v ((⟨T.toArray⟩:ByteArray).extract (64*k) (64*k+64)) W hv (by
  have h1:=ext_blk T (64*k) (by omega);show ((⟨T.toArray⟩:ByteArray).extract (64*k) (64*k+64)).data.size=64;rw[←Array.length_toList,h1,List.length_take,List.length_drop]
  omega))
 obtain⟨tp,htp⟩:∃tp:ByteArray,⟨T.toArray⟩=tp:=⟨_,rfl⟩;have hsz:tp.size=64*N:=by rw[←htp,←hN];rfl
 have HEX:=zh (fun i h=>ext_blk T i h);rw[htp]at CF CB HEX;have HN:=zh hN;clear htp hN hp;go_enter Tryz.func116,Tryz.ntmps116;go_wp2_with fail
 refine (CF.out _).mono ?_;rintro e w1 ⟨rfl,hb1⟩;have HV1:Hid (VQ w1 w.heap.size H0):=zh (VQ.keep (show VQ (w.alloc (.cells #[.int .u64 H0.a,.int .u64 H0.b,.int .u64 H0.c,.int .u64 H0.d,.int .u64 H0.e,.int .u64 H0.f,.int .u64 H0.g,.int .u64 H0.h] 194)) w.heap.size H0 from heap_alloc_new w _) hb1 (by simp));have HB1:=zh (((Below.refl _ _).alloc zle _).trans (hb1.mono (by simp)));clear hb1;go_wp2_with fail
 go_loopw [5] (fun iv wr=>∃(k n:Nat) (v:V),N=k+n∧iv=.int .i64 (64*k:Nat)∧v.ok∧VQ wr w.heap.size v∧blocks n (T.drop (64*k)) v=F∧Below w.heap.size w wr) (fun iv _=>tp.size-(intOf iv).toNat)
 case atStart=>exact⟨0,N,H0,by omega,rfl,H0_ok,HV1.out,HBL.out,HB1.out⟩
 case round=>
  clear HV1 HB1;obtain⟨k,n,v,hkn,rfl,hv,hV,hf,hB⟩:=hrel;have HV:=zh hV;have HB:=zh hB;have HVO:=zh hv;have hlt0:=hV.lt
  cases n with
  | zero=>
   have hv2:v=F:=by rw[←hf,blocks_none]
   subst hv2;obtain⟨i,hi⟩:∃i,64*k=i:=⟨_,rfl⟩;have hge:¬((i:Int)<(tp.size:Int)):=by omega
   rw[hi];clear hi hV hB hf hv;have HBr:=zh (HB.out.alloc (B:=w.heap.size) HB.out.size (.cells #[] 5));have HQ:Hid (AQ 194 (wr.alloc (.cells #[] 5)) w.heap.size v.toL):=zh ((Lib.alloc_old _ _ _ hlt0).trans HV.out.aq);have HO:Hid (OwnM (wr.alloc (.cells #[] 5)) (w.heap.size+1) (.slice (some ⟨wr.heap.size,0,none⟩) 0 0) []):=zh ⟨wr.heap.size,0,#[],(0,0),rfl,hlt0,heap_alloc_new wr _,.inr rfl,Nat.le_refl _,by decide,rfl,rfl⟩;obtain⟨L,hL⟩:∃L,v.toL=L:=⟨_,rfl⟩;have hLl:L.length=8:=by rw[←hL];rfl
   have HLB:Hid (∀j,L.getD j 0<4294967296):=zh (by rw[←hL];exact toL_lt HVO.out);rw[hL]at HQ HF;clear hL HV HB CB HEX HVO;go_wp2
   go_loopw [6,7] (fun bv iv wx=>∃(k g c:Nat),k≤8∧iv=.int .i64 k∧bv=.slice (some ⟨g,0,none⟩) (4*k) c∧OwnM wx (w.heap.size+1) (.slice (some ⟨g,0,none⟩) (4*k) c) (bes (L.take k))∧AQ 194 wx w.heap.size L∧Below w.heap.size w wx) (fun _ iv _=>8-(intOf iv).toNat)
   case atStart=>exact⟨0,wr.heap.size,0,by omega,rfl,rfl,HO.out,HQ.out,HBr.out⟩
   case round=>
    clear HO HQ HBr hlt0;obtain⟨k,g,c,hk,rfl,rfl,hO,hQ,hB⟩:=hrel;have HO:=zh hO;have HQ:=zh hQ;have HBr:=zh hB;by_cases hk8:k<8
    ·have hcq:=fun (wx:World) (h:AQ 194 wx w.heap.size L)=>h.cell k (by omega)
     have HBS:=zh (bes_step L k (by omega));have HXB:Hid (L.getD k 0<4294967296):=zh (HLB.out k);generalize L.getD k 0=x at hcq HBS HXB;have HCQ:=zh hcq;obtain⟨q,hq⟩:∃q,4*k=q:=⟨_,rfl⟩;rw[hq]at HO ⊢;have hXl:(bes (L.take k)).length=q:=by rw[bes_len,List.length_take];omega
     generalize bes (L.take k)=X at HO HBS hXl;have HXL:=zh hXl;have HQK:=zh hq;have hq1:q≤32:=by omega
     have b2:(k:Int)<8:=by omega
     clear hcq hXl hq hO hQ hB;go_wp2
     go_loopw [6,8] (fun bv nv wx=>∃(j g c:Nat),j≤4∧nv=.int .i64 (3-(j:Int))∧bv=.slice (some ⟨g,0,none⟩) (q+j) c∧OwnM wx (w.heap.size+1) (.slice (some ⟨g,0,none⟩) (q+j) c) (X++(be x).take j)∧AQ 194 wx w.heap.size L∧Below w.heap.size w wx) (fun _ nv _=>(intOf nv+1).toNat)
     case atStart=>exact⟨0,g,c,Nat.zero_le _,rfl,rfl,by simpa using HO.out,HQ.out,HBr.out⟩
     case round=>
      clear HO HQ HBr;obtain⟨j,g,c,hj,rfl,rfl,hO,hQ,hB⟩:=hrel;have HO:=zh hO;have HQ:=zh hQ;have HBr:=zh hB;have hsz:=hB.size;have hlt1:=hQ.lt;by_cases hj4:j<4
      ·have hcx:=HCQ.out wr hQ
       obtain⟨m,hm⟩:∃m,3-j=m:=⟨_,rfl⟩;have him:3-(j:Int)=(m:Int):=by omega
       have HS:=zh (be_step x j hj4);rw[hm]at HS;obtain⟨E,hE⟩:∃E,8*m=E:=⟨_,rfl⟩;rw[hE]at HS;have hE1:E≤24:=by omega
       have CP:=zh (fun w=>power_ref E w (by omega));have e1:(8:Int)*(m:Int)=(E:Int):=by omega
       have e1':IntKind.i64.wrap ((8:Int)*(m:Int))=(E:Int):=by rw[IntWalk.i64_in _ (by omega)];omega
       have e1'':IntKind.i64.wrap (E:Int)=(E:Int):=by rw[IntWalk.i64_in _ (by omega)]
       have hp0:1≤2^E:=Nat.one_le_two_pow;obtain⟨P,hP⟩:∃P,2^E=P:=⟨_,rfl⟩;rw[hP]at HS CP hp0;obtain⟨D,hD⟩:∃D,x/P=D:=⟨_,rfl⟩;rw[hD]at HS;have e4:(x:Int)/(P:Int)=(D:Int):=by rw[←hD];push_cast;rfl
       have e4':(x:Int).tdiv (P:Int)=(D:Int):=by rw[Int.tdiv_eq_ediv_of_nonneg (by omega)];exact e4
       have hxb:=HXB.out;have hDx:D≤x:=by rw[←hD];exact Nat.div_le_self x P
       have e4'':IntKind.u64.wrap (D:Int)=(D:Int):=by rw[IntKind.wrap_u64];omega
       obtain⟨R,hR⟩:∃R,D%256=R:=⟨_,rfl⟩;rw[hR]at HS;have hR1:R<256:=by omega
       have e5:(D:Int)%256=(R:Int):=by omega
       have e5':(D:Int).tmod 256=(R:Int):=by rw[Int.tmod_eq_emod_of_nonneg (by omega)];exact e5
       have e6:IntKind.u8.wrap (R:Int)=(R:Int):=by rw[IntKind.wrap_u8];omega
       have e6':(R:Int)%256=(R:Int):=by omega
       have e7:(UInt8.ofNat R).toNat=R:=by rw[UInt8.toNat_ofNat',Nat.mod_eq_of_lt (by omega)]
       have hPne:((P:Int)==0)=false:=by rw[beq_eq_false_iff_ne];omega
       have hP0:¬P=0:=by omega
       have hXj:q+j=(X++(be x).take j).length:=by rw[List.length_append,HXL.out,List.length_take,be_len];omega
       obtain⟨g2,c2,w3,ha,ho3,hb3⟩:=push_M wr.drew (w.heap.size+1) 66 g (q+j) c _ (UInt8.ofNat R) hXj HO.out (by omega) hlt1;rw[e7]at ha;rw[List.append_assoc,←HS.out]at ho3;have HA:=zh ha;have HO3:=zh ho3;have HQ3:=zh (HQ.out.drew.keepB hb3 (Nat.lt_succ_self _));have HCX:=zh (HCQ.out _ HQ3.out);have HB3:=zh ((below_drew HBr.out).trans (hb3.mono (Nat.le_succ _)));have HM:=zh hm;have b1:(0:Int)≤(k:Int):=by omega
       clear ha ho3 hb3 hXj e7 hE hD hP hR hm HS HBr hO hQ hB hDx hxb;rw[him];go_wp2;refine wp_region_noPanic ?_;refine wp_region_held_drew (S:=fun w':World=>w'.cell? ⟨w.heap.size,k,none⟩=some (.int .u64 (x:Nat))) (by kernel_rfl) ?_ (fun hHeld=>?_)
       ·exact hcx
       iterate 6
        refine zqb [0,1,2,3,4,5] rfl rfl ?_ ?_ ?_;rotate_left
        ·(intro w hSw;(try dsimp only at hSw);go_simp;(try with_reducible rfl))
        try simp only[Act.put,J1,J2,J3,J4,J5,J6]
       refine zqf [6] (AllReadyH.cons rfl (fun K hK=>?_) AllReadyH.nil);rw[if_pos (by rfl)];go_simp;with_reducible refine (CP.out _).mono ?_
       rintro e w4 ⟨rfl,rfl⟩;refine hK.out _ _ ?_ (fun hHeld=>?_)
       ·exact hcx
       clear hK K
       try simp only[Act.put,J1,J2,J3,J4,J5,J6]
       iterate 3
        refine zqb [7,8,9] rfl rfl ?_ ?_ ?_;rotate_left
        ·(intro w hSw;(try dsimp only at hSw);go_simp;(try with_reducible rfl))
        try simp only[Act.put,J1,J2,J3,J4,J5,J6]
       refine zqf [10] (AllReadyH.cons rfl (fun K hK=>?_) AllReadyH.nil);rw[if_pos (by rfl)];go_simp;refine hK.out _ _ ?_ (fun hHeld=>?_)
       ·exact (hcell_alloc hcx _)
       clear hK K
       try simp only[Act.put,J1,J2,J3,J4,J5,J6]
       refine zqf [11] (AllReadyH.cons rfl (fun K hK=>?_) AllReadyH.nil);rw[if_pos (by rfl)];refine Lib.wp_append_run _ _ _ _ _ rfl _ _ rfl rfl _ _ HA.out ?_;refine hK.out _ _ ?_ (fun hHeld=>?_)
       ·exact HCX.out
       clear hK K
       try simp only[Act.put,J1,J2,J3,J4,J5,J6]
       refine zqa 12 rfl ?_ ?_ ?_;rotate_left
       ·(intro w hSw;(try dsimp only at hSw);go_simp;(try with_reducible rfl))
       try simp only[Act.put,J1,J2,J3,J4,J5,J6]
       refine zqe (NoPanic.normal ?_);go_wp2
       go_roundw
       case rel=>exact⟨j+1,g2,c2,by omega,by have:=HM.out;go_num,rfl,HO3.out,HQ3.out,HB3.out⟩
       case measure=>have:=HM.out;simp[intOf]
      ·obtain rfl:j=4:=by omega
       rw[List.take_of_length_le (by rw[be_len];exact Nat.le_refl _),←HBS.out]at HO;clear hO hQ hB;go_wp2
       go_roundw
       case rel=>exact⟨k+1,g,c,by omega,by go_num,by rw[Nat.mul_add,HQK.out],by rw[Nat.mul_add,HQK.out];exact HO.out,HQ.out,HBr.out⟩
       case measure=>simp[intOf];omega
    ·obtain rfl:k=8:=by omega
     rw[List.take_of_length_le (by omega),←HF.out]at HO;have hcv:(convert 66 9 (.slice (some ⟨g,0,none⟩) (4*8) c)).run Tryz.prog wr=.ok (.string ⟨(sha s.data.toList).toArray⟩) wr:=conv_ownM _ (by rw[sha_len]) HO.out;clear HO hO hQ hB;go_wp2
     go_ret
     exact⟨rfl,HBr.out⟩
  | succ n=>
   have CB1:=zh (CB.out k v hv (by omega));rw[HEX.out (64*k) (by rw[HN.out];omega)]at CB1;have HVN:Hid ((take1 v ((T.drop (64*k)).take 64)).ok):=zh (plus_ok _ _);have hf2:=hf;rw[blocks_step,List.drop_drop]at hf2;generalize take1 v ((T.drop (64*k)).take 64)=v2 at *;have HF2:Hid (blocks n (T.drop (64*(k+1))) v2=F):=zh (by rw[←hf2];rfl);obtain⟨i,hi⟩:∃i,64*k=i:=⟨_,rfl⟩;rw[hi]at CB1 ⊢;have hlt:(i:Int)<(tp.size:Int):=by omega
   have b1:(0:Int)≤(i:Int):=by omega
   have b3:IntKind.i64.wrap ((i:Int)+64)=(i:Int)+64:=by rw[IntWalk.i64_in _ (by omega)]
   have b4:(i:Int)+64≤(tp.size:Int):=by omega
   have b5:((i:Int)+64).toNat=i+64:=by omega
   have b6:(i:Int)≤(i:Int)+64:=by omega
   obtain⟨c0,c1,c2,c3,c4,c5,c6,c7⟩:=hV.cells;have HI:=zh hi;clear hf hf2 hi hV hB hv CB HEX;go_wp2_with fail
   go_region_with (go_at_call 147;(with_reducible refine (CB1.out _).mono ?_);rintro e1 w2 ⟨rfl,hb2⟩;have hV2:=VQ.keep (b:=w.heap.size) (v:=v) (by exact HV.out) hb2 (by exact hlt0);have H2:=zh hb2;obtain⟨d0,d1,d2,d3,d4,d5,d6,d7⟩:=hV2.cells;have df:=hV2.fz;have HV2:=zh hV2;clear hV2 hb2)
   all_goals
    go_wp2
    go_roundw
    case rel=>
     have hP:=VQ.put8 HV2.out v2 (below_of HB.out H2.out HB.out.size) zle;exact⟨k+1,n,v2,by omega,by have:=HI.out;go_num,HVN.out,hP.1,HF2.out,hP.2⟩
    case measure=>have:=HI.out;simp[intOf];omega
end Go.Proofs.YtagbkmoahflfdaaGreatDoor.Dg
