import Derived.Test.YtagbkmoahflfdaaGreatDoorJp01
import Derived.Test.YtagbkmoahflfdaaGreatDoorJp33
set_option maxHeartbeats 16000000
set_option maxRecDepth 20000
set_option linter.unusedVariables false
set_option linter.unusedSimpArgs false
namespace Go.Proofs.YtagbkmoahflfdaaGreatDoor.Se
open Tk Go.RowKit Vm Dg
def xk (key:List UInt8):Nat→List Nat
 | 0=>[1634760805,857760878,2036477234,1797285236,0,0,0,0,0,0,0,0,0,0,0,0]
 | i+1=>(xk key i).set (4+i) (lw key i)
theorem xk_len(key:List UInt8)(i:Nat):(xk key i).length=16:=by
 induction i with
 | zero=>rfl
 | succ i ih=>rw[xk,List.length_set,ih]
def xn (L:List Nat) (nonce:List UInt8):Nat→List Nat
 | 0=>L
 | i+1=>(xn L nonce i).set (13+i) (lw nonce i)
theorem xn_len(L:List Nat)(nonce:List UInt8)(i:Nat):(xn L nonce i).length=L.length:=by
 induction i with
 | zero=>rfl
 | succ i ih=>rw[xn,List.length_set,ih]
theorem xn_ini(key nonce:List UInt8)(c:Nat):xn ((xk key 8).set 12 c) nonce 3=ini key nonce c:=rfl
theorem tq_lo(l:List Nat)(k:Nat)(h:k<4):tq l (k+1)=quarterW (tq l k) k (4+k) (8+k) (12+k):=by
 have:k=0∨k=1∨k=2∨k=3:=by omega
 rcases this with rfl|rfl|rfl|rfl<;>rfl
theorem tq_hi(l:List Nat)(k:Nat)(h:k<4):tq l (4+k+1)=quarterW (tq l (4+k)) k (4+(k+1)%4) (8+(k+2)%4) (12+(k+3)%4):=by
 have:k=0∨k=1∨k=2∨k=3:=by omega
 rcases this with rfl|rfl|rfl|rfl<;>rfl
theorem le4_step(x j:Nat)(hj:j<4):(le4 x).take (j+1)=(le4 x).take j++[UInt8.ofNat (x/256^j)]:=by
 have:j=0∨j=1∨j=2∨j=3:=by omega
 rcases this with rfl|rfl|rfl|rfl<;>simp[le4]
theorem quarter_call(L:List Nat)(a b c d:Nat)(hl:L.length=16)(h32:W32 L)(ha:a<16)(hb:b<16)(hc:c<16)(hd:d<16)(A B:Array Value)(hA:(L.map fun x:Nat=>Value.int .u64 x).toArray=A)(hB:((quarterW L a b c d).map fun x:Nat=>Value.int .u64 x).toArray=B)(w:World) :
 Calls Tryz.prog 39 #[.agg A,.int .i64 a,.int .i64 b,.int .i64 c,.int .i64 d] w fun e w'=>e=.returned (.agg B)∧Below w.heap.size w w':=by
 subst hA hB;exact quarter_ref L a b c d w hl h32 ha hb hc hd
theorem store_whole(W:World)(y:Nat)(t:TypeId)(A B:Array Value)(h:W.heap[y]?=some (.cells A t (0,0)))(hs:A.size=B.size)(h1:B.all (·.oneCell')=true):(storeCells ⟨y,0,none⟩ B.toList).run Tryz.prog W=.ok () (W.setRow y B):=by
 have h2:=run_storeCells_from (P:=Tryz.prog) y t B.toList 0 A W h (by simp;omega) (fun v hv=>(Array.all_eq_true_iff_forall_mem.1 h1) v (by simpa using hv))
 simpa using h2
theorem dblock_any(key nonce:ByteArray)(c:Nat)(w:World)(hk:key.size≤100000)(hn:nonce.size≤100000)(hc:c<4294967296) :
 Calls Tryz.prog 12 #[.string key,.string nonce,.int .u32 c] w fun e w'=>e=.returned (.string ⟨(blk key.data.toList nonce.data.toList c).toArray⟩)∧Below w.heap.size w w':=by
 have CK:=zh (fun (i:Nat) (hi:i<8) W=>word_ref key i W hk (by omega));have CN:=zh (fun (i:Nat) (hi:i<3) W=>word_ref nonce i W hn (by omega));obtain⟨I,hI⟩:∃I,ini key.data.toList nonce.data.toList c=I:=⟨_,rfl⟩;have hIl:I.length=16:=by rw[←hI];rfl
 have hI32:W32 I:=by rw[←hI];exact ini_32 _ _ _ hc
 have HXI:Hid (xn ((xk key.data.toList 8).set 12 c) nonce.data.toList 3=I):=zh ((xn_ini _ _ _).trans hI);have HR:Hid (blk key.data.toList nonce.data.toList c=les (sumW (Se.rounds 10 I) I)):=zh (by rw[←hI];rfl);have HKL:=zh (xk_len key.data.toList);have HNL:=zh (fun i=>(xn_len ((xk key.data.toList 8).set 12 c) nonce.data.toList i).trans (by rw[List.length_set,xk_len]));have hcI:(c:Int)<4294967296:=by omega
 have hcw:IntKind.u64.wrap (c:Int)=(c:Int):=by rw[IntKind.wrap_u64];omega
 obtain⟨KL,hKL⟩:∃KL,key.data.toList=KL:=⟨_,rfl⟩;obtain⟨NL,hNL⟩:∃NL,nonce.data.toList=NL:=⟨_,rfl⟩;rw[hKL]at CK HXI HR HKL HNL;rw[hNL]at CN HXI HR HNL;obtain⟨SM,hSM⟩:∃SM,sumW (Se.rounds 10 I) I=SM:=⟨_,rfl⟩;rw[hSM]at HR;rw[hKL,hNL,HR.out];have HSM:=zh hSM;have HI:=zh (And.intro hIl hI32);clear hI hk hn hc hKL hNL hIl hI32 HR hSM;have CK:Hid (∀(i:Nat),i<8→∀W:World,Calls Tryz.prog 38 #[.string key,.int .i64 i] W fun e w'=>e=.returned (.int .u64 (lw KL i:Nat))∧w'=W):=CK;have CN:Hid (∀(i:Nat),i<3→∀W:World,Calls Tryz.prog 38 #[.string nonce,.int .i64 i] W fun e w'=>e=.returned (.int .u64 (lw NL i:Nat))∧w'=W):=CN;go_enter Tryz.func12,Tryz.ntmps12;go_upto_region 1 with (fail)
 refine wp_region_lit ?_;refine wpList_built rfl _ _ rfl ((xk KL 0).map fun x:Nat=>Value.int .u64 x).toArray (by kernel_rfl) ?_;refine wpList_allocQ rfl _ rfl _ alloc_q16 ?_;refine wpList_store_row rfl _ _ _ rfl w.heap.size ((xk KL 0).map fun x:Nat=>Value.int .u64 x).toArray rfl rfl 76 _ (heap_alloc_new w _) (by rw[infQ16];rfl) rfl (all_words64 _) ?_;have HX:Hid (AQ 76 ((w.alloc (.cells ((List.replicate 16 0).map fun x:Nat=>Value.int .u64 x).toArray 76)).setRow w.heap.size ((xk KL 0).map fun x:Nat=>Value.int .u64 x).toArray) w.heap.size (xk KL 0)):=zh (setRow_heap _ w.heap.size _ _ _ _ (heap_alloc_new w _));have HB:=zh (below_setRow (g:=w.heap.size) ((Below.refl w.heap.size w).alloc zle (.cells ((List.replicate 16 0).map fun x:Nat=>Value.int .u64 x).toArray 76)) zle ((xk KL 0).map fun x:Nat=>Value.int .u64 x).toArray);generalize (w.alloc (.cells ((List.replicate 16 0).map fun x:Nat=>Value.int .u64 x).toArray 76)).setRow w.heap.size ((xk KL 0).map fun x:Nat=>Value.int .u64 x).toArray=W0 at *;go_wp2_with fail
 go_loopw [8] (fun iv wr=>∃i:Nat,i≤8∧iv=.int .i64 i∧AQ 76 wr w.heap.size (xk KL i)∧Below w.heap.size w wr) (fun iv _=>8-(intOf iv).toNat)
 case atStart=>exact⟨0,by omega,rfl,HX.out,HB.out⟩
 case round=>
  clear HX HB;obtain⟨i,hi,rfl,hx,hb⟩:=hrel;have HX:=zh hx;have HB:=zh hb;clear hx hb;by_cases hlt:i<8
  ·obtain⟨k,hk⟩:∃k,4+i=k:=⟨_,rfl⟩
   have hki:(4:Int)+(i:Int)=(k:Int):=by omega
   have hk16:(k:Int)<16:=by omega
   have hiI:(i:Int)<8:=by omega
   have c1:=HX.out.cell k (by rw[HKL.out];omega);have f1:=HX.out.fz k;have CKi:=zh (CK.out i hlt);have HS:Hid (xk KL (i+1)=(xk KL i).set k (lw KL i)):=zh (by rw[←hk];rfl);generalize lw KL i=y at *;generalize (xk KL i).getD k 0=old at *;clear hk;go_wp2_with fail
   with_reducible refine (CKi.out _).mono ?_
   rintro e1 w1 ⟨rfl,rfl⟩;go_wp2_with fail
   go_roundw
   case rel=>exact⟨i+1,by omega,by go_num,by rw[HS.out];exact HX.out.set k y,HB.out.setCell (p:=⟨w.heap.size,k,none⟩) zle _⟩
   case measure=>simp only[intOf];omega
  ·obtain rfl:i=8:=by omega
   rw[show ((8:Nat):Int)=8 from rfl];have c12:=HX.out.cell 12 (by rw[HKL.out];decide);have f12:=HX.out.fz 12;have hX2:=zh (HX.out.set 12 c);have hB2:=zh (HB.out.setCell (p:=⟨w.heap.size,12,none⟩) zle (.int .u64 (c:Nat)));generalize (xk KL 8).getD 12 0=old at *;clear HX HB CK HKL;generalize (xk KL 8).set 12 c=L0 at *;go_upto_region 7 with (fail)
   generalize wr.setCell ⟨w.heap.size,12,none⟩ (.int .u64 (c:Nat))=W1 at *;clear c12 f12;go_wp2_with fail
   go_loopw [9] (fun iv wr=>∃i:Nat,i≤3∧iv=.int .i64 i∧AQ 76 wr w.heap.size (xn L0 NL i)∧Below w.heap.size w wr) (fun iv _=>3-(intOf iv).toNat)
   case atStart=>exact⟨0,by omega,rfl,hX2.out,hB2.out⟩
   case round=>
    clear hX2 hB2;obtain⟨i,hi,rfl,hx,hb⟩:=hrel;have HX:=zh hx;have HB:=zh hb;clear hx hb;by_cases hlt:i<3
    ·obtain⟨k,hk⟩:∃k,13+i=k:=⟨_,rfl⟩
     have hki:(13:Int)+(i:Int)=(k:Int):=by omega
     have hk16:(k:Int)<16:=by omega
     have hiI:(i:Int)<3:=by omega
     have c1:=HX.out.cell k (by rw[HNL.out];omega);have f1:=HX.out.fz k;have CKi:=zh (CN.out i hlt);have HS:Hid (xn L0 NL (i+1)=(xn L0 NL i).set k (lw NL i)):=zh (by rw[←hk];rfl);generalize lw NL i=y at *;generalize (xn L0 NL i).getD k 0=old at *;clear hk;go_wp2_with fail
     with_reducible refine (CKi.out _).mono ?_
     rintro e1 w1 ⟨rfl,rfl⟩;go_wp2_with fail
     go_roundw
     case rel=>exact⟨i+1,by omega,by go_num,by rw[HS.out];exact HX.out.set k y,HB.out.setCell (p:=⟨w.heap.size,k,none⟩) zle _⟩
     case measure=>simp only[intOf];omega
    ·obtain rfl:i=3:=by omega
     rw[show ((3:Nat):Int)=3 from rfl];rw[HXI.out]at HX;clear HXI HNL CN;obtain⟨hIl,hI32⟩:=HI.out;go_upto_region 11 with (fail)
     refine wp_region_lit ?_;refine wpList_load_row rfl _ _ rfl w.heap.size rfl _ _ _ _ HX.out Tryz.underlying76 rfl (by rw[infQ16,w64_len,hIl]) ?_;refine wpList_allocQ rfl _ rfl _ alloc_q16 ?_;have hlt:=HX.out.lt;have hA0:=heap_alloc_new wr (.cells ((List.replicate 16 0).map fun x:Nat=>Value.int .u64 x).toArray 76);have HX1:=zh (HX.out.keep ((Below.refl _ _).alloc zle (.cells ((List.replicate 16 0).map fun x:Nat=>Value.int .u64 x).toArray 76)));have HB1:=zh (HB.out.alloc HB.out.size (.cells ((List.replicate 16 0).map fun x:Nat=>Value.int .u64 x).toArray 76));generalize wr.alloc (.cells ((List.replicate 16 0).map fun x:Nat=>Value.int .u64 x).toArray 76)=W2 at hA0 HX1 HB1 ⊢;refine wpList_store_row rfl _ _ _ rfl wr.heap.size (I.map fun x:Nat=>Value.int .u64 x).toArray rfl rfl 76 _ hA0 (by rw[infQ16,w64_len,hIl]) (by rw[w64_len,w64_len,hIl];rfl) (all_words64 _) ?_;have HYW:Hid (AQ 76 (W2.setRow wr.heap.size (I.map fun x:Nat=>Value.int .u64 x).toArray) wr.heap.size (Se.rounds 0 I)):=zh (setRow_heap W2 wr.heap.size _ _ _ _ hA0);have HBW:=zh (below_setRow HB1.out HB.out.size (I.map fun x:Nat=>Value.int .u64 x).toArray);have HXW:Hid (AQ 76 (W2.setRow wr.heap.size (I.map fun x:Nat=>Value.int .u64 x).toArray) w.heap.size I):=zh ((setRow_other _ _ _ _ (by omega)).trans HX1.out);have hwy:w.heap.size<wr.heap.size:=hlt;generalize W2.setRow wr.heap.size (I.map fun x:Nat=>Value.int .u64 x).toArray=W3 at HYW HBW HXW ⊢;clear hA0 HX1 HB1 HX HB hlt;generalize wr.heap.size=y at *;go_wp2_with fail
     go_loopw [11] (fun iv wr=>∃r:Nat,r≤10∧iv=.int .i64 r∧AQ 76 wr y (Se.rounds r I)∧AQ 76 wr w.heap.size I∧Below w.heap.size w wr) (fun iv _=>10-(intOf iv).toNat)
     case atStart=>exact⟨0,by omega,rfl,HYW.out,HXW.out,HBW.out⟩
     case round=>
      clear HYW HXW HBW;obtain⟨r,hr,rfl,hy,hx,hb⟩:=hrel;have HY:=zh hy;have HX:=zh hx;have HB:=zh hb;clear hy hx hb;by_cases hlt:r<10
      ·have hrI:(r:Int)<10:=by omega
       have hRl:(Se.rounds r I).length=16:=(rounds_len r I).trans hIl;have hR32:W32 (Se.rounds r I):=hI32.rounds r;have HRS:Hid (Se.rounds (r+1) I=tq (Se.rounds r I) 8):=zh rfl;generalize Se.rounds r I=R at *;go_wp2_with fail
       go_loopw [12] (fun iv wr=>∃k:Nat,k≤4∧iv=.int .i64 k∧AQ 76 wr y (tq R k)∧AQ 76 wr w.heap.size I∧Below w.heap.size w wr) (fun iv _=>4-(intOf iv).toNat)
       case atStart=>exact⟨0,by omega,rfl,HY.out,HX.out,HB.out⟩
       case round=>
        clear HY HX HB;obtain⟨k,hk,rfl,hy,hx,hb⟩:=hrel;have HY:=zh hy;have HX:=zh hx;have HB:=zh hb;clear hy hx hb;by_cases hlt4:k<4
        ·have hkI:(k:Int)<4:=by omega
         obtain⟨a1,ha1⟩:∃a,4+k=a:=⟨_,rfl⟩;obtain⟨a2,ha2⟩:∃a,8+k=a:=⟨_,rfl⟩;obtain⟨a3,ha3⟩:∃a,12+k=a:=⟨_,rfl⟩;have i1:(4:Int)+(k:Int)=(a1:Int):=by omega
         have i2:(8:Int)+(k:Int)=(a2:Int):=by omega
         have i3:(12:Int)+(k:Int)=(a3:Int):=by omega
         have hTl:(tq R k).length=16:=(tq_len R k).trans hRl;have hT32:W32 (tq R k):=tq_32 R hR32 k;have hQl:(quarterW (tq R k) k a1 a2 a3).length=16:=(quarterW_len _ _ _ _ _).trans hTl;have HS:Hid (tq R (k+1)=quarterW (tq R k) k a1 a2 a3):=zh (by rw[tq_lo R k hlt4,ha1,ha2,ha3]);obtain⟨A,hA⟩:∃A,((tq R k).map fun x:Nat=>Value.int .u64 x).toArray=A:=⟨_,rfl⟩;obtain⟨B,hB⟩:∃B,((quarterW (tq R k) k a1 a2 a3).map fun x:Nat=>Value.int .u64 x).toArray=B:=⟨_,rfl⟩;have CQ:=zh (fun W=>quarter_call (tq R k) k a1 a2 a3 hTl hT32 (by omega) (by omega) (by omega) (by omega) A B hA hB W);have HAs:Hid (A.size=16):=zh (by rw[←hA,w64_len,hTl]);have HBs:Hid (B.size=16∧B.all (·.oneCell')=true):=zh ⟨by rw[←hB,w64_len,hQl],by rw[←hB];exact all_words64 _⟩;have HYA:Hid (wr.heap[y]?=some (.cells A 76 (0,0))):=zh (by rw[←hA];exact HY.out);have hyx:w.heap.size≠y:=by omega
         have HBQ:=zh hB;have HAI:=zh (And.intro ha1 (And.intro ha2 ha3));clear ha1 ha2 ha3 hTl hT32 hQl hA hB HY;go_upto_region 18 with (fail)
         refine wp_region_lit ?_;refine wpList_load_row rfl _ _ rfl y rfl _ _ _ _ HYA.out Tryz.underlying76 rfl (by rw[infQ16,HAs.out]) ?_;go_wp2_with fail
         with_reducible refine (CQ.out _).mono ?_
         rintro e1 w1 ⟨rfl,hb⟩;have HYB:Hid (w1.heap[y]?=some (.cells A 76 (0,0))):=zh ((hb.block y (Array.getElem?_eq_some_iff.1 HYA.out).1).trans HYA.out);have HX1:=zh (HX.out.keep hb);have HB1:=zh (HB.out.trans (hb.mono HB.out.size));clear hb HYA HX HB CQ;have hBs:B.size=16:=HBs.out.1;have hst:=store_whole w1 y 76 A B HYB.out (HAs.out.trans HBs.out.1.symm) HBs.out.2
         have HY2:Hid (AQ 76 (w1.setRow y B) y (tq R (k+1))):=zh (by
          have h:=setRow_heap w1 y A B 76 (0,0) HYB.out;unfold AQ
          rw[h,HS.out,HBQ.out])
         have HX2:Hid (AQ 76 (w1.setRow y B) w.heap.size I):=zh ((setRow_other _ _ _ _ hyx).trans HX1.out);have HB2:=zh (below_setRow HB1.out (Nat.le_of_lt hwy) B);clear HYB HX1 HB1;go_wp2_with fail
         go_roundw
         case rel=>exact⟨k+1,by omega,by go_num,HY2.out,HX2.out,HB2.out⟩
         case measure=>simp only[intOf];omega
        ·obtain rfl:k=4:=by omega
         rw[show ((4:Nat):Int)=4 from rfl];go_wp2_with fail
         go_loopw [13] (fun iv wr=>∃k:Nat,k≤4∧iv=.int .i64 k∧AQ 76 wr y (tq R (4+k))∧AQ 76 wr w.heap.size I∧Below w.heap.size w wr) (fun iv _=>4-(intOf iv).toNat)
         case atStart=>exact⟨0,by omega,rfl,HY.out,HX.out,HB.out⟩
         case round=>
          clear HY HX HB;obtain⟨k,hk,rfl,hy,hx,hb⟩:=hrel;have HY:=zh hy;have HX:=zh hx;have HB:=zh hb;clear hy hx hb;by_cases hlt4:k<4
          ·have hkI:(k:Int)<4:=by omega
           obtain⟨a1,ha1⟩:∃a,4+(k+1)%4=a:=⟨_,rfl⟩;obtain⟨a2,ha2⟩:∃a,8+(k+2)%4=a:=⟨_,rfl⟩;obtain⟨a3,ha3⟩:∃a,12+(k+3)%4=a:=⟨_,rfl⟩;obtain⟨m1,hm1⟩:∃m,(k+1)%4=m:=⟨_,rfl⟩;obtain⟨m2,hm2⟩:∃m,(k+2)%4=m:=⟨_,rfl⟩;obtain⟨m3,hm3⟩:∃m,(k+3)%4=m:=⟨_,rfl⟩;have t1:((k:Int)+1)%4=(m1:Int):=by omega
           have t2:((k:Int)+2)%4=(m2:Int):=by omega
           have t3:((k:Int)+3)%4=(m3:Int):=by omega
           have u1:((k:Int)+1).tmod 4=(m1:Int):=by rw[Int.tmod_eq_emod_of_nonneg (by omega)];exact t1
           have u2:((k:Int)+2).tmod 4=(m2:Int):=by rw[Int.tmod_eq_emod_of_nonneg (by omega)];exact t2
           have u3:((k:Int)+3).tmod 4=(m3:Int):=by rw[Int.tmod_eq_emod_of_nonneg (by omega)];exact t3
           have i1:(4:Int)+(m1:Int)=(a1:Int):=by omega
           have i2:(8:Int)+(m2:Int)=(a2:Int):=by omega
           have i3:(12:Int)+(m3:Int)=(a3:Int):=by omega
           have hTl:(tq R (4+k)).length=16:=(tq_len R (4+k)).trans hRl;have hT32:W32 (tq R (4+k)):=tq_32 R hR32 (4+k);have hQl:(quarterW (tq R (4+k)) k a1 a2 a3).length=16:=(quarterW_len _ _ _ _ _).trans hTl;have HS:Hid (tq R ((4+k)+1)=quarterW (tq R (4+k)) k a1 a2 a3):=zh (by rw[tq_hi R k hlt4,ha1,ha2,ha3]);obtain⟨A,hA⟩:∃A,((tq R (4+k)).map fun x:Nat=>Value.int .u64 x).toArray=A:=⟨_,rfl⟩;obtain⟨B,hB⟩:∃B,((quarterW (tq R (4+k)) k a1 a2 a3).map fun x:Nat=>Value.int .u64 x).toArray=B:=⟨_,rfl⟩;have CQ:=zh (fun W=>quarter_call (tq R (4+k)) k a1 a2 a3 hTl hT32 (by omega) (by omega) (by omega) (by omega) A B hA hB W);have HAs:Hid (A.size=16):=zh (by rw[←hA,w64_len,hTl]);have HBs:Hid (B.size=16∧B.all (·.oneCell')=true):=zh ⟨by rw[←hB,w64_len,hQl],by rw[←hB];exact all_words64 _⟩;have HYA:Hid (wr.heap[y]?=some (.cells A 76 (0,0))):=zh (by rw[←hA];exact HY.out);have hyx:w.heap.size≠y:=by omega
           have HBQ:=zh hB;have HAI:=zh (And.intro ha1 (And.intro ha2 ha3));clear ha1 ha2 ha3 hTl hT32 hQl hA hB HY;go_upto_region 22 with (fail)
           refine wp_region_lit ?_;refine wpList_load_row rfl _ _ rfl y rfl _ _ _ _ HYA.out Tryz.underlying76 rfl (by rw[infQ16,HAs.out]) ?_;go_wp2_with fail
           with_reducible refine (CQ.out _).mono ?_
           rintro e1 w1 ⟨rfl,hb⟩;have HYB:Hid (w1.heap[y]?=some (.cells A 76 (0,0))):=zh ((hb.block y (Array.getElem?_eq_some_iff.1 HYA.out).1).trans HYA.out);have HX1:=zh (HX.out.keep hb);have HB1:=zh (HB.out.trans (hb.mono HB.out.size));clear hb HYA HX HB CQ;have hBs:B.size=16:=HBs.out.1;have hst:=store_whole w1 y 76 A B HYB.out (HAs.out.trans HBs.out.1.symm) HBs.out.2
           have HY2:Hid (AQ 76 (w1.setRow y B) y (tq R ((4+k)+1))):=zh (by
            have h:=setRow_heap w1 y A B 76 (0,0) HYB.out;unfold AQ
            rw[h,HS.out,HBQ.out])
           have HX2:Hid (AQ 76 (w1.setRow y B) w.heap.size I):=zh ((setRow_other _ _ _ _ hyx).trans HX1.out);have HB2:=zh (below_setRow HB1.out (Nat.le_of_lt hwy) B);clear HYB HX1 HB1;go_wp2_with fail
           go_roundw
           case rel=>exact⟨k+1,by omega,by go_num,HY2.out,HX2.out,HB2.out⟩
           case measure=>simp only[intOf];omega
          ·obtain rfl:k=4:=by omega
           rw[show ((4:Nat):Int)=4 from rfl];go_wp2_with fail
           go_roundw
           case rel=>exact⟨r+1,by omega,by go_num,by rw[HRS.out];exact HY.out,HX.out,HB.out⟩
           case measure=>simp only[intOf];omega
      ·obtain rfl:r=10:=by omega
       rw[show ((10:Nat):Int)=10 from rfl];have hRl:(Se.rounds 10 I).length=16:=(rounds_len 10 I).trans hIl;have hR32:=zh (hI32.rounds 10);generalize Se.rounds 10 I=R at *;have hsy:=HY.out.lt;have HO0:Hid (OwnM (wr.alloc (.cells #[] 5)) (y+1) (.slice (some ⟨wr.heap.size,0,none⟩) 0 0) []):=zh ⟨wr.heap.size,0,#[],(0,0),rfl,by omega,heap_alloc_new wr _,.inr rfl,Nat.le_refl _,by decide,rfl,rfl⟩;have HYA:=zh (HY.out.keep ((Below.refl _ _).alloc zle (.cells #[] 5)));have HXA:=zh (HX.out.keep ((Below.refl _ _).alloc zle (.cells #[] 5)));have HBA:=zh (HB.out.alloc HB.out.size (.cells #[] 5));have hsA:y+1≤(wr.alloc (.cells #[] 5)).heap.size:=by simp;omega
       have hSL:SM.length=16:=by rw[←HSM.out,sumW_len];omega
       clear HY HX HB hsy;go_wp2_with fail
       generalize wr.alloc (.cells #[] 5)=W5 at *;generalize wr.heap.size=g0 at *
       go_loopw [14,15] (fun bv iv wr=>∃(i g cp:Nat),i≤16∧iv=.int .i64 i∧bv=.slice (some ⟨g,0,none⟩) (4*i) cp∧OwnM wr (y+1) (.slice (some ⟨g,0,none⟩) (4*i) cp) (les (SM.take i))∧AQ 76 wr y R∧AQ 76 wr w.heap.size I∧Below w.heap.size w wr∧y+1≤wr.heap.size) (fun _ iv _=>16-(intOf iv).toNat)
       case atStart=>exact⟨0,g0,0,by omega,rfl,rfl,HO0.out,HYA.out,HXA.out,HBA.out,hsA⟩
       case round=>
        clear HO0 HYA HXA HBA hsA;obtain⟨i,g,cp,hi,rfl,rfl,ho,hy,hx,hb,hsz⟩:=hrel;have HO:=zh ho;have HY:=zh hy;have HX:=zh hx;have HB:=zh hb;clear ho hy hx hb;by_cases hlt:i<16
        ·have hiI:(i:Int)<16:=by omega
         have c1:=HY.out.cell i (by omega);have c2:=HX.out.cell i (by omega);have r1:=hR32.out.get i;have r2:=hI32.get i;have HST:Hid (les (SM.take (i+1))=les (SM.take i)++le4 (SM.getD i 0)):=zh (les_step _ i (by omega));have hsg:SM.getD i 0=(R.getD i 0+I.getD i 0)%4294967296:=by rw[←HSM.out];exact sum_get R I i (by omega) (by omega)
         rw[hsg]at HST;clear hsg;generalize R.getD i 0=a at *;generalize I.getD i 0=b at *;obtain⟨z,hz⟩:∃z,(a+b)%4294967296=z:=⟨_,rfl⟩;rw[hz]at HST;have e1:((b:Int)+(a:Int))%4294967296=(z:Int):=by omega
         have e1':((b:Int)+(a:Int)).tmod 4294967296=(z:Int):=by rw[Int.tmod_eq_emod_of_nonneg (by omega)];exact e1
         have e2:IntKind.u64.wrap ((b:Int)+(a:Int))=(b:Int)+(a:Int):=by rw[IntKind.wrap_u64];omega
         have haI:(a:Int)<4294967296:=by omega
         have hbI:(b:Int)<4294967296:=by omega
         have hz1:z<4294967296:=by omega
         obtain⟨N,hN⟩:∃N,4*i=N:=⟨_,rfl⟩;obtain⟨X,hX⟩:∃X,les (SM.take i)=X:=⟨_,rfl⟩;have hXl:X.length=N:=by rw[←hX,les_len,List.length_take,←hN];omega
         rw[hN,hX]at HO;rw[hX]at HST;rw[hN];have hN64:N≤60:=by omega
         have HN:=zh (And.intro hN hXl);clear hz hX hN hXl r1 r2;go_wp2_with fail
         go_quiet (fail)
         go_wp2_with fail
         go_loopw [14,16,17] (fun bv nv jv wx=>∃(j g cp:Nat),j≤4∧jv=.int .i64 j∧nv=.int .u64 (z/256^j:Nat)∧bv=.slice (some ⟨g,0,none⟩) (N+j) cp∧OwnM wx (y+1) (.slice (some ⟨g,0,none⟩) (N+j) cp) (X++(le4 z).take j)∧AQ 76 wx y R∧AQ 76 wx w.heap.size I∧Below w.heap.size w wx∧y+1≤wx.heap.size) (fun _ _ jv _=>4-(intOf jv).toNat)
         case atStart=>exact⟨0,g,cp,by omega,rfl,by simp,rfl,by simpa using HO.out.keep (Dg.below_drewN (Below.refl _ _) _),HY.out.drewN,HX.out.drewN,Dg.below_drewN HB.out _,hsz⟩
         case round=>
          clear HO HY HX HB hsz;obtain⟨j,g,cp,hj,rfl,rfl,rfl,ho,hy,hx,hb,hsz⟩:=hrel;have HO:=zh ho;have HY:=zh hy;have HX:=zh hx;have HB:=zh hb;clear ho hy hx hb;by_cases hj4:j<4
          ·have hjI:(j:Int)<4:=by omega
           have HL:=zh (le4_step z j hj4);have HD2:Hid (z/256^(j+1)=z/256^j/256):=zh (by rw[Nat.pow_succ,Nat.div_div_eq_div_mul]);obtain⟨D,hD⟩:∃D,z/256^j=D:=⟨_,rfl⟩;have hD1:D<4294967296:=by have:=Nat.div_le_self z (256^j);omega
           rw[hD]at HL HD2 ⊢;obtain⟨Rm,hRm⟩:∃Rm,D%256=Rm:=⟨_,rfl⟩;obtain⟨Dd,hDd⟩:∃Dd,D/256=Dd:=⟨_,rfl⟩;rw[hDd]at HD2;have d5:(D:Int)%256=(Rm:Int):=by omega
           have d5':(D:Int).tmod 256=(Rm:Int):=by rw[Int.tmod_eq_emod_of_nonneg (by omega)];exact d5
           have d6:IntKind.u8.wrap (Rm:Int)=(Rm:Int):=by rw[IntKind.wrap_u8];omega
           have d6':(Rm:Int)%256=(Rm:Int):=by omega
           have d8:(D:Int)/256=(Dd:Int):=by omega
           have d8':(D:Int).tdiv 256=(Dd:Int):=by rw[Int.tdiv_eq_ediv_of_nonneg (by omega)];exact d8
           have d9:IntKind.u64.wrap (Dd:Int)=(Dd:Int):=by rw[IntKind.wrap_u64];omega
           have e7:(UInt8.ofNat D).toNat=Rm:=by rw[UInt8.toNat_ofNat',←hRm]
           have hXj:N+j=(X++(le4 z).take j).length:=by rw[List.length_append,HN.out.2,List.length_take,show (le4 z).length=4 from rfl];omega
           obtain⟨g2,c2,w3,ha,ho3,hb3⟩:=push_M wr (y+1) 66 g (N+j) cp _ (UInt8.ofNat D) hXj HO.out (by omega) hsz;rw[e7]at ha;rw[List.append_assoc,←HL.out]at ho3;have hs3:y+1≤w3.heap.size:=Nat.le_trans hsz hb3.size;have HA:=zh ha;have HO3:=zh ho3;have HB3:=zh hb3;clear ha ho3 hb3 hXj e7 hRm hDd hD HL HO;go_wp2_with (at_builtin;refine Lib.wpList_append_run _ rfl _ _ _ _ rfl _ _ rfl rfl _ _ HA.out ?_)
           go_roundw
           case rel=>exact⟨j+1,g2,c2,by omega,by go_num,by rw[HD2.out],rfl,HO3.out,(HB3.out.block y (by omega)).trans HY.out,(HB3.out.block w.heap.size (by omega)).trans HX.out,HB.out.trans (HB3.out.mono (by omega)),hs3⟩
           case measure=>simp only[intOf];omega
          ·obtain rfl:j=4:=by omega
           rw[show ((4:Nat):Int)=4 from rfl];rw[List.take_of_length_le (show (le4 z).length≤4 from Nat.le_refl _),←HST.out]at HO;obtain⟨N4,hN4⟩:∃N4,N+4=N4:=⟨_,rfl⟩;rw[hN4]at HO ⊢;generalize z/256^4=z4 at *;go_wp2_with fail
           go_roundw
           case rel=>
            obtain rfl:N4=4*(i+1):=by have:=HN.out.1;omega
            exact⟨i+1,g,cp,by omega,by go_num,rfl,HO.out,HY.out,HX.out,HB.out,hsz⟩
           case measure=>simp only[intOf];omega
        ·obtain rfl:i=16:=by omega
         rw[show ((16:Nat):Int)=16 from rfl];rw[List.take_of_length_le (by omega)]at HO;have hl64:(les SM).length=64:=by rw[les_len,hSL]
         have hc:(convert 66 9 (.slice (some ⟨g,0,none⟩) 64 cp)).run Tryz.prog wr=.ok (.string ⟨(les SM).toArray⟩) wr:=conv_ownM _ hl64.symm HO.out;rw[show 4*16=64 from rfl];go_wp2_with fail
         go_ret
         exact⟨rfl,HB.out⟩
theorem xr_take64(l:List UInt8)(key nonce:List UInt8)(c:Nat):xr (l.take 64) (blk key nonce c)=xr l (blk key nonce c):=by
 rw[xr_cut l,blk_len]
theorem cut_64(s:ByteArray)(p E:Nat)(hE:E=min (p+64) s.size)(hp:p≤s.size):s.extract p E=⟨((s.data.toList.drop p).take 64).toArray⟩:=by
 apply ByteArray.ext;apply Array.ext';have hl:s.data.toList.length=s.size:=by simp
 simp only[ByteArray.data_extract,Array.toList_extract,List.extract_eq_take_drop];subst hE;by_cases h:p+64≤s.size
 ·rw[Nat.min_eq_left h,show p+64-p=64 by omega]
 ·rw[Nat.min_eq_right (by omega),List.take_of_length_le (by rw[List.length_drop];omega),List.take_of_length_le (by rw[List.length_drop];omega)]
theorem rxor_call(a b:List UInt8)(w:World)(ha:a.length≤100000)(hb:b.length≤100000) :
 Calls Tryz.prog 40 #[.string ⟨a.toArray⟩,.string ⟨b.toArray⟩] w fun e w'=>e=.returned (.string ⟨(xr a b).toArray⟩)∧Below w.heap.size w w':=by
 have h:=xor_ref ⟨a.toArray⟩ ⟨b.toArray⟩ w (by show a.toArray.size≤_;simp;omega) (by show b.toArray.size≤_;simp;omega);exact h
theorem dstream_any(key nonce:ByteArray)(c:Nat)(s:ByteArray)(w:World)(hk:key.size≤100000)(hn:nonce.size≤100000)(hc:c<4294967296)(hs:s.size≤100000) :
 Calls Tryz.prog 13 #[.string key,.string nonce,.int .u32 c,.string s] w fun e w'=>e=.returned (.string ⟨(stream key.data.toList nonce.data.toList c s.data.toList).toArray⟩)∧Below w.heap.size w w':=by
 have CB:=zh (fun (d:Nat) (hd:d<4294967296) W=>dblock_any key nonce d W hk hn hd);have STEP:=zh (stream_step key.data.toList nonce.data.toList);have BL:=zh (blk_len key.data.toList nonce.data.toList);have NIL:=zh (stream_nil key.data.toList nonce.data.toList);have X64:=zh (fun l d=>xr_take64 l key.data.toList nonce.data.toList d);have CUT:=zh (fun p E hE hp=>cut_64 s p E hE hp);obtain⟨R,hR⟩:∃R,stream key.data.toList nonce.data.toList c s.data.toList=R:=⟨_,rfl⟩;have hRl:R.length=s.size:=by rw[←hR,stream_length];simp
 rw[hR];have HR:=zh hR;have hsl:s.data.toList.length=s.size:=by simp
 obtain⟨SL,hSL⟩:∃SL,s.data.toList=SL:=⟨_,rfl⟩;rw[hSL]at HR hsl CUT;obtain⟨KL,hKL⟩:∃KL,key.data.toList=KL:=⟨_,rfl⟩;obtain⟨NL,hNL⟩:∃NL,nonce.data.toList=NL:=⟨_,rfl⟩;rw[hKL,hNL]at CB STEP BL NIL HR X64;have hsI:(s.size:Int)≤100000:=by omega
 clear hR hSL hKL hNL hk hn;go_enter Tryz.func13,Tryz.ntmps13;go_wp2_with fail
 go_loopw [2,9,10] (fun cv ov iv wr=>∃(d p:Nat) (O:List UInt8),d<4294967296∧p≤s.size+64∧cv=.int .u32 d∧iv=.int .i64 p∧ov=.string ⟨O.toArray⟩∧O++stream KL NL d (SL.drop p)=R∧Below w.heap.size w wr) (fun _ _ iv _=>s.size+64-(intOf iv).toNat)
 case atStart=>exact⟨c,0,[],hc,by omega,rfl,rfl,rfl,by rw[List.nil_append,List.drop_zero];exact HR.out,Below.refl _ _⟩
 case round=>
  obtain⟨d,p,O,hd,hp,rfl,rfl,rfl,ho,hb⟩:=hrel;have HO:=zh ho;have HB:=zh hb;clear ho hb;by_cases hlt:p<s.size
  ·have hne:SL.drop p≠[]:=by
    intro he;have:=congrArg List.length he;rw[List.length_drop,List.length_nil]at this;omega
   have hst:=STEP.out d (SL.drop p) hne;rw[List.drop_drop]at hst;obtain⟨E,hE⟩:∃E,min (p+64) s.size=E:=⟨_,rfl⟩;have hcut:=CUT.out p E hE.symm (by omega);have CB1:=zh (CB.out d hd);have hbl:=BL.out d
   have CX:Hid (∀W:World,Calls Tryz.prog 40 #[.string ⟨((SL.drop p).take 64).toArray⟩,.string ⟨(blk KL NL d).toArray⟩] W fun e w'=>e=.returned (.string ⟨(xr (SL.drop p) (blk KL NL d)).toArray⟩)∧Below W.heap.size W w'):=zh (fun W=>by
    have h:=rxor_call ((SL.drop p).take 64) (blk KL NL d) W (by rw[List.length_take];omega) (by rw[hbl];omega);rw[X64.out]at h
    exact h)
   rw[hst,←List.append_assoc]at HO;have hxl:(xr (SL.drop p) (blk KL NL d)).length≤64:=by rw[xr_len,hbl];omega
   generalize xr (SL.drop p) (blk KL NL d)=P at *;have HAP:Hid ((⟨O.toArray⟩:ByteArray)++⟨P.toArray⟩=⟨(O++P).toArray⟩):=zh (by apply ByteArray.ext;apply Array.ext';simp)
   have hOP:O.length+P.length≤100000:=by
    have h:=congrArg List.length HO.out;rw[List.length_append,List.length_append]at h;omega
   have hap:=HAP.out;have z1:(⟨O.toArray⟩:ByteArray).size=O.length:=by show O.toArray.size=_;simp
   have z2:(⟨P.toArray⟩:ByteArray).size=P.length:=by show P.toArray.size=_;simp
   generalize (⟨((SL.drop p).take 64).toArray⟩:ByteArray)=S6 at *;generalize (⟨(blk KL NL d).toArray⟩:ByteArray)=BB at *;generalize (⟨(O++P).toArray⟩:ByteArray)=OP at hap;have HOP:Hid (OP=⟨(O++P).toArray⟩):=zh (hap.symm.trans HAP.out);generalize (⟨P.toArray⟩:ByteArray)=PB at *;generalize (⟨O.toArray⟩:ByteArray)=OB at *;obtain⟨q,hq⟩:∃q,p+64=q:=⟨_,rfl⟩;have hw64:IntKind.i64.wrap ((p:Int)+64)=(q:Int):=by rw[IntWalk.i64_in _ (by omega)];omega
   have hmin:min (q:Int) (s.size:Int)=(E:Int):=by omega
   have g1:¬9223372036854775807<O.length+P.length:=by omega
   have HQ:=zh hq;have hpE:(p:Int)≤(E:Int):=by omega
   have hEs:(E:Int)≤(s.size:Int):=by omega
   have hpI:(p:Int)<(s.size:Int):=by omega
   have hdI:(d:Int)<4294967296:=by omega
   have HD0:Hid (Below w.heap.size w wr.drew):=zh HB.out.drew;clear hst hbl hne hxl hE HAP hq;go_wp2_with fail
   refine wp_region_noPanic ?_;refine wp_region_held_drew (S:=fun W:World=>Below w.heap.size w W) (by kernel_rfl) ?_ (fun hHeld=>?_)
   ·exact HD0.out
   iterate 12
    refine zqb [0,1,2,3,4,5,6,7,8,9,10,11] rfl rfl ?_ ?_ ?_;rotate_left
    ·(intro w hSw;have hsb:=hSw;go_simp;(try with_reducible rfl))
    try simp only[Act.put,J1,J2,J3,J4,J5,J6]
   refine zqf [12] (AllReadyH.cons rfl (fun K hK=>?_) AllReadyH.nil);rw[if_pos (by rfl)];go_simp;with_reducible refine (CB1.out _).mono ?_
   rintro e1 y1 ⟨rfl,hb⟩;have HS1:Hid (Below w.heap.size w y1):=zh (HD0.out.trans (hb.mono HD0.out.size));clear hb;refine hK.out _ _ ?_ (fun hHeld=>?_)
   ·exact HS1.out
   clear hK K
   try simp only[Act.put,J1,J2,J3,J4,J5,J6]
   refine zqf [13] (AllReadyH.cons rfl (fun K hK=>?_) AllReadyH.nil);rw[if_pos (by rfl)];go_simp;with_reducible refine (CX.out _).mono ?_
   rintro e2 y2 ⟨rfl,hb⟩;have HS2:Hid (Below w.heap.size w y2):=zh (HS1.out.trans (hb.mono HS1.out.size));clear hb;refine hK.out _ _ ?_ (fun hHeld=>?_)
   ·exact HS2.out
   clear hK K
   try simp only[Act.put,J1,J2,J3,J4,J5,J6]
   iterate 2
    refine zqb [14,15] rfl rfl ?_ ?_ ?_;rotate_left
    ·(intro w hSw;have hsb:=hSw;go_simp;(try with_reducible rfl))
    try simp only[Act.put,J1,J2,J3,J4,J5,J6]
   refine zqe (NoPanic.normal ?_);go_wp2_with fail
   go_roundw
   case rel=>
    have hq:=HQ.out;subst hq;exact⟨(d+1)%4294967296,p+64,O++P,Nat.mod_lt _ (by decide),by omega,by first|rfl|(congr 1;push_cast;rfl)|(congr 1;omega),by first|rfl|go_num,by rw[HOP.out],HO.out,hHeld⟩
   case measure=>have:=HQ.out;simp only[intOf];omega
  ·have hnil:SL.drop p=[]:=List.drop_of_length_le (by omega)
   have hRO:O=R:=by have h:=HO.out;rw[hnil,NIL.out,List.append_nil]at h;exact h
   subst hRO;have hpI:¬(p:Int)<(s.size:Int):=by omega
   clear HO;go_wp2_with fail
   go_ret
   exact⟨rfl,HB.out⟩
end Go.Proofs.YtagbkmoahflfdaaGreatDoor.Se
