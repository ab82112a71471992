import Derived.Test.YtagbkmoahflfdaaGreatDoorJp01
import Derived.Test.YtagbkmoahflfdaaGreatDoorJp05
import Derived.Great.Walk
set_option maxHeartbeats 8000000
set_option maxRecDepth 20000
set_option linter.unusedVariables false
set_option linter.unusedSimpArgs false
namespace Go.Proofs.YtagbkmoahflfdaaGreatDoor.Se
open Tk Go.RowKit Vm Dg
theorem le_cells(x:Nat)(hx:x<4294967296):Lib.byteCells (le4 x)=[.int .u8 ((x:Int)%256),.int .u8 ((x:Int)/256%256),.int .u8 ((x:Int)/256/256%256),.int .u8 ((x:Int)/256/256/256)]:=by
 simp[Lib.byteCells,le4,UInt8.toNat_ofNat'];omega
theorem les_step(l:List Nat)(k:Nat)(hk:k<l.length):les (l.take (k+1))=les (l.take k)++le4 (l.getD k 0):=by
 have e:l.getD k 0=l[k]:=by simp[List.getD,hk]
 unfold les;rw[List.take_succ_eq_append_getElem hk,e];simp only[List.flatMap_append,List.flatMap_cons,List.flatMap_nil,List.append_nil]
theorem sum_get(a b:List Nat)(k:Nat)(ha:k<a.length)(hb:k<b.length):(sumW a b).getD k 0=(a.getD k 0+b.getD k 0)%4294967296:=by
 unfold sumW;rw[List.getD_eq_getElem?_getD,List.getD_eq_getElem?_getD,List.getD_eq_getElem?_getD,List.getElem?_eq_getElem (by simp;omega),List.getElem?_eq_getElem ha,List.getElem?_eq_getElem hb];simp
theorem alloc_w(w:World):(Instr.alloc 63 true (.tuple #[])).run Tryz.prog w=.ok (.pointer (some ⟨w.heap.size,0,none⟩)) (w.alloc (.cells ((List.replicate 16 0).map fun x:Nat=>Value.int .u32 x).toArray 63)):=by
 show _=_
 kernel_rfl
theorem wpList_allocW{P:Program}{ops:Array Oper}{rest:List Oper}{op:Oper}{a:Act}{w:World}{Q:Exit→Act→World→Prop}(hgd:op.guard=none)(t:TypeId)(ho:op.op=.alloc t)
 (c:Array Value)(hrun:∀w:World,(Instr.alloc t true (.tuple #[])).run P w=.ok (.pointer (some ⟨w.heap.size,0,none⟩)) (w.alloc (.cells c t)))
 (h:wpList P ops Q rest (a.put op.dst (.pointer (some ⟨w.heap.size,0,none⟩))) (w.alloc (.cells c t))):wpList P ops Q (op::rest) a w:=
 wpList_plain hgd fun _ hK=>by
  unfold Oper.wp execOp;simp only[ho,hrun,Sem.run_bind,Sem.run_pure,Result.andThen_ok];exact hK _ _ h
theorem block_any(l:List Nat)(w:World)(hl:l.length=16)(h32:W32 l) :
 Calls Tryz.prog 35 #[wv l] w fun e w'=>e=.returned (.string ⟨(les (sumW (Se.rounds 10 l) l)).toArray⟩)∧Below w.heap.size w w':=by
 unfold wv;have CT:=zh (fun (k:Nat) (b:Nat) (W:World) (h:WB 63 W b (Se.rounds k l))=>twice_any 63 b (Se.rounds k l) W ((rounds_len k l).trans hl) (h32.rounds k) h);have HM0:=zh (heap_alloc_new w (.cells (l.map fun x:Nat=>Value.int .u32 x).toArray 63));obtain⟨M,hM⟩:∃M,Se.rounds 10 l=M:=⟨_,rfl⟩;rw[hM];have HMM:=zh hM;have hML:M.length=l.length:=by rw[←hM];exact rounds_len 10 l
 clear hM;go_enter Tryz.func35,Tryz.ntmps35;go_upto_region 0 with (fail)
 refine wp_region_lit ?_;refine Go.Great.wpList_boxTo rfl _ _ rfl (some 1) rfl w.heap.size rfl _ rfl ?_;go_upto_region 1 with (fail)
 have HX:Hid (WB 63 (w.alloc (.cells (l.map fun x:Nat=>Value.int .u32 x).toArray 63)) w.heap.size l):=zh HM0.out;have HB:=zh ((Below.refl w.heap.size w).alloc zle (.cells (l.map fun x:Nat=>Value.int .u32 x).toArray 63));have hsz:(w.alloc (.cells (l.map fun x:Nat=>Value.int .u32 x).toArray 63)).heap.size=w.heap.size+1:=World.size_alloc _ _;generalize w.alloc (.cells (l.map fun x:Nat=>Value.int .u32 x).toArray 63)=W0 at HX HB hsz ⊢;refine wp_region_lit ?_;refine wpList_load_row rfl _ _ rfl w.heap.size rfl _ _ _ _ HX.out Tryz.underlying63 rfl (by rw[inf_words];simp[hl]) ?_;refine wpList_allocW rfl _ rfl _ alloc_w ?_;have hA0:=heap_alloc_new W0 (.cells ((List.replicate 16 0).map fun x:Nat=>Value.int .u32 x).toArray 63);rw[hsz]at hA0 ⊢;have HX1:=zh (HX.out.keep ((Below.refl _ _).alloc zle (.cells ((List.replicate 16 0).map fun x:Nat=>Value.int .u32 x).toArray 63)) (show w.heap.size<W0.heap.size by omega));have HB1:=zh (HB.out.alloc (by omega) (.cells ((List.replicate 16 0).map fun x:Nat=>Value.int .u32 x).toArray 63));generalize W0.alloc (.cells ((List.replicate 16 0).map fun x:Nat=>Value.int .u32 x).toArray 63)=W1 at hA0 HX1 HB1 ⊢;refine wpList_store_row rfl _ _ _ rfl (w.heap.size+1) _ rfl rfl _ _ hA0 (by rw[inf_words];simp[hl]) (by simp[hl]) (all_words _) ?_;have HRW:Hid (WB 63 (W1.setRow (w.heap.size+1) (l.map fun x:Nat=>Value.int .u32 x).toArray) (w.heap.size+1) l):=zh (setRow_heap W1 (w.heap.size+1) _ _ _ _ hA0);have HBW:=zh (below_setRow HB1.out (show w.heap.size≤w.heap.size+1 by omega) (l.map fun x:Nat=>Value.int .u32 x).toArray);have HXW:=zh (HX1.out.keep (below_setRow (Below.refl (w.heap.size+1) W1) zle (l.map fun x:Nat=>Value.int .u32 x).toArray) (by omega));generalize W1.setRow (w.heap.size+1) (l.map fun x:Nat=>Value.int .u32 x).toArray=W at HRW HBW HXW ⊢;clear hA0 HX1 HB1 HX HB hsz HM0;go_wp2_with fail
 go_loopw [8] (fun iv wr=>∃k:Nat,k≤10∧iv=.int .i64 k∧WB 63 wr (w.heap.size+1) (Se.rounds k l)∧WB 63 wr w.heap.size l∧Below w.heap.size w wr) (fun iv _=>10-(intOf iv).toNat)
 case atStart=>exact⟨0,by omega,rfl,HRW.out,HXW.out,HBW.out⟩
 case round=>
  clear HRW HXW HBW;obtain⟨k,hk,rfl,hm,hx,hb⟩:=hrel;have HM:=zh hm;have HX:=zh hx;have HB:=zh hb;clear hm hx hb;by_cases hlt:k<10
  ·have hkI:(k:Int)<10:=by omega
   go_wp2_with fail
   with_reducible refine (CT.out k _ _ HM.out).mono ?_
   rintro e1 w1 ⟨rfl,hx⟩;have HM1:=zh hx;clear hx;go_wp2_with fail
   go_roundw
   case rel=>exact⟨k+1,by omega,by go_num,HM1.out.wb,HX.out.only HM1.out.only (by omega),HB.out.trans (HM1.out.only.below HB.out.size (fun i hi=>by omega))⟩
   case measure=>simp only[intOf];omega
  ·obtain rfl:k=10:=by omega
   rw[show ((10:Nat):Int)=10 from rfl];rw[HMM.out]at HM;clear CT;rw[hl]at hML;have hsr:=HM.out.lt;have HI:=zh (Lib.fresh_isBuilder 68 5 wr);have HBB:=zh (HB.out.alloc HB.out.size (.cells #[.pointer none,.slice none 0 0] 68));have HMB:=zh (HM.out.keep ((Below.refl _ _).alloc zle (.cells #[.pointer none,.slice none 0 0] 68)) HM.out.lt);have HXB:=zh (HX.out.keep ((Below.refl _ _).alloc zle (.cells #[.pointer none,.slice none 0 0] 68)) HX.out.lt);have hsB:wr.heap.size≤(wr.alloc (.cells #[.pointer none,.slice none 0 0] 68)).heap.size:=by simp
   have hSL:(sumW M l).length=16:=by rw[sumW_len];omega
   go_wp2_with fail
   generalize wr.alloc (.cells #[.pointer none,.slice none 0 0] 68)=WZ at *;generalize wr.heap.size=bb at *
   go_loopw [12] (fun iv wx=>∃i:Nat,i≤16∧iv=.int .i64 i∧IB bb (Lib.byteCells (les ((sumW M l).take i))) wx∧WB 63 wx (w.heap.size+1) M∧WB 63 wx w.heap.size l∧Below w.heap.size w wx∧bb≤wx.heap.size) (fun iv _=>16-(intOf iv).toNat)
   case atStart=>exact⟨0,by omega,rfl,HI.out,HMB.out,HXB.out,HBB.out,hsB⟩
   case round=>
    clear HM HX HB HI HBB HMB HXB hsB;obtain⟨i,hi,rfl,hib,hm,hx,hb,hsz⟩:=hrel;have HI:=zh hib;have HM:=zh hm;have HX:=zh hx;have HB:=zh hb;clear hib hm hx hb;by_cases hlt:i<16
    ·have hiI:(i:Int)<16:=by omega
     have c1:=HM.out.cell i (by omega);have c2:=HX.out.cell i (by omega);have HS:Hid (Lib.byteCells (les ((sumW M l).take (i+1)))=Lib.byteCells (les ((sumW M l).take i))++Lib.byteCells (le4 ((sumW M l).getD i 0))):=zh (by rw[les_step _ i (by omega),byteCells_app]);rw[sum_get M l i (by omega) (by omega),le_cells _ (Nat.mod_lt _ (by decide))]at HS
     have hlen:(Lib.byteCells (les ((sumW M l).take i))).length≤64:=by
      rw[byteCells_len,les_len,List.length_take];omega
     have hxx:(M.getD i 0+l.getD i 0)%4294967296<4294967296:=Nat.mod_lt _ (by decide);have e1:((M.getD i 0:Nat):Int)+((l.getD i 0:Nat):Int)=((M.getD i 0+l.getD i 0:Nat):Int):=by omega
     have e2:(((M.getD i 0+l.getD i 0:Nat):Int))%4294967296=(((M.getD i 0+l.getD i 0)%4294967296:Nat):Int):=by omega
     have e3:(((M.getD i 0:Nat):Int)+((l.getD i 0:Nat):Int))%4294967296=(((M.getD i 0+l.getD i 0)%4294967296:Nat):Int):=by omega
     have e4:IntKind.u32.wrap (((M.getD i 0:Nat):Int)+((l.getD i 0:Nat):Int))=(((M.getD i 0+l.getD i 0)%4294967296:Nat):Int):=by rw[IntKind.wrap_u32];omega
     clear e1 e2;generalize (M.getD i 0+l.getD i 0)%4294967296=x at *;generalize M.getD i 0=m0 at *;generalize l.getD i 0=l0 at *;generalize hbs:Lib.byteCells (les ((sumW M l).take i))=bs at HI HS hlen;have HBS:=zh hbs;have hxI:(x:Int)<4294967296:=by omega
     have hxI0:(0:Int)≤(x:Int):=by omega
     clear hbs hxx;go_wp2_with fail
     go_region
     go_wp2_with fail
     refine wp_loop_rounds 5 ?_;rw[rounds_succ];go_wp2_with fail
     have hszd:bb≤wr.drew.heap.size:=hsz;have HID:Hid (IB bb bs wr.drew):=zh HI.out;with_reducible refine (Bld.writeByte _ _ _ _ _ HID.out (by omega) hszd).mono ?_
     rintro e w1 ⟨rfl,h1,hb1⟩;have H1:=zh h1;have hs1:bb≤w1.heap.size:=Nat.le_trans hsz hb1.size;have HB1:Hid (Below bb wr w1):=zh ((Below.refl _ _).drew.trans hb1);clear h1 hb1;go_wp2_with fail
     rw[rounds_succ];go_wp2_with fail
     with_reducible refine (Bld.writeByte _ _ _ _ _ H1.out (by simp;omega) hs1).mono ?_
     rintro e w2 ⟨rfl,h1,hb1⟩;have H2:=zh h1;have hs2:bb≤w2.heap.size:=Nat.le_trans hs1 hb1.size;have HB2:=zh (HB1.out.trans hb1);clear h1 hb1;go_wp2_with fail
     rw[rounds_succ];go_wp2_with fail
     with_reducible refine (Bld.writeByte _ _ _ _ _ H2.out (by simp;omega) hs2).mono ?_
     rintro e w3 ⟨rfl,h1,hb1⟩;have H3:=zh h1;have hs3:bb≤w3.heap.size:=Nat.le_trans hs2 hb1.size;have HB3:=zh (HB2.out.trans hb1);clear h1 hb1;go_wp2_with fail
     rw[rounds_succ];go_wp2_with fail
     with_reducible refine (Bld.writeByte _ _ _ _ _ H3.out (by simp;omega) hs3).mono ?_
     rintro e w4 ⟨rfl,h1,hb1⟩;have H4:Hid (IB bb (Lib.byteCells (les ((sumW M l).take (i+1)))) w4):=zh (by rw[HS.out];simpa using h1);have hs4:bb≤w4.heap.size:=Nat.le_trans hs3 hb1.size;have HB4:=zh (HB3.out.trans hb1);clear h1 hb1;go_wp2_with fail
     rw[rounds_succ];go_wp2_with fail
     go_roundw
     case rel=>exact⟨i+1,by omega,by go_num,H4.out,HM.out.keep HB4.out (by omega),HX.out.keep HB4.out (by omega),HB.out.trans (HB4.out.mono (by omega)),hs4⟩
     case measure=>simp only[intOf];omega
    ·obtain rfl:i=16:=by omega
     rw[List.take_of_length_le (by omega)]at HI;go_wp2_with fail
     have CST:=zh (Tryz.Builder_String_any bb bb (les (sumW M l)) wr HI.out hsz);with_reducible refine CST.out.mono ?_
     rintro e w1 ⟨rfl,hb1⟩;have HB1:=zh (HB.out.trans (hb1.mono (by omega)));clear hb1;go_wp2_with fail
     go_ret
     exact⟨rfl,HB1.out⟩
theorem block_call(key nonce:ByteArray)(c:Nat)(w:World)(hk:key.size≤100000)(hn:nonce.size≤100000)(hc:c<4294967296) :
 Calls Tryz.prog 11 #[.string key,.string nonce,.int .u32 c] w fun e w'=>e=.returned (.string ⟨(blk key.data.toList nonce.data.toList c).toArray⟩)∧Below w.heap.size w w':=by
 have hI:(ini key.data.toList nonce.data.toList 0).length=16:=rfl;have hset:(ini key.data.toList nonce.data.toList 0).set 12 c=ini key.data.toList nonce.data.toList c:=rfl;have CW:=zh (fun W=>wordsOf_any key nonce W hk hn);have CA:=zh (fun W=>at_any (ini key.data.toList nonce.data.toList 0) c W hI hc);have CB:=zh (fun W=>block_any (ini key.data.toList nonce.data.toList c) W rfl (ini_32 _ _ _ hc));rw[hset]at CA;have hB:les (sumW (Se.rounds 10 (ini key.data.toList nonce.data.toList c)) (ini key.data.toList nonce.data.toList c))=blk key.data.toList nonce.data.toList c:=rfl;rw[hB]at CB;generalize blk key.data.toList nonce.data.toList c=R at CB ⊢;generalize wv (ini key.data.toList nonce.data.toList 0)=V0 at *;generalize wv (ini key.data.toList nonce.data.toList c)=V1 at *;clear hset hI hB;go_enter Tryz.func11,Tryz.ntmps11;go_wp2_with fail
 with_reducible refine (CW.out _).mono ?_
 rintro e1 w1 ⟨rfl,hb⟩;have HB1:=zh hb;clear hb;go_wp2_with fail
 with_reducible refine (CA.out _).mono ?_
 rintro e2 w2 ⟨rfl,hb⟩;have HB2:=zh (HB1.out.trans (hb.mono HB1.out.size));clear hb;go_wp2_with fail
 with_reducible refine (CB.out _).mono ?_
 rintro e3 w3 ⟨rfl,hb⟩;have HB3:=zh (HB2.out.trans (hb.mono HB2.out.size));clear hb;go_wp2_with fail
 go_ret
 exact⟨rfl,HB3.out⟩
end Go.Proofs.YtagbkmoahflfdaaGreatDoor.Se
